import PyProof.Rows.All
import Wide.All
import OpenK.AllK
import Wide.FinOn
import Lean
import PyProof.EqAt
import PyProof.EqKinds
import PyProof.TupleCall
import PySem.Challenge.RW_mixedscales_k52_whole_sums_spoilt_twice
set_option Elab.async false
set_option compiler.extract_closed false
set_option bootstrap.genMatcherCode false
set_option genSizeOfSpec false
set_option linter.all false
set_option maxRecDepth 100000
/-! THE HAND LAYER, for ints, bools, texts, own classes, LISTS and tuples (index, slices, in, append, pop ..), calls, loops. Paste it whole ahead of your own text; what your proof does not reach may be deleted. -/
namespace L2
open PySem PySem.Spec PyProof.Rows
noncomputable abbrev SV := Str → Option Value
noncomputable abbrev VSP := Value → Shared → Prop
noncomputable abbrev Key := Sum Int Str
noncomputable def keyIs : Key → Value → Bool
  | .inl k, v => Value.isInt k v
  | .inr x, v => Value.isStrOf x v
noncomputable def keyH (w : World) : Key → Int
  | .inl k => hashInt k
  | .inr x => hashStr w x
theorem keyIs_shape : ∀ {k : Key} {v : Value}, keyIs k v = true → (∃ i t, k = Sum.inl i ∧ v = Value.int i t) ∨ (∃ x t, k = Sum.inr x ∧ v = Value.str x t)
  | .inl i, v, h => by
    obtain ⟨t, e⟩ := Value.isInt_shape (k := i) (v := v) h
    exact .inl ⟨i, t, rfl, e⟩
  | .inr x, v, h => by
    obtain ⟨t, e⟩ := Value.isStrOf_shape (x := x) (v := v) h
    exact .inr ⟨x, t, rfl, e⟩
theorem key_ll (a b : Int) : decide ((Sum.inl a : Key) = Sum.inl b) = (a == b) := by
  by_cases e : a = b
  · subst e; simp
  · have h : ¬ (Sum.inl a : Key) = Sum.inl b := fun q => e (Sum.inl.inj q)
    rw [decide_eq_false h]
    exact (beq_eq_false_iff_ne.mpr e).symm
theorem key_rr (a b : Str) : decide ((Sum.inr a : Key) = Sum.inr b) = decide (a = b) := by
  by_cases e : a = b
  · subst e; simp
  · have h : ¬ (Sum.inr a : Key) = Sum.inr b := fun q => e (Sum.inr.inj q)
    rw [decide_eq_false h, decide_eq_false e]
theorem key_lr (a : Int) (b : Str) : decide ((Sum.inl a : Key) = Sum.inr b) = false := decide_eq_false (fun q => nomatch q)
theorem key_rl (a : Str) (b : Int) : decide ((Sum.inr a : Key) = Sum.inl b) = false := decide_eq_false (fun q => nomatch q)
noncomputable def mixKind (prog : Program) (w : World) : PySem.KeyKind prog w Key where
  is := keyIs
  hash := keyH w
  inj := fun v a b ha hb => by
    rcases keyIs_shape ha with ⟨i, t, rfl, rfl⟩ | ⟨x, t, rfl, rfl⟩
    · rcases keyIs_shape hb with ⟨j, u, rfl, e⟩ | ⟨y, u, rfl, e⟩
      · injection e with e1 _; rw [e1]
      · exact nomatch e
    · rcases keyIs_shape hb with ⟨j, u, rfl, e⟩ | ⟨y, u, rfl, e⟩
      · exact nomatch e
      · injection e with e1 _; rw [e1]
  byValue := fun k v h => by
    rcases keyIs_shape h with ⟨i, t, rfl, rfl⟩ | ⟨x, t, rfl, rfl⟩ <;> rfl
  pyHash := fun hv h => by
    rcases keyIs_shape hv with ⟨i, t, rfl, rfl⟩ | ⟨x, t, rfl, rfl⟩
    · exact wpAny_pyHash_int h
    · exact wpAny_pyHash_str h
  eqBool := fun hu hv h => by
    rcases keyIs_shape hu with ⟨i, t, rfl, rfl⟩ | ⟨x, t, rfl, rfl⟩
    · rcases keyIs_shape hv with ⟨j, u, rfl, rfl⟩ | ⟨y, u, rfl, rfl⟩
      · rw [key_ll] at h; exact wpAny_eqBool_int h
      · rw [key_lr] at h; exact SeqAt.EqAt.int_str i t y u _ _ _ _ h
    · rcases keyIs_shape hv with ⟨j, u, rfl, rfl⟩ | ⟨y, u, rfl, rfl⟩
      · rw [key_rl] at h; exact SeqAt.EqAt.str_int x t j u _ _ _ _ h
      · rw [key_rr] at h; exact wpAny_eqBool_str h
  «strs» := fun k x t v h => by
    rcases keyIs_shape h with ⟨i, u, rfl, e⟩ | ⟨y, u, rfl, e⟩
    · exact nomatch e
    · injection e with e1 _
      subst e1
      cases v <;> rfl
inductive V where
  | non | bl (b : Bool) | int (i : Int) | str (x : Str) | byt (b : Array UInt8) | flt (b : UInt64) | ref (a : Addr) | ty (n : String)
  deriving DecidableEq
noncomputable def RelV : V → Value → Prop
  | .non, u => u = Value.none
  | .bl b, u => u = Value.bool b
  | .int i, u => ∃ t, u = Value.int i t
  | .str x, u => ∃ t, u = Value.str x t
  | .byt b, u => ∃ t, u = Value.bytes b t
  | .flt b, u => ∃ t, u = Value.float b t
  | .ref a, u => u = Value.ref a
  | .ty n, u => u = Value.type n
noncomputable abbrev Vals : List V → List Value → Prop := Paired RelV
theorem Vals.length {xs : List V} {us : List Value} (r : Vals xs us) : xs.length = us.length := Paired.length r
theorem Vals.get : ∀ {xs : List V} {us : List Value} {i : Nat} {x : V}, Vals xs us → xs[i]? = some x → ∃ u, us[i]? = some u ∧ RelV x u
  | _, _, _, _, .nil, e => by simp at e
  | _, _, 0, _, .cons r _, e => by simp at e; subst e; exact ⟨_, rfl, r⟩
  | _, _, i + 1, x, .cons _ t, e => by
    obtain ⟨u, h1, h2⟩ := Vals.get (i := i) (x := x) t (by simpa using e)
    exact ⟨u, by simpa using h1, h2⟩
theorem Vals.set {x : V} {u : Value} (r : RelV x u) : ∀ {xs : List V} {us : List Value} (i : Nat), Vals xs us → Vals (xs.set i x) (us.set i u)
  | _, _, _, .nil => .nil
  | _, _, 0, .cons _ t => .cons r t
  | _, _, i + 1, .cons q t => .cons q (Vals.set r i t)
theorem Vals.append : ∀ {xs ys : List V} {us ws : List Value}, Vals xs us → Vals ys ws → Vals (xs ++ ys) (us ++ ws)
  | _, _, _, _, .nil, s => s
  | _, _, _, _, .cons r t, s => .cons r (Vals.append t s)
theorem Vals.take : ∀ {xs : List V} {us : List Value} (n : Nat), Vals xs us → Vals (xs.take n) (us.take n)
  | _, _, 0, _ => .nil
  | _, _, _ + 1, .nil => .nil
  | _, _, n + 1, .cons r t => .cons r (Vals.take n t)
theorem Vals.drop : ∀ {xs : List V} {us : List Value} (n : Nat), Vals xs us → Vals (xs.drop n) (us.drop n)
  | _, _, 0, r => r
  | _, _, _ + 1, .nil => .nil
  | _, _, n + 1, .cons _ t => Vals.drop n t
noncomputable def RelO : Option V → Option Value → Prop
  | some v, some u => RelV v u
  | none, none => True
  | _, _ => False
noncomputable def KV {κ : Type} : List (κ × V) → List (κ × Value) → Prop := Paired fun (p : κ × V) (q : κ × Value) => p.1 = q.1 ∧ RelV p.2 q.2
noncomputable def kV : Key → V
  | .inl i => .int i
  | .inr x => .str x
inductive HO where
  | lst (xs : List V)
  | tup (xs : List V)
  | dK (kvs : List (Key × V)) | dT (kvs : List (List Key × V))
  | set (S : Int → Bool) (n : Nat)
  | ins (C dx : Addr) (fs : List (Str × V))
  | own (x : Addr)
  | xd (fs : List (Str × V))
  | met (f x : Addr)
  | rng (lo hi : Int)
  | frz (o : Obj) (u : HO)
  | tbl (ps : Array Value)
  | ext (φ : Heap → Prop)
noncomputable abbrev Hp := Addr → Option HO
noncomputable def upd (H : Hp) (a : Addr) (o : HO) : Hp := fun b => if b = a then some o else H b
theorem upd_same {H : Hp} {a : Addr} {o : HO} : upd H a o a = some o := by unfold upd; rw [if_pos rfl]
theorem upd_ne {H : Hp} {a b : Addr} {o : HO} (h : b ≠ a) : upd H a o b = H b := by unfold upd; rw [if_neg h]
theorem ne_of {H : Hp} {a b : Addr} {o u : HO} (h : H a = some o) (h' : H b = some u) (d : o ≠ u) : a ≠ b := by
  intro e; subst e; rw [h] at h'; exact d (Option.some.inj h')
theorem ne_of_none {H : Hp} {a b : Addr} {o : HO} (h : H a = some o) (h' : H b = none) : a ≠ b := by
  intro e; subst e; rw [h] at h'; cases h'
section
variable (P : Program) (w : World)
noncomputable def ObjOk (H : Hp) (h : Heap) (a : Addr) : HO → Prop
  | .lst xs => xs.length ≤ sizeLine ∧ ∃ (its : List Value) (n : Nat), Vals xs its ∧ h.get? a = some { cls := .type "list", data := .seq its.toArray n }
  | .tup xs => xs.length ≤ sizeLine ∧ ∃ its : List Value, Vals xs its ∧ IsTup h a its.toArray
  | .dK kvs => kvs.length ≤ sizeLine ∧ (a == sysModules) = false ∧ ∃ vs, KV kvs vs ∧ h.DictOf (mixKind P w) a vs
  | .dT kvs => kvs.length ≤ sizeLine ∧ (a == sysModules) = false ∧ ∃ xs : List (List Key × Addr × Value),
      Paired (fun (p : List Key × V) (q : List Key × Addr × Value) => p.1 = q.1 ∧ H q.2.1 = some (.tup (p.1.map kV)) ∧ RelV p.2 q.2.2) kvs xs ∧
      ∃ o es ep, h.get? a = some o ∧ o.ExactDict ∧ o.data = .dict es ep ∧ es.toList = xs.map (entryOfKey (tupleKind (mixKind P w))) ∧ (xs.map (·.1)).Nodup
  | .set S n => h.SetOf (intKind P w) a S n
  | .ins C dx fs => H dx = some (.own a) ∧ fs.length ≤ 1000 ∧ dx ≠ a ∧ h.get? a = some (PySem.W.instObj C dx) ∧
      ∃ mA, h.Ns1 dx mA ∧ (∀ f, RelO (fs.lookup f) (mA f)) ∧ PySem.Within mA (fs.map (·.1))
  | .own _ => ∃ o, h.get? a = some o
  | .xd fs => ∃ mA, h.Ns1 a mA ∧ ∀ f, RelO (fs.lookup f) (mA f)
  | .rng lo hi => ∃ t u v, h.get? a = some { cls := .type "range", data := .fields #[.int lo t, .int hi u, .int 1 v] }
  | .frz o u => h.get? a = some o ∧ ObjOk H h a u
  | .tbl ps => h.get? a = some { cls := .none, data := .fields ps }
  | .met f x => h.get? a = some (PySem.W.methodObj (.ref f) (.ref x))
  | .ext φ => φ h ∧ (∃ o, h.get? a = some o) ∧ ∀ h1 h2 : Heap, φ h1 → (∀ o, h1.get? a = some o → h2.get? a = some o) → φ h2
noncomputable def HOk (H : Hp) (h : Heap) : Prop := ∀ a o, H a = some o → ObjOk P w H h a o
end
section
variable {P : Program} {w : World} {H H' : Hp} {h h' : Heap} {a : Addr} {o : HO}
theorem ObjOk.lt (x : ObjOk P w H h a o) : a < h.objs.size := by
  cases o with
  | lst xs => obtain ⟨_, _, _, _, e⟩ := x; exact Heap.lt_size e
  | tup xs => obtain ⟨_, _, _, p⟩ := x; exact p.lt
  | dK kvs => obtain ⟨_, _, _, _, o, _, _, e, _⟩ := x; exact Heap.lt_size e
  | dT kvs => obtain ⟨_, _, _, _, o, _, _, e, _⟩ := x; exact Heap.lt_size e
  | set S n => obtain ⟨o, _, _, _, e, _⟩ := x; exact Heap.lt_size e
  | ins C dx fs => obtain ⟨_, _, _, e, _⟩ := x; exact Heap.lt_size e
  | own y => obtain ⟨_, e⟩ := x; exact Heap.lt_size e
  | xd fs => obtain ⟨_, ⟨_, _, _, e, _⟩, _⟩ := x; exact Heap.lt_size e
  | rng lo hi => obtain ⟨_, _, _, e⟩ := x; exact Heap.lt_size e
  | frz ob u => obtain ⟨e, _⟩ := x; exact Heap.lt_size e
  | tbl ps => exact Heap.lt_size (show h.get? a = some _ from x)
  | met f y => exact Heap.lt_size (show h.get? a = some _ from x)
  | ext φ => obtain ⟨_, ⟨_, e⟩, _⟩ := x; exact Heap.lt_size e
theorem Paired.mapP {α β : Type} {F G : α → β → Prop} : ∀ {l₁ : List α} {l₂ : List β}, Paired F l₁ l₂ → (∀ a b, F a b → G a b) → Paired G l₁ l₂
  | _, _, .nil, _ => .nil
  | _, _, .cons r t, f => .cons (f _ _ r) (Paired.mapP t f)
theorem ObjOk.stay (x : ObjOk P w H h a o) (k : ∀ b u, (b = a ∨ H b = some (.own a)) → h.get? b = some u → h'.get? b = some u)
    (ho : ∀ b, H b = some (.own a) → H' b = some (.own a)) (ht : ∀ b xs, H b = some (.tup xs) → H' b = some (.tup xs)) : ObjOk P w H' h' a o := by
  induction o with
  | lst xs => obtain ⟨z, its, n, r, e⟩ := x; exact ⟨z, its, n, r, k _ _ (.inl rfl) e⟩
  | tup xs => obtain ⟨z, its, r, ob, e, c⟩ := x; exact ⟨z, its, r, ob, k _ _ (.inl rfl) e, c⟩
  | dK kvs => obtain ⟨z, y, vs, r, ob, es, ep, e, c⟩ := x; exact ⟨z, y, vs, r, ob, es, ep, k _ _ (.inl rfl) e, c⟩
  | dT kvs =>
    obtain ⟨z, y, xs, r, ob, es, ep, e, c⟩ := x
    exact ⟨z, y, xs, Paired.mapP r fun p q z => ⟨z.1, ht _ _ z.2.1, z.2.2⟩, ob, es, ep, k _ _ (.inl rfl) e, c⟩
  | set S n => obtain ⟨ob, es, ep, t, e, c⟩ := x; exact ⟨ob, es, ep, t, k _ _ (.inl rfl) e, c⟩
  | ins C dx fs =>
    obtain ⟨d, z, ne, e, mA, ⟨od, es, ep, e2, c⟩, r⟩ := x
    exact ⟨ho _ d, z, ne, k _ _ (.inl rfl) e, mA, ⟨od, es, ep, k _ _ (.inr d) e2, c⟩, r⟩
  | own y => obtain ⟨ob, e⟩ := x; exact ⟨ob, k _ _ (.inl rfl) e⟩
  | xd fs => obtain ⟨mA, ⟨od, es, ep, e, c⟩, r⟩ := x; exact ⟨mA, ⟨od, es, ep, k _ _ (.inl rfl) e, c⟩, r⟩
  | rng lo hi => obtain ⟨t, u, v, e⟩ := x; exact ⟨t, u, v, k _ _ (.inl rfl) e⟩
  | frz ob u ih => obtain ⟨e, q⟩ := x; exact ⟨k _ _ (.inl rfl) e, ih q⟩
  | tbl ps =>
    have e : h.get? a = some { cls := .none, data := .fields ps } := x
    show h'.get? a = some { cls := .none, data := .fields ps }
    exact k a _ (.inl rfl) e
  | met f y =>
    have e : h.get? a = some (PySem.W.methodObj (.ref f) (.ref y)) := x
    show h'.get? a = some (PySem.W.methodObj (.ref f) (.ref y))
    exact k a _ (.inl rfl) e
  | ext φ => obtain ⟨p, ⟨o, e⟩, st⟩ := x; exact ⟨st _ _ p fun o q => k _ _ (.inl rfl) q, ⟨o, k _ _ (.inl rfl) e⟩, st⟩
theorem HOk.lt (x : HOk P w H h) (e : H a = some o) : a < h.objs.size := (x a o e).lt
theorem HOk.fresh (x : HOk P w H h) (e : h.objs.size ≤ a) : H a = none := by
  cases q : H a with
  | none => rfl
  | some u => exact absurd (Nat.lt_of_lt_of_le (x.lt q) e) (Nat.lt_irrefl _)
theorem HOk.kept (x : HOk P w H h) (k : ∀ b u, h.get? b = some u → h'.get? b = some u) : HOk P w H h' := fun a o e =>
  (x a o e).stay (fun b u ψ q => k b u q) (fun ψ q => q) fun ψ ψ q => q
theorem HOk.laid (x : HOk P w H h) (k : ∀ b u, h.get? b = some u → h'.get? b = some u) (hp : h.objs.size ≤ a) (new : ObjOk P w (upd H a o) h' a o) : HOk P w (upd H a o) h' := fun b u e => by
  have hn := x.fresh hp
  by_cases hb : b = a
  · subst hb; rw [upd_same] at e; cases e; exact new
  · rw [upd_ne hb] at e
    exact (x b u e).stay (fun c v ψ q => k c v q) (fun c q => by rw [upd_ne (ne_of_none q hn)]; exact q) fun c xs q => by rw [upd_ne (ne_of_none q hn)]; exact q
end
noncomputable def Rd (H : Hp) (a : Addr) (u : HO) : Prop := H a = some u ∨ ∃ o, H a = some (.frz o u)
theorem Rd.of {H : Hp} {a : Addr} {u : HO} (h : H a = some u) : Rd H a u := .inl h
theorem Rd.ok {P : Program} {w : World} {H : Hp} {h : Heap} {a : Addr} {u : HO} (r : Rd H a u) (x : HOk P w H h) : ObjOk P w H h a u := by
  rcases r with r | ⟨o, r⟩
  · exact x a u r
  · obtain ⟨_, q⟩ := x a _ r
    exact q
noncomputable def Mut : Option HO → Prop
  | some (.lst _) => True
  | some (.dK _) => True
  | some (.dT _) => True
  | some (.set _ _) => True
  | some (.ins _ _ _) => True
  | some (.ext _) => True
  | _ => False
section
variable {P : Program} {w : World} {H : Hp} {h h' : Heap} {x e : Addr} {o' : HO}
theorem HOk.write (ok : HOk P w H h) (mu : Mut (H x)) (he : e = x ∨ H e = some (.own x)) (k : ∀ b u, b ≠ e → h.get? b = some u → h'.get? b = some u) (heo : ∃ u, h'.get? e = some u)
    (new : ObjOk P w (upd H x o') h' x o') : HOk P w (upd H x o') h' := fun b u q => by
  have nown : ∀ c y, H c = some (.own y) → c ≠ x := fun c y r z => by subst z; rw [r] at mu; exact mu
  have ntup : ∀ c xs, H c = some (.tup xs) → c ≠ x := fun c xs r z => by subst z; rw [r] at mu; exact mu
  by_cases hb : b = x
  · subst hb; rw [upd_same] at q; cases q; exact new
  · rw [upd_ne hb] at q
    by_cases hbe : b = e
    · have q' : H b = some (.own x) := by
        rcases he with z | z
        · exact absurd (hbe.trans z) hb
        · rw [hbe]; exact z
      rw [q] at q'; cases q'
      obtain ⟨v, hv⟩ := heo
      exact ⟨v, by rw [hbe]; exact hv⟩
    · refine (ok b u q).stay (fun c v hc r => k c v ?_ r) (fun c r => by rw [upd_ne (nown c b r)]; exact r) fun c xs r => by rw [upd_ne (ntup c xs r)]; exact r
      rcases hc with rfl | hc
      · exact hbe
      · rintro rfl
        rcases he with z | z
        · exact nown c b hc z
        · rw [hc] at z; cases z; exact hb rfl
end
structure Un (fs ex : List Addr) (H H' : Hp) (h h' : Heap) : Prop where
  keep : ∀ b o, h.get? b = some o → H b = none → b ∉ fs → b ∉ ex → h'.get? b = some o
  slot : ∀ b o, h.get? b = some o → H b = none → b ∈ fs → b ∉ ex → ∃ sl, h'.get? b = some { o with slots := sl }
  free : ∀ b o, h.get? b = some o → H b = none → b ∉ ex → H' b = none
  there : ∀ b o, h.get? b = some o → b ∉ ex → ∃ o', h'.get? b = some o'
  tups : ∀ b xs, H b = some (.tup xs) → H' b = some (.tup xs)
  frzs : ∀ b o u, H b = some (.frz o u) → H' b = some (.frz o u)
  tbls : ∀ b ps, H b = some (.tbl ps) → ∃ more, H' b = some (.tbl (ps ++ more))
section
variable {fs fs' ex ex' : List Addr} {H H1 H2 : Hp} {h h1 h2 h' : Heap} {a x e : Addr} {o : HO}
theorem Un.any (u : Un fs ex H H1 h h1) {b : Addr} {ob : Obj} (q : h.get? b = some ob) (n : H b = none) (hx : b ∉ ex) : ∃ sl, h1.get? b = some { ob with slots := sl } := by
  by_cases hb : b ∈ fs
  · exact u.slot b ob q n hb hx
  · exact ⟨ob.slots, u.keep b ob q n hb hx⟩
theorem Un.trans (a : Un fs ex H H1 h h1) (b : Un fs ex H1 H2 h1 h2) : Un fs ex H H2 h h2 where
  keep := fun c ob q n hc hx => b.keep c ob (a.keep c ob q n hc hx) (a.free c ob q n hx) hc hx
  slot := fun c ob q n hc hx => by
    obtain ⟨sl, e1⟩ := a.slot c ob q n hc hx
    obtain ⟨sl', e2⟩ := b.slot c _ e1 (a.free c ob q n hx) hc hx
    exact ⟨sl', e2⟩
  free := fun c ob q n hx => by
    obtain ⟨o', e1⟩ := a.there c ob q hx
    exact b.free c o' e1 (a.free c ob q n hx) hx
  there := fun c ob q hx => by
    obtain ⟨o', e1⟩ := a.there c ob q hx
    exact b.there c o' e1 hx
  tups := fun c xs q => b.tups c xs (a.tups c xs q)
  frzs := fun c ob xs q => b.frzs c ob xs (a.frzs c ob xs q)
  tbls := fun c ps q => by
    obtain ⟨m1, e1⟩ := a.tbls c ps q
    obtain ⟨m2, e2⟩ := b.tbls c _ e1
    exact ⟨m1 ++ m2, by rw [e2, Array.append_assoc]⟩
theorem Un.kept (k : ∀ b u, h.get? b = some u → h'.get? b = some u) : Un fs ex H H h h' :=
  ⟨fun b ob q ψ ψ ψ => k b ob q, fun b ob q ψ ψ ψ => ⟨ob.slots, k b ob q⟩, fun ψ ψ ψ n ψ => n, fun b ob q ψ => ⟨ob, k b ob q⟩, fun ψ ψ q => q, fun ψ ψ ψ q => q, fun ψ ps q => ⟨#[], by rw [q]; simp⟩⟩
theorem Un.refl : Un fs ex H H h h := Un.kept fun ψ ψ q => q
theorem Un.laid (k : ∀ b u, h.get? b = some u → h'.get? b = some u) (hp : h.objs.size ≤ a) (hn : H a = none) : Un fs ex H (upd H a o) h h' where
  keep := fun b u q ψ ψ ψ => k b u q
  slot := fun b u q ψ ψ ψ => ⟨u.slots, k b u q⟩
  free := fun b u q n ψ => by rw [upd_ne (Nat.ne_of_lt (Nat.lt_of_lt_of_le (Heap.lt_size q) hp))]; exact n
  there := fun b u q ψ => ⟨u, k b u q⟩
  tups := fun b xs q => by rw [upd_ne (ne_of_none q hn)]; exact q
  frzs := fun b u xs q => by rw [upd_ne (ne_of_none q hn)]; exact q
  tbls := fun b ps q => ⟨#[], by rw [upd_ne (ne_of_none q hn), q]; simp⟩
theorem Un.write (mu : Mut (H x)) (he : e = x ∨ H e = some (.own x)) (k : ∀ b u, b ≠ e → h.get? b = some u → h'.get? b = some u) (heo : ∃ u, h'.get? e = some u) : Un fs ex H (upd H x o) h h' := by
  have hx : ∀ b, H b = none → b ≠ x := fun b n z => by subst z; rw [n] at mu; exact mu
  have hb : ∀ b, H b = none → b ≠ e := fun b n z => by
    subst z
    rcases he with r | r
    · exact hx b n r
    · rw [n] at r; cases r
  have hm : ∀ b u, H b = some u → ¬ Mut (some u) → b ≠ x := fun b u q nm z => by subst z; rw [q] at mu; exact nm mu
  refine ⟨fun b u q n ψ ψ => k b u (hb b n) q, fun b u q n ψ ψ => ⟨u.slots, k b u (hb b n) q⟩, fun b u q n ψ => by rw [upd_ne (hx b n)]; exact n, fun b u q ψ => ?_,
    fun b xs q => by rw [upd_ne (hm b _ q fun z => z)]; exact q, fun b u xs q => by rw [upd_ne (hm b _ q fun z => z)]; exact q, fun b ps q => ⟨#[], by rw [upd_ne (hm b _ q fun z => z), q]; simp⟩⟩
  by_cases hbe : b = e
  · subst hbe; exact heo
  · exact ⟨u, k b u hbe q⟩
theorem Un.mono (u : Un fs ex H H1 h h1) (hs : ∀ b ∈ fs, b ∈ fs') (hx : ∀ b ∈ ex, b ∈ ex') : Un fs' ex' H H1 h h1 :=
  ⟨fun b ob q n hb he => u.keep b ob q n (fun z => hb (hs b z)) fun z => he (hx b z), fun ψ ψ q n ψ he => u.any q n fun z => he (hx _ z), fun b ob q n he => u.free b ob q n fun z => he (hx b z), fun b ob q he => u.there b ob q fun z => he (hx b z), u.tups, u.frzs, u.tbls⟩
end
noncomputable def trk (h : Heap) (H : Hp) : List Addr := (List.range h.objs.size).filter fun a => (H a).isSome
noncomputable def hidT (h : Heap) (H : Hp) : Heap := PySem.W.hideAll h (trk h H)
theorem hidT_size (h : Heap) (H : Hp) : (hidT h H).objs.size = h.objs.size := PySem.W.hideAll_size _ _
theorem hidT_get {h : Heap} {H : Hp} {b : Addr} {o : Obj} (e : h.get? b = some o) (n : H b = none) : (hidT h H).get? b = some o :=
  PySem.W.hideAll_get _ e fun hm => by
    have q : (H b).isSome = true := (List.mem_filter.mp hm).2
    rw [n] at q; simp at q
theorem of_hidT {h : Heap} {H : Hp} {b : Addr} {o : Obj} (e : (hidT h H).get? b = some o) : h.get? b = some o ∧ H b = none := by
  have e' : h.get? b = some o := PySem.W.of_hideAll (trk h H) e
  refine ⟨e', ?_⟩
  cases q : H b with
  | none => rfl
  | some x =>
    have hm : b ∈ trk h H := List.mem_filter.mpr ⟨List.mem_range.mpr (Heap.lt_size e'), by simp [q]⟩
    have z : (hidT h H).get? b = none := PySem.W.hideAll_none (trk h H) hm
    rw [z] at e; cases e
noncomputable def allNews (g h : Heap) (L : Addr) : List (Addr × Obj) := (List.range h.objs.size).filterMap fun a => if a = L ∨ (g.get? a).isSome = true then none else (h.get? a).map fun o => (a, o)
noncomputable def rest (g h : Heap) (L d : Addr) : List (Addr × Obj) := (allNews g h L).filter fun p => decide (p.1 ≠ d)
structure Mod (K : PySem.W.Frag) (mg : L2.SV) (base : Heap) : Prop where
  kin : K.In base
  glob : base.Ns mainGlobals mg
  blt : ∃ mb, base.Ns builtinsNs mb ∧ ∀ x : Str, x ≠ "__name__" → mb x = bootBuiltins x
  nolimit : base.NoLimit
structure Cx where
  prog : Program
  w : World
  K : PySem.W.Frag
  mg : Str → Option Value
  base : Heap
  A : Around
  N : List Str
  s₀ : Shared
  H₀ : Hp
  env : Env
  outer : List Env
  stack : List Env
  ex : List Addr
  fn : Str → Bool
  calm : Bool
  pn : List (Addr × Obj)
  xe : Value → Shared → Prop
noncomputable def frs (l : List Env) : List Addr := l.filterMap (·.frame)
noncomputable abbrev Cx.fs (X : Cx) : List Addr := frs X.outer
noncomputable def Vis (sc : Scope) (x : Str) : Prop := sc.names.lookup x = some .local ∨ sc.names.lookup x = some .cell ∨ sc.names.lookup x = some .free
noncomputable def Loc (sc : Scope) (x : Str) : Prop := sc.names.lookup x = some .local ∨ sc.names.lookup x = some .cell
noncomputable def Look (env : Env) (h : Heap) (m : L2.SV) (x : Str) (u : Value) : Prop :=
  (env.kindOf x = some .local ∧ m x = some u) ∨ ((env.kindOf x = some .cell ∨ env.kindOf x = some .free) ∧ ∃ c, env.cells.lookup x = some c ∧ h.IsCell c (some u))
structure Cx.Ok (X : Cx) : Prop where
  mod : Mod X.K X.mg X.base
  kind : X.env.scope.kind = .function
  glob : X.env.globals = mainGlobals
  blt : X.env.builtins = builtinsNs
  above : X.s₀.heap.objs.size ≤ X.env.locals
  inj : ∀ x y c, X.env.cells.lookup x = some c → X.env.cells.lookup y = some c → x = y
  has : ∀ x, (X.env.kindOf x = some .cell ∨ X.env.kindOf x = some .free) → ∃ c, X.env.cells.lookup x = some c
  cab : ∀ x c, X.fn x = true → X.env.cells.lookup x = some c → X.s₀.heap.objs.size ≤ c
  hd : X.calm = true → X.A.handled = none
  frames : X.A.frames = some X.stack
  stk : X.stack = X.outer ∨ (X.stack = X.env :: X.outer ∧ X.env.frame = some X.env.locals)
  exf : ∀ b ∈ X.ex, b ≠ X.env.locals ∧ ∀ x c, X.env.cells.lookup x = some c → c ≠ b
  bs : ∀ b o, X.base.get? b = some o → X.s₀.heap.get? b = some o ∧ X.H₀ b = none
  bsz : X.base.objs.size ≤ X.s₀.heap.objs.size
  noex : ∀ b o, X.base.get? b = some o → b ∉ X.ex
  exfs : ∀ b ∈ X.ex, b ∉ X.fs
  funs : X.s₀.heap.FunFrames X.base X.outer
  frf : ∀ b ∈ X.fs, X.H₀ b = none
structure Inv (X : Cx) (pins : List (Addr × Obj)) (σ : List (Option V)) (H : Hp) (s : Shared) : Prop where
  ok : X.Ok
  os : s.os = X.s₀.os
  bare : AllBare s.gens
  base : Un X.fs X.ex X.H₀ H X.s₀.heap s.heap
  loc : ∃ m, s.heap.Ns X.env.locals m ∧ ∀ (i : Nat) (x : Str) (v : V), X.N[i]? = some x → σ[i]? = some (some v) → Vis X.env.scope x → ∃ u, RelV v u ∧ Look X.env s.heap m x u
  cell : ∀ x c, X.env.cells.lookup x = some c → ∃ v, s.heap.IsCell c v
  free : H X.env.locals = none
  freeC : ∀ x c, X.env.cells.lookup x = some c → H c = none
  pin : ∀ p ∈ X.pn ++ pins, s.heap.get? p.1 = some p.2 ∧ H p.1 = none ∧ p.1 ≠ X.env.locals ∧ p.1 ∉ X.fs ∧ ∀ v, p.2.data ≠ .cell v
  hok : HOk X.prog X.w H s.heap
  len : σ.length = X.N.length
section
variable {X : Cx} {pins : List (Addr × Obj)} {σ : List (Option V)} {H H' : Hp} {s : Shared} {h' : Heap}
theorem Cx.Ok.nofr (ok : X.Ok) {b : Addr} {o : Obj} (e : X.base.get? b = some o) : b ∉ X.fs := fun hb => by
  have := (ok.funs.mem hb).1
  rw [e] at this; cases this
theorem Inv.bs (I : Inv X pins σ H s) : ∀ b o, X.base.get? b = some o → s.heap.get? b = some o ∧ H b = none := fun b o e =>
  ⟨I.base.keep b o (I.ok.bs b o e).1 (I.ok.bs b o e).2 (I.ok.nofr e) (I.ok.noex b o e), I.base.free b o (I.ok.bs b o e).1 (I.ok.bs b o e).2 (I.ok.noex b o e)⟩
theorem Inv.bk (I : Inv X pins σ H s) : ∀ b o, X.base.get? b = some o → s.heap.get? b = some o := fun b o e => (I.bs b o e).1
theorem Inv.mod (I : Inv X pins σ H s) : Mod X.K X.mg X.base := I.ok.mod
theorem Inv.kIn (I : Inv X pins σ H s) : X.K.In s.heap := I.ok.mod.kin.keeps I.bk
theorem Inv.nolimit (I : Inv X pins σ H s) : s.heap.NoLimit := I.ok.mod.nolimit.keeps I.bk
theorem Inv.fr (I : Inv X pins σ H s) : ∃ m, Fr X.base X.env.locals s.heap m :=
  let ⟨m, hn, _⟩ := I.loc
  ⟨m, hn, I.bk, Nat.le_trans I.ok.bsz I.ok.above⟩
theorem Inv.lt (I : Inv X pins σ H s) : X.env.locals < s.heap.objs.size := let ⟨_, hn, _⟩ := I.loc; hn.lt
theorem Inv.sz (I : Inv X pins σ H s) : X.s₀.heap.objs.size ≤ s.heap.objs.size := Nat.le_trans I.ok.above (Nat.le_of_lt I.lt)
theorem Inv.nofs (I : Inv X pins σ H s) {a : Addr} (h : s.heap.objs.size ≤ a) : a ∉ X.fs := fun hb => by
  obtain ⟨_, o, ho, _⟩ := I.ok.funs.mem hb
  exact absurd (Nat.lt_of_lt_of_le (Heap.lt_size ho) (Nat.le_trans I.sz h)) (Nat.lt_irrefl _)
theorem Inv.cne (I : Inv X pins σ H s) : ∀ x c, X.env.cells.lookup x = some c → c ≠ X.env.locals := fun x c e z => by
  obtain ⟨v, o, ho, hd⟩ := I.cell x c e
  obtain ⟨m, ⟨o', es, ep, ho', hd', _⟩, _⟩ := I.loc
  rw [z, ho'] at ho; cases ho; rw [hd'] at hd; cases hd
theorem Inv.funs (I : Inv X pins σ H s) : s.heap.FunFrames X.base X.outer := by
  have all : ∀ (l : List Env), (∀ b ∈ frs l, b ∈ X.fs) → X.s₀.heap.FunFrames X.base l → s.heap.FunFrames X.base l := by
    intro l
    induction l with
    | nil => intro ψ ψ; trivial
    | cons env r ih =>
      intro hs hl
      obtain ⟨hk, ⟨L, o, hf, hn, ho, hd⟩, hr⟩ := hl
      have hL : L ∈ X.fs := hs L (by unfold frs; rw [List.filterMap_cons, hf]; exact List.mem_cons_self)
      obtain ⟨sl, e⟩ := I.base.slot L o ho (I.ok.frf L hL) hL fun z => I.ok.exfs L z hL
      exact ⟨hk, ⟨L, _, hf, hn, e, hd⟩, ih (fun b hb => hs b (by unfold frs; rw [List.filterMap_cons, hf]; exact List.mem_cons_of_mem _ hb)) hr⟩
  exact all X.outer (fun ψ hb => hb) I.ok.funs
theorem Inv.stack (I : Inv X pins σ H s) : s.heap.FunFrames X.base X.stack := by
  rcases I.ok.stk with e | ⟨e, hf⟩
  · rw [e]; exact I.funs
  · rw [e]
    obtain ⟨m, hn, _⟩ := I.loc
    refine .cons (by rw [I.ok.kind]; decide) hf hn ?_ I.funs
    exact Heap.get?_none_of_le (Nat.le_trans I.ok.bsz I.ok.above)
theorem Inv.stkSub (I : Inv X pins σ H s) : ∀ b ∈ frs X.stack, b ∈ X.env.locals :: X.fs := fun b hb => by
  rcases I.ok.stk with e | ⟨e, hf⟩
  · rw [e] at hb; exact List.mem_cons_of_mem _ hb
  · rw [e] at hb
    unfold frs at hb
    rw [List.filterMap_cons, hf] at hb
    exact hb
theorem Inv.stkFree (I : Inv X pins σ H s) : ∀ b ∈ frs X.stack, H b = none := fun b hb => by
  rcases List.mem_cons.mp (I.stkSub b hb) with e | hb
  · rw [e]; exact I.free
  · obtain ⟨_, o, ho, _⟩ := I.ok.funs.mem hb
    exact I.base.free b o ho (I.ok.frf b hb) fun z => I.ok.exfs b z hb
theorem Inv.step {g' : Array GenState} {t' : Nat} {d' : Drawn} {ch : List Addr} (I : Inv X pins σ H s)
    (hch : ∀ b ∈ ch, (b ∈ X.ex ∨ X.s₀.heap.objs.size ≤ b) ∧ b ≠ X.env.locals ∧ (∀ x c, X.env.cells.lookup x = some c → c ≠ b) ∧ ∀ p ∈ X.pn ++ pins, p.1 ≠ b)
    (keep : ∀ b o, b ≠ X.env.locals → b ∉ X.fs → b ∉ ch → s.heap.get? b = some o → H b = none → h'.get? b = some o)
    (slot : ∀ b o, b ≠ X.env.locals → b ∈ X.fs → b ∉ ch → s.heap.get? b = some o → H b = none → ∃ sl, h'.get? b = some { o with slots := sl }) (free : ∀ b o, b ∉ ch → s.heap.get? b = some o → H b = none → H' b = none)
    (there : ∀ b o, b ∉ ch → s.heap.get? b = some o → ∃ o', h'.get? b = some o')
    (tups : ∀ b xs, H b = some (.tup xs) → H' b = some (.tup xs)) (frzs : ∀ b o u, H b = some (.frz o u) → H' b = some (.frz o u)) (tbls : ∀ b ps, H b = some (.tbl ps) → ∃ more, H' b = some (.tbl (ps ++ more)))
    (ns : ∀ m, s.heap.Ns X.env.locals m → h'.Ns X.env.locals m) (hok : HOk X.prog X.w H' h') (hg : AllBare g') :
    Inv X pins σ H' { s with heap := h', gens := g', drawn := d', toks := t' } := by
  have neL : ∀ b o, X.s₀.heap.get? b = some o → b ≠ X.env.locals := fun b o e => Nat.ne_of_lt (Nat.lt_of_lt_of_le (Heap.lt_size e) I.ok.above)
  have neC : ∀ b o, X.s₀.heap.get? b = some o → b ∉ X.ex → b ∉ ch := fun b o e hx hb => by
    rcases (hch b hb).1 with z | z
    · exact hx z
    · exact absurd (Nat.lt_of_lt_of_le (Heap.lt_size e) z) (Nat.lt_irrefl _)
  have cellK : ∀ x c, X.env.cells.lookup x = some c → ∀ v, s.heap.IsCell c v → h'.IsCell c v := fun x c e v ⟨o, ho, hd⟩ => by
    have nch : c ∉ ch := fun z => (hch c z).2.2.1 x c e rfl
    by_cases hc : c ∈ X.fs
    · obtain ⟨sl, q⟩ := slot c o (I.cne x c e) hc nch ho (I.freeC x c e)
      exact ⟨_, q, hd⟩
    · exact ⟨o, keep c o (I.cne x c e) hc nch ho (I.freeC x c e), hd⟩
  refine ⟨I.ok, I.os, hg, ⟨fun b o e n hb hx => ?_, fun b o e n hb hx => ?_, fun b o e n hx => ?_, fun b o e hx => ?_, fun b xs e => tups b xs (I.base.tups b xs e), fun b o xs e => frzs b o xs (I.base.frzs b o xs e), fun b ps e => ?_⟩, ?_, fun x c e => ?_, ?_, fun x c e => ?_, fun p hp => ?_, hok, I.len⟩
  · exact keep b o (neL b o e) hb (neC b o e hx) (I.base.keep b o e n hb hx) (I.base.free b o e n hx)
  · obtain ⟨sl, e1⟩ := I.base.slot b o e n hb hx
    obtain ⟨sl', e2⟩ := slot b _ (neL b o e) hb (neC b o e hx) e1 (I.base.free b o e n hx)
    exact ⟨sl', e2⟩
  · obtain ⟨o', e1⟩ := I.base.there b o e hx
    exact free b o' (neC b o e hx) e1 (I.base.free b o e n hx)
  · obtain ⟨o', e1⟩ := I.base.there b o e hx
    exact there b o' (neC b o e hx) e1
  · obtain ⟨m1, e1⟩ := I.base.tbls b ps e
    obtain ⟨m2, e2⟩ := tbls b _ e1
    exact ⟨m1 ++ m2, by rw [e2, Array.append_assoc]⟩
  · obtain ⟨m, hn, hl⟩ := I.loc
    refine ⟨m, ns m hn, fun i x v e1 e2 e3 => ?_⟩
    obtain ⟨u, r, l⟩ := hl i x v e1 e2 e3
    refine ⟨u, r, ?_⟩
    rcases l with l | ⟨k, c, e, z⟩
    · exact .inl l
    · exact .inr ⟨k, c, e, cellK x c e _ z⟩
  · obtain ⟨v, z⟩ := I.cell x c e
    exact ⟨v, cellK x c e v z⟩
  · obtain ⟨m, ⟨o, _, _, ho, _⟩, _⟩ := I.loc
    exact free _ o (fun z => (hch _ z).2.1 rfl) ho I.free
  · obtain ⟨v, o, ho, hd⟩ := I.cell x c e
    exact free c o (fun z => (hch c z).2.2.1 x c e rfl) ho (I.freeC x c e)
  · obtain ⟨e, n, ne, nf, d⟩ := I.pin p hp
    have nch : p.1 ∉ ch := fun z => (hch p.1 z).2.2.2 p hp rfl
    exact ⟨keep p.1 p.2 ne nf nch e n, free p.1 p.2 nch e n, ne, nf, d⟩
theorem Inv.un {t' : Nat} (I : Inv X pins σ H s) (u : Un X.fs [] H H' s.heap h') (hok : HOk X.prog X.w H' h') : Inv X pins σ H' { s with heap := h', toks := t' } := by
  obtain ⟨m, ⟨o, es, ep, ho, r⟩, _⟩ := id I.loc
  obtain ⟨sl, hL⟩ := u.any ho I.free (by simp)
  exact I.step (g' := s.gens) (d' := s.drawn) (ch := []) (fun ψ z => nomatch z) (fun b o ψ hb ψ e n => u.keep b o e n hb (by simp)) (fun b o ψ hb ψ e n => u.slot b o e n hb (by simp)) (fun b o ψ e n => u.free b o e n (by simp)) (fun b o ψ e => u.there b o e (by simp)) u.tups u.frzs u.tbls (fun m' hm => by
    obtain ⟨o', es', ep', ho', r'⟩ := hm
    rw [ho] at ho'; cases ho'
    exact ⟨_, es', ep', hL, r'⟩) hok I.bare
theorem Inv.call {g' : Array GenState} {t' : Nat} {d' : Drawn} {ch : List Addr} (I : Inv X pins σ H s) (u : Un (frs X.stack) ch H H' s.heap h') (hok : HOk X.prog X.w H' h') (hg : AllBare g')
    (hch : ∀ b ∈ ch, (b ∈ X.ex ∨ X.s₀.heap.objs.size ≤ b) ∧ b ≠ X.env.locals ∧ (∀ x c, X.env.cells.lookup x = some c → c ≠ b) ∧ ∀ p ∈ X.pn ++ pins, p.1 ≠ b) :
    Inv X pins σ H' { s with heap := h', gens := g', drawn := d', toks := t' } := by
  obtain ⟨m, ⟨o, es, ep, ho, r⟩, _⟩ := id I.loc
  obtain ⟨sl, hL⟩ := u.any ho I.free fun z => (hch _ z).2.1 rfl
  exact I.step (ch := ch) hch (fun b o hL hb hc e n => u.keep b o e n (fun z => (List.mem_cons.mp (I.stkSub b z)).elim hL hb) hc) (fun b o ψ ψ hc e n => u.any e n hc) (fun b o hc e n => u.free b o e n hc) (fun b o hc e => u.there b o e hc) u.tups u.frzs u.tbls (fun m' hm => by
    obtain ⟨o', es', ep', ho', r'⟩ := hm
    rw [ho] at ho'; cases ho'
    exact ⟨_, es', ep', hL, r'⟩) hok hg
theorem Inv.turned {t' : Nat} {it : Addr} (I : Inv X pins σ H s) (k : ∀ b o, b ≠ it → s.heap.get? b = some o → h'.get? b = some o) (hn : H it = none) (hL : it ≠ X.env.locals)
    (h1 : it ∈ X.ex ∨ X.s₀.heap.objs.size ≤ it) (h2 : ∀ x c, X.env.cells.lookup x = some c → c ≠ it) (h3 : ∀ p ∈ X.pn ++ pins, p.1 ≠ it) : Inv X pins σ H { s with heap := h', toks := t' } := by
  have nit : ∀ b u, H b = some u → b ≠ it := fun b u e z => by rw [z, hn] at e; cases e
  refine I.step (g' := s.gens) (d' := s.drawn) (ch := [it]) (fun b hb => ?_) (fun b o ψ ψ hc e ψ => k b o (fun z => hc (by simp [z])) e) (fun b o ψ ψ hc e ψ => ⟨o.slots, k b o (fun z => hc (by simp [z])) e⟩) (fun ψ ψ ψ ψ n => n)
    (fun b o hc e => ⟨o, k b o (fun z => hc (by simp [z])) e⟩) (fun ψ ψ e => e) (fun ψ ψ ψ e => e) (fun b ps e => ⟨#[], by rw [e]; simp⟩) (fun m hm => ?_) (fun b u e => ?_) I.bare
  · have e : b = it := by simpa using hb
    subst e
    exact ⟨h1, hL, h2, h3⟩
  · obtain ⟨o, es, ep, ho, r⟩ := hm
    exact ⟨o, es, ep, k _ o (Ne.symm hL) ho, r⟩
  · refine (I.hok b u e).stay (fun c v hc q => k c v ?_ q) (fun ψ q => q) fun ψ ψ q => q
    rcases hc with z | z
    · rw [z]; exact nit b u e
    · exact nit c _ z
theorem Inv.tok (I : Inv X pins σ H s) (t : Nat) : Inv X pins σ H { s with toks := t } := I.un (h' := s.heap) (t' := t) Un.refl I.hok
theorem Inv.kept {t' : Nat} (I : Inv X pins σ H s) (k : ∀ b u, s.heap.get? b = some u → h'.get? b = some u) : Inv X pins σ H { s with heap := h', toks := t' } := I.un (Un.kept k) (I.hok.kept k)
theorem Inv.laid {a : Addr} {o : HO} {t' : Nat} (I : Inv X pins σ H s) (k : ∀ b u, s.heap.get? b = some u → h'.get? b = some u) (hp : s.heap.objs.size ≤ a) (new : ObjOk X.prog X.w (upd H a o) h' a o) :
    Inv X pins σ (upd H a o) { s with heap := h', toks := t' } := I.un (Un.laid k hp (I.hok.fresh hp)) (I.hok.laid k hp new)
theorem Inv.write {x e : Addr} {o : HO} {t' : Nat} (I : Inv X pins σ H s) (mu : Mut (H x)) (he : e = x ∨ H e = some (.own x)) (k : ∀ b u, b ≠ e → s.heap.get? b = some u → h'.get? b = some u) (heo : ∃ u, h'.get? e = some u)
    (new : ObjOk X.prog X.w (upd H x o) h' x o) : Inv X pins σ (upd H x o) { s with heap := h', toks := t' } := I.un (Un.write mu he k heo) (I.hok.write mu he k heo new)
theorem Inv.pins_of {pins' : List (Addr × Obj)} (I : Inv X pins σ H s) (h : ∀ p ∈ pins', s.heap.get? p.1 = some p.2 ∧ H p.1 = none ∧ p.1 ≠ X.env.locals ∧ p.1 ∉ X.fs ∧ ∀ v, p.2.data ≠ .cell v) : Inv X pins' σ H s :=
  ⟨I.ok, I.os, I.bare, I.base, I.loc, I.cell, I.free, I.freeC, fun p hp => (List.mem_append.mp hp).elim (fun z => I.pin p (List.mem_append_left _ z)) (h p), I.hok, I.len⟩
theorem nodup_ix {N : List Str} (hN : N.Nodup) {i j : Nat} {x : Str} (a : N[i]? = some x) (b : N[j]? = some x) : i = j := by
  obtain ⟨h1, e1⟩ := List.getElem?_eq_some_iff.mp a
  obtain ⟨h2, e2⟩ := List.getElem?_eq_some_iff.mp b
  exact (List.getElem_inj hN).mp (e1.trans e2.symm)
theorem store_ok2 {M : Model} {A : Around} {E : L2.VSP} {i : Nat} {x : Str} {v : V} {u : Value} {Q : Unit → Shared → Prop} (I : Inv X pins σ H s) (hN : X.N.Nodup) (hi : X.N[i]? = some x) (hx : Loc X.env.scope x) (r : RelV v u)
    (h : ∀ s', Inv X pins (σ.set i (some v)) H s' → (∃ a, Heap.SameBut a s.heap s'.heap ∧ (a = X.env.locals ∨ X.env.cells.lookup x = some a)) → Q () s') (hf : X.fn x = true ∨ X.env.scope.names.lookup x = some .local := by first | exact .inl rfl | exact .inr rfl | assumption) : wpAny M A (storeName X.env x u) Q E s := by
  obtain ⟨m, hn, hl⟩ := id I.loc
  have hcls : (X.env.scope.kind == .class || (X.env.scope.kind == .module && X.env.locals != X.env.globals)) = false := by rw [I.ok.kind]; rfl
  have hiσ : i < σ.length := by rw [I.len]; exact (List.getElem?_eq_some_iff.mp hi).1
  have cne := I.cne
  have tracked : ∀ {a : Addr} {h' : Heap}, (∃ o, s.heap.get? a = some o ∧ H a = none) → Heap.SameBut a s.heap h' → HOk X.prog X.w H h' := fun {a h'} ha hs b ob e => by
    obtain ⟨_, _, hfree⟩ := ha
    refine (I.hok b ob e).stay (fun c w' hc q => (hs.2 c ?_).trans q) (fun ψ q => q) fun ψ ψ q => q
    rintro rfl
    rcases hc with rfl | hc
    · rw [hfree] at e; cases e
    · rw [hfree] at hc; cases hc
  rcases hx with hk | hk
  · refine wpAny_storeName_local hk hn (fun h' hn' hs => ?_) hcls
    obtain ⟨oL, _, _, hoL, _⟩ := id hn
    refine h _ ⟨I.ok, I.os, I.bare, ⟨fun b o e n hb hx => ?_, fun b o e n hb hx => ?_, I.base.free, fun b o e hx => ?_, I.base.tups, I.base.frzs, I.base.tbls⟩, ⟨_, hn', fun j y v' e1 e2 e3 => ?_⟩, fun y c e => ?_, I.free, I.freeC, fun p hp => ?_, tracked ⟨oL, hoL, I.free⟩ hs, by simpa using I.len⟩ ⟨_, hs, .inl rfl⟩
    · exact (hs.2 b (Nat.ne_of_lt (Nat.lt_of_lt_of_le (Heap.lt_size e) I.ok.above))).trans (I.base.keep b o e n hb hx)
    · obtain ⟨sl, e1⟩ := I.base.slot b o e n hb hx
      exact ⟨sl, (hs.2 b (Nat.ne_of_lt (Nat.lt_of_lt_of_le (Heap.lt_size e) I.ok.above))).trans e1⟩
    · obtain ⟨o', e1⟩ := I.base.there b o e hx
      exact ⟨o', (hs.2 b (Nat.ne_of_lt (Nat.lt_of_lt_of_le (Heap.lt_size e) I.ok.above))).trans e1⟩
    · by_cases hj : j = i
      · subst hj
        rw [hi] at e1; cases e1
        rw [List.getElem?_set_self hiσ] at e2
        cases e2
        exact ⟨u, r, .inl ⟨hk, by simp⟩⟩
      · rw [List.getElem?_set_ne (Ne.symm hj)] at e2
        obtain ⟨u', r', q⟩ := hl j y v' e1 e2 e3
        refine ⟨u', r', ?_⟩
        rcases q with ⟨k, e⟩ | ⟨k, c, e, z⟩
        · refine .inl ⟨k, ?_⟩
          have : y ≠ x := fun e => hj (nodup_ix hN e1 (e ▸ hi))
          simp [this, e]
        · exact .inr ⟨k, c, e, z.sameBut hs (cne y c e)⟩
    · obtain ⟨w', z⟩ := I.cell y c e
      exact ⟨w', z.sameBut hs (cne y c e)⟩
    · obtain ⟨e, n, ne, nf, d⟩ := I.pin p hp
      exact ⟨(hs.2 p.1 ne).trans e, n, ne, nf, d⟩
  · have hfn : X.fn x = true := by
      rcases hf with z | z
      · exact z
      · rw [z] at hk; cases hk
    obtain ⟨c, hc⟩ := I.ok.has x (.inl hk)
    obtain ⟨w', z⟩ := I.cell x c hc
    refine wpAny_storeName_cell I.ok.kind hk hc z (fun h' hc' hs => ?_)
    obtain ⟨oc, hoc, hocd⟩ := id z
    refine h { s with heap := h' } ⟨I.ok, I.os, I.bare, ⟨fun b o e n hb hx => ?_, fun b o e n hb hx => ?_, I.base.free, fun b o e hx => ?_, I.base.tups, I.base.frzs, I.base.tbls⟩, ⟨m, hn.sameBut hs (Ne.symm (cne x c hc)), fun j y v' e1 e2 e3 => ?_⟩, fun y c' e => ?_, I.free, I.freeC, fun p hp => ?_, tracked ⟨oc, hoc, I.freeC x c hc⟩ hs, by simpa using I.len⟩ ⟨c, hs, .inr hc⟩
    · exact (hs.2 b (Nat.ne_of_lt (Nat.lt_of_lt_of_le (Heap.lt_size e) (I.ok.cab x c hfn hc)))).trans (I.base.keep b o e n hb hx)
    · obtain ⟨sl, e1⟩ := I.base.slot b o e n hb hx
      exact ⟨sl, (hs.2 b (Nat.ne_of_lt (Nat.lt_of_lt_of_le (Heap.lt_size e) (I.ok.cab x c hfn hc)))).trans e1⟩
    · obtain ⟨o', e1⟩ := I.base.there b o e hx
      exact ⟨o', (hs.2 b (Nat.ne_of_lt (Nat.lt_of_lt_of_le (Heap.lt_size e) (I.ok.cab x c hfn hc)))).trans e1⟩
    · by_cases hj : j = i
      · subst hj
        rw [hi] at e1; cases e1
        rw [List.getElem?_set_self hiσ] at e2
        cases e2
        exact ⟨u, r, .inr ⟨.inl hk, c, hc, hc'⟩⟩
      · rw [List.getElem?_set_ne (Ne.symm hj)] at e2
        obtain ⟨u', r', q⟩ := hl j y v' e1 e2 e3
        refine ⟨u', r', ?_⟩
        rcases q with q | ⟨k, c', e, z'⟩
        · exact .inl q
        · refine .inr ⟨k, c', e, z'.sameBut hs ?_⟩
          rintro rfl
          exact hj (nodup_ix hN e1 (I.ok.inj _ _ _ e hc ▸ hi))
    · by_cases hcc : c' = c
      · subst hcc; exact ⟨_, hc'⟩
      · obtain ⟨w2, z2⟩ := I.cell y c' e
        exact ⟨w2, z2.sameBut hs hcc⟩
    · obtain ⟨e, n, ne, nf, d⟩ := I.pin p hp
      refine ⟨(hs.2 p.1 ?_).trans e, n, ne, nf, d⟩
      intro q
      rw [q, hoc] at e
      have q' : oc = p.2 := Option.some.inj e
      exact d w' (by rw [← q']; exact hocd)
theorem store_ok {M : Model} {A : Around} {E : L2.VSP} {i : Nat} {x : Str} {v : V} {u : Value} {Q : Unit → Shared → Prop} (I : Inv X pins σ H s) (hN : X.N.Nodup) (hi : X.N[i]? = some x) (hx : Loc X.env.scope x) (r : RelV v u)
    (h : ∀ s', Inv X pins (σ.set i (some v)) H s' → Q () s') (hf : X.fn x = true ∨ X.env.scope.names.lookup x = some .local := by first | exact .inl rfl | exact .inr rfl | assumption) : wpAny M A (storeName X.env x u) Q E s :=
  store_ok2 I hN hi hx r (fun s' I' ψ => h s' I') hf
theorem Inv.call' {s' : Shared} {ch : List Addr} (I : Inv X pins σ H s) (ho : s'.os = s.os) (u : Un (frs X.stack) ch H H' s.heap s'.heap) (hok : HOk X.prog X.w H' s'.heap) (hg : AllBare s'.gens)
    (hch : ∀ b ∈ ch, (b ∈ X.ex ∨ X.s₀.heap.objs.size ≤ b) ∧ b ≠ X.env.locals ∧ (∀ x c, X.env.cells.lookup x = some c → c ≠ b) ∧ ∀ p ∈ X.pn ++ pins, p.1 ≠ b) : Inv X pins σ H' s' := by
  obtain ⟨h', g', d', t', o'⟩ := s'
  have e : o' = s.os := ho
  subst e
  exact I.call (g' := g') (t' := t') (d' := d') u hok hg hch
end
noncomputable abbrev XK := Value → Option Addr → Hp → Prop
noncomputable abbrev St := List (Option V)
noncomputable abbrev VK := V → Hp → Prop
noncomputable abbrev TE := St → Hp → VK → Prop
noncomputable abbrev TT := St → Hp → (Bool → Hp → Prop) → Prop
noncomputable abbrev TA := St → Hp → (List V → Hp → Prop) → Prop
structure Ends where
  nx : St → Hp → Prop
  rt : VK
  bk : St → Hp → Prop := fun ψ ψ => False
  ct : St → Hp → Prop := fun ψ ψ => False
noncomputable abbrev TS := Ends → St → Hp → Prop
noncomputable def EP (X : Cx) (pins : List (Addr × Obj)) (σ : St) (Q : VK) (u : Value) (s' : Shared) : Prop := ∃ v H', Inv X pins σ H' s' ∧ RelV v u ∧ Q v H'
noncomputable def TP (X : Cx) (pins : List (Addr × Obj)) (σ : St) (Q : Bool → Hp → Prop) (b : Bool) (s' : Shared) : Prop := ∃ H', Inv X pins σ H' s' ∧ Q b H'
noncomputable def AP (X : Cx) (pins : List (Addr × Obj)) (σ : St) (Q : List V → Hp → Prop) (us : List Value) (s' : Shared) : Prop := ∃ vs H', Inv X pins σ H' s' ∧ Vals vs us ∧ Q vs H'
noncomputable def SP (X : Cx) (pins : List (Addr × Obj)) (D : Ends) (f : Flow) (s' : Shared) : Prop :=
  match f with
  | .next => ∃ σ' H', Inv X pins σ' H' s' ∧ D.nx σ' H'
  | .brk => ∃ σ' H', Inv X pins σ' H' s' ∧ D.bk σ' H'
  | .cont => ∃ σ' H', Inv X pins σ' H' s' ∧ D.ct σ' H'
  | .ret u => ∃ v σ' H', Inv X pins σ' H' s' ∧ RelV v u ∧ D.rt v H'
noncomputable def PE (X : Cx) (e : Expr) (t : TE) : Prop :=
  ∀ (pins : List (Addr × Obj)) (s : Shared) (σ : St) (H : Hp) (Q : VK), Inv X pins σ H s → t σ H Q → wpAny (model X.prog X.w) X.A (eval e X.env) (EP X pins σ Q) X.xe s
noncomputable def PT (X : Cx) (e : Expr) (t : TT) : Prop :=
  ∀ (pins : List (Addr × Obj)) (s : Shared) (σ : St) (H : Hp) (Q : Bool → Hp → Prop), Inv X pins σ H s → t σ H Q → wpAny (model X.prog X.w) X.A (isTrue e X.env (eval e X.env)) (TP X pins σ Q) X.xe s
noncomputable def PW (X : Cx) (e : Expr) (t : TT) : Prop :=
  ∀ (whole : Sem Value) (pins : List (Addr × Obj)) (s : Shared) (σ : St) (H : Hp) (Q : Bool → Hp → Prop), Inv X pins σ H s → t σ H Q → wpAny (model X.prog X.w) X.A (isTrue e X.env whole) (TP X pins σ Q) X.xe s
theorem PW.pt {X : Cx} {e : Expr} {t : TT} (h : PW X e t) : PT X e t := h _
noncomputable def PA (X : Cx) (es : List Expr) (t : TA) : Prop :=
  ∀ (pos : Pos) (pins : List (Addr × Obj)) (s : Shared) (σ : St) (H : Hp) (Q : List V → Hp → Prop), Inv X pins σ H s → t σ H Q → wpAny (model X.prog X.w) X.A (spliced (backTo pos (starEach es X.env))) (AP X pins σ Q) X.xe s
noncomputable def PS (X : Cx) (st : Stmt) (t : TS) : Prop :=
  ∀ (pins : List (Addr × Obj)) (s : Shared) (σ : St) (H : Hp) (D : Ends), Inv X pins σ H s → t D σ H → wpAny (model X.prog X.w) X.A (exec st X.env) (SP X pins D) X.xe s
noncomputable def PSs (X : Cx) (st : List Stmt) (t : TS) : Prop :=
  ∀ (pins : List (Addr × Obj)) (s : Shared) (σ : St) (H : Hp) (D : Ends), Inv X pins σ H s → t D σ H → wpAny (model X.prog X.w) X.A (execs st X.env) (SP X pins D) X.xe s
theorem thn {α : Type} {t : Sem α} {Q Q' : α → Shared → Prop} {M : Model} {A : Around} {E : L2.VSP} {s : Shared} (h : wpAny M A t Q E s) (hQ : ∀ a s, Q a s → Q' a s) : wpAny M A t Q' E s := wpAny_mono h hQ fun ψ ψ x => x
section
variable {X : Cx}
theorem bin {a b : Expr} {ta tb : TE} (ha : PE X a ta) (hb : PE X b tb) {pins : List (Addr × Obj)} {s : Shared} {σ : St} {H : Hp} {R : V → V → Hp → Prop} (I : Inv X pins σ H s) (h : ta σ H fun x H1 => tb σ H1 fun y H2 => R x y H2)
    {α : Type} {Q : α → Shared → Prop} {f : Value → Value → Sem α}
    (hf : ∀ v u s2 x y H2, Inv X pins σ H2 s2 → RelV x v → RelV y u → R x y H2 → wpAny (model X.prog X.w) X.A (f v u) Q X.xe s2) :
    wpAny (model X.prog X.w) X.A (eval a X.env) (fun v s₁ => wpAny (model X.prog X.w) X.A (eval b X.env) (fun u s₂ => wpAny (model X.prog X.w) X.A (f v u) Q X.xe s₂) X.xe s₁) X.xe s := by
  refine thn (ha pins s σ H _ I h) fun v s1 ⟨x, H1, I1, r1, q1⟩ => ?_
  refine thn (hb pins s1 σ H1 _ I1 q1) fun u s2 ⟨y, H2, I2, r2, q2⟩ => ?_
  exact hf v u s2 x y H2 I2 r1 r2 q2
noncomputable def tVar (i : Nat) : TE := fun σ H Q => ∃ v, σ[i]? = some (some v) ∧ Q v H
noncomputable def tC (v : V) : TE := fun ψ H Q => Q v H
theorem pe_var {i : Nat} {x : Str} {pos : Pos} (hN : X.N[i]? = some x) (hv : Vis X.env.scope x) (hd : (x == ("__debug__" : Str)) = false := by decide) (hcd : (x == ("__classdict__" : Str)) = false := by decide) : PE X (.Name x pos) (tVar i) := by
  intro pins s σ H Q I h
  obtain ⟨v, e, h⟩ := h
  obtain ⟨m, hn, hl⟩ := I.loc
  obtain ⟨u, r, l⟩ := hl i x v hN e hv
  have fin : EP X pins σ Q u s := ⟨v, H, I, r, h⟩
  rcases l with ⟨hk, hm⟩ | ⟨hk, c, hc, hcell⟩
  · exact wpAny_Name (wpAny_loadName_local I.ok.kind hk hn hm fin) hd
  · rcases hk with hk | hk
    · exact wpAny_Name (wpAny_loadName_cell I.ok.kind hk hc hcell fin) hd
    · exact wpAny_Name (wpAny_loadName_free I.ok.kind hk hc hcell fin hcd) hd
theorem pe_int {i j pos} : PE X (.Constant (.int i) j pos) (tC (.int i)) := fun ψ ψ ψ H ψ I h => wpAny_Constant_int ⟨.int i, H, I.tok _, ⟨_, rfl⟩, h⟩
theorem pe_bl {b j pos} : PE X (.Constant (.bool b) j pos) (tC (.bl b)) := fun ψ ψ ψ H ψ I h => Constant_bool ⟨.bl b, H, I, rfl, h⟩
theorem pe_non {j pos} : PE X (.Constant .none j pos) (tC .non) := fun ψ ψ ψ H ψ I h => Constant_none ⟨.non, H, I, rfl, h⟩
theorem pe_str {x j pos} : PE X (.Constant (.str x) j pos) (tC (.str x)) := fun ψ ψ ψ H ψ I h => Calls.Constant_str ⟨.str x, H, I.tok _, ⟨_, rfl⟩, h⟩
noncomputable def Gl (X : Cx) (x : Str) : Prop := X.env.kindOf x = some .globalImplicit
theorem ld_glob {E : L2.VSP} {pins : List (Addr × Obj)} {s : Shared} {σ : St} {H : Hp} {x : Str} {u : Value} {pos : Pos} {Q : L2.VSP} (I : Inv X pins σ H s) (hg : Gl X x) (hm : X.mg x = some u) (h : Q u s)
    (hd : (x == ("__debug__" : Str)) = false := by decide) : wpAny (model X.prog X.w) X.A (eval (.Name x pos) X.env) Q E s :=
  Calls.Name_function_global I.ok.kind hg (Calls.loadGlobal_global (by rw [I.ok.glob]; exact I.mod.glob.keeps I.bk) hm h) hd
theorem ld_blt {E : L2.VSP} {pins : List (Addr × Obj)} {s : Shared} {σ : St} {H : Hp} {x : Str} {u : Value} {pos : Pos} {Q : L2.VSP} (I : Inv X pins σ H s) (hg : Gl X x) (hm : X.mg x = none) (hv : bootBuiltins x = some u) (h : Q u s)
    (hn : x ≠ "__name__" := by decide) (hd : (x == ("__debug__" : Str)) = false := by decide) : wpAny (model X.prog X.w) X.A (eval (.Name x pos) X.env) Q E s := by
  obtain ⟨mb, h1, h2⟩ := I.mod.blt
  exact Calls.Name_function_global I.ok.kind hg (Calls.loadGlobal_builtin (by rw [I.ok.glob]; exact I.mod.glob.keeps I.bk) hm (by rw [I.ok.blt]; exact h1.keeps I.bk) ((h2 x hn).trans hv) h) hd
theorem pe_bltn {x : Str} {v : V} {u : Value} {pos : Pos} (hg : Gl X x) (hm : X.mg x = none) (hv : bootBuiltins x = some u) (r : RelV v u) (hn : x ≠ "__name__" := by decide) (hd : (x == ("__debug__" : Str)) = false := by decide) : PE X (.Name x pos) (tC v) :=
  fun ψ ψ ψ H ψ I h => ld_blt I hg hm hv ⟨v, H, I, r, h⟩ hn hd
variable {a b : Expr} {ta tb : TE} {pos : Pos}
noncomputable def PC (X : Cx) (op : CmpOp) (a b : Expr) (t : TE) : Prop :=
  ∀ (pins : List (Addr × Obj)) (s : Shared) (σ : St) (H : Hp) (Q : VK), Inv X pins σ H s → t σ H Q →
    wpAny (model X.prog X.w) X.A (eval a X.env) (fun v s₁ => wpAny (model X.prog X.w) X.A (eval b X.env) (fun u s₂ => wpAny (model X.prog X.w) X.A (compareOp op v u) (EP X pins σ Q) X.xe s₂) X.xe s₁) X.xe s
theorem nobehind (b : Expr) {op : CmpOp} (h : op ≠ .In) (h2 : op ≠ .NotIn) : behindInMarks op b = false := by
  have e1 : (op == CmpOp.In) = false := by cases op <;> first | rfl | exact absurd rfl h
  have e2 : (op == CmpOp.NotIn) = false := by cases op <;> first | rfl | exact absurd rfl h2
  cases b <;> simp [behindInMarks, e1, e2]
noncomputable def tB (t : TE) : TT := fun σ H Q => t σ H fun x H1 => ∃ c, x = .bl c ∧ Q c H1
theorem pt_cmp {op : CmpOp} {t : TE} (h : PC X op a b t) (h1 : behindInMarks op b = false := by first | exact nobehind _ (by decide) (by decide) | rfl) : PT X (.Compare a [op] [b] pos) (tB t) := by
  intro pins s σ H Q I hw
  refine wpAny_isTrue_Compare1 (thn (h pins s σ H _ I hw) fun v s1 h1 => thn h1 fun u s2 h2 => thn h2 fun c s3 ⟨x, H1, I1, r1, q1⟩ => ?_) h1
  obtain ⟨d, rfl, q⟩ := q1
  cases r1
  exact wpAny_truthy_bool ⟨H1, I1, q⟩
theorem pt_val {e : Expr} {t : TE} (h : PE X e t) (he : ∀ whole, isTrue e X.env whole = (do let v ← whole; standAt e.pos; holding [v] (truthy v)) := by intro ψ; rfl) : PT X e (tB t) := by
  intro pins s σ H Q I hw
  refine isTrue_plain (thn (h pins s σ H _ I hw) fun v s1 ⟨x, H1, I1, r1, q1⟩ => ?_) (he _)
  obtain ⟨d, rfl, q⟩ := q1
  cases r1
  exact wpAny_truthy_bool ⟨H1, I1, q⟩
variable {tA tB' : TT} {rest : List Expr}
noncomputable def tAnd (t u : TT) : TT := fun σ H Q => t σ H fun c H1 => if c = true then u σ H1 Q else Q false H1
noncomputable def tOr (t u : TT) : TT := fun σ H Q => t σ H fun c H1 => if c = true then Q true H1 else u σ H1 Q
noncomputable def tNot (t : TT) : TT := fun σ H Q => t σ H fun c H1 => Q (!c) H1
theorem pw_and1 (ha : PT X a tA) : PW X (.BoolOp .And [a] pos) tA := by
  intro wh pins s σ H Q I h
  refine isTrue_and (thn (ha pins s σ H Q I h) fun c s1 e => ?_)
  cases c with
  | true => exact isTrue_and_nil e
  | false => exact e
theorem pw_or1 (ha : PT X a tA) : PW X (.BoolOp .Or [a] pos) tA := by
  intro wh pins s σ H Q I h
  refine isTrue_or (thn (ha pins s σ H Q I h) fun c s1 e => ?_)
  cases c with
  | false => exact isTrue_or_nil e
  | true => exact e
theorem pw_and (ha : PT X a tA) (hb : PW X (.BoolOp .And (b :: rest) pos) tB') : PW X (.BoolOp .And (a :: b :: rest) pos) (tAnd tA tB') := by
  intro wh pins s σ H Q I h
  refine isTrue_and (thn (ha pins s σ H _ I h) fun c s1 ⟨H1, I1, q1⟩ => ?_)
  cases c with
  | true => exact hb wh pins s1 σ H1 Q I1 q1
  | false => exact ⟨H1, I1, q1⟩
theorem pw_or (ha : PT X a tA) (hb : PW X (.BoolOp .Or (b :: rest) pos) tB') : PW X (.BoolOp .Or (a :: b :: rest) pos) (tOr tA tB') := by
  intro wh pins s σ H Q I h
  refine isTrue_or (thn (ha pins s σ H _ I h) fun c s1 ⟨H1, I1, q1⟩ => ?_)
  cases c with
  | true => exact ⟨H1, I1, q1⟩
  | false => exact hb wh pins s1 σ H1 Q I1 q1
theorem pt_not (ha : PT X a tA) : PT X (.UnaryOp .Not a pos) (tNot tA) := by
  intro pins s σ H Q I h
  exact isTrue_not (ha pins s σ H (fun c H1 => Q (!c) H1) I h)
noncomputable def tOrV (ta tb : TE) : TE := fun σ H Q => ta σ H fun x H1 => ∃ c, x = .bl c ∧ if c = true then Q (.bl true) H1 else tb σ H1 Q
theorem pe_one {op} {t : TE} (h : PE X a t) : PE X (.BoolOp op [a] pos) t := fun pins s σ H Q I hw => BoolOp_one (h pins s σ H Q I hw)
theorem pe_or (ha : PE X a ta) (hb : PE X (.BoolOp .Or (b :: rest) pos) tb) : PE X (.BoolOp .Or (a :: b :: rest) pos) (tOrV ta tb) := by
  intro pins s σ H Q I h
  refine BoolOp_or (thn (ha pins s σ H _ I h) fun v s1 ⟨x, H1, I1, r1, q1⟩ => ?_)
  obtain ⟨c, rfl, q1⟩ := q1
  cases r1
  refine wpAny_truthy_bool ?_
  cases c with
  | false => exact hb pins s1 σ H1 Q I1 q1
  | true => exact ⟨.bl true, H1, I1, rfl, q1⟩
noncomputable def tIf (t : TT) (ta tb : TE) : TE := fun σ H Q => t σ H fun c H1 => if c = true then ta σ H1 Q else tb σ H1 Q
theorem pe_ifExp {c : Expr} (hc : PT X c tA) (ha : PE X a ta) (hb : PE X b tb) : PE X (.IfExp c a b pos) (tIf tA ta tb) := by
  intro pins s σ H Q I h
  refine wpAny_IfExp (thn (hc pins s σ H _ I h) fun d s1 ⟨H1, I1, q1⟩ => ?_)
  cases d with
  | true => exact ha pins s1 σ H1 Q I1 q1
  | false => exact hb pins s1 σ H1 Q I1 q1
end
noncomputable def SqL (K : PySem.W.Frag) (H : Hp) (a : Addr) (xs : List V) : Prop :=
  Rd H a (.lst xs) ∨
    ∃ (o : Obj) (its : Array Value) (n : Nat), K.lookup a = some o ∧ o.cls = .type "list" ∧ o.dict = none ∧ o.data = .seq its n ∧ its.size ≤ sizeLine ∧ Vals xs its.toList
noncomputable def SqT (K : PySem.W.Frag) (H : Hp) (a : Addr) (xs : List V) : Prop :=
  Rd H a (.tup xs) ∨
    ∃ (o : Obj) (its : Array Value) (n : Nat), K.lookup a = some o ∧ o.cls = .type "tuple" ∧ o.data = .seq its n ∧ its.size ≤ sizeLine ∧ Vals xs its.toList
noncomputable def absV : Value → Option V
  | .none => some .non
  | .bool b => some (.bl b)
  | .int i _ => some (.int i)
  | .str x _ => some (.str x)
  | .bytes b _ => some (.byt b)
  | .float b _ => some (.flt b)
  | .ref a => some (.ref a)
  | .type n => some (.ty n)
  | _ => none
theorem RelV.abs {x : V} {u : Value} (r : RelV x u) : absV u = some x := by
  cases x with
  | non => cases r; rfl
  | bl _ => cases r; rfl
  | int _ => obtain ⟨t, rfl⟩ := r; rfl
  | str _ => obtain ⟨t, rfl⟩ := r; rfl
  | byt _ => obtain ⟨t, rfl⟩ := r; rfl
  | flt _ => obtain ⟨t, rfl⟩ := r; rfl
  | ref _ => cases r; rfl
  | ty _ => cases r; rfl
theorem RelV.inj {x y : V} {u : Value} (r : RelV x u) (q : RelV y u) : x = y := Option.some.inj (r.abs.symm.trans q.abs)
theorem Vals.inj : ∀ {xs ys : List V} {us : List Value}, Vals xs us → Vals ys us → xs = ys
  | _, _, _, .nil, .nil => rfl
  | _, _, _, .cons r t, .cons r' t' => by rw [r.inj r', Vals.inj t t']
section
variable {X : Cx} {pins : List (Addr × Obj)} {σ : St} {H : Hp} {s : Shared} {a : Addr} {xs ys : List V}
theorem SqL.of {K : PySem.W.Frag} (h : H a = some (.lst xs)) : SqL K H a xs := .inl (.inl h)
theorem SqT.of {K : PySem.W.Frag} (h : H a = some (.tup xs)) : SqT K H a xs := .inl (.inl h)
theorem Inv.list (I : Inv X pins σ H s) (h : SqL X.K H a xs) : ∃ its : List Value, Vals xs its ∧ PlainL s.heap a its.toArray ∧ xs.length ≤ sizeLine := by
  rcases h with h | ⟨o, its, n, hk, hc, hd, hs, hz, r⟩
  · obtain ⟨z, its, n, r, e⟩ := h.ok I.hok
    exact ⟨its, r, ⟨_, n, e, rfl, rfl, rfl⟩, z⟩
  · refine ⟨its.toList, r, ⟨o, n, I.kIn a o hk, hc, hd, by simpa using hs⟩, ?_⟩
    have e := r.length
    simp only [Array.length_toList] at e
    omega
theorem Inv.tuple (I : Inv X pins σ H s) (h : SqT X.K H a xs) : ∃ its : List Value, Vals xs its ∧ IsTup s.heap a its.toArray ∧ xs.length ≤ sizeLine := by
  rcases h with h | ⟨o, its, n, hk, hc, hs, hz, r⟩
  · obtain ⟨z, its, r, p⟩ := h.ok I.hok
    exact ⟨its, r, p, z⟩
  · refine ⟨its.toList, r, ⟨o, I.kIn a o hk, hc, n, by simpa using hs⟩, ?_⟩
    have e := r.length
    simp only [Array.length_toList] at e
    omega
theorem Inv.list_inj (I : Inv X pins σ H s) (h : SqL X.K H a xs) (h' : SqL X.K H a ys) : xs = ys := by
  obtain ⟨its, r, ⟨o, n, e, _, _, d⟩, _⟩ := I.list h
  obtain ⟨its', r', ⟨o', n', e', _, _, d'⟩, _⟩ := I.list h'
  rw [e] at e'; cases e'
  rw [d] at d'
  injection d' with d1 _
  have : its = its' := by simpa using congrArg Array.toList d1
  subst this
  exact r.inj r'
theorem Inv.tuple_inj (I : Inv X pins σ H s) (h : SqT X.K H a xs) (h' : SqT X.K H a ys) : xs = ys := by
  obtain ⟨its, r, ⟨o, e, _, n, d⟩, _⟩ := I.tuple h
  obtain ⟨its', r', ⟨o', e', _, n', d'⟩, _⟩ := I.tuple h'
  rw [e] at e'; cases e'
  rw [d] at d'
  injection d' with d1 _
  have : its = its' := by simpa using congrArg Array.toList d1
  subst this
  exact r.inj r'
end
noncomputable abbrev Cx.wish (X : Cx) (E : L2.VSP) : Cx := { X with xe := E }
noncomputable abbrev Cx.nox (X : Cx) : Cx := X.wish fun ψ ψ => False
theorem Cx.Ok.wish {X : Cx} (ok : X.Ok) (E : L2.VSP) : (X.wish E).Ok :=
  ⟨ok.mod, ok.kind, ok.glob, ok.blt, ok.above, ok.inj, ok.has, ok.cab, ok.hd, ok.frames, ok.stk, ok.exf, ok.bs, ok.bsz, ok.noex, ok.exfs, ok.funs, ok.frf⟩
theorem Cx.Ok.unwish {X : Cx} {E : L2.VSP} (ok : (X.wish E).Ok) : X.Ok :=
  ⟨ok.mod, ok.kind, ok.glob, ok.blt, ok.above, ok.inj, ok.has, ok.cab, ok.hd, ok.frames, ok.stk, ok.exf, ok.bs, ok.bsz, ok.noex, ok.exfs, ok.funs, ok.frf⟩
section
variable {X : Cx} {pins : List (Addr × Obj)} {σ : St} {H : Hp} {s : Shared} {E : L2.VSP}
theorem Inv.wish (I : Inv X pins σ H s) (E : L2.VSP) : Inv (X.wish E) pins σ H s := ⟨I.ok.wish E, I.os, I.bare, I.base, I.loc, I.cell, I.free, I.freeC, I.pin, I.hok, I.len⟩
theorem Inv.unwish (I : Inv (X.wish E) pins σ H s) : Inv X pins σ H s := ⟨I.ok.unwish, I.os, I.bare, I.base, I.loc, I.cell, I.free, I.freeC, I.pin, I.hok, I.len⟩
theorem SP.unwish {D : Ends} {f : Flow} {s' : Shared} (h : SP (X.wish E) pins D f s') : SP X pins D f s' := by
  cases f with
  | next => obtain ⟨σ', H', I, q⟩ := h; exact ⟨σ', H', I.unwish, q⟩
  | brk => obtain ⟨σ', H', I, q⟩ := h; exact ⟨σ', H', I.unwish, q⟩
  | cont => obtain ⟨σ', H', I, q⟩ := h; exact ⟨σ', H', I.unwish, q⟩
  | ret u => obtain ⟨v, σ', H', I, r, q⟩ := h; exact ⟨v, σ', H', I.unwish, r, q⟩
theorem PE.nox {e : Expr} {t : TE} (h : PE X.nox e t) : PE X e t := fun pins s σ H Q I hw =>
  wpAny_mono (h pins s σ H Q (I.wish _) hw) (fun _ _ ⟨v, H', I', r, q⟩ => ⟨v, H', I'.unwish, r, q⟩) fun ψ ψ z => False.elim z
theorem PT.nox {e : Expr} {t : TT} (h : PT X.nox e t) : PT X e t := fun pins s σ H Q I hw =>
  wpAny_mono (h pins s σ H Q (I.wish _) hw) (fun _ _ ⟨H', I', q⟩ => ⟨H', I'.unwish, q⟩) fun ψ ψ z => False.elim z
theorem PSs.nox {st : List Stmt} {t : TS} (h : PSs X.nox st t) : PSs X st t := fun pins s σ H D I hw =>
  wpAny_mono (h pins s σ H D (I.wish _) hw) (fun ψ ψ q => q.unwish) fun ψ ψ z => False.elim z
end
section
variable {X : Cx} {st : Stmt} {rest : List Stmt} {t u : TS} {e : Expr} {te : TE} {pos : Pos}
noncomputable def tNext : TS := fun D σ H => D.nx σ H
noncomputable def tSeq (t u : TS) : TS := fun D σ H => t { D with nx := u D } σ H
theorem pss_nil : PSs X [] tNext := fun ψ ψ σ H ψ I h => wpAny_execs_nil ⟨σ, H, I, h⟩
theorem pss_cons (h1 : PS X st t) (h2 : PSs X rest u) : PSs X (st :: rest) (tSeq t u) := by
  intro pins s σ H D I h
  refine wpAny_execs_cons (thn (h1 pins s σ H { D with nx := u D } I h) fun f s1 q => ?_)
  cases f with
  | next =>
    obtain ⟨σ', H', I', q⟩ := q
    exact h2 pins s1 σ' H' D I' q
  | ret v => exact q
  | brk => exact q
  | cont => exact q
theorem pss_one (h1 : PS X st t) : PSs X [st] t := by
  intro pins s σ H D I h
  refine wpAny_execs_cons (thn (h1 pins s σ H D I h) fun f s1 q => ?_)
  cases f with
  | next => exact wpAny_execs_nil q
  | ret v => exact q
  | brk => exact q
  | cont => exact q
theorem Inv.quiet {pins : List (Addr × Obj)} {σ : St} {H : Hp} {s : Shared} (I : Inv X pins σ H s) : interactive X.env = false := by simp [interactive, I.ok.kind]
noncomputable def tDrop (te : TE) : TS := fun D σ H => te σ H fun ψ H1 => D.nx σ H1
theorem ps_expr (he : PE X e te) (hs : swapsWith e none pos.line X.env = pure false := by rfl) : PS X (.Expr e pos) (tDrop te) := by
  intro pins s σ H D I h
  exact wpAny_Expr_any (thn (he pins s σ H _ I h) fun v s1 ⟨x, H1, I1, r1, q1⟩ => ⟨σ, H1, I1, q1⟩) I.quiet hs
noncomputable def tRet (te : TE) : TS := fun D σ H => te σ H D.rt
theorem ps_ret (he : PE X e te) : PS X (.Return (some e) pos) (tRet te) := by
  intro pins s σ H D I h
  exact wpAny_Return_some (thn (he pins s σ H _ I h) fun v s1 ⟨x, H1, I1, r1, q1⟩ => ⟨x, σ, H1, I1, r1, q1⟩)
noncomputable def tIfS (c : TT) (t u : TS) : TS := fun D σ H => c σ H fun b H1 => if b = true then t D σ H1 else u D σ H1
theorem ps_if {c : Expr} {a b : List Stmt} {tc : TT} (hc : PT X c tc) (ha : PSs X a t) (hb : PSs X b u) : PS X (.If c a b pos) (tIfS tc t u) := by
  intro pins s σ H D I h
  refine wpAny_If (thn (hc pins s σ H _ I h) fun d s1 ⟨H1, I1, q1⟩ => ?_)
  cases d with
  | true => exact ha pins s1 σ H1 D I1 q1
  | false => exact hb pins s1 σ H1 D I1 q1
end
noncomputable abbrev TG := V → St → Hp → (St → Hp → Prop) → Prop
noncomputable abbrev TGs := List V → St → Hp → (St → Hp → Prop) → Prop
noncomputable def PG (X : Cx) (target : Expr) (t : TG) : Prop :=
  ∀ (pins : List (Addr × Obj)) (s : Shared) (σ : St) (H : Hp) (v : V) (u : Value) (Q : St → Hp → Prop), Inv X pins σ H s → RelV v u → t v σ H Q →
    wpAny (model X.prog X.w) X.A (assign target X.env u) (fun ψ s' => ∃ σ' H', Inv X pins σ' H' s' ∧ Q σ' H') X.xe s
noncomputable def PGs (X : Cx) (ts : List Expr) (t : TGs) : Prop :=
  ∀ (pins : List (Addr × Obj)) (s : Shared) (σ : St) (H : Hp) (vs : List V) (us : List Value) (Q : St → Hp → Prop), Inv X pins σ H s → Vals vs us → t vs σ H Q →
    wpAny (model X.prog X.w) X.A (assignInOrder ((assignEach ts X.env).map (·.2)) us) (fun ψ s' => ∃ σ' H', Inv X pins σ' H' s' ∧ Q σ' H') X.xe s
noncomputable abbrev TSet := V → V → V → Hp → (Hp → Prop) → Prop
noncomputable def PSet (X : Cx) (t : TSet) : Prop :=
  ∀ (pins : List (Addr × Obj)) (s : Shared) (σ : St) (H : Hp) (o i v : V) (ov iv u : Value) (Q : Hp → Prop), Inv X pins σ H s → RelV o ov → RelV i iv → RelV v u → t o i v H Q →
    wpAny (model X.prog X.w) X.A (setItem ov iv u) (fun ψ s' => ∃ H', Inv X pins σ H' s' ∧ Q H') X.xe s
noncomputable abbrev TIp := V → V → Hp → VK → Prop
noncomputable def PIp (X : Cx) (op : Operator) (t : TIp) : Prop :=
  ∀ (pins : List (Addr × Obj)) (s : Shared) (σ : St) (H : Hp) (x y : V) (v u : Value) (Q : VK), Inv X pins σ H s → RelV x v → RelV y u → t x y H Q →
    wpAny (model X.prog X.w) X.A (inplaceOp op v u) (EP X pins σ Q) X.xe s
section
variable {X : Cx} {pos : Pos}
noncomputable def gName (i : Nat) : TG := fun v σ H Q => Q (σ.set i (some v)) H
theorem pg_name {i : Nat} {x : Str} (hN : X.N.Nodup) (hi : X.N[i]? = some x) (hx : Loc X.env.scope x) (hf : X.fn x = true ∨ X.env.scope.names.lookup x = some .local := by first | exact .inl rfl | exact .inr rfl | assumption) : PG X (.Name x pos) (gName i) := by
  intro pins s σ H v u Q I r h
  exact wpAny_assign_Name (store_ok I hN hi hx r (fun s' I' => ⟨_, H, I', h⟩) hf)
noncomputable def gNil : TGs := fun vs σ H Q => vs = [] ∧ Q σ H
noncomputable def gCons (t : TG) (u : TGs) : TGs := fun vs σ H Q => ∃ v r, vs = v :: r ∧ t v σ H fun σ' H' => u r σ' H' Q
theorem pgs_nil : PGs X [] gNil := by
  intro pins s σ H vs us Q I r h
  obtain ⟨e, h⟩ := h
  subst e
  cases r
  exact assignInOrder_nil ⟨σ, H, I, h⟩
theorem pgs_cons {e : Expr} {es : List Expr} {t : TG} {u : TGs} (h1 : PG X e t) (h2 : PGs X es u)
    (hs : (assignEach (e :: es) X.env).map (·.2) = assign e X.env :: (assignEach es X.env).map (·.2) := by rfl) : PGs X (e :: es) (gCons t u) := by
  intro pins s σ H vs us Q I r h
  obtain ⟨v, vr, e1, h⟩ := h
  subst e1
  cases r with
  | cons r rr =>
    rw [hs]
    refine assignInOrder_cons (thn (h1 pins s σ H _ _ _ I r h) fun _ s1 ⟨σ1, H1, I1, q1⟩ => ?_)
    exact h2 pins s1 σ1 H1 _ _ Q I1 rr q1
noncomputable def gTup (K : PySem.W.Frag) (n : Nat) (t : TGs) : TG := fun v σ H Q => ∃ a xs, v = .ref a ∧ SqT K H a xs ∧ xs.length = n ∧ t xs σ H Q
theorem pg_tup {es : List Expr} {k : Nat} {t : TGs} {n : Nat} (hc : X.calm = true) (h : PGs X es t)
    (hn : (assignEach es X.env).length = n := by rfl) (hst : (assignEach es X.env).findIdx? (·.1) = none := by rfl) : PG X (.Tuple es k pos) (gTup X.K n t) := by
  intro pins s σ H v u Q I r hw
  obtain ⟨a, xs, e1, hq, hl, hw⟩ := hw
  subst e1
  cases r
  obtain ⟨its, rv, ht, hz⟩ := I.tuple hq
  refine assign_Tuple_tuple (I.ok.hd hc) ht (by simp [hn, ← hl, rv.length]) hst fun h' hx => ?_
  have I1 : Inv X pins σ H { s with heap := h' } := I.kept (t' := s.toks) fun b o e => hx b o (Nat.ne_of_lt (Heap.lt_size e)) e
  exact h pins _ σ H xs _ Q I1 (by simpa using rv) hw
noncomputable def gSub (to ti : TE) (t : TSet) : TG := fun v σ H Q => to σ H fun o H1 => ti σ H1 fun i H2 => t o i v H2 fun H3 => Q σ H3
theorem pg_sub {o i : Expr} {to ti : TE} {t : TSet} (ho : PE X o to) (hi : PE X i ti) (hs : PSet X t)
    (ha : ∀ v, assign (.Subscript o i pos) X.env v = (do
      let ov ← holding [v] (eval o X.env)
      let iv ← holding [v, ov] (eval i X.env)
      standAt pos
      holding [v, ov, iv] (setItem ov iv v)
      release [v, ov, iv] []) := by intro ψ; rfl) : PG X (.Subscript o i pos) (gSub to ti t) := by
  intro pins s σ H v u Q I r h
  rw [ha]
  refine wpAny_bind (wpAny_holding (thn (ho pins s σ H _ I h) fun ov s1 ⟨x, H1, I1, r1, q1⟩ => ?_))
  refine wpAny_bind (wpAny_holding (thn (hi pins s1 σ H1 _ I1 q1) fun iv s2 ⟨y, H2, I2, r2, q2⟩ => ?_))
  refine wpAny_bind (wpAny_standAt (wpAny_bind (wpAny_holding (thn (hs pins s2 σ H2 x y v ov iv u _ I2 r1 r2 r q2) fun _ s3 ⟨H3, I3, q3⟩ => ?_))))
  exact wpAny_release ⟨σ, H3, I3, q3⟩
noncomputable def tAsg (te : TE) (g : TG) : TS := fun D σ H => te σ H fun x H1 => g x σ H1 D.nx
theorem ps_asg {tg e : Expr} {te : TE} {g : TG} (he : PE X e te) (hg : PG X tg g) (hs : swapsWithSole [tg] e pos.line X.env = pure false := by rfl) (hw : swappedStores [tg] e X.env = pure none := by rfl)
    (h1 : (assignEach [tg] X.env).map (·.2) = [assign tg X.env] := by rfl) : PS X (.Assign [tg] e pos) (tAsg te g) := by
  intro pins s σ H D I h
  refine wpAny_Assign_stores (thn (he pins s σ H _ I h) fun v s1 ⟨x, H1, I1, r1, q1⟩ => ?_) hs hw
  rw [h1]
  exact thn (hg pins s1 σ H1 x v _ I1 r1 q1) fun ψ s2 q => q
theorem ps_set {i : Nat} {x : Str} {e : Expr} {te : TE} {pos' : Pos} (hN : X.N.Nodup) (hi : X.N[i]? = some x) (hx : Loc X.env.scope x) (he : PE X e te) (hs : swapsWith e (some (.Name x pos')) pos.line X.env = pure false := by rfl) (hf : X.fn x = true ∨ X.env.scope.names.lookup x = some .local := by first | exact .inl rfl | exact .inr rfl | assumption) :
    PS X (.Assign [.Name x pos'] e pos) (tAsg te (gName i)) := by
  intro pins s σ H D I h
  refine wpAny_Assign_Name (thn (he pins s σ H _ I h) fun v s1 ⟨y, H1, I1, r1, q1⟩ => ?_) hs
  exact store_ok I1 hN hi hx r1 (fun s2 I2 => ⟨_, H1, I2, q1⟩) hf
noncomputable def tAug (i : Nat) (te : TE) (ti : TIp) : TS := fun D σ H => ∃ x, σ[i]? = some (some x) ∧ te σ H fun y H1 => ti x y H1 fun z H2 => D.nx (σ.set i (some z)) H2
theorem ps_aug {i : Nat} {x : Str} {e : Expr} {te : TE} {op : Operator} {ti : TIp} {pos' : Pos} (hN : X.N.Nodup) (hi : X.N[i]? = some x) (hx : Loc X.env.scope x) (he : PE X e te) (ho : PIp X op ti) (hf : X.fn x = true ∨ X.env.scope.names.lookup x = some .local := by first | exact .inl rfl | exact .inr rfl | assumption) :
    PS X (.AugAssign (.Name x pos') op e pos) (tAug i te ti) := by
  intro pins s σ H D I h
  obtain ⟨v, e1, h⟩ := h
  obtain ⟨m, hn, hl⟩ := I.loc
  have vis : Vis X.env.scope x := by rcases hx with k | k; exact .inl k; exact .inr (.inl k)
  obtain ⟨u, r, l⟩ := hl i x v hi e1 vis
  refine wpAny_AugAssign_Name ?_
  have go : wpAny (model X.prog X.w) X.A (eval e X.env) (fun w s₂ => wpAny (model X.prog X.w) X.A (inplaceOp op u w) (fun r s₃ => wpAny (model X.prog X.w) X.A (storeName X.env x r) (fun ψ => SP X pins D .next) X.xe s₃) X.xe s₂) X.xe s := by
    refine thn (he pins s σ H _ I h) fun w s1 ⟨y, H1, I1, r1, q1⟩ => ?_
    refine thn (ho pins s1 σ H1 v y u w _ I1 r r1 q1) fun z s2 ⟨zv, H2, I2, r2, q2⟩ => ?_
    exact store_ok I2 hN hi hx r2 (fun s3 I3 => ⟨_, H2, I3, q2⟩) hf
  rcases l with ⟨hk, hm⟩ | ⟨hk, c, hc, hcell⟩
  · exact wpAny_loadName_local I.ok.kind hk hn hm go
  · rcases hk with hk | hk
    · exact wpAny_loadName_cell I.ok.kind hk hc hcell go
    · rcases hx with k | k
      · have : X.env.scope.names.lookup x = some .free := hk
        rw [k] at this; cases this
      · have : X.env.scope.names.lookup x = some .free := hk
        rw [k] at this; cases this
end
section
variable {X : Cx} {pos : Pos}
noncomputable def tWhile (c : TT) (tb : TS) : TS := fun D σ H => ∃ W : Nat → St → Hp → Prop, (∃ m, W m σ H) ∧ ∀ m σ H, W m σ H →
  c σ H fun b H1 => if b = true then ∃ N : St → Hp → Prop, (∀ σ' H', N σ' H' → ∃ m', m' < m ∧ W m' σ' H') ∧ tb { D with nx := N, ct := N, bk := D.nx } σ H1 else D.nx σ H1
theorem ps_while {c : Expr} {body : List Stmt} {tc : TT} {tb : TS} (hp : PassesOwn (model X.prog X.w) X.A X.env X.xe) (hc : PT X c tc) (hb : PSs X body tb) : PS X (.While c body [] pos) (tWhile tc tb) := by
  intro pins s σ H D I h
  obtain ⟨W, ⟨m0, w0⟩, turn⟩ := h
  refine wpAny_While (codeAny_whileLoop (fun n s' => ∃ σ' H', Inv X pins σ' H' s' ∧ W n σ' H') ?_ m0 ⟨σ, H, I, w0⟩)
  rintro n s1 ⟨σ1, H1, I1, w1⟩
  refine wpAny_passesOwn hp (thn (hc pins s1 σ1 H1 _ I1 (turn n σ1 H1 w1)) fun b s2 ⟨H2, I2, q2⟩ => ?_)
  cases b with
  | true =>
    obtain ⟨N, hN, q2⟩ := q2
    rw [if_pos rfl]
    refine wpAny_passesOwn hp (thn (hb pins s2 σ1 H2 _ I2 q2) fun f s3 q3 => ?_)
    cases f with
    | next =>
      obtain ⟨σ3, H3, I3, n3⟩ := q3
      obtain ⟨m', hm, w3⟩ := hN σ3 H3 n3
      exact ⟨m', hm, σ3, H3, I3, w3⟩
    | cont =>
      obtain ⟨σ3, H3, I3, n3⟩ := q3
      obtain ⟨m', hm, w3⟩ := hN σ3 H3 n3
      exact ⟨m', hm, σ3, H3, I3, w3⟩
    | brk => exact q3
    | ret v => exact q3
  | false =>
    rw [if_neg Bool.false_ne_true]
    exact wpAny_execs_nil ⟨σ1, H2, I2, q2⟩
end
structure It where
  go : Nat → Hp → Prop
  yld : Nat → Hp → V → Hp → Prop
  stop : Nat → Hp → Prop
noncomputable def FpOk (X : Cx) (pins : List (Addr × Obj)) (H : Hp) (b : Addr) : Prop :=
  H b = none ∧ b ≠ X.env.locals ∧ b ∉ X.fs ∧ (b ∈ X.ex ∨ X.s₀.heap.objs.size ≤ b) ∧ (∀ x c, X.env.cells.lookup x = some c → c ≠ b) ∧ ∀ p ∈ X.pn ++ pins, p.1 ≠ b
theorem Inv.fpOk {X : Cx} {pins : List (Addr × Obj)} {σ : St} {H H' : Hp} {s : Shared} {b : Addr} (I : Inv X pins σ H s) (hb : s.heap.objs.size ≤ b) (hn : H' b = none) : FpOk X pins H' b := by
  refine ⟨hn, Nat.ne_of_gt (Nat.lt_of_lt_of_le I.lt hb), I.nofs hb, .inr (Nat.le_trans I.sz hb), fun x c e z => ?_, fun p hp z => ?_⟩
  · obtain ⟨v, q⟩ := I.cell x c e
    exact absurd (Nat.lt_of_lt_of_le q.lt (by rw [z]; exact hb)) (Nat.lt_irrefl _)
  · exact absurd (Nat.lt_of_lt_of_le (Heap.lt_size (I.pin p hp).1) (by rw [z]; exact hb)) (Nat.lt_irrefl _)
structure Turn (P : Program) (w : World) (K : PySem.W.Frag) (tg : Expr) (J : It) (fp : List Addr) (it : Addr) (tn : Nat → Heap → Prop) : Prop where
  mem : it ∈ fp
  obj : ∀ i h, tn i h → ∀ b ∈ fp, ∃ o, h.get? b = some o ∧ ∀ v, o.data ≠ .cell v
  keep : ∀ i h h', tn i h → (∀ b ∈ fp, ∀ o, h.get? b = some o → h'.get? b = some o) → tn i h'
  item : ∀ (X : Cx), X.prog = P → X.w = w → X.K = K → X.calm = true → ∀ (i : Nat) (pins : List (Addr × Obj)) (s : Shared) (σ : St) (H : Hp) (E : L2.VSP), Inv X pins σ H s → (∀ b ∈ fp, FpOk X pins H b) → tn i s.heap → J.go i H →
    wpAny (model P w) X.A (pyNext (.ref it)) (fun r s1 => ∃ u, r = some u ∧
      wpAny (model P w) X.A (letOwnedTupleGo tg (.ref it) u) (fun ψ s2 => ∃ x H', Inv X pins σ H' s2 ∧ RelV x u ∧ J.yld i H x H' ∧ tn (i + 1) s2.heap ∧ ∀ b ∈ fp, H' b = none) E s1) E s
  done : ∀ (X : Cx), X.prog = P → X.w = w → X.K = K → X.calm = true → ∀ (i : Nat) (pins : List (Addr × Obj)) (s : Shared) (σ : St) (H : Hp) (E : L2.VSP), Inv X pins σ H s → (∀ b ∈ fp, FpOk X pins H b) → tn i s.heap → J.stop i H →
    wpAny (model P w) X.A (pyNext (.ref it)) (fun r s1 => r = none ∧ Inv X pins σ H s1) E s
  self : ∀ (A : Around) (i : Nat) (s : Shared) (Q : L2.VSP) (E : L2.VSP), tn i s.heap → Q (.ref it) s → wpAny (model P w) A (pyIter (.ref it)) Q E s
noncomputable abbrev TI := St → Hp → (It → Hp → Prop) → Prop
noncomputable def PIE (X : Cx) (pins : List (Addr × Obj)) (σ : St) (tg : Expr) (R : It → Hp → Prop) (itv : Value) (s2 : Shared) : Prop :=
  ∃ (it : Addr) (fp : List Addr) (tn : Nat → Heap → Prop) (J : It) (H' : Hp), itv = .ref it ∧ Inv X pins σ H' s2 ∧ Turn X.prog X.w X.K tg J fp it tn ∧ tn 0 s2.heap ∧ (∀ b ∈ fp, FpOk X pins H' b) ∧ R J H'
noncomputable def PI (X : Cx) (tg iter : Expr) (wi : TI) : Prop :=
  ∀ (pins : List (Addr × Obj)) (s : Shared) (σ : St) (H : Hp) (R : It → Hp → Prop), Inv X pins σ H s → wi σ H R →
    wpAny (model X.prog X.w) X.A (eval iter X.env) (fun v s1 => wpAny (model X.prog X.w) X.A (pyIter v) (PIE X pins σ tg R) X.xe s1) X.xe s
theorem go_of {M : Model} {A : Around} {E : L2.VSP} {s : Shared} {tg : Expr} {it : Addr} {u : Value} {o : Obj} {n : String} {vs : Array Value} {Q : Unit → Shared → Prop} (ho : s.heap.get? it = some o) (hc : o.cls = .type n) (hd : o.data = .fields vs)
    (hn : ["enumerate", "zip", "dict_itemiterator", "dict_reverseitemiterator", "odict_iterator", "itertools.zip_longest", "itertools.pairwise"].contains n = false) (hQ : Q () s) : wpAny M A (letOwnedTupleGo tg (.ref it) u) Q E s := by
  unfold letOwnedTupleGo
  cases tg <;> first
    | exact wpAny_pure hQ
    | (cases u <;> first
        | exact wpAny_pure hQ
        | (refine wpAny_bind (wpAny_load ho ?_)
           rw [hc, hd]
           show wpAny M A (if (["enumerate", "zip", "dict_itemiterator", "dict_reverseitemiterator", "odict_iterator", "itertools.zip_longest", "itertools.pairwise"].contains n && vs[0]? == some (rawInt _)) = true then _ else _) Q E s
           rw [if_neg (by intro h; rw [hn, Bool.false_and] at h; cases h)]
           exact wpAny_pure hQ))
noncomputable def Itl (K : PySem.W.Frag) (a : Addr) : It :=
  ⟨fun i H => ∃ xs x, SqL K H a xs ∧ xs[i]? = some x, fun i H x H' => H' = H ∧ ∀ xs, SqL K H a xs → xs[i]? = some x, fun i H => ∃ xs, SqL K H a xs ∧ xs.length ≤ i⟩
noncomputable def Itt (K : PySem.W.Frag) (a : Addr) : It :=
  ⟨fun i H => ∃ xs x, SqT K H a xs ∧ xs[i]? = some x, fun i H x H' => H' = H ∧ ∀ xs, SqT K H a xs → xs[i]? = some x, fun i H => ∃ xs, SqT K H a xs ∧ xs.length ≤ i⟩
noncomputable def Itr (lo : Int) (n : Nat) : It := ⟨fun i ψ => i < n, fun i H x H' => H' = H ∧ x = .int (lo + i), fun i ψ => n ≤ i⟩
theorem turn_list {P : Program} {w : World} {K : PySem.W.Frag} {tg : Expr} (a it : Addr) : Turn P w K tg (Itl K a) [it] it (fun i h => h.IsListIter it a i) where
  mem := by simp
  obj := fun i h st b hb => by
    have e : b = it := by simpa using hb
    subst e
    obtain ⟨o, e, c, d⟩ := st
    exact ⟨o, e, fun v z => by rw [d] at z; cases z⟩
  keep := fun i h h' st k => st.at fun o e => k it (by simp) o e
  item := by
    intro X hP hw hK hc i pins s σ H E I hf st hg
    subst hP hw hK
    obtain ⟨xs, x, hq, hx⟩ := hg
    obtain ⟨its, rv, p, hz⟩ := I.list hq
    obtain ⟨u, hu, ru⟩ := rv.get hx
    obtain ⟨f0, f1, f2, f3, f4, f5⟩ := hf it (by simp)
    refine wpAny_pyNext_list_item st p.isList (x := u) (by simpa using hu) fun h' st' sb => ?_
    have I1 : Inv X pins σ H { s with heap := h' } := I.turned (t' := s.toks) (fun b o hb e => (sb.2 b hb).trans e) f0 f1 f3 f4 f5
    obtain ⟨o, e, c, d⟩ := id st'
    exact ⟨u, rfl, go_of (s := { s with heap := h' }) e c d (by decide) ⟨x, H, I1, ru, ⟨rfl, fun ys hy => by rw [I.list_inj hy hq]; exact hx⟩, st', fun b hb => (hf b hb).1⟩⟩
  done := by
    intro X hP hw hK hc i pins s σ H E I hf st hg
    subst hP hw hK
    obtain ⟨xs, hq, hx⟩ := hg
    obtain ⟨its, rv, p, hz⟩ := I.list hq
    obtain ⟨f0, f1, f2, f3, f4, f5⟩ := hf it (by simp)
    have hl := rv.length
    exact wpAny_pyNext_list_end (I.ok.hd hc) st p.isList (by simp; omega) fun h' eb => ⟨rfl, I.turned (t' := s.toks) (fun b o hb e => eb b o hb e) f0 f1 f3 f4 f5⟩
  self := fun ψ ψ ψ ψ ψ st h => wpAny_pyIter_listiter st h
theorem turn_tuple {P : Program} {w : World} {K : PySem.W.Frag} {tg : Expr} (a it : Addr) : Turn P w K tg (Itt K a) [it] it (fun i h => h.IsTupleIter it a i) where
  mem := by simp
  obj := fun i h st b hb => by
    have e : b = it := by simpa using hb
    subst e
    obtain ⟨o, e, c, d⟩ := st
    exact ⟨o, e, fun v z => by rw [d] at z; cases z⟩
  keep := fun i h h' st k => st.at fun o e => k it (by simp) o e
  item := by
    intro X hP hw hK hc i pins s σ H E I hf st hg
    subst hP hw hK
    obtain ⟨xs, x, hq, hx⟩ := hg
    obtain ⟨its, rv, p, hz⟩ := I.tuple hq
    obtain ⟨u, hu, ru⟩ := rv.get hx
    obtain ⟨f0, f1, f2, f3, f4, f5⟩ := hf it (by simp)
    refine wpAny_pyNext_tuple_item st (show s.heap.IsTuple a its.toArray from p) (x := u) (by simpa using hu) fun h' st' sb => ?_
    have I1 : Inv X pins σ H { s with heap := h' } := I.turned (t' := s.toks) (fun b o hb e => (sb.2 b hb).trans e) f0 f1 f3 f4 f5
    obtain ⟨o, e, c, d⟩ := id st'
    exact ⟨u, rfl, go_of (s := { s with heap := h' }) e c d (by decide) ⟨x, H, I1, ru, ⟨rfl, fun ys hy => by rw [I.tuple_inj hy hq]; exact hx⟩, st', fun b hb => (hf b hb).1⟩⟩
  done := by
    intro X hP hw hK hc i pins s σ H E I hf st hg
    subst hP hw hK
    obtain ⟨xs, hq, hx⟩ := hg
    obtain ⟨its, rv, p, hz⟩ := I.tuple hq
    obtain ⟨f0, f1, f2, f3, f4, f5⟩ := hf it (by simp)
    have hl := rv.length
    exact wpAny_pyNext_tuple_end (I.ok.hd hc) st (show s.heap.IsTuple a its.toArray from p) (by simp; omega) fun h' eb => ⟨rfl, I.turned (t' := s.toks) (fun b o hb e => eb b o hb e) f0 f1 f3 f4 f5⟩
  self := fun ψ ψ ψ ψ ψ st h => wpAny_pyIter_tupleiter st h
theorem turn_range {P : Program} {w : World} {K : PySem.W.Frag} {tg : Expr} (it : Addr) (lo : Int) (n : Nat) : Turn P w K tg (Itr lo n) [it] it (fun i h => IsRangeIter h it (lo + (i : Nat) * 1) ((n : Int) - (i : Nat)) 1) where
  mem := by simp
  obj := fun i h st b hb => by
    have e : b = it := by simpa using hb
    subst e
    exact ⟨_, st, fun v z => by
      have z' : Data.fields _ = Data.cell v := z
      cases z'⟩
  keep := fun i h h' st k => k it (by simp) _ st
  item := by
    intro X hP hw hK hc i pins s σ H E I hf st hg
    subst hP hw hK
    obtain ⟨f0, f1, f2, f3, f4, f5⟩ := hf it (by simp)
    have W := Walks.range (prog := X.prog) (w := X.w) (I.ok.hd hc) it lo 1 n
    refine W.item i s _ _ hg st fun v h' tk hv st' kk => ?_
    obtain ⟨t, rfl⟩ := hv
    have I1 : Inv X pins σ H { s with heap := h', toks := tk } := I.turned (fun b o hb e => kk b o (by simpa using hb) e) f0 f1 f3 f4 f5
    refine ⟨_, rfl, go_of (s := { s with heap := h', toks := tk }) (n := "range_iterator") st' rfl rfl (by decide) ⟨.int (lo + i), H, I1, ⟨t, ?_⟩, ⟨rfl, rfl⟩, st', fun b hb => (hf b hb).1⟩⟩
    rw [Int.mul_one]
  done := by
    intro X hP hw hK hc i pins s σ H E I hf st hg
    subst hP hw hK
    obtain ⟨f0, f1, f2, f3, f4, f5⟩ := hf it (by simp)
    exact wpAny_pyNext_range_end (I.ok.hd hc) st (by have : n ≤ i := hg; omega) fun h' eb => ⟨rfl, I.turned (t' := s.toks) (fun b o hb e => eb b o hb e) f0 f1 f3 f4 f5⟩
  self := fun ψ ψ ψ ψ ψ st h => wpAny_pyIter_rangeiter st h
section
variable {X : Cx} {tg : Expr}
theorem range_it {pins : List (Addr × Obj)} {σ : St} {H : Hp} {s : Shared} {R : It → Hp → Prop} {E : L2.VSP} {lo hi : Int} {t u v : Tok} {tk : Nat} (I : Inv X pins σ H s) (h1 : -(2 ^ 62) ≤ lo) (h2 : lo < 2 ^ 62) (h3 : -(2 ^ 62) ≤ hi) (h4 : hi < 2 ^ 62)
    (q : R (Itr lo (hi - lo).toNat) H) : wpAny (model X.prog X.w) X.A (pyIter (.ref s.heap.objs.size)) (PIE X pins σ tg R) E { s with heap := s.heap.push { cls := .type "range", data := .fields #[.int lo t, .int hi u, .int 1 v] }, toks := tk } := by
  refine wpAny_pyIter_range (IsRange.new ..) (small_one h1 h2 h3 h4) ?_
  have I1 : Inv X pins σ H { s with heap := s.heap.push { cls := .type "range", data := .fields #[.int lo t, .int hi u, .int 1 v] }, toks := tk } := I.kept fun b o e => Heap.get?_push_of_some _ e
  refine ⟨(s.heap.push { cls := .type "range", data := .fields #[.int lo t, .int hi u, .int 1 v] }).objs.size, [(s.heap.push { cls := .type "range", data := .fields #[.int lo t, .int hi u, .int 1 v] }).objs.size], _, _, H, rfl,
    I1.kept (t' := tk) fun b o e => Heap.get?_push_of_some _ e, turn_range _ lo (hi - lo).toNat, ?_, fun b hb => ?_, q⟩
  · have e1 : lo + ((0 : Nat) : Int) * 1 = lo := by simp
    have e2 : (((hi - lo).toNat : Nat) : Int) - ((0 : Nat) : Int) = Builtin.Range.rangeSize lo hi 1 := by rw [rangeSize_one]; split <;> omega
    show IsRangeIter _ _ (lo + ((0 : Nat) : Int) * 1) ((((hi - lo).toNat : Nat) : Int) - ((0 : Nat) : Int)) 1
    rw [e1, e2]
    exact Heap.get?_push_size _ rfl
  · have e : b = (s.heap.push { cls := .type "range", data := .fields #[.int lo t, .int hi u, .int 1 v] }).objs.size := by simpa using hb
    subst e
    exact I1.fpOk (Nat.le_refl _) (I1.hok.fresh (Nat.le_refl _))
noncomputable def iRng1 (ta : TA) : TI := fun σ H R => ta σ H fun vs H1 => ∃ j : Int, vs = [.int j] ∧ -(2 ^ 62) ≤ j ∧ j < 2 ^ 62 ∧ R (Itr 0 j.toNat) H1
theorem pi_range1 {a : Expr} {ta : TA} {p pos : Pos} (hg : Gl X "range") (hm : X.mg "range" = none) (ha : PA X [a] ta) (hs : starEach [a] X.env = [(false, eval a X.env)] := by rfl) : PI X tg (.Call (.Name "range" p) [a] [] pos) (iRng1 ta) := by
  intro pins s σ H R I h
  refine Call_ (ld_blt I hg hm boot_range (PyProof.Rows.callWith_type1 (thn (ha pos pins s σ H _ I h) fun us s1 ⟨vs, H1, I1, r1, q1⟩ => ?_) hs rfl))
  obtain ⟨j, e, q1, q2, q⟩ := q1
  subst e
  cases r1 with
  | cons r rr =>
    cases rr
    obtain ⟨t, rfl⟩ := r
    exact call_range_1 (range_it I1 (by omega) (by omega) q1 q2 (by simpa using q))
noncomputable def tFor (wi : TI) (g : TG) (tb : TS) : TS := fun D σ H => wi σ H fun J H1 => ∃ W : Nat → Nat → St → Hp → Prop, (∃ m, W 0 m σ H1) ∧ ∀ i m σ H, W i m σ H →
  (J.stop i H ∧ D.nx σ H) ∨ (J.go i H ∧ ∃ N : St → Hp → Prop, (∀ σ' H', N σ' H' → ∃ m', m' < m ∧ W (i + 1) m' σ' H') ∧ ∀ x H', J.yld i H x H' → g x σ H' fun σ2 H2 => tb { D with nx := N, ct := N, bk := D.nx } σ2 H2)
noncomputable def pinsAt (fp : List Addr) (h : Heap) : List (Addr × Obj) := fp.filterMap fun b => (h.get? b).map fun o => (b, o)
theorem mem_pinsAt {fp : List Addr} {h : Heap} {b : Addr} {o : Obj} (hb : b ∈ fp) (e : h.get? b = some o) : (b, o) ∈ pinsAt fp h := List.mem_filterMap.mpr ⟨b, hb, by rw [e]; rfl⟩
theorem of_pinsAt {fp : List Addr} {h : Heap} {p : Addr × Obj} (hp : p ∈ pinsAt fp h) : p.1 ∈ fp ∧ h.get? p.1 = some p.2 := by
  obtain ⟨b, hb, e⟩ := List.mem_filterMap.mp hp
  cases q : h.get? b with
  | none => rw [q] at e; cases e
  | some o =>
    rw [q] at e
    have e' : (b, o) = p := Option.some.inj e
    subst e'
    exact ⟨hb, q⟩
theorem Inv.pinned {pins : List (Addr × Obj)} {σ : St} {H : Hp} {s : Shared} {fp : List Addr} (I : Inv X pins σ H s) (hf : ∀ b ∈ fp, FpOk X pins H b) (ho : ∀ b ∈ fp, ∃ o, s.heap.get? b = some o ∧ ∀ v, o.data ≠ .cell v) : Inv X (pins ++ pinsAt fp s.heap) σ H s :=
  I.pins_of fun p hp => (List.mem_append.mp hp).elim (fun z => I.pin p (List.mem_append_right _ z)) fun z => by
    obtain ⟨hb, e⟩ := of_pinsAt z
    obtain ⟨f0, f1, f2, _⟩ := hf p.1 hb
    obtain ⟨o, e', d⟩ := ho p.1 hb
    rw [e] at e'; cases e'
    exact ⟨e, f0, f1, f2, d⟩
theorem Inv.unpinned {pins pl : List (Addr × Obj)} {σ : St} {H : Hp} {s : Shared} (I : Inv X (pins ++ pl) σ H s) : Inv X pins σ H s := I.pins_of fun p hp => I.pin p (List.mem_append_right _ (List.mem_append_left _ hp))
theorem ps_for {iter : Expr} {body : List Stmt} {wi : TI} {g : TG} {tb : TS} {pos : Pos} (hp : PassesOwn (model X.prog X.w) X.A X.env X.xe) (hc : X.calm = true) (hi : PI X tg iter wi) (hg : PG X tg g) (hb : PSs X body tb)
    (hs : ∀ x, foldedSetIterable iter X.env x = pure x := by intro ψ; rfl) : PS X (.For tg iter body [] pos) (tFor wi g tb) := by
  intro pins s σ H D I h
  refine wpAny_For (thn (hi pins s σ H _ I h) fun v s1 h1 => thn h1 fun itv s2 h2 => ?_) hs
  obtain ⟨it, fp, tn, J, H2, e, I2, T, st2, f2, W, ⟨m0, w0⟩, turn⟩ := h2
  subst e
  have stat : ∀ {H' : Hp}, (∀ b ∈ fp, H' b = none) → ∀ b ∈ fp, FpOk X pins H' b := fun hn b hb => ⟨hn b hb, (f2 b hb).2⟩
  refine codeAny_forLoop_any (fun n s' => ∃ i σ' H', Inv X pins σ' H' s' ∧ tn i s'.heap ∧ (∀ b ∈ fp, H' b = none) ∧ W i n σ' H') ?_ m0 ⟨0, σ, H2, I2, st2, fun b hb => (f2 b hb).1, w0⟩
  rintro n s3 ⟨i, σ3, H3, I3, st3, fr3, w3⟩
  rcases turn i n σ3 H3 w3 with ⟨stop, qn⟩ | ⟨go, N, hN, step⟩
  · refine wpAny_passesOwn hp (thn (T.done X rfl rfl rfl hc i pins s3 σ3 H3 X.xe I3 (stat fr3) st3 stop) fun r s4 ⟨hr, I4⟩ => ?_)
    subst hr
    exact wpAny_execs_nil ⟨σ3, H3, I4, qn⟩
  · refine wpAny_passesOwn hp (thn (T.item X rfl rfl rfl hc i pins s3 σ3 H3 X.xe I3 (stat fr3) st3 go) fun r s4 ⟨u, hr, h4⟩ => ?_)
    subst hr
    refine wpAny_passesOwn hp (thn h4 fun _ s5 ⟨x, H5, I5, r5, y5, st5, fr5⟩ => ?_)
    have I5' := I5.pinned (stat fr5) (T.obj _ _ st5)
    refine wpAny_passesOwn hp (thn (hg _ s5 σ3 H5 x u _ I5' r5 (step x H5 y5)) fun _ s6 ⟨σ6, H6, I6, q6⟩ => ?_)
    refine wpAny_passesOwn hp (thn (hb _ s6 σ6 H6 _ I6 q6) fun f s7 q7 => ?_)
    have again : ∀ {σ7 : St} {H7 : Hp}, Inv X (pins ++ pinsAt fp s5.heap) σ7 H7 s7 → N σ7 H7 → ∃ m, m < n ∧ ∃ i σ' H', Inv X pins σ' H' s7 ∧ tn i s7.heap ∧ (∀ b ∈ fp, H' b = none) ∧ W i m σ' H' := fun {σ7 H7} I7 n7 => by
      obtain ⟨m', hm, w7⟩ := hN σ7 H7 n7
      refine ⟨m', hm, i + 1, σ7, H7, I7.unpinned, T.keep _ _ _ st5 fun b hb o e => (I7.pin (b, o) (List.mem_append_right _ (List.mem_append_right _ (mem_pinsAt hb e)))).1, fun b hb => ?_, w7⟩
      obtain ⟨o, e, d⟩ := T.obj _ _ st5 b hb
      exact (I7.pin (b, o) (List.mem_append_right _ (List.mem_append_right _ (mem_pinsAt hb e)))).2.1
    cases f with
    | next => obtain ⟨σ7, H7, I7, n7⟩ := q7; exact again I7 n7
    | cont => obtain ⟨σ7, H7, I7, n7⟩ := q7; exact again I7 n7
    | brk => obtain ⟨σ7, H7, I7, q7⟩ := q7; exact ⟨σ7, H7, I7.unpinned, q7⟩
    | ret v => obtain ⟨x7, σ7, H7, I7, r7, q7⟩ := q7; exact ⟨x7, σ7, H7, I7.unpinned, r7, q7⟩
end
noncomputable abbrev R2 := V → V → Hp → VK → Prop
noncomputable def OpR (X : Cx) (f : Value → Value → Sem Value) (r : R2) : Prop :=
  ∀ (pins : List (Addr × Obj)) (s : Shared) (σ : St) (H : Hp) (x y : V) (v u : Value) (Q : VK), Inv X pins σ H s → RelV x v → RelV y u → r x y H Q →
    wpAny (model X.prog X.w) X.A (f v u) (EP X pins σ Q) X.xe s
noncomputable def UnR (X : Cx) (f : Value → Sem Value) (r : V → Hp → VK → Prop) : Prop :=
  ∀ (pins : List (Addr × Obj)) (s : Shared) (σ : St) (H : Hp) (x : V) (v : Value) (Q : VK), Inv X pins σ H s → RelV x v → r x H Q →
    wpAny (model X.prog X.w) X.A (f v) (EP X pins σ Q) X.xe s
noncomputable def CallR (X : Cx) (f : Value) (r : List V → Hp → VK → Prop) : Prop :=
  ∀ (pins : List (Addr × Obj)) (s : Shared) (σ : St) (H : Hp) (xs : List V) (us : List Value) (Q : VK), Inv X pins σ H s → Vals xs us → r xs H Q →
    wpAny (model X.prog X.w) X.A (call f us) (EP X pins σ Q) X.xe s
noncomputable def tOp (r : R2) (ta tb : TE) : TE := fun σ H Q => ta σ H fun x H1 => tb σ H1 fun y H2 => r x y H2 Q
noncomputable def tUn (r : V → Hp → VK → Prop) (ta : TE) : TE := fun σ H Q => ta σ H fun x H1 => r x H1 Q
noncomputable def rI (C : Int → Int → Prop) (g : Int → Int → V) : R2 := fun x y H Q => ∃ i j, x = .int i ∧ y = .int j ∧ C i j ∧ Q (g i j) H
noncomputable def rI0 (g : Int → Int → V) : R2 := fun x y H Q => ∃ i j, x = .int i ∧ y = .int j ∧ Q (g i j) H
noncomputable def rU (g : Int → V) : V → Hp → VK → Prop := fun x H Q => ∃ i, x = .int i ∧ Q (g i) H
section
variable {X : Cx} {a b c : Expr} {ta tb tc : TE} {pos : Pos}
theorem binT (ha : PE X a ta) (hb : PE X b tb) {pins : List (Addr × Obj)} {s : Shared} {σ : St} {H : Hp} {R : V → V → Hp → Prop} (I : Inv X pins σ H s)
    (h : ta σ H fun x H1 => tb σ H1 fun y H2 => R x y H2) {Q : L2.VSP} {f : Value → Value → Sem Value}
    (hf : ∀ v u s2 x y H2, Inv X pins σ H2 s2 → RelV x v → RelV y u → R x y H2 → wpAny (model X.prog X.w) X.A (f v u) Q X.xe s2) :
    wpAny (model X.prog X.w) X.A (eval a X.env) (fun v s₁ => wpAny (model X.prog X.w) X.A (eval b X.env) (fun u s₂ => wpAny (model X.prog X.w) X.A (f v u) Q X.xe s₂) X.xe s₁) X.xe s := by
  refine thn (ha pins s σ H _ I h) fun v s1 ⟨x, H1, I1, r1, q1⟩ => ?_
  refine thn (hb pins s1 σ H1 _ I1 q1) fun u s2 ⟨y, H2, I2, r2, q2⟩ => ?_
  exact hf v u s2 x y H2 I2 r1 r2 q2
theorem pe_op {op : Operator} {r : R2} (ho : OpR X (binaryOp op) r) (ha : PE X a ta) (hb : PE X b tb) : PE X (.BinOp a op b pos) (tOp r ta tb) := by
  intro pins s σ H Q I h
  exact wpAny_BinOp (binT ha hb I h fun v u s2 x y H2 I2 rx ry q => ho pins s2 σ H2 x y v u Q I2 rx ry q)
theorem pe_un {op : UnaryOp} {r : V → Hp → VK → Prop} (ho : UnR X (unaryOp op) r) (ha : PE X a ta) : PE X (.UnaryOp op a pos) (tUn r ta) := by
  intro pins s σ H Q I h
  exact UnaryOp_ (thn (ha pins s σ H _ I h) fun v s1 ⟨x, H1, I1, r1, q1⟩ => ho pins s1 σ H1 x v Q I1 r1 q1)
theorem opI {f : Value → Value → Sem Value} {C : Int → Int → Prop} {g : Int → Int → Int}
    (rule : ∀ (i j : Int) (t u : Tok) (s : Shared) (Q : L2.VSP) (E : L2.VSP), C i j → Q (.int (g i j) s.toks) { s with toks := s.toks + 1 } → wpAny (model X.prog X.w) X.A (f (.int i t) (.int j u)) Q E s) :
    OpR X f (rI C fun i j => .int (g i j)) := by
  intro pins s σ H x y v u Q I rx ry h
  obtain ⟨i, j, rfl, rfl, hc, q⟩ := h
  obtain ⟨t, rfl⟩ := rx
  obtain ⟨t', rfl⟩ := ry
  exact rule i j t t' s _ _ hc ⟨.int (g i j), H, I.tok _, ⟨_, rfl⟩, q⟩
theorem opI0 {f : Value → Value → Sem Value} {g : Int → Int → Int}
    (rule : ∀ (i j : Int) (t u : Tok) (s : Shared) (Q : L2.VSP) (E : L2.VSP), Q (.int (g i j) s.toks) { s with toks := s.toks + 1 } → wpAny (model X.prog X.w) X.A (f (.int i t) (.int j u)) Q E s) :
    OpR X f (rI0 fun i j => .int (g i j)) := by
  intro pins s σ H x y v u Q I rx ry h
  obtain ⟨i, j, rfl, rfl, q⟩ := h
  obtain ⟨t, rfl⟩ := rx
  obtain ⟨t', rfl⟩ := ry
  exact rule i j t t' s _ _ ⟨.int (g i j), H, I.tok _, ⟨_, rfl⟩, q⟩
theorem opB0 {f : Value → Value → Sem Value} {g : Int → Int → Bool}
    (rule : ∀ (i j : Int) (t u : Tok) (s : Shared) (Q : L2.VSP) (E : L2.VSP), Q (.bool (g i j)) s → wpAny (model X.prog X.w) X.A (f (.int i t) (.int j u)) Q E s) :
    OpR X f (rI0 fun i j => .bl (g i j)) := by
  intro pins s σ H x y v u Q I rx ry h
  obtain ⟨i, j, rfl, rfl, q⟩ := h
  obtain ⟨t, rfl⟩ := rx
  obtain ⟨t', rfl⟩ := ry
  exact rule i j t t' s _ _ ⟨.bl (g i j), H, I, rfl, q⟩
noncomputable def CPow (i j : Int) : Prop := 0 ≤ j ∧ j ≤ 1000000 ∧ i.natAbs < 2 ^ 64
noncomputable def CMul (i j : Int) : Prop := (-(2 ^ 64) < i ∧ i < 2 ^ 64) ∨ (-(2 ^ 64) < j ∧ j < 2 ^ 64)
theorem CMul.ok {i j : Int} (h : CMul i j) : IntMulOk i j := by
  rcases h with ⟨h1, h2⟩ | ⟨h1, h2⟩
  · exact .of_left (intBits_le_64 h1 h2)
  · exact .of_right (intBits_le_64 h1 h2)
theorem two_pow_nn (k : Nat) : (0 : Int) ≤ 2 ^ k := by
  rw [two_pow_cast]
  exact Int.natCast_nonneg _
theorem op_add : OpR X (binaryOp .Add) (rI0 fun i j => .int (i + j)) := opI0 fun ψ ψ ψ ψ ψ ψ ψ q => add_int q
theorem op_sub : OpR X (binaryOp .Sub) (rI0 fun i j => .int (i - j)) := opI0 fun ψ ψ ψ ψ ψ ψ ψ q => sub_int q
theorem op_mod : OpR X (binaryOp .Mod) (rI (fun ψ j => 0 < j) fun i j => .int (i % j)) := opI fun i j ψ ψ ψ ψ ψ hc q => by
  have h1 : (0 : Int) < j := hc
  exact mod_int' (by omega) (by rw [Int.fmod_eq_emod_of_nonneg i (by omega)]; exact q)
theorem op_pow : OpR X (binaryOp .Pow) (rI CPow fun i j => .int (i ^ j.toNat)) := opI fun ψ ψ ψ ψ ψ ψ ψ hc q => pow_int_small hc.1 hc.2.1 hc.2.2 q
theorem iop_sub : OpR X (inplaceOp .Sub) (rI0 fun i j => .int (i - j)) := opI0 fun ψ ψ ψ ψ ψ ψ ψ q => isub_int q
theorem unI {f : Value → Sem Value} {g : Int → Int}
    (rule : ∀ (i : Int) (t : Tok) (s : Shared) (Q : L2.VSP) (E : L2.VSP), Q (.int (g i) s.toks) { s with toks := s.toks + 1 } → wpAny (model X.prog X.w) X.A (f (.int i t)) Q E s) :
    UnR X f (rU fun i => .int (g i)) := by
  intro pins s σ H x v Q I rx h
  obtain ⟨i, rfl, q⟩ := h
  obtain ⟨t, rfl⟩ := rx
  exact rule i t s _ _ ⟨.int (g i), H, I.tok _, ⟨_, rfl⟩, q⟩
theorem un_neg : UnR X (unaryOp .USub) (rU fun i => .int (-i)) := unI fun ψ ψ ψ ψ ψ q => neg_int q
end
noncomputable def scal : V → V → Bool
  | .non, .non => true | .non, .int _ => true | .int _, .non => true | .non, .bl _ => true | .bl _, .non => true | .non, .str _ => true | .str _, .non => true
  | .int _, .int _ => true | .bl _, .bl _ => true | .str _, .str _ => true | .byt _, .byt _ => true
  | .int _, .str _ => true | .str _, .int _ => true | .bl _, .str _ => true | .str _, .bl _ => true
  | _, _ => false
noncomputable def rEq : R2 := fun x y H Q => scal x y = true ∧ Q (.bl (decide (x = y))) H
noncomputable def rNe : R2 := fun x y H Q => scal x y = true ∧ Q (.bl (!decide (x = y))) H
theorem dec_int {i j : Int} : decide (V.int i = V.int j) = (i == j) := by
  rw [Bool.eq_iff_iff]
  simp
theorem dec_bl {i j : Bool} : decide (V.bl i = V.bl j) = (i == j) := by
  rw [Bool.eq_iff_iff]
  simp
theorem dec_str {i j : Str} : decide (V.str i = V.str j) = (i == j) := by
  rw [Bool.eq_iff_iff]
  simp
theorem dec_byt {i j : Array UInt8} : decide (V.byt i = V.byt j) = (i.toList == j.toList) := by
  rw [Bool.eq_iff_iff]
  cases i
  cases j
  simp
section
variable {X : Cx} {a b c : Expr} {ta tb tc : TE} {pos : Pos}
theorem fin_bl {pins : List (Addr × Obj)} {σ : St} {H : Hp} {s : Shared} {Q : VK} {k k' : Bool} (I : Inv X pins σ H s) (q : Q (.bl k) H) (e : k = k') : EP X pins σ Q (.bool k') s := by
  subst e
  exact ⟨.bl k, H, I, rfl, q⟩
theorem op_eq : OpR X (compareOp .Eq) rEq := by
  intro pins s σ H x y v u Q I rx ry h
  obtain ⟨hs, q⟩ := h
  cases x with
  | non =>
    cases rx
    cases y with
    | non => cases ry; exact PySem.EqNone.eq_none_none (fin_bl I q (by simp))
    | bl j => cases ry; exact PySem.EqNone.eq_none_bool (fin_bl I q (by simp))
    | int j => obtain ⟨t', rfl⟩ := ry; exact PySem.EqNone.eq_none_int (fin_bl I q (by simp))
    | str j => obtain ⟨t', rfl⟩ := ry; exact PySem.EqNone.eq_none_str (fin_bl I q (by simp))
    | _ => exact absurd (show false = true from hs) Bool.false_ne_true
  | bl i =>
    cases rx
    cases y with
    | non => cases ry; exact PySem.EqNone.eq_bool_none (fin_bl I q (by simp))
    | bl j => cases ry; exact eq_bool (fin_bl I q dec_bl)
    | str j => obtain ⟨t', rfl⟩ := ry; exact PySem.EqMixed.eq_bool_str (fin_bl I q (by simp))
    | _ => exact absurd (show false = true from hs) Bool.false_ne_true
  | int i =>
    obtain ⟨t, rfl⟩ := rx
    cases y with
    | non => cases ry; exact PySem.EqNone.eq_int_none (fin_bl I q (by simp))
    | int j => obtain ⟨t', rfl⟩ := ry; exact eq_int (fin_bl I q dec_int)
    | str j => obtain ⟨t', rfl⟩ := ry; exact PySem.EqMixed.eq_int_str (fin_bl I q (by simp))
    | _ => exact absurd (show false = true from hs) Bool.false_ne_true
  | str i =>
    obtain ⟨t, rfl⟩ := rx
    cases y with
    | non => cases ry; exact PySem.EqNone.eq_str_none (fin_bl I q (by simp))
    | bl j => cases ry; exact PySem.EqMixed.eq_str_bool (fin_bl I q (by simp))
    | int j => obtain ⟨t', rfl⟩ := ry; exact PySem.EqMixed.eq_str_int (fin_bl I q (by simp))
    | str j => obtain ⟨t', rfl⟩ := ry; exact eq_str (fin_bl I q dec_str)
    | _ => exact absurd (show false = true from hs) Bool.false_ne_true
  | byt i =>
    obtain ⟨t, rfl⟩ := rx
    cases y with
    | byt j => obtain ⟨t', rfl⟩ := ry; exact PySem.W.eq_bytes (fin_bl I q dec_byt)
    | _ => exact absurd (show false = true from hs) Bool.false_ne_true
  | _ => cases y <;> exact absurd (show false = true from hs) Bool.false_ne_true
theorem op_ne : OpR X (compareOp .NotEq) rNe := by
  intro pins s σ H x y v u Q I rx ry h
  obtain ⟨hs, q⟩ := h
  cases x with
  | non =>
    cases rx
    cases y with
    | non => cases ry; exact PySem.EqNone.ne_none_none (fin_bl I q (by simp))
    | bl j => cases ry; exact PySem.EqNone.ne_none_bool (fin_bl I q (by simp))
    | int j => obtain ⟨t', rfl⟩ := ry; exact PySem.EqNone.ne_none_int (fin_bl I q (by simp))
    | str j => obtain ⟨t', rfl⟩ := ry; exact PySem.EqNone.ne_none_str (fin_bl I q (by simp))
    | _ => exact absurd (show false = true from hs) Bool.false_ne_true
  | bl i =>
    cases rx
    cases y with
    | non => cases ry; exact PySem.EqNone.ne_bool_none (fin_bl I q (by simp))
    | bl j => cases ry; exact ne_bool (fin_bl I q (congrArg not dec_bl))
    | str j => obtain ⟨t', rfl⟩ := ry; exact PySem.EqMixed.ne_bool_str (fin_bl I q (by simp))
    | _ => exact absurd (show false = true from hs) Bool.false_ne_true
  | int i =>
    obtain ⟨t, rfl⟩ := rx
    cases y with
    | non => cases ry; exact PySem.EqNone.ne_int_none (fin_bl I q (by simp))
    | int j => obtain ⟨t', rfl⟩ := ry; exact ne_int (fin_bl I q (congrArg not dec_int))
    | str j => obtain ⟨t', rfl⟩ := ry; exact PySem.EqMixed.ne_int_str (fin_bl I q (by simp))
    | _ => exact absurd (show false = true from hs) Bool.false_ne_true
  | str i =>
    obtain ⟨t, rfl⟩ := rx
    cases y with
    | non => cases ry; exact PySem.EqNone.ne_str_none (fin_bl I q (by simp))
    | bl j => cases ry; exact PySem.EqMixed.ne_str_bool (fin_bl I q (by simp))
    | int j => obtain ⟨t', rfl⟩ := ry; exact PySem.EqMixed.ne_str_int (fin_bl I q (by simp))
    | str j => obtain ⟨t', rfl⟩ := ry; exact ne_str (fin_bl I q (congrArg not dec_str))
    | _ => exact absurd (show false = true from hs) Bool.false_ne_true
  | byt i =>
    obtain ⟨t, rfl⟩ := rx
    cases y with
    | byt j => obtain ⟨t', rfl⟩ := ry; exact PySem.W.ne_bytes (fin_bl I q (congrArg not dec_byt))
    | _ => exact absurd (show false = true from hs) Bool.false_ne_true
  | _ => cases y <;> exact absurd (show false = true from hs) Bool.false_ne_true
theorem op_lt : OpR X (compareOp .Lt) (rI0 fun i j => .bl (decide (i < j))) := opB0 fun ψ ψ ψ ψ ψ ψ ψ q => lt_int q
theorem op_le : OpR X (compareOp .LtE) (rI0 fun i j => .bl (decide (i ≤ j))) := opB0 fun ψ ψ ψ ψ ψ ψ ψ q => le_int q
theorem op_gt : OpR X (compareOp .Gt) (rI0 fun i j => .bl (decide (j < i))) := opB0 fun ψ ψ ψ ψ ψ ψ ψ q => gt_int q
theorem op_ge : OpR X (compareOp .GtE) (rI0 fun i j => .bl (decide (j ≤ i))) := opB0 fun ψ ψ ψ ψ ψ ψ ψ q => ge_int q
theorem op_notN : OpR X (compareOp .IsNot) (fun x y H Q => y = .non ∧ Q (.bl (!decide (x = .non))) H) := by
  intro pins s σ H x y v u Q I rx ry h
  obtain ⟨rfl, q⟩ := h
  cases ry
  refine isnot_none_gen (fin_bl I q ?_)
  cases x <;> first
    | (cases rx; rfl)
    | (obtain ⟨t, rfl⟩ := rx; rfl)
theorem OpR.or {f : Value → Value → Sem Value} {r r' : R2} (h : OpR X f r) (h' : OpR X f r') : OpR X f (fun x y H Q => r x y H Q ∨ r' x y H Q) := by
  intro pins s σ H x y v u Q I rx ry q
  rcases q with q | q
  · exact h pins s σ H x y v u Q I rx ry q
  · exact h' pins s σ H x y v u Q I rx ry q
theorem nomark (b : Expr) {op : CmpOp} (h : op ≠ .In := by decide) (h2 : op ≠ .NotIn := by decide) : behindInMarks op b = false := by
  have e1 : (op == CmpOp.In) = false := by cases op <;> first | rfl | exact absurd rfl h
  have e2 : (op == CmpOp.NotIn) = false := by cases op <;> first | rfl | exact absurd rfl h2
  cases b <;> simp [behindInMarks, e1, e2]
theorem pe_cmpR {op : CmpOp} {r : R2} (ho : OpR X (compareOp op) r) (ha : PE X a ta) (hb : PE X b tb) (hm : behindInMarks op b = false) : PE X (.Compare a [op] [b] pos) (tOp r ta tb) := by
  intro pins s σ H Q I h
  exact wpAny_Compare1 (binT ha hb I h fun v u s2 x y H2 I2 rx ry q => ho pins s2 σ H2 x y v u Q I2 rx ry q) hm
noncomputable def tTest (t : TE) : TT := fun σ H Q => t σ H fun x H' => ∃ k, x = .bl k ∧ Q k H'
theorem pt_cmpR {op : CmpOp} {r : R2} (ho : OpR X (compareOp op) r) (ha : PE X a ta) (hb : PE X b tb) (hm : behindInMarks op b = false) : PT X (.Compare a [op] [b] pos) (tTest (tOp r ta tb)) := by
  intro pins s σ H Q I h
  refine wpAny_isTrue_Compare1 (thn (ha pins s σ H _ I h) fun v s1 ⟨x, H1, I1, r1, q1⟩ => thn (hb pins s1 σ H1 _ I1 q1) fun u s2 ⟨y, H2, I2, r2, q2⟩ =>
    thn (ho pins s2 σ H2 x y v u _ I2 r1 r2 q2) fun c s3 ⟨z, H3, I3, r3, k, e, q3⟩ => ?_) hm
  subst e
  cases r3
  exact wpAny_truthy_bool ⟨H3, I3, q3⟩
noncomputable def tChain (r r' : R2) (ta tb tc : TE) : TE := fun σ H Q => ta σ H fun x H1 => tb σ H1 fun y H2 => r x y H2 fun z H3 => ∃ k, z = .bl k ∧
  (if k = true then tc σ H3 fun w' H4 => r' y w' H4 Q else Q (.bl false) H3)
theorem pt_chain {op op' : CmpOp} {r r' : R2} (ho : OpR X (compareOp op) r) (ho' : OpR X (compareOp op') r') (ha : PE X a ta) (hb : PE X b tb) (hc : PE X c tc)
    (hm : lastMarks [op, op'] [b, c] = false := by with_unfolding_all rfl) : PT X (.Compare a [op, op'] [b, c] pos) (tTest (tChain r r' ta tb tc)) := by
  intro pins s σ H Q I h
  refine isTrue_chain (thn (ha pins s σ H _ I h) fun v s1 ⟨x, H1, I1, r1, q1⟩ => test_link (thn (hb pins s1 σ H1 _ I1 q1) fun u s2 ⟨y, H2, I2, r2, q2⟩ =>
    thn (ho pins s2 σ H2 x y v u _ I2 r1 r2 q2) fun d s3 ⟨z, H3, I3, r3, k, e, q3⟩ => ?_)) hm
  subst e
  cases r3
  refine wpAny_truthy_bool ?_
  cases k with
  | false =>
    obtain ⟨k', e', q'⟩ := q3
    cases e'
    exact ite_ff ⟨H3, I3, q'⟩
  | true =>
    refine ite_tt (test_last (thn (hc pins s3 σ H3 _ I3 q3) fun w' s4 ⟨z', H4, I4, r4, q4⟩ => thn (ho' pins s4 σ H4 y z' u w' _ I4 r2 r4 q4) fun d' s5 ⟨z2, H5, I5, r5, k2, e2, q5⟩ => ?_))
    subst e2
    cases r5
    exact wpAny_truthy_bool ⟨H5, I5, q5⟩
theorem line63 : (sizeLine : Nat) < 2 ^ 63 := by rw [sizeLine_eq]; decide
theorem vals1 {x : V} {us : List Value} (r : Vals [x] us) : ∃ u, us = [u] ∧ RelV x u := by
  cases r with
  | cons r1 r2 => cases r2; exact ⟨_, rfl, r1⟩
theorem vals2 {x y : V} {us : List Value} (r : Vals [x, y] us) : ∃ u w', us = [u, w'] ∧ RelV x u ∧ RelV y w' := by
  cases r with
  | cons r1 r2 =>
    cases r2 with
    | cons r3 r4 => cases r4; exact ⟨_, _, rfl, r1, r3⟩
theorem call_abs : CallR X (.builtin "abs") (fun xs H Q => ∃ i, xs = [.int i] ∧ Q (.int (if i < 0 then -i else i)) H) := by
  intro pins s σ H xs us Q I r h
  obtain ⟨i, rfl, q⟩ := h
  obtain ⟨u, rfl, t, rfl⟩ := vals1 r
  exact call_abs_int fun u tk => ⟨.int (if i < 0 then -i else i), H, I.tok _, ⟨_, rfl⟩, q⟩
theorem call_max2 (hc : X.calm = true) : CallR X (.builtin "max") (fun xs H Q => ∃ i j, xs = [.int i, .int j] ∧ Q (.int (if j > i then j else i)) H) := by
  intro pins s σ H xs us Q I r h
  obtain ⟨i, j, rfl, q⟩ := h
  obtain ⟨u, w', rfl, ⟨t, rfl⟩, ⟨t', rfl⟩⟩ := vals2 r
  refine max_two_ints (I.ok.hd hc) fun h' tk k => ⟨_, H, I.kept k, ?_, q⟩
  by_cases hj : j > i
  · rw [if_pos hj, if_pos hj]; exact ⟨_, rfl⟩
  · rw [if_neg hj, if_neg hj]; exact ⟨_, rfl⟩
theorem call_min2 (hc : X.calm = true) : CallR X (.builtin "min") (fun xs H Q => ∃ i j, xs = [.int i, .int j] ∧ Q (.int (if j < i then j else i)) H) := by
  intro pins s σ H xs us Q I r h
  obtain ⟨i, j, rfl, q⟩ := h
  obtain ⟨u, w', rfl, ⟨t, rfl⟩, ⟨t', rfl⟩⟩ := vals2 r
  refine min_two_ints (I.ok.hd hc) fun h' tk k => ⟨_, H, I.kept k, ?_, q⟩
  by_cases hj : j < i
  · rw [if_pos hj, if_pos hj]; exact ⟨_, rfl⟩
  · rw [if_neg hj, if_neg hj]; exact ⟨_, rfl⟩
theorem call_int1 : CallR X (.type "int") (fun xs H Q => (∃ i, xs = [.int i] ∧ Q (.int i) H) ∨ ∃ k, xs = [.bl k] ∧ Q (.int (if k then 1 else 0)) H) := by
  intro pins s σ H xs us Q I r h
  rcases h with ⟨i, rfl, q⟩ | ⟨k, rfl, q⟩
  · obtain ⟨u, rfl, t, rfl⟩ := vals1 r
    exact call_int_int ⟨.int i, H, I, ⟨_, rfl⟩, q⟩
  · obtain ⟨u, rfl, r1⟩ := vals1 r
    cases r1
    exact call_int_bool ⟨.int (if k then 1 else 0), H, I.tok _, ⟨_, rfl⟩, q⟩
end
structure ObjM (h : Heap) (x dx C : Addr) (mA : L2.SV) : Prop where
  obj : h.get? x = some (PySem.W.instObj C dx)
  ns : h.Ns1 dx mA
  ne : dx ≠ x
theorem lookIn_ns {h : Heap} {dx : Addr} {mA : L2.SV} (n : h.Ns1 dx mA) : ∃ od, h.get? dx = some od ∧ ∀ name, PySem.W.lookIn name od = some (mA name) := by
  obtain ⟨o, es, ep, ho, hd, hk, _, hm⟩ := n
  refine ⟨o, ho, fun name => ?_⟩
  have e := hm name
  unfold nsFind findBy at e
  rw [← Array.find?_toList] at e
  unfold PySem.W.lookIn
  rw [hd]
  dsimp only
  split
  · rename_i y q
    rw [q] at e
    exact congrArg some e
  · rename_i q
    rw [q] at e
    have a : es.toList.any (·.refKey) = false := by
      rw [List.any_eq_false]
      intro y hy
      obtain ⟨z, t, hkey⟩ := hk y (Array.mem_toList_iff.mp hy)
      simp [DictEntry.refKey, hkey]
    have a' : ¬ es.toList.any (·.refKey) = true := by rw [a]; exact Bool.false_ne_true
    rw [if_neg a']
    exact congrArg some e
theorem ObjM.look {h : Heap} {x dx C : Addr} {mA : L2.SV} (I : ObjM h x dx C mA) : ∃ od, PySem.W.InstAt h x (PySem.W.instObj C dx) C (some od) ∧ ∀ name, PySem.W.lookIn name od = some (mA name) :=
  let ⟨od, ho, hl⟩ := lookIn_ns I.ns
  ⟨od, ⟨I.obj, rfl, rfl, ho⟩, hl⟩
section
variable {prog : Program} {w : World} {A : Around} {E : L2.VSP} {s : Shared} {K : PySem.W.Frag} {x dx C f : Addr} {mA : L2.SV} {name : Str} {v : Value}
end
section
variable {P : Program} {w : World} {H H' : Hp} {h h' : Heap} {a C dx : Addr} {fs fs' : List (Str × V)}
theorem ins_get (hok : HOk P w H h) (e : H a = some (.ins C dx fs)) : ∃ mA, ObjM h a dx C mA ∧ (∀ f, RelO (fs.lookup f) (mA f)) ∧ PySem.Within mA (fs.map (·.1)) ∧ fs.length ≤ 1000 ∧ H dx = some (.own a) := by
  obtain ⟨d, z, ne, ob, mA, n, r, q⟩ := (show ObjOk P w H h a (.ins C dx fs) from hok a _ e)
  exact ⟨mA, ⟨ob, n, ne⟩, r, q, z, d⟩
end
structure Cls (K : PySem.W.Frag) (C : Addr) : Prop where
  pg : PySem.W.plainGet K C Str.empty = true
  hd : PySem.W.hasDictIn K C = true
  po : PySem.W.plainOver K C = true
  sa : PySem.W.findIn K (.ref C) "__setattr__" = some (some (.builtin "object.__setattr__"))
theorem Cls.get {K : PySem.W.Frag} {C : Addr} (c : Cls K C) (f : Str) : PySem.W.plainGet K C f = true := c.pg
section
variable {X : Cx} {pins : List (Addr × Obj)} {σ : St} {H : Hp} {s : Shared} {a C dx : Addr} {fs : List (Str × V)} {f : Str} {v : V} {A : Around} {E : L2.VSP}
end
section
variable {X : Cx} {o e value : Expr} {f : Str} {pos pos' tpos : Pos} {ta tv : TE}
end
section
variable {X : Cx} {pins : List (Addr × Obj)} {σ : St} {H : Hp} {s : Shared} {A : Around} {E : L2.VSP} {Q : L2.VSP} {c : Value} {b : Bool}
inductive TyOf (K : PySem.W.Frag) (H : Hp) : V → Value → Prop where
  | non : TyOf K H .non (.type "NoneType")
  | bl (x : Bool) : TyOf K H (.bl x) (.type "bool")
  | int (i : Int) : TyOf K H (.int i) (.type "int")
  | str (x : Str) : TyOf K H (.str x) (.type "str")
  | flt (x : UInt64) : TyOf K H (.flt x) (.type "float")
  | lst {a : Addr} {xs : List V} (e : H a = some (.lst xs)) : TyOf K H (.ref a) (.type "list")
  | frz {a : Addr} {o : Obj} {xs : List V} (e : H a = some (.frz o (.lst xs))) : TyOf K H (.ref a) (.type "list")
  | tup {a : Addr} {xs : List V} (e : H a = some (.tup xs)) : TyOf K H (.ref a) (.type "tuple")
  | dK {a : Addr} {kvs : List (Key × V)} (e : H a = some (.dK kvs)) : TyOf K H (.ref a) (.type "dict")
  | dT {a : Addr} {kvs : List (List Key × V)} (e : H a = some (.dT kvs)) : TyOf K H (.ref a) (.type "dict")
  | ins {a C dx : Addr} {fs : List (Str × V)} (e : H a = some (.ins C dx fs)) (cl : Cls K C) (ha : PySem.W.findIn K (.ref C) "__class__" = some (some (.builtin "object.__class__")))
      (hn : PySem.W.specialIn K (.builtin "object.__class__") "__get__" = some (some (.builtin "getset_descriptor.__get__"))) (htk : PySem.W.takesIn K (.builtin "object.__class__") = some true)
      (hm : PySem.W.mroIn K C (.type "object") = some true) : TyOf K H (.ref a) (.ref C)
theorem isinst_ok {x : V} {u t : Value} (I : Inv X pins σ H s) (rx : RelV x u) (ty : TyOf X.K H x t) (e : PySem.W.kitOne X.K t c = some b) (h : ∀ tk, Q (.bool b) { s with toks := tk }) :
    wpAny (model X.prog X.w) A (call (.builtin "isinstance") [u, c]) Q E s := by
  cases ty with
  | non => cases (show u = Value.none from rx); exact PySem.W.kia_one PySem.W.kitx_none I.kIn True.intro e (fun z => nomatch z) h
  | bl y => cases (show u = Value.bool y from rx); exact PySem.W.kia_one PySem.W.kitx_bool I.kIn True.intro e (fun z => nomatch z) h
  | int i => obtain ⟨t, q⟩ := (show ∃ t, u = Value.int i t from rx); cases q; exact PySem.W.kia_one PySem.W.kitx_int I.kIn True.intro e (fun z => nomatch z) h
  | str y => obtain ⟨t, q⟩ := (show ∃ t, u = Value.str y t from rx); cases q; exact PySem.W.kia_one PySem.W.kitx_str I.kIn True.intro e (fun z => nomatch z) h
  | flt y => obtain ⟨t, q⟩ := (show ∃ t, u = Value.float y t from rx); cases q; exact PySem.W.kia_one PySem.W.kitx_float I.kIn True.intro e (fun z => nomatch z) h
  | @lst a xs ea =>
    cases (show u = Value.ref a from rx)
    obtain ⟨_, _, n, _, h1⟩ := (show ObjOk X.prog X.w H s.heap a (.lst xs) from I.hok a _ ea)
    exact PySem.W.kia_one PySem.W.kitx_list I.kIn ⟨_, h1, rfl⟩ e (fun z => nomatch z) h
  | @frz a ob xs ea =>
    cases (show u = Value.ref a from rx)
    obtain ⟨_, _, _, n, _, h1⟩ := (show ObjOk X.prog X.w H s.heap a (.frz ob (.lst xs)) from I.hok a _ ea)
    exact PySem.W.kia_one PySem.W.kitx_list I.kIn ⟨_, h1, rfl⟩ e (fun z => nomatch z) h
  | @tup a xs ea =>
    cases (show u = Value.ref a from rx)
    obtain ⟨_, _, _, p⟩ := (show ObjOk X.prog X.w H s.heap a (.tup xs) from I.hok a _ ea)
    obtain ⟨o, h1, h2, _⟩ := p
    exact PySem.W.kia_one PySem.W.kitx_tuple I.kIn ⟨o, h1, h2⟩ e (fun z => nomatch z) h
  | @dK a kvs ea =>
    cases (show u = Value.ref a from rx)
    obtain ⟨_, _, vs, _, p⟩ := (show ObjOk X.prog X.w H s.heap a (.dK kvs) from I.hok a _ ea)
    obtain ⟨o, es, ep, h1, h2, _⟩ := p
    exact PySem.W.kia_one PySem.W.kitx_dict I.kIn ⟨o, h1, h2.1⟩ e (fun z => nomatch z) h
  | @dT a kvs ea =>
    cases (show u = Value.ref a from rx)
    obtain ⟨_, _, xs, _, o, es, ep, h1, h2, _⟩ := (show ObjOk X.prog X.w H s.heap a (.dT kvs) from I.hok a _ ea)
    exact PySem.W.kia_one PySem.W.kitx_dict I.kIn ⟨o, h1, h2.1⟩ e (fun z => nomatch z) h
  | @ins a C dx fs ea cl ha hn htk hm =>
    cases (show u = Value.ref a from rx)
    obtain ⟨mA, O, _⟩ := ins_get I.hok ea
    obtain ⟨od, J, _⟩ := O.look
    exact PySem.W.kia_one (PySem.W.kitx_own (cl.get _) cl.hd ha hn htk hm) I.kIn J e (fun z => nomatch z) h
end
structure Room (k : Nat) (A : Around) : Prop where
  hd : A.handled = none
  dp : A.depth + 3 * k + 5 < recursionLimit
  un : A.units + 16 * k + 200 < cLine
theorem Room.mono {j k : Nat} {A : Around} (r : Room k A) (h : j ≤ k) : Room j A := ⟨r.hd, by have := r.dp; omega, by have := r.un; omega⟩
theorem Room.deeper {k : Nat} {A : Around} (r : Room (k + 1) A) (env : Env) : Room k (A.deeper env) :=
  ⟨r.hd, by have := r.dp; show A.depth + 1 + 3 * k + 5 < _; omega, by have := r.un; show A.units + 3 + 16 * k + 200 < _; omega⟩
theorem Room.in1 {k : Nat} {A : Around} (r : Room (k + 1) A) : Room k A.in1 :=
  ⟨r.hd, by have := r.dp; show A.depth + 3 * k + 5 < _; omega, by have := r.un; show A.units + 1 + 16 * k + 200 < _; omega⟩
theorem Room.depth {k : Nat} {A : Around} (r : Room k A) : A.depth < recursionLimit := by have := r.dp; omega
theorem Room.units {k : Nat} {A : Around} (r : Room k A) : A.units + 64 < cLine := by have := r.un; omega
noncomputable def tNil : TA := fun ψ H Q => Q [] H
noncomputable def tCons (ta : TE) (tr : TA) : TA := fun σ H Q => ta σ H fun x H1 => tr σ H1 fun xs H2 => Q (x :: xs) H2
section
variable {X : Cx} {e : Expr} {es : List Expr} {te : TE} {t : TA} {pos : Pos}
theorem pa_nil : PA X [] tNil := fun ψ ψ ψ ψ H Q I h => Calls.spliced_nil ⟨[], H, I, .nil, h⟩
theorem pa_cons (ha : PE X e te) (hr : PA X es t) (hs : starEach (e :: es) X.env = (false, eval e X.env) :: starEach es X.env := by rfl) : PA X (e :: es) (tCons te t) := by
  intro pos pins s σ H Q I h
  rw [hs]
  show wpAny _ _ (spliced ((false, eval e X.env) :: backTo pos (starEach es X.env))) _ _ s
  refine Calls.spliced_cons (thn (ha pins s σ H _ I h) fun u s1 ⟨x, H1, I1, r1, q1⟩ => ?_)
  exact thn (hr pos pins s1 σ H1 _ I1 q1) fun us s2 ⟨xs, H2, I2, r2, q2⟩ => ⟨x :: xs, H2, I2, .cons r1 r2, q2⟩
noncomputable def tTup (t : TA) : TE := fun σ H Q => t σ H fun xs H1 => xs.length ≤ sizeLine ∧ ∀ p, H1 p = none → Q (.ref p) (upd H1 p (.tup xs))
noncomputable def tLst (t : TA) : TE := fun σ H Q => t σ H fun xs H1 => xs.length ≤ sizeLine ∧ ∀ p, H1 p = none → Q (.ref p) (upd H1 p (.lst xs))
theorem pe_tup {x1} (h : PA X es t) : PE X (.Tuple es x1 pos) (tTup t) := by
  intro pins s σ H Q I hq
  refine wpAny_Tuple_spliced (thn (h pos pins s σ H _ I hq) fun us s1 ⟨xs, H1, I1, r, z, q⟩ => ⟨by rw [← r.length]; exact z, ?_⟩)
  have hf : H1 s1.heap.objs.size = none := I1.hok.fresh (Nat.le_refl _)
  refine ⟨.ref s1.heap.objs.size, upd H1 s1.heap.objs.size (.tup xs), I1.laid (t' := s1.toks) (fun b u e => Heap.get?_push_of_some _ e) (Nat.le_refl _) ?_, rfl, q _ hf⟩
  exact ⟨z, us, r, ⟨_, Heap.get?_push_size _ rfl, rfl, _, rfl⟩⟩
theorem pe_lst (h : PA X es t) : PE X (.List es pos) (tLst t) := by
  intro pins s σ H Q I hq
  refine wpAny_List_spliced (thn (h pos pins s σ H _ I hq) fun us s1 ⟨xs, H1, I1, r, z, q⟩ => ⟨by rw [← r.length]; exact z, ?_⟩)
  have hf : H1 s1.heap.objs.size = none := I1.hok.fresh (Nat.le_refl _)
  refine ⟨.ref s1.heap.objs.size, upd H1 s1.heap.objs.size (.lst xs), I1.laid (t' := s1.toks) (fun b u e => Heap.get?_push_of_some _ e) (Nat.le_refl _) ?_, rfl, q _ hf⟩
  exact ⟨z, us, 0, r, Heap.get?_push_size _ rfl⟩
end
noncomputable abbrev Sp := List V → Hp → VK → XK → Prop
noncomputable abbrev CXT := List Env → Hp → Shared → XK → Value → Shared → Prop
structure Env0 (P : Program) (w : World) (K : PySem.W.Frag) (mg : L2.SV) (base : Heap) (A : Around) (outer : List Env) (s : Shared) (H : Hp) : Prop where
  frames : A.frames = some outer
  mod : Mod K mg base
  bs : ∀ b o, base.get? b = some o → s.heap.get? b = some o ∧ H b = none
  bsz : base.objs.size ≤ s.heap.objs.size
  funs : s.heap.FunFrames base outer
  frf : ∀ b ∈ frs outer, H b = none
  hok : HOk P w H s.heap
  bare : AllBare s.gens
noncomputable def CE (outer : List Env) (P : Program) (w : World) (H : Hp) (s : Shared) (Q : VK) (u : Value) (s' : Shared) : Prop :=
  ∃ v H', s'.os = s.os ∧ AllBare s'.gens ∧ Un (frs outer) [] H H' s.heap s'.heap ∧ HOk P w H' s'.heap ∧ RelV v u ∧ Q v H'
noncomputable def CR (CX : CXT) (outer : List Env) (P : Program) (w : World) (H : Hp) (s : Shared) (Q : VK) (E : XK) (r : Result) (s' : Shared) : Prop :=
  match r with
  | .ok (.ret u) => CE outer P w H s Q u s'
  | .ok _ => False
  | .error e => CX outer H s E e s'
structure FnOk (P : Program) (w : World) (K : PySem.W.Frag) (mg : L2.SV) (base : Heap) (CX : CXT) (k : Nat) (f : Addr) (fd : FuncData) (ps : List Str) (sp : Sp) : Prop where
  len : ∀ vs H Q E, sp vs H Q E → vs.length = ps.length
  run : ∀ (A : Around) (outer : List Env) (s : Shared) (H : Hp) (args : Args) (us : List Value) (vs : List V) (Q : VK) (E : XK), Room k A → Env0 P w K mg base A outer s H → BindsTo s fd args (ps.zip us) → Vals vs us → sp vs H Q E →
    codeAny (model P w) A (.call (.ref f) args) (CR CX outer P w H s Q E) s
theorem FnOk.mono {P : Program} {w : World} {K : PySem.W.Frag} {mg : L2.SV} {base : Heap} {CX : CXT} {j k : Nat} {f : Addr} {fd : FuncData} {ps : List Str} {sp : Sp} (F : FnOk P w K mg base CX j f fd ps sp) (h : j ≤ k) :
    FnOk P w K mg base CX k f fd ps sp := ⟨F.len, fun A outer s H args us vs Q E hr => F.run A outer s H args us vs Q E (hr.mono h)⟩
theorem FnOk.imp {P : Program} {w : World} {K : PySem.W.Frag} {mg : L2.SV} {base : Heap} {CX : CXT} {k : Nat} {f : Addr} {fd : FuncData} {ps : List Str} {sp sp' : Sp} (F : FnOk P w K mg base CX k f fd ps sp)
    (h : ∀ vs H Q E, sp' vs H Q E → sp vs H Q E) : FnOk P w K mg base CX k f fd ps sp' :=
  ⟨fun vs H Q E q => F.len vs H Q E (h _ _ _ _ q), fun A outer s H args us vs Q E hr he hb hv hs => F.run A outer s H args us vs Q E hr he hb hv (h _ _ _ _ hs)⟩
theorem Env0.in1 {P : Program} {w : World} {K : PySem.W.Frag} {mg : L2.SV} {base : Heap} {A : Around} {outer : List Env} {s : Shared} {H : Hp} (e : Env0 P w K mg base A outer s H) :
    Env0 P w K mg base A.in1 outer s H := ⟨e.frames, e.mod, e.bs, e.bsz, e.funs, e.frf, e.hok, e.bare⟩
section
variable {X : Cx} {pins : List (Addr × Obj)} {σ : St} {H : Hp} {s s' : Shared}
theorem Inv.env0 (I : Inv X pins σ H s) : Env0 X.prog X.w X.K X.mg X.base X.A X.stack s H :=
  ⟨I.ok.frames, I.ok.mod, I.bs, Nat.le_trans I.ok.bsz I.sz, I.stack, I.stkFree, I.hok, I.bare⟩
theorem Inv.after {Q : VK} {u : Value} (I : Inv X pins σ H s) (h : CE X.stack X.prog X.w H s Q u s') : EP X pins σ Q u s' := by
  obtain ⟨v, H', os, bare, un, hok, r, q⟩ := h
  obtain ⟨hh, g, d, t, os'⟩ := s'
  obtain rfl : os' = s.os := os
  exact ⟨v, H', I.call (h' := hh) (g' := g) (d' := d) (t' := t) (ch := []) un hok bare (fun b z => absurd z (by simp)), r, q⟩
end
noncomputable def tCall (sp : Sp) (dvs : List V) (E : XK) (t : TA) : TE := fun σ H Q => t σ H fun vs H1 => sp (vs ++ dvs) H1 Q E
noncomputable def Binds (K : PySem.W.Frag) (fd : FuncData) (ps : List Str) (ds : List Value) : Prop :=
  ∀ (s : Shared) (us : List Value), K.In s.heap → (us ++ ds).length = ps.length → BindsTo s fd ⟨us, []⟩ (ps.zip (us ++ ds))
theorem Binds.all {K : PySem.W.Frag} {fd : FuncData} {ps : List Str} (h : ∀ us : List Value, us.length = ps.length → bindArgs fd ⟨us, []⟩ = pure (ps.zip us)) : Binds K fd ps [] := fun s us ψ hl => by
  rw [List.append_nil] at hl ⊢
  exact .of_eq (h us hl)
noncomputable def Passes (CX : CXT) (X : Cx) (E : XK) : Prop := ∀ (pins : List (Addr × Obj)) (σ : St) (H : Hp) (s : Shared) (e : Value) (s' : Shared), Inv X pins σ H s → CX X.stack H s E e s' → X.xe e s'
section
variable {X : Cx} {CX : CXT} {k : Nat} {f C : Addr} {fd : FuncData} {ps : List Str} {sp : Sp} {dvs : List V} {ds : List Value} {E : XK} {x m : Str} {p pos apos : Pos} {e o : Expr} {es : List Expr} {ta : TE} {t : TA}
theorem run_fn {pins : List (Addr × Obj)} {σ : St} {H : Hp} {s : Shared} {Q : VK} {us : List Value} {vs : List V} (F : FnOk X.prog X.w X.K X.mg X.base CX k f fd ps sp) (hr : Room k X.A) (hb : Binds X.K fd ps ds) (hd : Vals dvs ds) (hx : Passes CX X E)
    (I : Inv X pins σ H s) (r : Vals vs us) (h : sp (vs ++ dvs) H Q E) : wpAny (model X.prog X.w) X.A (call (.ref f) us) (EP X pins σ Q) X.xe s := by
  have r2 : Vals (vs ++ dvs) (us ++ ds) := r.append hd
  have hl : (us ++ ds).length = ps.length := by rw [← r2.length]; exact F.len _ _ _ _ h
  refine wpAny_call (codeAny_mono (F.run X.A X.stack s H ⟨us, []⟩ (us ++ ds) (vs ++ dvs) Q E hr I.env0 (hb s us I.kIn hl) r2 h) fun r s' hq => ?_)
  cases r with
  | error e => exact hx pins σ H s e s' I hq
  | ok fl =>
    cases fl with
    | ret u => exact I.after hq
    | next => exact False.elim hq
    | brk => exact False.elim hq
    | cont => exact False.elim hq
theorem pe_call (F : FnOk X.prog X.w X.K X.mg X.base CX k f fd ps sp) (hr : Room k X.A) (hg : Gl X x) (hm : X.mg x = some (.ref f)) (hk : PySem.W.keepIn X.K (.ref f) = true) (hb : Binds X.K fd ps ds) (hd : Vals dvs ds) (hx : Passes CX X E)
    (ha : PA X (e :: es) t) (hdb : (x == ("__debug__" : Str)) = false := by decide) (he : starEach (e :: es) X.env = (false, eval e X.env) :: starEach es X.env := by rfl) (hpl : (backTo pos (starEach es X.env)).any (·.1) = false := by rfl) :
    PE X (.Call (.Name x p) (e :: es) [] pos) (tCall sp dvs E t) := by
  intro pins s σ H Q I h
  refine wpAny_Call_Name_kw (ld_glob I hg hm ?_ hdb)
  refine PySem.W.callWith_K (h₀ := X.base) I.ok.mod.kin hk (thn (ha pos pins s σ H _ I h) fun us s1 ⟨vs, H1, I1, r, q⟩ => ⟨I1.kIn, ?_⟩) he hpl
  exact run_fn F hr hb hd hx I1 r q
end
section
variable {X : Cx} {CX : CXT} {k : Nat} {f C : Addr} {fd : FuncData} {ps ks : List Str} {sp : Sp} {E : XK} {x m : Str} {p pos apos kpos : Pos} {e o : Expr} {es : List Expr} {kws : List Keyword} {te ta : TE} {t tk : TA} {nm : Option Str}
variable {g : List Value → List Value → List Value} {gV : List V → List V → List V}
end
structure FnScope (N P : List Str) (sc : Scope) : Prop where
  kind : sc.kind = .function
  co : sc.isCoroutine = false
  gen : sc.isGenerator = false
  nd : N.Nodup
  pre : N.take P.length = P
  par : ∀ x ∈ P, sc.names.lookup x = some .local ∨ sc.names.lookup x = some .cell
  nofree : ∀ y ∈ sc.names, y.2 ≠ .free
theorem bindL_out {kindOf : Str → Option NameKind} {x : Str} : ∀ {binds : List (Str × Value)} {m : L2.SV}, (∀ v, (x, v) ∉ binds) → bindL kindOf binds m x = m x
  | [], _, _ => rfl
  | (n, v) :: r, m, h => by
    unfold bindL
    rw [bindL_out fun w hw => h w (List.mem_cons_of_mem _ hw)]
    split
    · have : x ≠ n := by rintro rfl; exact h v List.mem_cons_self
      simp [this]
    · rfl
theorem bindC_out {kindOf : Str → Option NameKind} {x : Str} : ∀ {binds : List (Str × Value)} {m : L2.SV}, (∀ v, (x, v) ∉ binds) → bindC kindOf binds m x = m x
  | [], _, _ => rfl
  | (n, v) :: r, m, h => by
    unfold bindC
    rw [bindC_out fun w hw => h w (List.mem_cons_of_mem _ hw)]
    split
    · rfl
    · have : x ≠ n := by rintro rfl; exact h v List.mem_cons_self
      simp [this]
theorem bindL_get {kindOf : Str → Option NameKind} {x : Str} {v : Value} : ∀ {P : List Str} {vs : List Value} {i : Nat} {m : L2.SV}, P.Nodup → P[i]? = some x → vs[i]? = some v → kindOf x = some .local →
    bindL kindOf (P.zip vs) m x = some v
  | [], _, _, _, _, h, _, _ => by simp at h
  | _ :: _, [], _, _, _, _, h, _ => by simp at h
  | p :: P, w :: vs, 0, m, nd, h1, h2, hk => by
    simp at h1 h2; subst h1; subst h2
    show bindL kindOf ((p, w) :: P.zip vs) m p = _
    unfold bindL
    rw [bindL_out fun v hv => (List.nodup_cons.mp nd).1 (List.of_mem_zip hv).1, if_pos hk]
    simp
  | p :: P, w :: vs, i + 1, m, nd, h1, h2, hk => by
    show bindL kindOf ((p, w) :: P.zip vs) m x = _
    unfold bindL
    exact bindL_get (i := i) (List.nodup_cons.mp nd).2 (by simpa using h1) (by simpa using h2) hk
theorem bindC_get {kindOf : Str → Option NameKind} {x : Str} {v : Value} : ∀ {P : List Str} {vs : List Value} {i : Nat} {m : L2.SV}, P.Nodup → P[i]? = some x → vs[i]? = some v → kindOf x ≠ some .local →
    bindC kindOf (P.zip vs) m x = some v
  | [], _, _, _, _, h, _, _ => by simp at h
  | _ :: _, [], _, _, _, _, h, _ => by simp at h
  | p :: P, w :: vs, 0, m, nd, h1, h2, hk => by
    simp at h1 h2; subst h1; subst h2
    show bindC kindOf ((p, w) :: P.zip vs) m p = _
    unfold bindC
    rw [bindC_out fun v hv => (List.nodup_cons.mp nd).1 (List.of_mem_zip hv).1, if_neg hk]
    simp
  | p :: P, w :: vs, i + 1, m, nd, h1, h2, hk => by
    show bindC kindOf ((p, w) :: P.zip vs) m x = _
    unfold bindC
    exact bindC_get (i := i) (List.nodup_cons.mp nd).2 (by simpa using h1) (by simpa using h2) hk
noncomputable def start (N : List Str) (vs : List V) : St := vs.map some ++ List.replicate (N.length - vs.length) none
noncomputable def cxOf (CX : CXT) (P : Program) (w : World) (K : PySem.W.Frag) (mg : L2.SV) (base : Heap) (N : List Str) (qual : Str) (scope : Scope) (f : Addr) (cd : Value) (A : Around) (outer : List Env) (s : Shared) (H : Hp) (E : XK) : Cx where
  prog := P
  w := w
  K := K
  mg := mg
  base := base
  A := A.deeper (envOfC qual scope s.heap.objs.size f cd)
  N := N
  s₀ := s
  H₀ := H
  env := envOfC qual scope s.heap.objs.size f cd
  outer := outer
  stack := envOfC qual scope s.heap.objs.size f cd :: outer
  ex := []
  calm := true
  fn := fun ψ => true
  pn := []
  xe := fun e s' => wpAny (model P w) (A.deeper (envOfC qual scope s.heap.objs.size f cd)) (leaving (envOfC qual scope s.heap.objs.size f cd) e) (fun ψ s'' => CX outer H s E e s'') (fun e' s'' => CX outer H s E e' s'') s'
theorem cell_has {sc : Scope} {n : Nat} {x : Str} (h : sc.names.lookup x = some .cell) : ∃ c, (cellsFrom n sc.names []).lookup x = some c := by
  have q := PySem.W.cellsFrom_some sc.names n [] (.inl h)
  exact Option.isSome_iff_exists.mp q
theorem inv_start {CX : CXT} {P : Program} {w : World} {K : PySem.W.Frag} {mg : L2.SV} {base : Heap} {N ps : List Str} {qual : Str} {scope : Scope} {f : Addr} {cd : Value} {A : Around} {outer : List Env} {s s1 : Shared} {H : Hp} {E : XK} {us : List Value} {vs : List V}
    (S : FnScope N ps scope) (hd : A.handled = none) (e0 : Env0 P w K mg base A outer s H) (hl : vs.length = ps.length) (r : Vals vs us)
    (x : InCallC s s.heap.objs.size (bindL (envOfC qual scope s.heap.objs.size f cd).kindOf (ps.zip us) fun ψ => none) (cellsFrom (s.heap.objs.size + 1) scope.names []) (bindC (envOfC qual scope s.heap.objs.size f cd).kindOf (ps.zip us) fun ψ => none) s1) :
    Inv (cxOf CX P w K mg base N qual scope f cd A outer s H E) [] (start N vs) H s1 := by
  have hpl : ps.length ≤ N.length := by have := congrArg List.length S.pre; rw [List.length_take] at this; omega
  obtain ⟨h1, tk, rfl, hk⟩ := x.done
  have noA : ∀ b : Addr, b ∉ (cxOf CX P w K mg base N qual scope f cd A outer s H E).ex := fun b z => absurd (show b ∈ ([] : List Addr) from z) (by simp)
  refine ⟨⟨e0.mod, S.kind, rfl, rfl, Nat.le_refl _, fun y z c h1 h2 => ?_, fun y hy => ?_, fun y c ψ h => ?_, fun ψ => hd, Around.frames_deeper e0.frames, .inr ⟨rfl, rfl⟩, fun b z => absurd z (noA b), e0.bs, e0.bsz, fun b ψ ψ => noA b, fun b z => absurd z (noA b), e0.funs, e0.frf⟩,
    rfl, e0.bare, Un.kept hk, ⟨_, x.toInCall.ns, fun i y v h1 h2 h3 => ?_⟩, fun y c h => ⟨_, x.cell y c h⟩, e0.hok.fresh (Nat.le_refl _), fun y c h => ?_, fun p hp => absurd (show p ∈ ([] : List (Addr × Obj)) from hp) (by simp), e0.hok.kept hk, ?_⟩
  · exact name_of_addr x.apart (PySem.mem_of_lookup h1) (PySem.mem_of_lookup h2)
  · have hy : scope.names.lookup y = some .cell ∨ scope.names.lookup y = some .free := hy
    rcases hy with hy | hy
    · exact cell_has hy
    · exact absurd rfl (S.nofree _ (PySem.mem_of_lookup hy))
  · exact Nat.le_of_lt (x.above y c (PySem.mem_of_lookup h))
  · have hi : i < vs.length := by
      unfold start at h2
      by_cases hi : i < vs.length
      · exact hi
      · rw [List.getElem?_append_right (by simpa using hi)] at h2
        rw [List.getElem?_replicate] at h2
        split at h2 <;> cases h2
    have ha : vs[i]? = some v := by
      unfold start at h2
      rw [List.getElem?_append_left (by simpa using hi), List.getElem?_map] at h2
      cases e : vs[i]? with
      | none => rw [e] at h2; cases h2
      | some a => rw [e] at h2; cases h2; rfl
    obtain ⟨u, hu, rv⟩ := r.get ha
    have hp : ps[i]? = some y := by
      rw [← S.pre, List.getElem?_take_of_lt (by omega)]; exact h1
    have ndP : ps.Nodup := by rw [← S.pre]; exact S.nd.sublist (List.take_sublist _ _)
    refine ⟨u, rv, ?_⟩
    rcases S.par y (List.mem_of_getElem? hp) with k | k
    · exact .inl ⟨k, bindL_get ndP hp hu k⟩
    · obtain ⟨c, e⟩ := cell_has (n := s.heap.objs.size + 1) k
      refine .inr ⟨.inl k, c, e, ?_⟩
      have q := x.cell y c e
      rw [bindC_get ndP hp hu (by show scope.names.lookup y ≠ _; rw [k]; decide)] at q
      exact q
  · exact e0.hok.fresh (Nat.le_of_lt (x.above y c (PySem.mem_of_lookup h)))
  · unfold start
    show _ = N.length
    rw [List.length_append, List.length_map, List.length_replicate]
    omega
theorem fn_of {CX : CXT} {P : Program} {w : World} {K : PySem.W.Frag} {mg : L2.SV} {base : Heap} {k : Nat} {f : Addr} {name qual : Str} {params : Arguments} {body : List Stmt} {scope : Scope} {dV kV doc pm cdv ct oc : Value} {an od : Option Addr}
    {osl : Array (Option Value)} {N ps : List Str} {sp : Sp} (lk : K.lookup f = some ⟨oc, od, .func (PySem.W.fnOf name qual params body scope dV kV doc pm an cdv ct), osl⟩) (hcd : PySem.W.codeIn K cdv qual = true) (S : FnScope N ps scope)
    (len : ∀ vs H Q E, sp vs H Q E → vs.length = ps.length)
    (hbody : ∀ (A : Around) (outer : List Env) (s : Shared) (H : Hp) (vs : List V) (Q : VK) (E : XK), Room k (A.deeper (envOfC qual scope s.heap.objs.size f cdv)) → sp vs H Q E →
      ∃ t, PSs (cxOf CX P w K mg base N qual scope f cdv A outer s H E) body t ∧ t { nx := fun ψ H' => Q .non H', rt := Q } (start N vs) H) :
    FnOk P w K mg base CX (k + 1) f (PySem.W.fnOf name qual params body scope dV kV doc pm an cdv ct) ps sp := by
  refine ⟨len, fun A outer s H args us vs Q E hr e0 hb r hsp => ?_⟩
  have hl := len _ _ _ _ hsp
  have KX : K.In s.heap := e0.mod.kin.keeps fun b o e => (e0.bs b o e).1
  have lim : s.heap.NoLimit := e0.mod.nolimit.keeps fun b o e => (e0.bs b o e).1
  have hkind : ∀ y ∈ ps.zip us, scope.names.lookup y.1 = some .local ∨ (scope.names.lookup y.1 = some .cell ∧ ((cellsFrom (s.heap.objs.size + 1) scope.names []).lookup y.1).isSome = true) := fun ⟨n, v⟩ hy => by
    rcases S.par n (List.of_mem_zip hy).1 with q | q
    · exact .inl q
    · exact .inr ⟨q, PySem.W.cellsFrom_some _ _ _ (.inl q)⟩
  refine codeAny_call_function hr.depth (KX _ _ lk) rfl S.co S.gen rfl (PySem.W.codeRec_of KX hcd) (hb _ _ _ _ ?_)
  refine wpAny_newFunctionEnv_cells S.kind hkind fun env he s1 x => ?_
  subst he
  refine ⟨lim.keeps x.toInCall.keep, codeAny_func ?_⟩
  obtain ⟨t, ht, hq⟩ := hbody A outer s H vs Q E (hr.deeper _) hsp
  have I : Inv (cxOf CX P w K mg base N qual scope f cdv A outer s H E) [] (start N vs) H s1 := inv_start S hr.hd e0 hl r x
  refine wpAny_mono (ht [] s1 (start N vs) H _ I hq) (fun fl s' hs => ?_) fun e s' hs => hs
  have fin : ∀ {σ' : St} {H' : Hp} {v : V} {u : Value}, Inv (cxOf CX P w K mg base N qual scope f cdv A outer s H E) [] σ' H' s' → RelV v u → Q v H' → CE outer P w H s Q u s' :=
    fun {σ' H' v u} J rv q => ⟨v, H', J.os, J.bare, J.base, J.hok, rv, q⟩
  cases fl with
  | ret u =>
    obtain ⟨v, σ', H', J, rv, q⟩ := hs
    exact fin J rv q
  | next =>
    obtain ⟨σ', H', J, q⟩ := hs
    exact fin (v := V.non) (u := Value.none) J rfl q
  | brk =>
    obtain ⟨_, _, _, q⟩ := hs
    exact False.elim q
  | cont =>
    obtain ⟨_, _, _, q⟩ := hs
    exact False.elim q
section
variable {X : Cx} {x : Str} {p pos : Pos} {e : Expr} {es : List Expr} {t : TA} {id T : String} {r : List V → Hp → VK → Prop}
noncomputable def tCB (r : List V → Hp → VK → Prop) (t : TA) : TE := fun σ H Q => t σ H fun vs H1 => r vs H1 Q
theorem pe_callB (hc : CallR X (.builtin id) r) (hg : Gl X x) (hm : X.mg x = none) (hv : bootBuiltins x = some (.builtin id)) (ha : PA X (e :: es) t) (hn : x ≠ "__name__" := by decide) (hdb : (x == ("__debug__" : Str)) = false := by decide)
    (he : starEach (e :: es) X.env = (false, eval e X.env) :: starEach es X.env := by rfl) (hpl : (backTo pos (starEach es X.env)).any (·.1) = false := by rfl) : PE X (.Call (.Name x p) (e :: es) [] pos) (tCB r t) := by
  intro pins s σ H Q I h
  refine wpAny_Call_Name_kw (ld_blt I hg hm hv ?_ hn hdb)
  exact PyProof.Rows.callWith_builtin1 (thn (ha pos pins s σ H _ I h) fun us s1 ⟨vs, H1, I1, r1, q1⟩ => hc pins s1 σ H1 vs us Q I1 r1 q1) he hpl
theorem pe_callTy (hc : CallR X (.type T) r) (hg : Gl X x) (hm : X.mg x = none) (hv : bootBuiltins x = some (.type T)) (ha : PA X (e :: es) t) (hn : x ≠ "__name__" := by decide) (hdb : (x == ("__debug__" : Str)) = false := by decide)
    (he : starEach (e :: es) X.env = (false, eval e X.env) :: starEach es X.env := by rfl) (hpl : (backTo pos (starEach es X.env)).any (·.1) = false := by rfl) : PE X (.Call (.Name x p) (e :: es) [] pos) (tCB r t) := by
  intro pins s σ H Q I h
  refine wpAny_Call_Name_kw (ld_blt I hg hm hv ?_ hn hdb)
  exact PyProof.Rows.callWith_type1 (thn (ha pos pins s σ H _ I h) fun us s1 ⟨vs, H1, I1, r1, q1⟩ => hc pins s1 σ H1 vs us Q I1 r1 q1) he hpl
end
end L2
namespace HT
open PySem PyProof.Rows
section
open PySem.SeqAt
open PySem.AutoSeq1 (wpAny_loadPart')
open PySem.MeetsSeq PySem.MeetsSeq2 PySem.MeetsSeq3
end
section
variable {prog : Program} {w : World} {A : Around} {E : L2.VSP} {s : Shared}
theorem cat_tup {t b : Addr} {vs ws : List Value} {Q : L2.VSP} (ht : IsTup s.heap t vs.toArray) (hb : IsTup s.heap b ws.toArray) (hv : vs ≠ [])
    (h1 : ws = [] → Q (.ref t) s) (h2 : ws ≠ [] → Q (.ref s.heap.objs.size) { s with heap := s.heap.push { cls := .type "tuple", data := .seq (vs ++ ws).toArray } })
    (hsz : vs.length + ws.length ≤ sizeLine) : wpAny (model prog w) A (binaryOp .Add (.ref t) (.ref b)) Q E s := by
  obtain ⟨⟨cls, dd, data, sl⟩, ho, hc, n, hd⟩ := id ht
  obtain ⟨⟨cls2, dd2, data2, sl2⟩, ho2, hc2, n2, hd2⟩ := id hb
  simp only at hc hd hc2 hd2
  subst hc hd hc2 hd2
  have e : vs.toArray ++ ws.toArray = (vs ++ ws).toArray := by simp
  by_cases hw : ws = []
  · exact concat_meets ⟨_, ho, rfl⟩ ⟨_, ho2, rfl⟩ noFill_tuple_add seq_tuple_add PySem.F.slot_tuple_add PySem.F.entry_tuple_add (PySem.F.args_tuple_add_2 _ _)
      (tuple_addW1 t b vs.toArray ws.toArray n n2 dd dd2 sl sl2 (by simpa using hv) (by simp [hw])) ⟨ho, ho2, h1 hw⟩
  · refine concat_meets ⟨_, ho, rfl⟩ ⟨_, ho2, rfl⟩ noFill_tuple_add seq_tuple_add PySem.F.slot_tuple_add PySem.F.entry_tuple_add (PySem.F.args_tuple_add_2 _ _)
      (tuple_addW2 t b vs.toArray ws.toArray n n2 dd dd2 sl sl2 (by simpa using hv) (by simpa using hw) (by rw [List.size_toArray, List.size_toArray]; exact hsz)) ⟨ho, ho2, ?_⟩
    rw [e]
    exact h2 hw
noncomputable def sIx (n d : Nat) : Option Int → Nat
  | none => d
  | some v => if v < 0 then (v + (n : Int)).toNat else min v.toNat n
theorem sIx_nat (n d k : Nat) : sIx n d (some (k : Int)) = min k n := by
  show (if (k : Int) < 0 then ((k : Int) + (n : Int)).toNat else min (k : Int).toNat n) = min k n
  rw [if_neg (by omega), Int.toNat_natCast]
theorem sIx_le (n d : Nat) (hd : d ≤ n) (o : Option Int) : sIx n d o ≤ n := by
  cases o with
  | none => exact hd
  | some v =>
    show (if v < 0 then (v + (n : Int)).toNat else min v.toNat n) ≤ n
    by_cases hv : v < 0
    · rw [if_pos hv]; omega
    · rw [if_neg hv]; exact Nat.min_le_right _ _
theorem clip_eq (v : Int) (n d : Nat) : (if v < 0 then max (v + (n : Int)) 0 else min v (n : Int)) = ((sIx n d (some v) : Nat) : Int) := by
  show (if v < 0 then max (v + (n : Int)) 0 else min v (n : Int)) = (((if v < 0 then (v + (n : Int)).toNat else min v.toNat n) : Nat) : Int)
  by_cases hv : v < 0
  · simp only [if_pos hv]; omega
  · simp only [if_neg hv]; omega
theorem adjust_gen (lo hi : Option Int) (n : Nat) : Builtin.Slice.sliceAdjust lo hi 1 (n : Int) = (((sIx n 0 lo : Nat) : Int), ((sIx n n hi : Nat) : Int)) := by
  have h1 : ¬ ((1 : Int) < 0) := by omega
  unfold Builtin.Slice.sliceAdjust
  simp only [h1, if_false]
  refine Prod.ext ?_ ?_
  · cases lo with
    | none => rfl
    | some v => exact clip_eq v n 0
  · cases hi with
    | none => rfl
    | some v => exact clip_eq v n n
theorem places_gen (i j : Nat) : Builtin.Slice.slicePlaces (i : Int) (j : Int) 1 = j - i := by
  unfold Builtin.Slice.slicePlaces
  have h1 : (1 : Int) > 0 := by omega
  simp only [h1, if_true, Int.ediv_one]
  split <;> omega
theorem slicePart_ {v : Value} {o : Option Int} {Q : Option Int → Shared → Prop} (p : IsPart v o) (h : Q o s) : wpAny (model prog w) A (Builtin.Slice.slicePartIndex v) Q E s := by
  cases p with
  | none => exact slicePart_none h
  | int i t => exact slicePart_int h
theorem sliceApplied_gen {sl : Addr} {vl vu : Value} {lo hi : Option Int} {n : Nat} {Q : Int × Int × Nat → Shared → Prop} (hs : s.heap.IsSliceOf sl vl vu .none) (pl : IsPart vl lo) (pu : IsPart vu hi)
    (h : Q (((sIx n 0 lo : Nat) : Int), 1, sIx n n hi - sIx n 0 lo) s) : wpAny (model prog w) A (Builtin.Slice.sliceApplied (.ref sl) (pure (n : Int))) Q E s := by
  obtain ⟨os, hos, hcs, hds⟩ := id hs
  unfold Builtin.Slice.sliceApplied Builtin.Slice.sliceFields
  refine wpAny_bind (wpAny_bind (wpAny_field hos hds (x := vl) rfl (wpAny_bind (wpAny_field hos hds (x := vu) rfl (wpAny_bind (wpAny_field hos hds (x := .none) rfl (wpAny_pure ?_)))))))
  refine wpAny_bind (slicePart_none ?_)
  show wpAny _ _ (if ((1 : Int) == 0) = true then _ else _) _ _ s
  rw [if_neg (by decide)]
  refine wpAny_bind (slicePart_ pl (wpAny_bind (slicePart_ pu (wpAny_bind (wpAny_pure ?_)))))
  show wpAny _ _ (match Builtin.Slice.sliceAdjust lo hi 1 (n : Int) with | (lo, hi) => pure (lo, (1 : Int), Builtin.Slice.slicePlaces lo hi 1)) _ _ s
  rw [adjust_gen lo hi n]
  show wpAny _ _ (pure (((sIx n 0 lo : Nat) : Int), (1 : Int), Builtin.Slice.slicePlaces ((sIx n 0 lo : Nat) : Int) ((sIx n n hi : Nat) : Int) 1)) _ _ s
  rw [places_gen]
  exact wpAny_pure h
theorem pick_gen (xs : Array Value) (i k : Nat) : ((List.range k).filterMap fun (m : Nat) => xs[((i : Int) + (m : Int) * 1).toNat]?).toArray = ((xs.toList.drop i).take k).toArray := by
  have e : (fun (m : Nat) => xs[((i : Int) + (m : Int) * 1).toNat]?) = fun m => xs[i + m]? := by
    funext m
    have : ((i : Int) + (m : Int) * 1).toNat = i + m := by omega
    rw [this]
  rw [e]
  have := pick_run xs i k
  rw [List.filterMap_map] at this
  have e2 : ((fun x => xs[x]?) ∘ fun x => i + x) = fun m => xs[i + m]? := rfl
  rw [e2] at this
  rw [this]
theorem getItem_tuple_cut {t sl : Addr} {items : Array Value} {vl vu : Value} {lo hi : Option Int} {Q : L2.VSP} (ht : IsTup s.heap t items) (hs : s.heap.IsSliceOf sl vl vu .none) (pl : IsPart vl lo) (pu : IsPart vu hi)
    (hw : ¬ (sIx items.size 0 lo = 0 ∧ sIx items.size items.size hi = items.size))
    (h : Q (.ref s.heap.objs.size) { s with heap := s.heap.push { cls := .type "tuple", data := .seq ((items.toList.drop (sIx items.size 0 lo)).take (sIx items.size items.size hi - sIx items.size 0 lo)).toArray } })
    (hsz : items.size ≤ sizeLine) : wpAny (model prog w) A (getItem (.ref t) (.ref sl)) Q E s := by
  have htake : sizeOk (.seq ((items.toList.drop (sIx items.size 0 lo)).take (sIx items.size items.size hi - sIx items.size 0 lo)).toArray) := by
    show ((items.toList.drop (sIx items.size 0 lo)).take (sIx items.size items.size hi - sIx items.size 0 lo)).toArray.size ≤ sizeLine
    rw [List.size_toArray, List.length_take, List.length_drop, Array.length_toList]
    omega
  have hj : sIx items.size items.size hi ≤ items.size := sIx_le _ _ (Nat.le_refl _) hi
  obtain ⟨os, hos, hcs, hds⟩ := id hs
  have hTs : s.TypeIs (.ref sl) "slice" := ⟨os, hos, hcs⟩
  unfold getItem
  try with_reducible refine wpAny_holding ?_
  first | refine wpAny_bind (wpAny_pure ?_) | skip
  refine wpAny_bind (wpAny_sequenceKey ht.typeIs (by decide) ?_)
  refine wpAny_bind (wpAny_callSpecial?_slot (name := Str.ofString "__getitem__") ht.typeIs PyProof.Rows.slot_tuple_getitem
    (wpAny_call_entry PyProof.Rows.slot_tuple_getitem ht.typeIs entry_tuple_getitem ?_ (args_tuple_getitem _ _)))
  show wpAny _ _ (Builtin.Tuple.tupleItemsOf (.ref t) >>= _) _ _ s
  refine wpAny_bind (tupleItemsOf_ ht ?_)
  refine wpAny_bind (wpAny_typeOf hTs ?_)
  rw [if_pos (by decide)]
  refine wpAny_bind (sliceApplied_gen hs pl pu ?_)
  have hno : ¬ ((((sIx items.size 0 lo : Nat) : Int) == 0 && (1 : Int) == 1 && (sIx items.size items.size hi - sIx items.size 0 lo) == items.size) = true) := by
    intro q
    rw [Bool.and_eq_true, Bool.and_eq_true] at q
    have q1 : ((sIx items.size 0 lo : Nat) : Int) = 0 := eq_of_beq q.1.1
    have q2 : sIx items.size items.size hi - sIx items.size 0 lo = items.size := eq_of_beq q.2
    exact hw ⟨by omega, by omega⟩
  show wpAny _ _ (if (((sIx items.size 0 lo : Nat) : Int) == 0 && (1 : Int) == 1 && (sIx items.size items.size hi - sIx items.size 0 lo) == items.size) = true then _ else _) _ _ s
  rw [if_neg hno, pick_gen]
  first
    | exact wpAny_bind (m := Builtin.Tuple.tupleExact _) (wpAny_newObj_type (wpAny_pure ⟨_, rfl, wpAny_pure h⟩) htake)
    | exact wpAny_bind (m := Builtin.Tuple.tupleExact _) (wpAny_newObj_type (wpAny_bind (wpAny_pure (wpAny_pure ⟨_, rfl, wpAny_pure h⟩))) htake)
    | exact wpAny_bind (wpAny_bind (m := Builtin.Tuple.tupleExact _) (wpAny_newObj_type (wpAny_pure (wpAny_pure ⟨_, rfl, wpAny_pure h⟩)) htake))
    | exact wpAny_bind (wpAny_bind (m := Builtin.Tuple.tupleExact _) (wpAny_newObj_type (wpAny_pure ⟨_, rfl, wpAny_pure h⟩) htake))
end
end HT
namespace L2
open PySem PySem.Spec PyProof.Rows
noncomputable abbrev TO := St → Hp → (Option Int → Hp → Prop) → Prop
noncomputable def PO (X : Cx) (e : Option Expr) (t : TO) : Prop :=
  ∀ (pins : List (Addr × Obj)) (s : Shared) (σ : St) (H : Hp) (Q : Option Int → Hp → Prop), Inv X pins σ H s → t σ H Q →
    wpAny (model X.prog X.w) X.A (evalPart e X.env) (fun u s' => ∃ o H', Inv X pins σ H' s' ∧ IsPart u o ∧ Q o H') X.xe s
noncomputable def tNoPart : TO := fun ψ H Q => Q none H
noncomputable def tPart (t : TE) : TO := fun σ H Q => t σ H fun x H1 => ∃ i, x = .int i ∧ Q (some i) H1
section
variable {X : Cx} {e : Expr} {te : TE} {lo hi : Option Expr} {tl th : TO} {pos p2 : Pos}
theorem po_none : PO X none tNoPart := by
  intro pins s σ H Q I h
  rw [evalPart_none]
  exact wpAny_pure ⟨none, H, I, .none, h⟩
theorem po_some (h : PE X e te) : PO X (some e) (tPart te) := by
  intro pins s σ H Q I hw
  rw [evalPart_some]
  refine thn (h pins s σ H _ I hw) fun u s1 ⟨x, H1, I1, r1, q1⟩ => ?_
  obtain ⟨i, rfl, q⟩ := q1
  obtain ⟨t, rfl⟩ := r1
  exact ⟨some i, H1, I1, .int i t, q⟩
noncomputable def SlR (X : Cx) (r : V → Option Int → Option Int → Hp → VK → Prop) : Prop :=
  ∀ (pins : List (Addr × Obj)) (s : Shared) (σ : St) (H : Hp) (x : V) (v vl vu : Value) (lo hi : Option Int) (sl : Addr) (Q : VK), Inv X pins σ H s → RelV x v → s.heap.IsSliceOf sl vl vu .none → IsPart vl lo → IsPart vu hi → r x lo hi H Q →
    ∃ T id, typeLookup (.type T) "__getitem__" = pure (some (.builtin id)) ∧ s.TypeIs v T ∧ wpAny (model X.prog X.w) X.A (getItem v (.ref sl)) (EP X pins σ Q) X.xe s
theorem SlR.or {r r' : V → Option Int → Option Int → Hp → VK → Prop} (h : SlR X r) (h' : SlR X r') : SlR X (fun x lo hi H Q => r x lo hi H Q ∨ r' x lo hi H Q) := by
  intro pins s σ H x v vl vu lo hi sl Q I rx hs pl pu q
  rcases q with q | q
  · exact h pins s σ H x v vl vu lo hi sl Q I rx hs pl pu q
  · exact h' pins s σ H x v vl vu lo hi sl Q I rx hs pl pu q
noncomputable def tSl (r : V → Option Int → Option Int → Hp → VK → Prop) (te : TE) (tl th : TO) : TE := fun σ H Q => te σ H fun x H1 => tl σ H1 fun l H2 => th σ H2 fun u H3 => r x l u H3 Q
theorem pe_slice {r : V → Option Int → Option Int → Hp → VK → Prop} (hr : SlR X r) (he : PE X e te) (hl : PO X lo tl) (hu : PO X hi th) : PE X (.Subscript e (.Slice lo hi none p2) pos) (tSl r te tl th) := by
  intro pins s σ H Q I h
  refine Subscript_ (thn (he pins s σ H _ I h) fun v s1 ⟨x, H1, I1, r1, q1⟩ => ?_)
  refine wpAny_Slice (thn (hl pins s1 σ H1 _ I1 q1) fun vl s2 ⟨l, H2, I2, pl, q2⟩ => thn (hu pins s2 σ H2 _ I2 q2) fun vu s3 ⟨u, H3, I3, pu, q3⟩ => ?_)
  rw [evalPart_none]
  refine wpAny_pure ?_
  have I4 : Inv X pins σ H3 { s3 with heap := s3.heap.push { cls := .type "slice", data := .fields #[vl, vu, .none] } } := I3.kept (t' := s3.toks) fun b ob q => Heap.get?_push_of_some _ q
  obtain ⟨T, id, hT, ht, hg⟩ := hr pins { s3 with heap := s3.heap.push { cls := .type "slice", data := .fields #[vl, vu, .none] } } σ H3 x v vl vu l u s3.heap.objs.size Q I4 r1 (Heap.IsSliceOf.new ..) pl pu q3
  show wpAny (model X.prog X.w) X.A (subscriptTail e (.Slice lo hi none p2) v (.ref s3.heap.objs.size)) (EP X pins σ Q) X.xe { s3 with heap := s3.heap.push { cls := .type "slice", data := .fields #[vl, vu, .none] } }
  exact tail_any (ops := [.ref s3.heap.objs.size, v]) ht hT hg (by with_unfolding_all rfl)
noncomputable def cutV (xs : List V) (lo hi : Option Int) : List V := (xs.drop (HT.sIx xs.length 0 lo)).take (HT.sIx xs.length xs.length hi - HT.sIx xs.length 0 lo)
theorem cutV_length (xs : List V) (lo hi : Option Int) : (cutV xs lo hi).length ≤ xs.length := by
  unfold cutV
  rw [List.length_take, List.length_drop]
  omega
noncomputable def rSlT (K : PySem.W.Frag) : V → Option Int → Option Int → Hp → VK → Prop := fun x lo hi H Q => ∃ a xs, x = .ref a ∧ SqT K H a xs ∧
  ¬ (HT.sIx xs.length 0 lo = 0 ∧ HT.sIx xs.length xs.length hi = xs.length) ∧ ∀ p, H p = none → Q (.ref p) (upd H p (.tup (cutV xs lo hi)))
theorem sl_tup : SlR X (rSlT X.K) := by
  intro pins s σ H x v vl vu lo hi sl Q I rx hs pl pu h
  obtain ⟨a, xs, rfl, hx, hw, q⟩ := h
  cases rx
  obtain ⟨its, r, ht, hz⟩ := I.tuple hx
  have hlen : its.toArray.size = xs.length := by rw [List.size_toArray]; exact r.length.symm
  refine ⟨"tuple", _, PyProof.Rows.slot_tuple_getitem.lookup, ht.typeIs, ?_⟩
  refine HT.getItem_tuple_cut ht hs pl pu (by rw [hlen]; exact hw) ?_ (by rw [hlen]; exact hz)
  rw [hlen]
  refine ⟨.ref s.heap.objs.size, _, I.laid (t' := s.toks) (o := .tup (cutV xs lo hi)) (fun b ob q => Heap.get?_push_of_some _ q) (Nat.le_refl _) ?_, rfl, q _ (I.hok.fresh (Nat.le_refl _))⟩
  exact ⟨Nat.le_trans (cutV_length xs lo hi) hz, _, (r.drop (HT.sIx xs.length 0 lo)).take (HT.sIx xs.length xs.length hi - HT.sIx xs.length 0 lo), IsTup.new _ _⟩
noncomputable def rCatT (K : PySem.W.Frag) : R2 := fun x y H Q => ∃ a b xs ys, x = .ref a ∧ y = .ref b ∧ SqT K H a xs ∧ SqT K H b ys ∧ xs ≠ [] ∧ xs.length + ys.length ≤ sizeLine ∧
  (ys = [] → Q (.ref a) H) ∧ (ys ≠ [] → ∀ p, H p = none → Q (.ref p) (upd H p (.tup (xs ++ ys))))
theorem Vals.nil_iff {xs : List V} {us : List Value} (r : Vals xs us) : us = [] ↔ xs = [] := by
  cases r with
  | nil => simp
  | cons _ _ => simp
theorem op_catT : OpR X (binaryOp .Add) (rCatT X.K) := by
  intro pins s σ H x y v u Q I rx ry h
  obtain ⟨a, b, xs, ys, rfl, rfl, ha, hb, hx, hz, q1, q2⟩ := h
  cases rx
  cases ry
  obtain ⟨its, r1, p1, _⟩ := I.tuple ha
  obtain ⟨its2, r2, p2, _⟩ := I.tuple hb
  refine HT.cat_tup p1 p2 (fun z => hx (r1.nil_iff.mp z)) (fun z => ⟨.ref a, H, I, rfl, q1 (r2.nil_iff.mp z)⟩) (fun z => ?_) (by rw [← r1.length, ← r2.length]; exact hz)
  refine ⟨.ref s.heap.objs.size, _, I.laid (t' := s.toks) (o := .tup (xs ++ ys)) (fun b ob q => Heap.get?_push_of_some _ q) (Nat.le_refl _) ?_, rfl, q2 (fun w => z (r2.nil_iff.mpr w)) _ (I.hok.fresh (Nat.le_refl _))⟩
  exact ⟨by rw [List.length_append]; exact hz, _, r1.append r2, IsTup.new _ _⟩
end
noncomputable def ixN (n : Nat) (i : Int) : Option Nat := if 0 ≤ i then (if i < n then some i.toNat else none) else if -(n : Int) ≤ i then some (i + n).toNat else none
noncomputable def atI {α : Type} (xs : List α) (i : Int) : Option α := (ixN xs.length i).bind fun j => xs[j]?
theorem ixN_seq {n : Nat} {i : Int} {j : Nat} (h : ixN n i = some j) : seqIndex? i n = some j ∧ j < n ∧ -(n : Int) ≤ i ∧ i < n := by
  unfold ixN at h
  by_cases h0 : 0 ≤ i
  · rw [if_pos h0] at h
    by_cases h1 : i < n
    · rw [if_pos h1] at h
      have e : i.toNat = j := Option.some.inj h
      exact ⟨by rw [seqIndex_of h0 h1, e], by omega, by omega, h1⟩
    · rw [if_neg h1] at h; cases h
  · rw [if_neg h0] at h
    by_cases h1 : -(n : Int) ≤ i
    · rw [if_pos h1] at h
      have e : (i + n).toNat = j := Option.some.inj h
      exact ⟨by rw [seqIndex_neg (by omega) h1, e], by omega, h1, by omega⟩
    · rw [if_neg h1] at h; cases h
theorem atI_get {α : Type} {xs : List α} {i : Int} {v : α} (h : atI xs i = some v) : ∃ j, seqIndex? i xs.length = some j ∧ xs[j]? = some v ∧ j < xs.length ∧ -(xs.length : Int) ≤ i ∧ i < xs.length := by
  unfold atI at h
  cases e : ixN xs.length i with
  | none => rw [e] at h; cases h
  | some j =>
    rw [e] at h
    obtain ⟨h1, h2, h3, h4⟩ := ixN_seq e
    exact ⟨j, h1, h, h2, h3, h4⟩
noncomputable def PlainIx (b : Expr) : Prop := ∀ o i, subscripted b false o i = operate [o, i] (getItem o i)
noncomputable def IxR (X : Cx) (r : R2) : Prop :=
  ∀ (value slice : Expr) (pins : List (Addr × Obj)) (s : Shared) (σ : St) (H : Hp) (x y : V) (v u : Value) (Q : VK), Inv X pins σ H s → RelV x v → RelV y u → r x y H Q →
    subscripted slice false v u = operate [v, u] (getItem v u) → wpAny (model X.prog X.w) X.A (subscriptTail value slice v u) (EP X pins σ Q) X.xe s
noncomputable def MtR (X : Cx) (id : String) (r : V → List V → Hp → VK → Prop) : Prop :=
  ∀ (pins : List (Addr × Obj)) (s : Shared) (σ : St) (H : Hp) (x : V) (xs : List V) (v : Value) (us : List Value) (Q : VK), Inv X pins σ H s → RelV x v → Vals xs us → r x xs H Q →
    wpAny (model X.prog X.w) X.A (call (.builtin id) (v :: us)) (EP X pins σ Q) X.xe s
section
variable {X : Cx} {a b : Expr} {ta tb : TE} {pos : Pos}
theorem IxR.or {r r' : R2} (h : IxR X r) (h' : IxR X r') : IxR X (fun x y H Q => r x y H Q ∨ r' x y H Q) := by
  intro value slice pins s σ H x y v u Q I rx ry q hs
  rcases q with q | q
  · exact h value slice pins s σ H x y v u Q I rx ry q hs
  · exact h' value slice pins s σ H x y v u Q I rx ry q hs
theorem pe_ix {r : R2} (hr : IxR X r) (ha : PE X a ta) (hb : PE X b tb) (hs : PlainIx b) : PE X (.Subscript a b pos) (tOp r ta tb) := by
  intro pins s σ H Q I h
  exact Subscript_ (binT ha hb I h fun v u s2 x y H2 I2 rx ry q => hr a b pins s2 σ H2 x y v u Q I2 rx ry q (hs _ _))
noncomputable def rIxL (K : PySem.W.Frag) : R2 := fun x y H Q => ∃ p xs i v, x = .ref p ∧ y = .int i ∧ SqL K H p xs ∧ atI xs i = some v ∧ Q v H
noncomputable def rIxT (K : PySem.W.Frag) : R2 := fun x y H Q => ∃ p xs i v, x = .ref p ∧ y = .int i ∧ SqT K H p xs ∧ atI xs i = some v ∧ Q v H
theorem ix_list : IxR X (rIxL X.K) := by
  intro value slice pins s σ H x y v u Q I rx ry h hs
  obtain ⟨p, xs, i, z, rfl, rfl, hq, he, q⟩ := h
  cases rx
  obtain ⟨t, rfl⟩ := ry
  obtain ⟨its, r, pl, hz⟩ := I.list hq
  obtain ⟨j, h1, h2, h3, h4, h5⟩ := atI_get he
  obtain ⟨w, ew, rw'⟩ := r.get h2
  have hl := r.length
  have hn := line63
  have fin : EP X pins σ Q w s := ⟨z, H, I, rw', q⟩
  by_cases h0 : 0 ≤ i
  · have hj : i.toNat = j := by
      rw [seqIndex_of h0 h5] at h1
      exact Option.some.inj h1
    exact item_listR pl.isList h0 (by omega) (by rw [hj]; simpa using ew) fin hs
  · have hj : (i + (its.toArray.size : Int)).toNat = j := by
      rw [seqIndex_neg (by omega) h4] at h1
      rw [List.size_toArray, ← hl]
      exact Option.some.inj h1
    exact subscriptTail_builtinR (x := w) pl.isList.typeIs slot_list_getitem.lookup
      (wpAny_getItem_list_neg (Q := fun r s' => r = w ∧ EP X pins σ Q r s') pl.isList (by omega) (by rw [List.size_toArray] <;> omega) (by omega) (by rw [hj]; simpa using ew) ⟨rfl, fin⟩) hs
theorem ix_tup : IxR X (rIxT X.K) := by
  intro value slice pins s σ H x y v u Q I rx ry h hs
  obtain ⟨p, xs, i, z, rfl, rfl, hq, he, q⟩ := h
  cases rx
  obtain ⟨t, rfl⟩ := ry
  obtain ⟨its, r, pl, hz⟩ := I.tuple hq
  obtain ⟨j, h1, h2, h3, h4, h5⟩ := atI_get he
  obtain ⟨w, ew, rw'⟩ := r.get h2
  have hl := r.length
  have hn := line63
  have fin : EP X pins σ Q w s := ⟨z, H, I, rw', q⟩
  exact subscriptTail_builtinR (x := w) pl.typeIs slot_tuple_getitem.lookup
    (getItem_tuple (j := j) (Q := fun r s' => r = w ∧ EP X pins σ Q r s') pl (by omega) (by omega) (by rw [List.size_toArray, ← hl]; exact h1) (by simpa using ew) ⟨rfl, fin⟩) hs
theorem mapSeq_set (its : List Value) (n j : Nat) (u : Value) : Obj.mapSeq (·.setIfInBounds j u) { cls := .type "list", data := .seq its.toArray n } = { cls := .type "list", data := .seq (its.set j u).toArray n } := by
  simp [Obj.mapSeq]
theorem Inv.lst {pins : List (Addr × Obj)} {σ : St} {H : Hp} {s : Shared} {p : Addr} {xs : List V} (I : Inv X pins σ H s) (h : H p = some (.lst xs)) :
    ∃ (its : List Value) (n : Nat), Vals xs its ∧ s.heap.get? p = some { cls := .type "list", data := .seq its.toArray n } ∧ xs.length ≤ sizeLine := by
  obtain ⟨z, its, n, r, e⟩ := I.hok p _ h
  exact ⟨its, n, r, e, z⟩
theorem Inv.lstUpd {pins : List (Addr × Obj)} {σ : St} {H : Hp} {s : Shared} {p : Addr} {xs ys : List V} {its its' : List Value} {n n' : Nat} {f : Obj → Obj} (I : Inv X pins σ H s) (h : H p = some (.lst xs))
    (ho : s.heap.get? p = some { cls := .type "list", data := .seq its.toArray n }) (hf : f { cls := .type "list", data := .seq its.toArray n } = { cls := .type "list", data := .seq its'.toArray n' }) (r : Vals ys its') (hz : ys.length ≤ sizeLine) (t : Nat) :
    Inv X pins σ (upd H p (.lst ys)) { s with heap := s.heap.update p f, toks := t } := by
  have e : (s.heap.update p f).get? p = some { cls := .type "list", data := .seq its'.toArray n' } := by
    rw [Heap.get?_update_self f ho (by rw [hf] <;> rfl), hf]
  refine I.write (x := p) (e := p) (by rw [h]; trivial) (.inl rfl) (fun b u hb q => (Heap.get?_update_other _ _ (Ne.symm hb)).trans q) ⟨_, e⟩ ?_
  exact ⟨hz, its', n', r, e⟩
noncomputable def rSetL : V → V → V → Hp → (Hp → Prop) → Prop := fun o i v H Q => ∃ p xs k j, o = .ref p ∧ i = .int k ∧ H p = some (.lst xs) ∧ ixN xs.length k = some j ∧ Q (upd H p (.lst (xs.set j v)))
theorem set_list : PSet X rSetL := by
  intro pins s σ H o i v ov iv u Q I ro ri rv h
  obtain ⟨p, xs, k, j, rfl, rfl, hp, hj, q⟩ := h
  cases ro
  obtain ⟨t, rfl⟩ := ri
  obtain ⟨its, n, r, ho, hz⟩ := I.lst hp
  obtain ⟨h1, h2, h3, h4⟩ := ixN_seq hj
  have hl := r.length
  have hn := line63
  have I' : Inv X pins σ (upd H p (.lst (xs.set j v))) { s with heap := s.heap.update p (Obj.mapSeq (·.setIfInBounds j u)) } :=
    I.lstUpd hp ho (mapSeq_set its n j u) (r.set rv j) (by rw [List.length_set]; exact hz) s.toks
  by_cases h0 : 0 ≤ k
  · have hk : k.toNat = j := by
      rw [seqIndex_of h0 h4] at h1
      exact Option.some.inj h1
    exact PySem.W.ki_setAt ho h0 (by omega) (by rw [List.size_toArray, ← hl]; exact h4) (by rw [hk]; exact ⟨_, I', q⟩)
  · have hk : (k + (its.toArray.size : Int)).toNat = j := by
      rw [seqIndex_neg (by omega) h3] at h1
      rw [List.size_toArray, ← hl]
      exact Option.some.inj h1
    exact PySem.W.ki_setBack ho (by omega) (by rw [List.size_toArray, ← hl]; exact h3) (by omega) (by rw [hk]; exact ⟨_, I', q⟩)
theorem slice_bounds (lo hi : Option Int) (n : Nat) : (sliceBounds lo hi none n).1 = ((HT.sIx n 0 lo : Nat) : Int) ∧ (sliceBounds lo hi none n).2.1 = ((HT.sIx n n hi : Nat) : Int) ∧ (sliceBounds lo hi none n).2.2 = 1 := by
  refine ⟨?_, ?_, rfl⟩
  · cases lo with
    | none => simp [sliceBounds, HT.sIx]
    | some i =>
      simp only [sliceBounds, HT.sIx, Option.getD_none, show (1 : Int) > 0 by decide, if_true]
      by_cases h : i < 0
      · simp only [h, if_true] <;> omega
      · simp only [h, if_false] <;> omega
  · cases hi with
    | none => simp [sliceBounds, HT.sIx]
    | some i =>
      simp only [sliceBounds, HT.sIx, Option.getD_none, show (1 : Int) > 0 by decide, if_true]
      by_cases h : i < 0
      · simp only [h, if_true] <;> omega
      · simp only [h, if_false] <;> omega
theorem slicePick_cut (its : List Value) (lo hi : Option Int) : slicePick its.toArray lo hi none = ((its.drop (HT.sIx its.length 0 lo)).take (HT.sIx its.length its.length hi - HT.sIx its.length 0 lo)).toArray := by
  obtain ⟨h1, h2, h3⟩ := slice_bounds lo hi its.toArray.size
  unfold slicePick
  rw [h1, h2, h3]
  simp only [sliceRange_one, pick_run, List.size_toArray] <;> rfl
noncomputable def rSlL (K : PySem.W.Frag) : V → Option Int → Option Int → Hp → VK → Prop := fun x lo hi H Q => ∃ a xs, x = .ref a ∧ SqL K H a xs ∧ ∀ p, H p = none → Q (.ref p) (upd H p (.lst (cutV xs lo hi)))
theorem sl_list : SlR X (rSlL X.K) := by
  intro pins s σ H x v vl vu lo hi sl Q I rx hs pl pu h
  obtain ⟨a, xs, rfl, hx, q⟩ := h
  cases rx
  obtain ⟨its, r, ht, hz⟩ := I.list hx
  have hlen := r.length
  refine ⟨"list", _, slot_list_getitem.lookup, ht.isList.typeIs, ?_⟩
  refine wpAny_getItem_list_slice ht.isList hs pl pu .none (by simp) ?_ (by rw [List.size_toArray] <;> omega)
  rw [slicePick_cut, ← hlen]
  refine ⟨.ref s.heap.objs.size, _, I.laid (t' := s.toks) (o := .lst (cutV xs lo hi)) (fun b ob q => Heap.get?_push_of_some _ q) (Nat.le_refl _) ?_, rfl, q _ (I.hok.fresh (Nat.le_refl _))⟩
  exact ⟨Nat.le_trans (cutV_length xs lo hi) hz, _, 0, (r.drop (HT.sIx xs.length 0 lo)).take (HT.sIx xs.length xs.length hi - HT.sIx xs.length 0 lo), Heap.get?_push_size _ rfl⟩
noncomputable def flatV : V → Bool
  | .non => true
  | .bl _ => true
  | .int _ => true
  | .str _ => true
  | _ => false
noncomputable def eqV : V → V → Bool
  | .non, .non => true
  | .bl a, .bl b => a == b
  | .bl a, .int b => (if a then 1 else 0) == b
  | .int a, .bl b => a == (if b then 1 else 0)
  | .int a, .int b => a == b
  | .str a, .str b => a == b
  | _, _ => false
theorem eqAt_V {A : Around} {s : Shared} {y x : V} {u v : Value} (ry : RelV y u) (rx : RelV x v) (fy : flatV y = true) (fx : flatV x = true) : SeqAt.EqAt A s u v (eqV y x) := by
  cases y with
  | non =>
    cases ry
    cases x with
    | non => cases rx; exact SeqAt.EqAt.same _
    | bl b => cases rx; exact SeqAt.EqAt.none_bool b
    | int b => obtain ⟨t, rfl⟩ := rx; exact SeqAt.EqAt.none_int b t
    | str b => obtain ⟨t, rfl⟩ := rx; exact SeqAt.EqAt.none_str b t
    | _ => exact absurd (show false = true from fx) Bool.false_ne_true
  | bl a =>
    cases ry
    cases x with
    | non => cases rx; exact SeqAt.EqAt.bool_none a
    | bl b => cases rx; exact SeqAt.EqAt.bool_bool a b
    | int b => obtain ⟨t, rfl⟩ := rx; exact SeqAt.EqAt.bool_int a b t
    | str b => obtain ⟨t, rfl⟩ := rx; exact SeqAt.EqAt.bool_str a b t
    | _ => exact absurd (show false = true from fx) Bool.false_ne_true
  | int a =>
    obtain ⟨t', rfl⟩ := ry
    cases x with
    | non => cases rx; exact SeqAt.EqAt.int_none a t'
    | bl b => cases rx; exact SeqAt.EqAt.int_bool a t' b
    | int b => obtain ⟨t, rfl⟩ := rx; exact SeqAt.EqAt.int_int a t' b t
    | str b => obtain ⟨t, rfl⟩ := rx; exact SeqAt.EqAt.int_str a t' b t
    | _ => exact absurd (show false = true from fx) Bool.false_ne_true
  | str a =>
    obtain ⟨t', rfl⟩ := ry
    cases x with
    | non => cases rx; exact SeqAt.EqAt.str_none a t'
    | bl b => cases rx; exact SeqAt.EqAt.str_bool a t' b
    | int b => obtain ⟨t, rfl⟩ := rx; exact SeqAt.EqAt.str_int a t' b t
    | str b => obtain ⟨t, rfl⟩ := rx; exact SeqAt.EqAt.str_str a t' b t
    | _ => exact absurd (show false = true from fx) Bool.false_ne_true
  | _ => exact absurd (show false = true from fy) Bool.false_ne_true
theorem call_len_seq : CallR X (.builtin "len") (fun xs H Q => ∃ p ys, xs = [.ref p] ∧ (SqL X.K H p ys ∨ SqT X.K H p ys) ∧ Q (.int ys.length) H) := by
  intro pins s σ H xs us Q I r h
  obtain ⟨p, ys, rfl, hq, q⟩ := h
  obtain ⟨u, rfl, rx⟩ := vals1 r
  cases rx
  have hn := line63
  rcases hq with hq | hq
  · obtain ⟨its, r', pl, hz⟩ := I.list hq
    have hlen := r'.length
    exact Calls.call_len_list pl.isList (by simp only [List.size_toArray] <;> omega) ⟨.int ys.length, H, I.tok _, ⟨s.toks + 1, by rw [List.size_toArray, hlen]⟩, q⟩
  · obtain ⟨its, r', pl, hz⟩ := I.tuple hq
    have hlen := r'.length
    exact len_tuple pl (by simp only [List.size_toArray] <;> omega) ⟨.int ys.length, H, I.tok _, ⟨s.toks + 1, by rw [List.size_toArray, hlen]⟩, q⟩
theorem CallR.or {f : Value} {r r' : List V → Hp → VK → Prop} (h : CallR X f r) (h' : CallR X f r') : CallR X f (fun xs H Q => r xs H Q ∨ r' xs H Q) := by
  intro pins s σ H xs us Q I rs q
  rcases q with q | q
  · exact h pins s σ H xs us Q I rs q
  · exact h' pins s σ H xs us Q I rs q
theorem call_list_of : CallR X (.type "list") (fun xs H Q => ∃ p ys, xs = [.ref p] ∧ (SqL X.K H p ys ∨ SqT X.K H p ys) ∧ ∀ l, H l = none → Q (.ref l) (upd H l (.lst ys))) := by
  intro pins s σ H xs us Q I r h
  obtain ⟨p, ys, rfl, hq, q⟩ := h
  obtain ⟨u, rfl, rx⟩ := vals1 r
  cases rx
  have fin : ∀ (its : List Value), Vals ys its → ys.length ≤ sizeLine → ∀ (h' : Heap) (c' : Nat), (∀ b o', s.heap.get? b = some o' → h'.get? b = some o') →
      h'.get? s.heap.objs.size = some { cls := .type "list", dict := none, data := .seq its.toArray c', slots := #[] } → EP X pins σ Q (.ref s.heap.objs.size) { s with heap := h' } := fun its r' hz h' c' kp e =>
    ⟨.ref s.heap.objs.size, _, I.laid (t' := s.toks) kp (Nat.le_refl _) (show ObjOk X.prog X.w _ h' _ (.lst ys) from ⟨hz, its, c', r', e⟩), rfl, q _ (I.hok.fresh (Nat.le_refl _))⟩
  rcases hq with hq | hq
  · obtain ⟨its, r', pl, hz⟩ := I.list hq
    have hlen := r'.length
    obtain ⟨o, ho, hc, n, hd⟩ := pl.isList
    exact call_list_seq p (.inl rfl) ho hc hd (fun h' c' kp e => fin its r' hz h' c' kp e) (by simp only [List.size_toArray] <;> omega)
  · obtain ⟨its, r', pl, hz⟩ := I.tuple hq
    have hlen := r'.length
    obtain ⟨o, ho, hc, n, hd⟩ := pl
    exact call_list_seq p (.inr rfl) ho hc hd (fun h' c' kp e => fin its r' hz h' c' kp e) (by simp only [List.size_toArray] <;> omega)
theorem call_tuple_of : CallR X (.type "tuple") (fun xs H Q => ∃ p ys, xs = [.ref p] ∧ ((SqL X.K H p ys ∧ ∀ l, H l = none → Q (.ref l) (upd H l (.tup ys))) ∨ (SqT X.K H p ys ∧ Q (.ref p) H))) := by
  intro pins s σ H xs us Q I r h
  obtain ⟨p, ys, rfl, h⟩ := h
  obtain ⟨u, rfl, rx⟩ := vals1 r
  cases rx
  rcases h with ⟨hq, q⟩ | ⟨hq, q⟩
  · obtain ⟨its, r', pl, hz⟩ := I.list hq
    have hlen := r'.length
    refine call_tuple_list pl.isList (fun h' kp => ?_) (by simp only [List.size_toArray] <;> omega)
    have I1 : Inv X pins σ H { s with heap := h' } := I.kept (t' := s.toks) kp
    have I2 : Inv X pins σ (upd H h'.objs.size (.tup ys)) { s with heap := h'.push { cls := .type "tuple", data := .seq its.toArray } } :=
      I1.laid (t' := s.toks) (fun b o e => Heap.get?_push_of_some _ e) (Nat.le_refl _) (show ObjOk X.prog X.w _ _ _ (.tup ys) from ⟨hz, its, r', IsTup.new _ _⟩)
    exact ⟨.ref h'.objs.size, _, I2, rfl, q _ (I1.hok.fresh (Nat.le_refl _))⟩
  · obtain ⟨its, r', pl, hz⟩ := I.tuple hq
    exact call_tuple_same pl ⟨.ref p, H, I, rfl, q⟩
noncomputable def tyV (K : PySem.W.Frag) (T : String) (x : V) (H : Hp) : Prop := match x with
  | .str _ => T = "str"
  | .int _ => T = "int"
  | .ref p => (T = "list" ∧ ∃ xs, SqL K H p xs) ∨ (T = "tuple" ∧ ∃ o, K.lookup p = some o ∧ o.cls = .type "tuple" ∧ o.dict = none) ∨
      (T = "dict" ∧ ((∃ kvs, H p = some (.dK kvs)) ∨ ∃ kvs, H p = some (.dT kvs))) ∨ (T = "set" ∧ ∃ S n, H p = some (.set S n))
  | _ => False
theorem tyV_is {pins : List (Addr × Obj)} {σ : St} {H : Hp} {s : Shared} {T : String} {x : V} {v : Value} (I : Inv X pins σ H s) (r : RelV x v) (ty : tyV X.K T x H) :
    s.TypeIs v T ∧ ∀ a, v = .ref a → ∃ ob, s.heap.get? a = some ob ∧ ob.dict = none := by
  cases x with
  | str z =>
    obtain ⟨t, rfl⟩ := r
    cases (show T = "str" from ty)
    exact ⟨typeIs_str s z t, fun ψ e => nomatch e⟩
  | int i =>
    obtain ⟨t, rfl⟩ := r
    cases (show T = "int" from ty)
    exact ⟨typeIs_int s i t, fun ψ e => nomatch e⟩
  | ref p =>
    cases r
    rcases ty with ⟨rfl, xs, hq⟩ | ⟨rfl, o, hk, hc, hd⟩ | ⟨rfl, hk⟩ | ⟨rfl, S, n, hk⟩
    · obtain ⟨its, _, pl, _⟩ := I.list hq
      refine ⟨pl.isList.typeIs, fun a e => ?_⟩
      cases e
      obtain ⟨o, n, e, c, hd, _⟩ := pl
      exact ⟨o, e, hd⟩
    · refine ⟨⟨o, I.kIn p o hk, hc⟩, fun a e => ?_⟩
      cases e
      exact ⟨o, I.kIn _ o hk, hd⟩
    · have z : ∃ o, s.heap.get? p = some o ∧ o.ExactDict := by
        rcases hk with ⟨kvs, hk⟩ | ⟨kvs, hk⟩
        · obtain ⟨_, _, _, _, o, _, _, e, ex, _⟩ := I.hok p _ hk
          exact ⟨o, e, ex⟩
        · obtain ⟨_, _, _, _, o, _, _, e, ex, _⟩ := I.hok p _ hk
          exact ⟨o, e, ex⟩
      obtain ⟨o, e, ex⟩ := z
      refine ⟨⟨o, e, ex.1⟩, fun a e2 => ?_⟩
      cases e2
      exact ⟨o, e, ex.2.1⟩
    · obtain ⟨o, _, _, _, e, ex, _⟩ := I.hok p _ hk
      refine ⟨⟨o, e, ex.1⟩, fun a e2 => ?_⟩
      cases e2
      exact ⟨o, e, ex.2.1⟩
  | _ => exact False.elim ty
noncomputable def tBM (K : PySem.W.Frag) (T : String) (r : V → List V → Hp → VK → Prop) (to : TE) (t : TA) : TE := fun σ H Q => to σ H fun x H1 => tyV K T x H1 ∧ t σ H1 fun xs H2 => r x xs H2 Q
variable {o e : Expr} {es : List Expr} {to : TE} {t : TA} {name : Str} {apos cpos : Pos} {T id : String} {r : V → List V → Hp → VK → Prop}
theorem pe_bm (pa : PlainAttrs T) (slot : Slot T name id) (hty : typeOf (.builtin id) = pure (.type "method_descriptor")) (hm : MtR X id r) (ho : PE X o to) (ha : PA X (e :: es) t)
    (hbase : attributeBase o name X.env (eval o X.env) = eval o X.env := by rfl)
    (hfew : ((backTo cpos (starEach (e :: es) X.env)).all (fun x => !x.1) && (backToKw cpos (keywordEach [] X.env)).all (fun x => x.1.isSome)
      && decide ((e :: es).length + ([] : List Keyword).length + (if ([] : List Keyword).isEmpty then 0 else 1) < 30)) = true := by rfl)
    (hline : (apos.endLine == cpos.line) = true := by rfl) (hs : starEach (e :: es) X.env = (false, eval e X.env) :: starEach es X.env := by rfl) (hplain : (backTo cpos (starEach es X.env)).any (·.1) = false := by rfl) :
    PE X (.Call (.Attribute o name apos) (e :: es) [] cpos) (tBM X.K T r to t) := by
  intro pins s σ H Q I h
  refine wpAny_Call_method_late hbase hfew hline rfl (thn (ho pins s σ H _ I h) fun v s1 ⟨x, H1, I1, r1, ty, q1⟩ => ?_)
  obtain ⟨h1, h2⟩ := tyV_is I1 r1 ty
  refine ⟨T, id, pa, slot, hty, h1, h2, ?_⟩
  have hA := ha cpos pins s1 σ H1 _ I1 q1
  rw [hs] at hA ⊢
  refine Calls.callWith_builtin (by show (false || (backTo cpos (starEach es X.env)).any (·.1)) = false; rw [hplain] <;> rfl) (Calls.evalArgs_plain ?_)
  exact thn hA fun us s2 ⟨vs, H2, I2, r2, q2⟩ => hm pins s2 σ H2 x vs v us Q I2 r1 r2 q2
end
noncomputable def MtM (X : Cx) (id : String) (r : V → List V → Hp → VK → Prop) : Prop :=
  ∀ (pins : List (Addr × Obj)) (s : Shared) (σ : St) (H : Hp) (x : V) (xs : List V) (v : Value) (us : List Value) (Q : VK), Inv X pins σ H s → RelV x v → Vals xs us → r x xs H Q →
    wpAny (model X.prog X.w) X.A (call (.builtin id) (v :: us)) (EP X pins σ Q) X.xe s
theorem Vals.one : ∀ {x : V} {us : List Value}, Vals [x] us → ∃ u, us = [u] ∧ RelV x u
  | _, _, .cons r .nil => ⟨_, rfl, r⟩
theorem Vals.rep {xs : List V} {us : List Value} (h : Vals xs us) : ∀ k : Nat, Vals (List.replicate k xs).flatten (List.replicate k us).flatten
  | 0 => .nil
  | k + 1 => by
    rw [List.replicate_succ, List.replicate_succ, List.flatten_cons, List.flatten_cons]
    exact Vals.append h (Vals.rep h k)
theorem foldl_rep (its : List Value) : ∀ (k : Nat) (acc : List Value),
    List.foldl (fun x1 x2 => x1 ++ x2) acc.toArray (List.replicate k its.toArray) = (acc ++ (List.replicate k its).flatten).toArray
  | 0, acc => by simp
  | k + 1, acc => by
    have e : acc.toArray ++ its.toArray = (acc ++ its).toArray := by simp
    have e2 : (acc ++ its) ++ (List.replicate k its).flatten = acc ++ (List.replicate (k + 1) its).flatten := by
      rw [List.replicate_succ, List.flatten_cons, List.append_assoc]
    rw [← e2, ← foldl_rep its k (acc ++ its), ← e, List.replicate_succ, List.foldl_cons]
section
variable {X : Cx} {pins : List (Addr × Obj)} {σ : St} {H : Hp} {s : Shared} {l b : Addr} {xs ys zs : List V}
theorem Inv.lset {its its' : List Value} {n : Nat} {f : Array Value → Array Value} {t' : Nat} (I : Inv X pins σ H s) (hH : H l = some (.lst xs))
    (e : s.heap.get? l = some { cls := .type "list", data := .seq its.toArray n }) (hf : f its.toArray = its'.toArray) (hv : Vals ys its') (hz : ys.length ≤ sizeLine) :
    Inv X pins σ (upd H l (.lst ys)) { s with heap := s.heap.update l (Obj.mapSeq f), toks := t' } := by
  have q := PySem.IsL.update e f
  rw [hf] at q
  refine I.write (x := l) (e := l) (by rw [hH]; exact trivial) (.inl rfl) (fun b' u hb hu => (Heap.get?_update_other s.heap (Obj.mapSeq f) (Ne.symm hb)).trans hu) ⟨_, q⟩ ?_
  exact ⟨hz, its', _, hv, q⟩
theorem Inv.lnew {its : List Value} {t' : Nat} (I : Inv X pins σ H s) (hv : Vals ys its) (hz : ys.length ≤ sizeLine) :
    Inv X pins σ (upd H s.heap.objs.size (.lst ys)) { s with heap := s.heap.push { cls := .type "list", data := .seq its.toArray }, toks := t' } :=
  I.laid (fun ψ ψ q => Heap.get?_push_of_some _ q) (Nat.le_refl _) ⟨hz, its, 0, hv, Heap.get?_push_size _ rfl⟩
theorem Inv.fresh (I : Inv X pins σ H s) : H s.heap.objs.size = none := I.hok.fresh (Nat.le_refl _)
theorem Inv.lstM (I : Inv X pins σ H s) (hH : H l = some (.lst xs)) : xs.length ≤ sizeLine ∧ ∃ (its : List Value) (n : Nat), Vals xs its ∧ xs.length = its.length ∧ s.heap.get? l = some { cls := .type "list", data := .seq its.toArray n } := by
  obtain ⟨z, its, n, r, e⟩ := I.hok l _ hH
  exact ⟨z, its, n, r, r.length, e⟩
theorem notLongL {n : Nat} (h : n ≤ sizeLine) : Builtin.List.listTooLong n = false := by
  unfold Builtin.List.listTooLong
  exact decide_eq_false (by omega)
end
section
variable {X : Cx}
noncomputable def rAppend : V → List V → Hp → VK → Prop := fun x vs H Q => ∃ l xs y, x = .ref l ∧ vs = [y] ∧ H l = some (.lst xs) ∧ xs.length < sizeLine ∧ Q .non (upd H l (.lst (xs ++ [y])))
theorem mt_append : MtM X "list.append" rAppend := by
  intro pins s σ H x vs v us Q I rx rv h
  obtain ⟨l, xs, y, rfl, rfl, hH, hz, q⟩ := h
  cases rx
  obtain ⟨u, rfl, ru⟩ := rv.one
  obtain ⟨z, its, n, r, hl, e⟩ := I.lstM hH
  refine call_meets F.slot_list_append ⟨_, e, rfl⟩ F.entry_list_append (F.args_list_append_2 _ _) (PySem.list_append l its.toArray n u (by rw [List.size_toArray]; omega)) ⟨e, ?_⟩
  refine ⟨.non, _, I.lset (its' := its ++ [u]) hH e (by simp) (r.append (.cons ru .nil)) ?_, rfl, q⟩
  rw [List.length_append, List.length_singleton]
  omega
noncomputable def rExtend : V → List V → Hp → VK → Prop := fun x vs H Q => ∃ l b xs zs, x = .ref l ∧ vs = [.ref b] ∧ H l = some (.lst xs) ∧ H b = some (.lst zs) ∧ xs.length + zs.length ≤ sizeLine ∧ Q .non (upd H l (.lst (xs ++ zs)))
theorem mt_extend : MtM X "list.extend" rExtend := by
  intro pins s σ H x vs v us Q I rx rv h
  obtain ⟨l, b, xs, zs, rfl, rfl, hH, hB, hz, q⟩ := h
  cases rx
  obtain ⟨u, rfl, ru⟩ := rv.one
  cases ru
  obtain ⟨z, its, n, r, hl, e⟩ := I.lstM hH
  obtain ⟨z2, its2, n2, r2, hl2, e2⟩ := I.lstM hB
  have hsz : its.toArray.size + its2.toArray.size ≤ sizeLine := by rw [List.size_toArray, List.size_toArray]; omega
  have hlong : ¬ (!its.toArray.isEmpty && Builtin.List.listTooLong (its.toArray.size + its2.toArray.size)) = true := by
    rw [notLongL hsz, Bool.and_false]
    exact Bool.false_ne_true
  refine call_meets F.slot_list_extend ⟨_, e, rfl⟩ F.entry_list_extend (F.args_list_extend_2 _ _)
    (AutoSeq1.list_extend_list_list_0 l its.toArray n b its2.toArray n2 hlong (by rw [List.size_toArray]; omega) (by omega)) ⟨e, e2, ?_⟩
  refine ⟨.non, _, I.lset (its' := its ++ its2) hH e (by simp) (r.append r2) ?_, rfl, q⟩
  rw [List.length_append]
  omega
noncomputable def rCat : R2 := fun x y H Q => ∃ l b xs zs, x = .ref l ∧ y = .ref b ∧ H l = some (.lst xs) ∧ H b = some (.lst zs) ∧ xs.length + zs.length ≤ sizeLine ∧ ∀ p, H p = none → Q (.ref p) (upd H p (.lst (xs ++ zs)))
theorem op_cat : OpR X (binaryOp .Add) rCat := by
  intro pins s σ H x y v u Q I rx ry h
  obtain ⟨l, b, xs, zs, rfl, rfl, hH, hB, hz, q⟩ := h
  cases rx
  cases ry
  obtain ⟨z, its, n, r, hl, e⟩ := I.lstM hH
  obtain ⟨z2, its2, n2, r2, hl2, e2⟩ := I.lstM hB
  refine PySem.P.add_list e e2 ?_ (by rw [List.size_toArray, List.size_toArray]; omega)
  have ea : its.toArray ++ its2.toArray = (its ++ its2).toArray := by simp
  rw [ea]
  exact ⟨.ref _, _, I.lnew (t' := s.toks) (r.append r2) (by rw [List.length_append]; omega), rfl, q _ I.fresh⟩
noncomputable def rRep : R2 := fun x y H Q => ∃ l k xs, x = .ref l ∧ y = .int k ∧ H l = some (.lst xs) ∧ -(2 ^ 63) ≤ k ∧ k < 2 ^ 63 ∧ xs.length * k.toNat ≤ sizeLine ∧
  ∀ p, H p = none → Q (.ref p) (upd H p (.lst (List.replicate k.toNat xs).flatten))
theorem len_rep {α : Type} (xs : List α) (k : Nat) : (List.replicate k xs).flatten.length = k * xs.length := by
  induction k with
  | zero => simp
  | succ k ih => rw [List.replicate_succ, List.flatten_cons, List.length_append, ih, Nat.succ_mul, Nat.add_comm]
theorem op_rep : OpR X (binaryOp .Mult) rRep := by
  intro pins s σ H x y v u Q I rx ry h
  obtain ⟨l, k, xs, rfl, rfl, hH, h1, h2, hz, q⟩ := h
  cases rx
  obtain ⟨t, rfl⟩ := ry
  obtain ⟨z, its, n, r, hl, e⟩ := I.lstM hH
  have hlen : its.toArray.size * k.toNat ≤ sizeLine := by rw [List.size_toArray, ← hl]; exact hz
  have hcap : ¬ its.toArray.size * k.toNat > (2 ^ 63 - 1) / 8 := by
    have : (sizeLine : Nat) ≤ (2 ^ 63 - 1) / 8 := by decide
    omega
  have hfit : ¬ (!Builtin.List.listFitsIndex k) = true := by
    rw [fitsIndex_both h1 h2]
    exact Bool.false_ne_true
  have hlong : ¬ Builtin.List.listTooLong (its.toArray.size * k.toNat) = true := by
    rw [notLongL hlen]
    exact Bool.false_ne_true
  have hnew : List.foldl (fun x1 x2 => x1 ++ x2) #[] (List.replicate (if its.toArray.isEmpty = true then 0 else k.toNat) its.toArray) = (List.replicate k.toNat its).flatten.toArray := by
    have f0 : ∀ m : Nat, List.foldl (fun x1 x2 => x1 ++ x2) #[] (List.replicate m its.toArray) = (List.replicate m its).flatten.toArray := fun m => by
      have := foldl_rep its m []
      rw [List.nil_append] at this
      exact this
    rw [f0]
    cases its with
    | nil => simp
    | cons a r' => rw [if_neg (by simp)]
  refine wpAny_binaryOp_repeat_ref (T := "list") (U := "int") (by decide) ⟨_, e, rfl⟩ (fun s' => typeIs_int s' k t) noFill_list_mul F.fills_int_mul F.slot_int_rmul repeat_list F.slot_int_index.lookup
    (call_meets F.slot_int_rmul (typeIs_int s k t) F.entry_int_rmul (F.args_int_rmul_2 _ _) (int___rmul___int_list k t l its.toArray n)
      ⟨e, rfl, ⟨_, e, rfl⟩, call_meets F.slot_list_mul ⟨_, e, rfl⟩ F.entry_list_mul (F.args_list_mul_2 _ _) (AutoListH.list___mul___list_int_3 l its.toArray n k t hfit hcap hlong) ⟨e, ?_⟩⟩)
  rw [hnew]
  exact ⟨.ref _, _, I.lnew (t' := s.toks) (r.rep k.toNat) (by rw [len_rep, Nat.mul_comm]; exact hz), rfl, q _ I.fresh⟩
end
section
variable {prog : Program} {w : World} {A : Around} {E : L2.VSP} {s : Shared}
end
section
variable {X : Cx}
end
end L2
namespace Att
open PySem PySem.W PySem.Calls PyProof.Rows
theorem ints_of_wellAll {P : Params} {h : Heap} : ∀ (ns : List Int) (vs : List Value), WellAll P h vs (ns.map WData.int) → IntsAre vs ns := by
  intro ns
  induction ns with
  | nil =>
    intro vs w
    rw [List.map_nil] at w
    cases w
    exact .nil
  | cons n ns ih =>
    intro vs w
    rw [List.map_cons] at w
    cases w with
    | cons a b =>
      cases a
      exact .cons _ _ (ih _ b)
theorem script_of {l : OpenLaw} {n : Nat} (hn : l.most = some n) {P : Params} {h : Heap} {args : List WData} {vals : List Value}
    (hpre : l.row.toRowW.claim.pre args = true) (hwl : WellAll P h vals args) :
    ∃ a vs ns, vals = [Value.ref a] ∧ args = [WData.list (ns.map WData.int)] ∧ h.get? a = some { cls := .type "list", data := .seq vs.toArray } ∧ IntsAre vs ns ∧ ns.length ≤ n := by
  have hsh : WShape.hasAll [] args [.list .int] = true := (pre_splitW hpre).1
  have hc : l.pre.holds [] { args := args } = true := (pre_splitW hpre).2
  obtain ⟨d, r, rfl, h1, h2⟩ := hasAllW_cons hsh
  obtain rfl := hasAllW_nil h2
  obtain ⟨xs, rfl, h3⟩ := hasW_list h1
  obtain ⟨ns, rfl⟩ := items_int h3
  have hlen : ns.length ≤ n := by
    unfold OpenLaw.pre at hc
    have h4 : (WTm.not (.lt (.lit (.int (n : Int))) (.len (.arg 0)))).holds [] { args := [.list (ns.map .int)] } = true := by
      have h4 := (holds_andW hc).1
      rw [hn] at h4
      exact h4
    have h5 := condW_of h4 (w_not (w_lt w_lit (w_len_list (w_arg rfl))))
    rw [List.length_map] at h5
    refine Nat.le_of_not_lt fun q => ?_
    have q' : (n : Int) < ((ns.length : Nat) : Int) := by omega
    first
      | (rw [decide_eq_true q'] at h5; exact absurd h5 (by decide))
      | (simp at h5; omega)
  cases hwl with
  | cons w1 w2 =>
    cases w2
    cases w1 with
    | list ho hall => exact ⟨_, _, ns, rfl, rfl, ho, ints_of_wellAll ns _ hall, hlen⟩
theorem post_true (l : OpenLaw) (args : List WData) : l.row.toRowW.claim.post args (.bool true) args = true :=
  postW_of (r := l.row.toRowW) (X := (true == true))
    (show WShape.has [] (.bool true) .bool = true by first | rfl | decide | simp [WShape.has, WShape.arms, WShape.armsAll])
    (show (WTm.eq .res (.lit (.bool true))).value [] { args := args, res := some (.bool true), after := args } = some (.bool (true == true)) from w_eq_bool (w_res rfl) w_lit) rfl
theorem attach_call {l : OpenLaw} {n : Nat} {q : Program} {loose : List Str} {XP : (Str → Option Value) → Heap → Prop} {YP : World → Heap → Prop} {d : DefRec}
    (hn : l.most = some n) (hdf : d.params.defaults = [])
    (call : ∀ (w : World) (s₀ s₁ : Shared) (mg mb : L2.SV) (fa : Addr) (o : Obj) (pm cd doc : Value) (a : Addr) (vs : List Value) (ns : List Int),
      Ground q loose [] XP w s₀ mg mb s₁.heap → YP w s₁.heap →
      s₁.heap.get? fa = some o → o.data = .func (docDef d.name d.params d.body d.scope pm cd doc) → s₁.heap.CodeRec cd d.name → mg d.name = some (.ref fa) →
      s₁.heap.get? a = some { cls := .type "list", data := .seq vs.toArray } → IntsAre vs ns → ns.length ≤ n → s₁.gens = #[] →
      codeAny (model l.prog w) callerA (.call (.ref fa) ⟨[.ref a], []⟩) (fun r s' => r = .ok (.ret (.bool true)) ∧ OldK s₁.heap s'.heap ∧ s'.os = s₁.os ∧ AllBare s'.gens) s₁) :
    WalkO q loose XP YP l.row.toRowW d [] (fun f vs => PySem.call f vs) := by
  intro w s₀ s₁ mg mb G Y fa o pm cd doc dV kV ho hd hcd hD hmg hg args vals as hpre hlay hrd hwl hlo
  obtain rfl : dV = .none := Dflts.none hD hdf
  obtain rfl : kV = .none := Dflts.noKw hD
  obtain ⟨a, vs, ns, rfl, rfl, hobj, hints, hlen⟩ := script_of hn hpre hwl
  refine enter_call (codeAny_mono (call w s₀ s₁ mg mb fa o pm cd doc a vs ns G Y ho (fd_plain hd) hcd hmg hobj hints hlen hg) fun r s' hq => ?_)
  obtain ⟨rfl, h2, h3, h4⟩ := hq
  exact ⟨.inl ⟨.bool true, .bool true, [], rfl, fun ψ => rfl, .bool true, post_true l _, fun ψ => ⟨List.Pairwise.nil, fun ψ hm => (nomatch hm)⟩⟩, h2, h3, h4⟩
section
variable {prog : Program} {w : World} {A : Around} {E : L2.VSP} {s : Shared} {K : Frag}
end
end Att
namespace L2
open PySem PySem.Spec PyProof.Rows
theorem vals_ints : ∀ {vs : List Value} {ns : List Int}, IntsAre vs ns → Vals (ns.map V.int) vs
  | _, _, .nil => .nil
  | _, _, .cons n t h => .cons ⟨t, rfl⟩ (vals_ints h)
noncomputable def Only (H : Hp) : Prop := ∀ b, H b = none ∨ ∃ o xs, H b = some (.frz o (.lst xs))
theorem law_call {P : Program} {w : World} {K : PySem.W.Frag} {mg mb : L2.SV} {CX : CXT} {k : Nat} {fa a : Addr} {fd : FuncData} {x : Str} {sp : Sp} {s₁ : Shared} {vs : List Value} {ns : List Int}
    (KX : K.In s₁.heap) (hns : s₁.heap.Ns mainGlobals mg) (hb : s₁.heap.Ns builtinsNs mb) (hbb : ∀ x : Str, x ≠ "__name__" → mb x = bootBuiltins x) (hlim : s₁.heap.NoLimit) (hg : s₁.gens = #[])
    (ha : s₁.heap.get? a = some { cls := .type "list", data := .seq vs.toArray }) (hi : IntsAre vs ns) (hl : ns.length ≤ sizeLine) (hr : Room k callerA)
    (F : ∀ base : Heap, K.In base → base.Ns mainGlobals mg → FnOk P w K mg base CX k fa fd [x] sp) (hbind : ∀ (s : Shared) (u : Value), BindsTo s fd ⟨[u], []⟩ [(x, u)])
    (hsp : ∀ H : Hp, Only H → SqL K H a (ns.map V.int) → sp [.ref a] H (fun v ψ => v = .bl true) fun ψ ψ ψ => False)
    (hCX : ∀ H e s', CX [] H s₁ (fun ψ ψ ψ => False) e s' → False) :
    codeAny (model P w) callerA (.call (.ref fa) ⟨[.ref a], []⟩) (fun r s' => r = .ok (.ret (.bool true)) ∧ OldK s₁.heap s'.heap ∧ s'.os = s₁.os ∧ AllBare s'.gens) s₁ := by
  have rv := vals_ints hi
  have lenV := hi.length
  have core : ∀ H : Hp, Only H → SqL K H a (ns.map V.int) → HOk P w H s₁.heap → (∀ b, H b ≠ none → b = a) → (H a ≠ none → K.lookup a = none) →
      codeAny (model P w) callerA (.call (.ref fa) ⟨[.ref a], []⟩) (fun r s' => r = .ok (.ret (.bool true)) ∧ OldK s₁.heap s'.heap ∧ s'.os = s₁.os ∧ AllBare s'.gens) s₁ := by
    intro H hO hS hok hA hK
    have base_of : ∀ {b : Addr} {o : Obj}, s₁.heap.get? b = some o → H b = none → (hidT s₁.heap H).get? b = some o := fun e n => hidT_get e n
    have noA : ∀ {b : Addr} {o : Obj} {es : Array DictEntry} {ep : Nat}, s₁.heap.get? b = some o → o.data = .dict es ep → H b = none := fun {b o es ep} e d => by
      cases q : H b with
      | none => rfl
      | some u =>
        have e' : b = a := hA b (by rw [q]; simp)
        subst e'
        rw [ha] at e; cases e
        have d' : Data.seq vs.toArray _ = Data.dict es ep := d
        cases d'
    have nsK : ∀ {b : Addr} {m : L2.SV}, s₁.heap.Ns b m → (hidT s₁.heap H).Ns b m := fun {b m} ⟨o, es, ep, e, d, r⟩ => ⟨o, es, ep, base_of e (noA e d), d, r⟩
    have hKb : K.In (hidT s₁.heap H) := fun b o e => base_of (KX b o e) (by
      cases q : H b with
      | none => rfl
      | some u =>
        have e' : b = a := hA b (by rw [q]; simp)
        subst e'
        rw [hK (by rw [q]; simp)] at e; cases e)
    have hM : Mod K mg (hidT s₁.heap H) := ⟨hKb, nsK hns, ⟨mb, nsK hb, hbb⟩, let ⟨mc, h1, h2⟩ := hlim; ⟨mc, nsK h1, h2⟩⟩
    have e0 : Env0 P w K mg (hidT s₁.heap H) callerA [] s₁ H := ⟨rfl, hM, fun b o e => of_hidT e, Nat.le_of_eq (hidT_size _ _), trivial, fun b hb => absurd (show b ∈ ([] : List Addr) from hb) (by simp), hok, .of_eq hg⟩
    refine codeAny_mono ((F _ hKb (nsK hns)).run callerA [] s₁ H ⟨[.ref a], []⟩ [.ref a] [.ref a] _ _ hr e0 (hbind s₁ (.ref a)) (.cons rfl .nil) (hsp H hO hS)) fun r s' h => ?_
    cases r with
    | error e => exact (hCX H e s' h).elim
    | ok fl =>
      cases fl with
      | next => exact False.elim h
      | brk => exact False.elim h
      | cont => exact False.elim h
      | ret u =>
        obtain ⟨v, H', os, bare, un, hok', r', q⟩ := h
        have q' : v = .bl true := q
        subst q'
        obtain rfl : u = Value.bool true := r'
        refine ⟨rfl, OldK.of_keep fun b o e => ?_, os, bare⟩
        cases q : H b with
        | none => exact un.keep b o e q (by intro z; exact absurd (show b ∈ ([] : List Addr) from z) (by simp)) (by simp)
        | some u =>
          rcases hO b with z | ⟨ob, xs, z⟩
          · rw [q] at z; cases z
          · have z2 := un.frzs b ob _ z
            obtain ⟨e1, _⟩ := hok b _ z
            obtain ⟨e2, _⟩ := hok' b _ z2
            rw [e] at e1; cases e1
            exact e2
  cases hk : K.lookup a with
  | some o =>
    have e := KX a o hk
    rw [ha] at e
    cases e
    refine core (fun ψ => none) (fun ψ => .inl rfl) (.inr ⟨_, vs.toArray, _, hk, rfl, rfl, rfl, by rw [List.size_toArray, lenV]; exact hl, by simpa using rv⟩) (fun b u z => by have z' : (none : Option HO) = some u := z; cases z') (fun b z => absurd rfl z) fun z => absurd rfl z
  | none =>
    refine core (fun b => if b = a then some (.frz { cls := .type "list", data := .seq vs.toArray } (.lst (ns.map V.int))) else none) (fun b => ?_) (.inl (.inr ⟨{ cls := .type "list", data := .seq vs.toArray }, if_pos rfl⟩)) (fun b u z => ?_) (fun b z => ?_) fun ψ => hk
    · by_cases hb : b = a
      · exact .inr ⟨_, _, if_pos hb⟩
      · exact .inl (if_neg hb)
    · by_cases hb : b = a
      · have z' := (if_pos hb).symm.trans z
        cases z'
        subst hb
        exact ⟨ha, by rw [List.length_map]; exact hl, vs, _, rv, ha⟩
      · have z' := (if_neg hb).symm.trans z
        cases z'
    · by_cases hb : b = a
      · exact hb
      · exact absurd (if_neg hb) z
theorem walk_of {l : PySem.W.OpenLaw} {n k : Nat} {q : Program} {loose : List Str} {XP : (Str → Option Value) → Heap → Prop} {YP : World → Heap → Prop} {d : DefRec} {K : Params → PySem.W.Frag} {CX : World → CXT} {sp : World → Sp} {x : Str}
    (hn : l.most = some n) (hn2 : n ≤ sizeLine) (hdf : d.params.defaults = []) (hr : Room k callerA)
    (hY : ∀ (w : World) (h : Heap), YP w h → (K w.params).In h)
    (F : ∀ (w : World) (mg : L2.SV) (fa : Addr) (h : Heap), (K w.params).In h → h.Ns mainGlobals mg → mg d.name = some (.ref fa) →
      ∃ fd : FuncData, (∀ (s : Shared) (u : Value), BindsTo s fd ⟨[u], []⟩ [(x, u)]) ∧
        ∀ base : Heap, (K w.params).In base → base.Ns mainGlobals mg → FnOk l.prog w (K w.params) mg base (CX w) k fa fd [x] (sp w))
    (hsp : ∀ (w : World) (H : Hp) (a : Addr) (ns : List Int), ns.length ≤ n → Only H → SqL (K w.params) H a (ns.map V.int) → sp w [.ref a] H (fun v ψ => v = .bl true) fun ψ ψ ψ => False)
    (hCX : ∀ (w : World) (H : Hp) (s : Shared) (e : Value) (s' : Shared), CX w [] H s (fun ψ ψ ψ => False) e s' → False) :
    PySem.W.WalkO q loose XP YP l.row.toRowW d [] (fun f vs => PySem.call f vs) := by
  refine Att.attach_call hn hdf fun w s₀ s₁ mg mb fa o pm cd doc a vs ns G Y ho hd hcd hmg hobj hints hlen hg => ?_
  have KX := hY w _ Y
  obtain ⟨fd, hb, hF⟩ := F w mg fa _ KX G.T.g hmg
  exact law_call KX G.T.g G.T.b G.T.builtins G.T.nolimit hg hobj hints (Nat.le_trans hlen hn2) hr hF hb (fun H hO hS => hsp w H a ns hlen hO hS) fun H e s' => hCX w H s₁ e s'
theorem walk_ofK {l : PySem.W.OpenLaw} {n k : Nat} {q : Program} {loose : List Str} {XP : (Str → Option Value) → Heap → Prop} {YP : World → Heap → Prop} {d : DefRec} {K : Params → PySem.W.Frag} {CX : CXT} {sp : PySem.W.Frag → Sp} {x : Str}
    (hn : l.most = some n) (hn2 : n ≤ sizeLine) (hdf : d.params.defaults = []) (hr : Room k callerA)
    (hY : ∀ (w : World) (h : Heap), YP w h → (K w.params).In h)
    (F : ∀ (w : World) (mg : L2.SV) (fa : Addr) (h : Heap), (K w.params).In h → h.Ns mainGlobals mg → mg d.name = some (.ref fa) →
      ∃ fd : FuncData, (∀ (s : Shared) (u : Value), BindsTo s fd ⟨[u], []⟩ [(x, u)]) ∧
        ∀ base : Heap, (K w.params).In base → base.Ns mainGlobals mg → FnOk l.prog w (K w.params) mg base CX k fa fd [x] (sp (K w.params)))
    (hsp : ∀ (K : PySem.W.Frag) (H : Hp) (a : Addr) (ns : List Int), ns.length ≤ n → Only H → SqL K H a (ns.map V.int) → sp K [.ref a] H (fun v ψ => v = .bl true) fun ψ ψ ψ => False)
    (hCX : ∀ (H : Hp) (s : Shared) (e : Value) (s' : Shared), CX [] H s (fun ψ ψ ψ => False) e s' → False) :
    PySem.W.WalkO q loose XP YP l.row.toRowW d [] (fun f vs => PySem.call f vs) :=
  walk_of (K := K) (CX := fun ψ => CX) (sp := fun w => sp (K w.params)) hn hn2 hdf hr hY F (fun w H a ns h1 h2 h3 => hsp (K w.params) H a ns h1 h2 h3) fun ψ H s e s' => hCX H s e s'
noncomputable def defArgs (s : Stmt) : Arguments := match s with
  | .FunctionDef _ a _ _ _ _ _ _ _ _ => a
  | _ => { posonlyargs := [], args := [], vararg := none, kwonlyargs := [], kw_defaults := [], kwarg := none, defaults := [] }
noncomputable def defBody (s : Stmt) : List Stmt := match s with
  | .FunctionDef _ _ b _ _ _ _ _ _ _ => b
  | _ => []
noncomputable def defScope (s : Stmt) : Scope := match s with
  | .FunctionDef _ _ _ _ _ _ sc _ _ _ => sc
  | _ => { kind := .function, names := [], isGenerator := false, isCoroutine := false }
noncomputable abbrev CX0 : CXT := fun ψ ψ ψ ψ ψ ψ => False
noncomputable abbrev E0 : XK := fun ψ ψ ψ => False
structure Fun (K : PySem.W.Frag) (x qual : Str) (st : Stmt) (f : Addr) (fd : FuncData) : Prop where
  ex : ∃ (oc : Value) (od : Option Addr) (kV doc pm : Value) (an : Option Addr) (cdv ct : Value) (osl : Array (Option Value)),
    fd = PySem.W.fnOf x qual (defArgs st) (defBody st) (defScope st) .none kV doc pm an cdv ct ∧ K.lookup f = some ⟨oc, od, .func fd, osl⟩ ∧ PySem.W.codeIn K cdv qual = true
  kp : PySem.W.keepIn K (.ref f) = true
section
variable {P : Program} {w : World} {K : PySem.W.Frag} {mg : L2.SV} {base : Heap}
theorem Fun.ok {x qual : Str} {st : Stmt} {f : Addr} {fd : FuncData} {N ps : List Str} {k : Nat} {sp : Sp} (F : Fun K x qual st f fd) (S : FnScope N ps (defScope st)) (len : ∀ vs H Q E, sp vs H Q E → vs.length = ps.length)
    (hbody : ∀ (cdv : Value) (A : Around) (outer : List Env) (s : Shared) (H : Hp) (vs : List V) (Q : VK) (E : XK), Room k (A.deeper (envOfC qual (defScope st) s.heap.objs.size f cdv)) → sp vs H Q E →
      ∃ t, PSs (cxOf CX0 P w K mg base N qual (defScope st) f cdv A outer s H E).nox (defBody st) t ∧ t { nx := fun ψ H' => Q .non H', rt := Q } (start N vs) H) : FnOk P w K mg base CX0 (k + 1) f fd ps sp := by
  obtain ⟨oc, od, kV, doc, pm, an, cdv, ct, osl, rfl, lk, hcd⟩ := F.ex
  refine fn_of lk hcd S len fun A outer s H vs Q E hr hsp => ?_
  obtain ⟨t, h, q⟩ := hbody cdv A outer s H vs Q E hr hsp
  exact ⟨t, h.nox, q⟩
theorem Fun.binds {x qual : Str} {st : Stmt} {f : Addr} {fd : FuncData} {ps : List Str} (F : Fun K x qual st f fd)
    (h : ∀ (kV doc pm : Value) (an : Option Addr) (cdv ct : Value) (us : List Value), us.length = ps.length → bindArgs (PySem.W.fnOf x qual (defArgs st) (defBody st) (defScope st) .none kV doc pm an cdv ct) ⟨us, []⟩ = pure (ps.zip us)) : Binds K fd ps [] := by
  obtain ⟨oc, od, kV, doc, pm, an, cdv, ct, osl, rfl, lk, hcd⟩ := F.ex
  exact .all (h kV doc pm an cdv ct)
theorem fun_mk {x qual : Str} {st : Stmt} {f : Addr} {oc : Value} {od an : Option Addr} {osl : Array (Option Value)} {kV doc pm cdv ct : Value} (l : K.lookup f = some ⟨oc, od, .func (PySem.W.fnOf x qual (defArgs st) (defBody st) (defScope st) .none kV doc pm an cdv ct), osl⟩)
    (c : PySem.W.codeIn K cdv qual = true) (k : PySem.W.keepIn K (.ref f) = true) : Fun K x qual st f (PySem.W.fnOf x qual (defArgs st) (defBody st) (defScope st) .none kV doc pm an cdv ct) := ⟨⟨oc, od, kV, doc, pm, an, cdv, ct, osl, rfl, l, c⟩, k⟩
end
section
variable {X : Cx}
end
noncomputable def Same (H H' : Hp) : Prop := ∀ b o, H b = some o → H' b = some o
theorem Same.refl (H : Hp) : Same H H := fun ψ ψ h => h
theorem Same.trans {H H1 H2 : Hp} (a : Same H H1) (b : Same H1 H2) : Same H H2 := fun c o h => b c o (a c o h)
theorem Same.free {H H' : Hp} (e : Same H H') {l : Addr} (h : H' l = Option.none) : H l = Option.none := by
  cases q : H l with
  | none => rfl
  | some o =>
    rw [e l o q] at h
    cases h
theorem Same.seq {K : PySem.W.Frag} {H H' : Hp} {a : Addr} {xs : List V} (e : Same H H') (h : SqL K H a xs) : SqL K H' a xs := by
  rcases h with (h | ⟨o, h⟩) | h
  · exact .inl (.inl (e _ _ h))
  · exact .inl (.inr ⟨o, e _ _ h⟩)
  · exact .inr h
theorem compLoop_any {prog : Program} {w : World} {A : Around} {R : Result → Shared → Prop} {s : Shared} {elt target iter : Expr} {ifs : List Expr} {scope : Scope} {pos : Pos} {it acc : Value} {env : Env} (I : Nat → Shared → Prop)
    (turn : ∀ n s, I n s → wpAny (model prog w) A (pyNext it) (fun r s₁ => match r with
      | none => R (.ok .next) s₁
      | some v => wpAny (model prog w) A (letOwnedTupleGo target it v) (fun ψ s₁' => wpAny (model prog w) A (assign target env v) (fun ψ s₂ =>
          wpAny (model prog w) A (forIn ifs true fun c r => if r = true then do let ok ← isTrue c env (eval c env); pure (ForInStep.yield ok) else pure (ForInStep.yield r)) (fun ok s₃ =>
            if ok = true then wpAny (model prog w) A (eval elt env) (fun x s₄ =>
              wpAny (model prog w) A (call (.builtin "list.append") [acc, x]) (fun ψ s₅ => ∃ m, m < n ∧ I m s₅) (fun ψ ψ => False) s₄) (fun ψ ψ => False) s₃
            else ∃ m, m < n ∧ I m s₃) (fun ψ ψ => False) s₂) (fun ψ ψ => False) s₁') (fun ψ ψ => False) s₁) (fun ψ ψ => False) s)
    (n : Nat) (h : I n s) : codeAny (model prog w) A (.compLoop (.ListComp elt [⟨target, iter, ifs, 0⟩] scope pos) 0 it acc env) R s := by
  refine codeAny_loop rfl I (fun n s hI => ?_) n h
  show wpAny _ A ((compTurn (.ListComp elt [⟨target, iter, ifs, 0⟩] scope pos) 0 it acc env).onRaise (fun x => do noteFrame x env; theTreesLotGoes x)) _ _ s
  refine wpAny_noted (wpAny_noRaise ?_)
  rw [compTurn_list]
  refine wpAny_bind (wpAny_standAt (wpAny_bind (thn (turn n s hI) fun r s₁ h₁ => ?_)))
  cases r with
  | none => exact wpAny_pure h₁
  | some v =>
    refine wpAny_bind (thn h₁ fun ψ s₁' h₁' => ?_)
    refine wpAny_bind (thn h₁' fun ψ s₂ h₂ => wpAny_bind (thn h₂ fun ok s₃ h₃ => ?_))
    cases ok with
    | false => exact wpAny_pure ⟨rfl, h₃⟩
    | true => exact wpAny_bind (wpAny_bind (thn h₃ fun x s₄ h₄ => wpAny_bind (thn h₄ fun ψ s₅ h₅ => wpAny_pure (wpAny_pure ⟨rfl, h₅⟩))))
theorem Inv.adopt {X : Cx} {pins : List (Addr × Obj)} {σ : St} {H : Hp} {s : Shared} {d : Addr} {o : HO} (I : Inv X pins σ H s) (f : FpOk X pins H d) (new : ObjOk X.prog X.w (upd H d o) s.heap d o) : Inv X pins σ (upd H d o) s := by
  obtain ⟨f0, f1, f2, f3, f4, f5⟩ := f
  have nd : ∀ b u, H b = some u → b ≠ d := fun b u e z => by rw [z, f0] at e; cases e
  refine I.step (h' := s.heap) (g' := s.gens) (d' := s.drawn) (t' := s.toks) (ch := [d]) (fun b hb => ?_) (fun b u ψ ψ ψ e ψ => e) (fun b u ψ ψ ψ e ψ => ⟨u.slots, e⟩) (fun b u hc e n => ?_) (fun b u ψ e => ⟨u, e⟩)
    (fun b xs e => by rw [upd_ne (nd b _ e)]; exact e) (fun b u v e => by rw [upd_ne (nd b _ e)]; exact e) (fun b ps e => ⟨#[], by rw [upd_ne (nd b _ e), e]; simp⟩) (fun m hm => hm) (fun b u e => ?_) I.bare
  · have z : b = d := by simpa using hb
    subst z
    exact ⟨f3, f1, f4, f5⟩
  · rw [upd_ne (fun z => hc (by simp [z]))]; exact n
  · by_cases hb : b = d
    · subst hb; rw [upd_same] at e; cases e; exact new
    · rw [upd_ne hb] at e
      exact (I.hok b u e).stay (fun ψ ψ ψ q => q) (fun c q => by rw [upd_ne (nd c _ q)]; exact q) fun c xs q => by rw [upd_ne (nd c _ q)]; exact q
inductive Caps (X : Cx) (sc : Scope) (cl : List (Str × Addr)) : List Nat → List Str → Prop
  | nil : Caps X sc cl [] []
  | cons {j : Nat} {js : List Nat} {y : Str} {ys : List Str} (hN : X.N[j]? = some y) (hk : X.env.kindOf y = some .cell ∨ X.env.kindOf y = some .free) (hl : cl.lookup y = X.env.cells.lookup y)
      (hv : sc.names.lookup y = some .cell ∨ sc.names.lookup y = some .free) (r : Caps X sc cl js ys) : Caps X sc cl (j :: js) (y :: ys)
noncomputable def blk (k : Nat) (js : List Nat) (σ : St) : St := List.replicate k none ++ js.map fun j => (σ[j]?).getD none
theorem Caps.get {X : Cx} {sc : Scope} {cl : List (Str × Addr)} {σ : St} : ∀ {js : List Nat} {ys : List Str} {i : Nat} {y : Str} {v : V}, Caps X sc cl js ys → ys[i]? = some y → (js.map fun (j : Nat) => (σ[j]?).getD none)[i]? = some (some v) →
    ∃ j : Nat, X.N[j]? = some y ∧ σ[j]? = some (some v) ∧ (X.env.kindOf y = some .cell ∨ X.env.kindOf y = some .free) ∧ cl.lookup y = X.env.cells.lookup y ∧ (sc.names.lookup y = some .cell ∨ sc.names.lookup y = some .free)
  | _, _, _, _, _, .nil, e, _ => by simp at e
  | _, _, 0, y, v, .cons (j := j) hN hk hl hv _, e, e2 => by
    simp at e e2
    subst e
    refine ⟨j, hN, ?_, hk, hl, hv⟩
    cases q : σ[j]? with
    | none => rw [q] at e2; simp at e2
    | some z => rw [q] at e2; simp at e2; rw [e2]
  | _, _, i + 1, y, v, .cons _ _ _ _ r, e, e2 => Caps.get (i := i) r (by simpa using e) (by simpa using e2)
theorem Caps.len {X : Cx} {sc : Scope} {cl : List (Str × Addr)} : ∀ {js : List Nat} {ys : List Str}, Caps X sc cl js ys → js.length = ys.length
  | _, _, .nil => rfl
  | _, _, .cons _ _ _ _ r => by simp [r.len]
noncomputable def cxComp (X : Cx) (N : List Str) (scope : Scope) (cl : List (Str × Addr)) (C : Addr) (pins : List (Addr × Obj)) (fp : List Addr) (s2 : Shared) (H2 : Hp) : Cx where
  prog := X.prog
  w := X.w
  K := X.K
  mg := X.mg
  base := X.base
  A := X.A
  N := N
  s₀ := s2
  H₀ := H2
  env := compEnvC scope cl C X.env
  outer := X.stack
  stack := X.stack
  ex := fp
  fn := fun ψ => false
  calm := X.calm
  pn := X.pn ++ pins
  xe := fun ψ ψ => False
noncomputable def PTs (X : Cx) (ifs : List Expr) (t : TT) : Prop :=
  ∀ (pins : List (Addr × Obj)) (s : Shared) (σ : St) (H : Hp) (Q : Bool → Hp → Prop), Inv X pins σ H s → t σ H Q →
    wpAny (model X.prog X.w) X.A (forIn ifs true fun c r => if r = true then do let ok ← isTrue c X.env (eval c X.env); pure (ForInStep.yield ok) else pure (ForInStep.yield r)) (TP X pins σ Q) X.xe s
noncomputable def tTrue : TT := fun ψ H Q => Q true H
theorem pts_nil {X : Cx} : PTs X [] tTrue := fun ψ ψ ψ H ψ I h => wpAny_tests_nil ⟨H, I, h⟩
theorem pts_one {X : Cx} {c : Expr} {t : TT} (h : PT X c t) : PTs X [c] t := fun pins s σ H Q I hq => wpAny_tests_one (h pins s σ H Q I hq)
noncomputable def tComp (wi : TI) (k : Nat) (js : List Nat) (g : TG) (tc : TT) (te : TE) : TE := fun σ H Q => wi σ H fun J H1 => ∃ W : Nat → Nat → List V → Hp → Prop, (∃ m, W 0 m [] H1) ∧ ∀ i m ys H, W i m ys H →
  (J.stop i H ∧ ys.length ≤ sizeLine ∧ ∀ p, H p = none → Q (.ref p) (upd H p (.lst ys))) ∨
  (J.go i H ∧ ys.length ≤ sizeLine ∧ ∀ x H', J.yld i H x H' → g x (blk k js σ) H' fun σ2 H2 => tc σ2 H2 fun b H3 => if b = true then te σ2 H3 fun v H4 => ∃ m', m' < m ∧ W (i + 1) m' (ys ++ [v]) H4 else ∃ m', m' < m ∧ W (i + 1) m' ys H3)
section
variable {X : Cx} {elt tg iter : Expr} {ifs : List Expr} {scope : Scope} {pos : Pos} {cl : List (Str × Addr)} {bs caps : List Str} {js : List Nat} {wi : TI} {g : TG} {tc : TT} {te : TE}
structure CompOk (X : Cx) (scope : Scope) (cl : List (Str × Addr)) (js : List Nat) (caps : List Str) : Prop where
  clos : closureFor scope X.env = pure cl
  cell : ∀ y ∈ scope.names, y.2 ≠ .cell
  kind : scope.kind = .function
  names : ∀ y ∈ scope.names, y.2 = .local → scope.names.lookup y.1 = some .local
  fr : ∀ y ∈ scope.names, y.2 = .free → (cl.lookup y.1).isSome = true
  sub : ∀ y c, cl.lookup y = some c → X.env.cells.lookup y = some c
  cap : Caps X (relabel scope X.env) cl js caps
theorem kind_relabel {scope : Scope} {env : Env} {x : Str} {k : NameKind} (hc : ∀ y ∈ scope.names, y.2 ≠ .cell) (hk : k = .cell ∨ k = .free) (h : (relabel scope env).names.lookup x = some k) : ∃ y ∈ scope.names, y.1 = x ∧ y.2 = .free := by
  have m := PySem.mem_of_lookup h
  obtain ⟨y, hy, e⟩ := List.mem_map.mp m
  obtain ⟨n, k'⟩ := y
  dsimp only at e
  by_cases q : (k' == NameKind.free && env.scope.kind == .function && env.kindOf n == some .cell) = true
  · rw [if_pos q] at e
    have e1 : n = x := congrArg Prod.fst e
    refine ⟨(n, k'), hy, e1, ?_⟩
    simp only [Bool.and_eq_true, beq_iff_eq] at q
    exact q.1.1
  · rw [if_neg q] at e
    have e1 : n = x := congrArg Prod.fst e
    have e2 : k' = k := congrArg Prod.snd e
    rcases hk with z | z
    · exact absurd (e2.trans z) (hc (n, k') hy)
    · exact ⟨(n, k'), hy, e1, e2.trans z⟩
theorem cxComp_ok {pins : List (Addr × Obj)} {σ : St} {H2 : Hp} {s2 : Shared} {fp : List Addr} {C : Addr} (c : CompOk X scope cl js caps) (I2 : Inv X pins σ H2 s2) (hC : s2.heap.objs.size ≤ C) (f2 : ∀ b ∈ fp, FpOk X pins H2 b) (ho : ∀ b ∈ fp, ∃ o, s2.heap.get? b = some o) :
    (cxComp X (bs ++ caps) scope cl C pins fp s2 H2).Ok := by
  have lt : ∀ b ∈ fp, b < C := fun b hb => let ⟨o, e⟩ := ho b hb; Nat.lt_of_lt_of_le (Heap.lt_size e) hC
  refine ⟨I2.ok.mod, c.kind, I2.ok.glob, I2.ok.blt, hC, fun x y a h1 h2 => I2.ok.inj x y a (c.sub _ _ h1) (c.sub _ _ h2), fun x hx => ?_, fun x a h ψ => absurd (show false = true from h) Bool.false_ne_true, I2.ok.hd, I2.ok.frames, .inl rfl, fun b hb => ⟨Nat.ne_of_lt (lt b hb), fun x a h => (f2 b hb).2.2.2.2.1 x a (c.sub _ _ h)⟩,
    I2.bs, Nat.le_trans I2.ok.bsz I2.sz, fun b o e hb => ?_, fun b hb z => ?_, I2.stack, I2.stkFree⟩
  · have hx' : (relabel scope X.env).names.lookup x = some .cell ∨ (relabel scope X.env).names.lookup x = some .free := hx
    obtain ⟨y, hy, e1, e2⟩ : ∃ y ∈ scope.names, y.1 = x ∧ y.2 = .free := by
      rcases hx' with q | q
      · exact kind_relabel c.cell (.inl rfl) q
      · exact kind_relabel c.cell (.inr rfl) q
    subst e1
    exact Option.isSome_iff_exists.mp (c.fr y hy e2)
  · rcases (f2 b hb).2.2.2.1 with z | z
    · exact I2.ok.noex b o e z
    · exact absurd (Nat.lt_of_lt_of_le (Heap.lt_size (I2.ok.bs b o e).1) z) (Nat.lt_irrefl _)
  · have f := f2 b hb
    rcases List.mem_cons.mp (I2.stkSub b z) with q | q
    · exact f.2.1 q
    · exact f.2.2.1 q
theorem comp_core {pins : List (Addr × Obj)} {σ : St} {H2 : Hp} {s2 : Shared} {fp : List Addr} {it : Addr} {tn : Nat → Heap → Prop} {J : It} {RR : Value → Addr → Result → Shared → Prop} {Z : List V → Hp → Prop} {E : L2.VSP} (hc : X.calm = true) (c : CompOk X scope cl js caps)
    (hg : ∀ C pins fp s2 H2, PG (cxComp X (bs ++ caps) scope cl C pins fp s2 H2) tg g) (ht : ∀ C pins fp s2 H2, PTs (cxComp X (bs ++ caps) scope cl C pins fp s2 H2) ifs tc) (he : ∀ C pins fp s2 H2, PE (cxComp X (bs ++ caps) scope cl C pins fp s2 H2) elt te)
    (I2 : Inv X pins σ H2 s2) (T : Turn X.prog X.w X.K tg J fp it tn) (st2 : tn 0 s2.heap) (f2 : ∀ b ∈ fp, FpOk X pins H2 b) (W : Nat → Nat → List V → Hp → Prop) {m0 : Nat} (w0 : W 0 m0 [] H2)
    (turn : ∀ i m ys H, W i m ys H →
      (J.stop i H ∧ ys.length ≤ sizeLine ∧ Z ys H) ∨
      (J.go i H ∧ ys.length ≤ sizeLine ∧ ∀ x H', J.yld i H x H' → g x (blk bs.length js σ) H' fun σ2 H2 => tc σ2 H2 fun b H3 => if b = true then te σ2 H3 fun v H4 => ∃ m', m' < m ∧ W (i + 1) m' (ys ++ [v]) H4 else ∃ m', m' < m ∧ W (i + 1) m' ys H3))
    (hR : ∀ (D C : Addr) (s4 : Shared) (H3 : Hp) (ys : List V) (mC : L2.SV), Inv X pins σ (upd H3 D (.lst ys)) s4 → H3 D = none → FpOk X pins (upd H3 D (.lst ys)) C → s4.heap.Ns C mC → Z ys H3 → RR (.ref D) C (.ok .next) s4) :
    wpAny (model X.prog X.w) X.A (newList []) (fun acc s₃ => wpAny (model X.prog X.w) X.A (newFunctionEnv scope X.env.globals cl [] X.env.qual none .none (some X.env)) (fun cenv s₄ =>
      codeAny (model X.prog X.w) X.A (.compStart (.ListComp elt [⟨tg, iter, ifs, 0⟩] scope pos) 0 (.ref it) acc { cenv with scope := relabel scope X.env }) (RR acc cenv.locals) s₄) E s₃) E s2 := by
  refine wpAny_newObj_type (wpAny_newFunctionEnv c.cell (by intro y hy; simp at hy) (fun h₁ hns₁ hsb₁ => ?_) c.kind)
  dsimp only at hns₁ hsb₁ ⊢
  generalize hP : s2.heap.push { cls := .type "list", dict := none, data := .seq ([] : List Value).toArray } = P2 at hns₁ hsb₁ ⊢
  have hCs : P2.objs.size = s2.heap.objs.size + 1 := by rw [← hP, Heap.size_push]
  have hCle : s2.heap.objs.size ≤ P2.objs.size := by rw [hCs]; exact Nat.le_succ _
  have hDC : s2.heap.objs.size ≠ P2.objs.size := by rw [hCs]; exact Nat.ne_of_lt (Nat.lt_succ_self _)
  have below : ∀ b, b < s2.heap.objs.size → b ≠ P2.objs.size := fun b hb => by rw [hCs]; exact Nat.ne_of_lt (Nat.lt_succ_of_lt hb)
  have old : ∀ b o, s2.heap.get? b = some o → h₁.get? b = some o := fun b o e => hsb₁.extBut b o (below b (Heap.lt_size e)) (Heap.get?_push_of_some _ (hP ▸ Heap.get?_push_of_some _ e))
  have hacc : h₁.get? s2.heap.objs.size = some { cls := .type "list", data := .seq ([] : List Value).toArray } := hsb₁.extBut _ _ hDC (Heap.get?_push_of_some _ (hP ▸ Heap.get?_push_size _ rfl))
  have ob2 : ∀ b ∈ fp, ∃ o, s2.heap.get? b = some o := fun b hb => let ⟨o, e, _⟩ := T.obj 0 _ st2 b hb; ⟨o, e⟩
  have okY := cxComp_ok (bs := bs) c I2 hCle f2 ob2
  have fD : ∀ {H3 : Hp}, H3 s2.heap.objs.size = none → FpOk X pins H3 s2.heap.objs.size := fun hn => I2.fpOk (Nat.le_refl _) hn
  have fC : ∀ {H3 : Hp}, H3 P2.objs.size = none → FpOk X pins H3 P2.objs.size := fun hn => I2.fpOk hCle hn
  have stkne : ∀ b, b ∈ frs X.stack → b < s2.heap.objs.size := fun b hb => by
    rcases List.mem_cons.mp (I2.stkSub b hb) with q | q
    · rw [q]; exact I2.lt
    · obtain ⟨_, o, e, _⟩ := I2.ok.funs.mem q
      exact Nat.lt_of_lt_of_le (Heap.lt_size e) I2.sz
  have fpY : ∀ {H3 : Hp} {o : Obj}, (∀ b ∈ fp, H3 b = none) → ∀ b ∈ fp, FpOk (cxComp X (bs ++ caps) scope cl P2.objs.size pins fp s2 H2) [(s2.heap.objs.size, o)] H3 b := fun {H3 o} hn b hb => by
    obtain ⟨o', e'⟩ := ob2 b hb
    have f := f2 b hb
    refine ⟨hn b hb, below b (Heap.lt_size e'), okY.exfs b hb, .inl hb, fun x a h => f.2.2.2.2.1 x a (c.sub _ _ h), fun p hp => ?_⟩
    rcases List.mem_append.mp hp with z | z
    · exact f.2.2.2.2.2 p z
    · have z' : p = (s2.heap.objs.size, o) := by simpa using z
      subst z'
      exact Ne.symm (Nat.ne_of_lt (Heap.lt_size e'))
  have IY : Inv (cxComp X (bs ++ caps) scope cl P2.objs.size pins fp s2 H2) [(s2.heap.objs.size, { cls := .type "list", data := .seq ([] : List Value).toArray })] (blk bs.length js σ) H2 { s2 with heap := h₁, toks := s2.toks + ([] : List (Str × Value)).length } := by
    obtain ⟨m, hn, hl⟩ := I2.loc
    refine ⟨okY, rfl, I2.bare, Un.kept old, ⟨_, hns₁, fun i x v e1 e2 e3 => ?_⟩, fun x a h => ?_, I2.hok.fresh hCle, fun x a h => I2.freeC x a (c.sub _ _ h), fun p hp => ?_, I2.hok.kept old, ?_⟩
    · have hi : ¬ i < bs.length := fun hi => by
        have e2' : (List.replicate bs.length none ++ _)[i]? = some (some v) := e2
        rw [List.getElem?_append_left (by simpa using hi), List.getElem?_replicate, if_pos hi] at e2'
        cases e2'
      have e1' : (bs ++ caps)[i]? = some x := e1
      rw [List.getElem?_append_right (by lia)] at e1'
      have e2' : (List.replicate bs.length none ++ js.map fun j => (σ[j]?).getD none)[i]? = some (some v) := e2
      rw [List.getElem?_append_right (by simpa using hi), List.length_replicate] at e2'
      obtain ⟨j, q1, q2, q3, q4, q5⟩ := c.cap.get e1' e2'
      have vis : Vis X.env.scope x := by rcases q3 with z | z; exact .inr (.inl z); exact .inr (.inr z)
      obtain ⟨u, r, l⟩ := hl j x v q1 q2 vis
      refine ⟨u, r, .inr ⟨q5, ?_⟩⟩
      rcases l with ⟨z, _⟩ | ⟨_, a, z, z2⟩
      · rcases q3 with y | y <;> (rw [y] at z; cases z)
      · obtain ⟨ob, eo, d⟩ := z2
        exact ⟨a, q4.trans z, ob, old _ _ eo, d⟩
    · obtain ⟨v, ob, eo, d⟩ := I2.cell x a (c.sub _ _ h)
      exact ⟨v, ob, old _ _ eo, d⟩
    · rcases List.mem_append.mp hp with z | z
      · obtain ⟨q1, q2, q3, q4, q5⟩ := I2.pin p z
        refine ⟨old _ _ q1, q2, below _ (Heap.lt_size q1), fun y => ?_, q5⟩
        rcases List.mem_cons.mp (I2.stkSub p.1 y) with q | q
        · exact q3 q
        · exact q4 q
      · have z' : p = (s2.heap.objs.size, { cls := .type "list", data := .seq ([] : List Value).toArray }) := by simpa using z
        subst z'
        refine ⟨hacc, I2.hok.fresh (Nat.le_refl _), hDC, fun y => absurd (stkne _ y) (Nat.lt_irrefl _), fun v y => ?_⟩
        have y' : Data.seq _ _ = Data.cell v := y
        cases y'
    · show (List.replicate bs.length none ++ js.map fun j => (σ[j]?).getD none).length = (bs ++ caps).length
      rw [List.length_append, List.length_replicate, List.length_map, List.length_append, c.cap.len]
  have stat : ∀ {H3 : Hp} {o : Obj}, (∀ b ∈ fp, H3 b = none) → ∀ b ∈ fp, FpOk (cxComp X (bs ++ caps) scope cl P2.objs.size pins fp s2 H2) [(s2.heap.objs.size, o)] H3 b := fpY
  have loop : codeAny (model X.prog X.w) X.A (.compLoop (.ListComp elt [⟨tg, iter, ifs, 0⟩] scope pos) 0 (.ref it) (.ref s2.heap.objs.size) (compEnvC scope cl P2.objs.size X.env)) (RR (.ref s2.heap.objs.size) P2.objs.size)
      { s2 with heap := h₁, toks := s2.toks + ([] : List (Str × Value)).length } := by
    refine compLoop_any (fun n s' => ∃ (i : Nat) (ys : List V) (its : List Value) (nn : Nat) (H' : Hp), Inv (cxComp X (bs ++ caps) scope cl P2.objs.size pins fp s2 H2) [(s2.heap.objs.size, { cls := .type "list", data := .seq its.toArray nn })] (blk bs.length js σ) H' s' ∧ Vals ys its ∧ tn i s'.heap ∧ (∀ b ∈ fp, H' b = none) ∧ W i n ys H') ?_ m0
      ⟨0, [], [], 0, H2, IY, .nil, T.keep _ _ _ st2 fun b ψ o e => old b o e, fun b hb => (f2 b hb).1, w0⟩
    rintro n s3 ⟨i, ys, its, nn, H3, I3, rv, st3, fr3, w3⟩
    rcases turn i n ys H3 w3 with ⟨stop, hz, hZ⟩ | ⟨go, hz, step⟩
    · refine thn (T.done (cxComp X (bs ++ caps) scope cl P2.objs.size pins fp s2 H2) rfl rfl rfl hc i _ s3 _ H3 _ I3 (stat fr3) st3 stop) fun r s4 ⟨hr, I4⟩ => ?_
      subst hr
      obtain ⟨q1, q2, q3, q4, _⟩ := I4.pin (s2.heap.objs.size, { cls := .type "list", data := .seq its.toArray nn }) (by simp)
      have JX : Inv X pins σ H3 s4 := I2.call' (ch := fp) I4.os I4.base I4.hok I4.bare fun b hb => let f := f2 b hb; ⟨f.2.2.2.1, f.2.1, f.2.2.2.2.1, f.2.2.2.2.2⟩
      have JD : Inv X pins σ (upd H3 s2.heap.objs.size (.lst ys)) s4 := JX.adopt (fD q2) ⟨hz, its, nn, rv, q1⟩
      obtain ⟨mC, hnC, _⟩ := I4.loc
      exact hR _ _ s4 H3 ys mC JD q2 (fC (by rw [upd_ne (Ne.symm hDC)]; exact I4.free)) hnC hZ
    · refine thn (T.item (cxComp X (bs ++ caps) scope cl P2.objs.size pins fp s2 H2) rfl rfl rfl hc i _ s3 _ H3 _ I3 (stat fr3) st3 go) fun r s4 ⟨u, hr, h4⟩ => ?_
      subst hr
      refine thn h4 fun _ s5 ⟨x, H5, I5, r5, y5, st5, fr5⟩ => ?_
      have I5' := I5.pinned (stat fr5) (T.obj _ _ st5)
      refine thn (hg _ _ _ _ _ _ s5 _ H5 x u _ I5' r5 (step x H5 y5)) fun _ s6 ⟨σ6, H6, I6, q6⟩ => ?_
      refine thn (ht _ _ _ _ _ _ s6 σ6 H6 _ I6 q6) fun ok s7 ⟨H7, I7, q7⟩ => ?_
      have back : ∀ {σ8 : St} {H8 : Hp} {s8 : Shared}, Inv (cxComp X (bs ++ caps) scope cl P2.objs.size pins fp s2 H2) ([(s2.heap.objs.size, { cls := .type "list", data := .seq its.toArray nn })] ++ pinsAt fp s5.heap) σ8 H8 s8 → tn (i + 1) s8.heap ∧ ∀ b ∈ fp, H8 b = none := fun {σ8 H8 s8} I8 =>
        ⟨T.keep _ _ _ st5 fun b hb o e => (I8.pin (b, o) (List.mem_append_right _ (List.mem_append_right _ (mem_pinsAt hb e)))).1, fun b hb => by
          obtain ⟨o, e, d⟩ := T.obj _ _ st5 b hb
          exact (I8.pin (b, o) (List.mem_append_right _ (List.mem_append_right _ (mem_pinsAt hb e)))).2.1⟩
      have base : ∀ {σ8 : St} {H8 : Hp} {s8 : Shared} {o : Obj}, Inv (cxComp X (bs ++ caps) scope cl P2.objs.size pins fp s2 H2) [(s2.heap.objs.size, o)] σ8 H8 s8 → Inv (cxComp X (bs ++ caps) scope cl P2.objs.size pins fp s2 H2) [(s2.heap.objs.size, o)] (blk bs.length js σ) H8 s8 := fun {σ8 H8 s8 o} I8 => by
        obtain ⟨mC, hnC, _⟩ := I8.loc
        refine ⟨I8.ok, I8.os, I8.bare, I8.base, ⟨mC, hnC, fun i x v e1 e2 e3 => ?_⟩, I8.cell, I8.free, I8.freeC, I8.pin, I8.hok, IY.len⟩
        obtain ⟨u, r, l⟩ := IY.loc.choose_spec.2 i x v e1 e2 e3
        have hl0 := IY.loc.choose_spec.1
        refine ⟨u, r, ?_⟩
        rcases l with ⟨k, z⟩ | ⟨k, a, z, ob, eo, d⟩
        · have hb : ¬ i < bs.length := fun hi => by
            have e2' : (List.replicate bs.length none ++ _)[i]? = some (some v) := e2
            rw [List.getElem?_append_left (by simpa using hi), List.getElem?_replicate, if_pos hi] at e2'
            cases e2'
          have e1' : (bs ++ caps)[i]? = some x := e1
          rw [List.getElem?_append_right (by lia)] at e1'
          have e2' : (List.replicate bs.length none ++ js.map fun j => (σ[j]?).getD none)[i]? = some (some v) := e2
          rw [List.getElem?_append_right (by simpa using hb), List.length_replicate] at e2'
          obtain ⟨j, q1, q2, q3, q4, q5⟩ := c.cap.get e1' e2'
          have k' : (relabel scope X.env).names.lookup x = some .local := k
          rcases q5 with y | y <;> (rw [y] at k'; cases k')
        ·
          obtain ⟨v8, o8, e8, d8⟩ := I8.cell x a z
          obtain ⟨vX, oX, eX, dX⟩ := I2.cell x a (c.sub _ _ z)
          have h8 := I8.base.any eX (I2.freeC x a (c.sub _ _ z)) (fun hx => (f2 a hx).2.2.2.2.1 x a (c.sub _ _ z) rfl)
          obtain ⟨sl, h8⟩ := h8
          have eo' : h₁.get? a = some oX := old _ _ eX
          have eo2 : h₁.get? a = some ob := eo
          rw [eo'] at eo2
          cases eo2
          exact .inr ⟨k, a, z, _, h8, d⟩
      cases ok with
      | false =>
        obtain ⟨m', hm, w7⟩ := q7
        obtain ⟨st7, fr7⟩ := back I7
        exact ⟨m', hm, i + 1, ys, its, nn, H7, base I7.unpinned, rv, st7, fr7, w7⟩
      | true =>
        refine thn (he _ _ _ _ _ _ s7 σ6 H7 _ I7 q7) fun y s8 ⟨v, H8, I8, r8, m', hm, w8⟩ => ?_
        obtain ⟨st8, fr8⟩ := back I8
        have I8' := I8.unpinned
        obtain ⟨q1, q2, q3, q4, _⟩ := I8'.pin (s2.heap.objs.size, { cls := .type "list", data := .seq its.toArray nn }) (by simp)
        refine PySem.wpAny_list_append_plain (items := its.toArray) (hsz := by rw [List.size_toArray, ← rv.length]; exact hz) ⟨_, q1⟩ fun h9 hl9 hs9 => ?_
        obtain ⟨n9, e9⟩ := hl9
        have I80 : Inv (cxComp X (bs ++ caps) scope cl P2.objs.size pins fp s2 H2) [] σ6 H8 s8 := I8'.pins_of fun p hp => absurd hp (by simp)
        have I9 : Inv (cxComp X (bs ++ caps) scope cl P2.objs.size pins fp s2 H2) [] σ6 H8 { s8 with heap := h9, toks := s8.toks } := I80.turned (it := s2.heap.objs.size) (fun b o hb e => (hs9.2 b hb).trans e) q2 q3 (.inr (Nat.le_refl _))
          (fun x a h z => by
            obtain ⟨v', ob, eo, _⟩ := I2.cell x a (c.sub _ _ h)
            exact absurd (Heap.lt_size eo) (by rw [z]; exact Nat.lt_irrefl _))
          (fun p hp z => by
            have hp' : p ∈ X.pn ++ pins := (List.mem_append.mp hp).elim (fun z => z) fun z => absurd z (by simp)
            exact absurd (Heap.lt_size (I2.pin p hp').1) (by rw [z]; exact Nat.lt_irrefl _))
        have ea : its.toArray.push y = (its ++ [y]).toArray := by simp
        rw [ea] at e9
        have I10 : Inv (cxComp X (bs ++ caps) scope cl P2.objs.size pins fp s2 H2) [(s2.heap.objs.size, { cls := .type "list", data := .seq (its ++ [y]).toArray n9 })] σ6 H8 { s8 with heap := h9 } := I9.pins_of fun p hp => by
          have z' : p = (s2.heap.objs.size, { cls := .type "list", data := .seq (its ++ [y]).toArray n9 }) := by simpa using hp
          subst z'
          refine ⟨e9, q2, q3, q4, fun v' y' => ?_⟩
          have y2 : Data.seq _ _ = Data.cell v' := y'
          cases y2
        have hDf : s2.heap.objs.size ∉ fp := fun hb => by
          obtain ⟨o', e'⟩ := ob2 _ hb
          exact absurd (Heap.lt_size e') (Nat.lt_irrefl _)
        exact ⟨m', hm, i + 1, ys ++ [v], its ++ [y], n9, H8, base I10, rv.append (.cons r8 .nil), T.keep _ _ _ st8 fun b hb o e => (hs9.2 b (fun z => hDf (z ▸ hb))).trans e, fr8, w8⟩
  exact codeAny_compStart_list loop (T.self _ 0 _ _ _ (T.keep _ _ _ st2 fun b ψ o e => old b o e) loop)
theorem pe_comp (hc : X.calm = true) (c : CompOk X scope cl js caps) (hi : PI X tg iter wi)
    (hg : ∀ C pins fp s2 H2, PG (cxComp X (bs ++ caps) scope cl C pins fp s2 H2) tg g) (ht : ∀ C pins fp s2 H2, PTs (cxComp X (bs ++ caps) scope cl C pins fp s2 H2) ifs tc) (he : ∀ C pins fp s2 H2, PE (cxComp X (bs ++ caps) scope cl C pins fp s2 H2) elt te)
    (hs : ∀ x, foldedSetIterable iter X.env x = pure x := by intro ψ; rfl) : PE X (.ListComp elt [⟨tg, iter, ifs, 0⟩] scope pos) (tComp wi bs.length js g tc te) := by
  intro pins s σ H Q I h
  rw [eval_ListComp]
  refine wpAny_comprehension_free (use := none) rfl hs c.clos c.kind c.names (thn (hi pins s σ H _ I h) fun v s1 h1 => thn h1 fun itv s2 h2 => ?_)
  obtain ⟨it, fp, tn, J, H2, e, I2, T, st2, f2, W, ⟨m0, w0⟩, turn⟩ := h2
  subst e
  refine comp_core (RR := fun acc C => compPost (model X.prog X.w) X.A X.xe none (EP X pins σ Q) acc C) (Z := fun ys H => ∀ p, H p = none → Q (.ref p) (upd H p (.lst ys))) hc c hg ht he I2 T st2 f2 W w0 turn fun D C s4 H3 ys mC J4 hD fC hnC hZ => ?_
  refine ⟨mC, hnC, fun h' hs' => ⟨.ref D, upd H3 D (.lst ys), ?_, rfl, hZ D hD⟩⟩
  exact J4.turned (t' := s4.toks) (it := C) (fun b o hb e => (hs'.2 b hb).trans e) fC.1 fC.2.1 fC.2.2.2.1 fC.2.2.2.2.1 fC.2.2.2.2.2
theorem ps_setC {i : Nat} {y : Str} {py spos : Pos} (hsw : swapsWith (.ListComp elt [⟨tg, iter, ifs, 0⟩] scope pos) (some (.Name y py)) spos.line X.env = pure true) (hN : X.N.Nodup) (hy : X.N[i]? = some y) (hl : X.env.scope.names.lookup y = some .local) (hc : X.calm = true) (c : CompOk X scope cl js caps) (hi : PI X tg iter wi)
    (hg : ∀ C pins fp s2 H2, PG (cxComp X (bs ++ caps) scope cl C pins fp s2 H2) tg g) (ht : ∀ C pins fp s2 H2, PTs (cxComp X (bs ++ caps) scope cl C pins fp s2 H2) ifs tc) (he : ∀ C pins fp s2 H2, PE (cxComp X (bs ++ caps) scope cl C pins fp s2 H2) elt te)
    (hs : ∀ x, foldedSetIterable iter X.env x = pure x := by intro ψ; rfl) : PS X (.Assign [.Name y py] (.ListComp elt [⟨tg, iter, ifs, 0⟩] scope pos) spos) (tAsg (tComp wi bs.length js g tc te) (gName i)) := by
  intro pins s σ H D I h
  rw [exec_Assign_Name_used _ _ _ _ hsw]
  refine wpAny_bind (wpAny_standAt (wpAny_bind ?_))
  show wpAny _ X.A (do let _ ← comprehension (.ListComp elt [⟨tg, iter, ifs, 0⟩] scope pos) scope X.env _ (newList []) false (eval iter X.env) (some (assign (.Name y py) X.env))) _ _ s
  refine wpAny_bind (thn (wpAny_comprehension_free (use := some (assign (.Name y py) X.env)) (Q := fun ψ s' => SP X pins D .next s') rfl hs c.clos c.kind c.names
    (thn (hi pins s σ H _ I h) fun xv s1 h1 => thn h1 fun itv s2 h2 => ?_)) fun ψ s' hq => wpAny_pure (wpAny_pure hq))
  obtain ⟨it, fp, tn, J, H2, e, I2, T, st2, f2, W, ⟨m0, w0⟩, turn⟩ := h2
  subst e
  refine comp_core (RR := fun acc C => compPost (model X.prog X.w) X.A X.xe (some (assign (.Name y py) X.env)) (fun ψ s' => SP X pins D .next s') acc C) (Z := fun ys H => ∀ p, H p = none → D.nx (σ.set i (some (.ref p))) (upd H p (.lst ys))) hc c hg ht he I2 T st2 f2 W w0 turn fun d C s4 H3 ys mC J4 hD fC hnC hZ => ?_
  show wpAny _ X.A (assign (.Name y py) X.env (.ref d)) _ _ s4
  refine wpAny_assign_Name (store_ok2 J4 hN hy (.inl hl) (v := .ref d) rfl (fun s5 J5 ⟨a, hsb, ha⟩ => ?_) (.inr hl))
  have hCa : C ≠ a := by
    rcases ha with z | z
    · rw [z]; exact fC.2.1
    · exact fun q => fC.2.2.2.2.1 _ _ z q.symm
  refine ⟨mC, hnC.sameBut hsb hCa, fun h' hs' => ⟨_, _, J5.turned (t' := s5.toks) (it := C) (fun b o hb e => (hs'.2 b hb).trans e) fC.1 fC.2.1 fC.2.2.2.1 fC.2.2.2.2.1 fC.2.2.2.2.2, hZ d hD⟩⟩
end
section
variable {X : Cx}
noncomputable def CDivB (i j : Int) : Prop := 0 < j ∧ j.natAbs < 2 ^ 9000
theorem log_small {n : Nat} (h0 : 0 < n) (h : n < 2 ^ 9000) : n.log2 < 9000 := (Nat.log2_lt (Nat.ne_of_gt h0)).mpr h
theorem op_fdivB : OpR X (binaryOp .FloorDiv) (rI CDivB fun i j => .int (i / j)) := opI fun i j ψ ψ ψ ψ ψ hc q => by
  have h1 : (0 : Int) < j := hc.1
  exact floordiv_int (by lia) (by rw [Int.fdiv_eq_ediv_of_nonneg i (by lia)]; exact q) (.inl (PyProof.noPylong_of_log2 (log_small (by lia) hc.2)))
theorem bits_small {i : Int} (h : i.natAbs < 2 ^ 9000) : Builtin.Int.intBits i ≤ 2 ^ 20 := by
  unfold Builtin.Int.intBits
  split
  · exact Nat.zero_le _
  · have h2 : i.natAbs.log2 < 9000 := by
      rcases Nat.eq_zero_or_pos i.natAbs with h0 | hp
      · rw [h0]; decide
      · exact log_small hp h
    have e : (2 : Nat) ^ 20 = 1048576 := by decide
    lia
noncomputable def CMulB (i j : Int) : Prop := (-(2 ^ 64) < i ∧ i < 2 ^ 64) ∨ (-(2 ^ 64) < j ∧ j < 2 ^ 64) ∨ (i.natAbs < 2 ^ 9000 ∧ j.natAbs < 2 ^ 9000)
theorem CMulB.ok {i j : Int} (h : CMulB i j) : IntMulOk i j := by
  rcases h with ⟨h1, h2⟩ | ⟨h1, h2⟩ | ⟨h1, h2⟩
  · exact .of_left (intBits_le_64 h1 h2)
  · exact .of_right (intBits_le_64 h1 h2)
  · exact .of_bits (bits_small h1) (bits_small h2)
theorem op_mulB : OpR X (binaryOp .Mult) (rI CMulB fun i j => .int (i * j)) := opI fun ψ ψ ψ ψ ψ ψ ψ hc q => mul_int q hc.ok
end
inductive D where
  | non | bl (b : Bool) | int (i : Int) | str (x : Str) | tup (xs : List D)
mutual
noncomputable def DV (K : PySem.W.Frag) (H : Hp) : D → V → Prop
  | .non, v => v = .non
  | .bl b, v => v = .bl b
  | .int i, v => v = .int i
  | .str x, v => v = .str x
  | .tup ds, v => ∃ a xs, v = .ref a ∧ SqT K H a xs ∧ DVs K H ds xs
noncomputable def DVs (K : PySem.W.Frag) (H : Hp) : List D → List V → Prop
  | [], vs => vs = []
  | d :: ds, vs => ∃ v r, vs = v :: r ∧ DV K H d v ∧ DVs K H ds r
end
mutual
noncomputable def D.eq : D → D → Bool
  | .non, .non => true
  | .bl a, .bl b => a == b
  | .bl a, .int b => (if a then 1 else 0) == b
  | .int a, .bl b => a == (if b then 1 else 0)
  | .int a, .int b => a == b
  | .str a, .str b => a == b
  | .tup xs, .tup ys => D.eqs xs ys
  | _, _ => false
noncomputable def D.eqs : List D → List D → Bool
  | [], [] => true
  | x :: xs, y :: ys => D.eq x y && D.eqs xs ys
  | _, _ => false
end
mutual
noncomputable def D.depth : D → Nat
  | .tup xs => D.depths xs + 1
  | _ => 0
noncomputable def D.depths : List D → Nat
  | [] => 0
  | x :: xs => max (D.depth x) (D.depths xs)
end
theorem DVs.length {K : PySem.W.Frag} {H : Hp} : ∀ {ds : List D} {vs : List V}, DVs K H ds vs → ds.length = vs.length
  | [], vs, h => by rw [DVs] at h; subst h; rfl
  | d :: ds, vs, h => by
    rw [DVs] at h
    obtain ⟨v, r, rfl, _, h2⟩ := h
    simp [DVs.length h2]
theorem DVs.get {K : PySem.W.Frag} {H : Hp} : ∀ {ds : List D} {vs : List V} {j : Nat} {d : D}, DVs K H ds vs → ds[j]? = some d → ∃ v, vs[j]? = some v ∧ DV K H d v
  | [], vs, j, d, h, e => by simp at e
  | d' :: ds, vs, j, d, h, e => by
    rw [DVs] at h
    obtain ⟨v, r, rfl, h1, h2⟩ := h
    cases j with
    | zero => simp at e; subst e; exact ⟨v, rfl, h1⟩
    | succ j =>
      obtain ⟨v', e', h'⟩ := DVs.get (j := j) h2 (by simpa using e)
      exact ⟨v', by simpa using e', h'⟩
theorem all_succ (n : Nat) (e : Nat → Bool) : (List.range (n + 1)).all e = (e 0 && (List.range n).all fun j => e (j + 1)) := by
  rw [List.range_succ_eq_map, List.all_cons, List.all_map]
  rfl
theorem eqs_all : ∀ (xs ys : List D), D.eqs xs ys = ((List.range (min xs.length ys.length)).all (fun j => D.eq (xs.getD j .non) (ys.getD j .non)) && xs.length == ys.length)
  | [], [] => by simp [D.eqs]
  | [], y :: ys => by simp [D.eqs]
  | x :: xs, [] => by simp [D.eqs]
  | x :: xs, y :: ys => by
    rw [D.eqs, eqs_all xs ys]
    have e : min (x :: xs).length (y :: ys).length = min xs.length ys.length + 1 := by simp only [List.length_cons]; lia
    rw [e, all_succ]
    simp [Bool.and_assoc]
section
variable {X : Cx} {pins : List (Addr × Obj)} {σ : St} {H : Hp} {s : Shared}
theorem units_in1 (A : Around) : A.in1.units = A.units + 1 := rfl
mutual
theorem same_D (I : Inv X pins σ H s) : ∀ (d e : D) (x : V), DV X.K H d x → DV X.K H e x → D.eq d e = true
  | .non, e, x, hx, hy => by
    rw [DV] at hx; subst hx
    cases e with
    | tup b => rw [DV] at hy; obtain ⟨p, ys, z, _⟩ := hy; cases z
    | _ => rw [DV] at hy; first | rfl | cases hy
  | .bl a, e, x, hx, hy => by
    rw [DV] at hx; subst hx
    cases e with
    | tup b => rw [DV] at hy; obtain ⟨p, ys, z, _⟩ := hy; cases z
    | bl b => rw [DV] at hy; cases hy; rw [D.eq]; exact beq_self_eq_true _
    | _ => rw [DV] at hy; cases hy
  | .int a, e, x, hx, hy => by
    rw [DV] at hx; subst hx
    cases e with
    | tup b => rw [DV] at hy; obtain ⟨p, ys, z, _⟩ := hy; cases z
    | int b => rw [DV] at hy; cases hy; rw [D.eq]; exact beq_self_eq_true _
    | _ => rw [DV] at hy; cases hy
  | .str a, e, x, hx, hy => by
    rw [DV] at hx; subst hx
    cases e with
    | tup b => rw [DV] at hy; obtain ⟨p, ys, z, _⟩ := hy; cases z
    | str b => rw [DV] at hy; cases hy; rw [D.eq]; exact beq_self_eq_true _
    | _ => rw [DV] at hy; cases hy
  | .tup ds, e, x, hx, hy => by
    rw [DV] at hx
    obtain ⟨a, xs, rfl, ha, hxs⟩ := hx
    cases e with
    | tup es =>
      rw [DV] at hy
      obtain ⟨b, ys, z, hb, hys⟩ := hy
      cases z
      have e1 := I.tuple_inj ha hb
      subst e1
      rw [D.eq]
      exact sames_D I ds es xs hxs hys
    | _ => rw [DV] at hy; cases hy
theorem sames_D (I : Inv X pins σ H s) : ∀ (ds es : List D) (xs : List V), DVs X.K H ds xs → DVs X.K H es xs → D.eqs ds es = true
  | [], es, xs, hx, hy => by
    rw [DVs] at hx; subst hx
    cases es with
    | nil => rfl
    | cons e es => rw [DVs] at hy; obtain ⟨v, r, z, _⟩ := hy; cases z
  | d :: ds, es, xs, hx, hy => by
    rw [DVs] at hx
    obtain ⟨x, xr, rfl, hx1, hx2⟩ := hx
    cases es with
    | nil => rw [DVs] at hy; cases hy
    | cons e es =>
      rw [DVs] at hy
      obtain ⟨y, yr, z, hy1, hy2⟩ := hy
      cases z
      rw [D.eqs, same_D I d e x hx1 hy1, sames_D I ds es xr hx2 hy2]
      rfl
end
mutual
theorem eqAt_D (I : Inv X pins σ H s) : ∀ (d e : D) (A : Around) (x y : V) (u v : Value), RelV x u → RelV y v → DV X.K H d x → DV X.K H e y → A.units + d.depth < cLine → SeqAt.EqAt A s u v (D.eq d e)
  | .non, e, A, x, y, u, v, rx, ry, hx, hy, hu => by
    rw [DV] at hx; subst hx
    cases e with
    | non => rw [DV] at hy; subst hy; exact eqAt_V rx ry rfl rfl
    | bl b => rw [DV] at hy; subst hy; exact eqAt_V rx ry rfl rfl
    | int b => rw [DV] at hy; subst hy; exact eqAt_V rx ry rfl rfl
    | str b => rw [DV] at hy; subst hy; exact eqAt_V rx ry rfl rfl
    | tup b =>
      rw [DV] at hy
      obtain ⟨p, ys, rfl, hp, _⟩ := hy
      cases rx; cases ry
      obtain ⟨its, _, pt, _⟩ := I.tuple hp
      exact SeqAt.EqAt.none_tuple (show s.heap.IsTuple p its.toArray from pt) (by lia)
  | .bl a, e, A, x, y, u, v, rx, ry, hx, hy, hu => by
    rw [DV] at hx; subst hx
    cases e with
    | non => rw [DV] at hy; subst hy; exact eqAt_V rx ry rfl rfl
    | bl b => rw [DV] at hy; subst hy; exact eqAt_V rx ry rfl rfl
    | int b => rw [DV] at hy; subst hy; exact eqAt_V rx ry rfl rfl
    | str b => rw [DV] at hy; subst hy; exact eqAt_V rx ry rfl rfl
    | tup b =>
      rw [DV] at hy
      obtain ⟨p, ys, rfl, hp, _⟩ := hy
      cases rx; cases ry
      obtain ⟨its, _, pt, _⟩ := I.tuple hp
      exact SeqAt.EqAt.bool_tuple a (show s.heap.IsTuple p its.toArray from pt) (by lia)
  | .int a, e, A, x, y, u, v, rx, ry, hx, hy, hu => by
    rw [DV] at hx; subst hx
    cases e with
    | non => rw [DV] at hy; subst hy; exact eqAt_V rx ry rfl rfl
    | bl b => rw [DV] at hy; subst hy; exact eqAt_V rx ry rfl rfl
    | int b => rw [DV] at hy; subst hy; exact eqAt_V rx ry rfl rfl
    | str b => rw [DV] at hy; subst hy; exact eqAt_V rx ry rfl rfl
    | tup b =>
      rw [DV] at hy
      obtain ⟨p, ys, rfl, hp, _⟩ := hy
      obtain ⟨t, rfl⟩ := rx
      cases ry
      obtain ⟨its, _, pt, _⟩ := I.tuple hp
      exact SeqAt.EqAt.int_tuple a t (show s.heap.IsTuple p its.toArray from pt) (by lia)
  | .str a, e, A, x, y, u, v, rx, ry, hx, hy, hu => by
    rw [DV] at hx; subst hx
    cases e with
    | non => rw [DV] at hy; subst hy; exact eqAt_V rx ry rfl rfl
    | bl b => rw [DV] at hy; subst hy; exact eqAt_V rx ry rfl rfl
    | int b => rw [DV] at hy; subst hy; exact eqAt_V rx ry rfl rfl
    | str b => rw [DV] at hy; subst hy; exact eqAt_V rx ry rfl rfl
    | tup b =>
      rw [DV] at hy
      obtain ⟨p, ys, rfl, hp, _⟩ := hy
      obtain ⟨t, rfl⟩ := rx
      cases ry
      obtain ⟨its, _, pt, _⟩ := I.tuple hp
      exact SeqAt.EqAt.str_tuple a t (show s.heap.IsTuple p its.toArray from pt) (by lia)
  | .tup ds, e, A, x, y, u, v, rx, ry, hx, hy, hu => by
    rw [DV] at hx
    obtain ⟨a, xs, rfl, ha, hxs⟩ := hx
    cases rx
    obtain ⟨its, r1, pt, _⟩ := I.tuple ha
    have hu' : A.units + (D.depths ds + 1) < cLine := by rw [D.depth] at hu; exact hu
    cases e with
    | non => rw [DV] at hy; subst hy; cases ry; exact SeqAt.EqAt.tuple_none (show s.heap.IsTuple a its.toArray from pt) (by lia)
    | bl b => rw [DV] at hy; subst hy; cases ry; exact SeqAt.EqAt.tuple_bool b (show s.heap.IsTuple a its.toArray from pt) (by lia)
    | int b => rw [DV] at hy; subst hy; obtain ⟨t, rfl⟩ := ry; exact SeqAt.EqAt.tuple_int b t (show s.heap.IsTuple a its.toArray from pt) (by lia)
    | str b => rw [DV] at hy; subst hy; obtain ⟨t, rfl⟩ := ry; exact SeqAt.EqAt.tuple_str b t (show s.heap.IsTuple a its.toArray from pt) (by lia)
    | tup es =>
      rw [DV] at hy
      obtain ⟨b, ys, rfl, hb, hys⟩ := hy
      cases ry
      obtain ⟨its2, r2, pt2, _⟩ := I.tuple hb
      by_cases hab : a = b
      · subst hab
        have e1 := same_D I (.tup ds) (.tup es) (.ref a) (by rw [DV]; exact ⟨a, xs, rfl, ha, hxs⟩) (by rw [DV]; exact ⟨a, ys, rfl, hb, hys⟩)
        rw [e1]
        exact SeqAt.EqAt.same _
      · have key := SeqAt.RcAt.tuples (A := A) (e := fun j => D.eq (ds.getD j .non) (es.getD j .non)) (show s.heap.IsTuple a its.toArray from pt) (show s.heap.IsTuple b its2.toArray from pt2) (by lia) fun j h1 h2 => ?_
        · have l1 := hxs.length
          have l2 := hys.length
          have l3 := r1.length
          have l4 := r2.length
          refine SeqAt.EqAt.of_refs hab ?_
          rw [D.eq, eqs_all]
          rw [List.size_toArray, List.size_toArray, ← l3, ← l4, ← l1, ← l2] at key
          exact key
        · exact eqsAt_D I ds es A.in1 xs ys its its2 r1 r2 hxs hys (by rw [units_in1]; lia) j (by simpa using h1) (by simpa using h2)
theorem eqsAt_D (I : Inv X pins σ H s) : ∀ (ds es : List D) (A : Around) (xs ys : List V) (us vs : List Value), Vals xs us → Vals ys vs → DVs X.K H ds xs → DVs X.K H es ys → A.units + D.depths ds < cLine →
    ∀ j (h1 : j < us.length) (h2 : j < vs.length), SeqAt.EqAt A s us[j] vs[j] (D.eq (ds.getD j .non) (es.getD j .non))
  | [], _, _, xs, _, us, _, r1, _, hx, _, _ => fun j h1 ψ => by
    rw [DVs] at hx; subst hx
    cases r1
    simp at h1
  | d :: ds, [], _, _, ys, _, vs, _, r2, _, hy, _ => fun j ψ h2 => by
    rw [DVs] at hy; subst hy
    cases r2
    simp at h2
  | d :: ds, e :: es, A, xs, ys, us, vs, r1, r2, hx, hy, hu => fun j h1 h2 => by
    rw [DVs] at hx hy
    obtain ⟨x, xr, rfl, hx1, hx2⟩ := hx
    obtain ⟨y, yr, rfl, hy1, hy2⟩ := hy
    rw [D.depths] at hu
    cases r1 with
    | cons q1 t1 =>
      cases r2 with
      | cons q2 t2 =>
        cases j with
        | zero => exact eqAt_D I d e A x y _ _ q1 q2 hx1 hy1 (by lia)
        | succ j => exact eqsAt_D I ds es A xr yr _ _ t1 t2 hx2 hy2 (by lia) j (by simpa using h1) (by simpa using h2)
end
end
section
variable {X : Cx}
noncomputable def rEqT (K : PySem.W.Frag) (neg : Bool) : R2 := fun x y H Q => ∃ ds es, DV K H (.tup ds) x ∧ DV K H (.tup es) y ∧ D.depths ds ≤ 40 ∧ Q (.bl (if neg then !D.eqs ds es else D.eqs ds es)) H
theorem op_eqT (hu : X.A.units + 64 < cLine) : OpR X (compareOp .Eq) (rEqT X.K false) := by
  intro pins s σ H x y v u Q I rx ry h
  obtain ⟨ds, es, hx, hy, hd, q⟩ := h
  rw [DV] at hx hy
  obtain ⟨a, xs, rfl, ha, hxs⟩ := hx
  obtain ⟨b, ys, rfl, hb, hys⟩ := hy
  cases rx; cases ry
  obtain ⟨its, r1, pt, _⟩ := I.tuple ha
  obtain ⟨its2, r2, pt2, _⟩ := I.tuple hb
  refine SeqAt.eq_tupleAt (e := fun j => D.eq (ds.getD j .non) (es.getD j .non)) (show s.heap.IsTuple a its.toArray from pt) (show s.heap.IsTuple b its2.toArray from pt2) (by lia) (fun j h1 h2 => ?_) ⟨.bl _, H, I, rfl, ?_⟩
  · exact eqsAt_D I ds es X.A.in1 xs ys its its2 r1 r2 hxs hys (by rw [units_in1]; lia) j (by simpa using h1) (by simpa using h2)
  · rw [List.size_toArray, List.size_toArray, ← r1.length, ← r2.length, ← hxs.length, ← hys.length, ← eqs_all]
    exact q
theorem op_neT (hu : X.A.units + 64 < cLine) : OpR X (compareOp .NotEq) (rEqT X.K true) := by
  intro pins s σ H x y v u Q I rx ry h
  obtain ⟨ds, es, hx, hy, hd, q⟩ := h
  rw [DV] at hx hy
  obtain ⟨a, xs, rfl, ha, hxs⟩ := hx
  obtain ⟨b, ys, rfl, hb, hys⟩ := hy
  cases rx; cases ry
  obtain ⟨its, r1, pt, _⟩ := I.tuple ha
  obtain ⟨its2, r2, pt2, _⟩ := I.tuple hb
  refine SeqAt.RcNeAt.tuples (e := fun j => D.eq (ds.getD j .non) (es.getD j .non)) (show s.heap.IsTuple a its.toArray from pt) (show s.heap.IsTuple b its2.toArray from pt2) (by lia) (fun j h1 h2 => ?_) X.prog X.w X.xe _ ⟨.bl _, H, I, rfl, ?_⟩
  · exact eqsAt_D I ds es X.A.in1 xs ys its its2 r1 r2 hxs hys (by rw [units_in1]; lia) j (by simpa using h1) (by simpa using h2)
  · rw [List.size_toArray, List.size_toArray, ← r1.length, ← r2.length, ← hxs.length, ← hys.length, ← eqs_all]
    exact q
noncomputable def rEqL (K : PySem.W.Frag) (neg : Bool) : R2 := fun x y H Q => ∃ a b xs ys ds es, x = .ref a ∧ y = .ref b ∧ SqL K H a xs ∧ SqL K H b ys ∧ DVs K H ds xs ∧ DVs K H es ys ∧ D.depths ds ≤ 40 ∧ Q (.bl (if neg then !D.eqs ds es else D.eqs ds es)) H
theorem eqs_len : ∀ {xs ys : List D}, xs.length ≠ ys.length → D.eqs xs ys = false
  | [], [], h => absurd rfl h
  | [], _ :: _, _ => rfl
  | _ :: _, [], _ => rfl
  | x :: xs, y :: ys, h => by rw [D.eqs, eqs_len (fun z => h (by simp [z])), Bool.and_false]
theorem op_eqL (hu : X.A.units + 64 < cLine) : OpR X (compareOp .Eq) (rEqL X.K false) := by
  intro pins s σ H x y v u Q I rx ry h
  obtain ⟨a, b, xs, ys, ds, es, rfl, rfl, ha, hb, hxs, hys, hd, q⟩ := h
  cases rx; cases ry
  obtain ⟨its, r1, pt, _⟩ := I.list ha
  obtain ⟨its2, r2, pt2, _⟩ := I.list hb
  by_cases hl : its.length = its2.length
  · refine SeqAt.eq_listAt (e := fun j => D.eq (ds.getD j .non) (es.getD j .non)) pt.isList pt2.isList (by simp [hl]) (by lia) (fun j h1 h2 => ?_) ⟨.bl _, H, I, rfl, ?_⟩
    · exact eqsAt_D I ds es X.A.in1 xs ys its its2 r1 r2 hxs hys (by rw [units_in1]; lia) j (by simpa using h1) (by simpa using h2)
    · have e := eqs_all ds es
      have l1 := hxs.length; have l2 := hys.length; have l3 := r1.length; have l4 := r2.length
      rw [show min ds.length es.length = its.toArray.size by rw [List.size_toArray]; lia, show (ds.length == es.length) = true by rw [beq_iff_eq]; lia, Bool.and_true] at e
      rw [← e]
      exact q
  · refine SeqAt.eq_list_lengthsAt pt.isList pt2.isList (by simp [hl]) (by lia) ⟨.bl _, H, I, rfl, ?_⟩
    have e : D.eqs ds es = false := eqs_len (by have l1 := hxs.length; have l2 := hys.length; have l3 := r1.length; have l4 := r2.length; lia)
    simp only [Bool.false_eq_true, if_false] at q
    rw [e] at q
    exact q
theorem op_neL (hu : X.A.units + 64 < cLine) : OpR X (compareOp .NotEq) (rEqL X.K true) := by
  intro pins s σ H x y v u Q I rx ry h
  obtain ⟨a, b, xs, ys, ds, es, rfl, rfl, ha, hb, hxs, hys, hd, q⟩ := h
  cases rx; cases ry
  obtain ⟨its, r1, pt, _⟩ := I.list ha
  obtain ⟨its2, r2, pt2, _⟩ := I.list hb
  by_cases hl : its.length = its2.length
  · refine SeqAt.RcNeAt.lists (e := fun j => D.eq (ds.getD j .non) (es.getD j .non)) pt.isList pt2.isList (by simp [hl]) (by lia) (fun j h1 h2 => ?_) X.prog X.w X.xe _ ⟨.bl _, H, I, rfl, ?_⟩
    · exact eqsAt_D I ds es X.A.in1 xs ys its its2 r1 r2 hxs hys (by rw [units_in1]; lia) j (by simpa using h1) (by simpa using h2)
    · have e := eqs_all ds es
      have l1 := hxs.length; have l2 := hys.length; have l3 := r1.length; have l4 := r2.length
      rw [show min ds.length es.length = its.toArray.size by rw [List.size_toArray]; lia, show (ds.length == es.length) = true by rw [beq_iff_eq]; lia, Bool.and_true] at e
      rw [← e]
      exact q
  · refine SeqAt.RcNeAt.lists_lengths pt.isList pt2.isList (by simp [hl]) (by lia) X.prog X.w X.xe _ ⟨.bl _, H, I, rfl, ?_⟩
    have e : D.eqs ds es = false := eqs_len (by have l1 := hxs.length; have l2 := hys.length; have l3 := r1.length; have l4 := r2.length; lia)
    simp only [if_true] at q
    rw [e] at q
    exact q
theorem call_isinst : CallR X (.builtin "isinstance") (fun xs H Q => ∃ x c cv t b, xs = [x, c] ∧ (∀ u, RelV c u → u = cv) ∧ TyOf X.K H x t ∧ PySem.W.kitOne X.K t cv = some b ∧ Q (.bl b) H) := by
  intro pins s σ H xs us Q I r h
  obtain ⟨x, c, cv, t, b, rfl, rc, ty, e, q⟩ := h
  obtain ⟨u, v, rfl, rx, rv⟩ := vals2 r
  have e2 := rc v rv
  subst e2
  exact isinst_ok I rx ty e fun tk => ⟨.bl b, H, I.tok _, rfl, q⟩
end
structure Noted (F : List Addr) (e : Addr) (oe : Obj) (vs : Array Value) (hd : Value) (h h' : Heap) (T' : Addr) (fl : Value) : Prop where
  keep : ∀ b o, h.get? b = some o → b ≠ e → hd ≠ .ref b → b ∉ F → h'.get? b = some o
  slot : ∀ b o, h.get? b = some o → b ∈ F → ∃ sl, h'.get? b = some { o with slots := sl }
  exc : h'.get? e = some { oe with data := .fields (vs.setIfInBounds 1 (.ref T')) }
  new : h.objs.size ≤ T'
  ent : ∃ oT ts, h'.get? T' = some oT ∧ oT.data = .fields ts ∧ ts[3]? = some fl
theorem mapF {o : Obj} {vs : Array Value} (hd : o.data = .fields vs) (f : Array Value → Array Value) : Obj.mapFields f o = { o with data := .fields (f vs) } := by
  obtain ⟨a, b, c, d⟩ := o
  subst hd
  rfl
section
variable {M : Model} {A : Around} {E : L2.VSP} {s : Shared} {base : Heap} {env : Env} {outer : List Env} {L e : Addr} {oe : Obj} {vs : Array Value} {hd : Value}
theorem entry_full {hn : Bool} {Q : Unit → Shared → Prop} (hfr : A.frames = some (env :: outer)) (hl : s.heap.FunFrames base (env :: outer)) (hf : env.frame = some L) (he : s.heap.get? e = some oe) (hdt : oe.data = .fields vs) (h1 : 1 < vs.size) (nf : e ∉ frs (env :: outer))
    (h : ∀ h' T', Noted (frs (env :: outer)) e oe vs .none s.heap h' T' (rawInt L) → Q () { s with heap := h' }) :
    wpAny M A (do setField (.ref e) 1 (← EntryCells.newEntry hd (← frameOf env) .none (rawInt L) .none (← entryPlaceOf L hn))) Q E s := by
  refine wpAny_bind (wpAny_frameOf_fun hfr hl hf fun g gs => wpAny_bind (wpAny_entryPlaceOf fun pl ok => ?_))
  unfold EntryCells.newEntry newFields
  refine wpAny_bind (wpAny_newObj_type ?_ (ok.sizeOk5 _ _ _ _ _))
  have sz : g.objs.size = s.heap.objs.size := gs.1
  have ge : g.get? e = some oe := (gs.2.1 e nf).trans he
  have pe := Heap.get?_push_of_some (h := g) { cls := .type "traceback", dict := none, data := .fields ([hd, .ref L, .none, rawInt L, .none] ++ (if pl.isEmpty then List.replicate 6 Value.none else pl)).toArray } ge
  refine wpAny_setField pe hdt h1 (h _ g.objs.size ⟨fun b o eb n1 ψ n3 => ?_, fun b o eb hb => ?_, ?_, Nat.le_of_eq sz.symm, ?_⟩)
  · rw [Heap.get?_update_other _ _ (Ne.symm n1)]
    exact Heap.get?_push_of_some _ ((gs.2.1 b n3).trans eb)
  · obtain ⟨sl, q⟩ := gs.2.2 b o eb
    refine ⟨sl, ?_⟩
    rw [Heap.get?_update_other _ _ (fun z : e = b => nf (z.symm ▸ hb))]
    exact Heap.get?_push_of_some _ q
  · rw [Heap.get?_update_self _ pe (by rw [mapF hdt]; exact Obj.isFreed_of_fields rfl), mapF hdt]
  · have ne : e ≠ g.objs.size := Nat.ne_of_lt (Heap.lt_size ge)
    refine ⟨_, _, by rw [Heap.get?_update_other _ _ ne]; exact Heap.get?_push_size g rfl, rfl, ?_⟩
    simp
theorem note_full {Q : Unit → Shared → Prop} (hfr : A.frames = some (env :: outer)) (hl : s.heap.FunFrames base (env :: outer)) (hf : env.frame = some L) (he : s.heap.get? e = some oe) (hdt : oe.data = .fields vs) (h1 : vs[1]? = some hd) (nf : e ∉ frs (env :: outer))
    (hh : hd = .none ∨ ∃ T oT ts, hd = .ref T ∧ T ≠ e ∧ T ∉ frs (env :: outer) ∧ s.heap.get? T = some oT ∧ oT.data = .fields ts ∧ ts[3]? = some .none)
    (h : ∀ h' T', Noted (frs (env :: outer)) e oe vs hd s.heap h' T' (rawInt L) → Q () { s with heap := h' }) : wpAny M A (noteFrame (.ref e) env) Q E s := by
  have sz1 := (Array.getElem?_eq_some_iff.mp h1).1
  unfold noteFrame
  simp only [hf]
  refine wpAny_bind (wpAny_field he hdt h1 ?_)
  rcases hh with z | ⟨T, oT, ts, z, ne, nF, eT, dT, t3⟩
  · subst z
    rw [if_neg (by decide)]
    exact entry_full hfr hl hf he hdt sz1 nf h
  · subst z
    rw [if_pos (show (Value.ref T != Value.none) = true from by simp)]
    refine wpAny_bind (wpAny_field eT dT t3 ?_)
    rw [if_neg (show ¬ ((Value.none == rawInt L) = true) from by simp [rawInt])]
    refine wpAny_bind (wpAny_setField eT dT (Array.getElem?_eq_some_iff.mp t3).1 ?_)
    have oth : ∀ b, b ≠ T → (s.heap.update T (Obj.mapFields (·.setIfInBounds 3 Value.none))).get? b = s.heap.get? b := fun b hb => Heap.get?_update_other _ _ (Ne.symm hb)
    have szT : (s.heap.update T (Obj.mapFields (·.setIfInBounds 3 Value.none))).objs.size = s.heap.objs.size := by simp [Heap.update]
    have fl : (s.heap.update T (Obj.mapFields (·.setIfInBounds 3 Value.none))).FunFrames base (env :: outer) := hl.of_keeps fun b o eb nfb => ⟨o, (oth b (fun q => by rw [q, eT] at eb; cases eb; exact nfb ts dT)).trans eb, rfl⟩
    refine entry_full (s := { s with heap := s.heap.update T (Obj.mapFields (·.setIfInBounds 3 Value.none)) }) hfr fl hf ((oth e (Ne.symm ne)).trans he) hdt sz1 nf fun h' T' N => h h' T' ⟨fun b o eb n1 n2 n3 => ?_, fun b o eb hb => ?_, N.exc, by have := N.new; rw [szT] at this; exact this, N.ent⟩
    · exact N.keep b o ((oth b (fun q => n2 (by rw [q]))).trans eb) n1 (fun q => by cases q) n3
    · exact N.slot b o ((oth b (fun q => nF (q ▸ hb))).trans eb) hb
theorem flight_full {h0 : Heap} {F : List Addr} {T' : Addr} {fl : Value} {Q : Unit → Shared → Prop} (h1 : 1 < vs.size) (lt : e < h0.objs.size) (N : Noted F e oe vs hd h0 s.heap T' fl) (hF : ∀ b ∈ F, b < h0.objs.size) (h : ∀ h', Noted F e oe vs hd h0 h' T' .none → Q () { s with heap := h' }) : wpAny M A (setFlight (.ref e) none) Q E s := by
  obtain ⟨oT, ts, eT, dT, t3⟩ := N.ent
  have sz3 := (Array.getElem?_eq_some_iff.mp t3).1
  unfold setFlight
  refine wpAny_bind (wpAny_field N.exc rfl (x := .ref T') (by simp [h1]) ?_)
  rw [if_pos (show (Value.ref T' != Value.none) = true from by simp)]
  have oth : ∀ b, b < h0.objs.size → (s.heap.update T' (Obj.mapFields (·.setIfInBounds 3 ((none : Option Addr).elim Value.none fun f => rawInt f)))).get? b = s.heap.get? b := fun b hb => Heap.get?_update_other _ _ (Nat.ne_of_gt (Nat.lt_of_lt_of_le hb N.new))
  refine wpAny_setField eT dT sz3 (h _ ⟨fun b o eb n1 n2 n3 => (oth b (Heap.lt_size eb)).trans (N.keep b o eb n1 n2 n3), fun b o eb hb => ?_, (oth e lt).trans N.exc, N.new, ?_⟩)
  · obtain ⟨sl, q⟩ := N.slot b o eb hb
    exact ⟨sl, (oth b (hF b hb)).trans q⟩
  · refine ⟨_, _, Heap.get?_update_self _ eT (by rw [mapF dT]; exact Obj.isFreed_of_fields rfl), by rw [mapF dT], ?_⟩
    simp [sz3]
end
structure Flw (H : Hp) (n : Heap) (h : Heap) (e : Addr) (oc : Value) (od : Option Addr) (fresh : Bool) : Prop where
  un : H e = none
  yn : n.get? e = none
  ob : ∃ oe vs hd, h.get? e = some oe ∧ oe.cls = oc ∧ oe.dict = od ∧ oe.data = .fields vs ∧ vs[1]? = some hd ∧
    (if fresh = true then hd = .none else ∃ T oT ts, hd = .ref T ∧ T ≠ e ∧ H T = none ∧ n.get? T = none ∧ h.get? T = some oT ∧ oT.data = .fields ts ∧ ts[3]? = some .none)
noncomputable def CX1 (P : Program) (w : World) : CXT := fun outer H s E e s' => ∃ ea H' oc od, e = .ref ea ∧ s'.os = s.os ∧ AllBare s'.gens ∧ Un (frs outer) [] H H' s.heap s'.heap ∧ HOk P w H' s'.heap ∧ Flw H' s.heap s'.heap ea oc od false ∧ E oc od H'
section
variable {X : Cx} {pins : List (Addr × Obj)} {σ : St} {H : Hp} {s : Shared}
theorem Inv.frmLt (I : Inv X pins σ H s) : ∀ b ∈ frs X.stack, b < s.heap.objs.size := fun b hb => by
  rcases List.mem_cons.mp (I.stkSub b hb) with q | q
  · rw [q]; exact I.lt
  · obtain ⟨_, o, e, _⟩ := I.ok.funs.mem q
    exact Nat.lt_of_lt_of_le (Heap.lt_size e) I.sz
theorem frm_fields (I : Inv X pins σ H s) {b : Addr} {o : Obj} {vs : Array Value} (e : s.heap.get? b = some o) (d : o.data = .fields vs) : b ∉ frs X.stack := fun hb => by
  obtain ⟨_, o', e', n⟩ := I.stack.mem hb
  rw [e] at e'; cases e'
  exact n vs d
theorem land {env : Env} {outer : List Env} {L e : Addr} {oc : Value} {od : Option Addr} {n : Heap} {fr : Bool} {E : L2.VSP} {Q : Unit → Shared → Prop} (I : Inv X pins σ H s) (hle : ∀ b o, n.get? b = some o → ∃ o', s.heap.get? b = some o') (hst : X.stack = env :: outer) (hf : env.frame = some L) (F : Flw H n s.heap e oc od fr)
    (h : ∀ h', (∀ b o, s.heap.get? b = some o → n.get? b ≠ none → b ∉ frs X.stack → h'.get? b = some o) → (∀ b o, s.heap.get? b = some o → b ∈ frs X.stack → ∃ sl, h'.get? b = some { o with slots := sl }) → (∀ b u o, H b = some u → s.heap.get? b = some o → h'.get? b = some o) →
      (∀ b o, s.heap.get? b = some o → (∀ vs, o.data ≠ .fields vs) → b ∉ frs X.stack → h'.get? b = some o) → (∀ p ∈ X.pn ++ pins, n.get? p.1 ≠ none → h'.get? p.1 = some p.2) → Flw H n h' e oc od false → Q () { s with heap := h' }) :
    wpAny (model X.prog X.w) X.A (noteFrame (.ref e) env) (fun ψ s1 => wpAny (model X.prog X.w) X.A (setFlight (.ref e) none) Q E s1) E s := by
  obtain ⟨oe, vs, hd, ge, c, d, dt, h1, hh⟩ := F.ob
  have hfr : X.A.frames = some (env :: outer) := by rw [← hst]; exact I.ok.frames
  have ffr := I.stack
  rw [hst] at ffr
  have nf : e ∉ frs (env :: outer) := by rw [← hst]; exact frm_fields I ge dt
  have sz1 := (Array.getElem?_eq_some_iff.mp h1).1
  have lt := Heap.lt_size ge
  have hF : ∀ b ∈ frs (env :: outer), b < s.heap.objs.size := by rw [← hst]; exact I.frmLt
  refine note_full hfr ffr hf ge dt h1 nf ?_ fun g T' N => ?_
  · cases fr with
    | true => exact .inl hh
    | false =>
      obtain ⟨T, oT, ts, z, ne, hT, _, eT, dT, t3⟩ := hh
      exact .inr ⟨T, oT, ts, z, ne, by rw [← hst]; exact frm_fields I eT dT, eT, dT, t3⟩
  · refine flight_full (s := { s with heap := g }) sz1 lt N hF fun g' N' => ?_
    have nh : ∀ b, H b ≠ none → hd ≠ .ref b := fun b hb z => by
      cases fr with
      | true => rw [show hd = .none from hh] at z; cases z
      | false =>
        obtain ⟨T, oT, ts, z', _, hT, _⟩ := hh
        rw [z'] at z; cases z
        exact hb hT
    have nl : ∀ b, n.get? b ≠ none → hd ≠ .ref b := fun b hb z => by
      cases fr with
      | true => rw [show hd = .none from hh] at z; cases z
      | false =>
        obtain ⟨T, oT, ts, z', _, _, hT, _⟩ := hh
        rw [z'] at z; cases z
        exact hb hT
    have nd : ∀ b o, s.heap.get? b = some o → (∀ vs, o.data ≠ .fields vs) → hd ≠ .ref b := fun b o eb hb z => by
      cases fr with
      | true => rw [show hd = .none from hh] at z; cases z
      | false =>
        obtain ⟨T, oT, ts, z', _, _, _, eT, dT, _⟩ := hh
        rw [z'] at z; cases z
        rw [eT] at eb; cases eb
        exact hb ts dT
    have yn := F.yn
    refine h g' (fun b o eb hb hn => N'.keep b o eb (fun z => hb (by rw [z]; exact yn)) (nl b hb) (by rw [← hst]; exact hn)) (fun b o eb hb => N'.slot b o eb (by rw [← hst]; exact hb)) (fun b u o hb eb => N'.keep b o eb (fun z => by rw [z, F.un] at hb; cases hb) (nh b (by rw [hb]; simp)) ?_)
      (fun b o eb hb hn => N'.keep b o eb (fun z => by rw [z, ge] at eb; cases eb; exact hb vs dt) (nd b o eb hb) (by rw [← hst]; exact hn)) (fun p hp lt => ?_) ⟨F.un, F.yn, _, _, _, N'.exc, c, d, rfl, (by simp [sz1]; rfl), ?_⟩
    · intro z
      have z2 := I.stkFree b (by rw [hst]; exact z)
      rw [z2] at hb; cases hb
    · obtain ⟨q1, q2, q3, q4, q5⟩ := I.pin p hp
      refine N'.keep p.1 p.2 q1 (fun z => lt (by rw [z]; exact yn)) (nl p.1 lt) fun z => ?_
      rcases List.mem_cons.mp (I.stkSub p.1 (by rw [hst]; exact z)) with y | y
      · exact q3 y
      · exact q4 y
    · obtain ⟨oT, ts, eT, dT, t3⟩ := N'.ent
      have hn : s.heap.objs.size ≤ T' := N'.new
      refine ⟨T', oT, ts, rfl, Nat.ne_of_gt (Nat.lt_of_lt_of_le lt hn), I.hok.fresh hn, ?_, eT, dT, t3⟩
      cases z : n.get? T' with
      | none => rfl
      | some o =>
        obtain ⟨o', e'⟩ := hle T' o z
        exact absurd (Nat.lt_of_lt_of_le (Heap.lt_size e') hn) (Nat.lt_irrefl _)
end
theorem Flw.mono {H : Hp} {m n : Heap} {h : Heap} {e : Addr} {oc : Value} {od : Option Addr} {fr : Bool} (F : Flw H n h e oc od fr) (le : ∀ b, n.get? b = none → m.get? b = none) : Flw H m h e oc od fr := by
  obtain ⟨a, b, oe, vs, hd, e1, e2, e3, e4, e5, e6⟩ := F
  refine ⟨a, le _ b, oe, vs, hd, e1, e2, e3, e4, e5, ?_⟩
  cases fr with
  | true => exact e6
  | false =>
    obtain ⟨T, oT, ts, q1, q2, q3, q4, q5⟩ := e6
    exact ⟨T, oT, ts, q1, q2, q3, le _ q4, q5⟩
section
variable {P : Program} {w : World} {K : PySem.W.Frag} {mg : L2.SV} {base : Heap} {N : List Str} {qual : Str} {scope : Scope} {f : Addr} {cd : Value} {A : Around} {outer : List Env} {s : Shared} {H : Hp} {E : XK}
theorem leave1 {pins : List (Addr × Obj)} {σ : St} {H' : Hp} {s' : Shared} {n : Heap} {e : Addr} {oc : Value} {od : Option Addr} {fr : Bool} (I : Inv (cxOf (CX1 P w) P w K mg base N qual scope f cd A outer s H E) pins σ H' s')
    (F : Flw H' n s'.heap e oc od fr) (le : ∀ b, n.get? b = none → s.heap.get? b = none) (hle : ∀ b o, n.get? b = some o → ∃ o', s'.heap.get? b = some o') (q : E oc od H') : (cxOf (CX1 P w) P w K mg base N qual scope f cd A outer s H E).xe (.ref e) s' := by
  show wpAny (model P w) (A.deeper (envOfC qual scope s.heap.objs.size f cd)) (leaving (envOfC qual scope s.heap.objs.size f cd) (.ref e)) _ _ s'
  unfold leaving
  have hfs : ∀ b, b ∈ frs (envOfC qual scope s.heap.objs.size f cd :: outer) → b = s.heap.objs.size ∨ b ∈ frs outer := fun b hb => List.mem_cons.mp hb
  refine wpAny_bind (land (X := cxOf (CX1 P w) P w K mg base N qual scope f cd A outer s H E) I hle rfl rfl F fun h' k1 k2 k3 k4 k5 F' => ?_)
  have nfr : ∀ b, b < s.heap.objs.size → b ∉ frs outer → b ∉ frs (envOfC qual scope s.heap.objs.size f cd :: outer) := fun b hb hn z => by
    rcases hfs b z with y | y
    · exact absurd hb (by rw [y]; exact Nat.lt_irrefl _)
    · exact hn y
  have B := I.base
  refine ⟨e, H', oc, od, rfl, I.os, I.bare, ⟨fun b o eb n hb hx => ?_, fun b o eb n hb hx => ?_, fun b o eb n hx => B.free b o eb n hx, fun b o eb hx => ?_, B.tups, B.frzs, B.tbls⟩, fun b u eb => ?_, F'.mono le, q⟩
  · exact k1 b o (B.keep b o eb n hb hx) (fun z => by rw [le b z] at eb; cases eb) (nfr b (Heap.lt_size eb) hb)
  · obtain ⟨sl, e1⟩ := B.slot b o eb n hb hx
    obtain ⟨sl', e2⟩ := k2 b _ e1 (List.mem_cons_of_mem _ hb)
    exact ⟨sl', e2⟩
  · obtain ⟨o', e1⟩ := B.there b o eb hx
    by_cases hb : b ∈ frs outer
    · obtain ⟨sl', e2⟩ := k2 b _ e1 (List.mem_cons_of_mem _ hb)
      exact ⟨_, e2⟩
    · exact ⟨o', k1 b o' e1 (fun z => by rw [le b z] at eb; cases eb) (nfr b (Heap.lt_size eb) hb)⟩
  · refine (I.hok b u eb).stay (fun c v hc r => ?_) (fun ψ r => r) fun ψ ψ r => r
    rcases hc with rfl | hc
    · exact k3 c _ v eb r
    · exact k3 c _ v hc r
theorem passes1 {E1 : XK} (h : ∀ oc od H', E1 oc od H' → E oc od H') : Passes (CX1 P w) (cxOf (CX1 P w) P w K mg base N qual scope f cd A outer s H E) E1 := by
  intro pins σ H1 s1 e s' I hx
  obtain ⟨ea, H', oc, od, rfl, os, bare, un, hok, F, q⟩ := hx
  refine leave1 (I.call' (ch := []) os un hok bare fun b z => absurd z (by simp)) F (fun b z => ?_) (fun b o z => un.there b o z (by simp)) (h _ _ _ q)
  cases y : s.heap.get? b with
  | none => rfl
  | some o =>
    obtain ⟨o', e'⟩ := I.base.there b o y (by simp [cxOf])
    rw [z] at e'; cases e'
end
theorem obj_at {P : Program} {w : World} {H : Hp} {h : Heap} {a : Addr} {o : HO} (x : ObjOk P w H h a o) : ∃ ob, h.get? a = some ob := by
  cases o with
  | lst xs => obtain ⟨_, _, _, _, e⟩ := x; exact ⟨_, e⟩
  | tup xs => obtain ⟨_, _, _, ob, e, _⟩ := x; exact ⟨_, e⟩
  | dK kvs => obtain ⟨_, _, _, _, o, _, _, e, _⟩ := x; exact ⟨_, e⟩
  | dT kvs => obtain ⟨_, _, _, _, o, _, _, e, _⟩ := x; exact ⟨_, e⟩
  | set S n => obtain ⟨o, _, _, _, e, _⟩ := x; exact ⟨_, e⟩
  | ins C dx fs => obtain ⟨_, _, _, e, _⟩ := x; exact ⟨_, e⟩
  | own y => exact x
  | xd fs => obtain ⟨_, ⟨_, _, _, e, _⟩, _⟩ := x; exact ⟨_, e⟩
  | rng lo hi => obtain ⟨_, _, _, e⟩ := x; exact ⟨_, e⟩
  | frz ob u => obtain ⟨e, _⟩ := x; exact ⟨_, e⟩
  | tbl ps => exact ⟨_, x⟩
  | met f y => exact ⟨_, x⟩
  | ext φ => obtain ⟨_, e, _⟩ := x; exact e
theorem exc_obj {K : PySem.W.Frag} {h : Heap} {C : Addr} {bmB : List Value} {newId : String} (KX : K.In h) (q : PySem.W.excIn K C bmB newId = true) :
    ∃ bm N nm qn bs hdct sn sub ab col dd k0 k1 k2 k3 k5 mN, h.get? C = some (excClassObj nm qn C N bs bm hdct sn sub ab col dd k0 k1 k2 k3 k5 newId) ∧ h.Ns N mN ∧ mN "__init__" = none ∧ OwnTail h bmB bm := by
  unfold PySem.W.excIn at q
  split at q
  · rename_i dd cls slots there
    split at q
    · rename_i C' up a0 a1 a2 a3 made a5 hmro hsl
      simp only [Bool.and_eq_true, beq_iff_eq, Bool.not_eq_true'] at q
      obtain ⟨⟨⟨⟨⟨y1, y2⟩, y3⟩, y4⟩, y5⟩, y6⟩ := q
      subst y1 y2
      obtain ⟨c1, c2, c3, c4, c5, c6, c7, c8, c9, c10, c11⟩ := cls
      dsimp only at hmro y3 y5 y6
      subst hmro y3
      have z : slots = #[a0, a1, a2, a3, some (.builtin made), a5] := by
        obtain ⟨l⟩ := slots
        dsimp only at hsl
        rw [hsl]
      subst z
      refine ⟨up, c4, c1, c5, c2, c6, c7, c8, c9, c10, dd, a0, a1, a2, a3, a5, _, KX _ _ there, Heap.Ns.of_isNs (PySem.W.isNs_of_in KX y5), ?_, PySem.W.tail_of_in KX y4⟩
      exact PySem.W.nsMap_none_of_in KX y5 y6
    · cases q
  · cases q
section
variable {P : Program} {w : World} {K : PySem.W.Frag} {mg : L2.SV} {base : Heap} {N : List Str} {qual : Str} {scope : Scope} {f : Addr} {cd : Value} {A : Around} {outer : List Env} {s : Shared} {H : Hp} {E : XK}
noncomputable def tRaise (E : XK) (C : Addr) (te : TE) : TS := fun ψ σ H => te σ H fun ψ H1 => E (.ref C) none H1
theorem ps_raise {x : Str} {C : Addr} {e0 : Expr} {te : TE} {np cpos pos : Pos} {B newId initId : String} {bmB : List Value} (hA : A.handled = none) (FB : ExcBaseFacts B newId initId bmB) (hC : PySem.W.excIn K C bmB newId = true) (hm : mg x = some (.ref C))
    (hg : Gl (cxOf (CX1 P w) P w K mg base N qual scope f cd A outer s H E) x) (he : PE (cxOf (CX1 P w) P w K mg base N qual scope f cd A outer s H E).nox e0 te)
    (hd : (x == ("__debug__" : Str)) = false := by decide) (hs : starEach [e0] (envOfC qual scope s.heap.objs.size f cd) = [(false, eval e0 (envOfC qual scope s.heap.objs.size f cd))] := by rfl) :
    PS (cxOf (CX1 P w) P w K mg base N qual scope f cd A outer s H E) (.Raise (some (.Call (.Name x np) [e0] [] cpos)) none pos) (tRaise E C te) := by
  intro pins s1 σ H1 Dn I h
  obtain ⟨bm, Ns, nm, qn, bs, hdct, sn, sub, ab, col, dd, k0, k1, k2, k3, k5, mN, hcl, hns, hni, tl⟩ := exc_obj I.ok.mod.kin hC
  refine wpAny_Raise_call_subT (C := C) (nm := nm) (q := qn) (N := Ns) (bs := bs) (bm := bm) (hdct := hdct) (sn := sn) (sub := sub) (ab := ab) (col := col) (dd := dd) (k0 := k0) (k1 := k1) (k2 := k2) (k3 := k3) (k5 := k5) FB (mN := mN) (tl.hasType FB.hasBase) hA
    (by show (backTo cpos (starEach [e0] (envOfC qual scope s.heap.objs.size f cd))).any (·.1) = false; rw [hs]; rfl) hni (ld_glob I hg hm ⟨rfl, ?_⟩ hd)
  show wpAny _ _ (evalArgs (Value.ref C) true (backTo cpos (starEach [e0] (envOfC qual scope s.heap.objs.size f cd))) []) _ _ _
  rw [hs]
  refine Calls.evalArgs_plain ?_
  refine Calls.spliced_cons (thn (PE.nox he pins s1 σ H1 _ I h) fun u s2 ⟨v, H2, I2, r2, q2⟩ => Calls.spliced_nil ⟨rfl, (by show 1 ≤ sizeLine; decide), I2.bk _ _ hcl, hns.keeps I2.bk, tl.keeps I2.bk, fun h' e hm' => ?_⟩)
  obtain ⟨t, et, _, _⟩ := hm'.there
  have I3 := I2.kept (h' := h') (t' := s2.toks) hm'.keeps
  have un : H2 e = none := by
    cases z : H2 e with
    | none => rfl
    | some u =>
      obtain ⟨ob, eo⟩ := obj_at (I2.hok e u z)
      have z2 := hm'.new
      rw [eo] at z2; cases z2
  refine leave1 (n := s2.heap) (fr := true) I3 ⟨un, hm'.new, _, _, _, et, rfl, rfl, rfl, rfl, rfl⟩ (fun b z => ?_) (fun b o z => ⟨o, hm'.keeps b o z⟩) q2
  cases y : s.heap.get? b with
  | none => rfl
  | some o =>
    obtain ⟨o', e'⟩ := I2.base.there b o y (by simp [cxOf])
    rw [z] at e'; cases e'
end
noncomputable def XP (X : Cx) (pins : List (Addr × Obj)) (σ : St) (E : XK) (e : Value) (s' : Shared) : Prop := ∃ s0 H0, Inv X pins σ H0 s0 ∧ CX1 X.prog X.w X.stack H0 s0 E e s'
section
variable {X : Cx} {k : Nat} {f : Addr} {fd : FuncData} {ps : List Str} {sp : Sp} {x : Str} {p pos : Pos} {e : Expr} {es : List Expr} {t : TA}
theorem PA.nox {es : List Expr} {t : TA} (h : PA X.nox es t) {Er : L2.VSP} {pos : Pos} {pins : List (Addr × Obj)} {s : Shared} {σ : St} {H : Hp} {Q : List V → Hp → Prop} (I : Inv X pins σ H s) (q : t σ H Q) :
    wpAny (model X.prog X.w) X.A (spliced (backTo pos (starEach es X.env))) (AP X pins σ Q) Er s :=
  wpAny_mono (h pos pins s σ H Q (I.wish _) q) (fun _ _ ⟨vs, H', I', r, q⟩ => ⟨vs, H', I'.unwish, r, q⟩) fun ψ ψ z => False.elim z
end
noncomputable def excO (e C : Addr) : HO := .ext fun h => ∃ o, h.get? e = some o ∧ o.cls = .ref C ∧ o.dict = none ∧ PySem.W.notCls o = true
section
variable {X : Cx} {pins : List (Addr × Obj)} {σ : St} {H : Hp} {s : Shared}
theorem Inv.adoptX {d : Addr} {o : HO} (I : Inv X pins σ H s) (hn : H d = none) (h0 : X.s₀.heap.get? d = none) (hL : d ≠ X.env.locals) (hc : ∀ x c, X.env.cells.lookup x = some c → c ≠ d) (hp : ∀ p ∈ X.pn ++ pins, p.1 ≠ d)
    (new : ObjOk X.prog X.w (upd H d o) s.heap d o) : Inv X pins σ (upd H d o) s := by
  have nd : ∀ b u, H b = some u → b ≠ d := fun b u e z => by rw [z, hn] at e; cases e
  have B := I.base
  refine ⟨I.ok, I.os, I.bare, ⟨B.keep, B.slot, fun b u e n hx => ?_, B.there, fun b xs e => ?_, fun b u v e => ?_, fun b ps e => ?_⟩, I.loc, I.cell, by rw [upd_ne (Ne.symm hL)]; exact I.free, fun x c e => by rw [upd_ne (hc x c e)]; exact I.freeC x c e, fun p hq => ?_, fun b u e => ?_, I.len⟩
  · rw [upd_ne (fun z => by rw [z, h0] at e; cases e)]; exact B.free b u e n hx
  · have q := B.tups b xs e
    rw [upd_ne (nd _ _ q)]; exact q
  · have q := B.frzs b u v e
    rw [upd_ne (nd _ _ q)]; exact q
  · obtain ⟨mo, q⟩ := B.tbls b ps e
    exact ⟨mo, by rw [upd_ne (nd _ _ q)]; exact q⟩
  · obtain ⟨q1, q2, q3⟩ := I.pin p hq
    exact ⟨q1, by rw [upd_ne (hp p hq)]; exact q2, q3⟩
  · by_cases hb : b = d
    · subst hb; rw [upd_same] at e; cases e; exact new
    · rw [upd_ne hb] at e
      exact (I.hok b u e).stay (fun ψ ψ ψ q => q) (fun c q => by rw [upd_ne (nd c _ q)]; exact q) fun c xs q => by rw [upd_ne (nd c _ q)]; exact q
end
section
variable {X : Cx} {xn cn n : Str} {i j : Nat} {call : Expr} {b0 : Stmt} {suite : List Stmt} {p1 p2 p3 p4 pos : Pos} {tc : St → Hp → VK → XK → Prop} {ts : TS}
end
theorem bga_bind (self : Value) : bindSpecial (.builtin "BaseException.__getattribute__") self = pure (.builtin "BaseException.__getattribute__", [self]) := PySem.F.attr_ValueError.ga.bind self
structure ExcK (K : PySem.W.Frag) (C : Addr) : Prop where
  ga : PySem.W.findIn K (.ref C) "__getattribute__" = some (some (.builtin "BaseException.__getattribute__"))
  hk : PySem.W.findIn K (.ref C) "__getattr__" = some none
  cl : (PySem.W.clsIn K C).isSome = true
  at_ : PySem.W.findIn K (.ref C) "__class__" = some (some (.builtin "object.__class__"))
  gt : PySem.W.specialIn K (.builtin "object.__class__") "__get__" = some (some (.builtin "getset_descriptor.__get__"))
  tk : PySem.W.takesIn K (.builtin "object.__class__") = some true
  mo : PySem.W.mroIn K C (.type "object") = some true
  mb : PySem.W.mroIn K C (.type "BaseException") = some true
section
variable {prog : Program} {w : World} {A : Around} {E : L2.VSP} {s : Shared} {K : PySem.W.Frag} {x C : Addr} {ox : Obj}
theorem exc_findG {od : Option Obj} (c : ExcK K C) : PySem.W.findObj K C od "__class__" = some (.bind (.builtin "getset_descriptor.__get__") (.builtin "object.__class__")) := by
  obtain ⟨cd, hc⟩ := Option.isSome_iff_exists.mp c.cl
  unfold PySem.W.findObj
  rw [hc, Option.bind_some, c.at_, Option.bind_some]
  simp [c.gt, c.tk]
theorem exc_classG {od : Option Obj} {Q : Option Value → Shared → Prop} (c : ExcK K C) (KX : K.In s.heap) (I : PySem.W.InstAt s.heap x ox C od) (h : Q (some (.ref C)) { s with toks := s.toks + 1 }) : wpAny (model prog w) A (getAttr? (.ref x) "__class__") Q E s := by
  obtain ⟨hh, g, d, t, os⟩ := s
  have L0 := I.type (M := model prog w)
  have L1 := PySem.W.looks_findIn (M := model prog w) KX c.ga
  have L2 := PySem.W.looks_findIn (M := model prog w) KX c.hk
  have L3 := PySem.W.looks_find (M := model prog w) KX I (exc_findG c)
  have L4 := PySem.W.looks_mroIn (M := model prog w) KX c.mb
  have f3 := bga_bind (.ref x)
  unfold getAttr? getAttrBy? getAttrBy
  refine wpAny_bind (wpAny_mkText (wpAny_bind (wpAny_attempt (wpAny_holding (wpAny_bind (L0.at (wpAny_bind (L1.at ?_))))))))
  show wpAny _ _ (getAttrByItsOwn _ _ _ _ _ _) _ _ _
  unfold getAttrByItsOwn hookBefore
  refine wpAny_bind ?_
  show wpAny _ _ (typeLookup (.ref C) "__getattr__") _ _ _
  refine L2.at ?_
  refine wpAny_bind (wpAny_attempt (wpAny_holding ?_))
  unfold callGetattribute boundAndCalled
  rw [if_neg (by decide), f3]
  refine wpAny_bind (wpAny_pure ?_)
  refine wpAny_call (codeAny_call_builtin PySem.F.attr_ValueError.ga.plain PySem.F.entry_bexc_ga ?_)
  have hk : builtinKind "BaseException.__getattribute__" = some .slot := by decide +kernel
  have hsp : splitId "BaseException.__getattribute__" = some ("BaseException", "__getattribute__") := by decide +kernel
  have ha := PySem.F.args_bexc_ga (.ref x) (.str "__class__" t)
  simp only [checkBuiltinCall, hk, hsp]
  refine wpAny_bind ?_
  unfold isInstance
  repeat (any_goals (first | assumption | lk | wp_step))
  refine wpAny_run (PySem.W.class_get (s := ⟨hh, g, d, t + 1, os⟩) KX I c.mo ?_)
  repeat (any_goals (first | assumption | lk | wp_step))
theorem exc_class {Q : Option Value → Shared → Prop} (c : ExcK K C) (KX : K.In s.heap) (I : PySem.W.InstAt s.heap x ox C none) (h : Q (some (.ref C)) { s with toks := s.toks + 1 }) : wpAny (model prog w) A (getAttr? (.ref x) "__class__") Q E s := exc_classG c KX I h
theorem kitx_exc (c : ExcK K C) : PySem.W.KitX K (.ref x) (.ref C) (fun h => ∃ ox, PySem.W.InstAt h x ox C none) where
  ty := fun _ _ _ ⟨_, I⟩ => I.type
  it := fun ψ ψ KX ψ => by
    have e := c.cl
    unfold PySem.W.clsIn at e
    split at e
    · rename_i c' d' cd' sl' ho
      intro A' Q' E' s' k q
      unfold isType loadHead
      exact wpAny_bind (wpAny_loadPart (k _ _ (KX _ _ ho)) (wpAny_pure q))
    · cases e
  ne := fun h tp dd its n sl KX htp => by
    have e := c.cl
    refine Bool.eq_false_iff.mpr fun q => ?_
    have e2 : C = tp := Value.ref.inj (beq_iff_eq.mp q)
    subst e2
    unfold PySem.W.clsIn at e
    split at e
    · rename_i c' d' cd' sl' ho
      have z := (KX _ _ ho).symm.trans htp
      cases z
    · cases e
  ca := fun KX ⟨_, I⟩ k => exc_class c KX I k
end
section
variable {X : Cx}
theorem exc_inst {pins : List (Addr × Obj)} {σ : St} {H : Hp} {s : Shared} {e C : Addr} (I : Inv X pins σ H s) (h : H e = some (excO e C)) : ∃ ox, PySem.W.InstAt s.heap e ox C none := by
  obtain ⟨⟨o, h1, h2, h3, h4⟩, _, _⟩ := I.hok e _ h
  exact ⟨o, h1, h2, h4, by rw [h3]; trivial⟩
theorem call_isinstE : CallR X (.builtin "isinstance") (fun xs H Q => ∃ e C c cv b, xs = [.ref e, c] ∧ H e = some (excO e C) ∧ ExcK X.K C ∧ (∀ u, RelV c u → u = cv) ∧ PySem.W.kitOne X.K (.ref C) cv = some b ∧ Q (.bl b) H) := by
  intro pins s σ H xs us Q I r h
  obtain ⟨e, C, c, cv, b, rfl, he, ck, rc, k, q⟩ := h
  obtain ⟨u, v, rfl, rx, rv⟩ := vals2 r
  cases rx
  have e2 := rc v rv
  subst e2
  exact PySem.W.kia_one (kitx_exc ck) I.kIn (exc_inst I he) k (fun z => nomatch z) fun tk => ⟨.bl b, H, I.tok _, rfl, q⟩
theorem vals_refs : ∀ {cs : List Addr} {us : List Value}, Vals (cs.map V.ref) us → us = cs.map Value.ref
  | [], us, r => by rw [List.map_nil] at r; cases r; rfl
  | c :: cs, us, r => by
    rw [List.map_cons] at r
    cases r with
    | cons q t => cases q; rw [vals_refs t]; rfl
theorem call_isinstET : CallR X (.builtin "isinstance") (fun xs H Q => ∃ (e C tp : Addr) (cs : List Addr) (b : Bool), xs = [.ref e, .ref tp] ∧ H e = some (excO e C) ∧ ExcK X.K C ∧ H tp = some (.tup (cs.map V.ref)) ∧ PySem.W.kitAny X.K (.ref C) (cs.map Value.ref) = some b ∧ Q (.bl b) H) := by
  intro pins s σ H xs us Q I r h
  obtain ⟨e, C, tp, cs, b, rfl, he, ck, ht, k, q⟩ := h
  obtain ⟨u, v, rfl, rx, rv⟩ := vals2 r
  cases rx
  cases rv
  obtain ⟨_, its, r1, o, h1, h2, n, h3⟩ := I.hok tp _ ht
  have e1 := vals_refs r1
  subst e1
  obtain ⟨oc, od, dt, sl⟩ := o
  dsimp only at h2 h3
  subst h2 h3
  exact PySem.W.kia_tup (kitx_exc ck) I.kIn (exc_inst I he) h1 k (fun z => nomatch z) fun tk => ⟨.bl b, H, I.tok _, rfl, q⟩
end
structure Kp (L : List Addr) (H H' : Hp) : Prop where
  keep : ∀ b o, b ∉ L → H b = some o → H' b = some o
  tup : ∀ b xs, H b = some (.tup xs) → H' b = some (.tup xs)
theorem Kp.refl {L : List Addr} {H : Hp} : Kp L H H := ⟨fun ψ ψ ψ h => h, fun ψ ψ h => h⟩
theorem Kp.trans {L : List Addr} {H H1 H2 : Hp} (a : Kp L H H1) (b : Kp L H1 H2) : Kp L H H2 := ⟨fun c o n h => b.keep c o n (a.keep c o n h), fun c xs h => b.tup c xs (a.tup c xs h)⟩
theorem Kp.new {L : List Addr} {H : Hp} {p : Addr} {o : HO} (n : H p = none) : Kp L H (upd H p o) := ⟨fun b u ψ h => by rw [upd_ne (ne_of_none h n)]; exact h, fun b xs h => by rw [upd_ne (ne_of_none h n)]; exact h⟩
theorem Kp.set {L : List Addr} {H : Hp} {l : Addr} {xs ys : List V} (m : l ∈ L) (h : H l = some (.lst xs)) : Kp L H (upd H l (.lst ys)) :=
  ⟨fun b u n e => by rw [upd_ne (fun z : b = l => n (by rw [z]; exact m))]; exact e, fun b zs e => by rw [upd_ne (ne_of e h (by intro z; cases z))]; exact e⟩
theorem Kp.get {H H' : Hp} (k : Kp [] H H') {b : Addr} {o : HO} (h : H b = some o) : H' b = some o := k.keep b o (by simp) h
theorem Kp.non {H H' : Hp} (k : Kp [] H H') {b : Addr} (h : H' b = none) : H b = none := by
  cases q : H b with
  | none => rfl
  | some o => rw [k.get q] at h; cases h
noncomputable def Ints (H : Hp) (v : V) (ns : List Int) : Prop := ∃ a, v = .ref a ∧ H a = some (.tup (ns.map V.int))
theorem Ints.kp {L : List Addr} {H H' : Hp} {v : V} {ns : List Int} (h : Ints H v ns) (k : Kp L H H') : Ints H' v ns := let ⟨a, e, q⟩ := h; ⟨a, e, k.tup _ _ q⟩
noncomputable def Scl (H : Hp) (v : V) (hd rg : List Int) : Prop := ∃ a x y, v = .ref a ∧ H a = some (.tup [x, y]) ∧ Ints H x hd ∧ Ints H y rg
theorem Scl.kp {L : List Addr} {H H' : Hp} {v : V} {hd rg : List Int} (h : Scl H v hd rg) (k : Kp L H H') : Scl H' v hd rg := let ⟨a, x, y, e, q, i, j⟩ := h; ⟨a, x, y, e, k.tup _ _ q, i.kp k, j.kp k⟩
section
variable {X : Cx} {K : PySem.W.Frag} {t u : TS} {D : Ends} {σ : St} {H : Hp} {te ta tb tc : TE} {Q : VK} {tt tt' : TT} {B : Bool → Hp → Prop} {r r' : R2} {i : Nat} {v x y : V}
theorem rd_call {sp : Sp} {E : XK} {tr : TA} (h : tr σ H fun vs H1 => sp vs H1 Q E) : tCall sp [] E tr σ H Q := by
  unfold tCall
  have e : (fun (vs : List V) H1 => sp (vs ++ []) H1 Q E) = fun vs H1 => sp vs H1 Q E := by funext vs H1; rw [List.append_nil]
  rw [e]; exact h
noncomputable def rIxA (K : PySem.W.Frag) : R2 := fun x y H Q => rIxL K x y H Q ∨ rIxT K x y H Q
theorem ix_any : IxR X (rIxA X.K) := ix_list.or ix_tup
theorem rx_lst {a : Addr} {xs : List V} {k : Int} (h1 : SqL K H a xs) (h2 : atI xs k = some v) (h : Q v H) : rIxA K (.ref a) (.int k) H Q := .inl ⟨a, xs, k, v, rfl, rfl, h1, h2, h⟩
noncomputable def rEqA (K : PySem.W.Frag) : R2 := fun x y H Q => rEq x y H Q ∨ rEqT K false x y H Q ∨ rEqL K false x y H Q
noncomputable def rNeA (K : PySem.W.Frag) : R2 := fun x y H Q => rNe x y H Q ∨ rEqT K true x y H Q ∨ rEqL K true x y H Q
theorem op_eqA (hu : X.A.units + 64 < cLine) : OpR X (compareOp .Eq) (rEqA X.K) := op_eq.or ((op_eqT hu).or (op_eqL hu))
theorem op_neA (hu : X.A.units + 64 < cLine) : OpR X (compareOp .NotEq) (rNeA X.K) := op_ne.or ((op_neT hu).or (op_neL hu))
end
theorem dvs_ints {K : PySem.W.Frag} {H : Hp} : ∀ ns : List Int, DVs K H (ns.map D.int) (ns.map V.int)
  | [] => by rw [List.map_nil, DVs]; rfl
  | n :: ns => by rw [List.map_cons, DVs]; exact ⟨_, _, rfl, by rw [DV], dvs_ints ns⟩
theorem depths_ints : ∀ ns : List Int, D.depths (ns.map D.int) = 0
  | [] => by rw [List.map_nil, D.depths]
  | n :: ns => by
    have e : D.depth (.int n) = 0 := by simp [D.depth]
    rw [List.map_cons, D.depths, depths_ints ns, e]; rfl
theorem eqs_ints : ∀ ns ms : List Int, D.eqs (ns.map D.int) (ms.map D.int) = decide (ns = ms)
  | [], [] => by simp [D.eqs]
  | [], m :: ms => by simp [D.eqs]
  | n :: ns, [] => by simp [D.eqs]
  | n :: ns, m :: ms => by
    rw [List.map_cons, List.map_cons, D.eqs, D.eq, eqs_ints ns ms]
    by_cases h1 : n = m <;> by_cases h2 : ns = ms <;> simp [h1, h2]
structure Fn (P : Program) (w : World) (K : PySem.W.Frag) (mg : L2.SV) (base : Heap) (CX : CXT) (k : Nat) (x : Str) (f : Addr) (fd : FuncData) (ps : List Str) (sp : Sp) : Prop where
  F : FnOk P w K mg base CX k f fd ps sp
  hm : mg x = some (.ref f)
  kp : PySem.W.keepIn K (.ref f) = true
  hb : Binds K fd ps []
section
variable {X : Cx} {k : Nat} {f : Addr} {fd : FuncData} {ps : List Str} {sp : Sp} {x : Str} {p pos : Pos} {e : Expr} {es : List Expr} {t : TA}
end
section
variable {P : Program} {w : World} {K : PySem.W.Frag} {mg : L2.SV} {base : Heap}
theorem Fun.okX {x qual : Str} {st : Stmt} {f : Addr} {fd : FuncData} {N ps : List Str} {k : Nat} {sp : Sp} (F : Fun K x qual st f fd) (S : FnScope N ps (defScope st)) (len : ∀ vs H Q E, sp vs H Q E → vs.length = ps.length)
    (hbody : ∀ (cdv : Value) (A : Around) (outer : List Env) (s : Shared) (H : Hp) (vs : List V) (Q : VK) (E : XK), Room k (A.deeper (envOfC qual (defScope st) s.heap.objs.size f cdv)) → A.handled = none → sp vs H Q E →
      ∃ t, PSs (cxOf (CX1 P w) P w K mg base N qual (defScope st) f cdv A outer s H E) (defBody st) t ∧ t { nx := fun ψ H' => Q .non H', rt := Q } (start N vs) H) : FnOk P w K mg base (CX1 P w) (k + 1) f fd ps sp := by
  obtain ⟨oc, od, kV, doc, pm, an, cdv, ct, osl, rfl, lk, hcd⟩ := F.ex
  exact fn_of lk hcd S len fun A outer s H vs Q E hr hsp => hbody cdv A outer s H vs Q E hr hr.hd hsp
theorem PS.nox {X : Cx} {st : Stmt} {t : TS} (h : PS X.nox st t) : PS X st t := fun pins s σ H D I hw =>
  wpAny_mono (h pins s σ H D (I.wish _) hw) (fun ψ ψ q => q.unwish) fun ψ ψ z => False.elim z
end
inductive ClOf (cells : List (Str × Addr)) : List (Str × Addr) → Prop
  | nil : ClOf cells []
  | cons {y : Str} {c : Addr} {r : List (Str × Addr)} (h : cells.lookup y = some c) (t : ClOf cells r) : ClOf cells ((y, c) :: r)
theorem ClOf.sub {cells : List (Str × Addr)} : ∀ {cl : List (Str × Addr)}, ClOf cells cl → ∀ y c, cl.lookup y = some c → cells.lookup y = some c
  | _, .nil, y, c, h => by simp at h
  | _, .cons (y := y') (c := c') q t, y, c, h => by
    rw [List.lookup_cons] at h
    by_cases e : y = y'
    · subst e
      simp at h
      subst h
      exact q
    · have e' : (y == y') = false := by simpa using e
      rw [e'] at h
      exact t.sub y c h
theorem comp_ok {X : Cx} {scope : Scope} {cl : List (Str × Addr)} {js : List Nat} {caps : List Str} (clos : closureFor scope X.env = pure cl) (a : (scope.names.all fun y => y.2 != .cell) = true) (kind : scope.kind = .function)
    (b : (scope.names.all fun y => y.2 != .local || scope.names.lookup y.1 == some .local) = true) (c : (scope.names.all fun y => y.2 != .free || (cl.lookup y.1).isSome) = true) (d : ClOf X.env.cells cl) (cap : Caps X (relabel scope X.env) cl js caps) : CompOk X scope cl js caps := by
  refine ⟨clos, fun y hy => ?_, kind, fun y hy e => ?_, fun y hy e => ?_, d.sub, cap⟩
  · have z := List.all_eq_true.mp a y hy
    simpa using z
  · have z := List.all_eq_true.mp b y hy
    rw [e] at z
    simpa using z
  · have z := List.all_eq_true.mp c y hy
    rw [e] at z
    simpa using z
section
variable {X : Cx} {K : PySem.W.Frag} {H : Hp} {Q : VK} {v : V}
noncomputable def rLen (K : PySem.W.Frag) : List V → Hp → VK → Prop := fun xs H Q => ∃ p ys, xs = [.ref p] ∧ (SqL K H p ys ∨ SqT K H p ys) ∧ Q (.int ys.length) H
theorem call_lenA : CallR X (.builtin "len") (rLen X.K) := call_len_seq
noncomputable def rTupOf (K : PySem.W.Frag) : List V → Hp → VK → Prop := fun xs H Q => ∃ p ys, xs = [.ref p] ∧ ((SqL K H p ys ∧ ∀ l, H l = none → Q (.ref l) (upd H l (.tup ys))) ∨ (SqT K H p ys ∧ Q (.ref p) H))
theorem call_tupA : CallR X (.type "tuple") (rTupOf X.K) := call_tuple_of
noncomputable def rLstOf (K : PySem.W.Frag) : List V → Hp → VK → Prop := fun xs H Q => ∃ p ys, xs = [.ref p] ∧ (SqL K H p ys ∨ SqT K H p ys) ∧ ∀ l, H l = none → Q (.ref l) (upd H l (.lst ys))
theorem call_lstA : CallR X (.type "list") (rLstOf X.K) := call_list_of
noncomputable def rMax : List V → Hp → VK → Prop := fun xs H Q => ∃ i j, xs = [.int i, .int j] ∧ Q (.int (if j > i then j else i)) H
theorem call_maxA (hc : X.calm = true) : CallR X (.builtin "max") rMax := call_max2 hc
noncomputable def rMin : List V → Hp → VK → Prop := fun xs H Q => ∃ i j, xs = [.int i, .int j] ∧ Q (.int (if j < i then j else i)) H
theorem call_minA (hc : X.calm = true) : CallR X (.builtin "min") rMin := call_min2 hc
noncomputable def rInt1 : List V → Hp → VK → Prop := fun xs H Q => (∃ i, xs = [.int i] ∧ Q (.int i) H) ∨ ∃ k, xs = [.bl k] ∧ Q (.int (if k then 1 else 0)) H
theorem call_intA : CallR X (.type "int") rInt1 := call_int1
noncomputable def rIsA (K : PySem.W.Frag) : List V → Hp → VK → Prop := fun xs H Q => (∃ x c cv t b, xs = [x, c] ∧ (∀ u, RelV c u → u = cv) ∧ TyOf K H x t ∧ PySem.W.kitOne K t cv = some b ∧ Q (.bl b) H) ∨
    (∃ e C c cv b, xs = [.ref e, c] ∧ H e = some (excO e C) ∧ ExcK K C ∧ (∀ u, RelV c u → u = cv) ∧ PySem.W.kitOne K (.ref C) cv = some b ∧ Q (.bl b) H) ∨
    (∃ (e C tp : Addr) (cs : List Addr) (b : Bool), xs = [.ref e, .ref tp] ∧ H e = some (excO e C) ∧ ExcK K C ∧ H tp = some (.tup (cs.map V.ref)) ∧ PySem.W.kitAny K (.ref C) (cs.map Value.ref) = some b ∧ Q (.bl b) H)
theorem ris_ty {x : V} {t : Value} {n : String} {b : Bool} (ty : TyOf K H x t) (k : PySem.W.kitOne K t (.type n) = some b) (h : Q (.bl b) H) : rIsA K [x, .ty n] H Q := .inl ⟨x, .ty n, .type n, t, b, rfl, fun ψ r => r, ty, k, h⟩
theorem call_isB : CallR X (.builtin "isinstance") (rIsA X.K) := call_isinst.or (call_isinstE.or call_isinstET)
theorem vals_bls : ∀ {bs : List Bool} {us : List Value}, Vals (bs.map V.bl) us → us = bs.map Value.bool
  | [], us, r => by rw [List.map_nil] at r; cases r; rfl
  | c :: cs, us, r => by
    rw [List.map_cons] at r
    cases r with
    | cons q t => cases q; rw [vals_bls t]; rfl
end
section
variable {X : Cx} {k : Nat} {f : Addr} {fd : FuncData} {ps : List Str} {sp : Sp} {x : Str} {p pos : Pos} {e : Expr} {es : List Expr} {t : TA} {P : Program} {w : World} {K : PySem.W.Frag} {mg : L2.SV} {base : Heap} {N : List Str} {qual : Str} {scope : Scope} {cd : Value} {A : Around} {outer : List Env} {s : Shared} {H : Hp} {E : XK} {g : Addr}
end
section
variable {K : PySem.W.Frag} {ta : TA} {tl : TE} {g : TG} {tb : TS} {D : Ends} {σ : St} {H : Hp}
end
section
variable {K : PySem.W.Frag} {ta : TA} {tl : TE} {k : Nat} {js : List Nat} {g : TG} {tc : TT} {te : TE} {σ : St} {H : Hp} {Q : VK}
end
end L2
namespace L2
open PySem PySem.Spec PyProof.Rows
noncomputable def Scls (H : Hp) (ps : List (List Int × List Int)) (vs : List V) : Prop := Paired (fun p v => Scl H v p.1 p.2) ps vs
theorem Scls.kp {L : List Addr} {H H' : Hp} (k : Kp L H H') {ps : List (List Int × List Int)} {vs : List V} (h : Scls H ps vs) : Scls H' ps vs := Paired.mapP h fun ψ ψ s => s.kp k
theorem Scls.get {H : Hp} : ∀ {ps : List (List Int × List Int)} {vs : List V} {i : Nat}, Scls H ps vs → i < ps.length → ∃ p v, p ∈ ps ∧ vs[i]? = some v ∧ Scl H v p.1 p.2
  | _, _, _, .nil, h => by simp at h
  | _, _, 0, .cons a t, h => ⟨_, _, List.mem_cons_self, rfl, a⟩
  | _, _, i + 1, .cons a t, h => by
    obtain ⟨p, v, m, e, s⟩ := Scls.get (i := i) t (by simpa using h)
    exact ⟨p, v, List.mem_cons_of_mem _ m, by simpa using e, s⟩
end L2
namespace L2
open PySem
theorem sw_list {es : List Expr} {p : Pos} {t : Option Expr} {l : Nat} {env : Env} : swapsWith (.List es p) t l env = pure false := rfl
theorem sw_binop {a b : Expr} {o : Operator} {p : Pos} {t : Option Expr} {l : Nat} {env : Env} : swapsWith (.BinOp a o b p) t l env = pure false := rfl
theorem sw_sub {a b : Expr} {p : Pos} {t : Option Expr} {l : Nat} {env : Env} : swapsWith (.Subscript a b p) t l env = pure false := rfl
end L2
namespace L2
open PySem PySem.Spec PyProof.Rows
section
variable {X : Cx} {e se : Expr} {te : TE} {ts : TO} {p2 pos : Pos}
variable {K : PySem.W.Frag} {σ : St} {H : Hp} {Q : VK}
end
section
variable {X : Cx} {K : PySem.W.Frag}
theorem call_isK (h : X.K = K) : CallR X (.builtin "isinstance") (rIsA K) := h ▸ call_isB
theorem call_lenK (h : X.K = K) : CallR X (.builtin "len") (rLen K) := h ▸ call_lenA
theorem ix_anyK (h : X.K = K) : IxR X (rIxA K) := h ▸ ix_any
end
section
variable {prog : Program} {w : World} {A : Around} {E : L2.VSP} {s : Shared}
theorem nextT_item {ti tu : Addr} {k : Nat} {its : Array Value} {v : Value} {Q : L2.VSP} (I : s.heap.IsTupleIter ti tu k) (T : s.heap.IsTuple tu its) (hv : its[k]? = some v)
    (q : ∀ g, g.IsTupleIter ti tu (k + 1) → Heap.SameBut ti s.heap g → Q v { s with heap := g }) : wpAny (model prog w) A (Builtin.SmallTypes.nextOf (.ref ti)) Q E s := by
  obtain ⟨oi, gi, ci, di⟩ := id I; obtain ⟨ot, gt, _, nt, dt⟩ := T; unfold Builtin.SmallTypes.nextOf
  refine wpAny_bind (wpAny_callSpecial?_slot (name := Str.ofString "__next__") I.typeIs F.slot_tuple_iterator_next (wpAny_call_entry F.slot_tuple_iterator_next I.typeIs F.entry_tuple_iterator_next ?_ (F.args_tuple_iterator_next_1 _)))
  show wpAny _ _ (field (.ref ti) 0 >>= _) _ _ s; refine wpAny_bind (wpAny_field gi di (x := .ref tu) rfl ?_)
  show wpAny _ _ (if (Value.ref tu == Value.none) = true then _ else _) _ _ s; rw [if_neg (show ¬ ((Value.ref tu == Value.none) = true) from Bool.false_ne_true)]
  show wpAny _ _ (field (.ref ti) 1 >>= _) _ _ s; refine wpAny_bind (wpAny_field gi di (x := .int k 0) rfl ?_)
  show wpAny _ _ (seqItems? (.ref tu) >>= _) _ _ s; refine wpAny_bind (wpAny_seqItems gt dt ?_)
  simp only [Int.toNat_natCast, hv]; refine wpAny_bind (wpAny_setField gi di (by simp) (wpAny_pure ⟨v, rfl, wpAny_pure (q _ ?_ (Heap.SameBut.update ..))⟩))
  exact ⟨_, Heap.get?_update_self _ gi (Obj.isFreed_of_fields (Obj.data_mapFields di _)), (Obj.cls_mapFields ..).trans ci, by rw [Obj.data_mapFields di]; simp [rawInt]⟩
theorem nextT_end {ti tu : Addr} {k : Nat} {its : Array Value} {Q : L2.VSP} (nh : A.handled = none) (I : s.heap.IsTupleIter ti tu k) (T : s.heap.IsTuple tu its) (hv : its[k]? = none)
    (q : ∀ g x, Heap.ExtBut ti s.heap g → (∃ o, g.get? x = some o ∧ o.cls = .type "StopIteration") → E (.ref x) { s with heap := g }) : wpAny (model prog w) A (Builtin.SmallTypes.nextOf (.ref ti)) Q E s := by
  obtain ⟨oi, gi, ci, di⟩ := id I; obtain ⟨ot, gt, _, nt, dt⟩ := T; unfold Builtin.SmallTypes.nextOf
  refine wpAny_bind (wpAny_callSpecial?_slot (name := Str.ofString "__next__") I.typeIs F.slot_tuple_iterator_next (wpAny_call_entry F.slot_tuple_iterator_next I.typeIs F.entry_tuple_iterator_next ?_ (F.args_tuple_iterator_next_1 _)))
  show wpAny _ _ (field (.ref ti) 0 >>= _) _ _ s; refine wpAny_bind (wpAny_field gi di (x := .ref tu) rfl ?_)
  show wpAny _ _ (if (Value.ref tu == Value.none) = true then _ else _) _ _ s; rw [if_neg (show ¬ ((Value.ref tu == Value.none) = true) from Bool.false_ne_true)]
  show wpAny _ _ (field (.ref ti) 1 >>= _) _ _ s; refine wpAny_bind (wpAny_field gi di (x := .int k 0) rfl ?_)
  show wpAny _ _ (seqItems? (.ref tu) >>= _) _ _ s; refine wpAny_bind (wpAny_seqItems gt dt ?_)
  simp only [Int.toNat_natCast, hv]; refine wpAny_bind (wpAny_rule (wpAny_bind (wpAny_setField gi di (by simp) ?_)))
  show wpAny _ _ (newExc (.type "StopIteration") [] >>= _) _ _ _; refine wpAny_bind ?_; simp only [newExc, newTuple]; refine wpAny_bind (wpAny_newObj_type ?_ (by size_fits))
  refine wpAny_bind (m := firstArgMember _ _) (wpAny_of_eq (a := Value.none) (by first | rfl | (simp only [firstArgMember]; rfl)) ?_); refine wpAny_newObj_type ?_ (by size_fits)
  simp only [raiseNew]; refine wpAny_bind (wpAny_handled ?_); first | rw [show A.in1.handled = none from nh] | rw [nh]
  refine wpAny_bind (wpAny_pure (wpAny_throw ?_)); exact q _ _ (((Heap.SameBut.update ..).extBut.push _).push _) ⟨_, Heap.get?_push_size _ rfl, rfl⟩
theorem enumT_next {en ti tu : Addr} {k : Nat} {its : Array Value} {v was : Value} {Q : L2.VSP} (N : IsEnum s.heap en ti k was) (I : s.heap.IsTupleIter ti tu k) (T : s.heap.IsTuple tu its) (hv : its[k]? = some v) (ne : en ≠ ti)
    (q : ∀ g, IsEnumOut g en ti ((k : Int) + 1) v s.heap.objs.size → g.IsTupleIter ti tu (k + 1) → g.get? s.heap.objs.size = some { cls := .type "tuple", data := .seq #[.int k s.toks, v] } → g.objs.size = s.heap.objs.size + 1 →
      (∀ b o, b ≠ en → b ≠ ti → s.heap.get? b = some o → g.get? b = some o) → Q (.ref s.heap.objs.size) { s with heap := g, toks := s.toks + 1 }) :
    wpAny (model prog w) A (Builtin.«enumerate.__next__» ⟨[.ref en], []⟩) (fun fin s' => ∃ r, fin = .done (.ret r) ∧ Q r s') E s := by
  obtain ⟨g0, gn, dr, tk, os⟩ := s
  show wpAny _ _ (field (.ref en) 2 >>= _) _ _ _; refine wpAny_bind (wpAny_field N rfl (x := .ref ti) rfl ?_); refine wpAny_bind (nextT_item I T hv fun g1 I1 S1 => ?_)
  replace S1 : Heap.SameBut ti g0 g1 := S1; have N1 : IsEnum g1 en ti k was := (S1.2 en ne).trans N
  show wpAny _ _ (field (.ref en) 3 >>= _) _ _ ⟨g1, gn, dr, tk, os⟩; refine wpAny_bind (wpAny_field N1 rfl (x := rawInt k) rfl ?_)
  show wpAny _ _ (field (.ref en) 4 >>= _) _ _ ⟨g1, gn, dr, tk, os⟩; refine wpAny_bind (wpAny_field N1 rfl (x := .none) rfl ?_)
  show wpAny _ _ (mkInt k >>= _) _ _ ⟨g1, gn, dr, tk, os⟩; refine wpAny_bind (wpAny_mkInt ?_)
  show wpAny _ _ (setField (.ref en) 3 (rawInt ((k : Int) + 1)) >>= _) _ _ ⟨g1, gn, dr, tk + 1, os⟩; refine wpAny_bind (wpAny_setField_rec N1 (by simp) fun g2 N2 S2 => ?_)
  replace S2 : Heap.SameBut en g1 g2 := S2; replace N2 : IsEnum g2 en ti ((k : Int) + 1) was := N2
  show wpAny _ _ (setField (.ref en) 4 .none >>= _) _ _ ⟨g2, gn, dr, tk + 1, os⟩; refine wpAny_bind (wpAny_setField_rec N2 (by simp) fun g3 N3 S3 => ?_)
  replace S3 : Heap.SameBut en g2 g3 := S3; replace N3 : IsEnum g3 en ti ((k : Int) + 1) was := N3
  show wpAny _ _ (newTuple [.int k tk, v] >>= _) _ _ ⟨g3, gn, dr, tk + 1, os⟩; refine wpAny_bind (wpAny_newTuple ?_)
  have N4 : IsEnum (g3.push { cls := .type "tuple", data := .seq #[.int k tk, v] }) en ti ((k : Int) + 1) was := Heap.get?_push_of_some _ N3
  generalize eg : g3.push { cls := .type "tuple", data := .seq #[.int k tk, v] } = g4 at N4
  have z3 : g3.objs.size = g0.objs.size := by rw [S3.1, S2.1, S1.1]
  have lt : en < g0.objs.size := Heap.lt_size N
  have t4 : g4.get? g0.objs.size = some { cls := .type "tuple", data := .seq #[.int k tk, v] } := by rw [← eg, ← z3]; exact Heap.get?_push_size _ rfl
  have z4 : g4.objs.size = g0.objs.size + 1 := by rw [← eg, Heap.size_push, z3]
  have k4 : ∀ b o, b ≠ en → b ≠ ti → g0.get? b = some o → g4.get? b = some o := fun b o h1 h2 h3 => by rw [← eg]; exact Heap.get?_push_of_some _ (S3.extBut b o h1 (S2.extBut b o h1 (S1.extBut b o h2 h3)))
  have i4 : g4.IsTupleIter ti tu (k + 1) := by rw [← eg]; obtain ⟨o, go, r⟩ := (I1.extBut S2.extBut (Ne.symm ne)).extBut S3.extBut (Ne.symm ne); exact ⟨o, Heap.get?_push_of_some _ go, r⟩
  show wpAny _ _ (Builtin.SmallTypes.ownedTupleIsFree (.ref en) >>= _) _ _ ⟨g4, gn, dr, tk + 1, os⟩; rw [z3]; clear eg N3 S3 N2 S2 N1 S1 I1 z3 g3 g2 g1
  refine wpAny_bind ?_; unfold Builtin.SmallTypes.ownedTupleIsFree; refine wpAny_bind (wpAny_field N4 rfl (x := .none) rfl (wpAny_pure ?_)); simp only [if_true]; refine wpAny_bind (wpAny_rule ?_)
  refine wpAny_bind (wpAny_field N4 rfl (x := was) rfl ?_); refine wpAny_bind (wpAny_setField_rec N4 (by simp) fun g5 N5 S5 => ?_)
  replace S5 : Heap.SameBut en g4 g5 := S5; replace N5 : IsEnum g5 en ti ((k : Int) + 1) v := N5
  show wpAny _ _ (Builtin.SmallTypes.ownedTupleHandOut (.ref en) (.ref g0.objs.size) >>= _) _ _ ⟨g5, gn, dr, tk + 1, os⟩
  refine wpAny_bind ?_; unfold Builtin.SmallTypes.ownedTupleHandOut; refine wpAny_bind (wpAny_setField_rec N5 (by simp) fun g6 N6 S6 => ?_)
  replace S6 : Heap.SameBut en g5 g6 := S6; replace N6 : IsEnumOut g6 en ti ((k : Int) + 1) v g0.objs.size := N6
  refine wpAny_setField_rec N6 (by simp) fun g7 N7 S7 => ?_; replace S7 : Heap.SameBut en g6 g7 := S7; replace N7 : IsEnumOut g7 en ti ((k : Int) + 1) v g0.objs.size := N7
  refine wpAny_bind (wpAny_letGo (wpAny_pure ⟨_, rfl, q g7 N7 (((i4.extBut S5.extBut (Ne.symm ne)).extBut S6.extBut (Ne.symm ne)).extBut S7.extBut (Ne.symm ne)) ?_ (by rw [S7.1, S6.1, S5.1, z4]) fun b o h1 h2 h3 => S7.extBut b o h1 (S6.extBut b o h1 (S5.extBut b o h1 (k4 b o h1 h2 h3)))⟩))
  exact S7.extBut _ _ (Nat.ne_of_gt lt) (S6.extBut _ _ (Nat.ne_of_gt lt) (S5.extBut _ _ (Nat.ne_of_gt lt) t4))
theorem pyNextE_item {en ti tu : Addr} {k : Nat} {its : Array Value} {v was : Value} {Q : Option Value → Shared → Prop} (N : IsEnum s.heap en ti k was) (I : s.heap.IsTupleIter ti tu k) (T : s.heap.IsTuple tu its) (hv : its[k]? = some v) (ne : en ≠ ti)
    (q : ∀ g, IsEnumOut g en ti ((k : Int) + 1) v s.heap.objs.size → g.IsTupleIter ti tu (k + 1) → g.get? s.heap.objs.size = some { cls := .type "tuple", data := .seq #[.int k s.toks, v] } → g.objs.size = s.heap.objs.size + 1 →
      (∀ b o, b ≠ en → b ≠ ti → s.heap.get? b = some o → g.get? b = some o) → Q (some (.ref s.heap.objs.size)) { s with heap := g, toks := s.toks + 1 }) : wpAny (model prog w) A (pyNext (.ref en)) Q E s := by
  have ty : s.TypeIs (.ref en) "enumerate" := ⟨_, N, rfl⟩
  unfold pyNext; exact wpAny_bind (wpAny_attempt (wpAny_callSpecial?_slot (name := Str.ofString "__next__") ty F.slot_enumerate_next (wpAny_call_entry F.slot_enumerate_next ty F.entry_enumerate_next (enumT_next N I T hv ne fun g a b c d k => wpAny_pure (q g a b c d k)) (F.args_enumerate_next_1 _))))
theorem pyNextE_end {en ti tu : Addr} {k : Nat} {its : Array Value} {was : Value} {Q : Option Value → Shared → Prop} (nh : A.handled = none) (N : IsEnum s.heap en ti k was) (I : s.heap.IsTupleIter ti tu k) (T : s.heap.IsTuple tu its) (hv : its[k]? = none)
    (q : ∀ g, Heap.ExtBut ti s.heap g → Q none { s with heap := g }) : wpAny (model prog w) A (pyNext (.ref en)) Q E s := by
  have ty : s.TypeIs (.ref en) "enumerate" := ⟨_, N, rfl⟩
  unfold pyNext; refine wpAny_bind (wpAny_attempt (wpAny_callSpecial?_slot (name := Str.ofString "__next__") ty F.slot_enumerate_next (wpAny_call_entry F.slot_enumerate_next ty F.entry_enumerate_next ?_ (F.args_enumerate_next_1 _))))
  show wpAny _ _ (field (.ref en) 2 >>= _) _ _ _; refine wpAny_bind (wpAny_field N rfl (x := .ref ti) rfl ?_)
  refine wpAny_bind (nextT_end nh I T hv fun g x eb hx => ?_); obtain ⟨o, go, co⟩ := hx
  refine wpAny_bind (wpAny_isInstance (T := "StopIteration") (b := true) ⟨o, go, co⟩ isSubtype_stop ?_); exact wpAny_pure (q _ eb)
theorem meetsE_new (tu : Addr) (its : Array Value) (n : Nat) (dc : Option Addr) (sl : Array (Option Value)) :
    Meets (Builtin.«enumerate.__new__» ⟨[.type "enumerate", .ref tu], []⟩) (fun ψ R s => s.heap.get? tu = some { cls := .type "tuple", dict := dc, data := .seq its n, slots := sl } ∧
      R (.ok (.ret (.ref (s.heap.push { cls := .type "tuple_iterator", data := .fields #[.ref tu, .int 0 0] }).objs.size)))
        { s with heap := (s.heap.push { cls := .type "tuple_iterator", data := .fields #[.ref tu, .int 0 0] }).push { cls := .type "enumerate", data := .fields #[.none, .bool false, .ref s.heap.objs.size, rawInt 0, .none, .none] } }) :=
  .of_wp fun prog w A R s h => by
    obtain ⟨g0, gn, dr, tk, os⟩ := s; obtain ⟨gt, h⟩ := h; have sb := sub_enumerate
    have T : Heap.IsTuple (Shared.heap ⟨g0, gn, dr, tk, os⟩) tu its := ⟨_, gt, rfl, n, rfl⟩
    wp_walk using AutoSeq1.wpAny_loadPart' gt
    refine wpAny_stack_any fun st => wpAny_pure ?_
    split
    · rename_i c _ _ _ _ _
      cases (c == Value.type "enumerate") <;> (wp_walk using AutoSeq1.wpAny_loadPart' gt, wpAny_pyIter_tuple T; exact ⟨_, rfl, h⟩)
    · wp_walk using AutoSeq1.wpAny_loadPart' gt, wpAny_pyIter_tuple T; exact ⟨_, rfl, h⟩
theorem callE_tup {tu : Addr} {its : Array Value} {Q : L2.VSP} (T : s.heap.IsTuple tu its)
    (q : ∀ g, IsEnum g (s.heap.objs.size + 1) s.heap.objs.size 0 .none → g.IsTupleIter s.heap.objs.size tu 0 → g.objs.size = s.heap.objs.size + 2 → (∀ b o, s.heap.get? b = some o → g.get? b = some o) → Q (.ref (s.heap.objs.size + 1)) { s with heap := g }) :
    wpAny (model prog w) A (call (.type "enumerate") [.ref tu]) Q E s := by
  obtain ⟨⟨c, dc, dt, sl⟩, gt, hc, n, hd⟩ := T; replace hc : c = .type "tuple" := hc; replace hd : dt = .seq its n := hd; subst hc hd
  refine callType_new F.called_enumerate (by decide) (F.typeCall_enumerate_1 _) (F.newCall_enumerate_1 _) (fun obj => F.args_object_init_2 obj _) F.entry_enumerate_new (meetsE_new tu its n dc sl) ⟨gt, ?_⟩
  have z : (s.heap.push { cls := .type "tuple_iterator", data := .fields #[.ref tu, .int 0 0] }).objs.size = s.heap.objs.size + 1 := Heap.size_push ..
  show _ ∧ _; rw [z]
  have N : IsEnum ((s.heap.push { cls := .type "tuple_iterator", data := .fields #[.ref tu, .int 0 0] }).push { cls := .type "enumerate", data := .fields #[.none, .bool false, .ref s.heap.objs.size, rawInt 0, .none, .none] }) (s.heap.objs.size + 1) s.heap.objs.size 0 .none := by
    have y := Heap.get?_push_size (s.heap.push { cls := .type "tuple_iterator", data := .fields #[.ref tu, .int 0 0] }) (o := { cls := .type "enumerate", data := .fields #[.none, .bool false, .ref s.heap.objs.size, rawInt 0, .none, .none] }) rfl
    rw [z] at y; exact y
  exact ⟨⟨_, N, rfl⟩, q _ N ⟨_, Heap.get?_push_of_some _ (Heap.get?_push_size _ rfl), rfl, rfl⟩ (by rw [Heap.size_push, z]) fun b o x => Heap.get?_push_of_some _ (Heap.get?_push_of_some _ x)⟩
end
section
variable {X : Cx} {pins : List (Addr × Obj)} {σ : St} {H : Hp} {s : Shared} {h' : Heap}
theorem Inv.turnedL {t' : Nat} {fp : List Addr} (I : Inv X pins σ H s) (k : ∀ b o, b ∉ fp → s.heap.get? b = some o → h'.get? b = some o) (hf : ∀ b ∈ fp, FpOk X pins H b) : Inv X pins σ H { s with heap := h', toks := t' } := by
  have nf : ∀ b u, H b = some u → b ∉ fp := fun b u e z => by rw [(hf b z).1] at e; cases e
  refine I.step (g' := s.gens) (d' := s.drawn) (ch := fp) (fun b hb => ⟨(hf b hb).2.2.2.1, (hf b hb).2.1, (hf b hb).2.2.2.2.1, (hf b hb).2.2.2.2.2⟩) (fun b o ψ ψ hc e ψ => k b o hc e) (fun b o ψ ψ hc e ψ => ⟨o.slots, k b o hc e⟩) (fun ψ ψ ψ ψ n => n)
    (fun b o hc e => ⟨o, k b o hc e⟩) (fun ψ ψ e => e) (fun ψ ψ ψ e => e) (fun b ps e => ⟨#[], by rw [e]; simp⟩) (fun m hm => ?_) (fun b u e => ?_) I.bare
  · obtain ⟨o, es, ep, ho, r⟩ := hm; exact ⟨o, es, ep, k _ o (fun z => (hf _ z).2.1 rfl) ho, r⟩
  · refine (I.hok b u e).stay (fun c v hc q => k c v ?_ q) (fun ψ q => q) fun ψ ψ q => q
    rcases hc with z | z
    · rw [z]; exact nf b u e
    · exact nf c _ z
theorem Inv.adoptT {fp : List Addr} {t' : Nat} {vs : List V} {us : List Value} {n : Nat} (I : Inv X pins σ H s) (k : ∀ b o, b ∉ fp → s.heap.get? b = some o → h'.get? b = some o) (hf : ∀ b ∈ fp, FpOk X pins H b)
    (ht : ∃ o, h'.get? s.heap.objs.size = some o ∧ o.cls = .type "tuple" ∧ ∃ n, o.data = .seq us.toArray n) (r : Vals vs us) (hl : vs.length ≤ sizeLine) : H s.heap.objs.size = none ∧ Inv X pins σ (upd H s.heap.objs.size (.tup vs)) { s with heap := h', toks := t' } := by
  have I1 := I.turnedL (t' := t') k hf
  have hn : H s.heap.objs.size = none := I.hok.fresh (Nat.le_refl _)
  have lt : ∀ {b : Addr} {o : Obj}, s.heap.get? b = some o → s.heap.objs.size ≠ b := fun e z => absurd (Heap.lt_size e) (by rw [← z]; exact Nat.lt_irrefl _)
  refine ⟨hn, I1.adoptX hn ?_ ?_ (fun x c e z => ?_) (fun p hp z => ?_) ⟨hl, us, r, ht⟩⟩
  · cases z : X.s₀.heap.get? s.heap.objs.size with
    | none => rfl
    | some o => exact absurd (Nat.lt_of_lt_of_le (Heap.lt_size z) I.sz) (Nat.lt_irrefl _)
  · intro z; exact absurd I.lt (by rw [← z]; exact Nat.lt_irrefl _)
  · obtain ⟨v, q⟩ := I.cell x c e; exact absurd q.lt (by rw [z]; exact Nat.lt_irrefl _)
  · exact lt (I.pin p hp).1 z.symm
end
noncomputable def Ite (K : PySem.W.Frag) (a : Addr) : It :=
  ⟨fun i H => ∃ xs x, SqT K H a xs ∧ xs[i]? = some x, fun i H v H' => ∃ p x, H p = none ∧ v = .ref p ∧ (∀ xs, SqT K H a xs → xs[i]? = some x) ∧ H' = upd H p (.tup [.int i, x]), fun i H => ∃ xs, SqT K H a xs ∧ xs.length ≤ i⟩
theorem turn_enum {P : Program} {w : World} {K : PySem.W.Frag} {es : List Expr} {x1 : Nat} {pos : Pos} (a en it : Addr) (ne : en ≠ it) : Turn P w K (.Tuple es x1 pos) (Ite K a) [en, it] en (fun i h => (∃ was, IsEnum h en it i was) ∧ h.IsTupleIter it a i) where
  mem := by simp
  obj := fun i h st b hb => by
    obtain ⟨⟨was, N⟩, o, go, c, d⟩ := st
    rcases List.mem_cons.mp hb with z | z
    · subst z; exact ⟨_, N, fun v z => by cases z⟩
    · have z2 := List.mem_singleton.mp z
      subst z2; exact ⟨o, go, fun v z => by rw [d] at z; cases z⟩
  keep := fun i h h' st k => by
    obtain ⟨⟨was, N⟩, o, go, r⟩ := st
    exact ⟨⟨was, k en (by simp) _ N⟩, o, k it (by simp) o go, r⟩
  item := by
    intro X hP hw hK hc i pins s σ H E I hf st hg
    subst hP hw hK
    obtain ⟨xs, x, hq, hx⟩ := hg
    obtain ⟨its, rv, p, hz⟩ := I.tuple hq
    obtain ⟨u, hu, ru⟩ := rv.get hx
    obtain ⟨⟨was, N⟩, J⟩ := st
    refine pyNextE_item N J (show s.heap.IsTuple a its.toArray from p) (v := u) (by simpa using hu) ne fun g N1 J1 t1 z1 k1 => ?_
    refine ⟨_, rfl, wpAny_letOwnedTupleGo_enum (s := { s with heap := g, toks := s.toks + 1 }) N1 fun g2 N2 S2 => ?_⟩
    have lt : en < s.heap.objs.size := Heap.lt_size N
    have k2 : ∀ b o, b ∉ [en, it] → s.heap.get? b = some o → g2.get? b = some o := fun b o hb e => (S2.2 b fun z => hb (by simp [z])).trans (k1 b o (fun z => hb (by simp [z])) (fun z => hb (by simp [z])) e)
    obtain ⟨hn, I2⟩ := I.adoptT (h' := g2) (t' := s.toks + 1) (fp := [en, it]) (vs := [.int i, x]) (us := [.int i s.toks, u]) (n := 0) k2 hf ⟨_, (S2.2 _ (Nat.ne_of_gt lt)).trans t1, rfl, _, rfl⟩ (.cons ⟨_, rfl⟩ (.cons ru .nil)) (by show 2 ≤ sizeLine; decide)
    refine ⟨.ref _, _, I2, rfl, ⟨_, x, hn, rfl, fun ys hy => by rw [I.tuple_inj hy hq]; exact hx, rfl⟩, ⟨⟨u, by simpa using N2⟩, ?_⟩, fun b hb => ?_⟩
    · obtain ⟨o, go, r⟩ := J1; exact ⟨o, (S2.2 it (Ne.symm ne)).trans go, r⟩
    · have ltb : b ≠ s.heap.objs.size := by
        obtain ⟨oi, gi, _⟩ := J
        rcases List.mem_cons.mp hb with z | z
        · rw [z]; exact Nat.ne_of_lt lt
        · rw [List.mem_singleton.mp z]; exact Nat.ne_of_lt (Heap.lt_size gi)
      rw [upd_ne ltb]; exact (hf b hb).1
  done := by
    intro X hP hw hK hc i pins s σ H E I hf st hg
    subst hP hw hK
    obtain ⟨xs, hq, hx⟩ := hg
    obtain ⟨its, rv, p, hz⟩ := I.tuple hq
    obtain ⟨⟨was, N⟩, J⟩ := st
    have hl := rv.length
    refine pyNextE_end (I.ok.hd hc) N J (show s.heap.IsTuple a its.toArray from p) (by simp; omega) fun g eb => ⟨rfl, I.turnedL (t' := s.toks) (fp := [en, it]) (fun b o hb e => eb b o (fun z => hb (by simp [z])) e) hf⟩
  self := fun ψ ψ ψ ψ ψ st h => by
    obtain ⟨⟨was, N⟩, _⟩ := st
    exact wpAny_pyIter_enum N h
noncomputable def iEnum (K : PySem.W.Frag) (ta : TA) : TI := fun σ H R => ta σ H fun vs H1 => ∃ a, vs = [.ref a] ∧ (∃ xs, SqT K H1 a xs) ∧ R (Ite K a) H1
section
variable {X : Cx}
theorem pi_enumerate {a : Expr} {ta : TA} {p pos tp : Pos} {es : List Expr} {x1 : Nat} (hg : Gl X "enumerate") (hm : X.mg "enumerate" = none) (ha : PA X [a] ta) (hs : starEach [a] X.env = [(false, eval a X.env)] := by rfl) :
    PI X (.Tuple es x1 tp) (.Call (.Name "enumerate" p) [a] [] pos) (iEnum X.K ta) := by
  intro pins s σ H R I h
  refine Call_ (ld_blt I hg hm boot_enumerate (PyProof.Rows.callWith_type1 (thn (ha pos pins s σ H _ I h) fun us s1 ⟨vs, H1, I1, r1, q1⟩ => ?_) hs rfl))
  obtain ⟨t, e, ⟨xs, hq⟩, q⟩ := q1
  subst e
  cases r1 with
  | cons r rr =>
    cases rr
    cases r
    obtain ⟨its, rv, pt, hz⟩ := I1.tuple hq
    refine callE_tup (show s1.heap.IsTuple t its.toArray from pt) fun g N J z k => wpAny_pyIter_enum (s := { s1 with heap := g }) N ?_
    refine ⟨s1.heap.objs.size + 1, [s1.heap.objs.size + 1, s1.heap.objs.size], _, _, H1, rfl, I1.kept (t' := s1.toks) fun b o e => k b o e, turn_enum t _ _ (Nat.succ_ne_self _), ⟨⟨_, N⟩, J⟩, fun b hb => ?_, q⟩
    have le : s1.heap.objs.size ≤ b := by
      rcases List.mem_cons.mp hb with z | z
      · rw [z]; exact Nat.le_succ _
      · rw [List.mem_singleton.mp z]; exact Nat.le_refl _
    exact I1.fpOk le (I1.hok.fresh le)
end
section
variable {K : PySem.W.Frag} {ta : TA} {g : TG} {tb : TS} {D : Ends} {σ : St} {H : Hp}
end
section
variable {prog : Program} {w : World} {A : Around} {E : L2.VSP} {s : Shared}
end
theorem boot_zip : bootBuiltins "zip" = some (.type "zip") := by decide +kernel
section
variable {X : Cx}
end
section
variable {K : PySem.W.Frag} {ta : TA} {k : Nat} {js : List Nat} {g : TG} {tc : TT} {te : TE} {σ : St} {H : Hp} {Q : VK}
end
theorem addT0 (t b : Addr) (xs ys : Array Value) (n n2 : Nat) (dd dd2 : Option Addr) (sl sl2 : Array (Option Value)) (h0 : xs.isEmpty = true) :
    Meets (Builtin.«tuple.__add__» ⟨[.ref t, .ref b], []⟩) (fun ψ R s => s.heap.get? t = some ⟨.type "tuple", dd, .seq xs n, sl⟩ ∧ s.heap.get? b = some ⟨.type "tuple", dd2, .seq ys n2, sl2⟩ ∧ R (.ok (.ret (.ref b))) s) :=
  .of_wp fun prog w A R s h => by
    obtain ⟨g0, gn, dr, tk, os⟩ := s; obtain ⟨e1, e2, h⟩ := h; have sb := AutoSeq1.sub_tuple_tuple
    wp_walk using AutoSeq1.wpAny_loadPart' e1, AutoSeq1.wpAny_loadPart' e2; exact ⟨_, rfl, h⟩
section
variable {X : Cx} {K : PySem.W.Frag} {H : Hp} {Q : VK}
theorem noFill_tuple_mul : fillsNumberSlot (.type "tuple") "mul" = pure false := PySem.fillsNumberSlot_seq (id := "tuple.__mul__") (r := some (.builtin "tuple.__rmul__")) F.slot_tuple_mul.lookup (by decide +kernel) F.slot_tuple_rmul.lookup (by decide +kernel)
theorem repeat_tuple : seqRepeat? (.type "tuple") = pure (some (.builtin "tuple.__mul__")) := by
  unfold seqRepeat?; rw [PySem.seqSlot_of (T := "tuple") (name := "__mul__") (id := "tuple.__mul__") F.slot_tuple_mul.lookup (by decide +kernel), PySem.seqSlot_of (T := "tuple") (name := "__rmul__") (id := "tuple.__rmul__") F.slot_tuple_rmul.lookup (by decide +kernel)]; rfl
theorem rmulT (k : Int) (t : Tok) (l : Addr) (xs : Array Value) (n : Nat) (dd : Option Addr) (sl : Array (Option Value)) :
    Meets (Builtin.«int.__rmul__» ⟨[.int k t, .ref l], []⟩) (fun ψ R s => s.heap.get? l = some ⟨.type "tuple", dd, .seq xs n, sl⟩ ∧ R (.ok (.ret Value.notImplemented)) s) :=
  .of_wp fun prog w A R s h => by obtain ⟨g0, gn, dr, tk, os⟩ := s; obtain ⟨e1, h⟩ := h; wp_walk using AutoSeq1.wpAny_loadPart' e1; exact ⟨_, rfl, h⟩
theorem mulT1 (k : Int) (t : Tok) (l : Addr) (x : Value) (n : Nat) (dd : Option Addr) (sl : Array (Option Value)) (hk : k = 1) :
    Meets (Builtin.«tuple.__mul__» ⟨[.ref l, .int k t], []⟩) (fun ψ R s => s.heap.get? l = some ⟨.type "tuple", dd, .seq #[x] n, sl⟩ ∧ R (.ok (.ret (.ref l))) s) :=
  .of_wp fun prog w A R s h => by subst hk; obtain ⟨g0, gn, dr, tk, os⟩ := s; obtain ⟨e1, h⟩ := h; wp_walk using AutoSeq1.wpAny_loadPart' e1; exact ⟨_, rfl, h⟩
theorem mulT0 (k : Int) (t : Tok) (l : Addr) (x : Value) (n : Nat) (dd : Option Addr) (sl : Array (Option Value)) (c1 : (decide (k < -2 ^ 63) || decide (k ≥ 2 ^ 63)) = false) (c2 : ((#[x] : Array Value).isEmpty || k == 1) = false) (c3 : (decide (k ≤ 0) || (#[x] : Array Value).isEmpty) = true) :
    Meets (Builtin.«tuple.__mul__» ⟨[.ref l, .int k t], []⟩) (fun ψ R s => s.heap.get? l = some ⟨.type "tuple", dd, .seq #[x] n, sl⟩ ∧ R (.ok (.ret (.ref s.heap.objs.size))) { s with heap := s.heap.push { cls := .type "tuple", data := .seq #[] } }) :=
  .of_wp fun prog w A R s h => by
    obtain ⟨g0, gn, dr, tk, os⟩ := s; obtain ⟨e1, h⟩ := h; have f1 := AutoSeq1.idx_int; have sb := AutoSeq1.sub_tuple_tuple
    wp_walk using AutoSeq1.wpAny_loadPart' e1
    refine wpAny_ite_false (by rw [c1]; rfl) ?_
    wp_walk using AutoSeq1.wpAny_loadPart' e1
    refine wpAny_ite_false (by rw [c2]; rfl) ?_
    wp_walk using AutoSeq1.wpAny_loadPart' e1
    refine wpAny_ite_true (by rw [c3]; rfl) ?_
    wp_walk using AutoSeq1.wpAny_loadPart' e1
    exact ⟨_, rfl, h⟩
theorem mulT2 (k : Int) (t : Tok) (l : Addr) (x : Value) (n : Nat) (dd : Option Addr) (sl : Array (Option Value)) (c1 : (decide (k < -2 ^ 63) || decide (k ≥ 2 ^ 63)) = false) (c2 : ((#[x] : Array Value).isEmpty || k == 1) = false) (c3 : (decide (k ≤ 0) || (#[x] : Array Value).isEmpty) = false)
    (c4 : ¬ (((#[x] : Array Value).size : Int) * k > (2 ^ 63 - 1) / 8)) (c5 : Builtin.Tuple.tupleTooMany (((#[x] : Array Value).size : Int) * k) = false) (c6 : ((List.replicate k.toNat (#[x] : Array Value)).foldl (· ++ ·) #[]).size ≤ sizeLine) :
    Meets (Builtin.«tuple.__mul__» ⟨[.ref l, .int k t], []⟩) (fun ψ R s => s.heap.get? l = some ⟨.type "tuple", dd, .seq #[x] n, sl⟩ ∧ R (.ok (.ret (.ref s.heap.objs.size))) { s with heap := s.heap.push { cls := .type "tuple", data := .seq ((List.replicate k.toNat (#[x] : Array Value)).foldl (· ++ ·) #[]) } }) :=
  .of_wp fun prog w A R s h => by
    obtain ⟨g0, gn, dr, tk, os⟩ := s; obtain ⟨e1, h⟩ := h; have f1 := AutoSeq1.idx_int; have sb := AutoSeq1.sub_tuple_tuple
    wp_walk using AutoSeq1.wpAny_loadPart' e1
    refine wpAny_ite_false (by rw [c1]; rfl) ?_
    wp_walk using AutoSeq1.wpAny_loadPart' e1
    refine wpAny_ite_false (by rw [c2]; rfl) ?_
    wp_walk using AutoSeq1.wpAny_loadPart' e1
    refine wpAny_ite_false (by rw [c3]; rfl) ?_
    wp_walk using AutoSeq1.wpAny_loadPart' e1
    refine wpAny_ite_false (decide_eq_false c4) ?_
    wp_walk using AutoSeq1.wpAny_loadPart' e1
    first
      | (refine wpAny_ite_false (by rw [c5]; rfl) ?_; wp_walk using AutoSeq1.wpAny_loadPart' e1; exact ⟨_, rfl, h⟩)
      | exact ⟨_, rfl, h⟩
theorem fold_one (u : Value) : ∀ (m : Nat) (acc : Array Value), (List.replicate m (#[u] : Array Value)).foldl (fun x1 x2 => x1 ++ x2) acc = acc ++ (List.replicate m u).toArray
  | 0, acc => by simp
  | m + 1, acc => by rw [List.replicate_succ, List.foldl_cons, fold_one u m]; apply Array.ext'; simp [List.replicate_succ]
theorem vals_rep {v : V} {u : Value} (r : RelV v u) : ∀ m : Nat, Vals (List.replicate m v) (List.replicate m u)
  | 0 => .nil
  | m + 1 => .cons r (vals_rep r m)
theorem getT_whole {prog : Program} {w : World} {A : Around} {E : L2.VSP} {s : Shared} {t sl : Addr} {items : Array Value} {vl vu : Value} {lo hi : Option Int} {Q : L2.VSP} (ht : IsTup s.heap t items) (hs : s.heap.IsSliceOf sl vl vu .none) (pl : IsPart vl lo) (pu : IsPart vu hi)
    (hw : HT.sIx items.size 0 lo = 0 ∧ HT.sIx items.size items.size hi = items.size) (h : Q (.ref t) s) : wpAny (model prog w) A (getItem (.ref t) (.ref sl)) Q E s := by
  obtain ⟨os, hos, hcs, hds⟩ := id hs; have ts : s.TypeIs (.ref sl) "slice" := ⟨os, hos, hcs⟩
  unfold getItem; (try with_reducible refine wpAny_holding ?_); (first | refine wpAny_bind (wpAny_pure ?_) | skip); refine wpAny_bind (wpAny_sequenceKey ht.typeIs (by decide) ?_)
  refine wpAny_bind (wpAny_callSpecial?_slot (name := Str.ofString "__getitem__") ht.typeIs PyProof.Rows.slot_tuple_getitem (wpAny_call_entry PyProof.Rows.slot_tuple_getitem ht.typeIs entry_tuple_getitem ?_ (args_tuple_getitem _ _)))
  show wpAny _ _ (Builtin.Tuple.tupleItemsOf (.ref t) >>= _) _ _ s; refine wpAny_bind (tupleItemsOf_ ht ?_); refine wpAny_bind (wpAny_typeOf ts ?_); rw [if_pos (by decide)]
  refine wpAny_bind (HT.sliceApplied_gen hs pl pu ?_)
  show wpAny _ _ (if (((HT.sIx items.size 0 lo : Nat) : Int) == 0 && (1 : Int) == 1 && (HT.sIx items.size items.size hi - HT.sIx items.size 0 lo) == items.size) = true then _ else _) _ _ s
  rw [if_pos (by rw [hw.1, hw.2]; simp)]
  unfold Builtin.Tuple.tupleIsExact
  refine wpAny_bind (wpAny_bind (wpAny_typeOf ht.typeIs (wpAny_pure ?_)))
  rw [if_pos (by decide)]
  refine wpAny_bind (wpAny_rule ?_)
  first
    | exact wpAny_pure ⟨_, rfl, wpAny_pure h⟩
    | exact wpAny_bind (wpAny_pure (wpAny_pure ⟨_, rfl, wpAny_pure h⟩))
noncomputable def rSlW (K : PySem.W.Frag) : V → Option Int → Option Int → Hp → VK → Prop := fun x lo hi H Q => ∃ a xs, x = .ref a ∧ SqT K H a xs ∧ (HT.sIx xs.length 0 lo = 0 ∧ HT.sIx xs.length xs.length hi = xs.length) ∧ Q (.ref a) H
theorem sl_wholeT : SlR X (rSlW X.K) := by
  intro pins s σ H x v vl vu lo hi sl Q I rx hs pl pu h
  obtain ⟨a, xs, rfl, hx, hw, q⟩ := h
  cases rx
  obtain ⟨its, r, ht, hz⟩ := I.tuple hx
  have hlen : its.toArray.size = xs.length := by rw [List.size_toArray]; exact r.length.symm
  exact ⟨"tuple", _, PyProof.Rows.slot_tuple_getitem.lookup, ht.typeIs, getT_whole ht hs pl pu (by rw [hlen]; exact hw) ⟨.ref a, H, I, rfl, q⟩⟩
end
section
variable {K : PySem.W.Frag} {tl : TE} {k : Nat} {js : List Nat} {g : TG} {tc : TT} {te : TE} {σ : St} {H : Hp} {Q : VK}
end
theorem pg_tupK {X : Cx} {K : PySem.W.Frag} {es : List Expr} {k : Nat} {t : TGs} {n : Nat} {pos : Pos} (hK : X.K = K) (hc : X.calm = true) (h : PGs X es t) (hn : (assignEach es X.env).length = n := by rfl) (hst : (assignEach es X.env).findIdx? (·.1) = none := by rfl) : PG X (.Tuple es k pos) (gTup K n t) :=
  hK ▸ pg_tup hc h hn hst
section
variable {X : Cx} {K : PySem.W.Frag}
variable {D : Ends} {σ : St} {H : Hp} {i j : Nat} {te : TE}
end
section
variable {prog : Program} {w : World} {A : Around} {E : L2.VSP} {s : Shared}
end
section
variable {X : Cx} {e se : Expr} {te : TE} {ts : TO} {p2 pos : Pos} {K : PySem.W.Frag} {σ : St} {H : Hp} {Q : VK}
end
section
variable {X : Cx} {K : PySem.W.Frag} {H : Hp} {Q : VK}
theorem any_at : ∀ (bs : List Bool), ((List.range bs.length).any fun i => (bs[i]?).getD false) = bs.any id
  | [] => rfl
  | b :: r => by
    rw [List.length_cons, List.range_succ_eq_map, List.any_cons, List.any_map, List.any_cons, ← any_at r]
    rfl
noncomputable def rAny (K : PySem.W.Frag) : List V → Hp → VK → Prop := fun xs H Q => ∃ (p : Addr) (bs : List Bool), xs = [.ref p] ∧ SqL K H p (bs.map V.bl) ∧ Q (.bl (bs.any id)) H
theorem call_anyL (hc : X.calm = true) : CallR X (.builtin "any") (rAny X.K) := by
  intro pins s σ H xs us Q I r h
  obtain ⟨p, bs, rfl, hq, q⟩ := h
  obtain ⟨u, rfl, ru⟩ := vals1 r
  cases ru
  obtain ⟨its, rv, pl, hz⟩ := I.list hq
  have ei := vals_bls rv
  subst ei
  have lt : p < s.heap.objs.size := by obtain ⟨o, e, _⟩ := pl.isList; exact Heap.lt_size e
  refine call_any_walk (wpAny_pyIter_list pl.isList ?_)
  refine ⟨s.heap.objs.size, [s.heap.objs.size, p], [s.heap.objs.size], (bs.map Value.bool).toArray.size, _, _, fun i => (bs[i]?).getD false, rfl, Walks.list (A := X.A.in1) (I.ok.hd hc) _ p (Nat.ne_of_lt lt) (bs.map Value.bool).toArray,
    ⟨⟨_, Heap.get?_push_size _ rfl, rfl, rfl⟩, pl.isList.push _⟩, fun i v s' Q' E' hP hQ => ?_, fun h' tk hk => ?_⟩
  · have hP' : (bs.map Value.bool)[i]? = some v := by simpa using hP
    rw [List.getElem?_map] at hP'
    cases e : bs[i]? with
    | none => rw [e] at hP'; cases hP'
    | some b =>
      rw [e] at hP'
      cases hP'
      simp only [e, Option.getD_some] at hQ
      exact wpAny_truthy_bool hQ
  · have e : ((List.range (bs.map Value.bool).toArray.size).any fun i => (bs[i]?).getD false) = bs.any id := by
      rw [List.size_toArray, List.length_map]; exact any_at bs
    rw [e]
    refine ⟨.bl _, H, I.kept (t' := tk) fun b o e => hk b o (fun hm => ?_) (Heap.get?_push_of_some _ e), rfl, q⟩
    rw [List.mem_singleton.mp hm] at e
    exact Nat.lt_irrefl _ (Heap.lt_size e)
end
theorem call_lstK {X : Cx} {K : PySem.W.Frag} (h : X.K = K) : CallR X (.type "list") (rLstOf K) := h ▸ call_lstA
theorem call_tupK {X : Cx} {K : PySem.W.Frag} (h : X.K = K) : CallR X (.type "tuple") (rTupOf K) := h ▸ call_tupA
inductive U where
  | non | bl (b : Bool) | int (i : Int) | str (x : Str) | ty (n : String) | nm (x : Str) | exc (c : Str) (pl : Option Int) | pile
  | tup (xs : List U) | lst (xs : List U) | scr (ns : List Int) | dic (ks vs : List U)
structure Om where
  cs : List Int
  rs : List Int
structure Wd where
  K : PySem.W.Frag
  mg : Str → Option Value
  pa : Addr
  L : List Addr
  pl : Om → Hp → Prop
  st : ∀ ω H H', pl ω H → (∀ b o, H b = some o → (b ∈ L ∨ ∃ x y, o = .frz x y) → H' b = some o) → pl ω H'
noncomputable def kU : Key → U
  | .inl i => .int i
  | .inr x => .str x
noncomputable def excD (e C d : Addr) : HO := .ext fun h => ∃ o, h.get? e = some o ∧ o.cls = .ref C ∧ o.dict = some d ∧ PySem.W.notCls o = true
mutual
noncomputable def RU (W : Wd) (H : Hp) : U → V → Prop
  | .non, v => v = .non
  | .bl b, v => v = .bl b
  | .int i, v => v = .int i
  | .str x, v => v = .str x
  | .ty n, v => v = .ty n
  | .nm x, v => ∃ a, v = .ref a ∧ W.mg x = some (.ref a)
  | .exc c none, v => ∃ a C, v = .ref a ∧ W.mg c = some (.ref C) ∧ H a = some (excO a C)
  | .exc c (some n), v => ∃ a C d, v = .ref a ∧ W.mg c = some (.ref C) ∧ H a = some (excD a C d) ∧ H d = some (.xd [("place", .int n)])
  | .pile, v => v = .ref W.pa
  | .tup xs, v => ∃ a vs, v = .ref a ∧ H a = some (.tup vs) ∧ RUs W H xs vs
  | .lst xs, v => ∃ a vs, v = .ref a ∧ H a = some (.lst vs) ∧ RUs W H xs vs
  | .scr ns, v => ∃ a, v = .ref a ∧ SqL W.K H a (ns.map V.int)
  | .dic ks vs, v => ∃ a kvs, v = .ref a ∧ H a = some (.dK kvs) ∧ ks = kvs.map (fun p => kU p.1) ∧ RUs W H vs (kvs.map (·.2))
noncomputable def RUs (W : Wd) (H : Hp) : List U → List V → Prop
  | [], vs => vs = []
  | u :: us, vs => ∃ v r, vs = v :: r ∧ RU W H u v ∧ RUs W H us r
end
mutual
theorem RU.mono {W : Wd} {H H' : Hp} (s : Same H H') : ∀ {u : U} {v : V}, RU W H u v → RU W H' u v
  | .non, _, h => by rw [RU] at h ⊢; exact h
  | .bl _, _, h => by rw [RU] at h ⊢; exact h
  | .int _, _, h => by rw [RU] at h ⊢; exact h
  | .str _, _, h => by rw [RU] at h ⊢; exact h
  | .ty _, _, h => by rw [RU] at h ⊢; exact h
  | .nm _, _, h => by rw [RU] at h ⊢; exact h
  | .exc _ none, _, h => by rw [RU] at h ⊢; obtain ⟨a, C, e, m, q⟩ := h; exact ⟨a, C, e, m, s _ _ q⟩
  | .exc _ (some _), _, h => by rw [RU] at h ⊢; obtain ⟨a, C, d, e, m, q, r⟩ := h; exact ⟨a, C, d, e, m, s _ _ q, s _ _ r⟩
  | .pile, _, h => by rw [RU] at h ⊢; exact h
  | .tup xs, _, h => by rw [RU] at h ⊢; obtain ⟨a, vs, e, q, r⟩ := h; exact ⟨a, vs, e, s _ _ q, RUs.mono s r⟩
  | .lst xs, _, h => by rw [RU] at h ⊢; obtain ⟨a, vs, e, q, r⟩ := h; exact ⟨a, vs, e, s _ _ q, RUs.mono s r⟩
  | .scr ns, _, h => by rw [RU] at h ⊢; obtain ⟨a, e, q⟩ := h; exact ⟨a, e, s.seq q⟩
  | .dic ks vs, _, h => by rw [RU] at h ⊢; obtain ⟨a, kvs, e, q, z, r⟩ := h; exact ⟨a, kvs, e, s _ _ q, z, RUs.mono s r⟩
theorem RUs.mono {W : Wd} {H H' : Hp} (s : Same H H') : ∀ {us : List U} {vs : List V}, RUs W H us vs → RUs W H' us vs
  | [], _, h => by rw [RUs] at h ⊢; exact h
  | u :: us, _, h => by rw [RUs] at h ⊢; obtain ⟨v, r, e, q, z⟩ := h; exact ⟨v, r, e, RU.mono s q, RUs.mono s z⟩
end
section
variable {W : Wd} {H : Hp}
theorem RUs.nil : RUs W H [] [] := by rw [RUs]
theorem RUs.cons {u : U} {us : List U} {v : V} {vs : List V} (h : RU W H u v) (t : RUs W H us vs) : RUs W H (u :: us) (v :: vs) := by rw [RUs]; exact ⟨v, vs, rfl, h, t⟩
theorem RUs.len : ∀ {us : List U} {vs : List V}, RUs W H us vs → us.length = vs.length
  | [], _, h => by rw [RUs] at h; subst h; rfl
  | _ :: us, _, h => by rw [RUs] at h; obtain ⟨v, r, e, _, z⟩ := h; subst e; simp [z.len]
theorem RUs.at {i : Nat} : ∀ {us : List U} {vs : List V} {u : U} {i : Nat}, RUs W H us vs → us[i]? = some u → ∃ v, vs[i]? = some v ∧ RU W H u v
  | [], _, _, _, _, e => by simp at e
  | _ :: us, _, u, 0, h, e => by rw [RUs] at h; obtain ⟨v, r, e', q, z⟩ := h; subst e'; simp at e; subst e; exact ⟨v, rfl, q⟩
  | _ :: us, _, u, i + 1, h, e => by rw [RUs] at h; obtain ⟨v, r, e', q, z⟩ := h; subst e'; obtain ⟨w, g, k⟩ := RUs.at (i := 0) z (show us[i]? = some u by simpa using e); exact ⟨w, by simpa using g, k⟩
theorem RUs.app : ∀ {us ws : List U} {vs xs : List V}, RUs W H us vs → RUs W H ws xs → RUs W H (us ++ ws) (vs ++ xs)
  | [], _, _, _, h, t => by rw [RUs] at h; subst h; exact t
  | _ :: us, _, _, _, h, t => by rw [RUs] at h; obtain ⟨v, r, e, q, z⟩ := h; subst e; exact .cons q (z.app t)
theorem RUs.one {u : U} {v : V} (h : RU W H u v) : RUs W H [u] [v] := .cons h .nil
theorem RUs.drop : ∀ {us : List U} {vs : List V} (n : Nat), RUs W H us vs → RUs W H (us.drop n) (vs.drop n)
  | _, _, 0, h => h
  | [], _, _ + 1, h => by rw [RUs] at h; subst h; exact .nil
  | _ :: us, _, n + 1, h => by rw [RUs] at h; obtain ⟨v, r, e, q, z⟩ := h; subst e; exact z.drop n
theorem RUs.take : ∀ {us : List U} {vs : List V} (n : Nat), RUs W H us vs → RUs W H (us.take n) (vs.take n)
  | _, _, 0, h => .nil
  | [], _, _ + 1, h => by rw [RUs] at h; subst h; exact .nil
  | _ :: us, _, n + 1, h => by rw [RUs] at h; obtain ⟨v, r, e, q, z⟩ := h; subst e; exact .cons q (z.take n)
theorem RUs.set : ∀ {us : List U} {vs : List V} {u : U} {v : V} (n : Nat), RUs W H us vs → RU W H u v → RUs W H (us.set n u) (vs.set n v)
  | [], _, _, _, _, h, _ => by rw [RUs] at h; subst h; exact .nil
  | _ :: us, _, _, _, 0, h, k => by rw [RUs] at h; obtain ⟨v, r, e, q, z⟩ := h; subst e; exact .cons k z
  | _ :: us, _, _, _, n + 1, h, k => by rw [RUs] at h; obtain ⟨v, r, e, q, z⟩ := h; subst e; exact .cons q (z.set n k)
theorem RUs.rep {u : U} {v : V} (h : RU W H u v) : ∀ n : Nat, RUs W H (List.replicate n u) (List.replicate n v)
  | 0 => .nil
  | n + 1 => .cons h (RUs.rep h n)
theorem RUs.ints : ∀ {ns : List Int} {vs : List V}, RUs W H (ns.map U.int) vs → vs = ns.map V.int
  | [], _, h => by rw [List.map_nil, RUs] at h; exact h
  | _ :: ns, _, h => by rw [List.map_cons, RUs] at h; obtain ⟨v, r, e, q, z⟩ := h; rw [RU] at q; rw [e, q, z.ints]; rfl
theorem RUs.bls : ∀ {ns : List Bool} {vs : List V}, RUs W H (ns.map U.bl) vs → vs = ns.map V.bl
  | [], _, h => by rw [List.map_nil, RUs] at h; exact h
  | _ :: ns, _, h => by rw [List.map_cons, RUs] at h; obtain ⟨v, r, e, q, z⟩ := h; rw [RU] at q; rw [e, q, z.bls]; rfl
theorem RUs.ofInts : ∀ {ns : List Int}, RUs W H (ns.map U.int) (ns.map V.int)
  | [] => .nil
  | _ :: ns => .cons (by rw [RU]) .ofInts
end
inductive Res (α : Type) where
  | ok (a : α) (ω : Om) | err (c : Str) (pl : Option Int) (ω : Om) | stk
noncomputable def Res.bnd {α β : Type} (r : Res α) (k : α → Om → Res β) : Res β := match r with
  | .ok a ω => k a ω
  | .err c p ω => .err c p ω
  | .stk => .stk
@[simp] theorem Res.bnd_ok {α β : Type} {a : α} {ω : Om} {k : α → Om → Res β} : (Res.ok a ω).bnd k = k a ω := rfl
@[simp] theorem Res.bnd_err {α β : Type} {c : Str} {p : Option Int} {ω : Om} {k : α → Om → Res β} : (Res.err c p ω : Res α).bnd k = .err c p ω := rfl
@[simp] theorem Res.bnd_stk {α β : Type} {k : α → Om → Res β} : (Res.stk : Res α).bnd k = .stk := rfl
noncomputable def Res.of {α : Type} (o : Option α) (ω : Om) : Res α := match o with
  | some a => .ok a ω
  | none => .stk
@[simp] theorem Res.of_some {α : Type} {a : α} {ω : Om} : Res.of (some a) ω = .ok a ω := rfl
@[simp] theorem Res.of_none {α : Type} {ω : Om} : (Res.of (none : Option α) ω) = .stk := rfl
noncomputable abbrev En := List (Option U)
inductive Fl where
  | nx (ρ : En) (ω : Om) | rt (u : U) (ω : Om) | bk (ρ : En) (ω : Om) | ct (ρ : En) (ω : Om) | err (c : Str) (pl : Option Int) (ω : Om) | stk
structure Md where
  B : List Nat
  M : List Nat
structure Ext (W : Wd) (Hc H Hc' H' : Hp) : Prop where
  same : ∀ b o, b ∉ W.L → H b = some o → H' b = some o
  sc : Same Hc Hc'
  sub : Same Hc' H'
  new : ∀ b, Hc b = none → H b ≠ none → Hc' b = none
  frz : ∀ b, H b ≠ none → H' b ≠ none
theorem Ext.refl {W : Wd} {Hc H : Hp} (s : Same Hc H) : Ext W Hc H Hc H := ⟨fun ψ ψ ψ h => h, fun ψ ψ h => h, s, fun ψ h ψ => h, fun ψ h => h⟩
theorem Ext.trans {W : Wd} {Hc H Hc1 H1 Hc2 H2 : Hp} (a : Ext W Hc H Hc1 H1) (b : Ext W Hc1 H1 Hc2 H2) : Ext W Hc H Hc2 H2 :=
  ⟨fun c o n h => b.same c o n (a.same c o n h), fun c o h => b.sc c o (a.sc c o h), b.sub, fun c h k => b.new c (a.new c h k) (a.frz c k), fun c h => b.frz c (a.frz c h)⟩
structure PlOk (W : Wd) (ω : Om) (Hc H : Hp) : Prop where
  pl : W.pl ω H
  out : ∀ b ∈ W.L, Hc b = none ∧ H b ≠ none
noncomputable def XR (Hc : Hp) (pl : Option Int) (od : Option Addr) : Prop := match pl with
  | none => od = none
  | some n => ∃ d, od = some d ∧ Hc d = some (.xd [("place", .int n)])
noncomputable def Aft {α : Type} (W : Wd) (E : XK) (Hc H : Hp) (r : Res α) (k : α → Om → Hp → Hp → Prop) : Prop := match r with
  | .ok a ω => ∀ Hc' H', Ext W Hc H Hc' H' → PlOk W ω Hc' H' → k a ω Hc' H'
  | .err c pl ω => ∀ C od Hc' H', Ext W Hc H Hc' H' → PlOk W ω Hc' H' → W.mg c = some (.ref C) → XR Hc' pl od → E (.ref C) od H'
  | .stk => False
theorem Aft.ext {α : Type} {W : Wd} {E : XK} {Hc H Hc1 H1 : Hp} {r : Res α} {k : α → Om → Hp → Hp → Prop} (e : Ext W Hc H Hc1 H1) (h : Aft W E Hc H r k) : Aft W E Hc1 H1 r k := by
  cases r with
  | ok a ω => exact fun Hc' H' e' p => h Hc' H' (e.trans e') p
  | err c pl ω => exact fun C od Hc' H' e' p => h C od Hc' H' (e.trans e') p
  | stk => exact h
theorem Aft.imp {α : Type} {W : Wd} {E : XK} {Hc H : Hp} {r : Res α} {k k' : α → Om → Hp → Hp → Prop} (h : Aft W E Hc H r k) (i : ∀ a ω Hc' H', Ext W Hc H Hc' H' → PlOk W ω Hc' H' → k a ω Hc' H' → k' a ω Hc' H') : Aft W E Hc H r k' := by
  cases r with
  | ok a ω => exact fun Hc' H' e p => i a ω Hc' H' e p (h Hc' H' e p)
  | err c pl ω => exact h
  | stk => exact h
theorem Aft.bnd {α β : Type} {W : Wd} {E : XK} {Hc H : Hp} {r : Res α} {g : α → Om → Res β} {k : β → Om → Hp → Hp → Prop} (h : Aft W E Hc H (r.bnd g) k) : Aft W E Hc H r fun a ω Hc' H' => Aft W E Hc' H' (g a ω) k := by
  cases r with
  | ok a ω => exact fun Hc' H' e p => Aft.ext e h
  | err c pl ω => exact h
  | stk => exact h
noncomputable def RB (W : Wd) (Hc H : Hp) (u : U) (v : V) : Prop := RU W Hc u v ∨ ∃ us a vs, u = .lst us ∧ v = .ref a ∧ a ∉ W.L ∧ H a = some (.lst vs) ∧ RUs W Hc us vs
theorem RB.ext {W : Wd} {Hc H Hc' H' : Hp} {u : U} {v : V} (h : RB W Hc H u v) (e : Ext W Hc H Hc' H') : RB W Hc' H' u v := by
  rcases h with h | ⟨us, a, vs, e1, e2, n, q, r⟩
  · exact .inl (h.mono e.sc)
  · exact .inr ⟨us, a, vs, e1, e2, n, e.same _ _ n q, r.mono e.sc⟩
structure Sr (W : Wd) (m : Md) (ρ : En) (ω : Om) (σ : St) (H0 Hc H : Hp) (ow : Nat → Addr) : Prop where
  sub : Same Hc H
  s0 : ∀ b o, b ∉ W.L → H0 b = some o → H b = some o
  p0 : ∀ b ∈ W.L, H0 b ≠ none
  len : ρ.length = σ.length
  pl : PlOk W ω Hc H
  cl : ∀ i u, i ∉ m.B → i ∉ m.M → ρ[i]? = some (some u) → ∃ v, σ[i]? = some (some v) ∧ RU W Hc u v
  bo : ∀ i u, i ∈ m.B → i ∉ m.M → ρ[i]? = some (some u) → ∃ v, σ[i]? = some (some v) ∧ (RU W Hc u v ∨ ∃ us a vs, u = .lst us ∧ v = .ref a ∧ a ∉ W.L ∧ H0 a = some (.lst vs) ∧ RUs W Hc us vs)
  mu : ∀ i u, i ∈ m.M → ρ[i]? = some (some u) → ∃ us vs, u = .lst us ∧ σ[i]? = some (some (.ref (ow i))) ∧ H (ow i) = some (.lst vs) ∧ Hc (ow i) = none ∧ H0 (ow i) = none ∧ RUs W Hc us vs
  di : ∀ i j u w, i ∈ m.M → j ∈ m.M → i ≠ j → ρ[i]? = some (some u) → ρ[j]? = some (some w) → ow i ≠ ow j
section
variable {W : Wd} {m : Md} {ρ : En} {ω ω' : Om} {σ : St} {H0 Hc H Hc' H' : Hp} {ow : Nat → Addr}
theorem Sr.nl (S : Sr W m ρ ω σ H0 Hc H ow) {i : Nat} (h : H0 (ow i) = none) : ow i ∉ W.L := fun z => S.p0 _ z h
theorem Sr.ext (S : Sr W m ρ ω σ H0 Hc H ow) (e : Ext W Hc H Hc' H') (p : PlOk W ω' Hc' H') : Sr W m ρ ω' σ H0 Hc' H' ow := by
  refine ⟨e.sub, fun b o n h => e.same b o n (S.s0 b o n h), S.p0, S.len, p, fun i u n1 n2 h => ?_, fun i u n1 n2 h => ?_, fun i u n h => ?_, S.di⟩
  · obtain ⟨v, q, r⟩ := S.cl i u n1 n2 h; exact ⟨v, q, r.mono e.sc⟩
  · obtain ⟨v, q, r⟩ := S.bo i u n1 n2 h
    refine ⟨v, q, ?_⟩
    rcases r with r | ⟨us, a, vs, z1, z2, z3, z4, z5⟩
    · exact .inl (r.mono e.sc)
    · exact .inr ⟨us, a, vs, z1, z2, z3, z4, z5.mono e.sc⟩
  · obtain ⟨us, vs, z1, z2, z3, z4, z5, z6⟩ := S.mu i u n h
    exact ⟨us, vs, z1, z2, e.same _ _ (S.nl z5) z3, e.new _ z4 (by rw [z3]; simp), z5, z6.mono e.sc⟩
theorem Sr.get (S : Sr W m ρ ω σ H0 Hc H ow) {i : Nat} {u : U} (h : ρ[i]? = some (some u)) : ∃ v, σ[i]? = some (some v) ∧ RB W Hc H u v := by
  by_cases n2 : i ∈ m.M
  · obtain ⟨us, vs, z1, z2, z3, z4, z5, z6⟩ := S.mu i u n2 h
    exact ⟨_, z2, .inr ⟨us, _, vs, z1, rfl, S.nl z5, z3, z6⟩⟩
  · by_cases n1 : i ∈ m.B
    · obtain ⟨v, q, r⟩ := S.bo i u n1 n2 h
      refine ⟨v, q, ?_⟩
      rcases r with r | ⟨us, a, vs, z1, z2, z3, z4, z5⟩
      · exact .inl r
      · exact .inr ⟨us, a, vs, z1, z2, z3, S.s0 _ _ z3 z4, z5⟩
    · obtain ⟨v, q, r⟩ := S.cl i u n1 n2 h
      exact ⟨v, q, .inl r⟩
end
theorem Ext.laid {W : Wd} {Hc H : Hp} {p : Addr} {o : HO} (s : Same Hc H) (n : H p = none) : Ext W Hc H (upd Hc p o) (upd H p o) ∧ Ext W Hc H Hc (upd H p o) := by
  have nc : Hc p = none := s.free n
  refine ⟨⟨fun b u ψ h => by rw [upd_ne (ne_of_none h n)]; exact h, fun b u h => by rw [upd_ne (ne_of_none h nc)]; exact h, fun b u h => ?_, fun b h k => ?_, fun b h => ?_⟩, ⟨fun b u ψ h => by rw [upd_ne (ne_of_none h n)]; exact h, fun b u h => h, fun b u h => by rw [upd_ne (ne_of_none h nc)]; exact s b u h, fun b h k => h, fun b h => ?_⟩⟩
  · by_cases e : b = p
    · subst e; rw [upd_same] at h ⊢; exact h
    · rw [upd_ne e] at h ⊢; exact s b u h
  · rw [upd_ne (fun z => k (by rw [z]; exact n))]; exact h
  · by_cases e : b = p
    · subst e; rw [upd_same]; simp
    · rw [upd_ne e]; exact h
  · by_cases e : b = p
    · subst e; rw [upd_same]; simp
    · rw [upd_ne e]; exact h
theorem PlOk.same {W : Wd} {ω : Om} {Hc H Hc' H' : Hp} (P : PlOk W ω Hc H) (e : Ext W Hc H Hc' H') (s : Same H H') : PlOk W ω Hc' H' :=
  ⟨W.st _ _ _ P.pl fun b o h ψ => s b o h, fun b hb => ⟨e.new b (P.out b hb).1 (P.out b hb).2, e.frz b (P.out b hb).2⟩⟩
theorem Same.laid {H : Hp} {p : Addr} {o : HO} (n : H p = none) : Same H (upd H p o) := fun b u h => by rw [upd_ne (ne_of_none h n)]; exact h
noncomputable abbrev Ef := En → Om → Res U
noncomputable abbrev Tf := En → Om → Res Bool
noncomputable abbrev Af := En → Om → Res (List U)
noncomputable abbrev Sf := En → Om → Fl
noncomputable def DE (W : Wd) (m : Md) (E : XK) (t : TE) (f : Ef) : Prop := ∀ H0 ρ ω σ Hc H ow, Sr W m ρ ω σ H0 Hc H ow → ∀ Q : VK, Aft W E Hc H (f ρ ω) (fun u ψ Hc' H' => ∀ v, RU W Hc' u v → Q v H') → t σ H Q
noncomputable def DB (W : Wd) (m : Md) (E : XK) (t : TE) (f : Ef) : Prop := ∀ H0 ρ ω σ Hc H ow, Sr W m ρ ω σ H0 Hc H ow → ∀ Q : VK, Aft W E Hc H (f ρ ω) (fun u ψ Hc' H' => ∀ v, RB W Hc' H' u v → Q v H') → t σ H Q
noncomputable def DF (W : Wd) (m : Md) (E : XK) (t : TE) (f : Ef) : Prop := ∀ H0 ρ ω σ Hc H ow, Sr W m ρ ω σ H0 Hc H ow → ∀ Q : VK, Aft W E Hc H (f ρ ω) (fun u ψ Hc' H' => ∀ us a vs, u = .lst us → Hc' a = none → H a = none → H' a = some (.lst vs) → RUs W Hc' us vs → Q (.ref a) H') → t σ H Q
noncomputable def DT (W : Wd) (m : Md) (E : XK) (t : TT) (f : Tf) : Prop := ∀ H0 ρ ω σ Hc H ow, Sr W m ρ ω σ H0 Hc H ow → ∀ Q : Bool → Hp → Prop, Aft W E Hc H (f ρ ω) (fun b ψ ψ H' => Q b H') → t σ H Q
noncomputable def RBs (W : Wd) (Hc H : Hp) : List Bool → List U → List V → Prop
  | b :: bs, u :: us, v :: vs => (if b = true then RB W Hc H u v else RU W Hc u v) ∧ RBs W Hc H bs us vs
  | [], [], [] => True
  | _, _, _ => False
noncomputable def DA (W : Wd) (m : Md) (E : XK) (bs : List Bool) (t : TA) (f : Af) : Prop := ∀ H0 ρ ω σ Hc H ow, Sr W m ρ ω σ H0 Hc H ow → ∀ Q : List V → Hp → Prop, Aft W E Hc H (f ρ ω) (fun us ψ Hc' H' => ∀ vs, RBs W Hc' H' bs us vs → Q vs H') → t σ H Q
noncomputable def Cont (W : Wd) (m : Md) (E : XK) (Hc0 H0 : Hp) (D : Ends) (r : Fl) : Prop := match r with
  | .nx ρ' ω' => ∀ σ' Hc' H' ow', Sr W m ρ' ω' σ' H0 Hc' H' ow' → Ext W Hc0 H0 Hc' H' → D.nx σ' H'
  | .bk ρ' ω' => ∀ σ' Hc' H' ow', Sr W m ρ' ω' σ' H0 Hc' H' ow' → Ext W Hc0 H0 Hc' H' → D.bk σ' H'
  | .ct ρ' ω' => ∀ σ' Hc' H' ow', Sr W m ρ' ω' σ' H0 Hc' H' ow' → Ext W Hc0 H0 Hc' H' → D.ct σ' H'
  | .rt u ω' => ∀ v Hc' H', Ext W Hc0 H0 Hc' H' → PlOk W ω' Hc' H' → RU W Hc' u v → D.rt v H'
  | .err c pl ω' => ∀ C od Hc' H', Ext W Hc0 H0 Hc' H' → PlOk W ω' Hc' H' → W.mg c = some (.ref C) → XR Hc' pl od → E (.ref C) od H'
  | .stk => False
noncomputable def DS (W : Wd) (m : Md) (E : XK) (t : TS) (g : Sf) : Prop := ∀ H0 Hc0 ρ ω σ Hc H ow, Sr W m ρ ω σ H0 Hc H ow → Ext W Hc0 H0 Hc H → ∀ D : Ends, Cont W m E Hc0 H0 D (g ρ ω) → t D σ H
section
variable {W : Wd} {Hc H : Hp} {u : U} {v : V}
theorem RB.int {i : Int} (h : RB W Hc H (.int i) v) : v = .int i := by rcases h with h | ⟨_, _, _, e, _⟩; · rw [RU] at h; exact h
                                                                       · cases e
theorem RB.bl {i : Bool} (h : RB W Hc H (.bl i) v) : v = .bl i := by rcases h with h | ⟨_, _, _, e, _⟩; · rw [RU] at h; exact h
                                                                     · cases e
theorem RB.non (h : RB W Hc H .non v) : v = .non := by rcases h with h | ⟨_, _, _, e, _⟩; · rw [RU] at h; exact h
                                                       · cases e
theorem RB.str {i : Str} (h : RB W Hc H (.str i) v) : v = .str i := by rcases h with h | ⟨_, _, _, e, _⟩; · rw [RU] at h; exact h
                                                                       · cases e
theorem RB.ty {i : String} (h : RB W Hc H (.ty i) v) : v = .ty i := by rcases h with h | ⟨_, _, _, e, _⟩; · rw [RU] at h; exact h
                                                                       · cases e
theorem RB.tup {us : List U} (h : RB W Hc H (.tup us) v) : ∃ a vs, v = .ref a ∧ Hc a = some (.tup vs) ∧ RUs W Hc us vs := by
  rcases h with h | ⟨_, _, _, e, _⟩
  · rw [RU] at h; exact h
  · cases e
theorem RB.lst {us : List U} (h : RB W Hc H (.lst us) v) (s : Same Hc H) : ∃ a vs, v = .ref a ∧ H a = some (.lst vs) ∧ RUs W Hc us vs := by
  rcases h with h | ⟨us', a, vs, e, e2, _, q, r⟩
  · rw [RU] at h; obtain ⟨a, vs, e, q, r⟩ := h; exact ⟨a, vs, e, s _ _ q, r⟩
  · cases e; exact ⟨a, vs, e2, q, r⟩
theorem RB.scr {ns : List Int} (h : RB W Hc H (.scr ns) v) : ∃ a, v = .ref a ∧ SqL W.K Hc a (ns.map V.int) := by
  rcases h with h | ⟨_, _, _, e, _⟩
  · rw [RU] at h; exact h
  · cases e
theorem RB.nm {x : Str} (h : RB W Hc H (.nm x) v) : ∃ a, v = .ref a ∧ W.mg x = some (.ref a) := by
  rcases h with h | ⟨_, _, _, e, _⟩
  · rw [RU] at h; exact h
  · cases e
theorem RB.pile (h : RB W Hc H .pile v) : v = .ref W.pa := by
  rcases h with h | ⟨_, _, _, e, _⟩
  · rw [RU] at h; exact h
  · cases e
theorem RU.int {i : Int} : RU W H (.int i) (.int i) := by rw [RU]
theorem RU.bl {i : Bool} : RU W H (.bl i) (.bl i) := by rw [RU]
theorem RU.non : RU W H .non .non := by rw [RU]
theorem RU.str {i : Str} : RU W H (.str i) (.str i) := by rw [RU]
theorem RU.ty {i : String} : RU W H (.ty i) (.ty i) := by rw [RU]
theorem RU.tup {us : List U} {a : Addr} {vs : List V} (h : H a = some (.tup vs)) (r : RUs W H us vs) : RU W H (.tup us) (.ref a) := by rw [RU]; exact ⟨a, vs, rfl, h, r⟩
theorem RU.lst {us : List U} {a : Addr} {vs : List V} (h : H a = some (.lst vs)) (r : RUs W H us vs) : RU W H (.lst us) (.ref a) := by rw [RU]; exact ⟨a, vs, rfl, h, r⟩
end
theorem Ext.own {W : Wd} {Hc H Hc' H' : Hp} {a : Addr} {o : HO} (e : Ext W Hc H Hc' H') (n1 : Hc' a = none) (n2 : H a = none) (h : H' a = some o) : Ext W Hc H (upd Hc' a o) H' := by
  refine ⟨e.same, fun b u q => ?_, fun b u q => ?_, fun b q k => ?_, e.frz⟩
  · rw [upd_ne (ne_of_none (e.sc b u q) n1)]; exact e.sc b u q
  · by_cases z : b = a
    · subst z; rw [upd_same] at q; cases q; exact h
    · rw [upd_ne z] at q; exact e.sub b u q
  · rw [upd_ne (fun z => k (by rw [z]; exact n2))]; exact e.new b q k
theorem PlOk.own {W : Wd} {ω : Om} {Hc H : Hp} {a : Addr} {o : HO} (p : PlOk W ω Hc H) (n : a ∉ W.L) : PlOk W ω (upd Hc a o) H := ⟨p.pl, fun b hb => ⟨by rw [upd_ne (fun z : b = a => n (by rw [← z]; exact hb))]; exact (p.out b hb).1, (p.out b hb).2⟩⟩
theorem Ext.frz' {W : Wd} {Hc H Hc' H' : Hp} {a : Addr} (e : Ext W Hc H Hc' H') (h : H' a = none) : H a = none := by
  cases q : H a with
  | none => rfl
  | some o => exact absurd h (e.frz a (by rw [q]; simp))
theorem Same.own {Hc' : Hp} {a : Addr} {o : HO} (n1 : Hc' a = none) : Same Hc' (upd Hc' a o) := Same.laid n1
section
variable {W : Wd} {m : Md} {E : XK} {ta tb tc : TE} {fa fb fc : Ef} {tt tt' : TT} {ft ft' : Tf} {i : Nat} {r : R2} {g : U → U → Option U} {bs : List Bool} {tr : TA} {fr : Af}
theorem DE.b (h : DE W m E ta fa) : DB W m E ta fa := fun H0 ρ ω σ Hc H ow S Q k => h H0 ρ ω σ Hc H ow S Q (k.imp fun u ψ Hc' H' ψ ψ q v r => q v (.inl r))
theorem DF.e (h : DF W m E ta fa) : DE W m E ta fa := by
  intro H0 ρ ω σ Hc H ow S Q k
  refine h H0 ρ ω σ Hc H ow S Q ?_
  revert k
  cases fa ρ ω with
  | ok u ω' =>
    intro k Hc' H' e p us a vs hu n1 n2 ha rr
    subst hu
    have nl : a ∉ W.L := fun z => (S.pl.out a z).2 n2
    exact k (upd Hc' a (.lst vs)) H' (e.own n1 n2 ha) (p.own nl) (.ref a) (.lst upd_same (rr.mono (Same.own n1)))
  | err c pl ω' => exact fun k => k
  | stk => exact fun k => k
noncomputable def eVar (i : Nat) : Ef := fun ρ ω => match ρ[i]? with
  | some (some u) => .ok u ω
  | _ => .stk
theorem de_var (h1 : i ∉ m.B) (h2 : i ∉ m.M) : DE W m E (tVar i) (eVar i) := by
  intro H0 ρ ω σ Hc H ow S Q h
  unfold eVar at h
  split at h
  · rename_i u e
    obtain ⟨v, q, r⟩ := S.cl i u h1 h2 e
    exact ⟨v, q, h Hc H (Ext.refl S.sub) S.pl v r⟩
  · exact h.elim
theorem db_var : DB W m E (tVar i) (eVar i) := by
  intro H0 ρ ω σ Hc H ow S Q h
  unfold eVar at h
  split at h
  · rename_i u e
    obtain ⟨v, q, r⟩ := S.get e
    exact ⟨v, q, h Hc H (Ext.refl S.sub) S.pl v r⟩
  · exact h.elim
noncomputable def eC (u : U) : Ef := fun ψ ω => .ok u ω
theorem de_c {u : U} {v : V} (h : ∀ H, RU W H u v) : DE W m E (tC v) (eC u) := fun H0 ρ ω σ Hc H ow S Q k => k Hc H (Ext.refl S.sub) S.pl v (h Hc)
noncomputable def eOp (g : U → U → Option U) (fa fb : Ef) : Ef := fun ρ ω => (fa ρ ω).bnd fun a ω1 => (fb ρ ω1).bnd fun b ω2 => .of (g a b) ω2
noncomputable def OpU (W : Wd) (r : R2) (g : U → U → Option U) : Prop := ∀ Hc H ω u1 u2 x y, Same Hc H → PlOk W ω Hc H → RB W Hc H u1 x → RB W Hc H u2 y → ∀ u, g u1 u2 = some u → ∀ Q : VK, (∀ v Hc' H', Ext W Hc H Hc' H' → PlOk W ω Hc' H' → RU W Hc' u v → Q v H') → r x y H Q
noncomputable def OpF (W : Wd) (r : R2) (g : U → U → Option U) : Prop := ∀ Hc H ω u1 u2 x y, Same Hc H → PlOk W ω Hc H → RB W Hc H u1 x → RB W Hc H u2 y → ∀ u, g u1 u2 = some u → ∀ Q : VK, (∀ us a vs Hc' H', Ext W Hc H Hc' H' → PlOk W ω Hc' H' → u = .lst us → Hc' a = none → H a = none → H' a = some (.lst vs) → RUs W Hc' us vs → Q (.ref a) H') → r x y H Q
theorem de_op (o : OpU W r g) (ha : DB W m E ta fa) (hb : DB W m E tb fb) : DE W m E (tOp r ta tb) (eOp g fa fb) := by
  intro H0 ρ ω σ Hc H ow S Q h
  refine ha H0 ρ ω σ Hc H ow S _ ((Aft.bnd h).imp fun a ω1 Hc1 H1 e1 p1 h1 x rx => ?_)
  refine hb H0 ρ ω1 σ Hc1 H1 ow (S.ext e1 p1) _ ((Aft.bnd h1).imp fun b ω2 Hc2 H2 e2 p2 h2 y ry => ?_)
  revert h2
  cases hg : g a b with
  | none => exact fun h2 => h2.elim
  | some u => exact fun h2 => o Hc2 H2 ω2 a b x y e2.sub p2 (rx.ext e2) ry u hg Q fun v Hc' H' e p rv => h2 Hc' H' e p v rv
theorem df_op (o : OpF W r g) (ha : DB W m E ta fa) (hb : DB W m E tb fb) : DF W m E (tOp r ta tb) (eOp g fa fb) := by
  intro H0 ρ ω σ Hc H ow S Q h
  refine ha H0 ρ ω σ Hc H ow S _ ((Aft.bnd h).imp fun a ω1 Hc1 H1 e1 p1 h1 x rx => ?_)
  refine hb H0 ρ ω1 σ Hc1 H1 ow (S.ext e1 p1) _ ((Aft.bnd h1).imp fun b ω2 Hc2 H2 e2 p2 h2 y ry => ?_)
  revert h2
  cases hg : g a b with
  | none => exact fun h2 => h2.elim
  | some u => exact fun h2 => o Hc2 H2 ω2 a b x y e2.sub p2 (rx.ext e2) ry u hg Q fun us a vs Hc' H' e p q1 q2 q3 q4 q5 => h2 Hc' H' e p us a vs q1 q2 ((e1.trans e2).frz' q3) q4 q5
noncomputable def eUn (g : U → Option U) (fa : Ef) : Ef := fun ρ ω => (fa ρ ω).bnd fun a ω1 => .of (g a) ω1
theorem de_un {q : V → Hp → VK → Prop} {g : U → Option U} (o : ∀ Hc H ω u1 x, Same Hc H → PlOk W ω Hc H → RB W Hc H u1 x → ∀ u, g u1 = some u → ∀ Q : VK, (∀ v Hc' H', Ext W Hc H Hc' H' → PlOk W ω Hc' H' → RU W Hc' u v → Q v H') → q x H Q) (ha : DB W m E ta fa) : DE W m E (tUn q ta) (eUn g fa) := by
  intro H0 ρ ω σ Hc H ow S Q h
  refine ha H0 ρ ω σ Hc H ow S _ ((Aft.bnd h).imp fun a ω1 Hc1 H1 e1 p1 h1 x rx => ?_)
  revert h1
  cases hg : g a with
  | none => exact fun h2 => h2.elim
  | some u => exact fun h2 => o Hc1 H1 ω1 a x e1.sub p1 rx u hg Q fun v Hc' H' e p rv => h2 Hc' H' e p v rv
noncomputable def uNeg : U → Option U
  | .int a => some (.int (-a))
  | _ => none
theorem de_neg (ha : DB W m E ta fa) : DE W m E (tUn (rU fun i => .int (-i)) ta) (eUn uNeg fa) := de_un (fun Hc H ω u1 x s p rx u hg Q k => by
  unfold uNeg at hg
  split at hg
  · cases hg; have := rx.int; subst this; exact ⟨_, rfl, k _ Hc H (Ext.refl s) p .int⟩
  · cases hg) ha
theorem OpU.I0 {g : U → U → Option U} {q : Int → Int → V} {f : Int → Int → U} (hq : ∀ H a b, RU W H (f a b) (q a b)) (hg : ∀ a b u, g a b = some u → ∃ i j, a = .int i ∧ b = .int j ∧ u = f i j) : OpU W (rI0 q) g := by
  intro Hc H ω u1 u2 x y s p rx ry u e Q k
  obtain ⟨i, j, rfl, rfl, rfl⟩ := hg _ _ _ e
  have := rx.int; subst this; have := ry.int; subst this
  exact ⟨i, j, rfl, rfl, k _ Hc H (Ext.refl s) p (hq _ _ _)⟩
theorem OpU.IC {g : U → U → Option U} {C : Int → Int → Prop} {q : Int → Int → V} {f : Int → Int → U} (hq : ∀ H a b, RU W H (f a b) (q a b)) (hg : ∀ a b u, g a b = some u → ∃ i j, a = .int i ∧ b = .int j ∧ C i j ∧ u = f i j) : OpU W (rI C q) g := by
  intro Hc H ω u1 u2 x y s p rx ry u e Q k
  obtain ⟨i, j, rfl, rfl, c, rfl⟩ := hg _ _ _ e
  have := rx.int; subst this; have := ry.int; subst this
  exact ⟨i, j, rfl, rfl, c, k _ Hc H (Ext.refl s) p (hq _ _ _)⟩
noncomputable def uSub : U → U → Option U
  | .int a, .int b => some (.int (a - b))
  | _, _ => none
theorem ou_sub : OpU W (rI0 fun i j => .int (i - j)) uSub := .I0 (fun ψ ψ ψ => .int) fun a b u h => by
  unfold uSub at h; split at h <;> cases h; exact ⟨_, _, rfl, rfl, rfl⟩
noncomputable def uLt : U → U → Option U
  | .int a, .int b => some (.bl (decide (a < b)))
  | _, _ => none
noncomputable def uLe : U → U → Option U
  | .int a, .int b => some (.bl (decide (a ≤ b)))
  | _, _ => none
noncomputable def uGt : U → U → Option U
  | .int a, .int b => some (.bl (decide (b < a)))
  | _, _ => none
noncomputable def uGe : U → U → Option U
  | .int a, .int b => some (.bl (decide (b ≤ a)))
  | _, _ => none
theorem ou_lt : OpU W (rI0 fun i j => .bl (decide (i < j))) uLt := .I0 (fun ψ ψ ψ => .bl) fun a b u h => by
  unfold uLt at h; split at h <;> cases h; exact ⟨_, _, rfl, rfl, rfl⟩
theorem ou_le : OpU W (rI0 fun i j => .bl (decide (i ≤ j))) uLe := .I0 (fun ψ ψ ψ => .bl) fun a b u h => by
  unfold uLe at h; split at h <;> cases h; exact ⟨_, _, rfl, rfl, rfl⟩
theorem ou_gt : OpU W (rI0 fun i j => .bl (decide (j < i))) uGt := .I0 (fun ψ ψ ψ => .bl) fun a b u h => by
  unfold uGt at h; split at h <;> cases h; exact ⟨_, _, rfl, rfl, rfl⟩
theorem ou_ge : OpU W (rI0 fun i j => .bl (decide (j ≤ i))) uGe := .I0 (fun ψ ψ ψ => .bl) fun a b u h => by
  unfold uGe at h; split at h <;> cases h; exact ⟨_, _, rfl, rfl, rfl⟩
open Classical in
noncomputable def uDiv : U → U → Option U
  | .int a, .int b => if CDivB a b then some (.int (a / b)) else none
  | _, _ => none
theorem ou_div : OpU W (rI CDivB fun i j => .int (i / j)) uDiv := .IC (fun ψ ψ ψ => .int) fun a b u h => by
  unfold uDiv at h; split at h
  · split at h <;> cases h; exact ⟨_, _, rfl, rfl, by assumption, rfl⟩
  · cases h
open Classical in
noncomputable def uMod : U → U → Option U
  | .int a, .int b => if 0 < b then some (.int (a % b)) else none
  | _, _ => none
theorem ou_mod : OpU W (rI (fun ψ j => 0 < j) fun i j => .int (i % j)) uMod := .IC (fun ψ ψ ψ => .int) fun a b u h => by
  unfold uMod at h; split at h
  · split at h <;> cases h; exact ⟨_, _, rfl, rfl, by assumption, rfl⟩
  · cases h
open Classical in
noncomputable def uPow : U → U → Option U
  | .int a, .int b => if CPow a b then some (.int (a ^ b.toNat)) else none
  | _, _ => none
theorem ou_pow : OpU W (rI CPow fun i j => .int (i ^ j.toNat)) uPow := .IC (fun ψ ψ ψ => .int) fun a b u h => by
  unfold uPow at h; split at h
  · split at h <;> cases h; exact ⟨_, _, rfl, rfl, by assumption, rfl⟩
  · cases h
open Classical in
noncomputable def uMul : U → U → Option U
  | .int a, .int b => if CMulB a b then some (.int (a * b)) else none
  | _, _ => none
theorem ou_mul : OpU W (rI CMulB fun i j => .int (i * j)) uMul := .IC (fun ψ ψ ψ => .int) fun a b u h => by
  unfold uMul at h; split at h
  · split at h <;> cases h; exact ⟨_, _, rfl, rfl, by assumption, rfl⟩
  · cases h
theorem laid_e {ω : Om} {Hc H : Hp} {p : Addr} {o : HO} (s : Same Hc H) (P : PlOk W ω Hc H) (n : H p = none) : Ext W Hc H (upd Hc p o) (upd H p o) ∧ PlOk W ω (upd Hc p o) (upd H p o) :=
  ⟨(Ext.laid s n).1, P.same (Ext.laid s n).1 (Same.laid n)⟩
theorem laid_f {ω : Om} {Hc H : Hp} {p : Addr} {o : HO} (s : Same Hc H) (P : PlOk W ω Hc H) (n : H p = none) : Ext W Hc H Hc (upd H p o) ∧ PlOk W ω Hc (upd H p o) :=
  ⟨(Ext.laid s n).2, P.same (Ext.laid s n).2 (Same.laid n)⟩
noncomputable def rCatE : R2 := fun x y H Q => ∃ a b ys, x = .ref a ∧ y = .ref b ∧ H a = some (.tup []) ∧ H b = some (.tup ys) ∧ Q (.ref b) H
theorem op_catE {X : Cx} : OpR X (binaryOp .Add) rCatE := by
  intro pins s σ H x y v u Q I rx ry h
  obtain ⟨a, b, ys, rfl, rfl, ha, hb, q⟩ := h
  cases rx
  cases ry
  obtain ⟨its, r1, p1, _⟩ := I.tuple (SqT.of (K := X.K) ha)
  obtain ⟨jts, r2, p2, _⟩ := I.tuple (SqT.of (K := X.K) hb)
  have e1 : its = [] := r1.nil_iff.mpr rfl
  obtain ⟨⟨c1, d1, t1, l1⟩, g1, hc1, n1, hd1⟩ := id p1
  obtain ⟨⟨c2, d2, t2, l2⟩, g2, hc2, n2, hd2⟩ := id p2
  simp only at hc1 hd1 hc2 hd2
  subst hc1 hd1 hc2 hd2
  exact concat_meets ⟨_, g1, rfl⟩ ⟨_, g2, rfl⟩ noFill_tuple_add seq_tuple_add PySem.F.slot_tuple_add PySem.F.entry_tuple_add (PySem.F.args_tuple_add_2 _ _) (addT0 a b its.toArray jts.toArray n1 n2 d1 d2 l1 l2 (by simp [e1])) ⟨g1, g2, ⟨.ref b, H, I, rfl, q⟩⟩
noncomputable def rAddU (K : PySem.W.Frag) : R2 := fun x y H Q => rI0 (fun i j => .int (i + j)) x y H Q ∨ rCat x y H Q ∨ rCatT K x y H Q ∨ rCatE x y H Q
theorem op_addU {X : Cx} {K : PySem.W.Frag} (h : X.K = K) : OpR X (binaryOp .Add) (rAddU K) := h ▸ op_add.or (op_cat.or (op_catT.or op_catE))
open Classical in
noncomputable def uAdd : U → U → Option U
  | .int a, .int b => some (.int (a + b))
  | .lst a, .lst b => if a.length + b.length ≤ sizeLine then some (.lst (a ++ b)) else none
  | .tup a, .tup b => if a.length + b.length ≤ sizeLine then some (.tup (a ++ b)) else none
  | _, _ => none
open Classical in
noncomputable def uCat : U → U → Option U
  | .lst a, .lst b => if a.length + b.length ≤ sizeLine then some (.lst (a ++ b)) else none
  | _, _ => none
theorem cat_q {ω : Om} {Hc H : Hp} {us ws : List U} {x y : V} {Q : VK} (s : Same Hc H) (p : PlOk W ω Hc H) (rx : RB W Hc H (.lst us) x) (ry : RB W Hc H (.lst ws) y) (hl : us.length + ws.length ≤ sizeLine)
    (k : ∀ a vs, H a = none → RUs W Hc (us ++ ws) vs → Q (.ref a) (upd H a (.lst vs))) : rCat x y H Q := by
  obtain ⟨a, vs, rfl, h1, r1⟩ := rx.lst s
  obtain ⟨b, zs, rfl, h2, r2⟩ := ry.lst s
  exact ⟨a, b, vs, zs, rfl, rfl, h1, h2, by rw [← r1.len, ← r2.len]; exact hl, fun q n => k q _ n (r1.app r2)⟩
theorem ou_add : OpU W (rAddU W.K) uAdd := by
  intro Hc H ω u1 u2 x y s p rx ry u e Q k
  unfold uAdd at e; split at e
  · cases e
    have := rx.int; subst this; have := ry.int; subst this
    exact .inl ⟨_, _, rfl, rfl, k _ Hc H (Ext.refl s) p .int⟩
  · split at e <;> cases e
    exact .inr (.inl (cat_q s p rx ry (by assumption) fun a vs n rr => k _ _ _ (laid_e s p n).1 (laid_e s p n).2 (.lst upd_same (rr.mono (Same.laid (s.free n))))))
  · split at e <;> cases e
    obtain ⟨a, vs, rfl, h1, r1⟩ := rx.tup
    obtain ⟨b, zs, rfl, h2, r2⟩ := ry.tup
    by_cases z : vs = []
    · subst z
      have l := r1.len
      have l0 : (_ : List U) = [] := List.length_eq_zero_iff.mp l
      exact .inr (.inr (.inr ⟨a, b, zs, rfl, rfl, s _ _ h1, s _ _ h2, k _ Hc H (Ext.refl s) p (.tup h2 (by rw [l0]; exact r2))⟩))
    · refine .inr (.inr (.inl ⟨a, b, vs, zs, rfl, rfl, .of (s _ _ h1), .of (s _ _ h2), z, by rw [← r1.len, ← r2.len]; assumption, fun z2 => ?_, fun ψ q n => ?_⟩))
      · subst z2
        have l0 : (_ : List U) = [] := List.length_eq_zero_iff.mp r2.len
        exact k _ Hc H (Ext.refl s) p (.tup h1 (by rw [l0, List.append_nil]; exact r1))
      · exact k _ _ _ (laid_e s p n).1 (laid_e s p n).2 (.tup upd_same ((r1.app r2).mono (Same.laid (s.free n))))
  · cases e
theorem of_cat : OpF W (rAddU W.K) uCat := by
  intro Hc H ω u1 u2 x y s p rx ry u e Q k
  unfold uCat at e; split at e
  · split at e <;> cases e
    exact .inr (.inl (cat_q s p rx ry (by assumption) fun a vs n rr => k _ _ _ _ _ (laid_f s p n).1 (laid_f s p n).2 rfl (s.free n) n upd_same rr))
  · cases e
noncomputable def rRepU : R2 := fun x y H Q => ∃ a k v, x = .ref a ∧ y = .int k ∧ H a = some (.tup [v]) ∧ -10000 ≤ k ∧ k ≤ 10000 ∧ (k = 1 → Q (.ref a) H) ∧ (k ≠ 1 → ∀ p, H p = none → Q (.ref p) (upd H p (.tup (List.replicate k.toNat v))))
theorem op_repU0 {X : Cx} : OpR X (binaryOp .Mult) rRepU := by
  intro pins s σ H x y v u Q I rx ry h
  obtain ⟨a, k, w, rfl, rfl, ha, k0, k1, qa, qb⟩ := h
  cases rx
  obtain ⟨t, rfl⟩ := ry
  obtain ⟨its, r1, p1, _⟩ := I.tuple (SqT.of (K := X.K) ha)
  obtain ⟨u, rfl, ru⟩ := Vals.one r1
  obtain ⟨⟨c1, d1, t1, l1⟩, g1, hc1, n1, hd1⟩ := id p1
  simp only at hc1 hd1
  subst hc1 hd1
  have c1 : (decide (k < -2 ^ 63) || decide (k ≥ 2 ^ 63)) = false := by rw [decide_eq_false (by lia), decide_eq_false (by lia)]; rfl
  refine wpAny_binaryOp_repeat_ref (T := "tuple") (U := "int") (by decide) ⟨_, g1, rfl⟩ (fun s' => typeIs_int s' k t) noFill_tuple_mul F.fills_int_mul F.slot_int_rmul repeat_tuple F.slot_int_index.lookup
    (call_meets F.slot_int_rmul (typeIs_int s k t) F.entry_int_rmul (F.args_int_rmul_2 _ _) (rmulT k t a #[u] n1 d1 l1) ⟨g1, rfl, ⟨_, g1, rfl⟩, ?_⟩)
  by_cases e1 : k = 1
  · exact call_meets F.slot_tuple_mul ⟨_, g1, rfl⟩ F.entry_tuple_mul (F.args_tuple_mul_2 _ _) (mulT1 k t a u n1 d1 l1 e1) ⟨g1, ⟨.ref a, H, I, rfl, qa e1⟩⟩
  · have c2 : ((#[u] : Array Value).isEmpty || k == 1) = false := by simp [e1]
    by_cases e2 : k ≤ 0
    · have z : k.toNat = 0 := by lia
      have qb' := qb e1 _ (I.hok.fresh (Nat.le_refl _))
      rw [z] at qb'
      exact call_meets F.slot_tuple_mul ⟨_, g1, rfl⟩ F.entry_tuple_mul (F.args_tuple_mul_2 _ _) (mulT0 k t a u n1 d1 l1 c1 c2 (by simp [e2])) ⟨g1, ⟨.ref s.heap.objs.size, _, I.laid (t' := s.toks) (o := .tup []) (fun b ob q => Heap.get?_push_of_some _ q) (Nat.le_refl _) ⟨Nat.zero_le _, [], .nil, IsTup.new _ _⟩, rfl, qb'⟩⟩
    · have lk : k.toNat ≤ sizeLine := Nat.le_trans (show k.toNat ≤ 10000 by lia) (by decide)
      refine call_meets F.slot_tuple_mul ⟨_, g1, rfl⟩ F.entry_tuple_mul (F.args_tuple_mul_2 _ _) (mulT2 k t a u n1 d1 l1 c1 c2 (by simp; lia) (by simp; lia) ?_ ?_) ⟨g1, ?_⟩
      · unfold Builtin.Tuple.tupleTooMany
        refine decide_eq_false ?_
        have z : (10000 : Int) ≤ (sizeLine : Int) := by decide
        simp
        lia
      · rw [fold_one]; simpa using lk
      · rw [fold_one, show (#[] : Array Value) ++ (List.replicate k.toNat u).toArray = (List.replicate k.toNat u).toArray by simp]
        exact ⟨.ref s.heap.objs.size, _, I.laid (t' := s.toks) (o := .tup (List.replicate k.toNat w)) (fun b ob q => Heap.get?_push_of_some _ q) (Nat.le_refl _) ⟨by simpa using lk, _, vals_rep ru _, IsTup.new _ _⟩, rfl, qb e1 _ (I.hok.fresh (Nat.le_refl _))⟩
noncomputable def rRepX : R2 := fun x y H Q => rRepU x y H Q ∨ rRep x y H Q
theorem op_repX {X : Cx} : OpR X (binaryOp .Mult) rRepX := op_repU0.or op_rep
theorem flat_one {α : Type} (x : α) (n : Nat) : (List.replicate n [x]).flatten = List.replicate n x := by
  induction n with
  | zero => rfl
  | succ n ih => rw [List.replicate_succ, List.flatten_cons, ih]; rfl
open Classical in
noncomputable def uRep : U → U → Option U
  | .tup [x], .int k => if -10000 ≤ k ∧ k ≤ 10000 then some (.tup (List.replicate k.toNat x)) else none
  | .lst [x], .int k => if -10000 ≤ k ∧ k ≤ 10000 then some (.lst (List.replicate k.toNat x)) else none
  | _, _ => none
theorem rep_q {ω : Om} {Hc H : Hp} {u : U} {k : Int} {x y : V} {Q : VK} (s : Same Hc H) (rx : RB W Hc H (.lst [u]) x) (ry : RB W Hc H (.int k) y) (hk : -10000 ≤ k ∧ k ≤ 10000)
    (kk : ∀ a vs, H a = none → RUs W Hc (List.replicate k.toNat u) vs → Q (.ref a) (upd H a (.lst vs))) : rRep x y H Q := by
  obtain ⟨a, vs, rfl, h1, r1⟩ := rx.lst s
  have := ry.int; subst this
  rw [RUs] at r1
  obtain ⟨v, r, rfl, r1, r2⟩ := r1
  rw [RUs] at r2; subst r2
  have z : (10000 : Nat) ≤ sizeLine := by decide
  exact ⟨a, k, [v], rfl, rfl, h1, by lia, by lia, by simp; lia, fun q n => by rw [flat_one]; exact kk q _ n (RUs.rep r1 _)⟩
theorem ou_rep : OpU W rRepX uRep := by
  intro Hc H ω u1 u2 x y s p rx ry u e Q k
  unfold uRep at e; split at e
  · split at e <;> cases e
    rename_i hk
    obtain ⟨a, vs, rfl, h1, r1⟩ := rx.tup
    have := ry.int; subst this
    have r0 := r1
    rw [RUs] at r1
    obtain ⟨v, r, rfl, r1, r2⟩ := r1
    rw [RUs] at r2; subst r2
    refine .inl ⟨a, _, v, rfl, rfl, s _ _ h1, hk.1, hk.2, fun z => ?_, fun z q n => k _ _ _ (laid_e s p n).1 (laid_e s p n).2 (.tup upd_same ((RUs.rep r1 _).mono (Same.laid (s.free n))))⟩
    subst z
    exact k _ Hc H (Ext.refl s) p (.tup h1 r0)
  · split at e <;> cases e
    exact .inr (rep_q (ω := ω) s rx ry (by assumption) fun a vs n rr => k _ _ _ (laid_e s p n).1 (laid_e s p n).2 (.lst upd_same (rr.mono (Same.laid (s.free n)))))
  · cases e
end
section
variable {W : Wd} {m : Md} {E : XK} {ta tb tc : TE} {fa fb fc : Ef} {tt tt' : TT} {ft ft' : Tf} {i : Nat} {r : R2} {g : U → U → Option U} {bs : List Bool} {tr : TA} {fr : Af}
theorem RUs.atI {H : Hp} {us : List U} {vs : List V} {k : Int} {u : U} (r : RUs W H us vs) (h : L2.atI us k = some u) : ∃ v, L2.atI vs k = some v ∧ RU W H u v := by
  unfold L2.atI at h ⊢
  rw [← r.len]
  cases e : ixN us.length k with
  | none => rw [e] at h; cases h
  | some j => rw [e] at h; exact r.at (i := 0) h
noncomputable def uIx : U → U → Option U
  | .lst us, .int k => atI us k
  | .tup us, .int k => atI us k
  | _, _ => none
theorem ou_ix : OpU W (rIxA W.K) uIx := by
  intro Hc H ω u1 u2 x y s p rx ry u e Q k
  unfold uIx at e; split at e
  · obtain ⟨a, vs, rfl, h1, r1⟩ := rx.lst s
    have := ry.int; subst this
    obtain ⟨v, hv, rv⟩ := r1.atI e
    exact .inl ⟨a, vs, _, v, rfl, rfl, .of h1, hv, k v Hc H (Ext.refl s) p rv⟩
  · obtain ⟨a, vs, rfl, h1, r1⟩ := rx.tup
    have := ry.int; subst this
    obtain ⟨v, hv, rv⟩ := r1.atI e
    exact .inr ⟨a, vs, _, v, rfl, rfl, .of (s _ _ h1), hv, k v Hc H (Ext.refl s) p rv⟩
  · cases e
noncomputable abbrev Pf := En → Om → Res (Option Int)
noncomputable def DP (W : Wd) (m : Md) (E : XK) (t : TO) (f : Pf) : Prop := ∀ H0 ρ ω σ Hc H ow, Sr W m ρ ω σ H0 Hc H ow → ∀ Q : Option Int → Hp → Prop, Aft W E Hc H (f ρ ω) (fun o ψ ψ H' => Q o H') → t σ H Q
noncomputable def pNo : Pf := fun ψ ω => .ok none ω
theorem dp_no : DP W m E tNoPart pNo := fun H0 ρ ω σ Hc H ow S Q k => k Hc H (Ext.refl S.sub) S.pl
noncomputable def asI : U → Option (Option Int)
  | .int i => some (some i)
  | _ => none
noncomputable def pSome (fa : Ef) : Pf := fun ρ ω => (fa ρ ω).bnd fun u ω1 => .of (asI u) ω1
theorem dp_some (ha : DB W m E ta fa) : DP W m E (tPart ta) (pSome fa) := by
  intro H0 ρ ω σ Hc H ow S Q h
  refine ha H0 ρ ω σ Hc H ow S _ ((Aft.bnd h).imp fun a ω1 Hc1 H1 e1 p1 h1 x rx => ?_)
  revert h1
  cases a with
  | int i => intro h1; have := rx.int; subst this; exact ⟨i, rfl, h1 Hc1 H1 (Ext.refl e1.sub) p1⟩
  | _ => exact fun h1 => h1.elim
noncomputable def cutG {α : Type} (xs : List α) (lo hi : Option Int) : List α := (xs.drop (HT.sIx xs.length 0 lo)).take (HT.sIx xs.length xs.length hi - HT.sIx xs.length 0 lo)
noncomputable def rSlU (K : PySem.W.Frag) : V → Option Int → Option Int → Hp → VK → Prop := fun x lo hi H Q => rSlL K x lo hi H Q ∨ rSlT K x lo hi H Q ∨ rSlW K x lo hi H Q
theorem sl_u {X : Cx} {K : PySem.W.Frag} (h : X.K = K) : SlR X (rSlU K) := h ▸ sl_list.or (sl_tup.or sl_wholeT)
noncomputable def uSl : U → Option Int → Option Int → Option U
  | .lst us, lo, hi => some (.lst (cutG us lo hi))
  | .tup us, lo, hi => some (.tup (cutG us lo hi))
  | _, _, _ => none
noncomputable def uSlL : U → Option Int → Option Int → Option U
  | .lst us, lo, hi => some (.lst (cutG us lo hi))
  | _, _, _ => none
noncomputable def eSl (g : U → Option Int → Option Int → Option U) (fa : Ef) (fl fh : Pf) : Ef := fun ρ ω => (fa ρ ω).bnd fun a ω1 => (fl ρ ω1).bnd fun l ω2 => (fh ρ ω2).bnd fun h ω3 => .of (g a l h) ω3
theorem cut_r {H : Hp} {us : List U} {vs : List V} {lo hi : Option Int} (r : RUs W H us vs) : RUs W H (cutG us lo hi) (cutV vs lo hi) := by
  unfold cutG cutV
  rw [← r.len]
  exact (r.drop _).take _
theorem de_sl {tl th : TO} {fl fh : Pf} (ha : DB W m E ta fa) (hl : DP W m E tl fl) (hh : DP W m E th fh) : DE W m E (tSl (rSlU W.K) ta tl th) (eSl uSl fa fl fh) := by
  intro H0 ρ ω σ Hc H ow S Q h
  refine ha H0 ρ ω σ Hc H ow S _ ((Aft.bnd h).imp fun a ω1 Hc1 H1 e1 p1 h1 x rx => ?_)
  have S1 := S.ext e1 p1
  refine hl H0 ρ ω1 σ Hc1 H1 ow S1 _ ((Aft.bnd h1).imp fun l ω2 Hc2 H2 e2 p2 h2 => ?_)
  refine hh H0 ρ ω2 σ Hc2 H2 ow (S1.ext e2 p2) _ ((Aft.bnd h2).imp fun hi ω3 Hc3 H3 e3 p3 h3 => ?_)
  have rx3 := (rx.ext e2).ext e3
  have s := e3.sub
  revert h3
  cases a with
  | lst us =>
    intro h3
    obtain ⟨a, vs, rfl, q1, r1⟩ := rx3.lst s
    exact .inl ⟨a, vs, rfl, .of q1, fun p n => h3 _ _ (laid_e s p3 n).1 (laid_e s p3 n).2 _ (.lst upd_same ((cut_r r1).mono (Same.laid (s.free n))))⟩
  | tup us =>
    intro h3
    obtain ⟨a, vs, rfl, q1, r1⟩ := rx3.tup
    by_cases z : HT.sIx vs.length 0 l = 0 ∧ HT.sIx vs.length vs.length hi = vs.length
    · refine .inr (.inr ⟨a, vs, rfl, .of (s _ _ q1), z, h3 Hc3 H3 (Ext.refl s) p3 _ (.tup q1 ?_)⟩)
      have e : cutV vs l hi = vs := by unfold cutV; rw [z.1, z.2]; simp
      have r2 := cut_r (lo := l) (hi := hi) r1
      rw [e] at r2
      exact r2
    · exact .inr (.inl ⟨a, vs, rfl, .of (s _ _ q1), z, fun p n => h3 _ _ (laid_e s p3 n).1 (laid_e s p3 n).2 _ (.tup upd_same ((cut_r r1).mono (Same.laid (s.free n))))⟩)
  | _ => exact fun h3 => h3.elim
mutual
noncomputable def U.toD : U → Option D
  | .non => some .non
  | .bl b => some (.bl b)
  | .int i => some (.int i)
  | .str x => some (.str x)
  | .tup xs => (U.toDs xs).map D.tup
  | _ => none
noncomputable def U.toDs : List U → Option (List D)
  | [] => some []
  | u :: us => (U.toD u).bind fun d => (U.toDs us).map fun ds => d :: ds
end
mutual
theorem toD_r {H : Hp} : ∀ {u : U} {v : V} {d : D}, u.toD = some d → RU W H u v → DV W.K H d v
  | .non, _, _, e, h => by rw [U.toD] at e; cases e; rw [RU] at h; rw [DV]; exact h
  | .bl _, _, _, e, h => by rw [U.toD] at e; cases e; rw [RU] at h; rw [DV]; exact h
  | .int _, _, _, e, h => by rw [U.toD] at e; cases e; rw [RU] at h; rw [DV]; exact h
  | .str _, _, _, e, h => by rw [U.toD] at e; cases e; rw [RU] at h; rw [DV]; exact h
  | .tup xs, _, d, e, h => by
    rw [U.toD] at e
    cases q : U.toDs xs with
    | none => rw [q] at e; cases e
    | some ds =>
      rw [q] at e; cases e
      rw [RU] at h
      obtain ⟨a, vs, e1, h1, r1⟩ := h
      rw [DV]
      exact ⟨a, vs, e1, .of h1, toDs_r q r1⟩
  | .ty _, _, _, e, h => by rw [U.toD] at e; cases e; all_goals (intros; contradiction)
  | .nm _, _, _, e, h => by rw [U.toD] at e; cases e; all_goals (intros; contradiction)
  | .exc _ _, _, _, e, h => by rw [U.toD] at e; cases e; all_goals (intros; contradiction)
  | .pile, _, _, e, h => by rw [U.toD] at e; cases e; all_goals (intros; contradiction)
  | .lst _, _, _, e, h => by rw [U.toD] at e; cases e; all_goals (intros; contradiction)
  | .scr _, _, _, e, h => by rw [U.toD] at e; cases e; all_goals (intros; contradiction)
  | .dic _ _, _, _, e, h => by rw [U.toD] at e; cases e; all_goals (intros; contradiction)
theorem toDs_r {H : Hp} : ∀ {us : List U} {vs : List V} {ds : List D}, U.toDs us = some ds → RUs W H us vs → DVs W.K H ds vs
  | [], _, _, e, h => by rw [U.toDs] at e; cases e; rw [RUs] at h; rw [DVs]; exact h
  | u :: us, _, ds, e, h => by
    rw [U.toDs] at e
    cases q : U.toD u with
    | none => rw [q] at e; cases e
    | some d =>
      cases q2 : U.toDs us with
      | none => rw [q, q2] at e; cases e
      | some ds2 =>
        rw [q, q2] at e; cases e
        rw [RUs] at h
        obtain ⟨v, r, e1, h1, r1⟩ := h
        rw [DVs]
        exact ⟨v, r, e1, toD_r q h1, toDs_r q2 r1⟩
end
noncomputable def uEqs (a b : List U) : Option Bool := (U.toDs a).bind fun d => (U.toDs b).bind fun e => if D.depths d ≤ 40 then some (D.eqs d e) else none
noncomputable def uEqI (a : Int) : U → Option Bool
  | .int b => some (decide (a = b))
  | .non => some false
  | .str _ => some false
  | _ => none
noncomputable def uEqK (a : Bool) : U → Option Bool
  | .bl b => some (decide (a = b))
  | .non => some false
  | .str _ => some false
  | _ => none
noncomputable def uEqS (a : Str) : U → Option Bool
  | .str b => some (decide (a = b))
  | .non => some false
  | .int _ => some false
  | .bl _ => some false
  | _ => none
noncomputable def uEqN : U → Option Bool
  | .non => some true
  | .int _ => some false
  | .bl _ => some false
  | .str _ => some false
  | _ => none
noncomputable def uEqT (a : List U) : U → Option Bool
  | .tup b => uEqs a b
  | _ => none
noncomputable def uEqL (a : List U) : U → Option Bool
  | .lst b => uEqs a b
  | _ => none
noncomputable def uEqB : U → U → Option Bool
  | .tup a => uEqT a
  | .lst a => uEqL a
  | .int a => uEqI a
  | .bl a => uEqK a
  | .str a => uEqS a
  | .non => uEqN
  | _ => fun ψ => none
noncomputable def uEq (a b : U) : Option U := (uEqB a b).map U.bl
noncomputable def uNe (a b : U) : Option U := (uEqB a b).map fun k => U.bl (!k)
theorem uEqs_q {Hc H : Hp} {a b : List U} {k : Bool} {vs ws : List V} (s : Same Hc H) (h : uEqs a b = some k) (r1 : RUs W Hc a vs) (r2 : RUs W Hc b ws) : ∃ d e, DVs W.K H d vs ∧ DVs W.K H e ws ∧ D.depths d ≤ 40 ∧ k = D.eqs d e := by
  unfold uEqs at h
  cases q : U.toDs a with
  | none => rw [q] at h; cases h
  | some d =>
    cases q2 : U.toDs b with
    | none => rw [q, q2] at h; cases h
    | some e =>
      rw [q, q2] at h
      simp only [Option.bind_some] at h
      split at h
      · cases h; exact ⟨d, e, toDs_r q (r1.mono s), toDs_r q2 (r2.mono s), by assumption, rfl⟩
      · cases h
theorem noS {α : Type} {a : α} {G : Prop} (h : (none : Option α) = some a) : G := nomatch h
theorem eqB_q {ω : Om} {Hc H : Hp} {u1 u2 : U} {k : Bool} {x y : V} {Q : VK} (s : Same Hc H) (rx : RB W Hc H u1 x) (ry : RB W Hc H u2 y) (h : uEqB u1 u2 = some k) :
    (Q (.bl k) H → rEqA W.K x y H Q) ∧ (Q (.bl (!k)) H → rNeA W.K x y H Q) := by
  have no : ∀ {v : V}, y = v → scal x v = true → k = decide (x = v) → (Q (.bl k) H → rEqA W.K x y H Q) ∧ (Q (.bl (!k)) H → rNeA W.K x y H Q) := fun e z d => by
    subst e; rw [d]; exact ⟨fun q => .inl ⟨z, q⟩, fun q => .inl ⟨z, q⟩⟩
  cases u1 with
  | tup a1 =>
    cases u2 with
    | tup b1 =>
      obtain ⟨a, vs, rfl, h1, r1⟩ := rx.tup
      obtain ⟨b, ws, rfl, h2, r2⟩ := ry.tup
      obtain ⟨d, e, q1, q2, q3, rfl⟩ := uEqs_q s h r1 r2
      have d1 : DV W.K H (.tup d) (.ref a) := by rw [DV]; exact ⟨a, vs, rfl, .of (s _ _ h1), q1⟩
      have d2 : DV W.K H (.tup e) (.ref b) := by rw [DV]; exact ⟨b, ws, rfl, .of (s _ _ h2), q2⟩
      exact ⟨fun q => .inr (.inl ⟨d, e, d1, d2, q3, q⟩), fun q => .inr (.inl ⟨d, e, d1, d2, q3, q⟩)⟩
    | _ => exact noS h
  | lst a1 =>
    cases u2 with
    | lst b1 =>
      obtain ⟨a, vs, rfl, h1, r1⟩ := rx.lst s
      obtain ⟨b, ws, rfl, h2, r2⟩ := ry.lst s
      obtain ⟨d, e, q1, q2, q3, rfl⟩ := uEqs_q s h r1 r2
      exact ⟨fun q => .inr (.inr ⟨a, b, vs, ws, d, e, rfl, rfl, .of h1, .of h2, q1, q2, q3, q⟩), fun q => .inr (.inr ⟨a, b, vs, ws, d, e, rfl, rfl, .of h1, .of h2, q1, q2, q3, q⟩)⟩
    | _ => exact noS h
  | int a =>
    have := rx.int; subst this
    cases u2 with
    | int b => cases h; exact no ry.int rfl (by simp)
    | non => cases h; exact no ry.non rfl rfl
    | str b => cases h; exact no ry.str rfl rfl
    | _ => exact noS h
  | bl a =>
    have := rx.bl; subst this
    cases u2 with
    | bl b => cases h; exact no ry.bl rfl (by simp)
    | non => cases h; exact no ry.non rfl rfl
    | str b => cases h; exact no ry.str rfl rfl
    | _ => exact noS h
  | str a =>
    have := rx.str; subst this
    cases u2 with
    | str b => cases h; exact no ry.str rfl (by simp)
    | non => cases h; exact no ry.non rfl rfl
    | int b => cases h; exact no ry.int rfl rfl
    | bl b => cases h; exact no ry.bl rfl rfl
    | _ => exact noS h
  | non =>
    have := rx.non; subst this
    cases u2 with
    | non => cases h; exact no ry.non rfl rfl
    | int b => cases h; exact no ry.int rfl rfl
    | bl b => cases h; exact no ry.bl rfl rfl
    | str b => cases h; exact no ry.str rfl rfl
    | _ => exact noS h
  | _ => exact noS h
theorem ou_eq : OpU W (rEqA W.K) uEq := by
  intro Hc H ω u1 u2 x y s p rx ry u e Q k
  unfold uEq at e
  cases q : uEqB u1 u2 with
  | none => rw [q] at e; cases e
  | some b => rw [q] at e; cases e; exact (eqB_q (ω := ω) s rx ry q).1 (k _ Hc H (Ext.refl s) p .bl)
theorem ou_ne : OpU W (rNeA W.K) uNe := by
  intro Hc H ω u1 u2 x y s p rx ry u e Q k
  unfold uNe at e
  cases q : uEqB u1 u2 with
  | none => rw [q] at e; cases e
  | some b => rw [q] at e; cases e; exact (eqB_q (ω := ω) s rx ry q).2 (k _ Hc H (Ext.refl s) p .bl)
theorem op_eqK {X : Cx} {K : PySem.W.Frag} (h : X.K = K) (hu : X.A.units + 64 < cLine) : OpR X (compareOp .Eq) (rEqA K) := h ▸ op_eqA hu
theorem op_neK {X : Cx} {K : PySem.W.Frag} (h : X.K = K) (hu : X.A.units + 64 < cLine) : OpR X (compareOp .NotEq) (rNeA K) := h ▸ op_neA hu
noncomputable def isNon : U → Bool
  | .non => true
  | _ => false
noncomputable def uIs (neg : Bool) : U → U → Option U
  | a, .non => some (.bl (if neg then !isNon a else isNon a))
  | _, _ => none
theorem non_iff {Hc H : Hp} {u : U} {x : V} (r : RB W Hc H u x) : decide (x = .non) = isNon u := by
  rcases r with r | ⟨us, a, vs, rfl, rfl, _⟩
  · cases u with
    | non => rw [RU] at r; subst r; rfl
    | bl b => rw [RU] at r; subst r; rfl
    | int b => rw [RU] at r; subst r; rfl
    | str b => rw [RU] at r; subst r; rfl
    | ty b => rw [RU] at r; subst r; rfl
    | nm b => rw [RU] at r; obtain ⟨a, rfl, _⟩ := r; rfl
    | exc c pl => cases pl with
      | none => rw [RU] at r; obtain ⟨a, C, rfl, _⟩ := r; rfl
      | some n => rw [RU] at r; obtain ⟨a, C, d, rfl, _⟩ := r; rfl
    | pile => rw [RU] at r; subst r; rfl
    | tup b => rw [RU] at r; obtain ⟨a, vs, rfl, _⟩ := r; rfl
    | lst b => rw [RU] at r; obtain ⟨a, vs, rfl, _⟩ := r; rfl
    | scr b => rw [RU] at r; obtain ⟨a, rfl, _⟩ := r; rfl
    | dic b c => rw [RU] at r; obtain ⟨a, kvs, rfl, _⟩ := r; rfl
  · rfl
theorem ou_isnot : OpU W (fun x y H Q => y = .non ∧ Q (.bl (!decide (x = .non))) H) (uIs true) := by
  intro Hc H ω u1 u2 x y s p rx ry u e Q k
  unfold uIs at e; split at e
  · cases e; exact ⟨ry.non, by rw [non_iff rx]; exact k _ Hc H (Ext.refl s) p .bl⟩
  · cases e
end
section
variable {W : Wd} {m : Md} {E : XK} {ta tb tc : TE} {fa fb fc : Ef} {tt tt' : TT} {ft ft' : Tf} {i : Nat} {r r' : R2} {g g' : U → U → Option U} {bs : List Bool} {tr : TA} {fr : Af}
noncomputable def asB : U → Option Bool
  | .bl b => some b
  | _ => none
noncomputable def tfB (fa : Ef) : Tf := fun ρ ω => (fa ρ ω).bnd fun u ω1 => .of (asB u) ω1
theorem dt_b (ha : DB W m E ta fa) : DT W m E (tB ta) (tfB fa) := by
  intro H0 ρ ω σ Hc H ow S Q h
  refine ha H0 ρ ω σ Hc H ow S _ ((Aft.bnd h).imp fun a ω1 Hc1 H1 e1 p1 h1 x rx => ?_)
  revert h1
  cases a with
  | bl b => intro h1; have := rx.bl; subst this; exact ⟨b, rfl, h1 Hc1 H1 (Ext.refl e1.sub) p1⟩
  | _ => exact fun h1 => h1.elim
theorem dt_t (ha : DB W m E ta fa) : DT W m E (tTest ta) (tfB fa) := dt_b ha
noncomputable def tfAnd (ft ft' : Tf) : Tf := fun ρ ω => (ft ρ ω).bnd fun b ω1 => if b = true then ft' ρ ω1 else .ok false ω1
noncomputable def tfOr (ft ft' : Tf) : Tf := fun ρ ω => (ft ρ ω).bnd fun b ω1 => if b = true then .ok true ω1 else ft' ρ ω1
noncomputable def tfNot (ft : Tf) : Tf := fun ρ ω => (ft ρ ω).bnd fun b ω1 => .ok (!b) ω1
noncomputable def tfTrue : Tf := fun ψ ω => .ok true ω
theorem dt_true : DT W m E tTrue tfTrue := fun H0 ρ ω σ Hc H ow S Q k => k Hc H (Ext.refl S.sub) S.pl
theorem dt_and (h1 : DT W m E tt ft) (h2 : DT W m E tt' ft') : DT W m E (tAnd tt tt') (tfAnd ft ft') := by
  intro H0 ρ ω σ Hc H ow S Q h
  refine h1 H0 ρ ω σ Hc H ow S _ ((Aft.bnd h).imp fun b ω1 Hc1 H1 e1 p1 k => ?_)
  cases b with
  | true => exact h2 H0 ρ ω1 σ Hc1 H1 ow (S.ext e1 p1) Q k
  | false => exact k Hc1 H1 (Ext.refl e1.sub) p1
theorem dt_or (h1 : DT W m E tt ft) (h2 : DT W m E tt' ft') : DT W m E (tOr tt tt') (tfOr ft ft') := by
  intro H0 ρ ω σ Hc H ow S Q h
  refine h1 H0 ρ ω σ Hc H ow S _ ((Aft.bnd h).imp fun b ω1 Hc1 H1 e1 p1 k => ?_)
  cases b with
  | false => exact h2 H0 ρ ω1 σ Hc1 H1 ow (S.ext e1 p1) Q k
  | true => exact k Hc1 H1 (Ext.refl e1.sub) p1
theorem dt_not (h1 : DT W m E tt ft) : DT W m E (tNot tt) (tfNot ft) := by
  intro H0 ρ ω σ Hc H ow S Q h
  exact h1 H0 ρ ω σ Hc H ow S _ ((Aft.bnd h).imp fun b ω1 Hc1 H1 e1 p1 k => k Hc1 H1 (Ext.refl e1.sub) p1)
noncomputable def eAnd (fa fb : Ef) : Ef := fun ρ ω => (fa ρ ω).bnd fun u ω1 => match u with
  | .bl b => if b = true then fb ρ ω1 else .ok (.bl false) ω1
  | _ => .stk
noncomputable def eOr (fa fb : Ef) : Ef := fun ρ ω => (fa ρ ω).bnd fun u ω1 => match u with
  | .bl b => if b = true then .ok (.bl true) ω1 else fb ρ ω1
  | _ => .stk
theorem de_or (h1 : DB W m E ta fa) (h2 : DE W m E tb fb) : DE W m E (tOrV ta tb) (eOr fa fb) := by
  intro H0 ρ ω σ Hc H ow S Q h
  refine h1 H0 ρ ω σ Hc H ow S _ ((Aft.bnd h).imp fun u ω1 Hc1 H1 e1 p1 k x rx => ?_)
  revert k
  cases u with
  | bl b =>
    intro k
    have := rx.bl; subst this
    refine ⟨b, rfl, ?_⟩
    cases b with
    | false => exact h2 H0 ρ ω1 σ Hc1 H1 ow (S.ext e1 p1) Q k
    | true => exact k Hc1 H1 (Ext.refl e1.sub) p1 _ .bl
  | _ => exact fun k => k.elim
noncomputable def eIf (ft : Tf) (fa fb : Ef) : Ef := fun ρ ω => (ft ρ ω).bnd fun b ω1 => if b = true then fa ρ ω1 else fb ρ ω1
theorem de_if (h1 : DT W m E tt ft) (h2 : DE W m E ta fa) (h3 : DE W m E tb fb) : DE W m E (tIf tt ta tb) (eIf ft fa fb) := by
  intro H0 ρ ω σ Hc H ow S Q h
  refine h1 H0 ρ ω σ Hc H ow S _ ((Aft.bnd h).imp fun b ω1 Hc1 H1 e1 p1 k => ?_)
  cases b with
  | true => exact h2 H0 ρ ω1 σ Hc1 H1 ow (S.ext e1 p1) Q k
  | false => exact h3 H0 ρ ω1 σ Hc1 H1 ow (S.ext e1 p1) Q k
noncomputable def eChain (g g' : U → U → Option U) (fa fb fc : Ef) : Ef := fun ρ ω => (fa ρ ω).bnd fun a ω1 => (fb ρ ω1).bnd fun b ω2 => match g a b with
  | some (.bl k) => if k = true then (fc ρ ω2).bnd fun c ω3 => .of (g' b c) ω3 else .ok (.bl false) ω2
  | _ => .stk
theorem de_chain (o : OpU W r g) (o' : OpU W r' g') (ha : DB W m E ta fa) (hb : DB W m E tb fb) (hc : DB W m E tc fc) : DE W m E (tChain r r' ta tb tc) (eChain g g' fa fb fc) := by
  intro H0 ρ ω σ Hc H ow S Q h
  refine ha H0 ρ ω σ Hc H ow S _ ((Aft.bnd h).imp fun a ω1 Hc1 H1 e1 p1 h1 x rx => ?_)
  have S1 := S.ext e1 p1
  refine hb H0 ρ ω1 σ Hc1 H1 ow S1 _ ((Aft.bnd h1).imp fun b ω2 Hc2 H2 e2 p2 h2 y ry => ?_)
  have S2 := S1.ext e2 p2
  revert h2
  cases hg : g a b with
  | none => exact fun h2 => h2.elim
  | some u =>
    cases u with
    | bl k =>
      intro h2
      refine o Hc2 H2 ω2 a b x y e2.sub p2 (rx.ext e2) ry _ hg _ fun v Hc3 H3 e3 p3 rv => ?_
      rw [RU] at rv
      refine ⟨k, rv, ?_⟩
      cases k with
      | false => exact h2 Hc3 H3 e3 p3 _ .bl
      | true =>
        rw [if_pos rfl]
        refine hc H0 ρ ω2 σ Hc3 H3 ow (S2.ext e3 p3) _ ((Aft.bnd (Aft.ext e3 h2)).imp fun c ω3 Hc4 H4 e4 p4 h4 z rz => ?_)
        revert h4
        cases hg' : g' b c with
        | none => exact fun h4 => h4.elim
        | some u => exact fun h4 => o' Hc4 H4 ω3 b c y z e4.sub p4 ((ry.ext e3).ext e4) rz u hg' Q fun v Hc' H' e p rv => h4 Hc' H' e p v rv
    | _ => exact fun h2 => h2.elim
theorem RBs.ext {Hc H Hc' H' : Hp} (e : Ext W Hc H Hc' H') : ∀ {bs : List Bool} {us : List U} {vs : List V}, RBs W Hc H bs us vs → RBs W Hc' H' bs us vs
  | [], [], [], _ => trivial
  | b :: bs, u :: us, v :: vs, h => by
    unfold RBs at h ⊢
    refine ⟨?_, RBs.ext e h.2⟩
    have h1 := h.1
    cases b with
    | true => exact RB.ext h1 e
    | false => exact RU.mono e.sc h1
  | [], _ :: _, _, h => by unfold RBs at h; exact h.elim
  | [], [], _ :: _, h => by unfold RBs at h; exact h.elim
  | _ :: _, [], _, h => by unfold RBs at h; exact h.elim
  | _ :: _, _ :: _, [], h => by unfold RBs at h; exact h.elim
noncomputable def aNil : Af := fun ψ ω => .ok [] ω
noncomputable def aCons (fa : Ef) (fr : Af) : Af := fun ρ ω => (fa ρ ω).bnd fun u ω1 => (fr ρ ω1).bnd fun us ω2 => .ok (u :: us) ω2
theorem da_nil : DA W m E [] tNil aNil := fun H0 ρ ω σ Hc H ow S Q k => k Hc H (Ext.refl S.sub) S.pl [] trivial
theorem da_b (ha : DB W m E ta fa) (hr : DA W m E bs tr fr) : DA W m E (true :: bs) (tCons ta tr) (aCons fa fr) := by
  intro H0 ρ ω σ Hc H ow S Q h
  refine ha H0 ρ ω σ Hc H ow S _ ((Aft.bnd h).imp fun u ω1 Hc1 H1 e1 p1 h1 x rx => ?_)
  refine hr H0 ρ ω1 σ Hc1 H1 ow (S.ext e1 p1) _ ((Aft.bnd h1).imp fun us ω2 Hc2 H2 e2 p2 h2 xs rs => ?_)
  exact h2 Hc2 H2 (Ext.refl e2.sub) p2 _ ⟨rx.ext e2, rs⟩
theorem da_e (ha : DE W m E ta fa) (hr : DA W m E bs tr fr) : DA W m E (false :: bs) (tCons ta tr) (aCons fa fr) := by
  intro H0 ρ ω σ Hc H ow S Q h
  refine ha H0 ρ ω σ Hc H ow S _ ((Aft.bnd h).imp fun u ω1 Hc1 H1 e1 p1 h1 x rx => ?_)
  refine hr H0 ρ ω1 σ Hc1 H1 ow (S.ext e1 p1) _ ((Aft.bnd h1).imp fun us ω2 Hc2 H2 e2 p2 h2 xs rs => ?_)
  exact h2 Hc2 H2 (Ext.refl e2.sub) p2 _ ⟨rx.mono e2.sc, rs⟩
noncomputable def offs : List Bool → Bool
  | [] => true
  | b :: bs => !b && offs bs
theorem RBs.off {Hc H : Hp} : ∀ {bs : List Bool} {us : List U} {vs : List V}, offs bs = true → RBs W Hc H bs us vs → RUs W Hc us vs
  | [], [], [], _, _ => .nil
  | b :: bs, u :: us, v :: vs, o, h => by
    unfold RBs at h
    unfold offs at o
    simp only [Bool.and_eq_true, Bool.not_eq_true'] at o
    have h1 := h.1
    rw [o.1] at h1
    exact .cons h1 (RBs.off o.2 h.2)
  | [], _ :: _, _, _, h => by unfold RBs at h; exact h.elim
  | [], [], _ :: _, _, h => by unfold RBs at h; exact h.elim
  | _ :: _, [], _, _, h => by unfold RBs at h; exact h.elim
  | _ :: _, _ :: _, [], _, h => by unfold RBs at h; exact h.elim
open Classical in
noncomputable def mkT (us : List U) : Option U := if us.length ≤ sizeLine then some (.tup us) else none
open Classical in
noncomputable def mkL (us : List U) : Option U := if us.length ≤ sizeLine then some (.lst us) else none
open Classical in
noncomputable def eTup (fr : Af) : Ef := fun ρ ω => (fr ρ ω).bnd fun us ω1 => .of (mkT us) ω1
open Classical in
noncomputable def eLst (fr : Af) : Ef := fun ρ ω => (fr ρ ω).bnd fun us ω1 => .of (mkL us) ω1
theorem de_tup (ho : offs bs = true) (hr : DA W m E bs tr fr) : DE W m E (tTup tr) (eTup fr) := by
  intro H0 ρ ω σ Hc H ow S Q h
  refine hr H0 ρ ω σ Hc H ow S _ ((Aft.bnd h).imp fun us ω1 Hc1 H1 e1 p1 h1 xs rs => ?_)
  have rr := rs.off ho
  revert h1
  unfold mkT
  split
  · rename_i hl
    intro h1
    exact ⟨by rw [← rr.len]; exact hl, fun p n => h1 _ _ (laid_e e1.sub p1 n).1 (laid_e e1.sub p1 n).2 _ (.tup upd_same (rr.mono (Same.laid (e1.sub.free n))))⟩
  · exact fun h1 => h1.elim
theorem df_lst (ho : offs bs = true) (hr : DA W m E bs tr fr) : DF W m E (tLst tr) (eLst fr) := by
  intro H0 ρ ω σ Hc H ow S Q h
  refine hr H0 ρ ω σ Hc H ow S _ ((Aft.bnd h).imp fun us ω1 Hc1 H1 e1 p1 h1 xs rs => ?_)
  have rr := rs.off ho
  revert h1
  unfold mkL
  split
  · rename_i hl
    intro h1
    exact ⟨by rw [← rr.len]; exact hl, fun p n => h1 _ _ (laid_f e1.sub p1 n).1 (laid_f e1.sub p1 n).2 _ _ _ rfl (e1.sub.free n) (e1.frz' n) upd_same rr⟩
  · exact fun h1 => h1.elim
noncomputable def CallU (W : Wd) (bs : List Bool) (r : List V → Hp → VK → Prop) (g : List U → Option U) : Prop := ∀ Hc H ω us vs, Same Hc H → PlOk W ω Hc H → RBs W Hc H bs us vs → ∀ u, g us = some u → ∀ Q : VK, (∀ v Hc' H', Ext W Hc H Hc' H' → PlOk W ω Hc' H' → RU W Hc' u v → Q v H') → r vs H Q
noncomputable def CallF (W : Wd) (bs : List Bool) (r : List V → Hp → VK → Prop) (g : List U → Option U) : Prop := ∀ Hc H ω us vs, Same Hc H → PlOk W ω Hc H → RBs W Hc H bs us vs → ∀ u, g us = some u → ∀ Q : VK, (∀ us a vs Hc' H', Ext W Hc H Hc' H' → PlOk W ω Hc' H' → u = .lst us → Hc' a = none → H a = none → H' a = some (.lst vs) → RUs W Hc' us vs → Q (.ref a) H') → r vs H Q
noncomputable def eB (g : List U → Option U) (fr : Af) : Ef := fun ρ ω => (fr ρ ω).bnd fun us ω1 => .of (g us) ω1
theorem de_cb {q : List V → Hp → VK → Prop} {g : List U → Option U} (o : CallU W bs q g) (hr : DA W m E bs tr fr) : DE W m E (tCB q tr) (eB g fr) := by
  intro H0 ρ ω σ Hc H ow S Q h
  refine hr H0 ρ ω σ Hc H ow S _ ((Aft.bnd h).imp fun us ω1 Hc1 H1 e1 p1 h1 xs rs => ?_)
  revert h1
  cases hg : g us with
  | none => exact fun h1 => h1.elim
  | some u => exact fun h1 => o Hc1 H1 ω1 us xs e1.sub p1 rs u hg Q fun v Hc' H' e p rv => h1 Hc' H' e p v rv
theorem df_cb {q : List V → Hp → VK → Prop} {g : List U → Option U} (o : CallF W bs q g) (hr : DA W m E bs tr fr) : DF W m E (tCB q tr) (eB g fr) := by
  intro H0 ρ ω σ Hc H ow S Q h
  refine hr H0 ρ ω σ Hc H ow S _ ((Aft.bnd h).imp fun us ω1 Hc1 H1 e1 p1 h1 xs rs => ?_)
  revert h1
  cases hg : g us with
  | none => exact fun h1 => h1.elim
  | some u => exact fun h1 => o Hc1 H1 ω1 us xs e1.sub p1 rs u hg Q fun us a vs Hc' H' e p q1 q2 q3 q4 q5 => h1 Hc' H' e p us a vs q1 q2 (e1.frz' q3) q4 q5
theorem RBs.one {Hc H : Hp} {u : U} {vs : List V} (h : RBs W Hc H [true] [u] vs) : ∃ v, vs = [v] ∧ RB W Hc H u v := by
  match vs, h with
  | [], h => unfold RBs at h; exact h.elim
  | [v], h => unfold RBs at h; exact ⟨v, rfl, h.1⟩
  | v :: w :: r, h => unfold RBs at h; have h2 := h.2; unfold RBs at h2; exact h2.elim
theorem RBs.two {Hc H : Hp} {u u' : U} {vs : List V} (h : RBs W Hc H [true, true] [u, u'] vs) : ∃ v v', vs = [v, v'] ∧ RB W Hc H u v ∧ RB W Hc H u' v' := by
  match vs, h with
  | [], h => unfold RBs at h; exact h.elim
  | v :: r, h =>
    unfold RBs at h
    obtain ⟨v', e, q⟩ := RBs.one h.2
    exact ⟨v, v', by rw [e], h.1, q⟩
noncomputable def uLen : List U → Option U
  | [.lst us] => some (.int us.length)
  | [.tup us] => some (.int us.length)
  | [.scr ns] => some (.int ns.length)
  | _ => none
theorem cu_len : CallU W [true] (rLen W.K) uLen := by
  intro Hc H ω us vs s p rs u e Q k
  unfold uLen at e; split at e
  · cases e; obtain ⟨v, rfl, rv⟩ := rs.one; obtain ⟨a, vs, rfl, h1, r1⟩ := rv.lst s
    exact ⟨a, vs, rfl, .inl (.of h1), by rw [← r1.len]; exact k _ Hc H (Ext.refl s) p .int⟩
  · cases e; obtain ⟨v, rfl, rv⟩ := rs.one; obtain ⟨a, vs, rfl, h1, r1⟩ := rv.tup
    exact ⟨a, vs, rfl, .inr (.of (s _ _ h1)), by rw [← r1.len]; exact k _ Hc H (Ext.refl s) p .int⟩
  · cases e; obtain ⟨v, rfl, rv⟩ := rs.one; obtain ⟨a, rfl, h1⟩ := rv.scr
    exact ⟨a, _, rfl, .inl (s.seq h1), by rw [List.length_map]; exact k _ Hc H (Ext.refl s) p .int⟩
  · cases e
noncomputable def uTuple : List U → Option U
  | [.lst us] => some (.tup us)
  | [.tup us] => some (.tup us)
  | _ => none
theorem cu_tuple : CallU W [true] (rTupOf W.K) uTuple := by
  intro Hc H ω us vs s p rs u e Q k
  unfold uTuple at e; split at e
  · cases e; obtain ⟨v, rfl, rv⟩ := rs.one; obtain ⟨a, vs, rfl, h1, r1⟩ := rv.lst s
    exact ⟨a, vs, rfl, .inl ⟨.of h1, fun l n => k _ _ _ (laid_e s p n).1 (laid_e s p n).2 (.tup upd_same (r1.mono (Same.laid (s.free n))))⟩⟩
  · cases e; obtain ⟨v, rfl, rv⟩ := rs.one; obtain ⟨a, vs, rfl, h1, r1⟩ := rv.tup
    exact ⟨a, vs, rfl, .inr ⟨.of (s _ _ h1), k _ Hc H (Ext.refl s) p (.tup h1 r1)⟩⟩
  · cases e
noncomputable def uList : List U → Option U
  | [.lst us] => some (.lst us)
  | [.tup us] => some (.lst us)
  | [.scr ns] => some (.lst (ns.map U.int))
  | _ => none
theorem cf_list : CallF W [true] (rLstOf W.K) uList := by
  intro Hc H ω us vs s p rs u e Q k
  unfold uList at e; split at e
  · cases e; obtain ⟨v, rfl, rv⟩ := rs.one; obtain ⟨a, vs, rfl, h1, r1⟩ := rv.lst s
    exact ⟨a, vs, rfl, .inl (.of h1), fun l n => k _ _ _ _ _ (laid_f s p n).1 (laid_f s p n).2 rfl (s.free n) n upd_same r1⟩
  · cases e; obtain ⟨v, rfl, rv⟩ := rs.one; obtain ⟨a, vs, rfl, h1, r1⟩ := rv.tup
    exact ⟨a, vs, rfl, .inr (.of (s _ _ h1)), fun l n => k _ _ _ _ _ (laid_f s p n).1 (laid_f s p n).2 rfl (s.free n) n upd_same r1⟩
  · cases e; obtain ⟨v, rfl, rv⟩ := rs.one; obtain ⟨a, rfl, h1⟩ := rv.scr
    exact ⟨a, _, rfl, .inl (s.seq h1), fun l n => k _ _ _ _ _ (laid_f s p n).1 (laid_f s p n).2 rfl (s.free n) n upd_same .ofInts⟩
  · cases e
noncomputable def asInts : List U → Option (List Int)
  | [] => some []
  | .int i :: us => (asInts us).map (i :: ·)
  | _ => none
theorem asInts_map : ∀ ns : List Int, asInts (ns.map U.int) = some ns
  | [] => rfl
  | n :: ns => by rw [List.map_cons, asInts, asInts_map ns]; rfl
theorem asInts_of : ∀ {us : List U} {ns : List Int}, asInts us = some ns → us = ns.map U.int
  | [], ns, h => by cases h; rfl
  | u :: us, ns, h => by
    unfold asInts at h
    split at h
    · rename_i e; cases e
    · rename_i i us' e
      cases e
      cases q : asInts us with
      | none => rw [q] at h; exact noS h
      | some ms => rw [q] at h; cases h; rw [List.map_cons, ← asInts_of q]
    · cases h
noncomputable def asBls : List U → Option (List Bool)
  | [] => some []
  | .bl i :: us => (asBls us).map (i :: ·)
  | _ => none
theorem asBls_of : ∀ {us : List U} {ns : List Bool}, asBls us = some ns → us = ns.map U.bl
  | [], ns, h => by cases h; rfl
  | u :: us, ns, h => by
    unfold asBls at h
    split at h
    · rename_i e; cases e
    · rename_i i us' e
      cases e
      cases q : asBls us with
      | none => rw [q] at h; exact noS h
      | some ms => rw [q] at h; cases h; rw [List.map_cons, ← asBls_of q]
    · cases h
noncomputable def uSum : List U → Option U
  | [.lst us] => (asInts us).map fun ns => .int ns.sum
  | _ => none
noncomputable def uMax2 : List U → Option U
  | [.int a, .int b] => some (.int (max a b))
  | _ => none
theorem cu_max2 : CallU W [true, true] rMax uMax2 := by
  intro Hc H ω us vs s p rs u e Q k
  unfold uMax2 at e; split at e
  · cases e; obtain ⟨v, v', rfl, r1, r2⟩ := rs.two
    have := r1.int; subst this; have := r2.int; subst this
    refine ⟨_, _, rfl, ?_⟩
    rename_i a b
    have z : (if b > a then b else a) = max a b := by split <;> lia
    rw [z]; exact k _ Hc H (Ext.refl s) p .int
  · cases e
noncomputable def uMin2 : List U → Option U
  | [.int a, .int b] => some (.int (min a b))
  | _ => none
theorem cu_min2 : CallU W [true, true] rMin uMin2 := by
  intro Hc H ω us vs s p rs u e Q k
  unfold uMin2 at e; split at e
  · cases e; obtain ⟨v, v', rfl, r1, r2⟩ := rs.two
    have := r1.int; subst this; have := r2.int; subst this
    refine ⟨_, _, rfl, ?_⟩
    rename_i a b
    have z : (if b < a then b else a) = min a b := by split <;> lia
    rw [z]; exact k _ Hc H (Ext.refl s) p .int
  · cases e
noncomputable def rAbs : List V → Hp → VK → Prop := fun xs H Q => ∃ i, xs = [.int i] ∧ Q (.int (if i < 0 then -i else i)) H
theorem call_absU {X : Cx} : CallR X (.builtin "abs") rAbs := call_abs
noncomputable def uAbs : List U → Option U
  | [.int a] => some (.int (if a < 0 then -a else a))
  | _ => none
theorem cu_abs : CallU W [true] rAbs uAbs := by
  intro Hc H ω us vs s p rs u e Q k
  unfold uAbs at e; split at e
  · cases e; obtain ⟨v, rfl, r1⟩ := rs.one
    have := r1.int; subst this
    exact ⟨_, rfl, k _ Hc H (Ext.refl s) p .int⟩
  · cases e
noncomputable def uInt : List U → Option U
  | [.int a] => some (.int a)
  | [.bl b] => some (.int (if b then 1 else 0))
  | _ => none
theorem cu_int : CallU W [true] rInt1 uInt := by
  intro Hc H ω us vs s p rs u e Q k
  unfold uInt at e; split at e
  · cases e; obtain ⟨v, rfl, r1⟩ := rs.one
    have := r1.int; subst this
    exact .inl ⟨_, rfl, k _ Hc H (Ext.refl s) p .int⟩
  · cases e; obtain ⟨v, rfl, r1⟩ := rs.one
    have := r1.bl; subst this
    exact .inr ⟨_, rfl, k _ Hc H (Ext.refl s) p .int⟩
  · cases e
noncomputable def uAny : List U → Option U
  | [.lst us] => (asBls us).map fun ns => .bl (ns.any id)
  | _ => none
theorem cu_any : CallU W [true] (rAny W.K) uAny := by
  intro Hc H ω us vs s p rs u e Q k
  unfold uAny at e; split at e
  · rename_i us'
    cases q : asBls us' with
    | none => rw [q] at e; exact noS e
    | some ns =>
      rw [q] at e; cases e
      obtain ⟨v, rfl, rv⟩ := rs.one; obtain ⟨a, vs, rfl, h1, r1⟩ := rv.lst s
      rw [asBls_of q] at r1
      have e2 := r1.bls; subst e2
      exact ⟨a, ns, rfl, .of h1, k _ Hc H (Ext.refl s) p .bl⟩
  · cases e
noncomputable abbrev Ff := List U → Om → Res U
noncomputable def spU (K : PySem.W.Frag) (mg : L2.SV) (wk : Wd → Prop) (n : Nat) (bs : List Bool) (F : Ff) : Sp := fun vs H Q E => ∃ (W : Wd) (us : List U) (ω : Om) (Hc : Hp), W.K = K ∧ W.mg = mg ∧ wk W ∧ vs.length = n ∧ Same Hc H ∧ PlOk W ω Hc H ∧ RBs W Hc H bs us vs ∧
  Aft W E Hc H (F us ω) (fun u ψ Hc' H' => ∀ v, RU W Hc' u v → Q v H')
noncomputable def eCall (F : Ff) (fr : Af) : Ef := fun ρ ω => (fr ρ ω).bnd F
theorem RBs.len {Hc H : Hp} : ∀ {bs : List Bool} {us : List U} {vs : List V}, RBs W Hc H bs us vs → vs.length = bs.length ∧ us.length = bs.length
  | [], [], [], _ => ⟨rfl, rfl⟩
  | b :: bs, u :: us, v :: vs, h => by unfold RBs at h; simp [(RBs.len h.2).1, (RBs.len h.2).2]
  | [], _ :: _, _, h => by unfold RBs at h; exact h.elim
  | [], [], _ :: _, h => by unfold RBs at h; exact h.elim
  | _ :: _, [], _, h => by unfold RBs at h; exact h.elim
  | _ :: _, _ :: _, [], h => by unfold RBs at h; exact h.elim
theorem de_call {K : PySem.W.Frag} {mg : L2.SV} {wk : Wd → Prop} {F : Ff} (hK : W.K = K) (hm : W.mg = mg) (hw : wk W) (hr : DA W m E bs tr fr) : DE W m E (tCall (spU K mg wk bs.length bs F) [] E tr) (eCall F fr) := by
  intro H0 ρ ω σ Hc H ow S Q h
  refine rd_call (hr H0 ρ ω σ Hc H ow S _ ((Aft.bnd h).imp fun us ω1 Hc1 H1 e1 p1 h1 xs rs => ?_))
  exact ⟨W, us, ω1, Hc1, hK, hm, hw, rs.len.1, e1.sub, p1, rs, h1⟩
end
section
variable {W : Wd} {m : Md} {ρ : En} {ω ω' : Om} {σ : St} {H0 Hc0 Hc H Hc' H' : Hp} {ow : Nat → Addr} {i : Nat} {u : U} {v : V}
theorem set_at {α : Type} {xs : List (Option α)} {i j : Nat} {a u : α} (h : (xs.set i (some a))[j]? = some (some u)) : (j = i ∧ u = a ∧ i < xs.length) ∨ (j ≠ i ∧ xs[j]? = some (some u)) := by
  rw [List.getElem?_set] at h
  by_cases e : i = j
  · subst e
    rw [if_pos rfl] at h
    by_cases l : i < xs.length
    · rw [if_pos l] at h; cases h; exact .inl ⟨rfl, rfl, l⟩
    · rw [if_neg l] at h; cases h
  · rw [if_neg e] at h; exact .inr ⟨fun z => e z.symm, h⟩
theorem at_set {α : Type} {xs : List (Option α)} {i : Nat} {a : α} (h : i < xs.length) : (xs.set i (some a))[i]? = some (some a) := by
  rw [List.getElem?_set, if_pos rfl, if_pos h]
theorem at_set_ne {α : Type} {xs : List (Option α)} {i j : Nat} {a : Option α} (h : j ≠ i) : (xs.set i a)[j]? = xs[j]? := by
  rw [List.getElem?_set, if_neg fun z => h z.symm]
theorem Sr.set (S : Sr W m ρ ω σ H0 Hc H ow) (h1 : i ∉ m.B) (h2 : i ∉ m.M) (r : RU W Hc u v) : Sr W m (ρ.set i (some u)) ω (σ.set i (some v)) H0 Hc H ow := by
  refine ⟨S.sub, S.s0, S.p0, by simp [S.len], S.pl, fun j w n1 n2 h => ?_, fun j w n1 n2 h => ?_, fun j w n h => ?_, fun j k a b n1 n2 ne hj hk => ?_⟩
  · rcases set_at h with ⟨rfl, rfl, l⟩ | ⟨e, h⟩
    · exact ⟨v, at_set (by rw [← S.len]; exact l), r⟩
    · rw [at_set_ne e]; exact S.cl j w n1 n2 h
  · rcases set_at h with ⟨rfl, rfl, l⟩ | ⟨e, h⟩
    · exact absurd n1 h1
    · rw [at_set_ne e]; exact S.bo j w n1 n2 h
  · rcases set_at h with ⟨rfl, rfl, l⟩ | ⟨e, h⟩
    · exact absurd n h2
    · rw [at_set_ne e]; exact S.mu j w n h
  · rcases set_at hj with ⟨rfl, rfl, l⟩ | ⟨e, hj⟩
    · exact absurd n1 h2
    · rcases set_at hk with ⟨rfl, rfl, l⟩ | ⟨e, hk⟩
      · exact absurd n2 h2
      · exact S.di j k a b n1 n2 ne hj hk
theorem Sr.drop (S : Sr W m ρ ω σ H0 Hc H ow) (x : Option V) : Sr W m (ρ.set i none) ω (σ.set i x) H0 Hc H ow := by
  have key : ∀ {j : Nat} {w : U}, (ρ.set i none)[j]? = some (some w) → j ≠ i ∧ ρ[j]? = some (some w) := fun {j w} h => by
    rw [List.getElem?_set] at h
    by_cases e : i = j
    · rw [if_pos e] at h; split at h <;> cases h
    · rw [if_neg e] at h; exact ⟨fun z => e z.symm, h⟩
  refine ⟨S.sub, S.s0, S.p0, by simp [S.len], S.pl, fun j w n1 n2 h => ?_, fun j w n1 n2 h => ?_, fun j w n h => ?_, fun j k a b n1 n2 ne hj hk => S.di j k a b n1 n2 ne (key hj).2 (key hk).2⟩
  · obtain ⟨e, h⟩ := key h; rw [at_set_ne e]; exact S.cl j w n1 n2 h
  · obtain ⟨e, h⟩ := key h; rw [at_set_ne e]; exact S.bo j w n1 n2 h
  · obtain ⟨e, h⟩ := key h; rw [at_set_ne e]; exact S.mu j w n h
theorem Sr.own {a : Addr} {us : List U} {vs : List V} (S : Sr W m ρ ω σ H0 Hc H ow) (hi : i ∈ m.M) (hb : i ∉ m.B) (n1 : Hc a = none) (n0 : H0 a = none) (ha : H a = some (.lst vs)) (r : RUs W Hc us vs) (ap : ∀ j w, j ∈ m.M → j ≠ i → ρ[j]? = some (some w) → ow j ≠ a) :
    Sr W m (ρ.set i (some (.lst us))) ω (σ.set i (some (.ref a))) H0 Hc H (fun j => if j = i then a else ow j) := by
  refine ⟨S.sub, S.s0, S.p0, by simp [S.len], S.pl, fun j w n1 n2 h => ?_, fun j w n1 n2 h => ?_, fun j w n h => ?_, fun j k x y m1 m2 ne hj hk => ?_⟩
  · rcases set_at h with ⟨rfl, rfl, l⟩ | ⟨e, h⟩
    · exact absurd hi n2
    · rw [at_set_ne e]; exact S.cl j w n1 n2 h
  · rcases set_at h with ⟨rfl, rfl, l⟩ | ⟨e, h⟩
    · exact absurd hi n2
    · rw [at_set_ne e]; exact S.bo j w n1 n2 h
  · rcases set_at h with ⟨rfl, rfl, l⟩ | ⟨e, h⟩
    · refine ⟨us, vs, rfl, ?_, ?_, ?_, ?_, r⟩
      · rw [if_pos rfl]; exact at_set (by rw [← S.len]; exact l)
      · rw [if_pos rfl]; exact ha
      · rw [if_pos rfl]; exact n1
      · rw [if_pos rfl]; exact n0
    · obtain ⟨us', vs', z1, z2, z3, z4, z5, z6⟩ := S.mu j w n h
      refine ⟨us', vs', z1, ?_, ?_, ?_, ?_, z6⟩
      · rw [at_set_ne e, if_neg e]; exact z2
      · rw [if_neg e]; exact z3
      · rw [if_neg e]; exact z4
      · rw [if_neg e]; exact z5
  · rcases set_at hj with ⟨rfl, rfl, l⟩ | ⟨e, hj1⟩
    · rcases set_at hk with ⟨rfl, rfl, l⟩ | ⟨e', hk⟩
      · exact absurd rfl ne
      · rw [if_pos rfl, if_neg e']; exact fun z => ap k y m2 e' hk z.symm
    · clear hj
      rcases set_at hk with ⟨e1, e2, l⟩ | ⟨e', hk⟩
      · rw [e1, if_pos rfl, if_neg e]; exact ap j x m1 e (by assumption)
      · rw [if_neg e, if_neg e']; exact S.di j k x y m1 m2 ne hj1 hk
theorem Sr.mut {us us' : List U} {vs' : List V} (S : Sr W m ρ ω σ H0 Hc H ow) (hi : i ∈ m.M) (e : ρ[i]? = some (some (.lst us))) (r : RUs W Hc us' vs') : Sr W m (ρ.set i (some (.lst us'))) ω σ H0 Hc (upd H (ow i) (.lst vs')) ow := by
  obtain ⟨us0, vs0, z1, z2, z3, z4, z5, z6⟩ := S.mu i _ hi e
  have nl := S.nl z5
  have li : i < ρ.length := (List.getElem?_eq_some_iff.mp e).1
  refine ⟨fun b o h => ?_, fun b o n h => ?_, S.p0, by simp [S.len], ⟨W.st _ _ _ S.pl.pl fun b o h hb => ?_, fun b hb => ⟨(S.pl.out b hb).1, ?_⟩⟩, fun j w n1 n2 h => ?_, fun j w n1 n2 h => ?_, fun j w n h => ?_, fun j k x y m1 m2 ne hj hk => ?_⟩
  · rw [upd_ne (fun z => by rw [z, z4] at h; cases h)]; exact S.sub b o h
  · rw [upd_ne (fun z => by rw [z, z5] at h; cases h)]; exact S.s0 b o n h
  · refine (upd_ne fun z => ?_).trans h
    rcases hb with hb | ⟨x, y, hb⟩
    · exact nl (z ▸ hb)
    · rw [z, z3] at h; cases h; cases hb
  · by_cases z : b = ow i
    · rw [z, upd_same]; simp
    · rw [upd_ne z]; exact (S.pl.out b hb).2
  · rcases set_at h with ⟨rfl, rfl, l⟩ | ⟨e', h⟩
    · exact absurd hi n2
    · exact S.cl j w n1 n2 h
  · rcases set_at h with ⟨rfl, rfl, l⟩ | ⟨e', h⟩
    · exact absurd hi n2
    · exact S.bo j w n1 n2 h
  · rcases set_at h with ⟨rfl, rfl, l⟩ | ⟨e', h⟩
    · exact ⟨us', vs', rfl, z2, upd_same, z4, z5, r⟩
    · obtain ⟨us1, vs1, y1, y2, y3, y4, y5, y6⟩ := S.mu j w n h
      exact ⟨us1, vs1, y1, y2, by rw [upd_ne (S.di j i w _ n hi e' h e)]; exact y3, y4, y5, y6⟩
  · rcases set_at hj with ⟨rfl, rfl, l⟩ | ⟨e1, hj1⟩
    · rcases set_at hk with ⟨rfl, rfl, l⟩ | ⟨e2, hk⟩
      · exact absurd rfl ne
      · exact S.di j k _ y m1 m2 ne e hk
    · rcases set_at hk with ⟨e3, e4, l⟩ | ⟨e2, hk⟩
      · rw [e3]; exact S.di j i x _ m1 hi e1 hj1 e
      · exact S.di j k x y m1 m2 ne hj1 hk
theorem Sr.mutE {us : List U} {vs' : List V} (S : Sr W m ρ ω σ H0 Hc H ow) (hi : i ∈ m.M) (e : ρ[i]? = some (some (.lst us))) (x : Ext W Hc0 H0 Hc H) : Ext W Hc0 H0 Hc (upd H (ow i) (.lst vs')) := by
  obtain ⟨us0, vs0, z1, z2, z3, z4, z5, z6⟩ := S.mu i _ hi e
  refine ⟨fun b o n h => ?_, x.sc, fun b o h => ?_, x.new, fun b h => ?_⟩
  · rw [upd_ne (fun z => by rw [z, z5] at h; cases h)]; exact x.same b o n h
  · rw [upd_ne (fun z => by rw [z, z4] at h; cases h)]; exact x.sub b o h
  · by_cases z : b = ow i
    · rw [z, upd_same]; simp
    · rw [upd_ne z]; exact x.frz b h
theorem Sr.freeze (M' : List Nat) (hM : ∀ i ∈ M', i ∈ m.M) (hB : ∀ i ∈ m.M, i ∉ m.B) (S : Sr W m ρ ω σ H0 Hc H ow) (x : Ext W Hc0 H0 Hc H) : ∃ Hc', Sr W ⟨m.B, M'⟩ ρ ω σ H0 Hc' H ow ∧ Ext W Hc0 H0 Hc' H := by
  classical
  let P : Addr → Prop := fun b => ∃ i w, i ∈ m.M ∧ i ∉ M' ∧ ρ[i]? = some (some w) ∧ ow i = b
  have hP : ∀ b, P b → Hc b = none ∧ H0 b = none ∧ b ∉ W.L := fun b ⟨i, w, h1, h2, h3, h4⟩ => by
    obtain ⟨us0, vs0, z1, z2, z3, z4, z5, z6⟩ := S.mu i _ h1 h3
    rw [← h4]; exact ⟨z4, z5, S.nl z5⟩
  have sc : Same Hc (fun b => if P b then H b else Hc b) := fun b o h => by
    have : ¬ P b := fun p => by rw [(hP b p).1] at h; cases h
    show (if P b then H b else Hc b) = _
    rw [if_neg this]; exact h
  refine ⟨fun b => if P b then H b else Hc b, ⟨fun b o h => ?_, S.s0, S.p0, S.len, ⟨S.pl.pl, fun b hb => ⟨?_, (S.pl.out b hb).2⟩⟩, fun j w n1 n2 h => ?_, fun j w n1 n2 h => ?_, fun j w n h => ?_, fun j k a b m1 m2 ne hj hk => S.di j k a b (hM j m1) (hM k m2) ne hj hk⟩, ⟨x.same, fun b o h => sc b o (x.sc b o h), fun b o h => ?_, fun b h1 h2 => ?_, x.frz⟩⟩
  · by_cases p : P b
    · simpa [p] using h
    · simp only [p, if_false] at h; exact S.sub b o h
  · have : ¬ P b := fun p => (hP b p).2.2 hb
    show (if P b then H b else Hc b) = none
    rw [if_neg this]; exact (S.pl.out b hb).1
  · by_cases q : j ∈ m.M
    · obtain ⟨us0, vs0, z1, z2, z3, z4, z5, z6⟩ := S.mu j _ q h
      refine ⟨_, z2, ?_⟩
      subst z1
      exact .lst (by show (if P (ow j) then H (ow j) else Hc (ow j)) = _; rw [if_pos ⟨j, _, q, n2, h, rfl⟩]; exact z3) (z6.mono sc)
    · obtain ⟨v, q1, q2⟩ := S.cl j w n1 q h
      exact ⟨v, q1, q2.mono sc⟩
  · have q : j ∉ m.M := fun z => hB j z n1
    obtain ⟨v, q1, q2⟩ := S.bo j w n1 q h
    refine ⟨v, q1, ?_⟩
    rcases q2 with q2 | ⟨us, a, vs, y1, y2, y3, y4, y5⟩
    · exact .inl (q2.mono sc)
    · exact .inr ⟨us, a, vs, y1, y2, y3, y4, y5.mono sc⟩
  · obtain ⟨us0, vs0, z1, z2, z3, z4, z5, z6⟩ := S.mu j _ (hM j n) h
    refine ⟨us0, vs0, z1, z2, z3, ?_, z5, z6.mono sc⟩
    have : ¬ P (ow j) := fun ⟨k, w', h1, h2, h3, h4⟩ => by
      have ne : k ≠ j := fun z => h2 (z ▸ n)
      exact S.di k j w' w h1 (hM j n) ne h3 h h4
    show (if P (ow j) then H (ow j) else Hc (ow j)) = none
    rw [if_neg this]; exact z4
  · by_cases p : P b
    · simpa [p] using h
    · simp only [p, if_false] at h; exact x.sub b o h
  · have : ¬ P b := fun p => h2 (hP b p).2.1
    show (if P b then H b else Hc b) = none
    rw [if_neg this]; exact x.new b h1 h2
end
section
variable {W : Wd} {m : Md} {E : XK} {ta tb tc te : TE} {fa fb fc fe : Ef} {tt : TT} {ft : Tf} {i : Nat} {r : R2} {g : U → U → Option U} {bs : List Bool} {tr : TA} {fr : Af} {t1 t2 ts : TS} {g1 g2 gs : Sf}
noncomputable def Fl.of {α : Type} (r : Res α) (k : α → Om → Fl) : Fl := match r with
  | .ok a ω => k a ω
  | .err c p ω => .err c p ω
  | .stk => .stk
@[simp] theorem Fl.of_ok {α : Type} {a : α} {ω : Om} {k : α → Om → Fl} : Fl.of (.ok a ω) k = k a ω := rfl
@[simp] theorem Fl.of_err {α : Type} {c : Str} {p : Option Int} {ω : Om} {k : α → Om → Fl} : Fl.of (.err c p ω : Res α) k = .err c p ω := rfl
@[simp] theorem Fl.of_stk {α : Type} {k : α → Om → Fl} : Fl.of (.stk : Res α) k = .stk := rfl
theorem Cont.of {α : Type} {Hc0 H0 Hc H : Hp} {D : Ends} {r : Res α} {k : α → Om → Fl} (x : Ext W Hc0 H0 Hc H) (h : Cont W m E Hc0 H0 D (Fl.of r k)) : Aft W E Hc H r fun a ω ψ ψ => Cont W m E Hc0 H0 D (k a ω) := by
  cases r with
  | ok a ω => exact fun Hc' H' e p => h
  | err c pl ω => exact fun C od Hc' H' e p hm hx => h C od Hc' H' (x.trans e) p hm hx
  | stk => exact h
noncomputable def sSeq (g1 g2 : Sf) : Sf := fun ρ ω => match g1 ρ ω with
  | .nx ρ' ω' => g2 ρ' ω'
  | o => o
theorem ds_seq (h1 : DS W m E t1 g1) (h2 : DS W m E t2 g2) : DS W m E (tSeq t1 t2) (sSeq g1 g2) := by
  intro H0 Hc0 ρ ω σ Hc H ow S x D h
  refine h1 H0 Hc0 ρ ω σ Hc H ow S x { D with nx := t2 D } ?_
  unfold sSeq at h
  revert h
  cases g1 ρ ω with
  | nx ρ' ω' => exact fun h σ' Hc' H' ow' S' x' => h2 H0 Hc0 ρ' ω' σ' Hc' H' ow' S' x' D h
  | _ => exact fun h => h
noncomputable def sNext : Sf := fun ρ ω => .nx ρ ω
theorem ds_next : DS W m E tNext sNext := fun H0 Hc0 ρ ω σ Hc H ow S x D h => h σ Hc H ow S x
noncomputable def sIf (ft : Tf) (g1 g2 : Sf) : Sf := fun ρ ω => Fl.of (ft ρ ω) fun b ω1 => if b = true then g1 ρ ω1 else g2 ρ ω1
theorem ds_if (hc : DT W m E tt ft) (h1 : DS W m E t1 g1) (h2 : DS W m E t2 g2) : DS W m E (tIfS tt t1 t2) (sIf ft g1 g2) := by
  intro H0 Hc0 ρ ω σ Hc H ow S x D h
  refine hc H0 ρ ω σ Hc H ow S _ ((Cont.of x h).imp fun b ω1 Hc1 H1 e1 p1 k => ?_)
  cases b with
  | true => exact h1 H0 Hc0 ρ ω1 σ Hc1 H1 ow (S.ext e1 p1) (x.trans e1) D k
  | false => exact h2 H0 Hc0 ρ ω1 σ Hc1 H1 ow (S.ext e1 p1) (x.trans e1) D k
noncomputable def sSet (i : Nat) (fa : Ef) : Sf := fun ρ ω => Fl.of (fa ρ ω) fun u ω1 => .nx (ρ.set i (some u)) ω1
theorem ds_set (h1 : i ∉ m.B) (h2 : i ∉ m.M) (ha : DE W m E ta fa) : DS W m E (tAsg ta (gName i)) (sSet i fa) := by
  intro H0 Hc0 ρ ω σ Hc H ow S x D h
  refine ha H0 ρ ω σ Hc H ow S _ ((Cont.of x h).imp fun u ω1 Hc1 H1 e1 p1 k v rv => ?_)
  exact k _ Hc1 H1 ow ((S.ext e1 p1).set h1 h2 rv) (x.trans e1)
theorem ds_own (h1 : i ∉ m.B) (h2 : i ∈ m.M) (ha : DF W m E ta fa) : DS W m E (tAsg ta (gName i)) (sSet i fa) := by
  intro H0 Hc0 ρ ω σ Hc H ow S x D h
  refine ha H0 ρ ω σ Hc H ow S _ ((Cont.of x h).imp fun u ω1 Hc1 H1 e1 p1 k us a vs hu n1 n2 ha rr => ?_)
  subst hu
  have S1 := S.ext e1 p1
  have n0 : H0 a = none := by
    cases q : H0 a with
    | none => rfl
    | some o =>
      by_cases l : a ∈ W.L
      · exact absurd n2 (S.pl.out a l).2
      · rw [S.s0 a o l q] at n2; cases n2
  refine k _ Hc1 H1 _ (S1.own h2 h1 n1 n0 ha rr fun j w hj ψ hw z => ?_) (x.trans e1)
  obtain ⟨us0, vs0, z1, z2, z3, z4, z5, z6⟩ := S.mu j _ hj hw
  rw [z, n2] at z3; cases z3
noncomputable def sRet (fa : Ef) : Sf := fun ρ ω => Fl.of (fa ρ ω) fun u ω1 => .rt u ω1
theorem ds_ret (hB : ∀ i ∈ m.M, i ∉ m.B) (ha : DE W ⟨m.B, []⟩ E ta fa) : DS W m E (tRet ta) (sRet fa) := by
  intro H0 Hc0 ρ ω σ Hc H ow S x D h
  obtain ⟨Hf, Sf', xf⟩ := S.freeze [] (fun ψ z => absurd z (by simp)) hB x
  refine ha H0 ρ ω σ Hf H ow Sf' _ ((Cont.of xf h).imp fun u ω1 Hc1 H1 e1 p1 k v rv => ?_)
  exact k v Hc1 H1 (xf.trans e1) p1 rv
noncomputable def sExpr (fa : Ef) : Sf := fun ρ ω => Fl.of (fa ρ ω) fun ψ ω1 => .nx ρ ω1
theorem ds_expr (ha : DB W m E ta fa) : DS W m E (tDrop ta) (sExpr fa) := by
  intro H0 Hc0 ρ ω σ Hc H ow S x D h
  refine ha H0 ρ ω σ Hc H ow S _ ((Cont.of x h).imp fun u ω1 Hc1 H1 e1 p1 k v rv => ?_)
  exact k _ Hc1 H1 ow (S.ext e1 p1) (x.trans e1)
noncomputable def sAug (i : Nat) (g : U → U → Option U) (fa : Ef) : Sf := fun ρ ω => match ρ[i]? with
  | some (some a) => Fl.of (fa ρ ω) fun b ω1 => match g a b with
    | some c => .nx (ρ.set i (some c)) ω1
    | none => .stk
  | _ => .stk
theorem ds_aug (h1 : i ∉ m.B) (h2 : i ∉ m.M) (o : OpU W r g) (ha : DB W m E ta fa) : DS W m E (tAug i ta r) (sAug i g fa) := by
  intro H0 Hc0 ρ ω σ Hc H ow S x D h
  unfold sAug at h
  split at h
  · rename_i a e
    obtain ⟨va, q, ra⟩ := S.get e
    refine ⟨va, q, ha H0 ρ ω σ Hc H ow S _ ((Cont.of x h).imp fun b ω1 Hc1 H1 e1 p1 k y ry => ?_)⟩
    revert k
    cases hg : g a b with
    | none => exact fun k => k.elim
    | some c => exact fun k => o Hc1 H1 ω1 a b va y e1.sub p1 (ra.ext e1) ry c hg _ fun v Hc' H' e p rv => k _ Hc' H' ow (((S.ext e1 p1).ext e p).set h1 h2 rv) ((x.trans e1).trans e)
  · exact h.elim
open Classical in
noncomputable def sApp (i : Nat) (fa : Ef) : Sf := fun ρ ω => match ρ[i]? with
  | some (some (.lst us)) => Fl.of (fa ρ ω) fun u ω1 => if us.length < sizeLine then .nx (ρ.set i (some (.lst (us ++ [u])))) ω1 else .stk
  | _ => .stk
theorem ds_app {K : PySem.W.Frag} (h2 : i ∈ m.M) (ha : DE W m E ta fa) : DS W m E (tDrop (tBM K "list" rAppend (tVar i) (tCons ta tNil))) (sApp i fa) := by
  intro H0 Hc0 ρ ω σ Hc H ow S x D h
  unfold sApp at h
  split at h
  · rename_i us e
    obtain ⟨us0, vs0, z1, z2, z3, z4, z5, z6⟩ := S.mu i _ h2 e
    cases z1
    refine ⟨_, z2, .inl ⟨rfl, vs0, .of z3⟩, ha H0 ρ ω σ Hc H ow S _ ((Cont.of x h).imp fun u ω1 Hc1 H1 e1 p1 k v rv => ?_)⟩
    revert k
    split
    · intro k
      have S1 := S.ext e1 p1
      refine ⟨ow i, vs0, v, rfl, rfl, e1.same _ _ (S.nl z5) z3, by rw [← z6.len]; assumption, ?_⟩
      exact k _ Hc1 _ ow (S1.mut h2 e ((z6.mono e1.sc).app (.one rv))) (S1.mutE h2 e (x.trans e1))
    · exact fun k => k.elim
  · exact h.elim
noncomputable def DG (W : Wd) (m : Md) (g : TG) (a : U → En → Option En) : Prop := ∀ H0 ρ ω σ Hc H ow u v ρ', Sr W m ρ ω σ H0 Hc H ow → RU W Hc u v → a u ρ = some ρ' → ∀ Q : St → Hp → Prop, (∀ σ', Sr W m ρ' ω σ' H0 Hc H ow → Q σ' H) → g v σ H Q
noncomputable def DGs (W : Wd) (m : Md) (g : TGs) (a : List U → En → Option En) : Prop := ∀ H0 ρ ω σ Hc H ow us vs ρ', Sr W m ρ ω σ H0 Hc H ow → RUs W Hc us vs → a us ρ = some ρ' → ∀ Q : St → Hp → Prop, (∀ σ', Sr W m ρ' ω σ' H0 Hc H ow → Q σ' H) → g vs σ H Q
noncomputable def aName (i : Nat) : U → En → Option En := fun u ρ => some (ρ.set i (some u))
theorem dg_name (h1 : i ∉ m.B) (h2 : i ∉ m.M) : DG W m (gName i) (aName i) := fun H0 ρ ω σ Hc H ow u v ρ' S r e Q k => by
  cases e
  exact k _ (S.set h1 h2 r)
noncomputable def aNilT : List U → En → Option En := fun us ρ => match us with
  | [] => some ρ
  | _ => none
noncomputable def aConsT (a : U → En → Option En) (b : List U → En → Option En) : List U → En → Option En := fun us ρ => match us with
  | u :: r => (a u ρ).bind (b r)
  | _ => none
theorem dgs_nil : DGs W m gNil aNilT := fun H0 ρ ω σ Hc H ow us vs ρ' S r e Q k => by
  unfold aNilT at e
  split at e
  · cases e; rw [RUs] at r; exact ⟨r, k _ S⟩
  · cases e
theorem dgs_cons {g : TG} {gg : TGs} {a : U → En → Option En} {b : List U → En → Option En} (h1 : DG W m g a) (h2 : DGs W m gg b) : DGs W m (gCons g gg) (aConsT a b) := fun H0 ρ ω σ Hc H ow us vs ρ' S r e Q k => by
  unfold aConsT at e
  split at e
  · rename_i u rest
    rw [RUs] at r
    obtain ⟨v, vr, rfl, r1, r2⟩ := r
    cases q : a u ρ with
    | none => rw [q] at e; exact noS e
    | some ρ1 =>
      rw [q] at e
      exact ⟨v, vr, rfl, h1 H0 ρ ω σ Hc H ow u v ρ1 S r1 q _ fun σ1 S1 => h2 H0 ρ1 ω σ1 Hc H ow rest vr ρ' S1 r2 e Q k⟩
  · cases e
noncomputable def aTup (n : Nat) (b : List U → En → Option En) : U → En → Option En := fun u ρ => match u with
  | .tup us => if us.length = n then b us ρ else none
  | _ => none
theorem dg_tup {n : Nat} {K : PySem.W.Frag} {gg : TGs} {b : List U → En → Option En} (h2 : DGs W m gg b) : DG W m (gTup K n gg) (aTup n b) := fun H0 ρ ω σ Hc H ow u v ρ' S r e Q k => by
  unfold aTup at e
  split at e
  · split at e
    · rw [RU] at r
      obtain ⟨a, vs, rfl, h1, r1⟩ := r
      exact ⟨a, vs, rfl, .of (S.sub _ _ h1), by rw [← r1.len]; assumption, h2 H0 ρ ω σ Hc H ow _ vs ρ' S r1 e Q k⟩
    · cases e
  · cases e
noncomputable def sAsg (a : U → En → Option En) (fa : Ef) : Sf := fun ρ ω => Fl.of (fa ρ ω) fun u ω1 => match a u ρ with
  | some ρ' => .nx ρ' ω1
  | none => .stk
theorem ds_asg {g : TG} {a : U → En → Option En} (hg : DG W m g a) (ha : DE W m E ta fa) : DS W m E (tAsg ta g) (sAsg a fa) := by
  intro H0 Hc0 ρ ω σ Hc H ow S x D h
  refine ha H0 ρ ω σ Hc H ow S _ ((Cont.of x h).imp fun u ω1 Hc1 H1 e1 p1 k v rv => ?_)
  revert k
  cases q : a u ρ with
  | none => exact fun k => k.elim
  | some ρ' => exact fun k => hg H0 ρ ω1 σ Hc1 H1 ow u v ρ' (S.ext e1 p1) rv q _ fun σ' S' => k σ' Hc1 H1 ow S' (x.trans e1)
end
noncomputable def ItR (W : Wd) (Hb Hc : Hp) (J : It) (us : List U) : Prop := ∀ Hc2 H2, Same Hc Hc2 → Same Hc2 H2 → (∀ b o, b ∉ W.L → Hb b = some o → H2 b = some o) →
  (∀ i u, us[i]? = some u → J.go i H2 ∧ ∀ x H3, J.yld i H2 x H3 → ∃ Hc3, Ext W Hc2 H2 Hc3 H3 ∧ Same H2 H3 ∧ RU W Hc3 u x) ∧ J.stop us.length H2
noncomputable def DI (W : Wd) (m : Md) (E : XK) (c : Bool) (t : TI) (f : Af) : Prop := ∀ H0 ρ ω σ Hc H ow, Sr W m ρ ω σ H0 Hc H ow → ∀ R : It → Hp → Prop, Aft W E Hc H (f ρ ω) (fun us ψ Hc' H' => ∀ J, ItR W (if c = true then H' else H0) Hc' J us → R J H') → t σ H R
section
variable {W : Wd} {m : Md} {E : XK} {c : Bool} {ta tb tc te : TE} {fa fb fc fe : Ef} {i : Nat} {bs : List Bool} {tr : TA} {fr : Af}
noncomputable def iSeq (K : PySem.W.Frag) (tl : TE) : TI := fun σ H R => tl σ H fun x H1 => ∃ a, x = .ref a ∧ (((∃ xs, SqL K H1 a xs) ∧ R (Itl K a) H1) ∨ ((∃ xs, SqT K H1 a xs) ∧ R (Itt K a) H1))
theorem pi_seq {X : Cx} {K : PySem.W.Frag} {l tg : Expr} {tl : TE} (hK : X.K = K) (hl : PE X l tl) : PI X tg l (iSeq K tl) := by
  subst hK
  intro pins s σ H R I h
  refine thn (hl pins s σ H _ I h) fun v s1 ⟨x, H1, I1, r1, q1⟩ => ?_
  obtain ⟨a, e, q1⟩ := q1
  subst e
  cases r1
  rcases q1 with ⟨⟨xs, hq⟩, q⟩ | ⟨⟨xs, hq⟩, q⟩
  · obtain ⟨its, rv, p, hz⟩ := I1.list hq
    refine wpAny_pyIter_list p.isList ?_
    refine ⟨s1.heap.objs.size, [s1.heap.objs.size], _, _, H1, rfl, I1.kept (t' := s1.toks) fun b o e => Heap.get?_push_of_some _ e, turn_list a _, ⟨_, Heap.get?_push_size _ rfl, rfl, rfl⟩, fun b hb => ?_, q⟩
    have e : b = s1.heap.objs.size := by simpa using hb
    subst e
    exact I1.fpOk (Nat.le_refl _) (I1.hok.fresh (Nat.le_refl _))
  · obtain ⟨its, rv, p, hz⟩ := I1.tuple hq
    refine wpAny_pyIter_tuple (show s1.heap.IsTuple a its.toArray from p) ?_
    refine ⟨s1.heap.objs.size, [s1.heap.objs.size], _, _, H1, rfl, I1.kept (t' := s1.toks) fun b o e => Heap.get?_push_of_some _ e, turn_tuple a _, ⟨_, Heap.get?_push_size _ rfl, rfl, rfl⟩, fun b hb => ?_, q⟩
    have e : b = s1.heap.objs.size := by simpa using hb
    subst e
    exact I1.fpOk (Nat.le_refl _) (I1.hok.fresh (Nat.le_refl _))
noncomputable def asSeq : U → Option (List U)
  | .lst us => some us
  | .tup us => some us
  | _ => none
noncomputable def iOf (fa : Ef) : Af := fun ρ ω => (fa ρ ω).bnd fun u ω1 => .of (asSeq u) ω1
theorem itl_r {Hb Hc : Hp} {a : Addr} {us : List U} {vs : List V} (r : RUs W Hc us vs) (k : ∀ Hc2 H2, Same Hc Hc2 → Same Hc2 H2 → (∀ b o, b ∉ W.L → Hb b = some o → H2 b = some o) → H2 a = some (.lst vs)) : ItR W Hb Hc (Itl W.K a) us := by
  intro Hc2 H2 s1 s2 s3
  have ha := k Hc2 H2 s1 s2 s3
  have one : ∀ xs, SqL W.K H2 a xs → SqL W.K H2 a vs → True := fun ψ ψ ψ => trivial
  refine ⟨fun i u hu => ?_, vs, .of ha, by rw [r.len]; exact Nat.le_refl _⟩
  obtain ⟨v, hv, rv⟩ := r.at (i := 0) hu
  refine ⟨⟨vs, v, .of ha, hv⟩, fun x H3 y => ?_⟩
  obtain ⟨rfl, y⟩ := y
  have e : vs[i]? = some x := y vs (.of ha)
  rw [hv] at e; cases e
  exact ⟨Hc2, Ext.refl s2, fun ψ ψ h => h, rv.mono s1⟩
theorem itt_r {Hb Hc : Hp} {a : Addr} {us : List U} {vs : List V} (r : RUs W Hc us vs) (h : Hc a = some (.tup vs)) : ItR W Hb Hc (Itt W.K a) us := by
  intro Hc2 H2 s1 s2 s3
  have ha := s2 _ _ (s1 _ _ h)
  refine ⟨fun i u hu => ?_, vs, .of ha, by rw [r.len]; exact Nat.le_refl _⟩
  obtain ⟨v, hv, rv⟩ := r.at (i := 0) hu
  refine ⟨⟨vs, v, .of ha, hv⟩, fun x H3 y => ?_⟩
  obtain ⟨rfl, y⟩ := y
  have e : vs[i]? = some x := y vs (.of ha)
  rw [hv] at e; cases e
  exact ⟨Hc2, Ext.refl s2, fun ψ ψ h => h, rv.mono s1⟩
theorem di_e (ha : DE W m E ta fa) : DI W m E c (iSeq W.K ta) (iOf fa) := by
  intro H0 ρ ω σ Hc H ow S R h
  refine ha H0 ρ ω σ Hc H ow S _ ((Aft.bnd h).imp fun u ω1 Hc1 H1 e1 p1 h1 v rv => ?_)
  revert h1
  cases u with
  | lst us =>
    intro h1
    rw [RU] at rv
    obtain ⟨a, vs, rfl, q, r⟩ := rv
    exact ⟨a, rfl, .inl ⟨⟨vs, .of (e1.sub _ _ q)⟩, h1 Hc1 H1 (Ext.refl e1.sub) p1 _ (itl_r r fun Hc2 H2 s1 s2 ψ => s2 _ _ (s1 _ _ q))⟩⟩
  | tup us =>
    intro h1
    rw [RU] at rv
    obtain ⟨a, vs, rfl, q, r⟩ := rv
    exact ⟨a, rfl, .inr ⟨⟨vs, .of (e1.sub _ _ q)⟩, h1 Hc1 H1 (Ext.refl e1.sub) p1 _ (itt_r r q)⟩⟩
  | _ => exact fun h1 => h1.elim
theorem di_v (h2 : i ∉ m.M) : DI W m E c (iSeq W.K (tVar i)) (iOf (eVar i)) := by
  intro H0 ρ ω σ Hc H ow S R h
  unfold iOf eVar at h
  split at h
  · rename_i u e
    by_cases hb : i ∈ m.B
    · obtain ⟨v, q, rv⟩ := S.bo i u hb h2 e
      refine ⟨v, q, ?_⟩
      rcases rv with rv | ⟨us', a, vs, rfl, rfl, nl, q, r⟩
      · revert h
        cases u with
        | lst us =>
          intro h1
          rw [RU] at rv
          obtain ⟨a, vs, rfl, q, r⟩ := rv
          exact ⟨a, rfl, .inl ⟨⟨vs, .of (S.sub _ _ q)⟩, h1 Hc H (Ext.refl S.sub) S.pl _ (itl_r r fun Hc2 H2 s1 s2 ψ => s2 _ _ (s1 _ _ q))⟩⟩
        | tup us =>
          intro h1
          rw [RU] at rv
          obtain ⟨a, vs, rfl, q, r⟩ := rv
          exact ⟨a, rfl, .inr ⟨⟨vs, .of (S.sub _ _ q)⟩, h1 Hc H (Ext.refl S.sub) S.pl _ (itt_r r q)⟩⟩
        | _ => exact fun h1 => h1.elim
      · refine ⟨a, rfl, .inl ⟨⟨vs, .of (S.s0 _ _ nl q)⟩, h Hc H (Ext.refl S.sub) S.pl _ (itl_r r fun Hc2 H2 s1 s2 s3 => ?_)⟩⟩
        cases c with
        | true => exact s3 _ _ nl (S.s0 _ _ nl q)
        | false => exact s3 _ _ nl q
    · have d : DE W m E (tVar i) (eVar i) := de_var hb h2
      refine di_e (c := c) d H0 ρ ω σ Hc H ow S R ?_
      unfold iOf eVar
      rw [e]
      exact h
  · exact h.elim
noncomputable def rngU (lo : Int) (n : Nat) : List U := (List.range n).map fun i : Nat => U.int (lo + (i : Int))
theorem itr_r {Hb Hc : Hp} {lo : Int} {n : Nat} : ItR W Hb Hc (Itr lo n) (rngU lo n) := by
  intro Hc2 H2 s1 s2 s3
  refine ⟨fun i u hu => ?_, by show n ≤ (rngU lo n).length; simp [rngU]⟩
  unfold rngU at hu
  rw [List.getElem?_map] at hu
  have li : i < n := by
    by_cases l : i < n
    · exact l
    · rw [List.getElem?_eq_none (by simpa using l)] at hu; cases hu
  rw [List.getElem?_range li] at hu
  cases hu
  refine ⟨li, fun x H3 y => ?_⟩
  obtain ⟨rfl, rfl⟩ := y
  exact ⟨Hc2, Ext.refl s2, fun ψ ψ h => h, .int⟩
noncomputable def InR (j : Int) : Prop := -(2 ^ 62) ≤ j ∧ j < 2 ^ 62
open Classical in
noncomputable def uR1 : List U → Option (List U)
  | [.int j] => if InR j then some (rngU 0 j.toNat) else none
  | _ => none
noncomputable def iArgs (g : List U → Option (List U)) (fr : Af) : Af := fun ρ ω => (fr ρ ω).bnd fun us ω1 => .of (g us) ω1
theorem di_r1 (hr : DA W m E [true] tr fr) : DI W m E c (iRng1 tr) (iArgs uR1 fr) := by
  intro H0 ρ ω σ Hc H ow S R h
  refine hr H0 ρ ω σ Hc H ow S _ ((Aft.bnd h).imp fun us ω1 Hc1 H1 e1 p1 h1 vs rs => ?_)
  revert h1
  cases hg : uR1 us with
  | none => exact fun h1 => h1.elim
  | some ws =>
    intro h1
    unfold uR1 at hg
    split at hg
    · split at hg <;> cases hg
      rename_i j hj
      obtain ⟨v, rfl, rv⟩ := rs.one
      have := rv.int; subst this
      exact ⟨j, rfl, hj.1, hj.2, h1 Hc1 H1 (Ext.refl e1.sub) p1 _ itr_r⟩
    · cases hg
noncomputable def enumU (us : List U) : List U := us.mapIdx fun i u => .tup [.int i, u]
theorem ite_r {Hb Hc : Hp} {a : Addr} {us : List U} {vs : List V} (r : RUs W Hc us vs) (h : Hc a = some (.tup vs)) : ItR W Hb Hc (Ite W.K a) (enumU us) := by
  intro Hc2 H2 s1 s2 s3
  have ha := s2 _ _ (s1 _ _ h)
  refine ⟨fun i u hu => ?_, vs, .of ha, by unfold enumU; rw [List.length_mapIdx, r.len]; exact Nat.le_refl _⟩
  unfold enumU at hu
  rw [List.getElem?_mapIdx] at hu
  cases q : us[i]? with
  | none => rw [q] at hu; exact noS hu
  | some w =>
    rw [q] at hu; cases hu
    obtain ⟨v, hv, rv⟩ := r.at (i := 0) q
    refine ⟨⟨vs, v, .of ha, hv⟩, fun x H3 y => ?_⟩
    obtain ⟨b, z, hn, rfl, hz, rfl⟩ := y
    have e : vs[i]? = some z := hz vs (.of ha)
    rw [hv] at e; cases e
    refine ⟨upd Hc2 b (.tup [.int i, v]), (Ext.laid s2 hn).1, Same.laid hn, .tup upd_same (.cons .int (.one ((rv.mono s1).mono (Same.laid (s2.free hn)))))⟩
noncomputable def uEnum : List U → Option (List U)
  | [.tup us] => some (enumU us)
  | _ => none
theorem di_enum (hr : DA W m E [true] tr fr) : DI W m E c (iEnum W.K tr) (iArgs uEnum fr) := by
  intro H0 ρ ω σ Hc H ow S R h
  refine hr H0 ρ ω σ Hc H ow S _ ((Aft.bnd h).imp fun us ω1 Hc1 H1 e1 p1 h1 vs rs => ?_)
  revert h1
  cases hg : uEnum us with
  | none => exact fun h1 => h1.elim
  | some ws =>
    intro h1
    unfold uEnum at hg
    split at hg
    · cases hg
      obtain ⟨v, rfl, rv⟩ := rs.one
      obtain ⟨a, vs, rfl, q, r⟩ := rv.tup
      exact ⟨a, rfl, ⟨vs, .of (e1.sub _ _ q)⟩, h1 Hc1 H1 (Ext.refl e1.sub) p1 _ (ite_r r q)⟩
    · cases hg
end
theorem Ext.again {W : Wd} {Hc0 H0 Hc H : Hp} (x : Ext W Hc0 H0 Hc H) : Ext W Hc H0 Hc H := ⟨x.same, fun ψ ψ h => h, x.sub, fun ψ h ψ => h, x.frz⟩
theorem Ext.comp {W : Wd} {Hc0 H0 Hc H Hc' H' : Hp} (x : Ext W Hc0 H0 Hc H) (y : Ext W Hc H0 Hc' H') : Ext W Hc0 H0 Hc' H' := ⟨y.same, x.sc.trans y.sc, y.sub, fun b h k => y.new b (x.new b h k) k, y.frz⟩
noncomputable def forU (st : U → En → Om → Fl) : List U → En → Om → Fl
  | [], ρ, ω => .nx ρ ω
  | x :: xs, ρ, ω => match st x ρ ω with
    | .nx ρ' ω' => forU st xs ρ' ω'
    | .ct ρ' ω' => forU st xs ρ' ω'
    | .bk ρ' ω' => .nx ρ' ω'
    | o => o
noncomputable def stepU (a : U → En → Option En) (b : Sf) : U → En → Om → Fl := fun x ρ ω => match a x ρ with
  | some ρ' => b ρ' ω
  | none => .stk
noncomputable def sFor (fi : Af) (a : U → En → Option En) (b : Sf) : Sf := fun ρ ω => Fl.of (fi ρ ω) fun us ω1 => forU (stepU a b) us ρ ω1
section
variable {W : Wd} {m : Md} {E : XK} {wi : TI} {fi : Af} {g : TG} {a : U → En → Option En} {tb : TS} {b : Sf}
theorem drop_cons {α : Type} {xs : List α} {i : Nat} {x : α} (h : xs[i]? = some x) : xs.drop i = x :: xs.drop (i + 1) := by
  obtain ⟨l, e⟩ := List.getElem?_eq_some_iff.mp h
  rw [List.drop_eq_getElem_cons l, e]
theorem ds_for (hi : DI W m E false wi fi) (hg : DG W m g a) (hb : DS W m E tb b) : DS W m E (tFor wi g tb) (sFor fi a b) := by
  intro H0 Hc0 ρ ω σ Hc H ow S x D h
  refine hi H0 ρ ω σ Hc H ow S _ ((Cont.of x h).imp fun us ω1 Hc1 H1 e1 p1 k J hJ => ?_)
  have S1 := S.ext e1 p1
  refine ⟨fun i n σ H => n = us.length - i ∧ i ≤ us.length ∧ ∃ ρ ω Hc ow, Sr W m ρ ω σ H0 Hc H ow ∧ Ext W Hc0 H0 Hc H ∧ Same Hc1 Hc ∧ Cont W m E Hc0 H0 D (forU (stepU a b) (us.drop i) ρ ω), ⟨us.length, by simp, Nat.zero_le _, ρ, ω1, Hc1, ow, S1, x.trans e1, fun ψ ψ h => h, k⟩, ?_⟩
  rintro i n σ2 H2 ⟨rfl, hle, ρ2, ω2, Hc2, ow2, S2, x2, sc, k2⟩
  have J2 := hJ Hc2 H2 sc S2.sub S2.s0
  by_cases lt : i < us.length
  · have hx : us[i]? = some us[i] := by simp [lt]
    obtain ⟨go, yl⟩ := J2.1 i _ hx
    rw [drop_cons hx] at k2
    refine .inr ⟨go, fun σ' H' => i + 1 ≤ us.length ∧ ∃ ρ ω Hc ow, Sr W m ρ ω σ' H0 Hc H' ow ∧ Ext W Hc0 H0 Hc H' ∧ Same Hc1 Hc ∧ Cont W m E Hc0 H0 D (forU (stepU a b) (us.drop (i + 1)) ρ ω), fun σ' H' hq => ⟨_, by omega, rfl, hq.1, hq.2⟩, fun y H3 hy => ?_⟩
    obtain ⟨Hc3, e3, s3, ry⟩ := yl y H3 hy
    have p3 : PlOk W ω2 Hc3 H3 := S2.pl.same e3 s3
    have S3 := S2.ext e3 p3
    have x3 := x2.trans e3
    unfold forU stepU at k2
    cases q : a us[i] ρ2 with
    | none => simp only [q] at k2; exact k2.elim
    | some ρ' =>
      simp only [q] at k2
      refine hg H0 ρ2 ω2 σ2 Hc3 H3 ow2 _ y ρ' S3 ry q _ fun σ' S' => ?_
      refine hb H0 Hc3 ρ' ω2 σ' Hc3 H3 ow2 S' x3.again _ ?_
      revert k2
      cases b ρ' ω2 with
      | nx ρ4 ω4 => exact fun k2 σ4 Hc4 H4 ow4 S4 x4 => ⟨lt, ρ4, ω4, Hc4, ow4, S4, x3.comp x4, (sc.trans e3.sc).trans x4.sc, k2⟩
      | ct ρ4 ω4 => exact fun k2 σ4 Hc4 H4 ow4 S4 x4 => ⟨lt, ρ4, ω4, Hc4, ow4, S4, x3.comp x4, (sc.trans e3.sc).trans x4.sc, k2⟩
      | bk ρ4 ω4 => exact fun k2 σ4 Hc4 H4 ow4 S4 x4 => k2 σ4 Hc4 H4 ow4 S4 (x3.comp x4)
      | rt u ω4 => exact fun k2 v Hc4 H4 x4 => k2 v Hc4 H4 (x3.comp x4)
      | err c pl ω4 => exact fun k2 C od Hc4 H4 x4 => k2 C od Hc4 H4 (x3.comp x4)
      | stk => exact fun k2 => k2
  · have e : i = us.length := by omega
    subst e
    rw [List.drop_length] at k2
    exact .inl ⟨J2.2, k2 σ2 Hc2 H2 ow2 S2 x2⟩
noncomputable def wh (c : Tf) (b : Sf) : Nat → En → Om → Option Fl
  | 0, _, _ => none
  | n + 1, ρ, ω => match c ρ ω with
    | .ok true ω1 => match b ρ ω1 with
      | .nx ρ' ω' => wh c b n ρ' ω'
      | .ct ρ' ω' => wh c b n ρ' ω'
      | .bk ρ' ω' => some (.nx ρ' ω')
      | o => some o
    | .ok false ω1 => some (.nx ρ ω1)
    | .err e p ω1 => some (.err e p ω1)
    | .stk => some .stk
open Classical in
noncomputable def sWh (c : Tf) (b : Sf) : Sf := fun ρ ω => if h : ∃ r n, wh c b n ρ ω = some r then h.choose else .stk
theorem wh_mono {c : Tf} {b : Sf} {r : Fl} : ∀ {n : Nat} {ρ : En} {ω : Om} (k : Nat), wh c b n ρ ω = some r → wh c b (n + k) ρ ω = some r
  | 0, _, _, _, h => by cases h
  | n + 1, ρ, ω, k, h => by
    rw [show n + 1 + k = (n + k) + 1 by omega]
    unfold wh at h ⊢
    cases q : c ρ ω with
    | ok t ω1 =>
      cases t with
      | false => simp only [q] at h ⊢; exact h
      | true =>
        simp only [q] at h ⊢
        cases q2 : b ρ ω1 with
        | nx ρ' ω' => simp only [q2] at h ⊢; exact wh_mono k h
        | ct ρ' ω' => simp only [q2] at h ⊢; exact wh_mono k h
        | _ => simp only [q2] at h ⊢; exact h
    | err e p ω1 => simp only [q] at h ⊢; exact h
    | stk => simp only [q] at h ⊢; exact h
theorem wh_uniq {c : Tf} {b : Sf} {r r' : Fl} {n n' : Nat} {ρ : En} {ω : Om} (h : wh c b n ρ ω = some r) (h' : wh c b n' ρ ω = some r') : r = r' := by
  have z1 := wh_mono n' h
  have z2 := wh_mono n h'
  rw [Nat.add_comm] at z2
  rw [z1] at z2
  exact Option.some.inj z2
theorem sWh_of {c : Tf} {b : Sf} {r : Fl} {n : Nat} {ρ : En} {ω : Om} (h : wh c b n ρ ω = some r) : sWh c b ρ ω = r := by
  have ex : ∃ r n, wh c b n ρ ω = some r := ⟨r, n, h⟩
  unfold sWh
  rw [dif_pos ex]
  obtain ⟨n', z⟩ := ex.choose_spec
  exact wh_uniq z h
theorem sWh_end {c : Tf} {b : Sf} {ρ : En} {ω ω1 : Om} (h : c ρ ω = .ok false ω1) : sWh c b ρ ω = .nx ρ ω1 := sWh_of (n := 1) (by unfold wh; simp only [h])
theorem sWh_none {c : Tf} {b : Sf} {ρ : En} {ω : Om} (h : ¬ ∃ r n, wh c b n ρ ω = some r) : sWh c b ρ ω = .stk := by unfold sWh; rw [dif_neg h]
theorem sWh_step {c : Tf} {b : Sf} {ρ ρ' : En} {ω ω1 ω' : Om} (h : c ρ ω = .ok true ω1) (h2 : b ρ ω1 = .nx ρ' ω') : sWh c b ρ ω = sWh c b ρ' ω' := by
  by_cases ex : ∃ r n, wh c b n ρ' ω' = some r
  · obtain ⟨r, n, z⟩ := ex
    rw [sWh_of z]
    exact sWh_of (n := n + 1) (by unfold wh; simp only [h, h2]; exact z)
  · rw [sWh_none ex]
    refine sWh_none fun ⟨r, n, z⟩ => ex ?_
    cases n with
    | zero => cases z
    | succ n => unfold wh at z; simp only [h, h2] at z; exact ⟨r, n, z⟩
theorem ds_while {tc : TT} {c : Tf} (hc : DT W m E tc c) (hb : DS W m E tb b) : DS W m E (tWhile tc tb) (sWh c b) := by
  intro H0 Hc0 ρ ω σ Hc H ow S x D h
  by_cases ex : ∃ r n, wh c b n ρ ω = some r
  · obtain ⟨r, n, hr⟩ := ex
    rw [sWh_of hr] at h
    refine ⟨fun n σ H => ∃ ρ ω Hc ow, Sr W m ρ ω σ H0 Hc H ow ∧ Ext W Hc0 H0 Hc H ∧ wh c b n ρ ω = some r, ⟨n, ρ, ω, Hc, ow, S, x, hr⟩, ?_⟩
    rintro n σ2 H2 ⟨ρ2, ω2, Hc2, ow2, S2, x2, w2⟩
    cases n with
    | zero => cases w2
    | succ n =>
      unfold wh at w2
      refine hc H0 ρ2 ω2 σ2 Hc2 H2 ow2 S2 _ ?_
      cases q : c ρ2 ω2 with
      | stk => simp only [q] at w2; cases w2; exact h
      | err e p ω1 => simp only [q] at w2; cases w2; exact fun C od Hc' H' e p hm hx => h C od Hc' H' (x2.trans e) p hm hx
      | ok t ω1 =>
        intro Hc3 H3 e3 p3
        have S3 := S2.ext e3 p3
        have x3 := x2.trans e3
        cases t with
        | false =>
          simp only [q] at w2; cases w2
          rw [if_neg Bool.false_ne_true]
          exact h σ2 Hc3 H3 ow2 S3 x3
        | true =>
          simp only [q] at w2
          rw [if_pos rfl]
          refine ⟨fun σ' H' => ∃ ρ ω Hc ow, Sr W m ρ ω σ' H0 Hc H' ow ∧ Ext W Hc0 H0 Hc H' ∧ wh c b n ρ ω = some r, fun σ' H' hq => ⟨n, Nat.lt_succ_self n, hq⟩, ?_⟩
          refine hb H0 Hc0 ρ2 ω1 σ2 Hc3 H3 ow2 S3 x3 _ ?_
          cases q2 : b ρ2 ω1 with
          | nx ρ4 ω4 => simp only [q2] at w2; exact fun σ4 Hc4 H4 ow4 S4 x4 => ⟨ρ4, ω4, Hc4, ow4, S4, x4, w2⟩
          | ct ρ4 ω4 => simp only [q2] at w2; exact fun σ4 Hc4 H4 ow4 S4 x4 => ⟨ρ4, ω4, Hc4, ow4, S4, x4, w2⟩
          | bk ρ4 ω4 => simp only [q2] at w2; cases w2; exact h
          | rt u ω4 => simp only [q2] at w2; cases w2; exact h
          | err e p ω4 => simp only [q2] at w2; cases w2; exact h
          | stk => simp only [q2] at w2; cases w2; exact h
  · rw [sWh_none ex] at h; exact h.elim
end
noncomputable def blkU (k : Nat) (js : List Nat) (ρ : En) : En := List.replicate k none ++ js.map fun j => (ρ[j]?).getD none
noncomputable def cmpU (st : U → Om → Res (Option U)) : List U → Om → Res (List U)
  | [], ω => .ok [] ω
  | x :: xs, ω => (st x ω).bnd fun o ω1 => (cmpU st xs ω1).bnd fun r ω2 => .ok (o.toList ++ r) ω2
noncomputable def cstU (a : U → En → Option En) (ft : Tf) (fe : Ef) (ρ : En) : U → Om → Res (Option U) := fun x ω => match a x ρ with
  | some ρ' => (ft ρ' ω).bnd fun b ω1 => if b = true then (fe ρ' ω1).bnd fun u ω2 => .ok (some u) ω2 else .ok none ω1
  | none => .stk
noncomputable def asOk {α β : Type} (r : Res α) (k : α → Om → Res β) : Res β := match r with
  | .ok a ω => k a ω
  | _ => .stk
@[simp] theorem asOk_ok {α β : Type} {a : α} {ω : Om} {k : α → Om → Res β} : asOk (.ok a ω) k = k a ω := rfl
open Classical in
noncomputable def eComp (fi : Af) (k : Nat) (js : List Nat) (a : U → En → Option En) (ft : Tf) (fe : Ef) : Ef := fun ρ ω => (fi ρ ω).bnd fun us ω1 =>
  if us.length ≤ sizeLine then asOk (cmpU (cstU a ft fe (blkU k js ρ)) us ω1) fun r ω2 => .ok (.lst r) ω2 else .stk
section
variable {W : Wd} {m mb : Md} {E : XK} {wi : TI} {fi : Af} {k : Nat} {js : List Nat} {g : TG} {a : U → En → Option En} {tc : TT} {ft : Tf} {te : TE} {fe : Ef}
theorem blk_at {ρ : En} {i : Nat} {u : U} (h : (blkU k js ρ)[i]? = some (some u)) : ∃ p j, i = k + p ∧ js[p]? = some j ∧ ρ[j]? = some (some u) := by
  unfold blkU at h
  by_cases l : i < k
  · rw [List.getElem?_append_left (by simpa using l), List.getElem?_replicate] at h
    split at h <;> cases h
  · rw [List.getElem?_append_right (by simpa using l), List.length_replicate, List.getElem?_map] at h
    refine ⟨i - k, ?_⟩
    cases q : js[i - k]? with
    | none => rw [q] at h; exact noS h
    | some j =>
      rw [q] at h
      refine ⟨j, by lia, rfl, ?_⟩
      cases q2 : ρ[j]? with
      | none => rw [show (some j).map (fun j => (ρ[j]?).getD none) = some ((ρ[j]?).getD none) from rfl, q2] at h; cases h
      | some w =>
        rw [show (some j).map (fun j => (ρ[j]?).getD none) = some ((ρ[j]?).getD none) from rfl, q2] at h
        cases h; rfl
theorem blkV_at {σ : St} {p j : Nat} {v : V} (h : js[p]? = some j) (hv : σ[j]? = some (some v)) : (blk k js σ)[k + p]? = some (some v) := by
  unfold blk
  rw [List.getElem?_append_right (by simp), List.length_replicate, Nat.add_sub_cancel_left, List.getElem?_map, h]
  show some ((σ[j]?).getD none) = _
  rw [hv]; rfl
theorem Sr.blk {ρ : En} {ω ω' : Om} {σ : St} {H0 Hc1 H1 Hc H : Hp} {ow : Nat → Addr} (S : Sr W m ρ ω σ H0 Hc1 H1 ow) (hB : ∀ p j, js[p]? = some j → (j ∈ m.B ∨ j ∈ m.M) → k + p ∈ mb.B) (hM : mb.M = []) (e : Ext W Hc1 H1 Hc H) (p : PlOk W ω' Hc H) :
    Sr W mb (blkU k js ρ) ω' (blk k js σ) H1 Hc H ow := by
  refine ⟨e.sub, e.same, fun b hb => (S.pl.out b hb).2, by unfold blkU L2.blk; simp, p, fun i u n1 n2 h => ?_, fun i u n1 n2 h => ?_, fun i u n h => (by rw [hM] at n; cases n), fun i j u w n => (by rw [hM] at n; cases n)⟩
  · obtain ⟨q, j, rfl, hj, hu⟩ := blk_at h
    obtain ⟨v, hv, rv⟩ := S.cl j u (fun z => n1 (hB q j hj (.inl z))) (fun z => n1 (hB q j hj (.inr z))) hu
    exact ⟨v, blkV_at hj hv, rv.mono e.sc⟩
  · obtain ⟨q, j, rfl, hj, hu⟩ := blk_at h
    obtain ⟨v, hv, rv⟩ := S.get hu
    refine ⟨v, blkV_at hj hv, ?_⟩
    rcases rv with rv | ⟨us, b, vs, e1, e2, nl, q1, q2⟩
    · exact .inl (rv.mono e.sc)
    · exact .inr ⟨us, b, vs, e1, e2, nl, q1, q2.mono e.sc⟩
@[reducible] def cmpI (W : Wd) (st : U → Om → Res (Option U)) (us tot : List U) (ωf : Om) (Hc1 H1 : Hp) : Nat → Nat → List V → Hp → Prop := fun i n ys H => n = us.length - i ∧ i ≤ us.length ∧ ∃ ω Hc acc rest, Ext W Hc1 H1 Hc H ∧ PlOk W ω Hc H ∧ RUs W Hc acc ys ∧ acc.length ≤ i ∧ cmpU st (us.drop i) ω = .ok rest ωf ∧ acc ++ rest = tot
theorem df_comp (hi : DI W m E true wi fi) (hg : DG W mb g a) (ht : DT W mb E0 tc ft) (he : DE W mb E0 te fe) (hB : ∀ p j, js[p]? = some j → (j ∈ m.B ∨ j ∈ m.M) → k + p ∈ mb.B) (hM : mb.M = []) :
    DF W m E (tComp wi k js g tc te) (eComp fi k js a ft fe) := by
  intro H0 ρ ω σ Hc H ow S Q h
  refine hi H0 ρ ω σ Hc H ow S _ ((Aft.bnd h).imp fun us ω1 Hc1 H1 e1 p1 h1 J hJ => ?_)
  have S1 := S.ext e1 p1
  rw [if_pos rfl] at hJ
  by_cases hl : us.length ≤ sizeLine
  · rw [if_pos hl] at h1
    cases hr : cmpU (cstU a ft fe (blkU k js ρ)) us ω1 with
    | stk => rw [hr] at h1; exact h1.elim
    | err _ _ _ => rw [hr] at h1; exact h1.elim
    | ok tot ωf =>
      rw [hr] at h1
      refine ⟨cmpI W (cstU a ft fe (blkU k js ρ)) us tot ωf Hc1 H1,
        ⟨us.length, by simp, Nat.zero_le _, ω1, Hc1, [], tot, Ext.refl e1.sub, p1, .nil, Nat.zero_le _, hr, rfl⟩, ?_⟩
      rintro i n ys H2 ⟨rfl, hle, ω2, Hc2, acc, rest, e2, p2, r2, l2, w2, tt⟩
      have J2 := hJ Hc2 H2 e2.sc e2.sub e2.same
      by_cases lt : i < us.length
      · have hx : us[i]? = some us[i] := by simp [lt]
        obtain ⟨go, yl⟩ := J2.1 i _ hx
        rw [drop_cons hx] at w2
        refine .inr ⟨go, by rw [← r2.len]; lia, fun y H3 hy => ?_⟩
        obtain ⟨Hc3, e3, s3, ry⟩ := yl y H3 hy
        have p3 : PlOk W ω2 Hc3 H3 := p2.same e3 s3
        have Sb := S1.blk (mb := mb) hB hM (e2.trans e3) p3
        unfold cmpU at w2
        cases q : a us[i] (blkU k js ρ) with
        | none => rw [show cstU a ft fe (blkU k js ρ) us[i] ω2 = .stk by unfold cstU; rw [q]] at w2; cases w2
        | some ρ' =>
          rw [show cstU a ft fe (blkU k js ρ) us[i] ω2 = (ft ρ' ω2).bnd fun b ω1 => if b = true then (fe ρ' ω1).bnd fun u ω2 => .ok (some u) ω2 else .ok none ω1 by unfold cstU; rw [q]] at w2
          refine hg H1 _ ω2 _ Hc3 H3 ow _ y ρ' Sb ry q _ fun σ' S' => ?_
          cases q2 : ft ρ' ω2 with
          | stk => rw [q2] at w2; cases w2
          | err _ _ _ => rw [q2] at w2; cases w2
          | ok b ω4 =>
            rw [q2] at w2
            refine ht H1 ρ' ω2 σ' Hc3 H3 ow S' _ ?_
            rw [q2]
            intro Hc4 H4 e4 p4
            have S4 := S'.ext e4 p4
            cases b with
            | false =>
              rw [if_neg Bool.false_ne_true]
              simp only [Res.bnd_ok, Bool.false_eq_true, if_false] at w2
              cases q5 : cmpU (cstU a ft fe (blkU k js ρ)) (us.drop (i + 1)) ω4 with
              | stk => rw [q5] at w2; cases w2
              | err _ _ _ => rw [q5] at w2; cases w2
              | ok r5 ω5 =>
                rw [q5] at w2
                simp only [Res.bnd_ok, Option.toList_none, List.nil_append] at w2
                cases w2
                exact ⟨_, by lia, rfl, lt, ω4, Hc4, acc, _, (e2.trans e3).trans e4, p4, (r2.mono e3.sc).mono e4.sc, by lia, q5, tt⟩
            | true =>
              rw [if_pos rfl]
              simp only [Res.bnd_ok, if_true] at w2
              cases q6 : fe ρ' ω4 with
              | stk => rw [q6] at w2; cases w2
              | err _ _ _ => rw [q6] at w2; cases w2
              | ok u ω6 =>
                rw [q6] at w2
                simp only [Res.bnd_ok] at w2
                refine he H1 ρ' ω4 σ' Hc4 H4 ow S4 _ ?_
                rw [q6]
                intro Hc6 H6 e6 p6 v rv
                cases q5 : cmpU (cstU a ft fe (blkU k js ρ)) (us.drop (i + 1)) ω6 with
                | stk => rw [q5] at w2; cases w2
                | err _ _ _ => rw [q5] at w2; cases w2
                | ok r5 ω5 =>
                  rw [q5] at w2
                  simp only [Res.bnd_ok, Option.toList_some] at w2
                  cases w2
                  exact ⟨_, by lia, rfl, lt, ω6, Hc6, acc ++ [u], _, ((e2.trans e3).trans e4).trans e6, p6, (((r2.mono e3.sc).mono e4.sc).mono e6.sc).app (.one rv), by simp; lia, q5, by rw [List.append_assoc]; exact tt⟩
      · have e : i = us.length := by lia
        subst e
        rw [List.drop_length] at w2
        unfold cmpU at w2
        cases w2
        rw [List.append_nil] at tt
        subst tt
        refine .inl ⟨J2.2, by rw [← r2.len]; lia, fun p n => ?_⟩
        exact h1 Hc2 _ (e2.trans (laid_f e2.sub p2 n).1) (laid_f e2.sub p2 n).2 _ _ _ rfl (e2.sub.free n) ((e1.trans e2).frz' n) upd_same r2
  · rw [if_neg hl] at h1; exact h1.elim
end
noncomputable def ContK (W : Wd) (E : XK) (Hc0 H0 : Hp) (D : Ends) (r : Fl) : Prop := match r with
  | .nx _ ω' => ∀ σ' Hc' H', Ext W Hc0 H0 Hc' H' → PlOk W ω' Hc' H' → D.nx σ' H'
  | .bk _ _ => False
  | .ct _ _ => False
  | .rt u ω' => ∀ v Hc' H', Ext W Hc0 H0 Hc' H' → PlOk W ω' Hc' H' → RU W Hc' u v → D.rt v H'
  | .err c pl ω' => ∀ C od Hc' H', Ext W Hc0 H0 Hc' H' → PlOk W ω' Hc' H' → W.mg c = some (.ref C) → XR Hc' pl od → E (.ref C) od H'
  | .stk => False
noncomputable def DK (W : Wd) (m : Md) (E : XK) (t : TS) (g : Sf) : Prop := ∀ H0 Hc0 ρ ω σ Hc H ow, Sr W m ρ ω σ H0 Hc H ow → Ext W Hc0 H0 Hc H → ∀ D : Ends, ContK W E Hc0 H0 D (g ρ ω) → t D σ H
section
variable {W : Wd} {m : Md} {E : XK} {t1 t2 t : TS} {g1 g2 gs : Sf} {tt : TT} {ft : Tf}
theorem dk_one (h : DS W m E t gs) : DK W m E t gs := by
  intro H0 Hc0 ρ ω σ Hc H ow S x D k
  refine h H0 Hc0 ρ ω σ Hc H ow S x D ?_
  revert k
  cases gs ρ ω with
  | nx ρ' ω' => exact fun k σ' Hc' H' ow' S' x' => k σ' Hc' H' x' S'.pl
  | bk ρ' ω' => exact fun k => k.elim
  | ct ρ' ω' => exact fun k => k.elim
  | _ => exact fun k => k
theorem dk_seq (h1 : DS W m E t1 g1) (h2 : DK W m E t2 g2) : DK W m E (tSeq t1 t2) (sSeq g1 g2) := by
  intro H0 Hc0 ρ ω σ Hc H ow S x D h
  refine h1 H0 Hc0 ρ ω σ Hc H ow S x { D with nx := t2 D } ?_
  unfold sSeq at h
  revert h
  cases g1 ρ ω with
  | nx ρ' ω' => exact fun h σ' Hc' H' ow' S' x' => h2 H0 Hc0 ρ' ω' σ' Hc' H' ow' S' x' D h
  | bk ρ' ω' => exact fun k => k.elim
  | ct ρ' ω' => exact fun k => k.elim
  | _ => exact fun h => h
end
noncomputable def runU (n : Nat) (g : Sf) : Ff := fun us ω => match g (us.map some ++ List.replicate (n - us.length) none) ω with
  | .nx _ ω' => .ok .non ω'
  | .rt u ω' => .ok u ω'
  | .err c p ω' => .err c p ω'
  | _ => .stk
theorem RBs.at {W : Wd} {Hc H : Hp} : ∀ {bs : List Bool} {us : List U} {vs : List V} {i : Nat} {u : U}, RBs W Hc H bs us vs → us[i]? = some u → ∃ v b, vs[i]? = some v ∧ bs[i]? = some b ∧ if b = true then RB W Hc H u v else RU W Hc u v
  | [], [], [], _, _, _, e => by simp at e
  | b :: bs, u :: us, v :: vs, 0, w, h, e => by unfold RBs at h; simp at e; subst e; exact ⟨v, b, rfl, rfl, h.1⟩
  | b :: bs, u :: us, v :: vs, i + 1, w, h, e => by
    unfold RBs at h
    obtain ⟨v', b', q1, q2, q3⟩ := RBs.at h.2 (show us[i]? = some w by simpa using e)
    exact ⟨v', b', by simpa using q1, by simpa using q2, q3⟩
  | [], _ :: _, _, _, _, h, _ => by unfold RBs at h; exact h.elim
  | [], [], _ :: _, _, _, h, _ => by unfold RBs at h; exact h.elim
  | _ :: _, [], _, _, _, h, _ => by unfold RBs at h; exact h.elim
  | _ :: _, _ :: _, [], _, _, h, _ => by unfold RBs at h; exact h.elim
theorem Sr.start {W : Wd} {m : Md} {ω : Om} {Hc H : Hp} {bs : List Bool} {us : List U} {vs : List V} {N : List Str} (s : Same Hc H) (p : PlOk W ω Hc H) (r : RBs W Hc H bs us vs) (hB : ∀ i, bs[i]? = some true → i ∈ m.B) (hM : ∀ i ∈ m.M, bs.length ≤ i) (hn : vs.length ≤ N.length) :
    Sr W m (us.map some ++ List.replicate (N.length - us.length) none) ω (L2.start N vs) H Hc H (fun ψ => 0) := by
  have l1 := r.len.1
  have l2 := r.len.2
  have key : ∀ {i : Nat} {u : U}, (us.map some ++ List.replicate (N.length - us.length) none)[i]? = some (some u) → us[i]? = some u := fun {i u} h => by
    by_cases l : i < us.length
    · rw [List.getElem?_append_left (by simpa using l), List.getElem?_map] at h
      cases q : us[i]? with
      | none => rw [q] at h; exact noS h
      | some w => rw [q] at h; cases h; rfl
    · rw [List.getElem?_append_right (by simpa using l), List.getElem?_replicate] at h
      split at h <;> cases h
  have kv : ∀ {i : Nat} {v : V}, vs[i]? = some v → (L2.start N vs)[i]? = some (some v) := fun {i v} h => by
    have l : i < vs.length := (List.getElem?_eq_some_iff.mp h).1
    unfold L2.start
    rw [List.getElem?_append_left (by simpa using l), List.getElem?_map, h]; rfl
  refine ⟨s, fun ψ ψ ψ h => h, fun b hb => (p.out b hb).2, by unfold L2.start; simp; lia, p, fun i u n1 n2 h => ?_, fun i u n1 n2 h => ?_, fun i u n h => ?_, fun i j u w n m' ne h => ?_⟩
  · obtain ⟨v, b, q1, q2, q3⟩ := r.at (key h)
    cases b with
    | true => exact absurd (hB i q2) n1
    | false => exact ⟨v, kv q1, q3⟩
  · obtain ⟨v, b, q1, q2, q3⟩ := r.at (key h)
    refine ⟨v, kv q1, ?_⟩
    cases b with
    | true => exact q3
    | false => exact .inl q3
  · have z := (List.getElem?_eq_some_iff.mp (key h)).1
    have := hM i n
    lia
  · have z := (List.getElem?_eq_some_iff.mp (key h)).1
    have := hM i n
    lia
section
variable {P : Program} {w : World} {K : PySem.W.Frag} {mg : L2.SV} {base : Heap}
theorem Fun.okU {x qual : Str} {st : Stmt} {f : Addr} {fd : FuncData} {N ps : List Str} {k : Nat} {wk : Wd → Prop} {bs : List Bool} {m : Md} {g : Sf} (F : Fun K x qual st f fd) (S : FnScope N ps (defScope st)) (hl : bs.length = ps.length) (hB : ∀ i, bs[i]? = some true → i ∈ m.B) (hM : ∀ i ∈ m.M, bs.length ≤ i) (hN : ps.length ≤ N.length)
    (hbody : ∀ (cdv : Value) (A : Around) (outer : List Env) (s : Shared) (H : Hp) (E : XK) (W : Wd), W.K = K → W.mg = mg → wk W → Room k (A.deeper (envOfC qual (defScope st) s.heap.objs.size f cdv)) → A.handled = none →
      ∃ t, PSs (cxOf (CX1 P w) P w K mg base N qual (defScope st) f cdv A outer s H E) (defBody st) t ∧ DK W m E t g) : FnOk P w K mg base (CX1 P w) (k + 1) f fd ps (spU K mg wk bs.length bs (runU N.length g)) := by
  refine F.okX S (fun vs H Q E h => ?_) fun cdv A outer s H vs Q E hr hA hsp => ?_
  · obtain ⟨W, us, ω, Hc, _, _, _, hl', _⟩ := h
    rw [hl', hl]
  · obtain ⟨W, us, ω, Hc, hK, hm, hw, hl', sub, pl, rbs, aft⟩ := hsp
    obtain ⟨t, ht, dk⟩ := hbody cdv A outer s H E W hK hm hw hr hA
    refine ⟨t, ht, dk H Hc _ ω _ Hc H _ (Sr.start (N := N) sub pl rbs hB hM (by rw [hl', hl]; exact hN)) (Ext.refl sub) _ ?_⟩
    unfold runU at aft
    revert aft
    cases g (us.map some ++ List.replicate (N.length - us.length) none) ω with
    | nx ρ' ω' => exact fun h σ' Hc' H' e p => h Hc' H' e p _ .non
    | rt u ω' => exact fun h v Hc' H' e p r => h Hc' H' e p v r
    | err c pl ω' => exact fun h => h
    | bk _ _ => exact fun h => h
    | ct _ _ => exact fun h => h
    | stk => exact fun h => h
end
noncomputable abbrev FC (ι : Type) := ι → Cx
section
variable {W : Wd} {m : Md} {E : XK} {te : TE} {fe : Ef}
noncomputable def sRaise (c : Str) (fe : Ef) : Sf := fun ρ ω => Fl.of (fe ρ ω) fun ψ ω1 => .err c none ω1
theorem ds_raise {C : Addr} {c : Str} (hm : W.mg c = some (.ref C)) (he : DB W m E te fe) : DS W m E (tRaise E C te) (sRaise c fe) := by
  intro H0 Hc0 ρ ω σ Hc H ow S x D h
  refine he H0 ρ ω σ Hc H ow S _ ((Cont.of x h).imp fun u ω1 Hc1 H1 e1 p1 k v rv => ?_)
  exact k C none Hc1 H1 (x.trans e1) p1 hm rfl
end
structure Ctx {ι : Type} (X : L2.FC ι) (W : Wd) (E : XK) : Prop where
  hK : ∀ x, (X x).K = W.K
  hm : ∀ x, (X x).mg = W.mg
  calm : ∀ x, (X x).calm = true
  hu : ∀ x, (X x).A.units + 64 < cLine
  ps : ∀ x, Passes (CX1 (X x).prog (X x).w) (X x) E
section
variable {ι : Type} (X : L2.FC ι) (W : Wd) (m : Md) (E : XK)
noncomputable def QE (e : Expr) (f : Ef) : Prop := ∃ t, (∀ x, PE (X x) e t) ∧ DE W m E t f
noncomputable def QB (e : Expr) (f : Ef) : Prop := ∃ t, (∀ x, PE (X x) e t) ∧ DB W m E t f
noncomputable def QF (e : Expr) (f : Ef) : Prop := ∃ t, (∀ x, PE (X x) e t) ∧ DF W m E t f
noncomputable def QT (e : Expr) (f : Tf) : Prop := ∃ t, (∀ x, PT (X x) e t) ∧ DT W m E t f
noncomputable def QW (e : Expr) (f : Tf) : Prop := ∃ t, (∀ x, PW (X x) e t) ∧ DT W m E t f
noncomputable def QTs (es : List Expr) (f : Tf) : Prop := ∃ t, (∀ x, PTs (X x) es t) ∧ DT W m E t f
noncomputable def QA (bs : List Bool) (es : List Expr) (f : Af) : Prop := ∃ t, (∀ x, PA (X x) es t) ∧ DA W m E bs t f
noncomputable def QP (e : Option Expr) (f : Pf) : Prop := ∃ t, (∀ x, PO (X x) e t) ∧ DP W m E t f
noncomputable def QI (c : Bool) (tg e : Expr) (f : Af) : Prop := ∃ t, (∀ x, PI (X x) tg e t) ∧ DI W m E c t f
noncomputable def QG (e : Expr) (a : U → En → Option En) : Prop := ∃ t, (∀ x, PG (X x) e t) ∧ DG W m t a
noncomputable def QGs (es : List Expr) (a : List U → En → Option En) : Prop := ∃ t, (∀ x, PGs (X x) es t) ∧ DGs W m t a
noncomputable def QS (s : Stmt) (g : Sf) : Prop := ∃ t, (∀ x, PS (X x) s t) ∧ DS W m E t g
noncomputable def QSs (s : List Stmt) (g : Sf) : Prop := ∃ t, (∀ x, PSs (X x) s t) ∧ DS W m E t g
noncomputable def QK (s : List Stmt) (g : Sf) : Prop := ∃ t, (∀ x, PSs (X x) s t) ∧ DK W m E t g
end
section
variable {ι : Type} {X : L2.FC ι} {W : Wd} {m : Md} {E : XK} {a b c e : Expr} {fa fb fc f : Ef} {ft ft' : Tf} {fr : Af} {bs : List Bool} {es : List Expr} {pos p p2 : Pos} {i : Nat} {x : Str}
theorem QE.tb (h : QE X W m E e f) : QB X W m E e f := let ⟨t, p, d⟩ := h; ⟨t, p, d.b⟩
theorem QF.te (h : QF X W m E e f) : QE X W m E e f := let ⟨t, p, d⟩ := h; ⟨t, p, d.e⟩
theorem QF.tb (h : QF X W m E e f) : QB X W m E e f := h.te.tb
theorem qe_var (i : Nat) (h1 : i ∉ m.B := by decide) (h2 : i ∉ m.M := by decide) (hN : ∀ y, (X y).N[i]? = some x := by intro ψ; rfl) (hv : ∀ y, Vis (X y).env.scope x := by intro ψ; first | exact Or.inl rfl | exact Or.inr (Or.inl rfl) | exact Or.inr (Or.inr rfl)) (hd : (x == ("__debug__" : Str)) = false := by decide)
    (hcd : (x == ("__classdict__" : Str)) = false := by decide) : QE X W m E (.Name x pos) (eVar i) := ⟨_, fun y => pe_var (hN y) (hv y) hd hcd, de_var h1 h2⟩
theorem qb_var (i : Nat) (hN : ∀ y, (X y).N[i]? = some x := by intro ψ; rfl) (hv : ∀ y, Vis (X y).env.scope x := by intro ψ; first | exact Or.inl rfl | exact Or.inr (Or.inl rfl) | exact Or.inr (Or.inr rfl)) (hd : (x == ("__debug__" : Str)) = false := by decide)
    (hcd : (x == ("__classdict__" : Str)) = false := by decide) : QB X W m E (.Name x pos) (eVar i) := ⟨_, fun y => pe_var (hN y) (hv y) hd hcd, db_var⟩
theorem qe_int {k : Int} {j} : QE X W m E (.Constant (.int k) j pos) (eC (.int k)) := ⟨_, fun ψ => pe_int, de_c fun ψ => .int⟩
theorem qe_bl {k : Bool} {j} : QE X W m E (.Constant (.bool k) j pos) (eC (.bl k)) := ⟨_, fun ψ => pe_bl, de_c fun ψ => .bl⟩
theorem qe_non {j} : QE X W m E (.Constant .none j pos) (eC .non) := ⟨_, fun ψ => pe_non, de_c fun ψ => .non⟩
theorem qe_str {k : Str} {j} : QE X W m E (.Constant (.str k) j pos) (eC (.str k)) := ⟨_, fun ψ => pe_str, de_c fun ψ => .str⟩
theorem qe_ty {n : String} (hm : ∀ y, (X y).mg x = none) (hv : bootBuiltins x = some (.type n)) (hg : ∀ y, Gl (X y) x := by intro ψ; rfl) (hn : x ≠ "__name__" := by decide) (hd : (x == ("__debug__" : Str)) = false := by decide) : QE X W m E (.Name x pos) (eC (.ty n)) :=
  ⟨_, fun y => pe_bltn (v := .ty n) (hg y) (hm y) hv rfl hn hd, de_c fun ψ => .ty⟩
theorem qe_bop {op : Operator} {r : R2} {g : U → U → Option U} (o : ∀ y, OpR (X y) (binaryOp op) r) (u : OpU W r g) (ha : QB X W m E a fa) (hb : QB X W m E b fb) : QE X W m E (.BinOp a op b pos) (eOp g fa fb) :=
  let ⟨_, pa, da⟩ := ha; let ⟨_, pb, db⟩ := hb; ⟨_, fun y => pe_op (o y) (pa y) (pb y), de_op u da db⟩
theorem qf_bop {op : Operator} {r : R2} {g : U → U → Option U} (o : ∀ y, OpR (X y) (binaryOp op) r) (u : OpF W r g) (ha : QB X W m E a fa) (hb : QB X W m E b fb) : QF X W m E (.BinOp a op b pos) (eOp g fa fb) :=
  let ⟨_, pa, da⟩ := ha; let ⟨_, pb, db⟩ := hb; ⟨_, fun y => pe_op (o y) (pa y) (pb y), df_op u da db⟩
theorem qe_add (cx : Ctx X W E) (ha : QB X W m E a fa) (hb : QB X W m E b fb) : QE X W m E (.BinOp a .Add b pos) (eOp uAdd fa fb) := qe_bop (fun y => op_addU (cx.hK y)) ou_add ha hb
theorem qf_cat (cx : Ctx X W E) (ha : QB X W m E a fa) (hb : QB X W m E b fb) : QF X W m E (.BinOp a .Add b pos) (eOp uCat fa fb) := qf_bop (fun y => op_addU (cx.hK y)) of_cat ha hb
theorem qe_sub (ha : QB X W m E a fa) (hb : QB X W m E b fb) : QE X W m E (.BinOp a .Sub b pos) (eOp uSub fa fb) := qe_bop (fun ψ => op_sub) ou_sub ha hb
theorem qe_mul (ha : QB X W m E a fa) (hb : QB X W m E b fb) : QE X W m E (.BinOp a .Mult b pos) (eOp uMul fa fb) := qe_bop (fun ψ => op_mulB) ou_mul ha hb
theorem qe_rep (ha : QB X W m E a fa) (hb : QB X W m E b fb) : QE X W m E (.BinOp a .Mult b pos) (eOp uRep fa fb) := qe_bop (fun ψ => op_repX) ou_rep ha hb
theorem qe_div (ha : QB X W m E a fa) (hb : QB X W m E b fb) : QE X W m E (.BinOp a .FloorDiv b pos) (eOp uDiv fa fb) := qe_bop (fun ψ => op_fdivB) ou_div ha hb
theorem qe_mod (ha : QB X W m E a fa) (hb : QB X W m E b fb) : QE X W m E (.BinOp a .Mod b pos) (eOp uMod fa fb) := qe_bop (fun ψ => op_mod) ou_mod ha hb
theorem qe_pow (ha : QB X W m E a fa) (hb : QB X W m E b fb) : QE X W m E (.BinOp a .Pow b pos) (eOp uPow fa fb) := qe_bop (fun ψ => op_pow) ou_pow ha hb
theorem qe_neg (ha : QB X W m E a fa) : QE X W m E (.UnaryOp .USub a pos) (eUn uNeg fa) := let ⟨_, pa, da⟩ := ha; ⟨_, fun y => pe_un un_neg (pa y), de_neg da⟩
theorem qe_cmp {op : CmpOp} {r : R2} {g : U → U → Option U} (o : ∀ y, OpR (X y) (compareOp op) r) (u : OpU W r g) (hm : behindInMarks op b = false) (ha : QB X W m E a fa) (hb : QB X W m E b fb) : QE X W m E (.Compare a [op] [b] pos) (eOp g fa fb) :=
  let ⟨_, pa, da⟩ := ha; let ⟨_, pb, db⟩ := hb; ⟨_, fun y => pe_cmpR (o y) (pa y) (pb y) hm, de_op u da db⟩
theorem qt_cmp {op : CmpOp} {r : R2} {g : U → U → Option U} (o : ∀ y, OpR (X y) (compareOp op) r) (u : OpU W r g) (hm : behindInMarks op b = false) (ha : QB X W m E a fa) (hb : QB X W m E b fb) : QT X W m E (.Compare a [op] [b] pos) (tfB (eOp g fa fb)) :=
  let ⟨_, pa, da⟩ := ha; let ⟨_, pb, db⟩ := hb; ⟨_, fun y => pt_cmpR (o y) (pa y) (pb y) hm, dt_t (de_op u da db).b⟩
theorem qe_lt (ha : QB X W m E a fa) (hb : QB X W m E b fb) : QE X W m E (.Compare a [.Lt] [b] pos) (eOp uLt fa fb) := qe_cmp (fun ψ => op_lt) ou_lt (nomark _) ha hb
theorem qe_gt (ha : QB X W m E a fa) (hb : QB X W m E b fb) : QE X W m E (.Compare a [.Gt] [b] pos) (eOp uGt fa fb) := qe_cmp (fun ψ => op_gt) ou_gt (nomark _) ha hb
theorem qe_ge (ha : QB X W m E a fa) (hb : QB X W m E b fb) : QE X W m E (.Compare a [.GtE] [b] pos) (eOp uGe fa fb) := qe_cmp (fun ψ => op_ge) ou_ge (nomark _) ha hb
theorem qe_eq (cx : Ctx X W E) (ha : QB X W m E a fa) (hb : QB X W m E b fb) : QE X W m E (.Compare a [.Eq] [b] pos) (eOp uEq fa fb) := qe_cmp (fun y => op_eqK (cx.hK y) (cx.hu y)) ou_eq (nomark _) ha hb
theorem qe_isnot (ha : QB X W m E a fa) (hb : QB X W m E b fb) : QE X W m E (.Compare a [.IsNot] [b] pos) (eOp (uIs true) fa fb) := qe_cmp (fun ψ => op_notN) ou_isnot (nomark _) ha hb
theorem qt_lt (ha : QB X W m E a fa) (hb : QB X W m E b fb) : QT X W m E (.Compare a [.Lt] [b] pos) (tfB (eOp uLt fa fb)) := qt_cmp (fun ψ => op_lt) ou_lt (nomark _) ha hb
theorem qt_gt (ha : QB X W m E a fa) (hb : QB X W m E b fb) : QT X W m E (.Compare a [.Gt] [b] pos) (tfB (eOp uGt fa fb)) := qt_cmp (fun ψ => op_gt) ou_gt (nomark _) ha hb
theorem qt_ge (ha : QB X W m E a fa) (hb : QB X W m E b fb) : QT X W m E (.Compare a [.GtE] [b] pos) (tfB (eOp uGe fa fb)) := qt_cmp (fun ψ => op_ge) ou_ge (nomark _) ha hb
theorem qt_eq (cx : Ctx X W E) (ha : QB X W m E a fa) (hb : QB X W m E b fb) : QT X W m E (.Compare a [.Eq] [b] pos) (tfB (eOp uEq fa fb)) := qt_cmp (fun y => op_eqK (cx.hK y) (cx.hu y)) ou_eq (nomark _) ha hb
theorem qt_ne (cx : Ctx X W E) (ha : QB X W m E a fa) (hb : QB X W m E b fb) : QT X W m E (.Compare a [.NotEq] [b] pos) (tfB (eOp uNe fa fb)) := qt_cmp (fun y => op_neK (cx.hK y) (cx.hu y)) ou_ne (nomark _) ha hb
theorem qt_lelt (ha : QB X W m E a fa) (hb : QB X W m E b fb) (hc : QB X W m E c fc) (hm : lastMarks [.LtE, .Lt] [b, c] = false := by with_unfolding_all rfl) : QT X W m E (.Compare a [.LtE, .Lt] [b, c] pos) (tfB (eChain uLe uLt fa fb fc)) :=
  let ⟨_, pa, da⟩ := ha; let ⟨_, pb, db⟩ := hb; let ⟨_, pc, dc⟩ := hc; ⟨_, fun y => pt_chain op_le op_lt (pa y) (pb y) (pc y) hm, dt_t (de_chain ou_le ou_lt da db dc).b⟩
theorem qt_val (ha : QB X W m E a fa) (he : ∀ y whole, isTrue a (X y).env whole = (do let v ← whole; standAt a.pos; holding [v] (truthy v)) := by intro ψ ψ; rfl) : QT X W m E a (tfB fa) := let ⟨_, pa, da⟩ := ha; ⟨_, fun y => pt_val (pa y) (he y), dt_b da⟩
theorem qt_not (ha : QT X W m E a ft) : QT X W m E (.UnaryOp .Not a pos) (tfNot ft) := let ⟨_, pa, da⟩ := ha; ⟨_, fun y => pt_not (pa y), dt_not da⟩
theorem QW.t (ha : QW X W m E a ft) : QT X W m E a ft := let ⟨_, pa, da⟩ := ha; ⟨_, fun y => (pa y).pt, da⟩
theorem qw_and1 (ha : QT X W m E a ft) : QW X W m E (.BoolOp .And [a] pos) ft := let ⟨_, pa, da⟩ := ha; ⟨_, fun y => pw_and1 (pa y), da⟩
theorem qw_or1 (ha : QT X W m E a ft) : QW X W m E (.BoolOp .Or [a] pos) ft := let ⟨_, pa, da⟩ := ha; ⟨_, fun y => pw_or1 (pa y), da⟩
theorem qw_and (ha : QT X W m E a ft) (hb : QW X W m E (.BoolOp .And (b :: es) pos) ft') : QW X W m E (.BoolOp .And (a :: b :: es) pos) (tfAnd ft ft') := let ⟨_, pa, da⟩ := ha; let ⟨_, pb, db⟩ := hb; ⟨_, fun y => pw_and (pa y) (pb y), dt_and da db⟩
theorem qw_or (ha : QT X W m E a ft) (hb : QW X W m E (.BoolOp .Or (b :: es) pos) ft') : QW X W m E (.BoolOp .Or (a :: b :: es) pos) (tfOr ft ft') := let ⟨_, pa, da⟩ := ha; let ⟨_, pb, db⟩ := hb; ⟨_, fun y => pw_or (pa y) (pb y), dt_or da db⟩
theorem qe_one {op} (ha : QE X W m E a fa) : QE X W m E (.BoolOp op [a] pos) fa := let ⟨_, pa, da⟩ := ha; ⟨_, fun y => pe_one (pa y), da⟩
theorem qe_or (ha : QB X W m E a fa) (hb : QE X W m E (.BoolOp .Or (b :: es) pos) fb) : QE X W m E (.BoolOp .Or (a :: b :: es) pos) (eOr fa fb) := let ⟨_, pa, da⟩ := ha; let ⟨_, pb, db⟩ := hb; ⟨_, fun y => pe_or (pa y) (pb y), de_or da db⟩
theorem qe_if (hc : QT X W m E c ft) (ha : QE X W m E a fa) (hb : QE X W m E b fb) : QE X W m E (.IfExp c a b pos) (eIf ft fa fb) := let ⟨_, pc, dc⟩ := hc; let ⟨_, pa, da⟩ := ha; let ⟨_, pb, db⟩ := hb; ⟨_, fun y => pe_ifExp (pc y) (pa y) (pb y), de_if dc da db⟩
theorem qe_ix (cx : Ctx X W E) (ha : QB X W m E a fa) (hb : QB X W m E b fb) (hs : PlainIx b := by exact fun ψ ψ => rfl) : QE X W m E (.Subscript a b pos) (eOp uIx fa fb) := let ⟨_, pa, da⟩ := ha; let ⟨_, pb, db⟩ := hb; ⟨_, fun y => pe_ix (ix_anyK (cx.hK y)) (pa y) (pb y) hs, de_op ou_ix da db⟩
theorem qp_none : QP X W m E none pNo := ⟨_, fun ψ => po_none, dp_no⟩
theorem qp_some (ha : QB X W m E a fa) : QP X W m E (some a) (pSome fa) := let ⟨_, pa, da⟩ := ha; ⟨_, fun y => po_some (pa y), dp_some da⟩
theorem qe_sl {lo hi : Option Expr} {fl fh : Pf} (cx : Ctx X W E) (ha : QB X W m E a fa) (hl : QP X W m E lo fl) (hh : QP X W m E hi fh) : QE X W m E (.Subscript a (.Slice lo hi none p2) pos) (eSl uSl fa fl fh) :=
  let ⟨_, pa, da⟩ := ha; let ⟨_, pl, dl⟩ := hl; let ⟨_, ph, dh⟩ := hh; ⟨_, fun y => pe_slice (sl_u (cx.hK y)) (pa y) (pl y) (ph y), de_sl da dl dh⟩
theorem qa_nil : QA X W m E [] [] aNil := ⟨_, fun ψ => pa_nil, da_nil⟩
theorem qa_b (ha : QB X W m E a fa) (hr : QA X W m E bs es fr) (hs : ∀ y, starEach (a :: es) (X y).env = (false, eval a (X y).env) :: starEach es (X y).env := by intro ψ; rfl) : QA X W m E (true :: bs) (a :: es) (aCons fa fr) := let ⟨_, pa, da⟩ := ha; let ⟨_, pr, dr⟩ := hr; ⟨_, fun y => pa_cons (pa y) (pr y) (hs y), da_b da dr⟩
theorem qa_e (ha : QE X W m E a fa) (hr : QA X W m E bs es fr) (hs : ∀ y, starEach (a :: es) (X y).env = (false, eval a (X y).env) :: starEach es (X y).env := by intro ψ; rfl) : QA X W m E (false :: bs) (a :: es) (aCons fa fr) := let ⟨_, pa, da⟩ := ha; let ⟨_, pr, dr⟩ := hr; ⟨_, fun y => pa_cons (pa y) (pr y) (hs y), da_e da dr⟩
theorem qe_tup {x1} (ha : QA X W m E bs es fr) (ho : offs bs = true := by rfl) : QE X W m E (.Tuple es x1 pos) (eTup fr) := let ⟨_, pa, da⟩ := ha; ⟨_, fun y => pe_tup (pa y), de_tup ho da⟩
theorem qf_lst (ha : QA X W m E bs es fr) (ho : offs bs = true := by rfl) : QF X W m E (.List es pos) (eLst fr) := let ⟨_, pa, da⟩ := ha; ⟨_, fun y => pe_lst (pa y), df_lst ho da⟩
theorem qe_cb {id : String} {r : List V → Hp → VK → Prop} {g : List U → Option U} (o : ∀ y, CallR (X y) (.builtin id) r) (u : CallU W bs r g) (hm : ∀ y, (X y).mg x = none) (hv : bootBuiltins x = some (.builtin id)) (ha : QA X W m E bs (a :: es) fr) (hg : ∀ y, Gl (X y) x := by intro ψ; rfl) (hn : x ≠ "__name__" := by decide) (hd : (x == ("__debug__" : Str)) = false := by decide)
    (hs : ∀ y, starEach (a :: es) (X y).env = (false, eval a (X y).env) :: starEach es (X y).env := by intro ψ; rfl) (hp : ∀ y, (backTo pos (starEach es (X y).env)).any (·.1) = false := by intro ψ; rfl) : QE X W m E (.Call (.Name x p) (a :: es) [] pos) (eB g fr) :=
  let ⟨_, pa, da⟩ := ha; ⟨_, fun y => pe_callB (o y) (hg y) (hm y) hv (pa y) hn hd (hs y) (hp y), de_cb u da⟩
theorem qe_ct {T : String} {r : List V → Hp → VK → Prop} {g : List U → Option U} (o : ∀ y, CallR (X y) (.type T) r) (u : CallU W bs r g) (hm : ∀ y, (X y).mg x = none) (hv : bootBuiltins x = some (.type T)) (ha : QA X W m E bs (a :: es) fr) (hg : ∀ y, Gl (X y) x := by intro ψ; rfl) (hn : x ≠ "__name__" := by decide) (hd : (x == ("__debug__" : Str)) = false := by decide)
    (hs : ∀ y, starEach (a :: es) (X y).env = (false, eval a (X y).env) :: starEach es (X y).env := by intro ψ; rfl) (hp : ∀ y, (backTo pos (starEach es (X y).env)).any (·.1) = false := by intro ψ; rfl) : QE X W m E (.Call (.Name x p) (a :: es) [] pos) (eB g fr) :=
  let ⟨_, pa, da⟩ := ha; ⟨_, fun y => pe_callTy (o y) (hg y) (hm y) hv (pa y) hn hd (hs y) (hp y), de_cb u da⟩
theorem qf_ct {T : String} {r : List V → Hp → VK → Prop} {g : List U → Option U} (o : ∀ y, CallR (X y) (.type T) r) (u : CallF W bs r g) (hm : ∀ y, (X y).mg x = none) (hv : bootBuiltins x = some (.type T)) (ha : QA X W m E bs (a :: es) fr) (hg : ∀ y, Gl (X y) x := by intro ψ; rfl) (hn : x ≠ "__name__" := by decide) (hd : (x == ("__debug__" : Str)) = false := by decide)
    (hs : ∀ y, starEach (a :: es) (X y).env = (false, eval a (X y).env) :: starEach es (X y).env := by intro ψ; rfl) (hp : ∀ y, (backTo pos (starEach es (X y).env)).any (·.1) = false := by intro ψ; rfl) : QF X W m E (.Call (.Name x p) (a :: es) [] pos) (eB g fr) :=
  let ⟨_, pa, da⟩ := ha; ⟨_, fun y => pe_callTy (o y) (hg y) (hm y) hv (pa y) hn hd (hs y) (hp y), df_cb u da⟩
structure Bl (mg : L2.SV) : Prop where
  len : mg "len" = none
  range : mg "range" = none
  sum : mg "sum" = none
  tuple : mg "tuple" = none
  list : mg "list" = none
  max : mg "max" = none
  min : mg "min" = none
  isinstance : mg "isinstance" = none
  int : mg "int" = none
  bool : mg "bool" = none
  abs : mg "abs" = none
  zip : mg "zip" = none
  enumerate : mg "enumerate" = none
  any : mg "any" = none
  all : mg "all" = none
  sorted : mg "sorted" = none
  set : mg "set" = none
  dict : mg "dict" = none
  reversed : mg "reversed" = none
  ValueError : mg "ValueError" = none
variable {B : Bl W.mg}
theorem qe_len (cx : Ctx X W E) (B : Bl W.mg) (ha : QB X W m E a fa) (hg : ∀ y, Gl (X y) "len" := by intro ψ; rfl) (hs : ∀ y, starEach [a] (X y).env = (false, eval a (X y).env) :: starEach [] (X y).env := by intro ψ; rfl) (hp : ∀ y, (backTo pos (starEach [] (X y).env)).any (·.1) = false := by intro ψ; rfl) : QE X W m E (.Call (.Name "len" p) [a] [] pos) (eB uLen (aCons fa aNil)) :=
  qe_cb (fun y => call_lenK (cx.hK y)) cu_len (fun y => (congrFun (cx.hm y) _).trans B.len) boot_len (qa_b ha qa_nil hs) hg (by decide) (by decide) hs hp
theorem qe_tuple (cx : Ctx X W E) (B : Bl W.mg) (ha : QB X W m E a fa) (hg : ∀ y, Gl (X y) "tuple" := by intro ψ; rfl) (hs : ∀ y, starEach [a] (X y).env = (false, eval a (X y).env) :: starEach [] (X y).env := by intro ψ; rfl) (hp : ∀ y, (backTo pos (starEach [] (X y).env)).any (·.1) = false := by intro ψ; rfl) : QE X W m E (.Call (.Name "tuple" p) [a] [] pos) (eB uTuple (aCons fa aNil)) :=
  qe_ct (fun y => call_tupK (cx.hK y)) cu_tuple (fun y => (congrFun (cx.hm y) _).trans B.tuple) boot_tuple (qa_b ha qa_nil hs) hg (by decide) (by decide) hs hp
theorem qf_list (cx : Ctx X W E) (B : Bl W.mg) (ha : QB X W m E a fa) (hg : ∀ y, Gl (X y) "list" := by intro ψ; rfl) (hs : ∀ y, starEach [a] (X y).env = (false, eval a (X y).env) :: starEach [] (X y).env := by intro ψ; rfl) (hp : ∀ y, (backTo pos (starEach [] (X y).env)).any (·.1) = false := by intro ψ; rfl) : QF X W m E (.Call (.Name "list" p) [a] [] pos) (eB uList (aCons fa aNil)) :=
  qf_ct (fun y => call_lstK (cx.hK y)) cf_list (fun y => (congrFun (cx.hm y) _).trans B.list) boot_list (qa_b ha qa_nil hs) hg (by decide) (by decide) hs hp
theorem call_anyK {Y : Cx} {K : PySem.W.Frag} (h : Y.K = K) (hc : Y.calm = true) : CallR Y (.builtin "any") (rAny K) := h ▸ call_anyL hc
theorem qe_any (cx : Ctx X W E) (B : Bl W.mg) (ha : QB X W m E a fa) (hg : ∀ y, Gl (X y) "any" := by intro ψ; rfl) (hs : ∀ y, starEach [a] (X y).env = (false, eval a (X y).env) :: starEach [] (X y).env := by intro ψ; rfl) (hp : ∀ y, (backTo pos (starEach [] (X y).env)).any (·.1) = false := by intro ψ; rfl) : QE X W m E (.Call (.Name "any" p) [a] [] pos) (eB uAny (aCons fa aNil)) :=
  qe_cb (fun y => call_anyK (cx.hK y) (cx.calm y)) cu_any (fun y => (congrFun (cx.hm y) _).trans B.any) boot_any (qa_b ha qa_nil hs) hg (by decide) (by decide) hs hp
theorem qe_abs (cx : Ctx X W E) (B : Bl W.mg) (ha : QB X W m E a fa) (hg : ∀ y, Gl (X y) "abs" := by intro ψ; rfl) (hs : ∀ y, starEach [a] (X y).env = (false, eval a (X y).env) :: starEach [] (X y).env := by intro ψ; rfl) (hp : ∀ y, (backTo pos (starEach [] (X y).env)).any (·.1) = false := by intro ψ; rfl) : QE X W m E (.Call (.Name "abs" p) [a] [] pos) (eB uAbs (aCons fa aNil)) :=
  qe_cb (fun ψ => call_absU) cu_abs (fun y => (congrFun (cx.hm y) _).trans B.abs) boot_abs (qa_b ha qa_nil hs) hg (by decide) (by decide) hs hp
theorem qe_toint (cx : Ctx X W E) (B : Bl W.mg) (ha : QB X W m E a fa) (hg : ∀ y, Gl (X y) "int" := by intro ψ; rfl) (hs : ∀ y, starEach [a] (X y).env = (false, eval a (X y).env) :: starEach [] (X y).env := by intro ψ; rfl) (hp : ∀ y, (backTo pos (starEach [] (X y).env)).any (·.1) = false := by intro ψ; rfl) : QE X W m E (.Call (.Name "int" p) [a] [] pos) (eB uInt (aCons fa aNil)) :=
  qe_ct (fun ψ => call_intA) cu_int (fun y => (congrFun (cx.hm y) _).trans B.int) boot_int (qa_b ha qa_nil hs) hg (by decide) (by decide) hs hp
theorem qe_max2 (cx : Ctx X W E) (B : Bl W.mg) (ha : QA X W m E [true, true] [a, b] fr) (hg : ∀ y, Gl (X y) "max" := by intro ψ; rfl) (hs : ∀ y, starEach [a, b] (X y).env = (false, eval a (X y).env) :: starEach [b] (X y).env := by intro ψ; rfl) (hp : ∀ y, (backTo pos (starEach [b] (X y).env)).any (·.1) = false := by intro ψ; rfl) : QE X W m E (.Call (.Name "max" p) [a, b] [] pos) (eB uMax2 fr) :=
  qe_cb (fun y => call_maxA (cx.calm y)) cu_max2 (fun y => (congrFun (cx.hm y) _).trans B.max) boot_max ha hg (by decide) (by decide) hs hp
theorem qe_min2 (cx : Ctx X W E) (B : Bl W.mg) (ha : QA X W m E [true, true] [a, b] fr) (hg : ∀ y, Gl (X y) "min" := by intro ψ; rfl) (hs : ∀ y, starEach [a, b] (X y).env = (false, eval a (X y).env) :: starEach [b] (X y).env := by intro ψ; rfl) (hp : ∀ y, (backTo pos (starEach [b] (X y).env)).any (·.1) = false := by intro ψ; rfl) : QE X W m E (.Call (.Name "min" p) [a, b] [] pos) (eB uMin2 fr) :=
  qe_cb (fun y => call_minA (cx.calm y)) cu_min2 (fun y => (congrFun (cx.hm y) _).trans B.min) boot_min ha hg (by decide) (by decide) hs hp
theorem qe_call {k : Nat} {f' : Addr} {fd : FuncData} {ps : List Str} {wk : Wd → Prop} {F : Ff} (cx : Ctx X W E) (C : ∀ y, Fn (X y).prog (X y).w (X y).K (X y).mg (X y).base (CX1 (X y).prog (X y).w) k x f' fd ps (spU W.K W.mg wk bs.length bs F)) (hr : ∀ y, Room k (X y).A) (hw : wk W) (ha : QA X W m E bs (a :: es) fr) (hg : ∀ y, Gl (X y) x := by intro ψ; rfl)
    (hd : (x == ("__debug__" : Str)) = false := by decide) (hs : ∀ y, starEach (a :: es) (X y).env = (false, eval a (X y).env) :: starEach es (X y).env := by intro ψ; rfl) (hp : ∀ y, (backTo pos (starEach es (X y).env)).any (·.1) = false := by intro ψ; rfl) : QE X W m E (.Call (.Name x p) (a :: es) [] pos) (eCall F fr) :=
  let ⟨_, pa, da⟩ := ha; ⟨_, fun y => pe_call (C y).F (hr y) (hg y) (C y).hm (C y).kp (C y).hb .nil (cx.ps y) (pa y) hd (hs y) (hp y), de_call rfl rfl hw da⟩
theorem qi_e {c : Bool} {tg : Expr} (cx : Ctx X W E) (ha : QE X W m E a fa) : QI X W m E c tg a (iOf fa) := let ⟨_, pa, da⟩ := ha; ⟨_, fun y => pi_seq (cx.hK y) (pa y), di_e da⟩
theorem qi_v {c : Bool} {tg : Expr} (i : Nat) (cx : Ctx X W E) (h2 : i ∉ m.M := by decide) (hN : ∀ y, (X y).N[i]? = some x := by intro ψ; rfl) (hv : ∀ y, Vis (X y).env.scope x := by intro ψ; first | exact Or.inl rfl | exact Or.inr (Or.inl rfl) | exact Or.inr (Or.inr rfl)) (hd : (x == ("__debug__" : Str)) = false := by decide)
    (hcd : (x == ("__classdict__" : Str)) = false := by decide) : QI X W m E c tg (.Name x pos) (iOf (eVar i)) := ⟨_, fun y => pi_seq (cx.hK y) (pe_var (hN y) (hv y) hd hcd), di_v h2⟩
theorem qi_r1 {c : Bool} {tg : Expr} (cx : Ctx X W E) (B : Bl W.mg) (ha : QA X W m E [true] [a] fr) (hg : ∀ y, Gl (X y) "range" := by intro ψ; rfl) (hs : ∀ y, starEach [a] (X y).env = [(false, eval a (X y).env)] := by intro ψ; rfl) : QI X W m E c tg (.Call (.Name "range" p) [a] [] pos) (iArgs uR1 fr) :=
  let ⟨_, pa, da⟩ := ha; ⟨_, fun y => pi_range1 (hg y) ((congrFun (cx.hm y) _).trans B.range) (pa y) (hs y), di_r1 da⟩
theorem pi_enumK {Y : Cx} {K : PySem.W.Frag} {a : Expr} {ta : TA} {p pos tp : Pos} {es : List Expr} {x1 : Nat} (h : Y.K = K) (hg : Gl Y "enumerate") (hm : Y.mg "enumerate" = none) (ha : PA Y [a] ta) (hs : starEach [a] Y.env = [(false, eval a Y.env)]) : PI Y (.Tuple es x1 tp) (.Call (.Name "enumerate" p) [a] [] pos) (iEnum K ta) := h ▸ pi_enumerate hg hm ha hs
theorem qi_enum {c : Bool} {tp : Pos} {x1 : Nat} {ts : List Expr} (cx : Ctx X W E) (B : Bl W.mg) (ha : QA X W m E [true] [a] fr) (hg : ∀ y, Gl (X y) "enumerate" := by intro ψ; rfl) (hs : ∀ y, starEach [a] (X y).env = [(false, eval a (X y).env)] := by intro ψ; rfl) : QI X W m E c (.Tuple ts x1 tp) (.Call (.Name "enumerate" p) [a] [] pos) (iArgs uEnum fr) :=
  let ⟨_, pa, da⟩ := ha; ⟨_, fun y => pi_enumK (cx.hK y) (hg y) ((congrFun (cx.hm y) _).trans B.enumerate) (pa y) (hs y), di_enum da⟩
theorem qg_name (i : Nat) (hN : ∀ y, (X y).N.Nodup) (h1 : i ∉ m.B := by decide) (h2 : i ∉ m.M := by decide) (hi : ∀ y, (X y).N[i]? = some x := by intro ψ; rfl) (hx : ∀ y, Loc (X y).env.scope x := by intro ψ; first | exact Or.inl rfl | exact Or.inr rfl) (hf : ∀ y, (X y).fn x = true ∨ (X y).env.scope.names.lookup x = some .local := by intro ψ; first | exact .inl rfl | exact .inr rfl) :
    QG X W m (.Name x pos) (aName i) := ⟨_, fun y => pg_name (hN y) (hi y) (hx y) (hf y), dg_name h1 h2⟩
theorem qgs_nil : QGs X W m [] aNilT := ⟨_, fun ψ => pgs_nil, dgs_nil⟩
theorem qgs_cons {u : U → En → Option En} {v : List U → En → Option En} (h1 : QG X W m a u) (h2 : QGs X W m es v) (hs : ∀ y, (assignEach (a :: es) (X y).env).map (·.2) = assign a (X y).env :: (assignEach es (X y).env).map (·.2) := by intro ψ; rfl) : QGs X W m (a :: es) (aConsT u v) :=
  let ⟨_, p1, d1⟩ := h1; let ⟨_, p2, d2⟩ := h2; ⟨_, fun y => pgs_cons (p1 y) (p2 y) (hs y), dgs_cons d1 d2⟩
theorem qg_tup {n k : Nat} {v : List U → En → Option En} (cx : Ctx X W E) (h2 : QGs X W m es v) (hn : ∀ y, (assignEach es (X y).env).length = n := by intro ψ; rfl) (hst : ∀ y, (assignEach es (X y).env).findIdx? (·.1) = none := by intro ψ; rfl) : QG X W m (.Tuple es k pos) (aTup n v) :=
  let ⟨_, p2, d2⟩ := h2; ⟨_, fun y => pg_tupK (cx.hK y) (cx.calm y) (p2 y) (hn y) (hst y), dg_tup d2⟩
variable {s : Stmt} {ss sb : List Stmt} {g g1 g2 : Sf}
theorem qss_nil : QSs X W m E [] sNext := ⟨_, fun ψ => pss_nil, ds_next⟩
theorem qss_one (h : QS X W m E s g) : QSs X W m E [s] g := let ⟨_, p, d⟩ := h; ⟨_, fun y => pss_one (p y), d⟩
theorem qss_cons (h1 : QS X W m E s g1) (h2 : QSs X W m E ss g2) : QSs X W m E (s :: ss) (sSeq g1 g2) := let ⟨_, p, d⟩ := h1; let ⟨_, p2, d2⟩ := h2; ⟨_, fun y => pss_cons (p y) (p2 y), ds_seq d d2⟩
theorem qk_one (h : QS X W m E s g) : QK X W m E [s] g := let ⟨_, p, d⟩ := h; ⟨_, fun y => pss_one (p y), dk_one d⟩
theorem qk_cons (h1 : QS X W m E s g1) (h2 : QK X W m E ss g2) : QK X W m E (s :: ss) (sSeq g1 g2) := let ⟨_, p, d⟩ := h1; let ⟨_, p2, d2⟩ := h2; ⟨_, fun y => pss_cons (p y) (p2 y), dk_seq d d2⟩
theorem qs_ret (ha : QE X W ⟨m.B, []⟩ E a fa) (hB : ∀ i ∈ m.M, i ∉ m.B := by decide) : QS X W m E (.Return (some a) pos) (sRet fa) := let ⟨_, pa, da⟩ := ha; ⟨_, fun y => ps_ret (pa y), ds_ret hB da⟩
theorem qs_if (hc : QT X W m E c ft) (h1 : QSs X W m E ss g1) (h2 : QSs X W m E sb g2) : QS X W m E (.If c ss sb pos) (sIf ft g1 g2) := let ⟨_, pc, dc⟩ := hc; let ⟨_, p1, d1⟩ := h1; let ⟨_, p2, d2⟩ := h2; ⟨_, fun y => ps_if (pc y) (p1 y) (p2 y), ds_if dc d1 d2⟩
theorem qs_set (i : Nat) (hN : ∀ y, (X y).N.Nodup) (ha : QE X W m E a fa) (hs : ∀ y, swapsWith a (some (.Name x p)) pos.line (X y).env = pure false := by intro ψ; rfl) (h1 : i ∉ m.B := by decide) (h2 : i ∉ m.M := by decide) (hi : ∀ y, (X y).N[i]? = some x := by intro ψ; rfl) (hx : ∀ y, Loc (X y).env.scope x := by intro ψ; first | exact Or.inl rfl | exact Or.inr rfl)
    (hf : ∀ y, (X y).fn x = true ∨ (X y).env.scope.names.lookup x = some .local := by intro ψ; first | exact .inl rfl | exact .inr rfl) : QS X W m E (.Assign [.Name x p] a pos) (sSet i fa) := let ⟨_, pa, da⟩ := ha; ⟨_, fun y => ps_set (hN y) (hi y) (hx y) (pa y) (hs y) (hf y), ds_set h1 h2 da⟩
theorem qs_own (i : Nat) (hN : ∀ y, (X y).N.Nodup) (ha : QF X W m E a fa) (hs : ∀ y, swapsWith a (some (.Name x p)) pos.line (X y).env = pure false := by intro ψ; rfl) (h1 : i ∉ m.B := by decide) (h2 : i ∈ m.M := by decide) (hi : ∀ y, (X y).N[i]? = some x := by intro ψ; rfl) (hx : ∀ y, Loc (X y).env.scope x := by intro ψ; first | exact Or.inl rfl | exact Or.inr rfl)
    (hf : ∀ y, (X y).fn x = true ∨ (X y).env.scope.names.lookup x = some .local := by intro ψ; first | exact .inl rfl | exact .inr rfl) : QS X W m E (.Assign [.Name x p] a pos) (sSet i fa) := let ⟨_, pa, da⟩ := ha; ⟨_, fun y => ps_set (hN y) (hi y) (hx y) (pa y) (hs y) (hf y), ds_own h1 h2 da⟩
theorem qs_asg {tg : Expr} {u : U → En → Option En} (ha : QE X W m E a fa) (hg : QG X W m tg u) (hs : ∀ y, swapsWithSole [tg] a pos.line (X y).env = pure false := by intro ψ; rfl) (hw : ∀ y, swappedStores [tg] a (X y).env = pure none := by intro ψ; rfl) (h1 : ∀ y, (assignEach [tg] (X y).env).map (·.2) = [assign tg (X y).env] := by intro ψ; rfl) :
    QS X W m E (.Assign [tg] a pos) (sAsg u fa) := let ⟨_, pa, da⟩ := ha; let ⟨_, pg, dg⟩ := hg; ⟨_, fun y => ps_asg (pa y) (pg y) (hs y) (hw y) (h1 y), ds_asg dg da⟩
theorem qs_aug {op : Operator} {r : R2} {u : U → U → Option U} (i : Nat) (hN : ∀ y, (X y).N.Nodup) (o : ∀ y, OpR (X y) (inplaceOp op) r) (ou : OpU W r u) (ha : QB X W m E a fa) (h1 : i ∉ m.B := by decide) (h2 : i ∉ m.M := by decide) (hi : ∀ y, (X y).N[i]? = some x := by intro ψ; rfl) (hx : ∀ y, Loc (X y).env.scope x := by intro ψ; first | exact Or.inl rfl | exact Or.inr rfl)
    (hf : ∀ y, (X y).fn x = true ∨ (X y).env.scope.names.lookup x = some .local := by intro ψ; first | exact .inl rfl | exact .inr rfl) : QS X W m E (.AugAssign (.Name x p) op a pos) (sAug i u fa) := let ⟨_, pa, da⟩ := ha; ⟨_, fun y => ps_aug (hN y) (hi y) (hx y) (pa y) (o y) (hf y), ds_aug h1 h2 ou da⟩
theorem qs_expr (ha : QB X W m E a fa) (hs : ∀ y, swapsWith a none pos.line (X y).env = pure false := by intro ψ; rfl) : QS X W m E (.Expr a pos) (sExpr fa) := let ⟨_, pa, da⟩ := ha; ⟨_, fun y => ps_expr (pa y) (hs y), ds_expr da⟩
theorem ps_bmK {Y : Cx} {K : PySem.W.Frag} {s : Stmt} {T : String} {r : V → List V → Hp → VK → Prop} {to : TE} {t : TA} (h : Y.K = K) (q : PS Y s (tDrop (tBM Y.K T r to t))) : PS Y s (tDrop (tBM K T r to t)) := h ▸ q
theorem qs_app {apos cpos : Pos} (i : Nat) (cx : Ctx X W E) (ha : QE X W m E a fa) (h2 : i ∈ m.M := by decide) (hN : ∀ y, (X y).N[i]? = some x := by intro ψ; rfl) (hv : ∀ y, Vis (X y).env.scope x := by intro ψ; first | exact Or.inl rfl | exact Or.inr (Or.inl rfl) | exact Or.inr (Or.inr rfl)) (hd : (x == ("__debug__" : Str)) = false := by decide) (hcd : (x == ("__classdict__" : Str)) = false := by decide)
    (hline : (apos.endLine == cpos.line) = true := by rfl) (hst : ∀ y, starEach [a] (X y).env = (false, eval a (X y).env) :: starEach [] (X y).env := by intro ψ; rfl) (hp : ∀ y, (backTo cpos (starEach [] (X y).env)).any (·.1) = false := by intro ψ; rfl)
    (hbase : ∀ y, attributeBase (.Name x p) "append" (X y).env (eval (.Name x p) (X y).env) = eval (.Name x p) (X y).env := by intro ψ; rfl)
    (hfew : ∀ y, ((backTo cpos (starEach [a] (X y).env)).all (fun x => !x.1) && (backToKw cpos (keywordEach [] (X y).env)).all (fun x => x.1.isSome) && decide (([a] : List Expr).length + ([] : List Keyword).length + (if ([] : List Keyword).isEmpty then 0 else 1) < 30)) = true := by intro ψ; rfl)
    (hs : ∀ y, swapsWith (.Call (.Attribute (.Name x p) "append" apos) [a] [] cpos) none pos.line (X y).env = pure false := by intro ψ; rfl) : QS X W m E (.Expr (.Call (.Attribute (.Name x p) "append" apos) [a] [] cpos) pos) (sApp i fa) :=
  let ⟨_, pa, da⟩ := ha; ⟨_, fun y => ps_bmK (cx.hK y) (ps_expr (pe_bm PySem.F.plainAttrs_list PySem.F.slot_list_append PySem.F.type_list_append mt_append (pe_var (hN y) (hv y) hd hcd) (pa_cons (pa y) pa_nil (hst y)) (hbase y) (hfew y) hline (hst y) (hp y)) (hs y)), ds_app h2 da⟩
theorem qs_for {tg iter : Expr} {fi : Af} {u : U → En → Option En} (cx : Ctx X W E) (pw : ∀ y, PassesOwn (model (X y).prog (X y).w) (X y).A (X y).env (X y).xe) (hi : QI X W m E false tg iter fi) (hg : QG X W m tg u) (hb : QSs X W m E ss g) (hs : ∀ y v, foldedSetIterable iter (X y).env v = pure v := by intro ψ ψ; rfl) : QS X W m E (.For tg iter ss [] pos) (sFor fi u g) :=
  let ⟨_, pi, di⟩ := hi; let ⟨_, pg, dg⟩ := hg; let ⟨_, pb, db⟩ := hb; ⟨_, fun y => ps_for (pw y) (cx.calm y) (pi y) (pg y) (pb y) (hs y), ds_for di dg db⟩
theorem qs_while (pw : ∀ y, PassesOwn (model (X y).prog (X y).w) (X y).A (X y).env (X y).xe) (hc : QT X W m E c ft) (hb : QSs X W m E ss g) : QS X W m E (.While c ss [] pos) (sWh ft g) := let ⟨_, pc, dc⟩ := hc; let ⟨_, pb, db⟩ := hb; ⟨_, fun y => ps_while (pw y) (pc y) (pb y), ds_while dc db⟩
end
noncomputable def okJ (m mb : Md) (k : Nat) (js : List Nat) : Bool := (List.range js.length).all fun p => !(m.B.contains (js.getD p 0) || m.M.contains (js.getD p 0)) || mb.B.contains (k + p)
theorem okJ_of {m mb : Md} {k : Nat} {js : List Nat} (h : okJ m mb k js = true) : ∀ p j, js[p]? = some j → (j ∈ m.B ∨ j ∈ m.M) → k + p ∈ mb.B := fun p j hj hm => by
  have lt : p < js.length := (List.getElem?_eq_some_iff.mp hj).1
  have z := List.all_eq_true.mp h p (List.mem_range.mpr lt)
  have e : js.getD p 0 = j := by rw [List.getD_eq_getElem?_getD, hj]; rfl
  rw [e] at z
  have q : (m.B.contains j || m.M.contains j) = true := by
    rcases hm with hm | hm
    · simp [hm]
    · simp [hm]
  rw [q] at z
  simpa using z
noncomputable abbrev BlkA := Addr × List (Addr × Obj) × List Addr × Shared × Hp
noncomputable abbrev blkX (X : Cx) (N : List Str) (scope : Scope) (cl : List (Str × Addr)) : BlkA → Cx := fun b => cxComp X N scope cl b.1 b.2.1 b.2.2.1 b.2.2.2.1 b.2.2.2.2
section
variable {X : Unit → Cx} {W : Wd} {m mb : Md} {E : XK} {elt tg iter : Expr} {ifs : List Expr} {scope : Scope} {pos : Pos} {cl : List (Str × Addr)} {bs caps : List Str} {js : List Nat} {fi : Af} {u : U → En → Option En} {ft : Tf} {fe : Ef}
theorem Ctx.blk (cx : Ctx X W E) : Ctx (blkX (X ()) (bs ++ caps) scope cl) W E0 := ⟨fun ψ => cx.hK (), fun ψ => cx.hm (), fun ψ => cx.calm (), fun ψ => cx.hu (), fun ψ ψ ψ ψ ψ ψ ψ ψ h => by obtain ⟨_, _, _, _, _, _, _, _, _, _, q⟩ := h; exact q.elim⟩
theorem qts_nil {ι : Type} {Y : L2.FC ι} : QTs Y W m E [] tfTrue := ⟨_, fun ψ => pts_nil, dt_true⟩
theorem qts_one {ι : Type} {Y : L2.FC ι} {c : Expr} (h : QT Y W m E c ft) : QTs Y W m E [c] ft := let ⟨_, p, d⟩ := h; ⟨_, fun y => pts_one (p y), d⟩
theorem qf_comp (mb : Md) (cx : Ctx X W E) (c : CompOk (X ()) scope cl js caps) (hi : QI X W m E true tg iter fi) (hg : QG (blkX (X ()) (bs ++ caps) scope cl) W mb tg u) (ht : QTs (blkX (X ()) (bs ++ caps) scope cl) W mb E0 ifs ft) (he : QE (blkX (X ()) (bs ++ caps) scope cl) W mb E0 elt fe)
    (hB : okJ m mb bs.length js = true := by rfl) (hM : mb.M = [] := by rfl) (hs : ∀ x, foldedSetIterable iter (X ()).env x = pure x := by intro ψ; rfl) : QF X W m E (.ListComp elt [⟨tg, iter, ifs, 0⟩] scope pos) (eComp fi bs.length js u ft fe) :=
  let ⟨_, pi, di⟩ := hi; let ⟨_, pg, dg⟩ := hg; let ⟨_, pt, dt⟩ := ht; let ⟨_, pe, de⟩ := he
  ⟨_, fun y => pe_comp (cx.calm y) c (pi y) (fun C pins fp s2 H2 => pg (C, pins, fp, s2, H2)) (fun C pins fp s2 H2 => pt (C, pins, fp, s2, H2)) (fun C pins fp s2 H2 => pe (C, pins, fp, s2, H2)) hs, df_comp di dg dt de (okJ_of hB) hM⟩
theorem qs_setC {y : Str} {py spos : Pos} (own : Bool) (i : Nat) (mb : Md) (cx : Ctx X W E) (hN : (X ()).N.Nodup) (c : CompOk (X ()) scope cl js caps) (hi : QI X W m E true tg iter fi) (hg : QG (blkX (X ()) (bs ++ caps) scope cl) W mb tg u) (ht : QTs (blkX (X ()) (bs ++ caps) scope cl) W mb E0 ifs ft) (he : QE (blkX (X ()) (bs ++ caps) scope cl) W mb E0 elt fe)
    (hB : okJ m mb bs.length js = true := by rfl) (hM : mb.M = [] := by rfl) (hs : ∀ x, foldedSetIterable iter (X ()).env x = pure x := by intro ψ; rfl) (hsw : swapsWith (.ListComp elt [⟨tg, iter, ifs, 0⟩] scope pos) (some (.Name y py)) spos.line (X ()).env = pure true := by rfl)
    (hy : (X ()).N[i]? = some y := by rfl) (hl : (X ()).env.scope.names.lookup y = some .local := by rfl) (h1 : i ∉ m.B := by decide) (h2 : (own = true → i ∈ m.M) ∧ (own = false → i ∉ m.M) := by decide) : QS X W m E (.Assign [.Name y py] (.ListComp elt [⟨tg, iter, ifs, 0⟩] scope pos) spos) (sSet i (eComp fi bs.length js u ft fe)) :=
  let ⟨_, pi, di⟩ := hi; let ⟨_, pg, dg⟩ := hg; let ⟨_, pt, dt⟩ := ht; let ⟨_, pe, de⟩ := he
  ⟨_, fun ψ => ps_setC hsw hN hy hl (cx.calm ()) c (pi ()) (fun C pins fp s2 H2 => pg (C, pins, fp, s2, H2)) (fun C pins fp s2 H2 => pt (C, pins, fp, s2, H2)) (fun C pins fp s2 H2 => pe (C, pins, fp, s2, H2)) hs, by
    cases own with
    | true => exact ds_own h1 (h2.1 rfl) (df_comp di dg dt de (okJ_of hB) hM)
    | false => exact ds_set h1 (h2.2 rfl) (df_comp di dg dt de (okJ_of hB) hM).e⟩
end
section
variable {P : Program} {w : World} {K : PySem.W.Frag} {mg : L2.SV} {base : Heap} {N : List Str} {qual : Str} {scope : Scope} {f : Addr} {cd : Value} {A : Around} {outer : List Env} {s : Shared} {H : Hp} {E : XK} {W : Wd} {m : Md} {k : Nat}
noncomputable abbrev defX (P : Program) (w : World) (K : PySem.W.Frag) (mg : L2.SV) (base : Heap) (N : List Str) (qual : Str) (scope : Scope) (f : Addr) (cd : Value) (A : Around) (outer : List Env) (s : Shared) (H : Hp) (E : XK) : Unit → Cx := fun ψ => cxOf (CX1 P w) P w K mg base N qual scope f cd A outer s H E
theorem ctx_def (hK : W.K = K) (hm : W.mg = mg) (hr : Room k (A.deeper (envOfC qual scope s.heap.objs.size f cd))) : Ctx (defX P w K mg base N qual scope f cd A outer s H E) W E := ⟨fun ψ => hK.symm, fun ψ => hm.symm, fun ψ => rfl, fun ψ => hr.units, fun ψ => passes1 fun ψ ψ ψ h => h⟩
theorem pw_def : ∀ y, PassesOwn (model (defX P w K mg base N qual scope f cd A outer s H E y).prog (defX P w K mg base N qual scope f cd A outer s H E y).w) (defX P w K mg base N qual scope f cd A outer s H E y).A (defX P w K mg base N qual scope f cd A outer s H E y).env (defX P w K mg base N qual scope f cd A outer s H E y).xe := fun ψ => PassesOwn.leaving
noncomputable def okB (bs : List Bool) (m : Md) : Bool := ((List.range bs.length).all fun i => !(bs.getD i false) || m.B.contains i) && m.M.all fun i => decide (bs.length ≤ i)
theorem Fun.okQ {x qual : Str} {st : Stmt} {f : Addr} {fd : FuncData} {N ps : List Str} {k : Nat} {wk : Wd → Prop} {bs : List Bool} {m : Md} {g : Sf} (F : Fun K x qual st f fd) (S : FnScope N ps (defScope st)) (hl : bs.length = ps.length) (hB : okB bs m = true) (hN : ps.length ≤ N.length)
    (hbody : ∀ (cdv : Value) (A : Around) (outer : List Env) (s : Shared) (H : Hp) (E : XK) (W : Wd), W.K = K → W.mg = mg → wk W → Room k (A.deeper (envOfC qual (defScope st) s.heap.objs.size f cdv)) → A.handled = none →
      QK (defX P w K mg base N qual (defScope st) f cdv A outer s H E) W m E (defBody st) g) : FnOk P w K mg base (CX1 P w) (k + 1) f fd ps (spU K mg wk bs.length bs (runU N.length g)) := by
  unfold okB at hB
  rw [Bool.and_eq_true] at hB
  refine F.okU S hl (fun i h => ?_) (fun i h => by simpa using List.all_eq_true.mp hB.2 i h) hN fun cdv A outer s H E W hK hm hw hr hA => ?_
  · have lt : i < bs.length := (List.getElem?_eq_some_iff.mp h).1
    have z := List.all_eq_true.mp hB.1 i (List.mem_range.mpr lt)
    rw [List.getD_eq_getElem?_getD, h] at z
    simpa using z
  · obtain ⟨t, p, d⟩ := hbody cdv A outer s H E W hK hm hw hr hA
    exact ⟨t, p (), d⟩
theorem QK.out {X : Cx} {ss : List Stmt} {g : Sf} (h : QK (fun _ : Unit => X) W m E ss g) : ∃ t, PSs X ss t ∧ DK W m E t g := let ⟨t, p, d⟩ := h; ⟨t, p (), d⟩
noncomputable def XOk (K : PySem.W.Frag) (mg : L2.SV) (x : Str) : Prop := ∃ C : Addr, mg x = some (.ref C) ∧ PySem.W.excIn K C [.type "ValueError", .type "Exception", .type "BaseException", .type "object"] "ValueError.__new__" = true
theorem qs_raise {x : Str} {e0 : Expr} {fe : Ef} {np cpos pos : Pos} (hA : A.handled = none) (hmg : W.mg = mg) (hX : XOk K mg x) (he : QB (fun _ : Unit => (cxOf (CX1 P w) P w K mg base N qual scope f cd A outer s H E).nox) W m E e0 fe)
    (hg : Gl (cxOf (CX1 P w) P w K mg base N qual scope f cd A outer s H E) x := by rfl) (hd : (x == ("__debug__" : Str)) = false := by decide) (hs : starEach [e0] (envOfC qual scope s.heap.objs.size f cd) = [(false, eval e0 (envOfC qual scope s.heap.objs.size f cd))] := by rfl) :
    QS (defX P w K mg base N qual scope f cd A outer s H E) W m E (.Raise (some (.Call (.Name x np) [e0] [] cpos)) none pos) (sRaise x fe) :=
  let ⟨_, hm, hC⟩ := hX; let ⟨_, pe, de⟩ := he; ⟨_, fun ψ => ps_raise hA PySem.F.excBase_ValueError hC hm hg (pe ()) hd hs, ds_raise (by rw [hmg]; exact hm) de⟩
end
section
variable {ι : Type} {X : L2.FC ι} {W : Wd} {m : Md} {E : XK} {a : Expr} {fa : Ef} {pos p : Pos} {s : Stmt} {x : Str}
end
section
variable {X : Cx}
noncomputable def SqU (K : PySem.W.Frag) (H : Hp) (p : Addr) (vs : List V) : Prop := SqL K H p vs ∨ SqT K H p vs
theorem seq_iter {pins : List (Addr × Obj)} {σ : St} {H : Hp} {s : Shared} {p : Addr} {vs : List V} (hc : X.calm = true) (I : Inv X pins σ H s) (h : SqU X.K H p vs) :
    ∃ its : List Value, Vals vs its ∧ ∀ (Q : L2.VSP) (E : L2.VSP), (∀ (g : Heap) (St : Nat → Heap → Prop), Walks X.prog X.w X.A.in1 s.heap.objs.size [s.heap.objs.size, p] [s.heap.objs.size] its.length (fun i v => its[i]? = some v) St → St 0 g → (∀ b ∈ [s.heap.objs.size, p], b < g.objs.size) →
      (∀ h' tk, (∀ b o, b ∉ [s.heap.objs.size] → g.get? b = some o → h'.get? b = some o) → Inv X pins σ H { s with heap := h', toks := tk }) → Q (.ref s.heap.objs.size) { s with heap := g }) → wpAny (model X.prog X.w) X.A.in1 (pyIter (.ref p)) Q E s := by
  have hh : X.A.in1.handled = none := I.ok.hd hc
  rcases h with h | h
  · obtain ⟨its, rv, pl, hz⟩ := I.list h
    have lt : p < s.heap.objs.size := by obtain ⟨o, e, _⟩ := pl.isList; exact Heap.lt_size e
    refine ⟨its, rv, fun Q E k => wpAny_pyIter_list pl.isList ?_⟩
    have e : (fun (i : Nat) (v : Value) => its.toArray[i]? = some v) = (fun i v => its[i]? = some v) := by funext i v; simp
    have Wk := Walks.list (prog := X.prog) (w := X.w) (A := X.A.in1) hh s.heap.objs.size p (Nat.ne_of_lt lt) its.toArray
    rw [e] at Wk
    refine k _ _ Wk ⟨⟨_, Heap.get?_push_size _ rfl, rfl, rfl⟩, pl.isList.push _⟩ (fun b hb => ?_) fun h' tk hk => I.kept (t' := tk) fun b o e => hk b o (fun hm => ?_) (Heap.get?_push_of_some _ e)
    · rw [Heap.size_push]
      rcases List.mem_cons.mp hb with z | z
      · rw [z]; exact Nat.lt_succ_self _
      · rw [List.mem_singleton.mp z]; exact Nat.lt_succ_of_lt lt
    · rw [List.mem_singleton.mp hm] at e
      exact Nat.lt_irrefl _ (Heap.lt_size e)
  · obtain ⟨its, rv, pl, hz⟩ := I.tuple h
    have pt : s.heap.IsTuple p its.toArray := pl
    have lt : p < s.heap.objs.size := by obtain ⟨o, e, _⟩ := pl; exact Heap.lt_size e
    refine ⟨its, rv, fun Q E k => wpAny_pyIter_tuple pt ?_⟩
    have e : (fun (i : Nat) (v : Value) => its.toArray[i]? = some v) = (fun i v => its[i]? = some v) := by funext i v; simp
    have Wk := Walks.tuple (prog := X.prog) (w := X.w) (A := X.A.in1) hh s.heap.objs.size p (Nat.ne_of_lt lt) its.toArray
    rw [e] at Wk
    refine k _ _ Wk ⟨⟨_, Heap.get?_push_size _ rfl, rfl, rfl⟩, pt.at fun o e => Heap.get?_push_of_some _ e⟩ (fun b hb => ?_) fun h' tk hk => I.kept (t' := tk) fun b o e => hk b o (fun hm => ?_) (Heap.get?_push_of_some _ e)
    · rw [Heap.size_push]
      rcases List.mem_cons.mp hb with z | z
      · rw [z]; exact Nat.lt_succ_self _
      · rw [List.mem_singleton.mp z]; exact Nat.lt_succ_of_lt lt
    · rw [List.mem_singleton.mp hm] at e
      exact Nat.lt_irrefl _ (Heap.lt_size e)
theorem vals_int_at {ns : List Int} {its : List Value} (r : Vals (ns.map V.int) its) {i : Nat} {v : Value} (h : its[i]? = some v) : ∃ t, v = .int (ns.getD i 0) t := by
  have l := r.length
  rw [List.length_map] at l
  have li : i < its.length := (List.getElem?_eq_some_iff.mp h).1
  have e : (ns.map V.int)[i]? = some (.int (ns.getD i 0)) := by
    have : i < ns.length := by lia
    simp [List.getD, this]
  obtain ⟨u, hu, ru⟩ := r.get e
  rw [h] at hu; cases hu
  exact ru
theorem preSum_take (ns : List Int) : ∀ k, k ≤ ns.length → preSum (fun i => ns.getD i 0) k = (ns.take k).sum
  | 0, _ => by simp [preSum]
  | k + 1, h => by
    have hk : k < ns.length := h
    rw [preSum, preSum_take ns k (by lia), List.take_succ_eq_append_getElem hk, List.sum_append]
    simp [List.getD, hk]
theorem preSum_getD (ns : List Int) : preSum (fun i => ns.getD i 0) ns.length = ns.sum := by rw [preSum_take ns _ (Nat.le_refl _), List.take_length]
noncomputable def rSumU (K : PySem.W.Frag) : List V → Hp → VK → Prop := fun xs H Q => ∃ (p : Addr) (ns : List Int), xs = [.ref p] ∧ SqU K H p (ns.map V.int) ∧ Q (.int ns.sum) H
theorem call_sumU {K : PySem.W.Frag} (hK : X.K = K) (hc : X.calm = true) : CallR X (.builtin "sum") (rSumU K) := by
  subst hK
  intro pins s σ H xs us Q I r h
  obtain ⟨p, ns, rfl, hq, q⟩ := h
  obtain ⟨u, rfl, ru⟩ := vals1 r
  cases ru
  obtain ⟨its, rv, k⟩ := seq_iter hc I hq
  refine call_sum_walkG (k _ _ fun g St W st lt keep => ⟨_, _, _, _, _, St, fun i => ns.getD i 0, rfl, W, st, lt, fun i v h => vals_int_at rv h, fun h' tk t' hk => ?_⟩)
  have l := rv.length
  rw [List.length_map] at l
  rw [← l, preSum_getD]
  exact ⟨.int _, H, keep h' tk hk, ⟨_, rfl⟩, q⟩
end
section
variable {W : Wd} {m : Md} {E : XK}
theorem RB.seq {Hc H : Hp} {us : List U} {v : V} {u : U} (s : Same Hc H) (h : u = .lst us ∨ u = .tup us) (r : RB W Hc H u v) : ∃ a vs, v = .ref a ∧ SqU W.K H a vs ∧ RUs W Hc us vs := by
  rcases h with rfl | rfl
  · obtain ⟨a, vs, rfl, h1, r1⟩ := r.lst s; exact ⟨a, vs, rfl, .inl (.of h1), r1⟩
  · obtain ⟨a, vs, rfl, h1, r1⟩ := r.tup; exact ⟨a, vs, rfl, .inr (.of (s _ _ h1)), r1⟩
noncomputable def seqInts : U → Option (List Int)
  | .lst us => asInts us
  | .tup us => asInts us
  | _ => none
theorem seqInts_r {Hc H : Hp} {u : U} {v : V} {ns : List Int} (s : Same Hc H) (h : seqInts u = some ns) (r : RB W Hc H u v) : ∃ a, v = .ref a ∧ SqU W.K H a (ns.map V.int) := by
  unfold seqInts at h
  split at h
  · obtain ⟨a, vs, rfl, q, rr⟩ := r.seq s (.inl rfl)
    rw [asInts_of h] at rr
    have e := rr.ints; subst e
    exact ⟨a, rfl, q⟩
  · obtain ⟨a, vs, rfl, q, rr⟩ := r.seq s (.inr rfl)
    rw [asInts_of h] at rr
    have e := rr.ints; subst e
    exact ⟨a, rfl, q⟩
  · cases h
noncomputable def uSumU : List U → Option U
  | [u] => (seqInts u).map fun ns => .int ns.sum
  | _ => none
theorem cu_sumU : CallU W [true] (rSumU W.K) uSumU := by
  intro Hc H ω us vs s p rs u e Q k
  unfold uSumU at e; split at e
  · rename_i w
    obtain ⟨v, rfl, rv⟩ := rs.one
    cases q : seqInts w with
    | none => rw [q] at e; exact noS e
    | some ns =>
      rw [q] at e; cases e
      obtain ⟨a, rfl, sq⟩ := seqInts_r s q rv
      exact ⟨a, ns, rfl, sq, k _ Hc H (Ext.refl s) p .int⟩
  · cases e
variable {ι : Type} {X : L2.FC ι} {a : Expr} {fa : Ef} {pos p : Pos}
theorem qe_sumU (cx : Ctx X W E) (B : Bl W.mg) (ha : QB X W m E a fa) (hg : ∀ y, Gl (X y) "sum" := by intro ψ; rfl) (hs : ∀ y, starEach [a] (X y).env = (false, eval a (X y).env) :: starEach [] (X y).env := by intro ψ; rfl) (hp : ∀ y, (backTo pos (starEach [] (X y).env)).any (·.1) = false := by intro ψ; rfl) : QE X W m E (.Call (.Name "sum" p) [a] [] pos) (eB uSumU (aCons fa aNil)) :=
  qe_cb (fun y => call_sumU (cx.hK y) (cx.calm y)) cu_sumU (fun y => (congrFun (cx.hm y) _).trans B.sum) boot_sum (qa_b ha qa_nil hs) hg (by decide) (by decide) hs hp
structure Kt (K : PySem.W.Frag) : Prop where
  ib : PySem.W.kitOne K (.type "int") (.type "bool") = some false
  bi : PySem.W.kitOne K (.type "bool") (.type "int") = some true
noncomputable def isTy : U → String → Option U
  | .int _, n => if n = "int" then some (.bl true) else if n = "bool" then some (.bl false) else none
  | .bl _, n => if n = "bool" then some (.bl true) else if n = "int" then some (.bl true) else none
  | .tup _, n => if n = "tuple" then some (.bl true) else none
  | .lst _, n => if n = "list" then some (.bl true) else none
  | _, _ => none
noncomputable def tyU : U → Option String
  | .ty n => some n
  | _ => none
noncomputable def uIsT : List U → Option U
  | [a, b] => (tyU b).bind (isTy a)
  | _ => none
theorem uIsT_of {us : List U} {u : U} (e : uIsT us = some u) : ∃ a n, us = [a, .ty n] ∧ isTy a n = some u := by
  rcases us with _ | ⟨a, _ | ⟨b, _ | ⟨c, t⟩⟩⟩
  · exact noS e
  · exact noS e
  · cases b with
    | ty n => exact ⟨a, n, rfl, e⟩
    | _ => exact noS e
  · exact noS e
theorem kit_same {K : PySem.W.Frag} {n : String} : PySem.W.kitOne K (.type n) (.type n) = some true := by simp [PySem.W.kitOne]
theorem cu_isT (kt : Kt W.K) : CallU W [true, true] (rIsA W.K) uIsT := by
  intro Hc H ω us vs s p rs u e Q k
  obtain ⟨a, n, rfl, e⟩ := uIsT_of e
  obtain ⟨v, v', rfl, r1, r2⟩ := rs.two
  have := r2.ty; subst this
  cases a with
  | int x =>
    have := r1.int; subst this
    by_cases c1 : n = "int"
    · subst c1; cases e; exact ris_ty (.int _) kit_same (k _ Hc H (Ext.refl s) p .bl)
    · replace e : (if n = "int" then some (U.bl true) else if n = "bool" then some (U.bl false) else none) = some u := e
      rw [if_neg c1] at e
      by_cases c2 : n = "bool"
      · subst c2; cases e; exact ris_ty (.int _) kt.ib (k _ Hc H (Ext.refl s) p .bl)
      · rw [if_neg c2] at e; cases e
  | bl x =>
    have := r1.bl; subst this
    by_cases c1 : n = "bool"
    · subst c1; cases e; exact ris_ty (.bl _) kit_same (k _ Hc H (Ext.refl s) p .bl)
    · replace e : (if n = "bool" then some (U.bl true) else if n = "int" then some (U.bl true) else none) = some u := e
      rw [if_neg c1] at e
      by_cases c2 : n = "int"
      · subst c2; cases e; exact ris_ty (.bl _) kt.bi (k _ Hc H (Ext.refl s) p .bl)
      · rw [if_neg c2] at e; cases e
  | tup x =>
    obtain ⟨a, vs, rfl, h1, _⟩ := r1.tup
    by_cases c1 : n = "tuple"
    · subst c1; cases e; exact ris_ty (.tup (s _ _ h1)) kit_same (k _ Hc H (Ext.refl s) p .bl)
    · replace e : (if n = "tuple" then some (U.bl true) else none) = some u := e
      rw [if_neg c1] at e; cases e
  | lst x =>
    obtain ⟨a, vs, rfl, h1, _⟩ := r1.lst s
    by_cases c1 : n = "list"
    · subst c1; cases e; exact ris_ty (.lst h1) kit_same (k _ Hc H (Ext.refl s) p .bl)
    · replace e : (if n = "list" then some (U.bl true) else none) = some u := e
      rw [if_neg c1] at e; cases e
  | _ => exact noS e
variable {b : Expr} {fr : Af}
theorem qe_isT (cx : Ctx X W E) (B : Bl W.mg) (kt : Kt W.K) (ha : QA X W m E [true, true] [a, b] fr) (hg : ∀ y, Gl (X y) "isinstance" := by intro ψ; rfl) (hs : ∀ y, starEach [a, b] (X y).env = (false, eval a (X y).env) :: starEach [b] (X y).env := by intro ψ; rfl) (hp : ∀ y, (backTo pos (starEach [b] (X y).env)).any (·.1) = false := by intro ψ; rfl) : QE X W m E (.Call (.Name "isinstance" p) [a, b] [] pos) (eB uIsT fr) :=
  qe_cb (fun y => call_isK (cx.hK y)) (cu_isT kt) (fun y => (congrFun (cx.hm y) _).trans B.isinstance) boot_isinstance ha hg (by decide) (by decide) hs hp
end
theorem line_big : 1000000 ≤ sizeLine := by decide
theorem atI_cast {α : Type} (xs : List α) (n : Nat) : atI xs (n : Int) = xs[n]? := by
  unfold atI ixN
  rw [if_pos (Int.natCast_nonneg n)]
  by_cases h : n < xs.length
  · rw [if_pos (by lia)]; simp
  · rw [if_neg (by lia)]; simp [h]
theorem atI_zero {α : Type} (xs : List α) : atI xs (0 : Int) = xs[0]? := atI_cast xs 0
theorem atI_one {α : Type} (xs : List α) : atI xs (1 : Int) = xs[1]? := atI_cast xs 1
theorem atI_in {α : Type} {xs : List α} {k : Int} (h0 : 0 ≤ k) (h1 : k < xs.length) : atI xs k = some (xs[k.toNat]'(by lia)) := by
  obtain ⟨n, rfl⟩ := Int.eq_ofNat_of_zero_le h0
  rw [atI_cast]
  have : n < xs.length := by lia
  simp [this]
theorem atI_end {α : Type} (xs : List α) (x : α) : atI (xs ++ [x]) (-1 : Int) = some x := by
  unfold atI ixN
  have h2 : -(((xs ++ [x]).length : Nat) : Int) ≤ -1 := by simp; lia
  rw [if_neg (by lia), if_pos h2]
  have e : (-1 + ((xs ++ [x]).length : Int)).toNat = xs.length := by simp; lia
  rw [e]; simp
theorem atI_map {α β : Type} {f : α → β} {xs : List α} {k : Int} : atI (xs.map f) k = (atI xs k).map f := by
  unfold atI
  rw [List.length_map]
  cases ixN xs.length k with
  | none => rfl
  | some j => simp
theorem uIx_l {us : List U} {k : Int} : uIx (.lst us) (.int k) = atI us k := rfl
theorem uIx_t {us : List U} {k : Int} : uIx (.tup us) (.int k) = atI us k := rfl
theorem uDiv_s {a b : Int} (h0 : 0 < b) (h1 : b < 18446744073709551616) : uDiv (.int a) (.int b) = some (.int (a / b)) := by
  unfold uDiv
  have e : (18446744073709551616 : Nat) ≤ 2 ^ 9000 := by
    rw [show (18446744073709551616 : Nat) = 2 ^ 64 by decide]; exact Nat.pow_le_pow_right (by decide) (by decide)
  simp only
  rw [if_pos ⟨h0, by lia⟩]
theorem big_le {k : Nat} (h : k ≤ 9000) {a : Int} (h1 : a < 2 ^ k) (h2 : -(2 ^ k) < a) : a.natAbs < 2 ^ 9000 := by
  have e : (2 : Nat) ^ k ≤ 2 ^ 9000 := Nat.pow_le_pow_right (by decide) h
  have z : ((2 ^ k : Nat) : Int) = (2 : Int) ^ k := by push_cast; rfl
  lia
theorem uDiv_b {a b : Int} (k : Nat) (hk : k ≤ 9000) (h0 : 0 < b) (h1 : b < 2 ^ k) : uDiv (.int a) (.int b) = some (.int (a / b)) := by
  unfold uDiv
  simp only
  rw [if_pos ⟨h0, big_le hk h1 (by have := two_pow_nn k; lia)⟩]
theorem uMod_s {a b : Int} (h0 : 0 < b) : uMod (.int a) (.int b) = some (.int (a % b)) := by unfold uMod; simp only; rw [if_pos h0]
theorem uMul_l {a b : Int} (h1 : -18446744073709551616 < a) (h2 : a < 18446744073709551616) : uMul (.int a) (.int b) = some (.int (a * b)) := by
  unfold uMul; simp only; rw [if_pos (.inl ⟨by lia, by lia⟩)]
theorem uMul_r {a b : Int} (h1 : -18446744073709551616 < b) (h2 : b < 18446744073709551616) : uMul (.int a) (.int b) = some (.int (a * b)) := by
  unfold uMul; simp only; rw [if_pos (.inr (.inl ⟨by lia, by lia⟩))]
theorem uPow_s {a b : Int} (h0 : 0 ≤ b) (h1 : b ≤ 1000000) (h2 : -18446744073709551616 < a) (h3 : a < 18446744073709551616) : uPow (.int a) (.int b) = some (.int (a ^ b.toNat)) := by
  unfold uPow; simp only; rw [if_pos ⟨h0, h1, by lia⟩]
theorem uAdd_i {a b : Int} : uAdd (.int a) (.int b) = some (.int (a + b)) := rfl
theorem uAdd_l {a b : List U} (h : a.length + b.length ≤ 1000000) : uAdd (.lst a) (.lst b) = some (.lst (a ++ b)) := by unfold uAdd; simp only; rw [if_pos (Nat.le_trans h line_big)]
theorem uAdd_t {a b : List U} (h : a.length + b.length ≤ 1000000) : uAdd (.tup a) (.tup b) = some (.tup (a ++ b)) := by unfold uAdd; simp only; rw [if_pos (Nat.le_trans h line_big)]
theorem uCat_l {a b : List U} (h : a.length + b.length ≤ 1000000) : uCat (.lst a) (.lst b) = some (.lst (a ++ b)) := by unfold uCat; simp only; rw [if_pos (Nat.le_trans h line_big)]
theorem mkT_s {us : List U} (h : us.length ≤ 1000000) : mkT us = some (.tup us) := by unfold mkT; rw [if_pos (Nat.le_trans h line_big)]
theorem mkL_s {us : List U} (h : us.length ≤ 1000000) : mkL us = some (.lst us) := by unfold mkL; rw [if_pos (Nat.le_trans h line_big)]
theorem ite_lt {α : Type} {n : Nat} {a b : α} (h : n < 1000000) : (if n < sizeLine then a else b) = a := by rw [if_pos (Nat.lt_of_lt_of_le h line_big)]
theorem ite_le {α : Type} {n : Nat} {a b : α} (h : n ≤ 1000000) : (if n ≤ sizeLine then a else b) = a := by rw [if_pos (Nat.le_trans h line_big)]
theorem uR1_s {j : Int} (h0 : -4611686018427387904 ≤ j) (h1 : j < 4611686018427387904) : uR1 [.int j] = some (rngU 0 j.toNat) := by unfold uR1; simp only; rw [if_pos ⟨by lia, by lia⟩]
theorem rngU_len {lo : Int} {n : Nat} : (rngU lo n).length = n := by simp [rngU]
section
variable {i j n : Nat} {fa fb fc fi : Ef} {ft ft' : Tf} {fr : Af} {ρ : En} {ω : Om} {u : U} {us : List U} {g g1 g2 : Sf} {h h' : U → U → Option U} {q : List U → Option U} {q1 : U → Option U} {x : Str} {a : U → En → Option En} {b : List U → En → Option En} {fl fh : Pf} {F : Ff}
theorem sNext_ap : sNext ρ ω = .nx ρ ω := rfl
theorem sIf_ap : sIf ft g1 g2 ρ ω = Fl.of (ft ρ ω) fun b ω1 => if b = true then g1 ρ ω1 else g2 ρ ω1 := rfl
theorem sSet_ap : sSet i fa ρ ω = Fl.of (fa ρ ω) fun u ω1 => .nx (ρ.set i (some u)) ω1 := rfl
theorem sRet_ap : sRet fa ρ ω = Fl.of (fa ρ ω) fun u ω1 => .rt u ω1 := rfl
theorem sExpr_ap : sExpr fa ρ ω = Fl.of (fa ρ ω) fun ψ ω1 => .nx ρ ω1 := rfl
theorem sAug_ap : sAug i h fa ρ ω = match ρ[i]? with
  | some (some a) => Fl.of (fa ρ ω) fun b ω1 => match h a b with
    | some c => .nx (ρ.set i (some c)) ω1
    | none => .stk
  | _ => .stk := rfl
theorem sApp_ap : sApp i fa ρ ω = match ρ[i]? with
  | some (some (.lst us)) => Fl.of (fa ρ ω) fun u ω1 => if us.length < sizeLine then .nx (ρ.set i (some (.lst (us ++ [u])))) ω1 else .stk
  | _ => .stk := rfl
theorem sAsg_ap : sAsg a fa ρ ω = Fl.of (fa ρ ω) fun u ω1 => match a u ρ with
  | some ρ' => .nx ρ' ω1
  | none => .stk := rfl
theorem sFor_ap : sFor fr a g ρ ω = Fl.of (fr ρ ω) fun us ω1 => forU (stepU a g) us ρ ω1 := rfl
theorem stepU_ap : stepU a g u ρ ω = match a u ρ with
  | some ρ' => g ρ' ω
  | none => .stk := rfl
theorem sRaise_ap : sRaise x fa ρ ω = Fl.of (fa ρ ω) fun ψ ω1 => .err x none ω1 := rfl
theorem aName_ap : aName i u ρ = some (ρ.set i (some u)) := rfl
theorem aTup_ap : aTup n b (.tup us) ρ = if us.length = n then b us ρ else none := rfl
theorem aNilT_ap : aNilT [] ρ = some ρ := rfl
theorem aConsT_ap : aConsT a b (u :: us) ρ = (a u ρ).bind (b us) := rfl
theorem eVar_ap : eVar i ρ ω = match ρ[i]? with
  | some (some u) => .ok u ω
  | _ => .stk := rfl
theorem eC_ap : eC u ρ ω = .ok u ω := rfl
theorem eOp_ap : eOp h fa fb ρ ω = (fa ρ ω).bnd fun a ω1 => (fb ρ ω1).bnd fun b ω2 => .of (h a b) ω2 := rfl
theorem eUn_ap : eUn q1 fa ρ ω = (fa ρ ω).bnd fun a ω1 => .of (q1 a) ω1 := rfl
theorem eAnd_ap : eAnd fa fb ρ ω = (fa ρ ω).bnd fun u ω1 => match u with
  | .bl b => if b = true then fb ρ ω1 else .ok (.bl false) ω1
  | _ => .stk := rfl
theorem eOr_ap : eOr fa fb ρ ω = (fa ρ ω).bnd fun u ω1 => match u with
  | .bl b => if b = true then .ok (.bl true) ω1 else fb ρ ω1
  | _ => .stk := rfl
theorem eIf_ap : eIf ft fa fb ρ ω = (ft ρ ω).bnd fun b ω1 => if b = true then fa ρ ω1 else fb ρ ω1 := rfl
theorem eChain_ap : eChain h h' fa fb fc ρ ω = (fa ρ ω).bnd fun a ω1 => (fb ρ ω1).bnd fun b ω2 => match h a b with
  | some (.bl k) => if k = true then (fc ρ ω2).bnd fun c ω3 => .of (h' b c) ω3 else .ok (.bl false) ω2
  | _ => .stk := rfl
theorem eTup_ap : eTup fr ρ ω = (fr ρ ω).bnd fun us ω1 => .of (mkT us) ω1 := rfl
theorem eLst_ap : eLst fr ρ ω = (fr ρ ω).bnd fun us ω1 => .of (mkL us) ω1 := rfl
theorem eB_ap : eB q fr ρ ω = (fr ρ ω).bnd fun us ω1 => .of (q us) ω1 := rfl
theorem eCall_ap : eCall F fr ρ ω = (fr ρ ω).bnd F := rfl
theorem eSl_ap {g : U → Option Int → Option Int → Option U} : eSl g fa fl fh ρ ω = (fa ρ ω).bnd fun a ω1 => (fl ρ ω1).bnd fun l ω2 => (fh ρ ω2).bnd fun h ω3 => .of (g a l h) ω3 := rfl
theorem eComp_ap {k : Nat} {js : List Nat} : eComp fr k js a ft fa ρ ω = (fr ρ ω).bnd fun us ω1 => if us.length ≤ sizeLine then asOk (cmpU (cstU a ft fa (blkU k js ρ)) us ω1) fun r ω2 => .ok (.lst r) ω2 else .stk := rfl
theorem cstU_ap : cstU a ft fa ρ u ω = match a u ρ with
  | some ρ' => (ft ρ' ω).bnd fun b ω1 => if b = true then (fa ρ' ω1).bnd fun u ω2 => .ok (some u) ω2 else .ok none ω1
  | none => .stk := rfl
theorem tfB_ap : tfB fa ρ ω = (fa ρ ω).bnd fun u ω1 => .of (asB u) ω1 := rfl
theorem tfAnd_ap : tfAnd ft ft' ρ ω = (ft ρ ω).bnd fun b ω1 => if b = true then ft' ρ ω1 else .ok false ω1 := rfl
theorem tfOr_ap : tfOr ft ft' ρ ω = (ft ρ ω).bnd fun b ω1 => if b = true then .ok true ω1 else ft' ρ ω1 := rfl
theorem tfNot_ap : tfNot ft ρ ω = (ft ρ ω).bnd fun b ω1 => .ok (!b) ω1 := rfl
theorem tfTrue_ap : tfTrue ρ ω = .ok true ω := rfl
theorem aNil_ap : aNil ρ ω = .ok [] ω := rfl
theorem aCons_ap : aCons fa fr ρ ω = (fa ρ ω).bnd fun u ω1 => (fr ρ ω1).bnd fun us ω2 => .ok (u :: us) ω2 := rfl
theorem pNo_ap : pNo ρ ω = .ok none ω := rfl
theorem pSome_ap : pSome fa ρ ω = (fa ρ ω).bnd fun u ω1 => .of (asI u) ω1 := rfl
theorem iOf_ap : iOf fa ρ ω = (fa ρ ω).bnd fun u ω1 => .of (asSeq u) ω1 := rfl
theorem iArgs_ap {q : List U → Option (List U)} : iArgs q fr ρ ω = (fr ρ ω).bnd fun us ω1 => .of (q us) ω1 := rfl
end
noncomputable def thenF (g : Sf) (r : Fl) : Fl := match r with
  | .nx ρ' ω' => g ρ' ω'
  | o => o
theorem sSeq_then {g1 g2 : Sf} {ρ : En} {ω : Om} : sSeq g1 g2 ρ ω = thenF g2 (g1 ρ ω) := rfl
@[simp] theorem thenF_nx {g : Sf} {ρ : En} {ω : Om} : thenF g (.nx ρ ω) = g ρ ω := rfl
@[simp] theorem thenF_rt {g : Sf} {u : U} {ω : Om} : thenF g (.rt u ω) = .rt u ω := rfl
@[simp] theorem thenF_err {g : Sf} {c : Str} {p : Option Int} {ω : Om} : thenF g (.err c p ω) = .err c p ω := rfl
noncomputable def endF (r : Fl) : Res U := match r with
  | .nx _ ω' => .ok .non ω'
  | .rt u ω' => .ok u ω'
  | .err c p ω' => .err c p ω'
  | _ => .stk
theorem runU_end {n : Nat} {g : Sf} {us : List U} {ω : Om} : runU n g us ω = endF (g (us.map some ++ List.replicate (n - us.length) none) ω) := rfl
@[simp] theorem endF_rt {u : U} {ω : Om} : endF (.rt u ω) = .ok u ω := rfl
@[simp] theorem endF_nx {ρ : En} {ω : Om} : endF (.nx ρ ω) = .ok .non ω := rfl
@[simp] theorem endF_err {c : Str} {p : Option Int} {ω : Om} : endF (.err c p ω) = .err c p ω := rfl
theorem toDs_ints : ∀ ns : List Int, U.toDs (ns.map U.int) = some (ns.map D.int)
  | [] => by rw [List.map_nil, U.toDs]; rfl
  | n :: ns => by rw [List.map_cons, U.toDs, U.toD, toDs_ints ns]; rfl
theorem uEqs_ints (a b : List Int) : uEqs (a.map U.int) (b.map U.int) = some (decide (a = b)) := by
  unfold uEqs
  rw [toDs_ints, toDs_ints]
  simp [depths_ints, eqs_ints]
theorem uEq_ii {a b : Int} : uEq (.int a) (.int b) = some (.bl (decide (a = b))) := rfl
theorem uNe_ii {a b : Int} : uNe (.int a) (.int b) = some (.bl (!decide (a = b))) := rfl
theorem uEq_tt {a b : List Int} : uEq (.tup (a.map U.int)) (.tup (b.map U.int)) = some (.bl (decide (a = b))) := by show (uEqs _ _).map U.bl = _; rw [uEqs_ints]; rfl
theorem uEq_ll {a b : List Int} : uEq (.lst (a.map U.int)) (.lst (b.map U.int)) = some (.bl (decide (a = b))) := by show (uEqs _ _).map U.bl = _; rw [uEqs_ints]; rfl
theorem uNe_ll {a b : List Int} : uNe (.lst (a.map U.int)) (.lst (b.map U.int)) = some (.bl (!decide (a = b))) := by show (uEqs _ _).map (fun k => U.bl (!k)) = _; rw [uEqs_ints]; rfl
theorem fn1_to0 {P : Program} {w : World} {K : PySem.W.Frag} {mg : L2.SV} {base : Heap} {k : Nat} {f : Addr} {fd : FuncData} {ps : List Str} {sp : Sp} (F : FnOk P w K mg base (CX1 P w) k f fd ps sp) : FnOk P w K mg base CX0 k f fd ps (fun vs H Q ψ => sp vs H Q E0) :=
  ⟨fun vs H Q E h => F.len vs H Q E0 h, fun A outer s H args us vs Q E hr he hb hv hs => codeAny_mono (F.run A outer s H args us vs Q E0 hr he hb hv hs) fun r s' q => by
    cases r with
    | error e => obtain ⟨_, _, _, _, _, _, _, _, _, _, z⟩ := q; exact z.elim
    | ok fl => cases fl <;> exact q⟩
noncomputable def spLaw (K : PySem.W.Frag) : Sp := fun vs H Q ψ => ∃ sc, ∃ ns : List Int, vs = [.ref sc] ∧ SqL K H sc (ns.map V.int) ∧ ns.length ≤ 63 ∧ ∀ H', Q (.bl true) H'
noncomputable def wd0 (K : PySem.W.Frag) (mg : L2.SV) : Wd := ⟨K, mg, 0, [], fun ψ ψ => True, fun ψ ψ ψ ψ ψ => trivial⟩
section
variable {W : Wd} {m : Md} {E : XK} {c : Bool} {tr : TA} {fr : Af}
variable {ι : Type} {X : L2.FC ι} {a b d : Expr} {pos p : Pos}
end
end L2
set_option maxHeartbeats 1000000
namespace L2
open PySem PySem.Spec PyProof.Rows
section
variable {W : Wd} {m : Md} {E : XK}
end
section
variable {ι : Type} {X : L2.FC ι} {W : Wd} {m : Md} {E : XK} {a b c e : Expr} {fa fb fc f : Ef} {fr : Af} {bs : List Bool} {es : List Expr} {pos p p2 : Pos} {i : Nat} {x : Str}
end
section
variable {X : Cx}
end
section
variable {W : Wd} {m : Md} {E : XK} {tr : TA} {fr : Af}
end
section
variable {ι : Type} {X : L2.FC ι} {W : Wd} {m : Md} {E : XK} {a b : Expr} {fr : Af} {pos p p2 pos2 : Pos}
end
structure PlW (W : Wd) : Prop where
  mem : W.pa ∈ W.L
  out : ∀ ω H, W.pl ω H → ∃ sc, H W.pa = some (.lst (.ref sc :: ω.rs.map V.int)) ∧ SqL W.K H sc (ω.cs.map V.int)
  inn : ∀ ω H sc rs, W.pl ω H → H W.pa = some (.lst (.ref sc :: ω.rs.map V.int)) → W.pl ⟨ω.cs, rs⟩ (upd H W.pa (.lst (.ref sc :: rs.map V.int)))
open Classical in
noncomputable def Hr (L : List Addr) (H : Hp) : Hp := fun b => if b ∈ L then H b else none
theorem Hr_same {L : List Addr} {H : Hp} : Same (Hr L H) H := fun b o h => by
  unfold Hr at h
  by_cases c : b ∈ L
  · rw [if_pos c] at h; exact h
  · rw [if_neg c] at h; cases h
noncomputable def wdP (K : PySem.W.Frag) (mg : L2.SV) (pa : Addr) (L : List Addr) : Wd where
  K := K
  mg := mg
  pa := pa
  L := L
  pl := fun ω H => pa ∈ L ∧ ∃ sc, H pa = some (.lst (.ref sc :: ω.rs.map V.int)) ∧ SqL K (Hr L H) sc (ω.cs.map V.int)
  st := fun ω H H' h k => by
    obtain ⟨m, sc, e, q⟩ := h
    refine ⟨m, sc, k _ _ e (.inl m), Same.seq (fun b o hb => ?_) q⟩
    unfold Hr at hb ⊢
    by_cases c : b ∈ L
    · rw [if_pos c] at hb ⊢; exact k _ _ hb (.inl c)
    · rw [if_neg c] at hb; cases hb
theorem wdP_ok {K : PySem.W.Frag} {mg : L2.SV} {pa : Addr} {L : List Addr} (h : pa ∈ L) : PlW (wdP K mg pa L) := by
  refine ⟨h, fun ω H p => ?_, fun ω H sc rs p e => ?_⟩
  · obtain ⟨_, sc, e, q⟩ := p
    exact ⟨sc, e, Hr_same.seq q⟩
  · obtain ⟨m, sc', e', q⟩ := p
    have e0 : H pa = some (.lst (.ref sc :: ω.rs.map V.int)) := e
    rw [e'] at e0
    have z : sc' = sc := by injection e0 with z1; injection z1 with z2; injection z2 with z3; injection z3
    subst z
    refine ⟨m, sc', upd_same, ?_⟩
    rcases q with q | q
    · refine .inl ?_
      have key : ∀ o, Hr L H sc' = some o → (∃ xs : List Int, o = .lst (xs.map V.int)) ∨ (∃ ob u, o = .frz ob u) → Hr L (upd H pa (.lst (.ref sc' :: rs.map V.int))) sc' = some o := fun o ho hk => by
        have hh := Hr_same _ _ ho
        have ne : sc' ≠ pa := fun z => by
          rw [z, e'] at hh; injection hh with hh
          rcases hk with ⟨xs, rfl⟩ | ⟨ob, u, rfl⟩
          · injection hh with hh
            cases xs with
            | nil => cases hh
            | cons x xs => rw [List.map_cons] at hh; injection hh with h1 h2; cases h1
          · cases hh
        unfold Hr at ho ⊢
        by_cases c : sc' ∈ L
        · rw [if_pos c] at ho ⊢; rw [upd_ne ne]; exact ho
        · rw [if_neg c] at ho; cases ho
      rcases q with q | ⟨o, q⟩
      · exact .inl (key _ q (.inl ⟨_, rfl⟩))
      · exact .inr ⟨o, key _ q (.inr ⟨_, _, rfl⟩)⟩
    · exact .inr q
noncomputable def ePl (i k : Nat) : Ef := fun ρ ω => match ρ[i]? with
  | some (some .pile) => .of ((ω.rs[k]?).map U.int) ω
  | _ => .stk
noncomputable def ePlLen (i : Nat) : Ef := fun ρ ω => match ρ[i]? with
  | some (some .pile) => .ok (.int ω.cs.length) ω
  | _ => .stk
noncomputable def ePlAt (i k : Nat) : Ef := fun ρ ω => match ρ[i]? with
  | some (some .pile) => match ω.rs[k]? with
    | some n => .of ((atI ω.cs n).map U.int) ω
    | none => .stk
  | _ => .stk
noncomputable def sPl (i k : Nat) (fa : Ef) : Sf := fun ρ ω => Fl.of (fa ρ ω) fun u ω1 => match ρ[i]? with
  | some (some .pile) => match u with
    | .int n => if k < ω1.rs.length then .nx ρ ⟨ω1.cs, ω1.rs.set k n⟩ else .stk
    | _ => .stk
  | _ => .stk
section
variable {W : Wd} {m : Md} {E : XK} {i k : Nat} {ta tb : TE} {fa : Ef} {ρ : En} {ω : Om} {σ : St} {H0 Hc0 Hc H : Hp} {ow : Nat → Addr}
theorem Sr.pile (S : Sr W m ρ ω σ H0 Hc H ow) (h : ρ[i]? = some (some .pile)) : σ[i]? = some (some (.ref W.pa)) := by
  obtain ⟨v, q, r⟩ := S.get h
  rw [q, r.pile]
theorem atI_succ {α : Type} {x : α} {xs : List α} {k : Nat} {y : α} (h : xs[k]? = some y) : atI (x :: xs) ((k + 1 : Nat) : Int) = some y := by
  rw [atI_cast]; simpa using h
theorem de_pl (w : PlW W) : DE W m E (tOp (rIxA W.K) (tVar i) (tC (.int ((k + 1 : Nat) : Int)))) (ePl i k) := by
  intro H0 ρ ω σ Hc H ow S Q h
  unfold ePl at h
  split at h
  · rename_i e
    cases q : ω.rs[k]? with
    | none => rw [q] at h; exact h.elim
    | some n =>
      rw [q] at h
      obtain ⟨sc, h1, h2⟩ := w.out _ _ S.pl.pl
      refine ⟨_, S.pile e, .inl ⟨W.pa, _, _, .int n, rfl, rfl, .of h1, atI_succ (by rw [List.getElem?_map, q]; rfl), ?_⟩⟩
      exact h Hc H (Ext.refl S.sub) S.pl _ .int
  · exact h.elim
theorem de_plLen (w : PlW W) : DE W m E (tCB (rLen W.K) (tCons (tOp (rIxA W.K) (tVar i) (tC (.int 0))) tNil)) (ePlLen i) := by
  intro H0 ρ ω σ Hc H ow S Q h
  unfold ePlLen at h
  split at h
  · rename_i e
    obtain ⟨sc, h1, h2⟩ := w.out _ _ S.pl.pl
    refine ⟨_, S.pile e, .inl ⟨W.pa, _, _, .ref sc, rfl, rfl, .of h1, by rw [atI_zero]; rfl, ?_⟩⟩
    refine ⟨sc, _, rfl, .inl h2, ?_⟩
    rw [List.length_map]
    exact h Hc H (Ext.refl S.sub) S.pl _ .int
  · exact h.elim
theorem atI_V {ns : List Int} {k n : Int} (h : atI ns k = some n) : atI (ns.map V.int) k = some (.int n) := by
  rw [atI_map, h]; rfl
theorem de_plAt (w : PlW W) : DE W m E (tOp (rIxA W.K) (tOp (rIxA W.K) (tVar i) (tC (.int 0))) (tOp (rIxA W.K) (tVar i) (tC (.int ((k + 1 : Nat) : Int))))) (ePlAt i k) := by
  intro H0 ρ ω σ Hc H ow S Q h
  unfold ePlAt at h
  split at h
  · rename_i e
    split at h
    · rename_i n q
      cases q2 : atI ω.cs n with
      | none => rw [q2] at h; exact h.elim
      | some c =>
        rw [q2] at h
        obtain ⟨sc, h1, h2⟩ := w.out _ _ S.pl.pl
        refine ⟨_, S.pile e, .inl ⟨W.pa, _, _, .ref sc, rfl, rfl, .of h1, by rw [atI_zero]; rfl, ?_⟩⟩
        refine ⟨_, S.pile e, .inl ⟨W.pa, _, _, .int n, rfl, rfl, .of h1, atI_succ (by rw [List.getElem?_map, q]; rfl), ?_⟩⟩
        refine .inl ⟨sc, _, _, .int c, rfl, rfl, h2, atI_V q2, ?_⟩
        exact h Hc H (Ext.refl S.sub) S.pl _ .int
    · exact h.elim
  · exact h.elim
theorem Sr.plset {rs : List Int} {sc : Addr} (w : PlW W) (S : Sr W m ρ ω σ H0 Hc H ow) (h : H W.pa = some (.lst (.ref sc :: ω.rs.map V.int))) : Sr W m ρ ⟨ω.cs, rs⟩ σ H0 Hc (upd H W.pa (.lst (.ref sc :: rs.map V.int))) ow := by
  have nc : Hc W.pa = none := (S.pl.out _ w.mem).1
  refine ⟨fun b o hb => ?_, fun b o n hb => ?_, S.p0, S.len, ⟨w.inn _ _ _ _ S.pl.pl h, fun b hb => ⟨(S.pl.out b hb).1, ?_⟩⟩, S.cl, S.bo, fun j u n hj => ?_, S.di⟩
  · rw [upd_ne (fun z => by rw [z, nc] at hb; cases hb)]; exact S.sub b o hb
  · rw [upd_ne (fun z => n (by rw [z]; exact w.mem))]; exact S.s0 b o n hb
  · by_cases z : b = W.pa
    · rw [z, upd_same]; simp
    · rw [upd_ne z]; exact (S.pl.out b hb).2
  · obtain ⟨us, vs, z1, z2, z3, z4, z5, z6⟩ := S.mu j u n hj
    exact ⟨us, vs, z1, z2, by rw [upd_ne (fun z => S.nl z5 (by rw [z]; exact w.mem))]; exact z3, z4, z5, z6⟩
theorem Ext.plset {o : HO} (w : PlW W) (nc : Hc W.pa = none) (x : Ext W Hc0 H0 Hc H) : Ext W Hc0 H0 Hc (upd H W.pa o) := by
  refine ⟨fun b u n hb => ?_, x.sc, fun b u hb => ?_, x.new, fun b hb => ?_⟩
  · rw [upd_ne (fun z => n (by rw [z]; exact w.mem))]; exact x.same b u n hb
  · rw [upd_ne (fun z => by rw [z, nc] at hb; cases hb)]; exact x.sub b u hb
  · by_cases z : b = W.pa
    · rw [z, upd_same]; simp
    · rw [upd_ne z]; exact x.frz b hb
theorem ds_pl (w : PlW W) (ha : DE W m E ta fa) : DS W m E (tAsg ta (gSub (tVar i) (tC (.int ((k + 1 : Nat) : Int))) rSetL)) (sPl i k fa) := by
  intro H0 Hc0 ρ ω σ Hc H ow S x D h
  refine ha H0 ρ ω σ Hc H ow S _ ((Cont.of x h).imp fun u ω1 Hc1 H1 e1 p1 k1 v rv => ?_)
  have S1 := S.ext e1 p1
  have x1 := x.trans e1
  revert k1
  split
  · rename_i e
    split
    · rename_i n
      split
      · rename_i lt
        intro k1
        rw [RU] at rv; subst rv
        obtain ⟨sc, h1, h2⟩ := w.out _ _ p1.pl
        refine ⟨_, S1.pile e, W.pa, _, _, k + 1, rfl, rfl, h1, ?_, ?_⟩
        · unfold ixN; rw [if_pos (by lia), if_pos (by simp; lia)]; simp
        · have e2 : ((V.ref sc :: ω1.rs.map V.int).set (k + 1) (V.int n)) = V.ref sc :: (ω1.rs.set k n).map V.int := by simp [List.map_set]
          rw [e2]
          exact k1 _ Hc1 _ ow (S1.plset w h1) (Ext.plset w (p1.out _ w.mem).1 x1)
      · exact fun k1 => k1.elim
    · exact fun k1 => k1.elim
  · exact fun k1 => k1.elim
end
section
variable {ι : Type} {X : L2.FC ι} {W : Wd} {m : Md} {E : XK} {a b : Expr} {fa : Ef} {fr : Af} {pos p p2 p3 p4 p5 pos2 pos3 tp : Pos} {x : Str} {j j2 : Nat}
theorem qe_pl (i k : Nat) {kk : Int} (w : PlW W) (cx : Ctx X W E) (hk : kk = ((k + 1 : Nat) : Int) := by rfl) (hN : ∀ y, (X y).N[i]? = some x := by intro ψ; rfl) (hv : ∀ y, Vis (X y).env.scope x := by intro ψ; first | exact Or.inl rfl | exact Or.inr (Or.inl rfl) | exact Or.inr (Or.inr rfl)) (hd : (x == ("__debug__" : Str)) = false := by decide) (hcd : (x == ("__classdict__" : Str)) = false := by decide)
    (hs : PlainIx (.Constant (.int kk) j p2) := by exact fun ψ ψ => rfl) : QE X W m E (.Subscript (.Name x p) (.Constant (.int kk) j p2) pos) (ePl i k) := by
  subst hk
  exact ⟨_, fun y => pe_ix (ix_anyK (cx.hK y)) (pe_var (hN y) (hv y) hd hcd) pe_int hs, de_pl w⟩
theorem qe_plLen (i : Nat) (w : PlW W) (cx : Ctx X W E) (B : Bl W.mg) (hN : ∀ y, (X y).N[i]? = some x := by intro ψ; rfl) (hv : ∀ y, Vis (X y).env.scope x := by intro ψ; first | exact Or.inl rfl | exact Or.inr (Or.inl rfl) | exact Or.inr (Or.inr rfl)) (hd : (x == ("__debug__" : Str)) = false := by decide) (hcd : (x == ("__classdict__" : Str)) = false := by decide)
    (hi : PlainIx (.Constant (.int 0) j p2) := by exact fun ψ ψ => rfl) (hg : ∀ y, Gl (X y) "len" := by intro ψ; rfl) (hs : ∀ y, starEach [.Subscript (.Name x p) (.Constant (.int 0) j p2) pos2] (X y).env = (false, eval (.Subscript (.Name x p) (.Constant (.int 0) j p2) pos2) (X y).env) :: starEach [] (X y).env := by intro ψ; rfl) (hp : ∀ y, (backTo pos (starEach [] (X y).env)).any (·.1) = false := by intro ψ; rfl) :
    QE X W m E (.Call (.Name "len" p3) [.Subscript (.Name x p) (.Constant (.int 0) j p2) pos2] [] pos) (ePlLen i) :=
  ⟨_, fun y => pe_callB (call_lenK (cx.hK y)) (hg y) ((congrFun (cx.hm y) _).trans B.len) boot_len (pa_cons (pe_ix (ix_anyK (cx.hK y)) (pe_var (hN y) (hv y) hd hcd) pe_int hi) pa_nil (hs y)) (by decide) (by decide) (hs y) (hp y), de_plLen w⟩
theorem qe_plAt (i k : Nat) {kk : Int} (w : PlW W) (cx : Ctx X W E) (hk : kk = ((k + 1 : Nat) : Int) := by rfl) (hN : ∀ y, (X y).N[i]? = some x := by intro ψ; rfl) (hv : ∀ y, Vis (X y).env.scope x := by intro ψ; first | exact Or.inl rfl | exact Or.inr (Or.inl rfl) | exact Or.inr (Or.inr rfl)) (hd : (x == ("__debug__" : Str)) = false := by decide) (hcd : (x == ("__classdict__" : Str)) = false := by decide)
    (hi : PlainIx (.Constant (.int 0) j p2) := by exact fun ψ ψ => rfl) (hi2 : PlainIx (.Constant (.int kk) j2 p5) := by exact fun ψ ψ => rfl) (hi3 : PlainIx (.Subscript (.Name x p4) (.Constant (.int kk) j2 p5) pos3) := by exact fun ψ ψ => rfl) :
    QE X W m E (.Subscript (.Subscript (.Name x p) (.Constant (.int 0) j p2) pos2) (.Subscript (.Name x p4) (.Constant (.int kk) j2 p5) pos3) pos) (ePlAt i k) := by
  subst hk
  exact ⟨_, fun y => pe_ix (ix_anyK (cx.hK y)) (pe_ix (ix_anyK (cx.hK y)) (pe_var (hN y) (hv y) hd hcd) pe_int hi) (pe_ix (ix_anyK (cx.hK y)) (pe_var (hN y) (hv y) hd hcd) pe_int hi2) hi3, de_plAt w⟩
theorem qs_pl (i k : Nat) {kk : Int} (w : PlW W) (ha : QE X W m E a fa) (hk : kk = ((k + 1 : Nat) : Int) := by rfl) (hN : ∀ y, (X y).N[i]? = some x := by intro ψ; rfl) (hv : ∀ y, Vis (X y).env.scope x := by intro ψ; first | exact Or.inl rfl | exact Or.inr (Or.inl rfl) | exact Or.inr (Or.inr rfl)) (hd : (x == ("__debug__" : Str)) = false := by decide) (hcd : (x == ("__classdict__" : Str)) = false := by decide)
    (hs : ∀ y, swapsWithSole [.Subscript (.Name x p) (.Constant (.int kk) j p2) tp] a pos.line (X y).env = pure false := by intro ψ; rfl) (hw : ∀ y, swappedStores [.Subscript (.Name x p) (.Constant (.int kk) j p2) tp] a (X y).env = pure none := by intro ψ; rfl) (h1 : ∀ y, (assignEach [.Subscript (.Name x p) (.Constant (.int kk) j p2) tp] (X y).env).map (·.2) = [assign (.Subscript (.Name x p) (.Constant (.int kk) j p2) tp) (X y).env] := by intro ψ; rfl)
    (hq : ∀ y v, assign (.Subscript (.Name x p) (.Constant (.int kk) j p2) tp) (X y).env v = (do
      let ov ← holding [v] (eval (.Name x p) (X y).env)
      let iv ← holding [v, ov] (eval (.Constant (.int kk) j p2) (X y).env)
      standAt tp
      holding [v, ov, iv] (setItem ov iv v)
      release [v, ov, iv] []) := by intro ψ ψ; rfl) : QS X W m E (.Assign [.Subscript (.Name x p) (.Constant (.int kk) j p2) tp] a pos) (sPl i k fa) := by
  subst hk
  exact let ⟨_, pa, da⟩ := ha; ⟨_, fun y => ps_asg (pa y) (pg_sub (pe_var (hN y) (hv y) hd hcd) pe_int set_list (hq y)) (hs y) (hw y) (h1 y), ds_pl w da⟩
end
section
variable {P : Program} {w : World} {K : PySem.W.Frag} {mg : L2.SV} {base : Heap}
theorem Fun.okP {x qual : Str} {st s1 : Stmt} {rest : List Stmt} {f : Addr} {fd : FuncData} {N : List Str} {sn : Str} {k : Nat} {m : Md} {g : Sf} {Fp : Ff} {cells : List Int} (F : Fun K x qual st f fd) (S : FnScope N [sn] (defScope st)) (hb : defBody st = s1 :: rest) (hN : 2 ≤ N.length) (h1M : 1 ∉ m.M)
    (hpr : ∀ (cdv : Value) (A : Around) (outer : List Env) (s : Shared) (H : Hp) (E : XK), Room k (A.deeper (envOfC qual (defScope st) s.heap.objs.size f cdv)) → A.handled = none →
      QS (defX P w K mg base N qual (defScope st) f cdv A outer s H E) (wd0 K mg) ⟨[], []⟩ E s1 (sSet 1 (eCall Fp (aCons (eVar 0) aNil))))
    (hbody : ∀ (cdv : Value) (A : Around) (outer : List Env) (s : Shared) (H : Hp) (E : XK) (W : Wd), W.K = K → W.mg = mg → PlW W → Room k (A.deeper (envOfC qual (defScope st) s.heap.objs.size f cdv)) → A.handled = none →
      QK (defX P w K mg base N qual (defScope st) f cdv A outer s H E) W m E rest g)
    (hFp : ∀ ns ω, Fp [.scr ns] ω = .ok (.lst (.scr ns :: cells.map U.int)) ω)
    (hlaw : ∀ ns : List Int, ns.length ≤ 63 → ∃ ω', endF (g (none :: some .pile :: List.replicate (N.length - 2) none) ⟨ns, cells⟩) = .ok (.bl true) ω') :
    FnOk P w K mg base (CX1 P w) (k + 1) f fd [sn] (spLaw K) := by
  refine F.okX S (fun vs H Q E h => ?_) fun cdv A outer s H vs Q E hr hA hsp => ?_
  · obtain ⟨sc, ns, rfl, _⟩ := h
    rfl
  · obtain ⟨sc, ns, rfl, hs, hl, kq⟩ := hsp
    obtain ⟨t1, p1, d1⟩ := hpr cdv A outer s H E hr hA
    have rs0 : RBs (wd0 K mg) H H [false] [.scr ns] [.ref sc] := ⟨by rw [RU]; exact ⟨sc, rfl, hs⟩, trivial⟩
    have S0 := Sr.start (m := ⟨[], []⟩) (N := N) (ω := ⟨[], []⟩) (fun ψ ψ h => h : Same H H) ⟨trivial, fun b hb => absurd hb (by simp [wd0])⟩ rs0 (fun i h => by
      match i, h with
      | 0, h => cases h
      | i + 1, h => simp at h) (fun i h => by simp at h) (by simp; lia)
    refine ⟨tSeq t1 (fun D σ H' => ∃ t, PSs (cxOf (CX1 P w) P w K mg base N qual (defScope st) f cdv A outer s H E) rest t ∧ t D σ H'), ?_, ?_⟩
    · rw [hb]
      exact pss_cons (p1 ()) fun pins s σ H D I ⟨t, p, h⟩ => p pins s σ H D I h
    · refine d1 H H _ ⟨[], []⟩ _ H H _ S0 (Ext.refl fun ψ ψ h => h) _ ?_
      have e0 : sSet 1 (eCall Fp (aCons (eVar 0) aNil)) ([U.scr ns].map some ++ List.replicate (N.length - [U.scr ns].length) none) ⟨[], []⟩ = .nx (some (.scr ns) :: some (.lst (.scr ns :: cells.map U.int)) :: List.replicate (N.length - 2) none) ⟨[], []⟩ := by
        obtain ⟨n, hn⟩ : ∃ n, N.length = n + 2 := ⟨N.length - 2, by lia⟩
        rw [hn]
        show Fl.of ((Res.ok [U.scr ns] ⟨[], []⟩).bnd Fp) _ = _
        rw [Res.bnd_ok, hFp]
        simp [Fl.of, List.replicate_succ]
      rw [e0]
      intro σ' Hc' H' ow' S1 x1
      obtain ⟨v, q1, r1⟩ := S1.cl 1 _ (by simp) (by simp) rfl
      rw [RU] at r1
      obtain ⟨a, vs, rfl, ha, r2⟩ := r1
      rw [RUs] at r2
      obtain ⟨v2, vr, rfl, r3, r4⟩ := r2
      rw [RU] at r3
      obtain ⟨sc', rfl, hsc⟩ := r3
      have := r4.ints; subst this
      have ha' := S1.sub _ _ ha
      have hsc' : SqL K H' sc' (ns.map V.int) := S1.sub.seq hsc
      obtain ⟨L, aL, okL, scL⟩ : ∃ L : List Addr, a ∈ L ∧ (∀ b ∈ L, H' b ≠ none) ∧ (H' sc' ≠ none → sc' ∈ L) := by
        by_cases z : H' sc' = none
        · exact ⟨[a], by simp, fun b hb => by rw [List.mem_singleton.mp hb, ha']; simp, fun h => absurd z h⟩
        · refine ⟨[a, sc'], by simp, fun b hb => ?_, fun ψ => by simp⟩
          rcases List.mem_cons.mp hb with h | h
          · rw [h, ha']; simp
          · rw [List.mem_singleton.mp h]; exact z
      have pw := wdP_ok (K := K) (mg := mg) aL
      obtain ⟨t2, p2, d2⟩ := hbody cdv A outer s H E (wdP K mg a L) rfl rfl pw hr hA
      have hpl : (wdP K mg a L).pl ⟨ns, cells⟩ H' := by
        refine ⟨aL, sc', ha', ?_⟩
        have key : ∀ o, H' sc' = some o → Hr L H' sc' = some o := fun o ho => by
          unfold Hr; rw [if_pos (scL (by rw [ho]; simp))]; exact ho
        rcases hsc' with (q | ⟨o, q⟩) | q
        · exact .inl (.inl (key _ q))
        · exact .inl (.inr ⟨o, key _ q⟩)
        · exact .inr q
      have len' : σ'.length = N.length := by
        have := S1.len
        rw [← this]; simp; lia
      obtain ⟨ω', hw⟩ := hlaw ns hl
      have cl0 : ∀ (j : Nat) (u : U), (none :: some U.pile :: List.replicate (N.length - 2) none : En)[j]? = some (some u) → j = 1 ∧ u = .pile := fun j u hj => by
        match j, hj with
        | 0, hj => simp at hj
        | 1, hj => simp at hj; exact ⟨rfl, hj.symm⟩
        | j + 2, hj =>
          simp only [List.getElem?_cons_succ] at hj
          rw [List.getElem?_replicate] at hj
          split at hj <;> cases hj
      refine ⟨t2, p2 (), d2 H' (fun ψ => none) (none :: some .pile :: List.replicate (N.length - 2) none) ⟨ns, cells⟩ σ' (fun ψ => none) H' (fun ψ => 0) ?_ ?_ _ ?_⟩
      · refine ⟨fun b o h => (by cases h), fun b o ψ h => h, fun b hb => okL b hb, by rw [len']; simp; lia, ⟨hpl, fun b hb => ⟨rfl, okL b hb⟩⟩, fun j u ψ ψ hj => ?_, fun j u ψ ψ hj => ?_, fun j u hm hj => ?_, fun i j u u' hi hj ne h1 h2 => ?_⟩
        · obtain ⟨rfl, rfl⟩ := cl0 j u hj
          exact ⟨_, q1, by rw [RU]; rfl⟩
        · obtain ⟨rfl, rfl⟩ := cl0 j u hj
          exact ⟨_, q1, .inl (by rw [RU]; rfl)⟩
        · obtain ⟨rfl, rfl⟩ := cl0 j u hj
          exact absurd hm h1M
        · obtain ⟨rfl, rfl⟩ := cl0 i u h1
          exact absurd hi h1M
      · exact Ext.refl fun b o h => (by cases h)
      · revert hw
        cases g (none :: some .pile :: List.replicate (N.length - 2) none) ⟨ns, cells⟩ with
        | rt u ω2 =>
          intro hw v Hc2 H2 ψ ψ rv
          have : u = .bl true := by simp at hw; exact hw.1
          subst this
          rw [RU] at rv; subst rv
          exact kq H2
        | nx ρ2 ω2 => intro hw; simp at hw
        | err c p ω2 => intro hw; simp at hw
        | bk ρ2 ω2 => intro hw; cases hw
        | ct ρ2 ω2 => intro hw; cases hw
        | stk => intro hw; cases hw
theorem law_endP {k : Nat} {f : Addr} {fd : FuncData} {ps : List Str} (G : FnOk P w K mg base (CX1 P w) k f fd ps (spLaw K)) : FnOk P w K mg base CX0 k f fd ps (spLaw K) := (fn1_to0 G).imp fun ψ ψ ψ ψ q => q
end
section
variable {i k : Nat} {fa : Ef} {ρ : En} {ω : Om}
theorem ePl_ap : ePl i k ρ ω = match ρ[i]? with
  | some (some .pile) => .of ((ω.rs[k]?).map U.int) ω
  | _ => .stk := rfl
theorem ePlLen_ap : ePlLen i ρ ω = match ρ[i]? with
  | some (some .pile) => .ok (.int ω.cs.length) ω
  | _ => .stk := rfl
theorem ePlAt_ap : ePlAt i k ρ ω = match ρ[i]? with
  | some (some .pile) => match ω.rs[k]? with
    | some n => .of ((atI ω.cs n).map U.int) ω
    | none => .stk
  | _ => .stk := rfl
theorem sPl_ap : sPl i k fa ρ ω = Fl.of (fa ρ ω) fun u ω1 => match ρ[i]? with
  | some (some .pile) => match u with
    | .int n => if k < ω1.rs.length then .nx ρ ⟨ω1.cs, ω1.rs.set k n⟩ else .stk
    | _ => .stk
  | _ => .stk := rfl
end
end L2
set_option maxHeartbeats 1000000
namespace L2
open PySem PySem.Spec PyProof.Rows
section
variable {W : Wd} {m : Md} {E : XK} {tr : TA} {fr : Af}
end
section
variable {ι : Type} {X : L2.FC ι} {W : Wd} {m : Md} {E : XK} {a b : Expr} {fr : Af} {pos p p2 pos2 : Pos}
end
section
variable {W : Wd} {m : Md} {E : XK} {i j : Nat} {ta : TE} {fa : Ef}
end
section
variable {ι : Type} {X : L2.FC ι} {W : Wd} {m : Md} {E : XK} {a : Expr} {fa : Ef} {pos p p2 : Pos} {x x2 : Str}
end
noncomputable def ins (x : Int) : List Int → List Int
  | [] => [x]
  | y :: ys => if x ≤ y then x :: y :: ys else y :: ins x ys
section
variable {W : Wd} {m : Md} {E : XK}
end
section
variable {ι : Type} {X : L2.FC ι} {W : Wd} {m : Md} {E : XK} {a : Expr} {fa : Ef} {pos p : Pos}
end
section
open PySem.SeqAt
open PySem.AutoSeq1 (wpAny_loadPart')
open PySem.MeetsSeq PySem.MeetsSeq2 PySem.MeetsSeq3
end
section
variable {ι : Type} {X : L2.FC ι} {W : Wd} {m : Md} {E : XK} {a b : Expr} {fa fb : Ef} {pos : Pos}
end
theorem draw_walks {prog : Program} {w : World} {A : Around} {E : L2.VSP} {I : Addr} {fp wr : List Addr} {n : Nat} {P : Nat → Value → Prop} {St : Nat → Heap → Prop} (W : Walks prog w A I fp wr n P St) : ∀ (k i : Nat) (s : Shared) (Q : List Value → Shared → Prop), i + k ≤ n → St i s.heap →
    (∀ (vs : List Value) (h' : Heap) (tk : Nat), vs.length = k → (∀ (j : Nat) (v : Value), vs[j]? = some v → P (i + j) v) → St (i + k) h' → (∀ (b : Addr) (o : Obj), b ∉ wr → s.heap.get? b = some o → h'.get? b = some o) → Q vs { heap := h', gens := s.gens, drawn := s.drawn, toks := tk, os := s.os }) →
    wpAny (model prog w) A (draw (.ref I) k) Q E s
  | 0, i, s, Q, _, hs, h => by
    rw [draw.eq_1]
    exact wpAny_pure (h [] s.heap s.toks rfl (fun j v hv => by simp at hv) hs fun b o ψ e => e)
  | k + 1, i, s, Q, hk, hs, h => by
    rw [draw.eq_2]
    refine wpAny_bind (W.item i s _ _ (by lia) hs fun v h1 tk hp hs1 kp => ?_)
    refine wpAny_bind (wpAny_holding (draw_walks W k (i + 1) _ _ (by lia) hs1 fun vs h2 tk2 hl hv hs2 kp2 => wpAny_pure ?_))
    refine h (v :: vs) h2 tk2 (by simp [hl]) (fun j x hx => ?_) (by rw [show i + (k + 1) = i + 1 + k by lia]; exact hs2) fun b o hb e => kp2 b o hb (kp b o hb e)
    cases j with
    | zero => simp at hx; subst hx; exact hp
    | succ j => have := hv j x (by simpa using hx); rw [show i + (j + 1) = i + 1 + j by lia]; exact this
theorem unpackItems_list {prog : Program} {w : World} {A : Around} {E : L2.VSP} {s : Shared} {l : Addr} {items : Array Value} {Q : List Value → Shared → Prop} (hh : A.handled = none) (hl : s.heap.IsList l items)
    (h : ∀ (h' : Heap) (tk : Nat), (∀ (b : Addr) (o : Obj), s.heap.get? b = some o → h'.get? b = some o) → Q items.toList { heap := h', gens := s.gens, drawn := s.drawn, toks := tk, os := s.os }) :
    wpAny (model prog w) A (unpackItems (.ref l) items.size none) Q E s := by
  obtain ⟨o, ho, hc, n, hd⟩ := id hl
  have ty : s.TypeIs (.ref l) "list" := ⟨o, ho, hc⟩
  unfold unpackItems
  refine wpAny_bind ?_
  unfold notIterableAtAll
  refine wpAny_bind (wpAny_specialOf ty slot_list_iter.lookup (wpAny_pure ?_))
  simp only [Bool.false_eq_true, if_false]
  refine wpAny_bind (wpAny_holding (wpAny_pyIter_list hl ?_))
  have ne : l ≠ s.heap.objs.size := Nat.ne_of_lt (Heap.lt_size ho)
  have W := Walks.list (prog := prog) (w := w) (A := A) hh s.heap.objs.size l ne items
  refine wpAny_bind (wpAny_holding (draw_walks W items.size 0 _ _ (by lia) ⟨?_, ?_⟩ fun vs h1 tk1 hl1 hv hs1 kp1 => ?_))
  · exact ⟨_, Heap.get?_push_size _ rfl, rfl, rfl⟩
  · exact ⟨o, Heap.get?_push_of_some _ ho, hc, n, hd⟩
  · have ev : vs = items.toList := by
      apply List.ext_getElem?
      intro j
      by_cases c : j < vs.length
      · have := hv j vs[j] (by simp [c])
        rw [Nat.zero_add] at this
        rw [List.getElem?_eq_getElem c, Array.getElem?_toList, this]
      · rw [List.getElem?_eq_none (by lia), List.getElem?_eq_none (by simp; lia)]
    subst ev
    rw [if_neg (by simp)]
    refine wpAny_bind (wpAny_holding (W.done _ _ _ (by simpa using hs1) fun h2 tk2 kp2 => ?_))
    simp only [Option.isSome_none, Bool.false_eq_true, if_false]
    refine wpAny_pure (h h2 tk2 fun b o' e => ?_)
    have lb : b ∉ [s.heap.objs.size] := fun z => Nat.ne_of_lt (Heap.lt_size e) (List.mem_singleton.mp z)
    exact kp2 b o' lb (kp1 b o' lb (Heap.get?_push_of_some _ e))
noncomputable def gLst (K : PySem.W.Frag) (n : Nat) (t : TGs) : TG := fun v σ H Q => ∃ a xs, v = .ref a ∧ SqL K H a xs ∧ xs.length = n ∧ t xs σ H Q
theorem pg_lst {X : Cx} {K : PySem.W.Frag} {es : List Expr} {k : Nat} {t : TGs} {n : Nat} {pos : Pos} (hK : X.K = K) (hc : X.calm = true) (h : PGs X es t) (hn : (assignEach es X.env).length = n := by rfl) (hst : (assignEach es X.env).findIdx? (·.1) = none := by rfl) : PG X (.Tuple es k pos) (gLst K n t) := by
  subst hK
  intro pins s σ H v u Q I r hw
  obtain ⟨a, xs, e1, hq, hl, hw⟩ := hw
  subst e1
  cases r
  obtain ⟨its, rv, pl, hz⟩ := I.list hq
  have hlen := rv.length
  rw [PyProof.Rows.assign_Tuple]
  refine wpAny_bind (wpAny_standAt ?_)
  unfold unpack
  rw [hst, show (assignEach es X.env).length = its.toArray.size by simp [hn, ← hl, hlen]]
  refine wpAny_bind (wpAny_holding (unpackItems_list (I.ok.hd hc) pl.isList fun h' tk kp => ?_))
  have I1 : Inv X pins σ H { s with heap := h', toks := tk } := I.kept kp
  exact h pins _ σ H xs _ Q I1 (by simpa using rv) hw
noncomputable def aLst (n : Nat) (b : List U → En → Option En) : U → En → Option En := fun u ρ => match u with
  | .lst us => if us.length = n then b us ρ else none
  | _ => none
theorem aLst_ap {n : Nat} {b : List U → En → Option En} {us : List U} {ρ : En} : aLst n b (.lst us) ρ = if us.length = n then b us ρ else none := rfl
theorem dg_lst {W : Wd} {m : Md} {n : Nat} {K : PySem.W.Frag} {gg : TGs} {b : List U → En → Option En} (h2 : DGs W m gg b) : DG W m (gLst K n gg) (aLst n b) := fun H0 ρ ω σ Hc H ow u v ρ' S r e Q k => by
  unfold aLst at e
  split at e
  · split at e
    · rw [RU] at r
      obtain ⟨a, vs, rfl, h1, r1⟩ := r
      exact ⟨a, vs, rfl, .of (S.sub _ _ h1), by rw [← r1.len]; assumption, h2 H0 ρ ω σ Hc H ow _ vs ρ' S r1 e Q k⟩
    · cases e
  · cases e
section
variable {ι : Type} {X : L2.FC ι} {W : Wd} {m : Md} {E : XK} {es : List Expr} {pos : Pos}
theorem qg_lst {n k : Nat} {v : List U → En → Option En} (cx : Ctx X W E) (h2 : QGs X W m es v) (hn : ∀ y, (assignEach es (X y).env).length = n := by intro ψ; rfl) (hst : ∀ y, (assignEach es (X y).env).findIdx? (·.1) = none := by intro ψ; rfl) : QG X W m (.Tuple es k pos) (aLst n v) :=
  let ⟨_, p2, d2⟩ := h2; ⟨_, fun y => pg_lst (cx.hK y) (cx.calm y) (p2 y) (hn y) (hst y), dg_lst d2⟩
end
noncomputable abbrev TY := Ends → XK → St → Hp → Prop
noncomputable def excG (e C : Addr) (od : Option Addr) : HO := .ext fun h => ∃ o, h.get? e = some o ∧ o.cls = .ref C ∧ o.dict = od ∧ PySem.W.notCls o = true
section
variable {X : Cx} {xn cn n : Str} {i j : Nat} {call c : Expr} {b0 : Stmt} {a b suite body : List Stmt} {p1 p2 p3 p4 pos : Pos} {tc : St → Hp → VK → XK → Prop} {ts : TS} {ty ta tb : TY} {tt : TT}
end
noncomputable def ContY (W : Wd) (m : Md) (E : XK) (Hc0 H0 Hc H : Hp) (D : Ends) (r : Fl) : Prop := match r with
  | .err c pl ω' => ∀ C od Hc' H', Ext W Hc H Hc' H' → PlOk W ω' Hc' H' → W.mg c = some (.ref C) → XR Hc' pl od → E (.ref C) od H'
  | .nx ρ' ω' => Cont W m E Hc0 H0 D (.nx ρ' ω')
  | .bk ρ' ω' => Cont W m E Hc0 H0 D (.bk ρ' ω')
  | .ct ρ' ω' => Cont W m E Hc0 H0 D (.ct ρ' ω')
  | .rt u ω' => Cont W m E Hc0 H0 D (.rt u ω')
  | .stk => False
section
variable {W : Wd} {m : Md} {E : XK} {tc : St → Hp → VK → XK → Prop} {fa : Ef} {ts : TS} {ty t1 t2 : TY} {gb gh g1 g2 : Sf} {tt : TT} {ft : Tf} {i j : Nat} {tr : TA} {fr : Af} {bs : List Bool}
theorem ContY.ext {Hc0 H0 Hc H Hc1 H1 : Hp} {D : Ends} {r : Fl} (e : Ext W Hc H Hc1 H1) (h : ContY W m E Hc0 H0 Hc H D r) : ContY W m E Hc0 H0 Hc1 H1 D r := by
  cases r with
  | err c pl ω => exact fun C od Hc' H' e' => h C od Hc' H' (e.trans e')
  | _ => exact h
end
section
variable {prog : Program} {w : World} {A : Around} {E : L2.VSP} {s : Shared} {K : PySem.W.Frag} {x C : Addr} {ox : Obj} {od : Option Obj}
end
noncomputable def ExIn (H : Hp) (e C : Addr) : Prop := ∃ od, H e = some (excG e C od) ∧ ∀ d, od = some d → H d ≠ none
section
variable {X : Cx}
end
noncomputable def tbl {α : Type} [DecidableEq α] : List (Str × α × Bool) → Str → α → Option Bool
  | [], _, _ => none
  | (c', b', r) :: l, c, b => if c' = c ∧ b' = b then some r else tbl l c b
noncomputable def XN (K : PySem.W.Frag) (mg : L2.SV) : List (Str × Str × Bool) → Prop
  | [] => True
  | (c, b, r) :: l => (∃ C B, mg c = some (.ref C) ∧ mg b = some (.ref B) ∧ ExcK K C ∧ PySem.W.kitOne K (.ref C) (.ref B) = some r) ∧ XN K mg l
noncomputable def XT (K : PySem.W.Frag) (mg : L2.SV) : List (Str × String × Bool) → Prop
  | [] => True
  | (c, b, r) :: l => (∃ C, mg c = some (.ref C) ∧ ExcK K C ∧ PySem.W.kitOne K (.ref C) (.type b) = some r) ∧ XT K mg l
theorem XN.of {K : PySem.W.Frag} {mg : L2.SV} : ∀ {l : List (Str × Str × Bool)} {c b : Str} {r : Bool}, XN K mg l → tbl l c b = some r → ∃ C B, mg c = some (.ref C) ∧ mg b = some (.ref B) ∧ ExcK K C ∧ PySem.W.kitOne K (.ref C) (.ref B) = some r
  | [], _, _, _, _, e => by cases e
  | (c', b', r') :: l, c, b, r, h, e => by
    unfold tbl at e
    split at e
    · rename_i z; cases e; obtain ⟨rfl, rfl⟩ := z; exact h.1
    · exact XN.of h.2 e
theorem XT.of {K : PySem.W.Frag} {mg : L2.SV} : ∀ {l : List (Str × String × Bool)} {c : Str} {b : String} {r : Bool}, XT K mg l → tbl l c b = some r → ∃ C, mg c = some (.ref C) ∧ ExcK K C ∧ PySem.W.kitOne K (.ref C) (.type b) = some r
  | [], _, _, _, _, e => by cases e
  | (c', b', r') :: l, c, b, r, h, e => by
    unfold tbl at e
    split at e
    · rename_i z; cases e; obtain ⟨rfl, rfl⟩ := z; exact h.1
    · exact XT.of h.2 e
section
variable {W : Wd} {m : Md} {E : XK} {tn : List (Str × Str × Bool)} {tt : List (Str × String × Bool)}
theorem RB.exc {Hc H : Hp} {c : Str} {pl : Option Int} {v : V} (s : Same Hc H) (h : RB W Hc H (.exc c pl) v) : ∃ e C, v = .ref e ∧ W.mg c = some (.ref C) ∧ ExIn H e C := by
  rcases h with h | ⟨_, _, _, e, _⟩
  · cases pl with
    | none => rw [RU] at h; obtain ⟨a, C, rfl, hm, q⟩ := h; exact ⟨a, C, rfl, hm, none, s _ _ q, fun d z => by cases z⟩
    | some n => rw [RU] at h; obtain ⟨a, C, d, rfl, hm, q, q2⟩ := h; exact ⟨a, C, rfl, hm, some d, s _ _ q, fun d' z => by cases z; rw [s _ _ q2]; simp⟩
  · cases e
end
structure Ctw {ι : Type} (X : L2.FC ι) (W : Wd) : Prop where
  hK : ∀ x, (X x).K = W.K
  hm : ∀ x, (X x).mg = W.mg
section
variable {ι : Type} {X : L2.FC ι} {W : Wd} {m : Md} {E : XK} {a b c e : Expr} {fa fb fc f : Ef} {fr : Af} {bs : List Bool} {es : List Expr} {pos p p2 : Pos} {i : Nat} {x : Str}
theorem Ctx.w (cx : Ctx X W E) : Ctw X W := ⟨cx.hK, cx.hm⟩
theorem Ctx.nox (cx : Ctx X W E) : Ctx (fun y => (X y).nox) W E0 := ⟨cx.hK, cx.hm, cx.calm, cx.hu, fun ψ ψ ψ ψ ψ ψ ψ ψ h => by obtain ⟨_, _, _, _, _, _, _, _, _, _, q⟩ := h; exact q.elim⟩
end
section
variable {ι : Type} {X : L2.FC ι} {W : Wd} {m : Md} {E : XK} {a b : Expr} {fa fb : Ef} {pos p : Pos} {x : Str}
end
section
variable {X : Cx} {W : Wd} {m : Md} {E : XK} {a c call : Expr} {fa f : Ef} {fr : Af} {ft : Tf} {bs : List Bool} {es : List Expr} {pos p p1 p2 p3 p4 : Pos} {i j : Nat} {x xn cn n : Str} {sa sb body suite : List Stmt} {b0 : Stmt} {ga gb gh : Sf}
end
noncomputable def XC (K : PySem.W.Frag) (mg : L2.SV) (B : Addr) : List Str → Prop
  | [] => True
  | c :: l => (∃ C, mg c = some (.ref C) ∧ PySem.W.exmOne K (.ref C) (.ref B) = some true) ∧ XC K mg B l
theorem XC.of {K : PySem.W.Frag} {mg : L2.SV} {B : Addr} : ∀ {l : List Str}, XC K mg B l → ∀ c ∈ l, ∀ C, mg c = some (.ref C) → PySem.W.exmOne K (.ref C) (.ref B) = some true
  | [], _, c, hc, _, _ => by cases hc
  | d :: l, h, c, hc, C, hm => by
    rcases List.mem_cons.mp hc with rfl | hc
    · obtain ⟨C', hm', k⟩ := h.1
      rw [hm] at hm'; cases hm'; exact k
    · exact XC.of h.2 c hc C hm
section
variable {P : Program} {w : World} {K : PySem.W.Frag} {mg : L2.SV} {base : Heap} {N : List Str} {qual : Str} {scope : Scope} {f : Addr} {cd : Value} {A : Around} {outer : List Env} {s : Shared} {H : Hp} {E : XK} {W : Wd} {m : Md}
end
section
variable {gb gh ga g : Sf} {j : Nat} {cs : List Str} {ρ : En} {ω : Om} {ft : Tf} {F : Ff} {fr : Af}
end
theorem atI_ints {ns : List Int} {k : Int} (h0 : 0 ≤ k) (h1 : k < ns.length) : atI (ns.map U.int) k = some (.int (ns.getD k.toNat 0)) := by
  obtain ⟨n, rfl⟩ : ∃ n : Nat, k = n := ⟨k.toNat, by lia⟩
  have l : n < ns.length := by lia
  rw [atI_cast, List.getElem?_map, List.getElem?_eq_getElem l]
  simp [List.getD, l]
section
variable {a b c d e f g h i j : Int} {k : Int}
theorem atI_i2 (h0 : 0 ≤ k) (h1 : k < 2) : atI [U.int a, .int b] k = some (.int (([a, b] : List Int).getD k.toNat 0)) := atI_ints (ns := [a, b]) h0 h1
theorem atI_i3 (h0 : 0 ≤ k) (h1 : k < 3) : atI [U.int a, .int b, .int c] k = some (.int (([a, b, c] : List Int).getD k.toNat 0)) := atI_ints (ns := [a, b, c]) h0 h1
theorem atI_i4 (h0 : 0 ≤ k) (h1 : k < 4) : atI [U.int a, .int b, .int c, .int d] k = some (.int (([a, b, c, d] : List Int).getD k.toNat 0)) := atI_ints (ns := [a, b, c, d]) h0 h1
theorem atI_i5 (h0 : 0 ≤ k) (h1 : k < 5) : atI [U.int a, .int b, .int c, .int d, .int e] k = some (.int (([a, b, c, d, e] : List Int).getD k.toNat 0)) := atI_ints (ns := [a, b, c, d, e]) h0 h1
theorem atI_i6 (h0 : 0 ≤ k) (h1 : k < 6) : atI [U.int a, .int b, .int c, .int d, .int e, .int f] k = some (.int (([a, b, c, d, e, f] : List Int).getD k.toNat 0)) := atI_ints (ns := [a, b, c, d, e, f]) h0 h1
theorem atI_i7 (h0 : 0 ≤ k) (h1 : k < 7) : atI [U.int a, .int b, .int c, .int d, .int e, .int f, .int g] k = some (.int (([a, b, c, d, e, f, g] : List Int).getD k.toNat 0)) := atI_ints (ns := [a, b, c, d, e, f, g]) h0 h1
theorem atI_i8 (h0 : 0 ≤ k) (h1 : k < 8) : atI [U.int a, .int b, .int c, .int d, .int e, .int f, .int g, .int h] k = some (.int (([a, b, c, d, e, f, g, h] : List Int).getD k.toNat 0)) := atI_ints (ns := [a, b, c, d, e, f, g, h]) h0 h1
theorem atI_i10 (h0 : 0 ≤ k) (h1 : k < 10) : atI [U.int a, .int b, .int c, .int d, .int e, .int f, .int g, .int h, .int i, .int j] k = some (.int (([a, b, c, d, e, f, g, h, i, j] : List Int).getD k.toNat 0)) := atI_ints (ns := [a, b, c, d, e, f, g, h, i, j]) h0 h1
end
theorem getD_of {P : Int → Prop} {ns : List Int} {n : Nat} (h : ∀ x ∈ ns, P x) (l : n < ns.length) : P (ns.getD n 0) := by
  rw [show ns.getD n 0 = ns[n] by simp [List.getD, l]]
  exact h _ (List.getElem_mem l)
theorem cutTo' {us : List U} {k : Int} (h0 : 0 ≤ k) : cutG us none (some k) = us.take k.toNat := by
  obtain ⟨t, rfl⟩ : ∃ n : Nat, k = n := ⟨k.toNat, by lia⟩
  unfold cutG
  have e1 : HT.sIx us.length 0 none = 0 := rfl
  have e2 : HT.sIx us.length us.length (some (t : Int)) = min t us.length := HT.sIx_nat _ _ _
  rw [e1, e2, List.drop_zero, Nat.sub_zero, ← List.take_eq_take_min, Int.toNat_natCast]
theorem cutFrom' {us : List U} {k : Int} (h0 : 0 ≤ k) : cutG us (some k) none = us.drop k.toNat := by
  obtain ⟨t, rfl⟩ : ∃ n : Nat, k = n := ⟨k.toNat, by lia⟩
  unfold cutG
  have e1 : HT.sIx us.length 0 (some (t : Int)) = min t us.length := HT.sIx_nat _ _ _
  have e2 : HT.sIx us.length us.length none = us.length := rfl
  rw [e1, e2, Int.toNat_natCast, List.take_of_length_le (by simp)]
  by_cases h : t ≤ us.length
  · rw [Nat.min_eq_left h]
  · rw [Nat.min_eq_right (by lia), List.drop_length, List.drop_eq_nil_of_le (by lia)]
theorem cmpU_gen {α : Type} {st : U → Om → Res (Option U)} {g : α → U} {f : α → Option U} {ω : Om} : ∀ {ns : List α}, (∀ x ∈ ns, st (g x) ω = .ok (f x) ω) → cmpU st (ns.map g) ω = .ok (ns.filterMap f) ω
  | [], _ => rfl
  | x :: xs, h => by
    rw [List.map_cons, cmpU, h x (by simp), Res.bnd_ok, cmpU_gen fun y hy => h y (List.mem_cons_of_mem _ hy), Res.bnd_ok]
    cases e : f x with
    | none => simp [e]
    | some u => simp [e]
theorem uRep_t1 {x : U} {k : Int} (h0 : -10000 ≤ k) (h1 : k ≤ 10000) : uRep (.tup [x]) (.int k) = some (.tup (List.replicate k.toNat x)) := by
  show (if -10000 ≤ k ∧ k ≤ 10000 then some (U.tup (List.replicate k.toNat x)) else none) = _
  rw [if_pos ⟨h0, h1⟩]
theorem uRep_l1 {x : U} {k : Int} (h0 : -10000 ≤ k) (h1 : k ≤ 10000) : uRep (.lst [x]) (.int k) = some (.lst (List.replicate k.toNat x)) := by
  show (if -10000 ≤ k ∧ k ≤ 10000 then some (U.lst (List.replicate k.toNat x)) else none) = _
  rw [if_pos ⟨h0, h1⟩]
section
variable {prog : Program} {w : World} {A : Around} {E : L2.VSP} {h : Heap} {g : Array GenState} {d : Drawn} {t : Nat} {os : OsState}
variable {nm q : Str} {C N : Addr} {bs bm bmB : List Value} {hdct : Bool} {sn : List Str} {sub : List Value} {ab : Bool} {col : Option Bool} {dd : Option Addr} {k0 k1 k2 k3 k5 : Option Value} {B newId initId : String}
end
section
variable {M : Model} {A : Around} {E : L2.VSP} {env : Env}
variable {nm q : Str} {C N : Addr} {bs bm : List Value} {hdct : Bool} {sn : List Str} {sub : List Value} {ab : Bool} {col : Option Bool} {dd : Option Addr} {k0 k1 k2 k3 k5 : Option Value} {newId : String}
end
section
variable {prog : Program} {w : World} {A : Around} {E : L2.VSP} {s : Shared} {env : Env}
variable {nm q : Str} {C N : Addr} {bs bm bmB : List Value} {hdct : Bool} {sn : List Str} {sub : List Value} {ab : Bool} {col : Option Bool} {dd : Option Addr} {k0 k1 k2 k3 k5 : Option Value} {B newId initId : String}
end
section
variable {X : Cx} {e : Expr} {te : TE} {a : Str} {j : Nat} {p5 p6 pc : Pos}
end
structure NdK (K : PySem.W.Frag) (mg : L2.SV) (C S f : Addr) : Prop where
  mS : mg "ScaleError" = some (.ref S)
  lk : ∃ nm qn N bs sn sub ab col dd k0 k1 k2 k3 k5, K.lookup C = some (excClassObj nm qn C N bs [.ref S, .type "ValueError", .type "Exception", .type "BaseException", .type "object"] true sn sub ab col dd k0 k1 k2 k3 k5 "ValueError.__new__")
  ex : PySem.W.excIn K S [.type "ValueError", .type "Exception", .type "BaseException", .type "object"] "ValueError.__new__" = true
  init : PySem.W.findIn K (.ref C) "__init__" = some (some (.ref f))
  fn : PySem.W.isFn K (.ref f) = true
  sa : PySem.W.findIn K (.ref C) "__setattr__" = some (some (.builtin "object.__setattr__"))
  np : PySem.W.findIn K (.ref C) "place" = some none
  rd : PySem.W.readsIn K S (.type "type") = true
  sg : PySem.W.specialIn K (.ref S) "__getattribute__" = some (some (.builtin "type.__getattribute__"))
  fi : PySem.W.findCls K (.ref S) (.type "type") "__init__" = some (.val (.builtin "ValueError.__init__"))
theorem NdK.elim {K : PySem.W.Frag} {mg : L2.SV} {C S f : Addr} {G : Prop} (n : NdK K mg C S f) (k : ∀ nm qn N bs sn sub ab col dd k0 k1 k2 k3 k5, K.lookup C = some (excClassObj nm qn C N bs [.ref S, .type "ValueError", .type "Exception", .type "BaseException", .type "object"] true sn sub ab col dd k0 k1 k2 k3 k5 "ValueError.__new__") → G) : G := by
  obtain ⟨nm, qn, N, bs, sn, sub, ab, col, dd, k0, k1, k2, k3, k5, lk⟩ := n.lk
  exact k _ _ _ _ _ _ _ _ _ _ _ _ _ _ lk
section
variable {X : Cx} {C S f : Addr} {a : Str} {j : Nat} {p1 p2 p3 p4 p5 p6 apos cpos pos : Pos}
end
section
variable {prog : Program} {w : World} {A : Around} {R : Result → Shared → Prop} {s : Shared} {K : PySem.W.Frag} {x C : Addr}
end
section
variable {X : Cx} {C S f : Addr} {p1 p2 pa pos : Pos}
end
section
variable {P : Program} {w : World} {K : PySem.W.Frag} {mg : L2.SV} {base : Heap}
end
section
variable {P : Program} {w : World} {K : PySem.W.Frag} {mg : L2.SV} {base : Heap} {N : List Str} {qual : Str} {scope : Scope} {f : Addr} {cd : Value} {A : Around} {outer : List Env} {s : Shared} {H : Hp} {E : XK}
end
section
variable {W : Wd} {m : Md} {E : XK} {te : TE} {fe : Ef}
end
section
variable {P : Program} {w : World} {K : PySem.W.Frag} {mg : L2.SV} {base : Heap} {N : List Str} {qual : Str} {scope : Scope} {f : Addr} {cd : Value} {A : Around} {outer : List Env} {s : Shared} {H : Hp} {E : XK} {W : Wd} {m : Md}
end
section
variable {prog : Program} {w : World} {A : Around} {E : L2.VSP} {s : Shared} {K : PySem.W.Frag} {x C : Addr} {ox : Obj} {od : Obj}
end
section
variable {ι : Type} {X : L2.FC ι} {W : Wd} {m : Md} {E : XK} {a : Expr} {fa : Ef} {ta : TE} {pos : Pos}
end
section
variable {W : Wd} {m : Md} {E : XK} {i j : Nat} {ta : TE} {fa : Ef} {ρ : En} {ω : Om} {σ : St} {H0 Hc0 Hc H : Hp} {ow : Nat → Addr}
end
section
variable {ι : Type} {X : L2.FC ι} {W : Wd} {m : Md} {E : XK} {a b : Expr} {fa : Ef} {pos p p2 p3 p4 p5 pos2 pos3 tp : Pos} {x y' : Str} {j0 : Nat}
end
section
variable {ι : Type} {X : L2.FC ι} {W : Wd} {m : Md} {E : XK} {p p2 apos cpos : Pos} {x : Str} {j0 : Nat} {i : Nat}
end
section
variable {ι : Type} {X : L2.FC ι} {W : Wd} {m : Md} {E : XK} {a : Expr} {fa : Ef} {ta : TE} {pos p2 : Pos} {lo hi : Option Expr} {fl fh : Pf} {tl th : TO}
end
section
variable {P : Program} {w : World} {K : PySem.W.Frag} {mg : L2.SV} {base : Heap}
end
noncomputable def zipU (us ws : List U) : List U := List.zipWith (fun a b => U.tup [a, b]) us ws
section
variable {W : Wd} {m : Md} {E : XK} {tr : TA} {fr : Af}
end
section
variable {ι : Type} {X : L2.FC ι} {W : Wd} {m : Md} {E : XK} {a b : Expr} {fr : Af} {p pos tp : Pos} {es : List Expr} {x1 : Nat}
end
section
variable {W : Wd} {m : Md} {E : XK} {ta : TE} {fa : Ef} {i : Nat}
end
section
variable {ι : Type} {X : L2.FC ι} {W : Wd} {m : Md} {E : XK} {a : Expr} {fa : Ef} {pos p : Pos} {s : Stmt} {x : Str}
end
section
variable {a b : Int} {k : Bool} {us ws : List U} {ns : List Int} {lo hi : Option Int} {u : U} {ρ : En} {n : Nat} {js : List Nat} {x : Str} {p : Option Int}
theorem asB_r : asB (.bl k) = some k := rfl
theorem asI_r : asI (.int a) = some (some a) := rfl
theorem asSeq_l : asSeq (.lst us) = some us := rfl
theorem asSeq_t : asSeq (.tup us) = some us := rfl
theorem uSub_r : uSub (.int a) (.int b) = some (.int (a - b)) := rfl
theorem uNeg_r : uNeg (.int a) = some (.int (-a)) := rfl
theorem uLt_r : uLt (.int a) (.int b) = some (.bl (decide (a < b))) := rfl
theorem uLe_r : uLe (.int a) (.int b) = some (.bl (decide (a ≤ b))) := rfl
theorem uGt_r : uGt (.int a) (.int b) = some (.bl (decide (b < a))) := rfl
theorem uGe_r : uGe (.int a) (.int b) = some (.bl (decide (b ≤ a))) := rfl
theorem uIs_r : uIs k u .non = some (.bl (if k then !isNon u else isNon u)) := by cases u <;> rfl
theorem isNon_n : isNon .non = true := rfl
theorem isNon_i : isNon (.int a) = false := rfl
theorem isNon_b : isNon (.bl k) = false := rfl
theorem isNon_t : isNon (.tup us) = false := rfl
theorem isNon_l : isNon (.lst us) = false := rfl
theorem isNon_s : isNon (.str x) = false := rfl
theorem isNon_x : isNon (.exc x p) = false := rfl
theorem uLen_l : uLen [.lst us] = some (.int us.length) := rfl
theorem uLen_t : uLen [.tup us] = some (.int us.length) := rfl
theorem uLen_s : uLen [.scr ns] = some (.int ns.length) := rfl
theorem uTuple_l : uTuple [.lst us] = some (.tup us) := rfl
theorem uTuple_t : uTuple [.tup us] = some (.tup us) := rfl
theorem uList_l : uList [.lst us] = some (.lst us) := rfl
theorem uList_t : uList [.tup us] = some (.lst us) := rfl
theorem uList_s : uList [.scr ns] = some (.lst (ns.map U.int)) := rfl
theorem uMax2_r : uMax2 [.int a, .int b] = some (.int (max a b)) := rfl
theorem uMin2_r : uMin2 [.int a, .int b] = some (.int (min a b)) := rfl
theorem uAbs_r : uAbs [.int a] = some (.int (if a < 0 then -a else a)) := rfl
theorem uInt_i : uInt [.int a] = some (.int a) := rfl
theorem uInt_b : uInt [.bl k] = some (.int (if k then 1 else 0)) := rfl
theorem uIsT_ii : uIsT [.int a, .ty "int"] = some (.bl true) := rfl
theorem uIsT_ib : uIsT [.int a, .ty "bool"] = some (.bl false) := rfl
theorem uIsT_bb : uIsT [.bl k, .ty "bool"] = some (.bl true) := rfl
theorem uIsT_bi : uIsT [.bl k, .ty "int"] = some (.bl true) := rfl
theorem uIsT_tt : uIsT [.tup us, .ty "tuple"] = some (.bl true) := rfl
theorem uIsT_ll : uIsT [.lst us, .ty "list"] = some (.bl true) := rfl
theorem blkU_r : blkU n js ρ = List.replicate n none ++ js.map fun j => (ρ[j]?).getD none := rfl
theorem uSl_l : uSl (.lst us) lo hi = some (.lst (cutG us lo hi)) := rfl
theorem uSl_t : uSl (.tup us) lo hi = some (.tup (cutG us lo hi)) := rfl
theorem uSlL_l : uSlL (.lst us) lo hi = some (.lst (cutG us lo hi)) := rfl
end
section
variable {P : Program} {w : World} {K : PySem.W.Frag} {mg : L2.SV} {base : Heap}
end
noncomputable def P2 (v : V) (H : Hp) : Prop := ∀ p x y, v = .ref p → H p = some (.tup [x, y]) → x ≠ y
section
variable {W : Wd} {m : Md} {E : XK} {t1 t2 t : TS} {g1 g2 gs : Sf}
end
section
variable {P : Program} {w : World} {K : PySem.W.Frag} {mg : L2.SV} {base : Heap}
end
mutual
noncomputable def noL : U → Bool
  | .tup us => noLs us
  | .lst _ => false
  | .scr _ => false
  | .dic _ _ => false
  | .exc _ _ => false
  | .pile => false
  | _ => true
noncomputable def noLs : List U → Bool
  | [] => true
  | u :: us => noL u && noLs us
end
noncomputable def cutL (Hc : Hp) : Hp := fun a => match Hc a with
  | some (.tup xs) => some (.tup xs)
  | _ => none
theorem cutL_t {Hc : Hp} {a : Addr} {xs : List V} (h : Hc a = some (.tup xs)) : cutL Hc a = some (.tup xs) := by unfold cutL; rw [h]
mutual
theorem RU.cut {W : Wd} {Hc : Hp} : ∀ (u : U) {v : V}, noL u = true → RU W Hc u v → RU W (cutL Hc) u v
  | .tup us, v, n, h => by
    rw [RU] at h ⊢
    obtain ⟨a, vs, e, q, r⟩ := h
    rw [noL] at n
    exact ⟨a, vs, e, cutL_t q, RUs.cut us n r⟩
  | .non, v, _, h => by rw [RU] at h ⊢; exact h
  | .bl _, v, _, h => by rw [RU] at h ⊢; exact h
  | .int _, v, _, h => by rw [RU] at h ⊢; exact h
  | .str _, v, _, h => by rw [RU] at h ⊢; exact h
  | .ty _, v, _, h => by rw [RU] at h ⊢; exact h
  | .nm _, v, _, h => by rw [RU] at h ⊢; exact h
  | .lst _, v, n, _ => by rw [noL] at n; cases n
  | .scr _, v, n, _ => by rw [noL] at n; cases n
  | .dic _ _, v, n, _ => by rw [noL] at n; cases n
  | .exc _ _, v, n, _ => by rw [noL] at n; cases n
  | .pile, v, n, _ => by rw [noL] at n; cases n
theorem RUs.cut {W : Wd} {Hc : Hp} : ∀ (us : List U) {vs : List V}, noLs us = true → RUs W Hc us vs → RUs W (cutL Hc) us vs
  | [], vs, _, h => by rw [RUs] at h ⊢; exact h
  | u :: us, vs, n, h => by
    rw [RUs] at h ⊢
    obtain ⟨v, r, e, h1, h2⟩ := h
    rw [noLs, Bool.and_eq_true] at n
    exact ⟨v, r, e, RU.cut u n.1 h1, RUs.cut us n.2 h2⟩
end
theorem RB.cut {W : Wd} {Hc H : Hp} {u : U} {v : V} (n : noL u = true) (h : RB W Hc H u v) : RB W (cutL Hc) H u v := by
  rcases h with h | ⟨us, a, vs, rfl, _⟩
  · exact .inl (RU.cut u n h)
  · rw [noL] at n; cases n
theorem RBs.cut {W : Wd} {Hc H : Hp} : ∀ {bs : List Bool} {us : List U} {vs : List V}, noLs us = true → RBs W Hc H bs us vs → RBs W (cutL Hc) H bs us vs
  | b :: bs, u :: us, v :: vs, n, h => by
    rw [noLs, Bool.and_eq_true] at n
    unfold RBs at h ⊢
    refine ⟨?_, RBs.cut n.2 h.2⟩
    cases b with
    | true => rw [if_pos rfl] at *; exact RB.cut n.1 h.1
    | false => rw [if_neg Bool.false_ne_true] at *; exact RU.cut u n.1 h.1
  | [], [], [], _, h => h
  | [], _ :: _, _, _, h => by unfold RBs at h; exact h.elim
  | [], [], _ :: _, _, h => by unfold RBs at h; exact h.elim
  | _ :: _, [], _, _, h => by unfold RBs at h; exact h.elim
  | _ :: _, _ :: _, [], _, h => by unfold RBs at h; exact h.elim
section
variable {W : Wd} {ω : Om} {Hc1 H1 Hc' H' : Hp}
end
theorem XR.mono {Hc Hc' : Hp} {pl : Option Int} {od : Option Addr} (s : Same Hc Hc') (h : XR Hc pl od) : XR Hc' pl od := by
  cases pl with
  | none => exact h
  | some n => obtain ⟨d, e, q⟩ := h; exact ⟨d, e, s _ _ q⟩
section
variable {W : Wd} {m : Md} {E : XK} {K : PySem.W.Frag} {mg : L2.SV} {wk : Wd → Prop} {bs : List Bool} {F : Ff} {tr : TA} {fr : Af}
end
section
variable {ι : Type} {X : L2.FC ι} {W : Wd} {m : Md} {E : XK} {s : Stmt} {ss : List Stmt} {g g1 g2 : Sf} {a : Expr} {es : List Expr} {bs : List Bool} {fr : Af} {x xt xi xj : Str} {p pos p1 p2 p3 p4 p5 p6 p7 p8 p9 q1 q2 q3 : Pos}
end
section
variable {g1 g2 g : Sf} {ρ : En} {ω : Om} {F : Ff} {fr : Af} {a b : List U} {t i j n : Nat} {u : U} {us : List U} {c : Str} {p : Option Int}
end
section
variable {X : Cx} {W : Wd} {m : Md} {a : Expr} {fr : Af} {bs : List Bool} {es : List Expr} {pos p : Pos} {i : Nat} {xn x1 x2 : Str}
end
section
variable {prog : Program} {w : World} {A : Around} {E : L2.VSP} {s : Shared}
theorem zipM_next {zp tI tO ia ib la lb : Addr} {ka kb : Nat} {xs ys : Array Value} {x y a b : Value} {Q : L2.VSP} (D : ZipApart zp tI tO ia ib la lb) (Z : IsZip s.heap zp tI tO .none) (PI : IsPair s.heap tI (.ref ia) (.ref ib)) (PO : IsPair s.heap tO a b)
    (I1 : s.heap.IsListIter ia la ka) (I2 : s.heap.IsListIter ib lb kb) (S1 : s.heap.IsList la xs) (S2 : s.heap.IsList lb ys) (hx : xs[ka]? = some x) (hy : ys[kb]? = some y)
    (q : ∀ g, IsZip g zp tI tO (rawInt s.heap.objs.size) → IsPair g tO x y → g.IsListIter ia la (ka + 1) → g.IsListIter ib lb (kb + 1) → IsPair g s.heap.objs.size x y →
      (∀ c o, c ≠ zp → c ≠ tO → c ≠ ia → c ≠ ib → s.heap.get? c = some o → g.get? c = some o) → Q (.ref s.heap.objs.size) { s with heap := g }) :
    wpAny (model prog w) A (Builtin.«zip.__next__» ⟨[.ref zp], []⟩) (fun fin s' => ∃ v, fin = .done (.ret v) ∧ Q v s') E s := by
  show wpAny _ _ (field (.ref zp) 2 >>= _) _ _ _; refine wpAny_bind (wpAny_field Z rfl (x := .bool false) rfl ?_)
  show wpAny _ _ (field (.ref zp) 3 >>= _) _ _ _; refine wpAny_bind (wpAny_field Z rfl (x := .ref tI) rfl ?_); refine wpAny_bind (wpAny_seqItems PI rfl ?_)
  show wpAny _ _ (Builtin.SmallTypes.ownedTupleIsFree (.ref zp) >>= _) _ _ _; refine wpAny_bind ?_; unfold Builtin.SmallTypes.ownedTupleIsFree
  refine wpAny_bind (wpAny_field Z rfl (x := .none) rfl (wpAny_pure ?_)); simp only [if_true]; refine wpAny_bind (wpAny_rule ?_); refine wpAny_bind (wpAny_field Z rfl (x := .ref tO) rfl ?_)
  refine wpAny_bind (wpAny_setField_rec Z (by simp) fun g1 Z1 E1 => ?_); replace Z1 : IsZip g1 zp tI tO .ellipsis := Z1; refine wpAny_bind ?_
  simp only [List.zipIdx_cons, List.zipIdx_nil, List.forIn_cons, List.forIn_nil]; refine wpAny_bind (wpAny_bind (wpAny_onRaise ?_))
  show wpAny _ _ (Builtin.SmallTypes.nextOf (.ref ia) >>= _) _ _ _; refine wpAny_bind (wpAny_nextOf_list_item (I1.extBut E1.extBut D.i1z) (S1.extBut E1.extBut D.l1z) hx fun g2 I12 E2 => wpAny_pure ?_)
  have P2 : IsPair g2 tO a b := E2.extBut _ _ D.TOi1 (E1.extBut _ _ D.TOz PO)
  refine wpAny_bind (wpAny_seqItems P2 rfl ?_); refine wpAny_bind (wpAny_updateSeq_pair P2 fun g3 P3 E3 => ?_); replace P3 : IsPair g3 tO x b := P3
  refine wpAny_bind (wpAny_letGo (wpAny_pure ?_)); refine wpAny_bind (wpAny_bind (wpAny_onRaise ?_)); show wpAny _ _ (Builtin.SmallTypes.nextOf (.ref ib) >>= _) _ _ _
  refine wpAny_bind (wpAny_nextOf_list_item (((I2.extBut E1.extBut D.i2z).extBut E2.extBut D.i12.symm).extBut E3.extBut D.TOi2.symm) (((S2.extBut E1.extBut D.l2z).extBut E2.extBut D.l2i1).extBut E3.extBut D.l2TO) hy fun g4 I24 E4 => wpAny_pure ?_)
  have P4 : IsPair g4 tO x b := E4.extBut _ _ D.TOi2 P3
  refine wpAny_bind (wpAny_seqItems P4 rfl ?_); refine wpAny_bind (wpAny_updateSeq_pair P4 fun g5 P5 E5 => ?_); replace P5 : IsPair g5 tO x y := P5
  refine wpAny_bind (wpAny_letGo (wpAny_pure (wpAny_pure ?_))); refine wpAny_bind (wpAny_seqItems P5 rfl ?_); refine wpAny_bind (wpAny_newTuple ?_)
  have zs : g5.objs.size = s.heap.objs.size := by rw [E5.1, E4.1, E3.1, E2.1, E1.1]
  have Z5 : IsZip g5 zp tI tO .ellipsis := E5.extBut _ _ D.TOz.symm (E4.extBut _ _ D.i2z.symm (E3.extBut _ _ D.TOz.symm (E2.extBut _ _ D.i1z.symm Z1)))
  have kk : ∀ c o, c ≠ zp → c ≠ tO → c ≠ ia → c ≠ ib → s.heap.get? c = some o → g5.get? c = some o := fun c o c1 c2 c3 c4 e => E5.extBut _ _ c2 (E4.extBut _ _ c4 (E3.extBut _ _ c2 (E2.extBut _ _ c3 (E1.extBut _ _ c1 e))))
  have I15 : g5.IsListIter ia la (ka + 1) := ((I12.extBut E3.extBut D.TOi1.symm).extBut E4.extBut D.i12).extBut E5.extBut D.TOi1.symm
  have I25 : g5.IsListIter ib lb (kb + 1) := I24.extBut E5.extBut D.TOi2.symm
  have lz : zp < g5.objs.size := Heap.lt_size Z5
  show wpAny _ _ (Builtin.SmallTypes.ownedTupleHandOut (.ref zp) (.ref g5.objs.size) >>= _) _ _ _; refine wpAny_bind ?_; unfold Builtin.SmallTypes.ownedTupleHandOut
  have Z6 : IsZip (g5.push { cls := .type "tuple", data := .seq #[x, y] }) zp tI tO .ellipsis := Heap.get?_push_of_some _ Z5
  refine wpAny_bind (wpAny_setField_rec Z6 (by simp) fun g7 Z7 E7 => ?_); replace Z7 : IsZip g7 zp tI tO (rawInt g5.objs.size) := Z7
  refine wpAny_setField_rec Z7 (by simp) fun g8 Z8 E8 => ?_; replace Z8 : IsZip g8 zp tI tO (rawInt g5.objs.size) := Z8
  have up : ∀ c o, c ≠ zp → g5.get? c = some o → g8.get? c = some o := fun c o c1 e => E8.extBut _ _ c1 (E7.extBut _ _ c1 (Heap.get?_push_of_some _ e))
  have T8 : IsPair g8 g5.objs.size x y := E8.extBut _ _ (Nat.ne_of_gt lz) (E7.extBut _ _ (Nat.ne_of_gt lz) (Heap.get?_push_size _ rfl))
  rw [zs] at Z8 T8; refine wpAny_pure ⟨_, rfl, ?_⟩; show Q (.ref g5.objs.size) _; rw [zs]
  have I18 : g8.IsListIter ia la (ka + 1) := I15.at fun o e => up _ o D.i1z e
  have I28 : g8.IsListIter ib lb (kb + 1) := let ⟨o, e, r⟩ := I25; ⟨o, up _ o D.i2z e, r⟩
  exact q g8 Z8 (up _ _ D.TOz P5) I18 I28 T8 fun c o c1 c2 c3 c4 e => up c o c1 (kk c o c1 c2 c3 c4 e)
theorem zipM_end {zp tI tO ia ib la lb : Addr} {ka kb : Nat} {xs ys : Array Value} {a b : Value} {Q : Fin → Shared → Prop} (nh : A.handled = none) (D : ZipApart zp tI tO ia ib la lb) (Z : IsZip s.heap zp tI tO .none) (PI : IsPair s.heap tI (.ref ia) (.ref ib))
    (I1 : s.heap.IsListIter ia la ka) (S1 : s.heap.IsList la xs) (hx : xs[ka]? = none)
    (q : ∀ g e, (∀ c o, c ≠ zp → c ≠ ia → s.heap.get? c = some o → g.get? c = some o) → (∃ o, g.get? e = some o ∧ o.cls = .type "StopIteration") → E (.ref e) { s with heap := g }) : wpAny (model prog w) A (Builtin.«zip.__next__» ⟨[.ref zp], []⟩) Q E s := by
  show wpAny _ _ (field (.ref zp) 2 >>= _) _ _ _; refine wpAny_bind (wpAny_field Z rfl (x := .bool false) rfl ?_)
  show wpAny _ _ (field (.ref zp) 3 >>= _) _ _ _; refine wpAny_bind (wpAny_field Z rfl (x := .ref tI) rfl ?_); refine wpAny_bind (wpAny_seqItems PI rfl ?_)
  show wpAny _ _ (Builtin.SmallTypes.ownedTupleIsFree (.ref zp) >>= _) _ _ _; refine wpAny_bind ?_; unfold Builtin.SmallTypes.ownedTupleIsFree
  refine wpAny_bind (wpAny_field Z rfl (x := .none) rfl (wpAny_pure ?_)); simp only [if_true]; refine wpAny_bind (wpAny_rule ?_); refine wpAny_bind (wpAny_field Z rfl (x := .ref tO) rfl ?_)
  refine wpAny_bind (wpAny_setField_rec Z (by simp) fun g1 Z1 E1 => ?_); replace Z1 : IsZip g1 zp tI tO .ellipsis := Z1; refine wpAny_bind ?_
  simp only [List.zipIdx_cons, List.zipIdx_nil, List.forIn_cons, List.forIn_nil]; refine wpAny_bind (wpAny_bind (wpAny_onRaise ?_))
  show wpAny _ _ (Builtin.SmallTypes.nextOf (.ref ia) >>= _) _ _ _; refine wpAny_bind (wpAny_nextOf_list_end nh (I1.extBut E1.extBut D.i1z) (S1.extBut E1.extBut D.l1z) hx fun g2 e E2 he => ?_)
  obtain ⟨oe, ge, ce⟩ := he; have Z2 : IsZip g2 zp tI tO .ellipsis := E2 _ _ D.i1z.symm Z1; have ez : e ≠ zp := fun z => by subst z; rw [Z2] at ge; cases ge; simp at ce
  exact wpAny_setField_rec Z2 (by simp) fun g3 ψ E3 => q g3 e (fun c o c1 c3 z => E3.extBut _ _ c1 (E2 _ _ c3 (E1.extBut _ _ c1 z))) ⟨oe, E3.extBut _ _ ez ge, ce⟩
theorem wpAny_alive {a : Addr} {Q : Option Obj → Shared → Prop} (h : Q (s.heap.get? a) s) : wpAny (model prog w) A (loadIfAlive a) Q E s := fun Γ p hΓ => by
  unfold loadIfAlive
  rw [Sem.wp_loadIfAlive]
  exact wpAny_pure h Γ p hΓ
noncomputable abbrev Zq (h : Heap) (z TI TO : Addr) (a : Addr) (g : Bool) : Prop := h.get? z = some { cls := .type "zip", dict := none, data := .fields #[rawInt a, .bool g, .bool false, .ref TI, .ref TO], slots := #[] }
theorem free_not {zp tI tO a : Addr} {g : Bool} {oa : Obj} {Q : Bool → Shared → Prop} (Z : Zq s.heap zp tI tO a g) (ha : s.heap.get? a = some oa)
    (q : ∀ h', Zq h' zp tI tO a true → (∀ c o, c ≠ zp → s.heap.get? c = some o → h'.get? c = some o) → h'.objs.size = s.heap.objs.size → Q false { s with heap := h' }) : wpAny (model prog w) A (Builtin.SmallTypes.ownedTupleIsFree (.ref zp)) Q E s := by
  unfold Builtin.SmallTypes.ownedTupleIsFree
  refine wpAny_bind (wpAny_field Z rfl (x := rawInt a) rfl ?_)
  show wpAny _ _ (loadIfAlive ((a : Int)).toNat >>= _) _ _ _
  refine wpAny_bind (wpAny_alive ?_)
  rw [show ((a : Int)).toNat = a from Int.toNat_natCast a, ha]
  show wpAny _ _ (field (.ref zp) 1 >>= _) _ _ _
  refine wpAny_bind (wpAny_field Z rfl (x := .bool g) rfl ?_)
  cases g with
  | true => exact wpAny_pure (q s.heap Z (fun c o ψ e => e) rfl)
  | false =>
    show wpAny _ _ (setField (.ref zp) 1 (.bool true) >>= _) _ _ _
    refine wpAny_bind (wpAny_setField_rec Z (by simp) fun g1 Z1 E1 => wpAny_pure ?_)
    exact q g1 Z1 (fun c o c1 e => E1.extBut _ _ c1 e) E1.1
theorem zipM_more {zp tI tO ia ib la lb a : Addr} {ka kb : Nat} {xs ys : Array Value} {x y : Value} {f1 : Bool} {oa : Obj} {Q : L2.VSP} (D : ZipApart zp tI tO ia ib la lb) (Z : Zq s.heap zp tI tO a f1) (PI : IsPair s.heap tI (.ref ia) (.ref ib)) (ha : s.heap.get? a = some oa)
    (I1 : s.heap.IsListIter ia la ka) (I2 : s.heap.IsListIter ib lb kb) (S1 : s.heap.IsList la xs) (S2 : s.heap.IsList lb ys) (hx : xs[ka]? = some x) (hy : ys[kb]? = some y)
    (q : ∀ g, Zq g zp tI tO a true → g.IsListIter ia la (ka + 1) → g.IsListIter ib lb (kb + 1) → IsPair g s.heap.objs.size x y → (∀ c o, c ≠ zp → c ≠ ia → c ≠ ib → s.heap.get? c = some o → g.get? c = some o) → Q (.ref s.heap.objs.size) { s with heap := g }) :
    wpAny (model prog w) A (Builtin.«zip.__next__» ⟨[.ref zp], []⟩) (fun fin s' => ∃ v, fin = .done (.ret v) ∧ Q v s') E s := by
  show wpAny _ _ (field (.ref zp) 2 >>= _) _ _ _; refine wpAny_bind (wpAny_field Z rfl (x := .bool false) rfl ?_)
  show wpAny _ _ (field (.ref zp) 3 >>= _) _ _ _; refine wpAny_bind (wpAny_field Z rfl (x := .ref tI) rfl ?_); refine wpAny_bind (wpAny_seqItems PI rfl ?_)
  show wpAny _ _ (Builtin.SmallTypes.ownedTupleIsFree (.ref zp) >>= _) _ _ _
  refine wpAny_bind (free_not Z ha fun g1 Z1 E1 z1 => ?_)
  simp only [Bool.false_eq_true, if_false, List.forIn_toArray, List.forIn_cons, List.forIn_nil]
  refine wpAny_bind (wpAny_bind (wpAny_bind (wpAny_holding ?_)))
  show wpAny _ _ (Builtin.SmallTypes.nextOf (.ref ia) >>= _) _ _ _
  refine wpAny_bind (wpAny_nextOf_list_item (I1.at fun o e => E1 _ o D.i1z e) (S1.at fun o e => E1 _ o D.l1z e) hx fun g2 I12 E2 => wpAny_pure ?_)
  refine wpAny_pure (wpAny_bind (wpAny_bind (wpAny_holding ?_)))
  show wpAny _ _ (Builtin.SmallTypes.nextOf (.ref ib) >>= _) _ _ _
  have I22 : g2.IsListIter ib lb kb := let ⟨o, e, r⟩ := I2; ⟨o, E2.extBut _ _ D.i12.symm (E1 _ o D.i2z e), r⟩
  have S22 : g2.IsList lb ys := let ⟨o, e, r⟩ := S2; ⟨o, E2.extBut _ _ D.l2i1 (E1 _ o D.l2z e), r⟩
  refine wpAny_bind (wpAny_nextOf_list_item I22 S22 hy fun g3 I23 E3 => wpAny_pure ?_)
  refine wpAny_pure (wpAny_pure ?_)
  show wpAny _ _ (newTuple [x, y] >>= _) _ _ _
  refine wpAny_bind (wpAny_newTuple ?_)
  have zs : g3.objs.size = s.heap.objs.size := by rw [E3.1, E2.1, z1]
  have kk : ∀ c o, c ≠ zp → c ≠ ia → c ≠ ib → s.heap.get? c = some o → g3.get? c = some o := fun c o c1 c3 c4 e => E3.extBut _ _ c4 (E2.extBut _ _ c3 (E1 _ _ c1 e))
  have Z3 : Zq g3 zp tI tO a true := E3.extBut _ _ D.i2z.symm (E2.extBut _ _ D.i1z.symm Z1)
  refine wpAny_pure ⟨_, rfl, ?_⟩
  show Q (.ref g3.objs.size) _
  have T : IsPair (g3.push { cls := .type "tuple", data := .seq #[x, y] }) g3.objs.size x y := Heap.get?_push_size _ rfl
  rw [zs] at T ⊢
  have I13 : g3.IsListIter ia la (ka + 1) := I12.extBut E3.extBut D.i12
  exact q _ (Heap.get?_push_of_some _ Z3) (I13.at fun o e => Heap.get?_push_of_some _ e) (let ⟨o, e, r⟩ := I23; ⟨o, Heap.get?_push_of_some _ e, r⟩) T fun c o c1 c3 c4 e => Heap.get?_push_of_some _ (kk c o c1 c3 c4 e)
theorem zipM_end2 {zp tI tO ia ib la lb a : Addr} {ka : Nat} {xs : Array Value} {f1 : Bool} {oa : Obj} {Q : Fin → Shared → Prop} (nh : A.handled = none) (D : ZipApart zp tI tO ia ib la lb) (Z : Zq s.heap zp tI tO a f1) (PI : IsPair s.heap tI (.ref ia) (.ref ib)) (ha : s.heap.get? a = some oa)
    (I1 : s.heap.IsListIter ia la ka) (S1 : s.heap.IsList la xs) (hx : xs[ka]? = none)
    (q : ∀ g e, (∀ c o, c ≠ zp → c ≠ ia → s.heap.get? c = some o → g.get? c = some o) → (∃ o, g.get? e = some o ∧ o.cls = .type "StopIteration") → E (.ref e) { s with heap := g }) : wpAny (model prog w) A (Builtin.«zip.__next__» ⟨[.ref zp], []⟩) Q E s := by
  show wpAny _ _ (field (.ref zp) 2 >>= _) _ _ _; refine wpAny_bind (wpAny_field Z rfl (x := .bool false) rfl ?_)
  show wpAny _ _ (field (.ref zp) 3 >>= _) _ _ _; refine wpAny_bind (wpAny_field Z rfl (x := .ref tI) rfl ?_); refine wpAny_bind (wpAny_seqItems PI rfl ?_)
  show wpAny _ _ (Builtin.SmallTypes.ownedTupleIsFree (.ref zp) >>= _) _ _ _
  refine wpAny_bind (free_not Z ha fun g1 Z1 E1 z1 => ?_)
  simp only [Bool.false_eq_true, if_false, List.forIn_toArray, List.forIn_cons, List.forIn_nil]
  refine wpAny_bind (wpAny_bind (wpAny_bind (wpAny_holding ?_)))
  show wpAny _ _ (Builtin.SmallTypes.nextOf (.ref ia) >>= _) _ _ _
  exact wpAny_bind (wpAny_nextOf_list_end nh (I1.at fun o e => E1 _ o D.i1z e) (S1.at fun o e => E1 _ o D.l1z e) hx fun g2 e E2 he => q g2 e (fun c o c1 c3 z => E2 _ _ c3 (E1 _ _ c1 z)) he)
noncomputable def Zs (h : Heap) (zp tI tO : Addr) : Prop := (IsZip h zp tI tO .none ∧ ∃ u v, IsPair h tO u v) ∨ ∃ a g oa, Zq h zp tI tO a g ∧ h.get? a = some oa ∧ a ≠ zp
theorem nextM_item {zp tI tO ia ib la lb : Addr} {ka kb : Nat} {xs ys : Array Value} {x y : Value} {Q : Option Value → Shared → Prop} (D : ZipApart zp tI tO ia ib la lb) (Z : Zs s.heap zp tI tO) (PI : IsPair s.heap tI (.ref ia) (.ref ib))
    (I1 : s.heap.IsListIter ia la ka) (I2 : s.heap.IsListIter ib lb kb) (S1 : s.heap.IsList la xs) (S2 : s.heap.IsList lb ys) (hx : xs[ka]? = some x) (hy : ys[kb]? = some y)
    (q : ∀ g, Zs g zp tI tO → g.IsListIter ia la (ka + 1) → g.IsListIter ib lb (kb + 1) → IsPair g s.heap.objs.size x y →
      (∀ c o, c ≠ zp → c ≠ tO → c ≠ ia → c ≠ ib → s.heap.get? c = some o → g.get? c = some o) → Q (some (.ref s.heap.objs.size)) { s with heap := g }) : wpAny (model prog w) A (pyNext (.ref zp)) Q E s := by
  rcases Z with ⟨Z, u, v, PO⟩ | ⟨a, g, oa, Z, ha, hne⟩
  · have ty : s.TypeIs (.ref zp) "zip" := ⟨_, Z, rfl⟩
    have lz : zp < s.heap.objs.size := Heap.lt_size Z
    unfold pyNext; exact wpAny_bind (wpAny_attempt (wpAny_callSpecial?_slot (name := Str.ofString "__next__") ty F.slot_zip_next (wpAny_call_entry F.slot_zip_next ty F.entry_zip_next (zipM_next D Z PI PO I1 I2 S1 S2 hx hy fun g a1 a2 a3 a4 a5 a6 => wpAny_pure (q g (.inr ⟨_, false, _, a1, a5, Nat.ne_of_gt lz⟩) a3 a4 a5 a6)) (F.args_zip_next_1 _))))
  · have ty : s.TypeIs (.ref zp) "zip" := ⟨_, Z, rfl⟩
    have lz : zp < s.heap.objs.size := Heap.lt_size Z
    unfold pyNext; exact wpAny_bind (wpAny_attempt (wpAny_callSpecial?_slot (name := Str.ofString "__next__") ty F.slot_zip_next (wpAny_call_entry F.slot_zip_next ty F.entry_zip_next (zipM_more D Z PI ha I1 I2 S1 S2 hx hy fun g a1 a3 a4 a5 a6 => wpAny_pure (q g (.inr (by
      by_cases c1 : a = ia
      · obtain ⟨o, e, _⟩ := a3; exact ⟨a, true, o, a1, by rw [c1]; exact e, hne⟩
      by_cases c2 : a = ib
      · obtain ⟨o, e, _⟩ := a4; exact ⟨a, true, o, a1, by rw [c2]; exact e, hne⟩
      exact ⟨a, true, oa, a1, a6 _ _ hne c1 c2 ha, hne⟩)) a3 a4 a5 fun c o c1 ψ c3 c4 e => a6 c o c1 c3 c4 e)) (F.args_zip_next_1 _))))
theorem nextM_end {zp tI tO ia ib la lb : Addr} {ka kb : Nat} {xs : Array Value} {Q : Option Value → Shared → Prop} (nh : A.handled = none) (D : ZipApart zp tI tO ia ib la lb) (Z : Zs s.heap zp tI tO) (PI : IsPair s.heap tI (.ref ia) (.ref ib))
    (I1 : s.heap.IsListIter ia la ka) (S1 : s.heap.IsList la xs) (hx : xs[ka]? = none)
    (q : ∀ g, (∀ c o, c ≠ zp → c ≠ ia → s.heap.get? c = some o → g.get? c = some o) → Q none { s with heap := g }) : wpAny (model prog w) A (pyNext (.ref zp)) Q E s := by
  rcases Z with ⟨Z, u, v, PO⟩ | ⟨a, g, oa, Z, ha, hne⟩
  · have ty : s.TypeIs (.ref zp) "zip" := ⟨_, Z, rfl⟩
    unfold pyNext; refine wpAny_bind (wpAny_attempt (wpAny_callSpecial?_slot (name := Str.ofString "__next__") ty F.slot_zip_next (wpAny_call_entry F.slot_zip_next ty F.entry_zip_next (zipM_end (kb := 0) (ys := #[]) (a := .none) (b := .none) nh D Z PI I1 S1 hx fun g e k he => ?_) (F.args_zip_next_1 _))))
    obtain ⟨o, go, co⟩ := he; refine wpAny_bind (wpAny_isInstance (T := "StopIteration") (b := true) ⟨o, go, co⟩ isSubtype_stop ?_); exact wpAny_pure (q _ k)
  · have ty : s.TypeIs (.ref zp) "zip" := ⟨_, Z, rfl⟩
    unfold pyNext; refine wpAny_bind (wpAny_attempt (wpAny_callSpecial?_slot (name := Str.ofString "__next__") ty F.slot_zip_next (wpAny_call_entry F.slot_zip_next ty F.entry_zip_next (zipM_end2 nh D Z PI ha I1 S1 hx fun g e k he => ?_) (F.args_zip_next_1 _))))
    obtain ⟨o, go, co⟩ := he; refine wpAny_bind (wpAny_isInstance (T := "StopIteration") (b := true) ⟨o, go, co⟩ isSubtype_stop ?_); exact wpAny_pure (q _ k)
noncomputable abbrev zM1 (h : Heap) (la : Addr) : Heap := h.push { cls := .type "list_iterator", data := .fields #[.ref la, .int 0 0] }
noncomputable abbrev zM2 (h : Heap) (la lb : Addr) : Heap := (zM1 h la).push { cls := .type "list_iterator", data := .fields #[.ref lb, .int 0 0] }
noncomputable abbrev zM3 (h : Heap) (la lb : Addr) : Heap := (zM2 h la lb).push { cls := .type "tuple", data := .seq #[.ref h.objs.size, .ref (zM1 h la).objs.size] }
noncomputable abbrev zM4 (h : Heap) (la lb : Addr) : Heap := (zM3 h la lb).push { cls := .type "tuple", data := .seq #[.none, .none] }
noncomputable abbrev zM5 (h : Heap) (la lb : Addr) : Heap := (zM4 h la lb).push { cls := .type "zip", data := .fields #[.none, .bool false, .bool false, .ref (zM2 h la lb).objs.size, .ref (zM3 h la lb).objs.size] }
theorem meetsM_new (la lb : Addr) (xs ys : Array Value) : Meets (Builtin.«zip.__new__» ⟨[.type "zip", .ref la, .ref lb], []⟩) (fun ψ R s => s.heap.IsList la xs ∧ s.heap.IsList lb ys ∧ R (.ok (.ret (.ref (zM4 s.heap la lb).objs.size))) { s with heap := zM5 s.heap la lb }) :=
  .of_wp fun prog w A R s h => by
    obtain ⟨g0, gn, dr, tk, os⟩ := s; obtain ⟨t1, t2, h⟩ := h; have sb := sub_zip
    have T1 : Heap.IsList (Shared.heap ⟨g0, gn, dr, tk, os⟩) la xs := t1
    have T2 : Heap.IsList (Shared.heap ⟨g0.push { cls := .type "list_iterator", data := .fields #[.ref la, .int 0 0] }, gn, dr, tk, os⟩) lb ys := (let ⟨o, e, r⟩ := t2; ⟨o, Heap.get?_push_of_some _ e, r⟩)
    wp_walk using wpAny_pyIter_list T1, wpAny_pyIter_list T2; exact ⟨_, rfl, h⟩
theorem callM {la lb : Addr} {xs ys : Array Value} {Q : L2.VSP} (t1 : s.heap.IsList la xs) (t2 : s.heap.IsList lb ys)
    (q : ∀ g, IsZip g (s.heap.objs.size + 4) (s.heap.objs.size + 2) (s.heap.objs.size + 3) .none → IsPair g (s.heap.objs.size + 2) (.ref s.heap.objs.size) (.ref (s.heap.objs.size + 1)) → IsPair g (s.heap.objs.size + 3) .none .none →
      g.IsListIter s.heap.objs.size la 0 → g.IsListIter (s.heap.objs.size + 1) lb 0 → (∀ c o, s.heap.get? c = some o → g.get? c = some o) → Q (.ref (s.heap.objs.size + 4)) { s with heap := g }) : wpAny (model prog w) A (call (.type "zip") [.ref la, .ref lb]) Q E s := by
  refine callType_new F.called_zip (by decide) (F.typeCall_zip_2 _ _) (F.newCall_zip_2 _ _) (fun obj => F.args_object_init_3 obj _ _) F.entry_zip_new (meetsM_new la lb xs ys) ⟨t1, t2, ?_⟩
  have n1 : (zM1 s.heap la).objs.size = s.heap.objs.size + 1 := Heap.size_push ..
  have n2 : (zM2 s.heap la lb).objs.size = s.heap.objs.size + 2 := by rw [Heap.size_push, n1]
  have n3 : (zM3 s.heap la lb).objs.size = s.heap.objs.size + 3 := by rw [Heap.size_push, n2]
  have n4 : (zM4 s.heap la lb).objs.size = s.heap.objs.size + 4 := by rw [Heap.size_push, n3]
  have e5 : (zM5 s.heap la lb).get? (zM4 s.heap la lb).objs.size = some _ := Heap.get?_push_size _ rfl
  have e4 : (zM5 s.heap la lb).get? (zM3 s.heap la lb).objs.size = some _ := Heap.get?_push_of_some _ (Heap.get?_push_size _ rfl)
  have e3 : (zM5 s.heap la lb).get? (zM2 s.heap la lb).objs.size = some _ := Heap.get?_push_of_some _ (Heap.get?_push_of_some _ (Heap.get?_push_size _ rfl))
  have e2 : (zM5 s.heap la lb).get? (zM1 s.heap la).objs.size = some _ := Heap.get?_push_of_some _ (Heap.get?_push_of_some _ (Heap.get?_push_of_some _ (Heap.get?_push_size _ rfl)))
  have e1 : (zM5 s.heap la lb).get? s.heap.objs.size = some _ := Heap.get?_push_of_some _ (Heap.get?_push_of_some _ (Heap.get?_push_of_some _ (Heap.get?_push_of_some _ (Heap.get?_push_size _ rfl))))
  show _ ∧ _; rw [n2, n3, n4] at e5; rw [n1, n2] at e3; rw [n3] at e4; rw [n1] at e2; rw [n4]
  exact ⟨⟨_, e5, rfl⟩, q _ e5 e3 e4 ⟨_, e1, rfl, rfl⟩ ⟨_, e2, rfl, rfl⟩ fun c o x => Heap.get?_push_of_some _ (Heap.get?_push_of_some _ (Heap.get?_push_of_some _ (Heap.get?_push_of_some _ (Heap.get?_push_of_some _ x))))⟩
structure PsOk (h : Heap) (m0 : Nat) (xs ys : Array Value) (ps : List Addr) : Prop where
  nd : ps.Nodup
  at_ : ∀ (j : Nat) (p : Addr), ps[j]? = some p → m0 ≤ p ∧ ∃ x y, xs[j]? = some x ∧ ys[j]? = some y ∧ IsPair h p x y
theorem PsOk.keep {h h' : Heap} {m0 : Nat} {xs ys : Array Value} {ps : List Addr} (q : PsOk h m0 xs ys ps) (k : ∀ b o, m0 ≤ b → h.get? b = some o → h'.get? b = some o) : PsOk h' m0 xs ys ps := ⟨q.nd, fun j p e => by
  obtain ⟨a, x, y, b, c, d⟩ := q.at_ j p e
  exact ⟨a, x, y, b, c, k _ _ a d⟩⟩
theorem PsOk.snoc {h : Heap} {m0 : Nat} {xs ys : Array Value} {ps : List Addr} {p : Addr} {x y : Value} (q : PsOk h m0 xs ys ps) (hp : m0 ≤ p) (hx : xs[ps.length]? = some x) (hy : ys[ps.length]? = some y) (d : IsPair h p x y) (hn : p ∉ ps) : PsOk h m0 xs ys (ps ++ [p]) := ⟨by
    rw [List.nodup_append]
    exact ⟨q.nd, by simp, fun a ha b hb e => by simp at hb; subst hb; subst e; exact hn ha⟩, fun j r e => by
  by_cases c : j < ps.length
  · rw [List.getElem?_append_left c] at e; exact q.at_ j r e
  · rw [List.getElem?_append_right (by lia)] at e
    by_cases c2 : j - ps.length = 0
    · rw [c2] at e; simp at e; subst e
      have : j = ps.length := by lia
      subst this
      exact ⟨hp, x, y, hx, hy, d⟩
    · obtain ⟨n, hn⟩ := Nat.exists_eq_succ_of_ne_zero c2; rw [hn] at e; simp at e⟩
theorem ext_zip {R : Result → Shared → Prop} {m0 zp tI tO ia ib la lb L : Addr} {xs ys : Array Value} (hh : A.handled = none) (D : ZipApart zp tI tO ia ib la lb) (lt : ∀ b ∈ [zp, tI, tO, ia, ib, la, lb, L], b < m0) (Ln : L ∉ [zp, tI, tO, ia, ib, la, lb]) (hxy : xs.size ≤ ys.size) (hsz : xs.size ≤ sizeLine) (res : Value) :
    ∀ (k : Nat) (s : Shared) (acc : Array Value) (c : Nat) (ps : List Addr), xs.size - ps.length = k → ps.length ≤ xs.size → m0 ≤ s.heap.objs.size → Zs s.heap zp tI tO → IsPair s.heap tI (.ref ia) (.ref ib) → s.heap.IsListIter ia la ps.length → s.heap.IsListIter ib lb ps.length → s.heap.IsList la xs → s.heap.IsList lb ys →
      s.heap.get? L = some { cls := .type "list", dict := none, data := .seq acc c, slots := #[] } → acc.toList = ps.map Value.ref → PsOk s.heap m0 xs ys ps →
      (∀ h' acc' c' ps', (∀ b o, b ∉ [L, zp, tO, ia, ib] → s.heap.get? b = some o → h'.get? b = some o) → h'.get? L = some { cls := .type "list", dict := none, data := .seq acc' c', slots := #[] } → acc'.toList = ps'.map Value.ref → ps'.length = xs.size → PsOk h' m0 xs ys ps' → R (.ok (.ret res)) { s with heap := h' }) →
      codeAny (model prog w) A (.builtin "list.extend.loop" ⟨[.ref L, .ref zp, res], []⟩) R s := by
  simp only [List.mem_cons, List.not_mem_nil, or_false, not_or] at Ln
  obtain ⟨n1, n2, n3, n4, n5, n6, n7⟩ := Ln
  have lz := lt zp (by simp)
  have ltO := lt tO (by simp)
  have lia := lt ia (by simp)
  have lib := lt ib (by simp)
  have lL := lt L (by simp)
  intro k
  induction k with
  | zero =>
    intro s acc c ps hk hi hm Z PI I1 I2 S1 S2 hL hacc hP hR
    have hin : ps.length = xs.size := by omega
    refine codeAny_builtin PySem.F.entry_extend_loop ?_
    rw [Around.under_plainId PySem.F.plain_extend_loop _]
    show wpAny _ A.in1 (pyNext (.ref zp) >>= _) _ _ s
    refine wpAny_bind (nextM_end (kb := 0) (by simpa using hh) D Z PI I1 S1 (by simp [hin]) fun g e => ?_)
    refine wpAny_pure (hR g acc c ps (fun b o hb x => e b o (fun z => hb (by simp [z])) (fun z => hb (by simp [z])) x) (e _ _ n1 n4 hL) hacc hin (hP.keep fun b o hb x => e b o (by lia) (by lia) x))
  | succ k ih =>
    intro s acc c ps hk hi hm Z PI I1 I2 S1 S2 hL hacc hP hR
    have hlt : ps.length < xs.size := by omega
    have hlt2 : ps.length < ys.size := by omega
    refine codeAny_builtin PySem.F.entry_extend_loop ?_
    rw [Around.under_plainId PySem.F.plain_extend_loop _]
    show wpAny _ A.in1 (pyNext (.ref zp) >>= _) _ _ s
    refine wpAny_bind (nextM_item D Z PI I1 I2 S1 S2 (Array.getElem?_eq_getElem hlt) (Array.getElem?_eq_getElem hlt2) fun g Z' J1 J2 T e => ?_)
    have hL' := e L _ n1 n3 n4 n5 hL
    have hza : acc.size = ps.length := by rw [← Array.length_toList, hacc, List.length_map]
    show wpAny _ A.in1 (updateSeq L (·.push (.ref s.heap.objs.size)) >>= _) _ _ _
    refine wpAny_bind ?_
    have oth : ∀ b o, b ≠ L → g.get? b = some o → (g.update L (Obj.mapSeq (·.push (Value.ref s.heap.objs.size)))).get? b = some o := fun b o n e => (Heap.get?_update_other _ _ (Ne.symm n)).trans e
    have gz : ∀ b, b < s.heap.objs.size → b ≠ s.heap.objs.size := fun b h => Nat.ne_of_lt h
    refine wpAny_updateSeq (s := { s with heap := g }) hL' rfl (wpAny_pure ⟨plainId_quiet PySem.F.plain_extend_loop _, ?_⟩) (by rw [hza]; omega) (by show (acc.push _).size ≤ sizeLine + 1; rw [Array.size_push, hza]; omega)
    have T2 := oth _ _ (Ne.symm (gz L (by lia))) T
    refine ih _ (acc.push (.ref s.heap.objs.size)) _ (ps ++ [s.heap.objs.size]) (by simp; omega) (by simp; omega) ?_ ?_ (oth _ _ (Ne.symm n2) (e _ _ D.TIz D.TITO D.TIi1 D.TIi2 PI)) ?_ ?_ ?_ ?_ (Heap.get?_update_self _ hL' rfl) (by rw [Array.toList_push, hacc, List.map_append]; rfl) ?_ fun h' acc' c' ps' m a1 a2 a3 a4 => ?_
    · have := Heap.lt_size T2
      show m0 ≤ (g.update L _).objs.size
      lia
    · rcases Z' with ⟨z1, u, v, z2⟩ | ⟨a, gg, oa, z1, z2, z3⟩
      · exact .inl ⟨oth _ _ (Ne.symm n1) z1, u, v, oth _ _ (Ne.symm n3) z2⟩
      · refine .inr ?_
        by_cases c1 : a = L
        · exact ⟨a, gg, _, oth _ _ (Ne.symm n1) z1, by rw [c1]; exact Heap.get?_update_self _ hL' rfl, z3⟩
        · exact ⟨a, gg, oa, oth _ _ (Ne.symm n1) z1, oth _ _ c1 z2, z3⟩
    · rw [List.length_append]; exact J1.at fun o x => oth _ o (Ne.symm n4) x
    · rw [List.length_append]; exact (let ⟨o, x, r⟩ := J2; ⟨o, oth _ o (Ne.symm n5) x, r⟩)
    · exact S1.at fun o x => oth _ o (Ne.symm n6) (e _ o D.l1z D.l1TO D.l1i1 D.l1i2 x)
    · exact (let ⟨o, x, r⟩ := S2; ⟨o, oth _ o (Ne.symm n7) (e _ o D.l2z D.l2TO D.l2i1 D.l2i2 x), r⟩)
    · refine PsOk.snoc (hP.keep fun b o hb x => oth b o (by lia) (e b o (by lia) (by lia) (by lia) (by lia) x)) hm (Array.getElem?_eq_getElem hlt) (Array.getElem?_eq_getElem hlt2) T2 fun hmem => ?_
      obtain ⟨j, hj⟩ := List.getElem?_of_mem hmem
      obtain ⟨_, _, _, _, _, d⟩ := hP.at_ j _ hj
      exact absurd (Heap.lt_size d) (Nat.lt_irrefl _)
    · refine hR h' acc' c' ps' (fun b o hb x => m b o hb ?_) a1 a2 a3 a4
      simp only [List.mem_cons, List.not_mem_nil, or_false, not_or] at hb
      exact oth b o hb.1 (e b o hb.2.1 hb.2.2.1 hb.2.2.2.1 hb.2.2.2.2 x)
theorem nolen_zip : typeLookup (.type "zip") "__len__" = pure none := by rw [typeLookup_type, builtinLookup_eq_fast]; kernel_rfl
theorem nohint_zip : typeLookup (.type "zip") "__length_hint__" = pure none := by rw [typeLookup_type, builtinLookup_eq_fast]; kernel_rfl
theorem list_init_zip {R : Result → Shared → Prop} {zp tI tO ia ib la lb L : Addr} {xs ys : Array Value} (hh : A.handled = none) (D : ZipApart zp tI tO ia ib la lb) (lt : ∀ b ∈ [zp, tI, tO, ia, ib, la, lb, L], b < s.heap.objs.size) (Ln : L ∉ [zp, tI, tO, ia, ib, la, lb]) (hxy : xs.size ≤ ys.size) (hsz : xs.size ≤ sizeLine)
    (Z : IsZip s.heap zp tI tO .none) (PI : IsPair s.heap tI (.ref ia) (.ref ib)) (PO : IsPair s.heap tO .none .none) (I1 : s.heap.IsListIter ia la 0) (I2 : s.heap.IsListIter ib lb 0) (S1 : s.heap.IsList la xs) (S2 : s.heap.IsList lb ys)
    (hS : s.heap.get? L = some { cls := .type "list", data := .seq #[] })
    (hR : ∀ h' acc' c' ps', (∀ b o, b ∉ [L, zp, tO, ia, ib] → s.heap.get? b = some o → h'.get? b = some o) → h'.get? L = some { cls := .type "list", dict := none, data := .seq acc' c', slots := #[] } → acc'.toList = ps'.map Value.ref → ps'.length = xs.size → PsOk h' s.heap.objs.size xs ys ps' → R (.ok (.ret .none)) { s with heap := h' }) :
    wpAny (model prog w) A.in1 (Builtin.«list.__init__» { pos := [Value.ref L, Value.ref zp] })
      (fun fin s' => match fin with
        | Fin.done f => R (Except.ok f) s'
        | Fin.again c' => c'.quiet = true ∧ codeAny (model prog w) A c' R s')
      (fun e s' => R (Except.error e) s') s := by
  have Ln' := Ln
  simp only [List.mem_cons, List.not_mem_nil, or_false, not_or] at Ln'
  obtain ⟨n1, n2, n3, n4, n5, n6, n7⟩ := Ln'
  unfold Builtin.«list.__init__»
  refine wpAny_bind (?_ : wpAny _ _ (Builtin.List.listItems _) _ _ _)
  unfold Builtin.List.listItems
  refine wpAny_bind (wpAny_seqItems hS rfl (wpAny_pure ?_))
  refine wpAny_bind (wpAny_updateSeq hS rfl ?_ (by rw [sizeLine_eq]; decide) (by rw [sizeLine_eq]; decide))
  have hS2 := Heap.get?_update_self (Obj.mapSeq fun x => #[]) hS rfl
  have oth : ∀ (b : Addr) (o : Obj), b ≠ L → s.heap.get? b = some o → (s.heap.update L (Obj.mapSeq fun x => #[])).get? b = some o := fun b o hb e => (Heap.get?_update_other s.heap (Obj.mapSeq fun x => #[]) (Ne.symm hb)).trans e
  have sz : (s.heap.update L (Obj.mapSeq fun x => #[])).objs.size = s.heap.objs.size := Heap.size_update ..
  refine wpAny_bind (wpAny_letGo ?_)
  show wpAny _ A.in1 (Builtin.List.listExtendWith (.ref L) (.ref zp) .none) _ _ _
  generalize s.heap.update L (Obj.mapSeq fun x => #[]) = h1 at hS2 oth sz ⊢
  have ty : Shared.TypeIs { s with heap := h1 } (.ref zp) "zip" := ⟨_, oth _ _ (Ne.symm n1) Z, rfl⟩
  have Z1 : IsZip h1 zp tI tO .none := oth _ _ (Ne.symm n1) Z
  unfold Builtin.List.listExtendWith
  refine wpAny_bind (wpAny_typeOf ty ?_)
  have e1 : Builtin.List.listSameRef (Value.ref L) (Value.ref zp) = false := by unfold Builtin.List.listSameRef; simp [n1]
  have e2 : (Value.type "zip" == Value.type "list") = false := by decide
  have e3 : (Value.type "zip" == Value.type "tuple") = false := by decide
  simp only [e1, e2, e3, Bool.or_false, Bool.false_eq_true, if_false]
  refine wpAny_bind (wpAny_pyIter_zip (s := { s with heap := h1 }) Z1 ?_)
  refine wpAny_bind (wpAny_holding ?_)
  unfold Builtin.List.listLengthHint
  refine wpAny_bind (wpAny_specialOf ty nolen_zip ?_)
  show wpAny _ A.in1 (specialOf (Value.ref zp) (Str.ofString "__length_hint__") >>= _) _ _ _
  refine wpAny_bind (wpAny_specialOf ty nohint_zip ?_)
  refine wpAny_pure ?_
  simp only [Bool.true_or, if_true]
  refine wpAny_bind (wpAny_rule (wpAny_bind ?_))
  unfold Builtin.List.listTouch
  refine wpAny_bind (wpAny_updateSeq hS2 rfl ?_ (by rw [sizeLine_eq]; decide) (by rw [sizeLine_eq]; decide))
  have hS3 := Heap.get?_update_self (Obj.mapSeq fun x => x.push Value.none) hS2 rfl
  refine wpAny_updateSeq hS3 rfl ?_ (by rw [sizeLine_eq]; decide) (by rw [sizeLine_eq]; decide)
  have hS4 := Heap.get?_update_self (Obj.mapSeq fun x => x.pop) hS3 rfl
  have oth2 : ∀ (b : Addr) (o : Obj), b ≠ L → s.heap.get? b = some o → ((h1.update L (Obj.mapSeq fun x => x.push Value.none)).update L (Obj.mapSeq fun x => x.pop)).get? b = some o := fun b o hb e => (Heap.get?_update_other _ _ (Ne.symm hb)).trans ((Heap.get?_update_other _ _ (Ne.symm hb)).trans (oth b o hb e))
  refine wpAny_pure ⟨plainId_quiet F.plain_extend_loop _, ?_⟩
  refine ext_zip hh D lt Ln hxy hsz .none xs.size _ #[] _ [] rfl (Nat.zero_le _) ?_ (.inl ⟨oth2 _ _ (Ne.symm n1) Z, _, _, oth2 _ _ (Ne.symm n3) PO⟩) (oth2 _ _ (Ne.symm n2) PI) (I1.at fun o x => oth2 _ o (Ne.symm n4) x) (let ⟨o, x, r⟩ := I2; ⟨o, oth2 _ o (Ne.symm n5) x, r⟩) (S1.at fun o x => oth2 _ o (Ne.symm n6) x) (let ⟨o, x, r⟩ := S2; ⟨o, oth2 _ o (Ne.symm n7) x, r⟩) hS4 rfl ⟨List.nodup_nil, fun j p e => by simp at e⟩ fun h' acc' c' ps' k1 k2 k3 k4 k5 => ?_
  · show s.heap.objs.size ≤ (Heap.update _ _ _).objs.size
    rw [Heap.size_update, Heap.size_update, sz]; exact Nat.le_refl _
  · exact hR h' acc' c' ps' (fun b o hb e => k1 b o hb (oth2 b o (fun z => hb (by simp [z])) e)) k2 k3 k4 k5
theorem call_list_zip {Q : L2.VSP} {zp tI tO ia ib la lb : Addr} {xs ys : Array Value} (hh : A.handled = none) (D : ZipApart zp tI tO ia ib la lb) (lt : ∀ b ∈ [zp, tI, tO, ia, ib, la, lb], b < s.heap.objs.size) (hxy : xs.size ≤ ys.size) (hsz : xs.size ≤ sizeLine)
    (Z : IsZip s.heap zp tI tO .none) (PI : IsPair s.heap tI (.ref ia) (.ref ib)) (PO : IsPair s.heap tO .none .none) (I1 : s.heap.IsListIter ia la 0) (I2 : s.heap.IsListIter ib lb 0) (S1 : s.heap.IsList la xs) (S2 : s.heap.IsList lb ys)
    (hQ : ∀ h' acc' c' ps', (∀ b o, b ∉ [zp, tO, ia, ib] → s.heap.get? b = some o → h'.get? b = some o) → h'.get? s.heap.objs.size = some { cls := .type "list", dict := none, data := .seq acc' c', slots := #[] } → acc'.toList = ps'.map Value.ref → ps'.length = xs.size → PsOk h' (s.heap.objs.size + 1) xs ys ps' → Q (.ref s.heap.objs.size) { s with heap := h' }) :
    wpAny (model prog w) A (call (Value.type "list") [Value.ref zp]) Q E s := by
  refine callType_codes F.called_list (F.typeCall_list_1 (Value.ref zp)) F.entry_list_init (code_list_new (Value.ref zp) (Q₁ := fun o s' => o = Value.ref s.heap.objs.size ∧ s' = { heap := s.heap.push { cls := Value.type "list", data := Data.seq #[] }, gens := s.gens, drawn := s.drawn, toks := s.toks, os := s.os }) ⟨rfl, rfl⟩) fun obj s1 h1 => ?_
  obtain ⟨rfl, rfl⟩ := h1
  have hS := Heap.get?_push_size s.heap (o := { cls := Value.type "list", data := Data.seq #[] }) rfl
  have pu : ∀ b o, s.heap.get? b = some o → (s.heap.push { cls := Value.type "list", data := Data.seq #[] }).get? b = some o := fun b o e => Heap.get?_push_of_some _ e
  have sz : (s.heap.push { cls := Value.type "list", data := Data.seq #[] }).objs.size = s.heap.objs.size + 1 := Heap.size_push ..
  refine ⟨⟨_, hS, rfl⟩, F.args_list_init_2 _ _, ?_⟩
  refine list_init_zip (A := A.in1) (s := { heap := s.heap.push { cls := Value.type "list", data := Data.seq #[] }, gens := s.gens, drawn := s.drawn, toks := s.toks, os := s.os }) (L := s.heap.objs.size) (R := wants (fun r s₂ => r = Value.none ∧ Q (Value.ref s.heap.objs.size) s₂) E) (by simpa using hh) D (fun b hb => ?_) (fun hb => absurd (lt _ hb) (Nat.lt_irrefl _)) hxy hsz (pu _ _ Z) (pu _ _ PI) (pu _ _ PO) (I1.at fun o e => pu _ o e) (let ⟨o, x, r⟩ := I2; ⟨o, pu _ o x, r⟩) (S1.at fun o e => pu _ o e) (let ⟨o, x, r⟩ := S2; ⟨o, pu _ o x, r⟩) hS fun h' acc' c' ps' k1 k2 k3 k4 k5 => ?_
  · show b < (s.heap.push _).objs.size
    rw [sz]
    have hb' : b ∈ [zp, tI, tO, ia, ib, la, lb] ∨ b = s.heap.objs.size := by
      simp only [List.mem_cons, List.not_mem_nil, or_false] at hb ⊢
      rcases hb with z | z | z | z | z | z | z | z <;> simp [z]
    rcases hb' with z | z
    · exact Nat.lt_succ_of_lt (lt b z)
    · rw [z]; exact Nat.lt_succ_self _
  · have k5' : PsOk h' (s.heap.push { cls := Value.type "list", data := Data.seq #[] }).objs.size xs ys ps' := k5
    rw [sz] at k5'
    refine ⟨rfl, hQ h' acc' c' ps' (fun b o hb e => k1 b o (fun z => ?_) (pu b o e)) k2 k3 k4 k5'⟩
    rcases List.mem_cons.mp z with z | z
    · subst z; exact absurd (Heap.lt_size e) (Nat.lt_irrefl _)
    · exact hb z
end
noncomputable def updP : Hp → List Addr → List (V × V) → Hp
  | H, p :: ps, q :: qs => updP (upd H p (.tup [q.1, q.2])) ps qs
  | H, _, _ => H
theorem updP_ne : ∀ (ps : List Addr) (qs : List (V × V)) (H : Hp) (b : Addr), b ∉ ps → updP H ps qs b = H b
  | [], [], _, _, _ => rfl
  | [], _ :: _, _, _, _ => rfl
  | _ :: _, [], _, _, _ => rfl
  | p :: ps, q :: qs, H, b, h => by
    rw [updP, updP_ne ps qs _ b (fun z => h (List.mem_cons_of_mem _ z)), upd_ne (fun z => h (by simp [z]))]
noncomputable def rLzip (K : PySem.W.Frag) : List V → Hp → VK → Prop := fun vs H Q => ∃ a b xs ys, vs = [.ref a, .ref b] ∧ SqL K H a xs ∧ SqL K H b ys ∧ xs.length ≤ ys.length ∧ xs.length ≤ 100000 ∧
  ∀ (ps : List Addr) (l : Addr), ps.length = xs.length → ps.Nodup → l ∉ ps → (∀ p ∈ ps, H p = none) → H l = none → Q (.ref l) (upd (updP H ps (xs.zip ys)) l (.lst (ps.map V.ref)))
section
variable {X : Cx} {pins : List (Addr × Obj)} {σ : St}
theorem Inv.pairs {s : Shared} {m0 : Nat} : ∀ (ps : List Addr) (xs ys : List V) (its jts : List Value) (H : Hp), Inv X pins σ H s → (∀ p ∈ ps, FpOk X pins H p) → ps.Nodup → Vals xs its → Vals ys jts → ps.length = xs.length → xs.length ≤ ys.length →
    (∀ (j : Nat) (p : Addr), ps[j]? = some p → ∃ x y, its[j]? = some x ∧ jts[j]? = some y ∧ IsPair s.heap p x y) → Inv X pins σ (updP H ps (xs.zip ys)) s ∧ ∀ d, d ∉ ps → FpOk X pins H d → FpOk X pins (updP H ps (xs.zip ys)) d
  | [], [], _, _, _, H, I, _, _, _, _, _, _, _ => ⟨by simpa [updP] using I, fun d ψ f => by simpa [updP] using f⟩
  | [], _ :: _, _, _, _, H, I, _, _, _, _, h, _, _ => by simp at h
  | _ :: _, [], _, _, _, H, I, _, _, _, _, h, _, _ => by simp at h
  | p :: ps, x :: xs, [], _, _, H, I, _, _, _, _, _, h, _ => by simp at h
  | p :: ps, x :: xs, y :: ys, its, jts, H, I, hf, nd, r1, r2, hl, hl2, hp => by
    cases r1 with
    | cons a1 r1 =>
      cases r2 with
      | cons a2 r2 =>
        rename_i u its v jts
        have nd' := List.nodup_cons.mp nd
        obtain ⟨u', v', e1, e2, pr⟩ := hp 0 p rfl
        simp at e1 e2
        subst e1 e2
        have I2 : Inv X pins σ (upd H p (.tup [x, y])) s := I.adopt (hf p (by simp)) ⟨by show 2 ≤ sizeLine; rw [sizeLine_eq]; decide, [u, v], .cons a1 (.cons a2 .nil), _, pr, rfl, _, rfl⟩
        have up : ∀ d, d ≠ p → FpOk X pins H d → FpOk X pins (upd H p (.tup [x, y])) d := fun d hd f => ⟨by rw [upd_ne hd]; exact f.1, f.2⟩
        obtain ⟨J, K⟩ := Inv.pairs (m0 := m0) ps xs ys its jts _ I2 (fun q hq => up q (fun z => nd'.1 (z ▸ hq)) (hf q (by simp [hq]))) nd'.2 r1 r2 (by simpa using hl) (by simpa using hl2) (fun j q e => by
          obtain ⟨x', y', a, b, c⟩ := hp (j + 1) q (by simpa using e)
          exact ⟨x', y', by simpa using a, by simpa using b, c⟩)
        exact ⟨J, fun d hd f => K d (fun z => hd (List.mem_cons_of_mem _ z)) (up d (fun z => hd (by simp [z])) f)⟩
end
theorem vals_rfs : ∀ ps : List Addr, Vals (ps.map V.ref) (ps.map Value.ref)
  | [] => .nil
  | _ :: ps => .cons rfl (vals_rfs ps)
section
variable {X : Cx} {a b : Expr} {t : TA} {pos pos2 p p2 : Pos}
theorem pe_lzip (hc : X.calm = true) (hg : Gl X "list") (hm : X.mg "list" = none) (hg2 : Gl X "zip") (hm2 : X.mg "zip" = none) (ha : PA X [a, b] t)
    (he : starEach [a, b] X.env = [(false, eval a X.env), (false, eval b X.env)]) (he2 : starEach [b] X.env = [(false, eval b X.env)])
    (he' : starEach [.Call (.Name "zip" p2) [a, b] [] pos2] X.env = (false, eval (.Call (.Name "zip" p2) [a, b] [] pos2) X.env) :: starEach [] X.env) (hpl' : (backTo pos (starEach [] X.env)).any (·.1) = false) :
    PE X (.Call (.Name "list" p) [.Call (.Name "zip" p2) [a, b] [] pos2] [] pos) (tCB (rLzip X.K) t) := by
  intro pins s σ H Q I h
  refine wpAny_Call_Name_kw (ld_blt I hg hm boot_list ?_ (by decide) (by decide))
  refine PyProof.Rows.callWith_type1 ?_ he' hpl'
  rw [he']
  show wpAny _ _ (spliced ((false, eval (.Call (.Name "zip" p2) [a, b] [] pos2) X.env) :: backTo pos (starEach [] X.env))) _ _ s
  refine Calls.spliced_cons (wpAny_Call_Name_kw (ld_blt I hg2 hm2 boot_zip ?_ (by decide) (by decide)))
  refine PyProof.Rows.callWith_type1 (thn (ha pos2 pins s σ H _ I h) fun us s1 ⟨vs, H1, I1, r1, q1⟩ => ?_) (by rw [he, he2]) (by rw [he2]; rfl)
  obtain ⟨la, lb, xs, ys, rfl, hq, hr, hxy, hsz, k⟩ := q1
  cases r1 with
  | cons r rr =>
    cases rr with
    | cons r' rr =>
      cases rr
      cases r
      cases r'
      have hh : X.A.handled = none := I1.ok.hd hc
      obtain ⟨its, rv, pl, hz⟩ := I1.list hq
      obtain ⟨jts, rw', pt, hz2⟩ := I1.list hr
      have l1 := rv.length
      have l2 := rw'.length
      have lt1 : la < s1.heap.objs.size := by obtain ⟨o, e, _⟩ := pl.isList; exact Heap.lt_size e
      have lt2 : lb < s1.heap.objs.size := by obtain ⟨o, e, _⟩ := pt.isList; exact Heap.lt_size e
      refine callM pl.isList pt.isList fun g Z P1 P2 J1 J2 kp => ?_
      have ltz : s1.heap.objs.size + 4 < g.objs.size := Heap.lt_size Z
      refine Calls.spliced_nil ?_
      refine call_list_zip (s := { s1 with heap := g }) hh (la := la) (lb := lb) (xs := its.toArray) (ys := jts.toArray) ?_ (fun c hb => ?_) (by simp; omega) (by simp; rw [sizeLine_eq]; omega) Z P1 P2 J1 J2 (pl.isList.at fun o e => kp _ o e) (pt.isList.at fun o e => kp _ o e) fun h' acc c ps k1 k2 k3 k4 k5 => ?_
      · constructor <;> first | lia | (simp only [Addr] at *; lia)
      · show c < g.objs.size
        have le : c < s1.heap.objs.size ∨ c ≤ s1.heap.objs.size + 4 := by
          simp only [List.mem_cons, List.not_mem_nil, or_false] at hb
          rcases hb with z | z | z | z | z | z | z <;> subst z <;> first | exact .inl lt1 | exact .inl lt2 | exact .inr (by first | exact Nat.le_refl _ | exact Nat.le_add_right _ _ | exact Nat.add_le_add_left (by decide) _)
        rcases le with z | z
        · exact Nat.lt_trans z (Nat.lt_of_le_of_lt (Nat.le_add_right _ 4) ltz)
        · exact Nat.lt_of_le_of_lt z ltz
      · have kept : ∀ b o, s1.heap.get? b = some o → h'.get? b = some o := fun b o e => k1 b o (fun z => by
          have hb := Heap.lt_size e
          simp only [List.mem_cons, List.not_mem_nil, or_false] at z
          rcases z with z | z | z | z <;> rw [z] at hb <;> first | exact absurd hb (Nat.lt_irrefl _) | exact absurd hb (Nat.not_lt.mpr (Nat.le_add_right _ _))) (kp b o e)
        have I2 : Inv X pins σ H1 { s1 with heap := h' } := I1.kept kept
        have big : ∀ q, g.objs.size ≤ q → s1.heap.objs.size ≤ q := fun q hq => Nat.le_trans (Nat.le_of_lt (Nat.lt_of_le_of_lt (Nat.le_add_right _ 4) ltz)) hq
        have inP : ∀ q ∈ ps, g.objs.size + 1 ≤ q := fun q hq => by
          obtain ⟨j, hj⟩ := List.getElem?_of_mem hq
          exact (k5.at_ j q hj).1
        have fq : ∀ q, g.objs.size ≤ q → FpOk X pins H1 q := fun q hq => I1.fpOk (big q hq) (I1.hok.fresh (big q hq))
        have hL : g.objs.size ∉ ps := fun z => absurd (inP _ z) (Nat.not_succ_le_self _)
        have lp : ps.length = xs.length := by rw [k4]; simp; omega
        obtain ⟨J, K⟩ := Inv.pairs (m0 := 0) ps xs ys its jts H1 I2 (fun q hq => fq q (Nat.le_of_succ_le (inP q hq))) k5.nd rv rw' lp hxy fun j q e => by
          obtain ⟨_, x, y, a1, a2, a3⟩ := k5.at_ j q e
          exact ⟨x, y, by simpa using a1, by simpa using a2, a3⟩
        have J2 := J.adopt (o := .lst (ps.map V.ref)) (K g.objs.size hL (fq _ (Nat.le_refl _))) (show ObjOk X.prog X.w _ h' _ (.lst _) from ⟨Nat.le_trans (by rw [List.length_map, lp]; omega) line_big, ps.map Value.ref, c, vals_rfs ps, by rw [k2, ← k3]⟩)
        exact ⟨.ref g.objs.size, _, J2, rfl, k ps _ lp k5.nd hL (fun q hq => (fq q (Nat.le_of_succ_le (inP q hq))).1) (fq _ (Nat.le_refl _)).1⟩
end
noncomputable def uLzip : List U → Option U
  | [.lst us, .lst ws] => if us.length ≤ ws.length ∧ us.length ≤ 100000 then some (.lst (zipU us ws)) else none
  | _ => none
theorem uLzip_s {us ws : List U} (h1 : us.length ≤ ws.length) (h2 : us.length ≤ 100000) : uLzip [.lst us, .lst ws] = some (.lst (zipU us ws)) := if_pos ⟨h1, h2⟩
section
variable {W : Wd} {ω : Om}
theorem zip_lay : ∀ (us ws : List U) (xs ys : List V) (ps : List Addr) (Hc H : Hp), Same Hc H → PlOk W ω Hc H → RUs W Hc us xs → RUs W Hc ws ys → us.length ≤ ws.length → ps.length = xs.length → ps.Nodup → (∀ p ∈ ps, H p = none) →
    ∃ Hc', Ext W Hc H Hc' (updP H ps (xs.zip ys)) ∧ PlOk W ω Hc' (updP H ps (xs.zip ys)) ∧ RUs W Hc' (zipU us ws) (ps.map V.ref)
  | [], ws, xs, ys, ps, Hc, H, s, P, r1, r2, _, hl, _, _ => by
    have := r1.len
    rw [RUs] at r1
    subst r1
    have : ps = [] := by simpa using hl
    subst this
    exact ⟨Hc, by simpa [updP] using Ext.refl s, by simpa [updP] using P, by simpa [zipU] using RUs.nil⟩
  | u :: us, [], xs, ys, ps, Hc, H, s, P, r1, r2, h, _, _, _ => by simp at h
  | u :: us, w :: ws, xs, ys, ps, Hc, H, s, P, r1, r2, h, hl, nd, hn => by
    rw [RUs] at r1
    obtain ⟨x, xs', rfl, q1, r1⟩ := r1
    rw [RUs] at r2
    obtain ⟨y, ys', rfl, q2, r2⟩ := r2
    cases ps with
    | nil => simp at hl
    | cons p ps =>
      have nd' := List.nodup_cons.mp nd
      have np : H p = none := hn p (by simp)
      have L := laid_e (W := W) (o := .tup [x, y]) s P np
      have sm : Same Hc (upd Hc p (.tup [x, y])) := L.1.sc
      obtain ⟨Hc', e, P', R⟩ := zip_lay us ws xs' ys' ps _ _ L.1.sub L.2 (r1.mono sm) (r2.mono sm) (by simpa using h) (by simpa using hl) nd'.2 (fun q hq => by rw [upd_ne (show q ≠ p from fun z => nd'.1 (z ▸ hq))]; exact hn q (by simp [hq]))
      refine ⟨Hc', by simpa [updP] using L.1.trans e, by simpa [updP] using P', ?_⟩
      show RUs W Hc' (U.tup [u, w] :: zipU us ws) (V.ref p :: ps.map V.ref)
      refine .cons ?_ R
      rw [RU]
      exact ⟨p, [x, y], rfl, e.sc _ _ upd_same, .cons ((q1.mono sm).mono e.sc) (.one ((q2.mono sm).mono e.sc))⟩
theorem cf_lzip : CallF W [true, true] (rLzip W.K) uLzip := by
  intro Hc H ω us vs s p rs u e Q k
  unfold uLzip at e; split at e
  · rename_i us ws
    by_cases c : us.length ≤ ws.length ∧ us.length ≤ 100000
    · rw [if_pos c] at e; cases e
      obtain ⟨v1, v2, rfl, b1, b2⟩ := rs.two
      obtain ⟨a, xs, rfl, h1, r1⟩ := b1.lst s
      obtain ⟨b, ys, rfl, h2, r2⟩ := b2.lst s
      have l1 := r1.len
      have l2 := r2.len
      refine ⟨a, b, xs, ys, rfl, .of h1, .of h2, by lia, by lia, fun ps l hl nd hlp hn hln => ?_⟩
      obtain ⟨Hc', e', P', R⟩ := zip_lay us ws xs ys ps Hc H s p r1 r2 c.1 hl nd hn
      have ln : updP H ps (xs.zip ys) l = none := by rw [updP_ne _ _ _ _ hlp]; exact hln
      have F := laid_f (W := W) (o := .lst (ps.map V.ref)) e'.sub P' ln
      exact k _ _ _ _ _ (e'.trans F.1) F.2 rfl (e'.sub.free ln) hln upd_same R
    · rw [if_neg c] at e; cases e
  · cases e
end
section
variable {ι : Type} {X : L2.FC ι} {W : Wd} {m : Md} {E : XK} {a b : Expr} {fr : Af} {pos pos2 p p2 : Pos}
theorem pe_lzipK {Y : Cx} {K : PySem.W.Frag} {e : Expr} {t : TA} (h : Y.K = K) (q : PE Y e (tCB (rLzip Y.K) t)) : PE Y e (tCB (rLzip K) t) := h ▸ q
theorem qf_lzip (cx : Ctx X W E) (B : Bl W.mg) (ha : QA X W m E [true, true] [a, b] fr) (hg : ∀ y, Gl (X y) "list" := by intro ψ; rfl) (hg2 : ∀ y, Gl (X y) "zip" := by intro ψ; rfl) (hs : ∀ y, starEach [a, b] (X y).env = [(false, eval a (X y).env), (false, eval b (X y).env)] := by intro ψ; rfl) (hs2 : ∀ y, starEach [b] (X y).env = [(false, eval b (X y).env)] := by intro ψ; rfl)
    (hs' : ∀ y, starEach [.Call (.Name "zip" p2) [a, b] [] pos2] (X y).env = (false, eval (.Call (.Name "zip" p2) [a, b] [] pos2) (X y).env) :: starEach [] (X y).env := by intro ψ; rfl) (hp' : ∀ y, (backTo pos (starEach [] (X y).env)).any (·.1) = false := by intro ψ; rfl) :
    QF X W m E (.Call (.Name "list" p) [.Call (.Name "zip" p2) [a, b] [] pos2] [] pos) (eB uLzip fr) :=
  let ⟨_, pa, da⟩ := ha; ⟨_, fun y => pe_lzipK (cx.hK y) (pe_lzip (cx.calm y) (hg y) ((congrFun (cx.hm y) _).trans B.list) (hg2 y) ((congrFun (cx.hm y) _).trans B.zip) (pa y) (hs y) (hs2 y) (hs' y) (hp' y)), df_cb cf_lzip da⟩
end
noncomputable def dropE : List Nat → En → En
  | [], ρ => ρ
  | i :: is, ρ => dropE is (ρ.set i none)
theorem dropE_len : ∀ (is : List Nat) (ρ : En), (dropE is ρ).length = ρ.length
  | [], ρ => rfl
  | i :: is, ρ => by rw [dropE, dropE_len is]; simp
theorem dropE_at : ∀ {is : List Nat} {ρ : En} {j : Nat} {u : U}, (dropE is ρ)[j]? = some (some u) → j ∉ is ∧ ρ[j]? = some (some u)
  | [], ρ, j, u, h => ⟨by simp, h⟩
  | i :: is, ρ, j, u, h => by
    obtain ⟨h1, h2⟩ := dropE_at (is := is) h
    rw [List.getElem?_set] at h2
    by_cases e : i = j
    · rw [if_pos e] at h2; split at h2 <;> cases h2
    · rw [if_neg e] at h2
      exact ⟨fun z => (List.mem_cons.mp z).elim (fun y => e y.symm) h1, h2⟩
noncomputable def dropFl (is : List Nat) : Fl → Fl
  | .nx ρ ω => .nx (dropE is ρ) ω
  | .bk ρ ω => .bk (dropE is ρ) ω
  | .ct ρ ω => .ct (dropE is ρ) ω
  | o => o
noncomputable def sFz (is : List Nat) (g : Sf) : Sf := fun ρ ω => dropFl is (g ρ ω)
section
variable {W : Wd} {m : Md} {E : XK} {t : TS} {g : Sf}
theorem Sr.unfz {ρ : En} {ω : Om} {σ : St} {H0 Hc H : Hp} {ow : Nat → Addr} {M' is : List Nat} (h1 : ∀ j ∈ m.M, j ∈ is ∨ j ∈ M') (h2 : ∀ j ∈ M', j ∈ m.M) (S : Sr W ⟨m.B, M'⟩ ρ ω σ H0 Hc H ow) : Sr W m (dropE is ρ) ω σ H0 Hc H ow := by
  refine ⟨S.sub, S.s0, S.p0, by rw [dropE_len]; exact S.len, S.pl, fun j u n1 n2 h => ?_, fun j u n1 n2 h => ?_, fun j u n h => ?_, fun i j u w ni nj ne hi hj => ?_⟩
  · obtain ⟨_, h⟩ := dropE_at h
    exact S.cl j u n1 (fun z => n2 (h2 j z)) h
  · obtain ⟨_, h⟩ := dropE_at h
    exact S.bo j u n1 (fun z => n2 (h2 j z)) h
  · obtain ⟨k, h⟩ := dropE_at h
    exact S.mu j u ((h1 j n).resolve_left k) h
  · obtain ⟨k1, hi⟩ := dropE_at hi
    obtain ⟨k2, hj⟩ := dropE_at hj
    exact S.di i j u w ((h1 i ni).resolve_left k1) ((h1 j nj).resolve_left k2) ne hi hj
theorem ds_fz (is M' : List Nat) (h1 : ∀ j ∈ m.M, j ∈ is ∨ j ∈ M') (h2 : ∀ j ∈ M', j ∈ m.M) (hB : ∀ i ∈ m.M, i ∉ m.B) (h : DS W ⟨m.B, M'⟩ E t g) : DS W m E t (sFz is g) := by
  intro H0 Hc0 ρ ω σ Hc H ow S x D k
  obtain ⟨Hf, Sf', xf⟩ := S.freeze M' h2 hB x
  refine h H0 Hc0 ρ ω σ Hf H ow Sf' xf D ?_
  unfold sFz at k
  revert k
  cases g ρ ω with
  | nx ρ' ω' => exact fun k σ' Hc' H' ow' S' x' => k σ' Hc' H' ow' (S'.unfz h1 h2) x'
  | bk ρ' ω' => exact fun k σ' Hc' H' ow' S' x' => k σ' Hc' H' ow' (S'.unfz h1 h2) x'
  | ct ρ' ω' => exact fun k σ' Hc' H' ow' S' x' => k σ' Hc' H' ow' (S'.unfz h1 h2) x'
  | rt u ω' => exact fun k => k
  | err c pl ω' => exact fun k => k
  | stk => exact fun k => k
end
section
variable {ι : Type} {X : L2.FC ι} {W : Wd} {m : Md} {E : XK} {ss : List Stmt} {g : Sf}
theorem qss_fz (is M' : List Nat) (h : QSs X W ⟨m.B, M'⟩ E ss g) (h1 : ∀ j ∈ m.M, j ∈ is ∨ j ∈ M' := by decide) (h2 : ∀ j ∈ M', j ∈ m.M := by decide) (hB : ∀ i ∈ m.M, i ∉ m.B := by decide) : QSs X W m E ss (sFz is g) := let ⟨_, p, d⟩ := h; ⟨_, p, ds_fz is M' h1 h2 hB d⟩
end
noncomputable def ofLL (F : List (List Int)) : U := .lst (F.map fun r => .lst (r.map U.int))
noncomputable def asLLs : List U → Option (List (List Int))
  | [] => some []
  | .lst xs :: us => (asInts xs).bind fun r => (asLLs us).map (r :: ·)
  | _ => none
noncomputable def asLL : U → Option (List (List Int))
  | .lst us => asLLs us
  | _ => none
theorem asLLs_of : ∀ {us : List U} {F : List (List Int)}, asLLs us = some F → us = F.map fun r => .lst (r.map U.int)
  | [], F, h => by cases h; rfl
  | u :: us, F, h => by
    cases u with
    | lst xs =>
      unfold asLLs at h
      cases q : asInts xs with
      | none => rw [q] at h; exact noS h
      | some r =>
        rw [q] at h
        cases q2 : asLLs us with
        | none => rw [q2] at h; exact noS h
        | some G => rw [q2] at h; cases h; rw [List.map_cons, ← asLLs_of q2, ← asInts_of q]
    | _ => unfold asLLs at h; cases h
theorem asLL_of {u : U} {F : List (List Int)} (h : asLL u = some F) : u = ofLL F := by
  unfold asLL at h
  split at h
  · unfold ofLL; rw [← asLLs_of h]
  · cases h
theorem asLLs_to : ∀ F : List (List Int), asLLs (F.map fun r => .lst (r.map U.int)) = some F
  | [] => rfl
  | r :: F => by rw [List.map_cons, asLLs, asInts_map, asLLs_to F]; rfl
theorem asLL_to (F : List (List Int)) : asLL (ofLL F) = some F := asLLs_to F
noncomputable def cutH (H : Hp) (l : List Addr) : Hp := fun b => if b ∈ l then none else H b
noncomputable def ovr (G H : Hp) (l : List Addr) : Hp := fun b => if b ∈ l then H b else G b
section
variable {H G : Hp} {l : List Addr} {b : Addr} {o : HO}
theorem cut_in (h : b ∈ l) : cutH H l b = none := if_pos h
theorem cut_out (h : b ∉ l) : cutH H l b = H b := if_neg h
theorem cut_le (h : cutH H l b = some o) : H b = some o := by
  by_cases z : b ∈ l
  · rw [cut_in z] at h; cases h
  · rw [cut_out z] at h; exact h
theorem cut_ne (h : cutH H l b ≠ none) : H b ≠ none := fun z => h (by unfold cutH; rw [z]; split <;> rfl)
theorem ovr_in (h : b ∈ l) : ovr G H l b = H b := if_pos h
theorem ovr_out (h : b ∉ l) : ovr G H l b = G b := if_neg h
end
section
variable {W : Wd} {B : List Nat} {ρ : En} {ω ω' : Om} {σ : St} {H0 Hc0 Hc H Hc' H' : Hp} {ow : Nat → Addr} {l : List Addr}
theorem Sr.away (S : Sr W ⟨B, []⟩ ρ ω σ H0 Hc H ow) (hl : ∀ b ∈ l, H0 b = none) (e : Ext W Hc (cutH H l) Hc' H') (p : PlOk W ω' Hc' H') : Sr W ⟨B, []⟩ ρ ω' σ H0 Hc' H' ow := by
  refine ⟨e.sub, fun b o n h => e.same b o n ?_, S.p0, S.len, p, fun i u n1 n2 h => ?_, fun i u n1 n2 h => ?_, fun i u n h => absurd n (by simp), fun i j u w n => absurd n (by simp)⟩
  · rw [cut_out (fun z => by rw [hl b z] at h; cases h)]; exact S.s0 b o n h
  · obtain ⟨v, q, r⟩ := S.cl i u n1 n2 h; exact ⟨v, q, r.mono e.sc⟩
  · obtain ⟨v, q, r⟩ := S.bo i u n1 n2 h
    refine ⟨v, q, ?_⟩
    rcases r with r | ⟨us, a, vs, z1, z2, z3, z4, z5⟩
    · exact .inl (r.mono e.sc)
    · exact .inr ⟨us, a, vs, z1, z2, z3, z4, z5.mono e.sc⟩
theorem Ext.away (x : Ext W Hc0 H0 Hc H) (hl : ∀ b ∈ l, H0 b = none) (e : Ext W Hc (cutH H l) Hc' H') : Ext W Hc0 H0 Hc' H' := by
  have no : ∀ b, H0 b ≠ none → b ∉ l := fun b h z => h (hl b z)
  refine ⟨fun b o n h => e.same b o n ?_, fun b o h => e.sc b o (x.sc b o h), e.sub, fun b h k => e.new b (x.new b h k) ?_, fun b k => e.frz b ?_⟩
  · rw [cut_out (no b (by rw [h]; simp))]; exact x.same b o n h
  · rw [cut_out (no b k)]; exact x.frz b k
  · rw [cut_out (no b k)]; exact x.frz b k
theorem Ext.wk (e : Ext W Hc H Hc' H') : Ext W Hc (cutH H l) Hc' H' := ⟨fun b o n h => e.same b o n (cut_le h), e.sc, e.sub, fun b h k => e.new b h (cut_ne k), fun b k => e.frz b (cut_ne k)⟩
theorem Ext.cutU {b : Addr} {o : HO} (s : Same Hc H) (nc : ∀ b ∈ l, Hc b = none) (hb : b ∈ l) : Ext W Hc (cutH H l) Hc (upd H b o) := by
  refine ⟨fun c u n h => ?_, fun ψ ψ h => h, fun c u h => ?_, fun ψ h ψ => h, fun c h => ?_⟩
  · rw [upd_ne (fun z => by rw [z, cut_in hb] at h; cases h)]; exact cut_le h
  · rw [upd_ne (fun z => by rw [z, nc b hb] at h; cases h)]; exact s c u h
  · by_cases z : c = b
    · rw [z, upd_same]; simp
    · rw [upd_ne z]; exact cut_ne h
end
theorem nodup_set : ∀ {as : List Addr} {k : Nat} {b : Addr}, as.Nodup → b ∉ as → (as.set k b).Nodup
  | [], _, _, _, _ => by simp
  | a :: as, 0, b, h, n => List.nodup_cons.mpr ⟨fun z => n (List.mem_cons_of_mem _ z), (List.nodup_cons.mp h).2⟩
  | a :: as, k + 1, b, h, n => by
    rw [List.set_cons_succ]
    exact List.nodup_cons.mpr ⟨fun z => (List.mem_or_eq_of_mem_set z).elim (List.nodup_cons.mp h).1 fun e => n (by rw [← e]; exact List.mem_cons_self), nodup_set (List.nodup_cons.mp h).2 fun z => n (List.mem_cons_of_mem _ z)⟩
structure NSr (W : Wd) (B : List Nat) (j : Nat) (Hc0 H0 : Hp) (ρ : En) (ω : Om) (σ : St) (Hc H : Hp) (F : List (List Int)) (a : Addr) (as : List Addr) : Prop where
  base : Sr W ⟨B, []⟩ (ρ.set j none) ω σ H0 Hc H (fun ψ => 0)
  x : Ext W Hc0 H0 Hc H
  rj : ρ[j]? = some (some (ofLL F))
  sj : σ[j]? = some (some (.ref a))
  ha : H a = some (.lst (as.map V.ref))
  la : as.length = F.length
  nd : (a :: as).Nodup
  hk : ∀ (k : Nat) (b : Addr) (r : List Int), as[k]? = some b → F[k]? = some r → H b = some (.lst (r.map V.int))
  out : ∀ b ∈ a :: as, Hc b = none ∧ H0 b = none
theorem RUs.ofLL {W : Wd} {G : Hp} : ∀ {F : List (List Int)} {as : List Addr}, as.length = F.length → (∀ (k : Nat) (b : Addr) (r : List Int), as[k]? = some b → F[k]? = some r → G b = some (.lst (r.map V.int))) → RUs W G (F.map fun r => .lst (r.map U.int)) (as.map V.ref)
  | [], [], _, _ => .nil
  | [], _ :: _, h, _ => by cases h
  | _ :: _, [], h, _ => by cases h
  | r :: F, b :: as, h, k => .cons (.lst (k 0 b r rfl rfl) .ofInts) (RUs.ofLL (by simpa using h) fun i c q h1 h2 => k (i + 1) c q (by simpa using h1) (by simpa using h2))
section
variable {W : Wd} {B : List Nat} {j : Nat} {E : XK} {ρ : En} {ω ω' : Om} {σ : St} {H0 Hc0 Hc H Hc' H' : Hp} {F F' : List (List Int)} {a : Addr} {as as' : List Addr}
theorem NSr.nl (S : NSr W B j Hc0 H0 ρ ω σ Hc H F a as) {b : Addr} (h : b ∈ a :: as) : b ∉ W.L := fun z => S.base.p0 b z (S.out b h).2
theorem NSr.lt (S : NSr W B j Hc0 H0 ρ ω σ Hc H F a as) : j < ρ.length := (List.getElem?_eq_some_iff.mp S.rj).1
theorem NSr.at (S : NSr W B j Hc0 H0 ρ ω σ Hc H F a as) {b : Addr} (h : b ∈ as) : ∃ (k : Nat) (r : List Int), as[k]? = some b ∧ F[k]? = some r ∧ H b = some (.lst (r.map V.int)) := by
  obtain ⟨k, hk, e⟩ := List.mem_iff_getElem.mp h
  have h1 : as[k]? = some b := by rw [List.getElem?_eq_getElem hk, e]
  have h2 : F[k]? = some (F[k]'(by rw [← S.la]; exact hk)) := List.getElem?_eq_getElem _
  exact ⟨k, _, h1, h2, S.hk k b _ h1 h2⟩
theorem NSr.ne (S : NSr W B j Hc0 H0 ρ ω σ Hc H F a as) {b : Addr} (h : b ∈ a :: as) : H b ≠ none := by
  rcases List.mem_cons.mp h with rfl | h
  · rw [S.ha]; simp
  · obtain ⟨k, r, _, _, q⟩ := S.at h
    rw [q]; simp
theorem NSr.up (S : NSr W B j Hc0 H0 ρ ω σ Hc H F a as) : Sr W ⟨j :: B, []⟩ ρ ω σ (ovr H0 H (a :: as)) (ovr Hc H as) H (fun ψ => 0) := by
  have sc : Same Hc (ovr Hc H as) := fun b o h => by
    rw [ovr_out (fun z => by rw [(S.out b (List.mem_cons_of_mem _ z)).1] at h; cases h)]; exact h
  refine ⟨fun b o h => ?_, fun b o n h => ?_, fun b hb => ?_, by have := S.base.len; rw [List.length_set] at this; exact this, ⟨S.base.pl.pl, fun b hb => ⟨?_, (S.base.pl.out b hb).2⟩⟩, fun i u n1 n2 h => ?_, fun i u n1 n2 h => ?_, fun i u n h => absurd n (by simp), fun i j u w n => absurd n (by simp)⟩
  · by_cases z : b ∈ as
    · rw [ovr_in z] at h; exact h
    · rw [ovr_out z] at h; exact S.base.sub b o h
  · by_cases z : b ∈ a :: as
    · rw [ovr_in z] at h; exact h
    · rw [ovr_out z] at h; exact S.base.s0 b o n h
  · rw [ovr_out (fun z => S.nl z hb)]; exact S.base.p0 b hb
  · rw [ovr_out (fun z => S.nl (List.mem_cons_of_mem _ z) hb)]; exact (S.base.pl.out b hb).1
  · have ne : i ≠ j := fun z => n1 (by rw [z]; exact List.mem_cons_self)
    obtain ⟨v, q, r⟩ := S.base.cl i u (fun z => n1 (List.mem_cons_of_mem _ z)) n2 (by rw [at_set_ne ne]; exact h)
    exact ⟨v, q, r.mono sc⟩
  · by_cases e : i = j
    · subst e
      rw [S.rj] at h; cases h
      refine ⟨_, S.sj, .inr ⟨_, a, as.map V.ref, rfl, rfl, S.nl List.mem_cons_self, by rw [ovr_in List.mem_cons_self]; exact S.ha, RUs.ofLL S.la fun k b r h1 h2 => ?_⟩⟩
      rw [ovr_in (List.mem_of_getElem? h1)]; exact S.hk k b r h1 h2
    · obtain ⟨v, q, r⟩ := S.base.bo i u ((List.mem_cons.mp n1).resolve_left e) n2 (by rw [at_set_ne e]; exact h)
      refine ⟨v, q, ?_⟩
      rcases r with r | ⟨us, c, vs, z1, z2, z3, z4, z5⟩
      · exact .inl (r.mono sc)
      · exact .inr ⟨us, c, vs, z1, z2, z3, by rw [ovr_out (fun z => by rw [(S.out c z).2] at z4; cases z4)]; exact z4, z5.mono sc⟩
theorem NSr.step (S : NSr W B j Hc0 H0 ρ ω σ Hc H F a as) (e : Ext W Hc (cutH H (a :: as)) Hc' H') (p : PlOk W ω' Hc' H') (ha : H' a = some (.lst (as'.map V.ref))) (la : as'.length = F'.length) (nd : (a :: as').Nodup)
    (hk : ∀ (k : Nat) (b : Addr) (r : List Int), as'[k]? = some b → F'[k]? = some r → H' b = some (.lst (r.map V.int))) (out : ∀ b ∈ a :: as', Hc' b = none ∧ H0 b = none) : NSr W B j Hc0 H0 (ρ.set j (some (ofLL F'))) ω' σ Hc' H' F' a as' := by
  have hl : ∀ b ∈ a :: as, H0 b = none := fun b h => (S.out b h).2
  refine ⟨?_, S.x.away hl e, at_set S.lt, S.sj, ha, la, nd, hk, out⟩
  rw [List.set_set]; exact S.base.away hl e p
theorem NSr.cut (S : NSr W B j Hc0 H0 ρ ω σ Hc H F a as) (e : Ext W (ovr Hc H as) H Hc' H') (p : PlOk W ω' Hc' H') : NSr W B j Hc0 H0 ρ ω' σ (cutH Hc' as) H' F a as := by
  have e' : Ext W Hc H (cutH Hc' as) H' := by
    refine ⟨e.same, fun b o h => ?_, fun b o h => e.sub b o (cut_le h), fun b h k => ?_, e.frz⟩
    · have nb : b ∉ as := fun z => by rw [(S.out b (List.mem_cons_of_mem _ z)).1] at h; cases h
      rw [cut_out nb]; exact e.sc b o (by rw [ovr_out nb]; exact h)
    · by_cases z : b ∈ as
      · exact cut_in z
      · rw [cut_out z]; exact e.new b (by rw [ovr_out z]; exact h) k
  have p' : PlOk W ω' (cutH Hc' as) H' := ⟨p.pl, fun b hb => ⟨by
    by_cases z : b ∈ as
    · exact cut_in z
    · rw [cut_out z]; exact (p.out b hb).1, (p.out b hb).2⟩⟩
  have key := S.step (F' := F) (as' := as) e'.wk p' (e.same _ _ (S.nl List.mem_cons_self) S.ha) S.la S.nd (fun k b r h1 h2 => e.same _ _ (S.nl (List.mem_cons_of_mem _ (List.mem_of_getElem? h1))) (S.hk k b r h1 h2)) fun b h => ⟨?_, (S.out b h).2⟩
  · have : ρ.set j (some (ofLL F)) = ρ := by
      apply List.ext_getElem?
      intro i
      by_cases z : i = j
      · subst z; rw [at_set S.lt, S.rj]
      · rw [at_set_ne z]
    rw [this] at key; exact key
  · by_cases z : b ∈ as
    · exact cut_in z
    · rw [cut_out z]
      exact e.new b (by rw [ovr_out z]; exact (S.out b h).1) (S.ne h)
theorem NSr.ev {t : TE} {f : Ef} {n : Int} {Q : VK} (S : NSr W B j Hc0 H0 ρ ω σ Hc H F a as) (hd : DB W ⟨j :: B, []⟩ E t f) (hf : f ρ ω = .ok (.int n) ω') (k : ∀ Hc' H', NSr W B j Hc0 H0 ρ ω' σ Hc' H' F a as → Q (.int n) H') : t σ H Q := by
  refine hd _ ρ ω σ _ H _ S.up Q ?_
  rw [hf]
  intro Hc' H' e p v rv
  have := rv.int; subst this
  exact k _ H' (S.cut e p)
theorem NSr.evT {t : TT} {f : Tf} {n : Bool} {Q : Bool → Hp → Prop} (S : NSr W B j Hc0 H0 ρ ω σ Hc H F a as) (hd : DT W ⟨j :: B, []⟩ E t f) (hf : f ρ ω = .ok n ω') (k : ∀ Hc' H', NSr W B j Hc0 H0 ρ ω' σ Hc' H' F a as → Q n H') : t σ H Q := by
  refine hd _ ρ ω σ _ H _ S.up Q ?_
  rw [hf]
  intro Hc' H' e p
  exact k _ H' (S.cut e p)
theorem NSr.evF {t : TE} {f : Ef} {ns : List Int} {Q : VK} (S : NSr W B j Hc0 H0 ρ ω σ Hc H F a as) (hd : DF W ⟨j :: B, []⟩ E t f) (hf : f ρ ω = .ok (.lst (ns.map U.int)) ω') (k : ∀ b Hc' H', NSr W B j Hc0 H0 ρ ω' σ Hc' H' F a as → b ∉ a :: as → Hc' b = none → H0 b = none → H' b = some (.lst (ns.map V.int)) → Q (.ref b) H') : t σ H Q := by
  refine hd _ ρ ω σ _ H _ S.up Q ?_
  rw [hf]
  intro Hc' H' e p us b vs hu n1 n2 hb rr
  cases hu
  have := rr.ints; subst this
  have nb : b ∉ a :: as := fun z => S.ne z n2
  refine k b _ H' (S.cut e p) nb (by rw [cut_out (fun z => nb (List.mem_cons_of_mem _ z))]; exact n1) ?_ hb
  cases q : H0 b with
  | none => rfl
  | some o =>
    by_cases l : b ∈ W.L
    · exact absurd n2 (S.base.pl.out b l).2
    · rw [S.base.s0 b o l q] at n2; cases n2
theorem NSr.evP {t : TE} {f : Ef} {n m : Int} {Q : VK} (S : NSr W B j Hc0 H0 ρ ω σ Hc H F a as) (hd : DE W ⟨j :: B, []⟩ E t f) (hf : f ρ ω = .ok (.tup [.int n, .int m]) ω') (k : ∀ b Hc' H', NSr W B j Hc0 H0 ρ ω' σ Hc' H' F a as → H' b = some (.tup [.int n, .int m]) → Q (.ref b) H') : t σ H Q := by
  refine hd _ ρ ω σ _ H _ S.up Q ?_
  rw [hf]
  intro Hc' H' e p v rv
  rw [RU] at rv
  obtain ⟨b, vs, rfl, h1, r⟩ := rv
  have : vs = [.int n, .int m] := r.ints (ns := [n, m])
  subst this
  exact k b _ H' (S.cut e p) (e.sub _ _ h1)
theorem NSr.setI {i : Nat} {n : Int} (S : NSr W B j Hc0 H0 ρ ω σ Hc H F a as) (h1 : i ∉ B) (ne : i ≠ j) : NSr W B j Hc0 H0 (ρ.set i (some (.int n))) ω (σ.set i (some (.int n))) Hc H F a as := by
  refine ⟨?_, S.x, by rw [at_set_ne (fun z => ne z.symm)]; exact S.rj, by rw [at_set_ne (fun z => ne z.symm)]; exact S.sj, S.ha, S.la, S.nd, S.hk, S.out⟩
  rw [List.set_comm _ _ ne]
  exact S.base.set h1 (by simp) .int
theorem NSr.row {tk : TE} {fk : Ef} {k : Int} {k' : Nat} {Q : VK} (S : NSr W B j Hc0 H0 ρ ω σ Hc H F a as) (hd : DB W ⟨j :: B, []⟩ E tk fk) (hf : fk ρ ω = .ok (.int k) ω') (hk : ixN F.length k = some k')
    (q : ∀ b r Hc' H', NSr W B j Hc0 H0 ρ ω' σ Hc' H' F a as → as[k']? = some b → F[k']? = some r → Q (.ref b) H') : tOp (rIxA W.K) (tVar j) tk σ H Q := by
  refine ⟨_, S.sj, S.ev hd hf fun Hc' H' S' => ?_⟩
  have lt : k' < F.length := (ixN_seq hk).2.1
  have la : k' < as.length := by rw [S.la]; exact lt
  refine rx_lst (.of S'.ha) ?_ (q as[k'] F[k'] Hc' H' S' (List.getElem?_eq_getElem la) (List.getElem?_eq_getElem lt))
  unfold atI
  rw [List.length_map, S.la, hk]
  simp [la]
theorem NSr.put {k' : Nat} {b : Addr} {r r' : List Int} (S : NSr W B j Hc0 H0 ρ ω σ Hc H F a as) (h1 : as[k']? = some b) (h2 : F[k']? = some r) : NSr W B j Hc0 H0 (ρ.set j (some (ofLL (F.set k' r')))) ω σ Hc (upd H b (.lst (r'.map V.int))) (F.set k' r') a as := by
  have mb : b ∈ a :: as := List.mem_cons_of_mem _ (List.mem_of_getElem? h1)
  have nd' := List.nodup_cons.mp S.nd
  have e : Ext W Hc (cutH H (a :: as)) Hc (upd H b (.lst (r'.map V.int))) := Ext.cutU S.base.sub (fun c hc => (S.out c hc).1) mb
  refine S.step e ⟨W.st _ _ _ S.base.pl.pl fun c o h hL => ?_, fun c hc => ⟨(S.base.pl.out c hc).1, by rw [upd_ne (fun z => S.nl mb (by rw [← z]; exact hc))]; exact (S.base.pl.out c hc).2⟩⟩ ?_ (by rw [List.length_set]; exact S.la) S.nd (fun k c q g1 g2 => ?_) S.out
  · have : c ≠ b := by
      rintro rfl
      obtain ⟨k, r, _, _, z⟩ := S.at (List.mem_of_getElem? h1)
      rcases hL with hL | ⟨x, y, rfl⟩
      · exact S.nl mb hL
      · rw [z] at h; cases h
    rw [upd_ne this]; exact h
  · rw [upd_ne (fun z => nd'.1 (by rw [z]; exact List.mem_of_getElem? h1))]; exact S.ha
  · by_cases e : k = k'
    · subst e
      rw [h1] at g1; cases g1
      rw [List.getElem?_set, if_pos rfl] at g2
      split at g2
      · cases g2; exact upd_same
      · cases g2
    · rw [List.getElem?_set, if_neg (fun z => e z.symm)] at g2
      rw [upd_ne (fun z => e ?_)]
      · exact S.hk k c q g1 g2
      · subst z
        have l1 := (List.getElem?_eq_some_iff.mp g1).1
        exact (List.getElem?_inj l1 nd'.2).mp (by rw [g1, h1])
theorem NSr.rep {k' : Nat} {b : Addr} {r : List Int} (S : NSr W B j Hc0 H0 ρ ω σ Hc H F a as) (nb : b ∉ a :: as) (hc : Hc b = none) (h0 : H0 b = none) (hb : H b = some (.lst (r.map V.int))) : NSr W B j Hc0 H0 (ρ.set j (some (ofLL (F.set k' r)))) ω σ Hc (upd H a (.lst ((as.set k' b).map V.ref))) (F.set k' r) a (as.set k' b) := by
  have ma : a ∈ a :: as := List.mem_cons_self
  have nd' := List.nodup_cons.mp S.nd
  have ne : b ≠ a := fun z => nb (by rw [z]; exact ma)
  have e : Ext W Hc (cutH H (a :: as)) Hc (upd H a (.lst ((as.set k' b).map V.ref))) := Ext.cutU S.base.sub (fun c hc => (S.out c hc).1) ma
  have mem : ∀ c, c ∈ as.set k' b → c ∈ as ∨ c = b := fun c h => List.mem_or_eq_of_mem_set h
  refine S.step e ⟨W.st _ _ _ S.base.pl.pl fun c o h hL => ?_, fun c hc => ⟨(S.base.pl.out c hc).1, by rw [upd_ne (fun z => S.nl ma (by rw [← z]; exact hc))]; exact (S.base.pl.out c hc).2⟩⟩ upd_same (by rw [List.length_set, List.length_set]; exact S.la) ?_ (fun k c q g1 g2 => ?_) fun c h => ?_
  · have : c ≠ a := by
      rintro rfl
      rcases hL with hL | ⟨x, y, rfl⟩
      · exact S.nl ma hL
      · rw [S.ha] at h; cases h
    rw [upd_ne this]; exact h
  · refine List.nodup_cons.mpr ⟨fun z => (mem a z).elim nd'.1 fun y => ne y.symm, ?_⟩
    exact nodup_set nd'.2 fun z => nb (List.mem_cons_of_mem _ z)
  · have lk : k < as.length := by have := (List.getElem?_eq_some_iff.mp g1).1; rw [List.length_set] at this; exact this
    by_cases e : k = k'
    · subst e
      rw [List.getElem?_set, if_pos rfl, if_pos lk] at g1
      rw [List.getElem?_set, if_pos rfl, if_pos (by rw [← S.la]; exact lk)] at g2
      cases g1; cases g2
      rw [upd_ne ne]; exact hb
    · rw [List.getElem?_set, if_neg (fun z => e z.symm)] at g1 g2
      rw [upd_ne (fun z => nd'.1 (by rw [← z]; exact List.mem_of_getElem? g1))]
      exact S.hk k c q g1 g2
  · rcases List.mem_cons.mp h with rfl | h
    · exact S.out _ ma
    · rcases mem c h with h | rfl
      · exact S.out _ (List.mem_cons_of_mem _ h)
      · exact ⟨hc, h0⟩
end
noncomputable def ContN (W : Wd) (B : List Nat) (j : Nat) (a : Addr) (Hc0 H0 : Hp) (D : Ends) (r : Fl) : Prop := match r with
  | .nx ρ' ω' => ∀ σ' Hc' H' F as, NSr W B j Hc0 H0 ρ' ω' σ' Hc' H' F a as → D.nx σ' H'
  | .rt u ω' => ∀ v Hc' H', Ext W Hc0 H0 Hc' H' → PlOk W ω' Hc' H' → RU W Hc' u v → D.rt v H'
  | _ => False
noncomputable def DN (W : Wd) (B : List Nat) (j : Nat) (t : TS) (g : Sf) : Prop := ∀ Hc0 H0 ρ ω σ Hc H F a as, NSr W B j Hc0 H0 ρ ω σ Hc H F a as → ∀ D : Ends, ContN W B j a Hc0 H0 D (g ρ ω) → t D σ H
noncomputable def okI (r : Res U) (k : Int → Om → Fl) : Fl := match r with
  | .ok (.int n) ω => k n ω
  | _ => .stk
noncomputable def okL (r : Res U) (k : List Int → Om → Fl) : Fl := match r with
  | .ok (.lst us) ω => match asInts us with
    | some ns => k ns ω
    | none => .stk
  | _ => .stk
noncomputable def okP (r : Res U) (k : Int → Int → Om → Fl) : Fl := match r with
  | .ok (.tup [.int n, .int m]) ω => k n m ω
  | _ => .stk
noncomputable def nxF (j : Nat) (ρ : En) (ω : Om) (f : List (List Int) → Option (List (List Int))) : Fl := match ρ[j]? with
  | some (some u) => match (asLL u).bind f with
    | some F => .nx (ρ.set j (some (ofLL F))) ω
    | none => .stk
  | _ => .stk
@[simp] theorem okI_ok {n : Int} {ω : Om} {k : Int → Om → Fl} : okI (.ok (.int n) ω) k = k n ω := rfl
theorem okL_ok {ns : List Int} {ω : Om} {k : List Int → Om → Fl} : okL (.ok (.lst (ns.map U.int)) ω) k = k ns ω := by unfold okL; simp only; rw [asInts_map]
@[simp] theorem okP_ok {n m : Int} {ω : Om} {k : Int → Int → Om → Fl} : okP (.ok (.tup [.int n, .int m]) ω) k = k n m ω := rfl
section
variable {W : Wd} {B : List Nat} {j : Nat} {a : Addr} {Hc0 H0 : Hp} {D : Ends}
theorem okI_inv {r : Res U} {k : Int → Om → Fl} (h : ContN W B j a Hc0 H0 D (okI r k)) : ∃ n ω, r = .ok (.int n) ω ∧ ContN W B j a Hc0 H0 D (k n ω) := by
  unfold okI at h
  split at h
  · exact ⟨_, _, rfl, h⟩
  · exact h.elim
theorem okL_inv {r : Res U} {k : List Int → Om → Fl} (h : ContN W B j a Hc0 H0 D (okL r k)) : ∃ n ω, r = .ok (.lst (n.map U.int)) ω ∧ ContN W B j a Hc0 H0 D (k n ω) := by
  unfold okL at h
  split at h
  · split at h
    · rename_i q
      exact ⟨_, _, by rw [asInts_of q], h⟩
    · exact h.elim
  · exact h.elim
theorem okP_inv {r : Res U} {k : Int → Int → Om → Fl} (h : ContN W B j a Hc0 H0 D (okP r k)) : ∃ n m ω, r = .ok (.tup [.int n, .int m]) ω ∧ ContN W B j a Hc0 H0 D (k n m ω) := by
  unfold okP at h
  split at h
  · exact ⟨_, _, _, rfl, h⟩
  · exact h.elim
theorem nxF_inv {ρ : En} {ω : Om} {F : List (List Int)} {f : List (List Int) → Option (List (List Int))} (hj : ρ[j]? = some (some (ofLL F))) (h : ContN W B j a Hc0 H0 D (nxF j ρ ω f)) : ∃ F', f F = some F' ∧ ContN W B j a Hc0 H0 D (.nx (ρ.set j (some (ofLL F'))) ω) := by
  unfold nxF at h
  rw [hj] at h
  simp only [asLL_to, Option.bind_some] at h
  split at h
  · exact ⟨_, by assumption, h⟩
  · exact h.elim
end
noncomputable def putLL (F : List (List Int)) (k i n : Int) : Option (List (List Int)) := (ixN F.length k).bind fun k' => (F[k']?).bind fun r => (ixN r.length i).map fun i' => F.set k' (r.set i' n)
noncomputable def repLL (F : List (List Int)) (k : Int) (ns : List Int) : Option (List (List Int)) := (ixN F.length k).map fun k' => F.set k' ns
open Classical in
noncomputable def appLL (F : List (List Int)) (k n : Int) : Option (List (List Int)) := (ixN F.length k).bind fun k' => (F[k']?).bind fun r => if r.length < sizeLine then some (F.set k' (r ++ [n])) else none
noncomputable def nSet (i : Nat) (fa : Ef) : Sf := fun ρ ω => okI (fa ρ ω) fun n ω1 => .nx (ρ.set i (some (.int n))) ω1
noncomputable def nPut (j : Nat) (fk fi fa : Ef) : Sf := fun ρ ω => okI (fa ρ ω) fun n ω1 => okI (fk ρ ω1) fun k ω2 => okI (fi ρ ω2) fun i ω3 => nxF j ρ ω3 fun F => putLL F k i n
noncomputable def nRep (j : Nat) (fk fa : Ef) : Sf := fun ρ ω => okL (fa ρ ω) fun ns ω1 => okI (fk ρ ω1) fun k ω2 => nxF j ρ ω2 fun F => repLL F k ns
noncomputable def nApp (j : Nat) (fk fa : Ef) : Sf := fun ρ ω => okI (fk ρ ω) fun k ω1 => okI (fa ρ ω1) fun n ω2 => nxF j ρ ω2 fun F => appLL F k n
noncomputable def seqN (r : Fl) (k : En → Om → Fl) : Fl := match r with
  | .nx ρ ω => k ρ ω
  | _ => .stk
noncomputable def putN (j : Nat) (fk fi : Ef) (n : Int) (ρ : En) (ω : Om) : Fl := okI (fk ρ ω) fun k ω2 => okI (fi ρ ω2) fun i ω3 => nxF j ρ ω3 fun F => putLL F k i n
noncomputable def nSw (j : Nat) (fk fi fk2 fi2 fa : Ef) : Sf := fun ρ ω => okP (fa ρ ω) fun n m ω1 => seqN (putN j fk fi n ρ ω1) fun ρ1 ω2 => putN j fk2 fi2 m ρ1 ω2
noncomputable def nRet (j : Nat) : Sf := fun ρ ω => match ρ[j]? with
  | some (some u) => .rt u ω
  | _ => .stk
section
variable {W : Wd} {B : List Nat} {j : Nat} {E : XK} {t t1 t2 : TS} {g g1 g2 : Sf} {ta ti tk ti2 tk2 : TE} {fa fi fk fi2 fk2 : Ef} {tt : TT} {ft : Tf} {i : Nat}
theorem dn_seq (h1 : DN W B j t1 g1) (h2 : DN W B j t2 g2) : DN W B j (tSeq t1 t2) (sSeq g1 g2) := by
  intro Hc0 H0 ρ ω σ Hc H F a as S D h
  refine h1 Hc0 H0 ρ ω σ Hc H F a as S { D with nx := t2 D } ?_
  unfold sSeq at h
  revert h
  cases g1 ρ ω with
  | nx ρ' ω' => exact fun h σ' Hc' H' F' as' S' => h2 Hc0 H0 ρ' ω' σ' Hc' H' F' a as' S' D h
  | _ => exact fun h => h
theorem dn_next : DN W B j tNext sNext := fun Hc0 H0 ρ ω σ Hc H F a as S D h => h σ Hc H F as S
theorem dn_if (hc : DT W ⟨j :: B, []⟩ E tt ft) (h1 : DN W B j t1 g1) (h2 : DN W B j t2 g2) : DN W B j (tIfS tt t1 t2) (sIf ft g1 g2) := by
  intro Hc0 H0 ρ ω σ Hc H F a as S D h
  unfold sIf at h
  cases q : ft ρ ω with
  | stk => rw [q] at h; exact h.elim
  | err _ _ _ => rw [q] at h; exact h.elim
  | ok b ω1 =>
    rw [q] at h
    refine S.evT hc q fun Hc' H' S' => ?_
    cases b with
    | true => exact h1 Hc0 H0 ρ ω1 σ Hc' H' F a as S' D h
    | false => exact h2 Hc0 H0 ρ ω1 σ Hc' H' F a as S' D h
theorem dn_set (h1 : i ∉ B) (ne : i ≠ j) (ha : DB W ⟨j :: B, []⟩ E ta fa) : DN W B j (tAsg ta (gName i)) (nSet i fa) := by
  intro Hc0 H0 ρ ω σ Hc H F a as S D h
  obtain ⟨n, ω1, q, h⟩ := okI_inv h
  exact S.ev ha q fun Hc' H' S' => h _ Hc' H' F as (S'.setI h1 ne)
theorem gputN {Hc0 H0 : Hp} {ρ : En} {ω : Om} {σ : St} {Hc H : Hp} {F : List (List Int)} {a : Addr} {as : List Addr} {D : Ends} {n : Int} (S : NSr W B j Hc0 H0 ρ ω σ Hc H F a as) (hk : DB W ⟨j :: B, []⟩ E tk fk) (hi : DB W ⟨j :: B, []⟩ E ti fi)
    (h : ContN W B j a Hc0 H0 D (putN j fk fi n ρ ω)) : gSub (tOp (rIxA W.K) (tVar j) tk) ti rSetL (.int n) σ H D.nx := by
  obtain ⟨k, ω2, q2, h⟩ := okI_inv h
  obtain ⟨i, ω3, q3, h⟩ := okI_inv h
  obtain ⟨F', hF, h⟩ := nxF_inv S.rj h
  unfold putLL at hF
  cases hk' : ixN F.length k with
  | none => rw [hk'] at hF; exact noS hF
  | some k' =>
    rw [hk'] at hF
    simp only [Option.bind_some] at hF
    refine S.row hk q2 hk' fun b r Hc1 H1 S1 g1 g2 => ?_
    rw [g2] at hF
    simp only [Option.bind_some] at hF
    cases hi' : ixN r.length i with
    | none => rw [hi'] at hF; exact noS hF
    | some i' =>
      rw [hi'] at hF
      cases hF
      refine S1.ev hi q3 fun Hc2 H2 S2 => ?_
      refine ⟨b, r.map V.int, i, i', rfl, rfl, S2.hk _ _ _ g1 g2, by rw [List.length_map]; exact hi', ?_⟩
      have e : (r.map V.int).set i' (.int n) = (r.set i' n).map V.int := by rw [List.map_set]
      rw [e]
      exact h _ Hc2 _ _ _ (S2.put g1 g2)
theorem dn_put (ha : DB W ⟨j :: B, []⟩ E ta fa) (hk : DB W ⟨j :: B, []⟩ E tk fk) (hi : DB W ⟨j :: B, []⟩ E ti fi) : DN W B j (tAsg ta (gSub (tOp (rIxA W.K) (tVar j) tk) ti rSetL)) (nPut j fk fi fa) := by
  intro Hc0 H0 ρ ω σ Hc H F a as S D h
  obtain ⟨n, ω1, q, h⟩ := okI_inv h
  exact S.ev ha q fun Hc' H' S' => gputN S' hk hi h
theorem dn_rep (ha : DF W ⟨j :: B, []⟩ E ta fa) (hk : DB W ⟨j :: B, []⟩ E tk fk) : DN W B j (tAsg ta (gSub (tVar j) tk rSetL)) (nRep j fk fa) := by
  intro Hc0 H0 ρ ω σ Hc H F a as S D h
  obtain ⟨ns, ω1, q, h⟩ := okL_inv h
  obtain ⟨k, ω2, q2, h⟩ := okI_inv h
  obtain ⟨F', hF, h⟩ := nxF_inv S.rj h
  unfold repLL at hF
  cases hk' : ixN F.length k with
  | none => rw [hk'] at hF; exact noS hF
  | some k' =>
    rw [hk'] at hF
    cases hF
    refine S.evF ha q fun b Hc1 H1 S1 nb n1 n2 hb => ⟨_, S1.sj, ?_⟩
    refine hk _ ρ ω1 σ _ H1 _ S1.up _ ?_
    rw [q2]
    intro Hc2 H2 e2 p2 v rv
    have := rv.int; subst this
    have S2 := S1.cut e2 p2
    refine ⟨a, as.map V.ref, k, k', rfl, rfl, S2.ha, by rw [List.length_map, S.la]; exact hk', ?_⟩
    have e : (as.map V.ref).set k' (.ref b) = (as.set k' b).map V.ref := by rw [List.map_set]
    rw [e]
    have nl : b ∉ W.L := fun z => S1.base.p0 b z n2
    have nb' : b ∉ as := fun z => nb (List.mem_cons_of_mem _ z)
    exact h _ _ _ _ _ (S2.rep nb (by rw [cut_out nb']; exact e2.new b (by rw [ovr_out nb']; exact n1) (by rw [hb]; simp)) n2 (e2.same _ _ nl hb))
theorem dn_app (hk : DB W ⟨j :: B, []⟩ E tk fk) (ha : DB W ⟨j :: B, []⟩ E ta fa) : DN W B j (tDrop (tBM W.K "list" rAppend (tOp (rIxA W.K) (tVar j) tk) (tCons ta tNil))) (nApp j fk fa) := by
  intro Hc0 H0 ρ ω σ Hc H F a as S D h
  obtain ⟨k, ω1, q, h⟩ := okI_inv h
  obtain ⟨n, ω2, q2, h⟩ := okI_inv h
  obtain ⟨F', hF, h⟩ := nxF_inv S.rj h
  unfold appLL at hF
  cases hk' : ixN F.length k with
  | none => rw [hk'] at hF; exact noS hF
  | some k' =>
    rw [hk'] at hF
    simp only [Option.bind_some] at hF
    refine S.row hk q hk' fun b r Hc1 H1 S1 g1 g2 => ?_
    rw [g2] at hF
    simp only [Option.bind_some] at hF
    split at hF
    · rename_i hl
      cases hF
      refine ⟨.inl ⟨rfl, _, .of (S1.hk _ _ _ g1 g2)⟩, S1.ev ha q2 fun Hc2 H2 S2 => ?_⟩
      refine ⟨b, r.map V.int, .int n, rfl, rfl, S2.hk _ _ _ g1 g2, by rw [List.length_map]; exact hl, ?_⟩
      have e : r.map V.int ++ [.int n] = (r ++ [n]).map V.int := by rw [List.map_append]; rfl
      rw [e]
      exact h _ Hc2 _ _ _ (S2.put g1 g2)
    · cases hF
theorem dn_sw (ha : DE W ⟨j :: B, []⟩ E ta fa) (hk : DB W ⟨j :: B, []⟩ E tk fk) (hi : DB W ⟨j :: B, []⟩ E ti fi) (hk2 : DB W ⟨j :: B, []⟩ E tk2 fk2) (hi2 : DB W ⟨j :: B, []⟩ E ti2 fi2) :
    DN W B j (tAsg ta (gTup W.K 2 (gCons (gSub (tOp (rIxA W.K) (tVar j) tk) ti rSetL) (gCons (gSub (tOp (rIxA W.K) (tVar j) tk2) ti2 rSetL) gNil)))) (nSw j fk fi fk2 fi2 fa) := by
  intro Hc0 H0 ρ ω σ Hc H F a as S D h
  obtain ⟨n, m, ω1, q, h⟩ := okP_inv h
  refine S.evP ha q fun b Hc1 H1 S1 hb => ⟨b, _, rfl, .of hb, rfl, _, _, rfl, ?_⟩
  refine gputN (D := { D with nx := fun σ' H' => gCons (gSub (tOp (rIxA W.K) (tVar j) tk2) ti2 rSetL) gNil [.int m] σ' H' D.nx }) S1 hk hi ?_
  unfold seqN at h
  revert h
  split
  · rename_i ρ1 ω2 q1
    intro h
    rw [q1]
    intro σ' Hc' H' F' as' S'
    refine ⟨_, _, rfl, gputN (D := { D with nx := fun σ' H' => gNil [] σ' H' D.nx }) S' hk2 hi2 ?_⟩
    revert h
    show ContN W B j a Hc0 H0 D (putN j fk2 fi2 m ρ1 ω2) → _
    cases q5 : putN j fk2 fi2 m ρ1 ω2 with
    | nx ρ3 ω3 => exact fun h σ2 Hc2 H2 F2 as2 S2 => ⟨rfl, h σ2 Hc2 H2 F2 as2 S2⟩
    | rt _ _ => exact fun h => h
    | bk _ _ => exact fun h => h
    | ct _ _ => exact fun h => h
    | err _ _ _ => exact fun h => h
    | stk => exact fun h => h
  · exact fun h => h.elim
theorem dn_ret : DN W B j (tRet (tVar j)) (nRet j) := by
  intro Hc0 H0 ρ ω σ Hc H F a as S D h
  unfold nRet at h
  rw [S.rj] at h
  have l0 : ∀ b ∈ a :: as, H0 b = none := fun b h => (S.out b h).2
  have sc : Same Hc (ovr Hc H (a :: as)) := fun b o q => by rw [ovr_out (fun z => by rw [(S.out b z).1] at q; cases q)]; exact q
  refine ⟨_, S.sj, h _ (ovr Hc H (a :: as)) H ⟨S.x.same, fun b o q => sc b o (S.x.sc b o q), fun b o q => ?_, fun b q k => ?_, S.x.frz⟩ ⟨S.base.pl.pl, fun b hb => ⟨?_, (S.base.pl.out b hb).2⟩⟩ ?_⟩
  · by_cases z : b ∈ a :: as
    · rw [ovr_in z] at q; exact q
    · rw [ovr_out z] at q; exact S.base.sub b o q
  · rw [ovr_out (fun z => k (l0 b z))]; exact S.x.new b q k
  · rw [ovr_out (fun z => S.nl z hb)]; exact (S.base.pl.out b hb).1
  · exact .lst (by rw [ovr_in List.mem_cons_self]; exact S.ha) (RUs.ofLL S.la fun k b r h1 h2 => by rw [ovr_in (List.mem_cons_of_mem _ (List.mem_of_getElem? h1))]; exact S.hk k b r h1 h2)
end
noncomputable def NL (W : Wd) (H1 Hc H : Hp) (as : List Addr) (us : List U) : Prop := as.length = us.length ∧ as.Nodup ∧ ∀ (k : Nat) (b : Addr) (u : U), as[k]? = some b → us[k]? = some u → Hc b = none ∧ H1 b = none ∧ ∃ xs vs, u = .lst xs ∧ H b = some (.lst vs) ∧ RUs W Hc xs vs
section
variable {W : Wd} {H1 Hc H Hc' H' : Hp} {as : List Addr} {us : List U}
theorem NL.ext (h : NL W H1 Hc H as us) (p1 : ∀ b ∈ W.L, H1 b ≠ none) (e : Ext W Hc H Hc' H') : NL W H1 Hc' H' as us := by
  refine ⟨h.1, h.2.1, fun k b u h1 h2 => ?_⟩
  obtain ⟨n1, n2, xs, vs, e1, e2, r⟩ := h.2.2 k b u h1 h2
  exact ⟨e.new b n1 (by rw [e2]; simp), n2, xs, vs, e1, e.same b _ (fun z => p1 b z n2) e2, r.mono e.sc⟩
theorem NL.mem (h : NL W H1 Hc H as us) {b : Addr} (hb : b ∈ as) : Hc b = none ∧ H1 b = none ∧ H b ≠ none := by
  obtain ⟨k, hk, e⟩ := List.mem_iff_getElem.mp hb
  have hk2 : k < us.length := by rw [← h.1]; exact hk
  obtain ⟨n1, n2, xs, vs, e1, e2, r⟩ := h.2.2 k b us[k] (by rw [List.getElem?_eq_getElem hk, e]) (List.getElem?_eq_getElem hk2)
  exact ⟨n1, n2, by rw [e2]; simp⟩
theorem NL.snoc {b : Addr} {xs : List U} {vs : List V} (h : NL W H1 Hc H as us) (n1 : Hc b = none) (n2 : H1 b = none) (nb : b ∉ as) (hb : H b = some (.lst vs)) (r : RUs W Hc xs vs) : NL W H1 Hc H (as ++ [b]) (us ++ [.lst xs]) := by
  refine ⟨by simp [h.1], List.nodup_append.mpr ⟨h.2.1, by simp, fun c hc d hd z => nb (by rw [← List.mem_singleton.mp hd, ← z]; exact hc)⟩, fun k c u h1 h2 => ?_⟩
  by_cases l : k < as.length
  · rw [List.getElem?_append_left l] at h1
    rw [List.getElem?_append_left (by rw [← h.1]; exact l)] at h2
    exact h.2.2 k c u h1 h2
  · rw [List.getElem?_append_right (by omega)] at h1
    rw [List.getElem?_append_right (by rw [← h.1]; omega)] at h2
    have l1 := (List.getElem?_eq_some_iff.mp h1).1
    have e1 : k - as.length = 0 := by simp at l1; omega
    rw [e1] at h1
    rw [← h.1, e1] at h2
    cases h1; cases h2
    exact ⟨n1, n2, xs, vs, rfl, hb, r⟩
end
section
variable {W : Wd} {m mb : Md} {E : XK} {wi : TI} {fi : Af} {k : Nat} {js : List Nat} {g : TG} {a : U → En → Option En} {tc : TT} {ft : Tf} {te : TE} {fe : Ef}
@[reducible] def cmpN (W : Wd) (st : U → Om → Res (Option U)) (us tot : List U) (ωf : Om) (Hc1 H1 : Hp) : Nat → Nat → List V → Hp → Prop := fun i n ys H => n = us.length - i ∧ i ≤ us.length ∧ ∃ ω Hc acc rest as, Ext W Hc1 H1 Hc H ∧ PlOk W ω Hc H ∧ ys = as.map V.ref ∧ NL W H1 Hc H as acc ∧ acc.length ≤ i ∧ cmpU st (us.drop i) ω = .ok rest ωf ∧ acc ++ rest = tot
theorem comp_new (hi : DI W m E true wi fi) (hg : DG W mb g a) (ht : DT W mb E0 tc ft) (he : DF W mb E0 te fe) (hB : ∀ p j, js[p]? = some j → (j ∈ m.B ∨ j ∈ m.M) → k + p ∈ mb.B) (hM : mb.M = [])
    {H0 : Hp} {ρ : En} {ω : Om} {σ : St} {Hc H : Hp} {ow : Nat → Addr} (S : Sr W m ρ ω σ H0 Hc H ow) {tot : List U} {ωf : Om} {Q : VK} (h : eComp fi k js a ft fe ρ ω = .ok (.lst tot) ωf)
    (q : ∀ Hc' H' p as, Ext W Hc H Hc' H' → PlOk W ωf Hc' H' → NL W H Hc' H' as tot → p ∉ as → H p = none → Hc' p = none → H' p = some (.lst (as.map V.ref)) → Q (.ref p) H') : tComp wi k js g tc te σ H Q := by
  unfold eComp at h
  cases hfi : fi ρ ω with
  | stk => rw [hfi] at h; cases h
  | err _ _ _ => rw [hfi] at h; cases h
  | ok us ω1 =>
    rw [hfi] at h
    simp only [Res.bnd_ok] at h
    refine hi H0 ρ ω σ Hc H ow S _ ?_
    rw [hfi]
    intro Hc1 H1 e1 p1 J hJ
    have S1 := S.ext e1 p1
    rw [if_pos rfl] at hJ
    by_cases hl : us.length ≤ sizeLine
    · rw [if_pos hl] at h
      cases hr : cmpU (cstU a ft fe (blkU k js ρ)) us ω1 with
      | stk => rw [hr] at h; cases h
      | err _ _ _ => rw [hr] at h; cases h
      | ok tot' ωf' =>
        rw [hr] at h
        cases h
        have l1 : ∀ b ∈ W.L, H1 b ≠ none := fun b hb => (p1.out b hb).2
        refine ⟨cmpN W (cstU a ft fe (blkU k js ρ)) us tot ωf Hc1 H1,
          ⟨us.length, by simp, Nat.zero_le _, ω1, Hc1, [], tot, [], Ext.refl e1.sub, p1, rfl, ⟨rfl, List.nodup_nil, fun k b u h1 => by simp at h1⟩, Nat.zero_le _, hr, rfl⟩, ?_⟩
        rintro i n ys H2 ⟨rfl, hle, ω2, Hc2, acc, rest, as, e2, p2, rfl, r2, l2, w2, tt⟩
        have J2 := hJ Hc2 H2 e2.sc e2.sub e2.same
        by_cases lt : i < us.length
        · have hx : us[i]? = some us[i] := by simp [lt]
          obtain ⟨go, yl⟩ := J2.1 i _ hx
          rw [drop_cons hx] at w2
          refine .inr ⟨go, by rw [List.length_map, r2.1]; lia, fun y H3 hy => ?_⟩
          obtain ⟨Hc3, e3, s3, ry⟩ := yl y H3 hy
          have p3 : PlOk W ω2 Hc3 H3 := p2.same e3 s3
          have Sb := S1.blk (mb := mb) hB hM (e2.trans e3) p3
          unfold cmpU at w2
          cases q0 : a us[i] (blkU k js ρ) with
          | none => rw [show cstU a ft fe (blkU k js ρ) us[i] ω2 = .stk by unfold cstU; rw [q0]] at w2; cases w2
          | some ρ' =>
            rw [show cstU a ft fe (blkU k js ρ) us[i] ω2 = (ft ρ' ω2).bnd fun b ω1 => if b = true then (fe ρ' ω1).bnd fun u ω2 => .ok (some u) ω2 else .ok none ω1 by unfold cstU; rw [q0]] at w2
            refine hg H1 _ ω2 _ Hc3 H3 ow _ y ρ' Sb ry q0 _ fun σ' S' => ?_
            cases q2 : ft ρ' ω2 with
            | stk => rw [q2] at w2; cases w2
            | err _ _ _ => rw [q2] at w2; cases w2
            | ok b ω4 =>
              rw [q2] at w2
              refine ht H1 ρ' ω2 σ' Hc3 H3 ow S' _ ?_
              rw [q2]
              intro Hc4 H4 e4 p4
              have S4 := S'.ext e4 p4
              cases b with
              | false =>
                rw [if_neg Bool.false_ne_true]
                simp only [Res.bnd_ok, Bool.false_eq_true, if_false] at w2
                cases q5 : cmpU (cstU a ft fe (blkU k js ρ)) (us.drop (i + 1)) ω4 with
                | stk => rw [q5] at w2; cases w2
                | err _ _ _ => rw [q5] at w2; cases w2
                | ok r5 ω5 =>
                  rw [q5] at w2
                  simp only [Res.bnd_ok, Option.toList_none, List.nil_append] at w2
                  cases w2
                  exact ⟨_, by lia, rfl, lt, ω4, Hc4, acc, _, as, (e2.trans e3).trans e4, p4, rfl, (r2.ext l1 e3).ext l1 e4, by lia, q5, tt⟩
              | true =>
                rw [if_pos rfl]
                simp only [Res.bnd_ok, if_true] at w2
                cases q6 : fe ρ' ω4 with
                | stk => rw [q6] at w2; cases w2
                | err _ _ _ => rw [q6] at w2; cases w2
                | ok u ω6 =>
                  rw [q6] at w2
                  simp only [Res.bnd_ok] at w2
                  refine he H1 ρ' ω4 σ' Hc4 H4 ow S4 _ ?_
                  rw [q6]
                  intro Hc6 H6 e6 p6 xs c vs hu n1 n2 hc rv
                  subst hu
                  cases q5 : cmpU (cstU a ft fe (blkU k js ρ)) (us.drop (i + 1)) ω6 with
                  | stk => rw [q5] at w2; cases w2
                  | err _ _ _ => rw [q5] at w2; cases w2
                  | ok r5 ω5 =>
                    rw [q5] at w2
                    simp only [Res.bnd_ok, Option.toList_some] at w2
                    cases w2
                    have r4 := (r2.ext l1 e3).ext l1 e4
                    have nc : c ∉ as := fun z => (r4.mem z).2.2 n2
                    have n0 : H1 c = none := ((e2.trans e3).trans e4).frz' n2
                    exact ⟨_, by lia, rfl, lt, ω6, Hc6, acc ++ [.lst xs], _, as ++ [c], ((e2.trans e3).trans e4).trans e6, p6, by rw [List.map_append]; rfl, (r4.ext l1 e6).snoc n1 n0 nc hc rv, by simp; lia, q5, by rw [List.append_assoc]; exact tt⟩
        · have e : i = us.length := by lia
          subst e
          rw [List.drop_length] at w2
          unfold cmpU at w2
          cases w2
          rw [List.append_nil] at tt
          subst tt
          refine .inl ⟨J2.2, by rw [List.length_map, r2.1]; lia, fun p n => ?_⟩
          have f := laid_f (o := .lst (as.map V.ref)) e2.sub p2 n
          have np : p ∉ as := fun z => (r2.mem z).2.2 n
          have nL : NL W H Hc2 (upd H2 p (.lst (as.map V.ref))) as acc := by
            have z := r2.ext l1 f.1
            exact ⟨z.1, z.2.1, fun k b u h1 h2 => by obtain ⟨n1, n2, r⟩ := z.2.2 k b u h1 h2; exact ⟨n1, e1.frz' n2, r⟩⟩
          exact q Hc2 _ p as ((e1.trans e2).trans f.1) f.2 nL np ((e1.trans e2).frz' n) (e2.sub.free n) upd_same
    · rw [if_neg hl] at h; cases h
end
noncomputable def noE : Fl → Fl
  | .err _ _ _ => .stk
  | o => o
noncomputable def nNest (j : Nat) (f : Ef) (g : Sf) : Sf := fun ρ ω => match f ρ ω with
  | .ok u ω1 => match asLL u with
    | some F => if j < ρ.length then noE (g (ρ.set j (some (ofLL F))) ω1) else .stk
    | none => .stk
  | _ => .stk
section
variable {W : Wd} {B : List Nat} {mb : Md} {E : XK} {j : Nat} {wi : TI} {fi : Af} {k : Nat} {js : List Nat} {g : TG} {a : U → En → Option En} {tc : TT} {ft : Tf} {te : TE} {fe : Ef} {t2 : TS} {g2 : Sf}
theorem dk_nest (hi : DI W ⟨B, []⟩ E true wi fi) (hg : DG W mb g a) (ht : DT W mb E0 tc ft) (he : DF W mb E0 te fe) (hB : ∀ p j, js[p]? = some j → (j ∈ B ∨ j ∈ []) → k + p ∈ mb.B) (hM : mb.M = []) (h2 : DN W B j t2 g2) :
    DK W ⟨B, []⟩ E (tSeq (tAsg (tComp wi k js g tc te) (gName j)) t2) (nNest j (eComp fi k js a ft fe) g2) := by
  intro H0 Hc0 ρ ω σ Hc H ow S x D h
  unfold nNest at h
  cases q : eComp fi k js a ft fe ρ ω with
  | stk => rw [q] at h; exact h.elim
  | err _ _ _ => rw [q] at h; exact h.elim
  | ok u ω1 =>
    rw [q] at h
    simp only at h
    cases q2 : asLL u with
    | none => rw [q2] at h; exact h.elim
    | some F =>
      rw [q2] at h
      simp only at h
      have := asLL_of q2; subst this
      by_cases hj : j < ρ.length
      · rw [if_pos hj] at h
        show tComp wi k js g tc te σ H fun x H1 => t2 D (σ.set j (some x)) H1
        refine comp_new hi hg ht he hB hM S q fun Hc' H' p as e pl nl np n1 n2 hp => ?_
        have key : ∀ b ∈ p :: as, Hc' b = none ∧ H b = none := fun b hb => by
          rcases List.mem_cons.mp hb with rfl | hb
          · exact ⟨n2, n1⟩
          · exact ⟨(nl.mem hb).1, (nl.mem hb).2.1⟩
        have k0 : ∀ b, H b = none → H0 b = none := fun b n => by
          cases z : H0 b with
          | none => rfl
          | some o =>
            by_cases l : b ∈ W.L
            · exact absurd n (S.pl.out b l).2
            · rw [S.s0 b o l z] at n; cases n
        have S' := S.ext e pl
        have Sn : NSr W B j Hc0 H0 (ρ.set j (some (ofLL F))) ω1 (σ.set j (some (.ref p))) Hc' H' F p as := by
          refine ⟨?_, x.trans e, at_set hj, at_set (by rw [← S.len]; exact hj), hp, by rw [nl.1, List.length_map], List.nodup_cons.mpr ⟨np, nl.2.1⟩, fun k b r h1 h2 => ?_, fun b hb => ⟨(key b hb).1, k0 b (key b hb).2⟩⟩
          · rw [List.set_set]
            refine ⟨S'.sub, S'.s0, S'.p0, by simp [S'.len], S'.pl, fun i u n1 n2 h => ?_, fun i u n1 n2 h => ?_, fun i u n h => absurd n (by simp), fun i j u w n => absurd n (by simp)⟩
            · by_cases z : i = j
              · subst z; rw [List.getElem?_set, if_pos rfl, if_pos hj] at h; cases h
              · rw [at_set_ne z] at h ⊢; exact S'.cl i u n1 n2 h
            · by_cases z : i = j
              · subst z; rw [List.getElem?_set, if_pos rfl, if_pos hj] at h; cases h
              · rw [at_set_ne z] at h ⊢; exact S'.bo i u n1 n2 h
          · obtain ⟨_, _, xs, vs, e1, e2, r0⟩ := nl.2.2 k b (.lst (r.map U.int)) h1 (by rw [List.getElem?_map, h2]; rfl)
            cases e1
            rw [e2, r0.ints]
        refine h2 Hc0 H0 _ ω1 _ Hc' H' F p as Sn D ?_
        revert h
        cases g2 (ρ.set j (some (ofLL F))) ω1 with
        | nx ρ' ω' => exact fun h σ' Hc' H' F as S => h σ' Hc' H' S.x S.base.pl
        | rt u ω' => exact fun h => h
        | bk _ _ => exact fun h => h
        | ct _ _ => exact fun h => h
        | err _ _ _ => exact fun h => h
        | stk => exact fun h => h
      · rw [if_neg hj] at h; exact h.elim
end
noncomputable def rho4 (n2 : Nat) (F : List (List Int)) (x y : Int) : En := [some .pile, some (ofLL F), some (.int x), some (.int y)] ++ List.replicate n2 none
noncomputable def spN (K : PySem.W.Frag) (mg : L2.SV) (wk : Wd → Prop) (B : List Nat) (n2 : Nat) (g : Sf) : Sp := fun vs H Q E => ∃ (W : Wd) (ω : Om) (Hc : Hp) (F : List (List Int)) (a : Addr) (as : List Addr) (x y : Int), W.K = K ∧ W.mg = mg ∧ wk W ∧ vs = [.ref W.pa, .ref a, .int x, .int y] ∧ Same Hc H ∧ PlOk W ω Hc H ∧
  H a = some (.lst (as.map V.ref)) ∧ as.length = F.length ∧ (a :: as).Nodup ∧ (∀ (k : Nat) (b : Addr) (r : List Int), as[k]? = some b → F[k]? = some r → H b = some (.lst (r.map V.int))) ∧ (∀ b ∈ a :: as, Hc b = none ∧ b ∉ W.L) ∧
  ContN W B 1 a Hc (cutH H (a :: as)) { nx := fun ψ H' => Q .non H', rt := Q } (g (rho4 n2 F x y) ω)
section
variable {P : Program} {w : World} {K : PySem.W.Frag} {mg : L2.SV} {base : Heap}
theorem rho4_at {n2 : Nat} {F : List (List Int)} {x y : Int} {i : Nat} {u : U} (h : ((rho4 n2 F x y).set 1 none)[i]? = some (some u)) : (i = 0 ∧ u = .pile) ∨ (i = 2 ∧ u = .int x) ∨ (i = 3 ∧ u = .int y) := by
  unfold rho4 at h
  match i, h with
  | 0, h => cases h; exact .inl ⟨rfl, rfl⟩
  | 1, h => cases h
  | 2, h => cases h; exact .inr (.inl ⟨rfl, rfl⟩)
  | 3, h => cases h; exact .inr (.inr ⟨rfl, rfl⟩)
  | i + 4, h =>
    simp only [List.cons_append, List.nil_append, List.set_cons_succ, List.set_cons_zero, List.getElem?_cons_succ, List.getElem?_replicate] at h
    split at h <;> cases h
theorem Fun.okN {x qual : Str} {st : Stmt} {f : Addr} {fd : FuncData} {N ps : List Str} {k : Nat} {wk : Wd → Prop} {B : List Nat} {n2 : Nat} {g : Sf} (F : Fun K x qual st f fd) (S : FnScope N ps (defScope st)) (hl : ps.length = 4) (hN : N.length = 4 + n2)
    (hbody : ∀ (cdv : Value) (A : Around) (outer : List Env) (s : Shared) (H : Hp) (E : XK) (W : Wd), W.K = K → W.mg = mg → wk W → Room k (A.deeper (envOfC qual (defScope st) s.heap.objs.size f cdv)) → A.handled = none →
      ∃ t, (∀ y : Unit, PSs (defX P w K mg base N qual (defScope st) f cdv A outer s H E y) (defBody st) t) ∧ DN W B 1 t g) : FnOk P w K mg base (CX1 P w) (k + 1) f fd ps (spN K mg wk B n2 g) := by
  refine F.okX S (fun vs H Q E h => ?_) fun cdv A outer s H vs Q E hr hA hsp => ?_
  · obtain ⟨W, ω, Hc, F, a, as, x, y, _, _, _, e, _⟩ := h
    rw [e, hl]; rfl
  · obtain ⟨W, ω, Hc, F, a, as, x, y, hK, hm, hw, rfl, sub, pl, ha, la, nd, hk, out, co⟩ := hsp
    obtain ⟨t, ht, dn⟩ := hbody cdv A outer s H E W hK hm hw hr hA
    refine ⟨t, ht (), dn Hc (cutH H (a :: as)) (rho4 n2 F x y) ω _ Hc H F a as ?_ _ co⟩
    have hc : ∀ {b : Addr} {o : HO}, cutH H (a :: as) b = some o → H b = some o := fun h => cut_le h
    have at0 : ∀ i u, ((rho4 n2 F x y).set 1 none)[i]? = some (some u) → ∃ v, (start N [V.ref W.pa, .ref a, .int x, .int y])[i]? = some (some v) ∧ RU W Hc u v := fun i u h => by
      rcases rho4_at h with ⟨rfl, rfl⟩ | ⟨rfl, rfl⟩ | ⟨rfl, rfl⟩
      · exact ⟨_, rfl, by rw [RU]⟩
      · exact ⟨_, rfl, .int⟩
      · exact ⟨_, rfl, .int⟩
    refine ⟨⟨sub, fun b o n h => hc h, fun b hb => ?_, ?_, pl, fun i u n1 n2 h => at0 i u h, fun i u n1 n2 h => ?_, fun i u n h => absurd n (by simp), fun i j u w n => absurd n (by simp)⟩, ⟨fun b o n h => hc h, fun ψ ψ h => h, sub, fun ψ h ψ => h, fun b h => cut_ne h⟩, rfl, rfl, ha, la, nd, hk, fun b hb => ⟨(out b hb).1, cut_in hb⟩⟩
    · rw [cut_out (fun z => (out b z).2 hb)]; exact (pl.out b hb).2
    · unfold rho4 start; simp; omega
    · obtain ⟨v, h1, h2⟩ := at0 i u h
      exact ⟨v, h1, .inl h2⟩
end
noncomputable def nCall (p j w l n2 : Nat) (g2 : Sf) : Sf := fun ρ ω => match ρ[p]? with
  | some (some .pile) => match ρ[w]? with
    | some (some (.int x)) => match ρ[l]? with
      | some (some (.int y)) => match ρ[j]? with
        | some (some u) => match asLL u with
          | some F => seqN (g2 (rho4 n2 F x y) ω) fun ρ' ω' => match ρ'[1]? with
            | some (some u') => .nx (ρ.set j (some u')) ω'
            | _ => .stk
          | none => .stk
        | _ => .stk
      | _ => .stk
    | _ => .stk
  | _ => .stk
section
variable {W : Wd} {B B2 : List Nat} {j p w l n2 : Nat} {E : XK} {g2 : Sf}
theorem dn_call {K : PySem.W.Frag} {mg : L2.SV} {wk : Wd → Prop} (hK : W.K = K) (hm : W.mg = mg) (hw : wk W) : DN W B j (tDrop (tCall (spN K mg wk B2 n2 g2) [] E (tCons (tVar p) (tCons (tVar j) (tCons (tVar w) (tCons (tVar l) tNil)))))) (nCall p j w l n2 g2) := by
  intro Hc0 H0 ρ ω σ Hc H F a as S D h
  unfold nCall at h
  split at h
  · rename_i r1
    split at h
    · rename_i x r2
      split at h
      · rename_i y r3
        rw [S.rj] at h
        simp only [asLL_to] at h
        obtain ⟨v1, s1, q1⟩ := S.up.get r1
        obtain ⟨v2, s2, q2⟩ := S.up.get r2
        obtain ⟨v3, s3, q3⟩ := S.up.get r3
        have := q1.pile; subst this
        have := q2.int; subst this
        have := q3.int; subst this
        refine rd_call ⟨_, s1, _, S.sj, _, s2, _, s3, ?_⟩
        refine ⟨W, ω, Hc, F, a, as, x, y, hK, hm, hw, rfl, S.base.sub, S.base.pl, S.ha, S.la, S.nd, S.hk, fun b hb => ⟨(S.out b hb).1, S.nl hb⟩, ?_⟩
        unfold seqN at h
        revert h
        cases g2 (rho4 n2 F x y) ω with
        | nx ρ' ω' =>
          intro h σ' Hc' H' F' as' S'
          simp only at h
          rw [S'.rj] at h
          refine h σ Hc' H' F' as' (S.step S'.x S'.base.pl S'.ha S'.la S'.nd S'.hk fun b hb => ⟨(S'.out b hb).1, ?_⟩)
          by_cases z : b ∈ a :: as
          · exact (S.out b z).2
          · have n := (S'.out b hb).2
            rw [cut_out z] at n
            cases q : H0 b with
            | none => rfl
            | some o =>
              by_cases l : b ∈ W.L
              · exact absurd n (S.base.pl.out b l).2
              · rw [S.base.s0 b o l q] at n; cases n
        | rt _ _ => exact fun h => h.elim
        | bk _ _ => exact fun h => h
        | ct _ _ => exact fun h => h
        | err _ _ _ => exact fun h => h
        | stk => exact fun h => h
      · exact h.elim
    · exact h.elim
  · exact h.elim
end
section
variable {ι : Type} (X : L2.FC ι) (W : Wd) (B : List Nat) (j : Nat)
noncomputable def QN (s : Stmt) (g : Sf) : Prop := ∃ t, (∀ x, PS (X x) s t) ∧ DN W B j t g
noncomputable def QNs (s : List Stmt) (g : Sf) : Prop := ∃ t, (∀ x, PSs (X x) s t) ∧ DN W B j t g
end
section
variable {ι : Type} {X : L2.FC ι} {W : Wd} {B : List Nat} {j : Nat} {E : XK} {a b c d b2 c2 : Expr} {fa fb fc fb2 fc2 : Ef} {ft : Tf} {pos p p2 tp tp2 tp3 tp4 : Pos} {i : Nat} {x y' : Str} {s : Stmt} {ss sb : List Stmt} {g g1 g2 : Sf}
theorem qns_nil : QNs X W B j [] sNext := ⟨_, fun ψ => pss_nil, dn_next⟩
theorem qns_one (h : QN X W B j s g) : QNs X W B j [s] g := let ⟨_, p, d⟩ := h; ⟨_, fun y => pss_one (p y), d⟩
theorem qns_cons (h1 : QN X W B j s g1) (h2 : QNs X W B j ss g2) : QNs X W B j (s :: ss) (sSeq g1 g2) := let ⟨_, p, d⟩ := h1; let ⟨_, p2, d2⟩ := h2; ⟨_, fun y => pss_cons (p y) (p2 y), dn_seq d d2⟩
theorem qn_if (hc : QT X W ⟨j :: B, []⟩ E c ft) (h1 : QNs X W B j ss g1) (h2 : QNs X W B j sb g2) : QN X W B j (.If c ss sb pos) (sIf ft g1 g2) := let ⟨_, pc, dc⟩ := hc; let ⟨_, p1, d1⟩ := h1; let ⟨_, p2, d2⟩ := h2; ⟨_, fun y => ps_if (pc y) (p1 y) (p2 y), dn_if dc d1 d2⟩
theorem qn_ret (hN : ∀ y, (X y).N[j]? = some x := by intro ψ; rfl) (hv : ∀ y, Vis (X y).env.scope x := by intro ψ; first | exact Or.inl rfl | exact Or.inr (Or.inl rfl) | exact Or.inr (Or.inr rfl)) (hd : (x == ("__debug__" : Str)) = false := by decide) (hcd : (x == ("__classdict__" : Str)) = false := by decide) : QN X W B j (.Return (some (.Name x p)) pos) (nRet j) :=
  ⟨_, fun y => ps_ret (pe_var (hN y) (hv y) hd hcd), dn_ret⟩
theorem qn_set (i : Nat) (hN : ∀ y, (X y).N.Nodup) (ha : QB X W ⟨j :: B, []⟩ E a fa) (hs : ∀ y, swapsWith a (some (.Name x p)) pos.line (X y).env = pure false := by intro ψ; rfl) (h1 : i ∉ B := by decide) (h2 : i ≠ j := by decide) (hi : ∀ y, (X y).N[i]? = some x := by intro ψ; rfl) (hx : ∀ y, Loc (X y).env.scope x := by intro ψ; first | exact Or.inl rfl | exact Or.inr rfl)
    (hf : ∀ y, (X y).fn x = true ∨ (X y).env.scope.names.lookup x = some .local := by intro ψ; first | exact .inl rfl | exact .inr rfl) : QN X W B j (.Assign [.Name x p] a pos) (nSet i fa) := let ⟨_, pa, da⟩ := ha; ⟨_, fun y => ps_set (hN y) (hi y) (hx y) (pa y) (hs y) (hf y), dn_set h1 h2 da⟩
theorem qn_rep (ha : QF X W ⟨j :: B, []⟩ E a fa) (hb : QB X W ⟨j :: B, []⟩ E b fb) (hN : ∀ y, (X y).N[j]? = some x := by intro ψ; rfl) (hv : ∀ y, Vis (X y).env.scope x := by intro ψ; first | exact Or.inl rfl | exact Or.inr (Or.inl rfl) | exact Or.inr (Or.inr rfl)) (hd : (x == ("__debug__" : Str)) = false := by decide) (hcd : (x == ("__classdict__" : Str)) = false := by decide)
    (hs : ∀ y, swapsWithSole [.Subscript (.Name x p) b tp] a pos.line (X y).env = pure false := by intro ψ; rfl) (hw : ∀ y, swappedStores [.Subscript (.Name x p) b tp] a (X y).env = pure none := by intro ψ; rfl) (h1 : ∀ y, (assignEach [.Subscript (.Name x p) b tp] (X y).env).map (·.2) = [assign (.Subscript (.Name x p) b tp) (X y).env] := by intro ψ; rfl)
    (hq : ∀ y v, assign (.Subscript (.Name x p) b tp) (X y).env v = (do
      let ov ← holding [v] (eval (.Name x p) (X y).env)
      let iv ← holding [v, ov] (eval b (X y).env)
      standAt tp
      holding [v, ov, iv] (setItem ov iv v)
      release [v, ov, iv] []) := by intro ψ ψ; rfl) : QN X W B j (.Assign [.Subscript (.Name x p) b tp] a pos) (nRep j fb fa) :=
  let ⟨_, pa, da⟩ := ha; let ⟨_, pb, db⟩ := hb; ⟨_, fun y => ps_asg (pa y) (pg_sub (pe_var (hN y) (hv y) hd hcd) (pb y) set_list (hq y)) (hs y) (hw y) (h1 y), dn_rep da db⟩
theorem qn_put (cx : Ctx X W E) (ha : QB X W ⟨j :: B, []⟩ E a fa) (hb : QB X W ⟨j :: B, []⟩ E b fb) (hc : QB X W ⟨j :: B, []⟩ E c fc) (hN : ∀ y, (X y).N[j]? = some x := by intro ψ; rfl) (hv : ∀ y, Vis (X y).env.scope x := by intro ψ; first | exact Or.inl rfl | exact Or.inr (Or.inl rfl) | exact Or.inr (Or.inr rfl)) (hd : (x == ("__debug__" : Str)) = false := by decide) (hcd : (x == ("__classdict__" : Str)) = false := by decide) (hi : PlainIx b := by exact fun ψ ψ => rfl)
    (hs : ∀ y, swapsWithSole [.Subscript (.Subscript (.Name x p) b tp2) c tp] a pos.line (X y).env = pure false := by intro ψ; rfl) (hw : ∀ y, swappedStores [.Subscript (.Subscript (.Name x p) b tp2) c tp] a (X y).env = pure none := by intro ψ; rfl) (h1 : ∀ y, (assignEach [.Subscript (.Subscript (.Name x p) b tp2) c tp] (X y).env).map (·.2) = [assign (.Subscript (.Subscript (.Name x p) b tp2) c tp) (X y).env] := by intro ψ; rfl)
    (hq : ∀ y v, assign (.Subscript (.Subscript (.Name x p) b tp2) c tp) (X y).env v = (do
      let ov ← holding [v] (eval (.Subscript (.Name x p) b tp2) (X y).env)
      let iv ← holding [v, ov] (eval c (X y).env)
      standAt tp
      holding [v, ov, iv] (setItem ov iv v)
      release [v, ov, iv] []) := by intro ψ ψ; rfl) : QN X W B j (.Assign [.Subscript (.Subscript (.Name x p) b tp2) c tp] a pos) (nPut j fb fc fa) :=
  let ⟨_, pa, da⟩ := ha; let ⟨_, pb, db⟩ := hb; let ⟨_, pc, dc⟩ := hc; ⟨_, fun y => ps_asg (pa y) (pg_sub (pe_ix (ix_anyK (cx.hK y)) (pe_var (hN y) (hv y) hd hcd) (pb y) hi) (pc y) set_list (hq y)) (hs y) (hw y) (h1 y), dn_put da db dc⟩
theorem qn_sw {k : Nat} {p3 : Pos} (cx : Ctx X W E) (ha : QE X W ⟨j :: B, []⟩ E a fa) (hb : QB X W ⟨j :: B, []⟩ E b fb) (hc : QB X W ⟨j :: B, []⟩ E c fc) (hb2 : QB X W ⟨j :: B, []⟩ E b2 fb2) (hc2 : QB X W ⟨j :: B, []⟩ E c2 fc2) (hN : ∀ y, (X y).N[j]? = some x := by intro ψ; rfl) (hv : ∀ y, Vis (X y).env.scope x := by intro ψ; first | exact Or.inl rfl | exact Or.inr (Or.inl rfl) | exact Or.inr (Or.inr rfl)) (hd : (x == ("__debug__" : Str)) = false := by decide) (hcd : (x == ("__classdict__" : Str)) = false := by decide) (hi : PlainIx b := by exact fun ψ ψ => rfl) (hi2 : PlainIx b2 := by exact fun ψ ψ => rfl)
    (hs : ∀ y, swapsWithSole [.Tuple [.Subscript (.Subscript (.Name x p) b tp2) c tp, .Subscript (.Subscript (.Name x p2) b2 tp3) c2 tp4] k p3] a pos.line (X y).env = pure false := by intro ψ; rfl) (hw : ∀ y, swappedStores [.Tuple [.Subscript (.Subscript (.Name x p) b tp2) c tp, .Subscript (.Subscript (.Name x p2) b2 tp3) c2 tp4] k p3] a (X y).env = pure none := by intro ψ; rfl)
    (h1 : ∀ y, (assignEach [.Tuple [.Subscript (.Subscript (.Name x p) b tp2) c tp, .Subscript (.Subscript (.Name x p2) b2 tp3) c2 tp4] k p3] (X y).env).map (·.2) = [assign (.Tuple [.Subscript (.Subscript (.Name x p) b tp2) c tp, .Subscript (.Subscript (.Name x p2) b2 tp3) c2 tp4] k p3) (X y).env] := by intro ψ; rfl)
    (hq : ∀ y v, assign (.Subscript (.Subscript (.Name x p) b tp2) c tp) (X y).env v = (do
      let ov ← holding [v] (eval (.Subscript (.Name x p) b tp2) (X y).env)
      let iv ← holding [v, ov] (eval c (X y).env)
      standAt tp
      holding [v, ov, iv] (setItem ov iv v)
      release [v, ov, iv] []) := by intro ψ ψ; rfl)
    (hq2 : ∀ y v, assign (.Subscript (.Subscript (.Name x p2) b2 tp3) c2 tp4) (X y).env v = (do
      let ov ← holding [v] (eval (.Subscript (.Name x p2) b2 tp3) (X y).env)
      let iv ← holding [v, ov] (eval c2 (X y).env)
      standAt tp4
      holding [v, ov, iv] (setItem ov iv v)
      release [v, ov, iv] []) := by intro ψ ψ; rfl)
    (hn : ∀ y, (assignEach [.Subscript (.Subscript (.Name x p) b tp2) c tp, .Subscript (.Subscript (.Name x p2) b2 tp3) c2 tp4] (X y).env).length = 2 := by intro ψ; rfl) (hst : ∀ y, (assignEach [.Subscript (.Subscript (.Name x p) b tp2) c tp, .Subscript (.Subscript (.Name x p2) b2 tp3) c2 tp4] (X y).env).findIdx? (·.1) = none := by intro ψ; rfl)
    (hs1 : ∀ y, (assignEach [.Subscript (.Subscript (.Name x p) b tp2) c tp, .Subscript (.Subscript (.Name x p2) b2 tp3) c2 tp4] (X y).env).map (·.2) = assign (.Subscript (.Subscript (.Name x p) b tp2) c tp) (X y).env :: (assignEach [.Subscript (.Subscript (.Name x p2) b2 tp3) c2 tp4] (X y).env).map (·.2) := by intro ψ; rfl)
    (hs2 : ∀ y, (assignEach [.Subscript (.Subscript (.Name x p2) b2 tp3) c2 tp4] (X y).env).map (·.2) = assign (.Subscript (.Subscript (.Name x p2) b2 tp3) c2 tp4) (X y).env :: (assignEach [] (X y).env).map (·.2) := by intro ψ; rfl) :
    QN X W B j (.Assign [.Tuple [.Subscript (.Subscript (.Name x p) b tp2) c tp, .Subscript (.Subscript (.Name x p2) b2 tp3) c2 tp4] k p3] a pos) (nSw j fb fc fb2 fc2 fa) :=
  let ⟨_, pa, da⟩ := ha; let ⟨_, pb, db⟩ := hb; let ⟨_, pc, dc⟩ := hc; let ⟨_, pb2, db2⟩ := hb2; let ⟨_, pc2, dc2⟩ := hc2
  ⟨_, fun y => ps_asg (pa y) (pg_tupK (cx.hK y) (cx.calm y) (pgs_cons (pg_sub (pe_ix (ix_anyK (cx.hK y)) (pe_var (hN y) (hv y) hd hcd) (pb y) hi) (pc y) set_list (hq y)) (pgs_cons (pg_sub (pe_ix (ix_anyK (cx.hK y)) (pe_var (hN y) (hv y) hd hcd) (pb2 y) hi2) (pc2 y) set_list (hq2 y)) pgs_nil (hs2 y)) (hs1 y)) (hn y) (hst y)) (hs y) (hw y) (h1 y), dn_sw da db dc db2 dc2⟩
theorem qn_app {apos cpos : Pos} (cx : Ctx X W E) (hb : QB X W ⟨j :: B, []⟩ E b fb) (ha : QB X W ⟨j :: B, []⟩ E a fa) (hN : ∀ y, (X y).N[j]? = some x := by intro ψ; rfl) (hv : ∀ y, Vis (X y).env.scope x := by intro ψ; first | exact Or.inl rfl | exact Or.inr (Or.inl rfl) | exact Or.inr (Or.inr rfl)) (hd : (x == ("__debug__" : Str)) = false := by decide) (hcd : (x == ("__classdict__" : Str)) = false := by decide) (hi : PlainIx b := by exact fun ψ ψ => rfl)
    (hline : (apos.endLine == cpos.line) = true := by rfl) (hst : ∀ y, starEach [a] (X y).env = (false, eval a (X y).env) :: starEach [] (X y).env := by intro ψ; rfl) (hp : ∀ y, (backTo cpos (starEach [] (X y).env)).any (·.1) = false := by intro ψ; rfl)
    (hbase : ∀ y, attributeBase (.Subscript (.Name x p) b tp) "append" (X y).env (eval (.Subscript (.Name x p) b tp) (X y).env) = eval (.Subscript (.Name x p) b tp) (X y).env := by intro ψ; rfl)
    (hfew : ∀ y, ((backTo cpos (starEach [a] (X y).env)).all (fun x => !x.1) && (backToKw cpos (keywordEach [] (X y).env)).all (fun x => x.1.isSome) && decide (([a] : List Expr).length + ([] : List Keyword).length + (if ([] : List Keyword).isEmpty then 0 else 1) < 30)) = true := by intro ψ; rfl)
    (hs : ∀ y, swapsWith (.Call (.Attribute (.Subscript (.Name x p) b tp) "append" apos) [a] [] cpos) none pos.line (X y).env = pure false := by intro ψ; rfl) : QN X W B j (.Expr (.Call (.Attribute (.Subscript (.Name x p) b tp) "append" apos) [a] [] cpos) pos) (nApp j fb fa) :=
  let ⟨_, pa, da⟩ := ha; let ⟨_, pb, db⟩ := hb; ⟨_, fun y => ps_bmK (cx.hK y) (ps_expr (pe_bm PySem.F.plainAttrs_list PySem.F.slot_list_append PySem.F.type_list_append mt_append (pe_ix (ix_anyK (cx.hK y)) (pe_var (hN y) (hv y) hd hcd) (pb y) hi) (pa_cons (pa y) pa_nil (hst y)) (hbase y) (hfew y) hline (hst y) (hp y)) (hs y)), dn_app db da⟩
theorem qn_call {k : Nat} {f' : Addr} {fd : FuncData} {ps : List Str} {wk : Wd → Prop} {B2 : List Nat} {n2 : Nat} {G : Sf} {x1 x2 x3 x4 : Str} {q1 q2 q3 q4 cpos : Pos} (i1 i3 i4 : Nat) (cx : Ctx X W E) (C : ∀ y, Fn (X y).prog (X y).w (X y).K (X y).mg (X y).base (CX1 (X y).prog (X y).w) k x f' fd ps (spN W.K W.mg wk B2 n2 G)) (hr : ∀ y, Room k (X y).A) (hw : wk W)
    (ha : ∀ y, PA (X y) [.Name x1 q1, .Name x2 q2, .Name x3 q3, .Name x4 q4] (tCons (tVar i1) (tCons (tVar j) (tCons (tVar i3) (tCons (tVar i4) tNil))))) (hg : ∀ y, Gl (X y) x := by intro ψ; rfl) (hd : (x == ("__debug__" : Str)) = false := by decide)
    (hs : ∀ y, starEach [.Name x1 q1, .Name x2 q2, .Name x3 q3, .Name x4 q4] (X y).env = (false, eval (.Name x1 q1) (X y).env) :: starEach [.Name x2 q2, .Name x3 q3, .Name x4 q4] (X y).env := by intro ψ; rfl) (hp : ∀ y, (backTo cpos (starEach [.Name x2 q2, .Name x3 q3, .Name x4 q4] (X y).env)).any (·.1) = false := by intro ψ; rfl)
    (hsw : ∀ y, swapsWith (.Call (.Name x p) [.Name x1 q1, .Name x2 q2, .Name x3 q3, .Name x4 q4] [] cpos) none pos.line (X y).env = pure false := by intro ψ; rfl) : QN X W B j (.Expr (.Call (.Name x p) [.Name x1 q1, .Name x2 q2, .Name x3 q3, .Name x4 q4] [] cpos) pos) (nCall i1 j i3 i4 n2 G) :=
  ⟨_, fun y => ps_expr (pe_call (C y).F (hr y) (hg y) (C y).hm (C y).kp (C y).hb .nil (cx.ps y) (ha y) hd (hs y) (hp y)) (hsw y), dn_call rfl rfl hw⟩
theorem pa_var {Y : Cx} {x : Str} {q : Pos} {es : List Expr} {t : TA} (i : Nat) (r : PA Y es t) (hN : Y.N[i]? = some x := by rfl) (hv : Vis Y.env.scope x := by first | exact Or.inl rfl | exact Or.inr (Or.inl rfl) | exact Or.inr (Or.inr rfl)) (hs : starEach (.Name x q :: es) Y.env = (false, eval (.Name x q) Y.env) :: starEach es Y.env := by rfl) (hd : (x == ("__debug__" : Str)) = false := by decide) (hcd : (x == ("__classdict__" : Str)) = false := by decide) : PA Y (.Name x q :: es) (tCons (tVar i) t) := pa_cons (pe_var hN hv hd hcd) r hs
end
section
variable {X : Unit → Cx} {W : Wd} {B : List Nat} {mb : Md} {E : XK} {elt tg iter : Expr} {ifs : List Expr} {scope : Scope} {pos : Pos} {cl : List (Str × Addr)} {bs caps : List Str} {js : List Nat} {fi : Af} {u : U → En → Option En} {ft : Tf} {fe : Ef} {ss : List Stmt} {g2 : Sf}
theorem qk_nest {y : Str} {py spos : Pos} (j : Nat) (mb : Md) (cx : Ctx X W E) (hN : (X ()).N.Nodup) (c : CompOk (X ()) scope cl js caps) (hi : QI X W ⟨B, []⟩ E true tg iter fi) (hg : QG (blkX (X ()) (bs ++ caps) scope cl) W mb tg u) (ht : QTs (blkX (X ()) (bs ++ caps) scope cl) W mb E0 ifs ft) (he : QF (blkX (X ()) (bs ++ caps) scope cl) W mb E0 elt fe) (h2 : QNs X W B j ss g2)
    (hB : okJ ⟨B, []⟩ mb bs.length js = true := by rfl) (hM : mb.M = [] := by rfl) (hs : ∀ x, foldedSetIterable iter (X ()).env x = pure x := by intro ψ; rfl) (hsw : swapsWith (.ListComp elt [⟨tg, iter, ifs, 0⟩] scope pos) (some (.Name y py)) spos.line (X ()).env = pure true := by rfl)
    (hy : (X ()).N[j]? = some y := by rfl) (hl : (X ()).env.scope.names.lookup y = some .local := by rfl) : QK X W ⟨B, []⟩ E (.Assign [.Name y py] (.ListComp elt [⟨tg, iter, ifs, 0⟩] scope pos) spos :: ss) (nNest j (eComp fi bs.length js u ft fe) g2) :=
  let ⟨_, pi, di⟩ := hi; let ⟨_, pg, dg⟩ := hg; let ⟨_, pt, dt⟩ := ht; let ⟨_, pe, de⟩ := he; let ⟨_, p2, d2⟩ := h2
  ⟨_, fun ψ => pss_cons (ps_setC hsw hN hy hl (cx.calm ()) c (pi ()) (fun C pins fp s2 H2 => pg (C, pins, fp, s2, H2)) (fun C pins fp s2 H2 => pt (C, pins, fp, s2, H2)) (fun C pins fp s2 H2 => pe (C, pins, fp, s2, H2)) hs) (p2 ()), dk_nest di dg dt de (fun p j h z => okJ_of hB p j h z) hM d2⟩
end
noncomputable def Itel (K : PySem.W.Frag) (a : Addr) : It :=
  ⟨fun i H => ∃ xs x, SqL K H a xs ∧ xs[i]? = some x, fun i H v H' => ∃ p x, H p = none ∧ v = .ref p ∧ (∀ xs, SqL K H a xs → xs[i]? = some x) ∧ H' = upd H p (.tup [.int i, x]), fun i H => ∃ xs, SqL K H a xs ∧ xs.length ≤ i⟩
theorem turn_enumL {P : Program} {w : World} {K : PySem.W.Frag} {es : List Expr} {x1 : Nat} {pos : Pos} (a en it : Addr) (ne : en ≠ it) : Turn P w K (.Tuple es x1 pos) (Itel K a) [en, it] en (fun i h => (∃ was, IsEnum h en it i was) ∧ h.IsListIter it a i) where
  mem := by simp
  obj := fun i h st b hb => by
    obtain ⟨⟨was, N⟩, o, go, c, d⟩ := st
    rcases List.mem_cons.mp hb with z | z
    · subst z; exact ⟨_, N, fun v z => by cases z⟩
    · have z2 := List.mem_singleton.mp z
      subst z2; exact ⟨o, go, fun v z => by rw [d] at z; cases z⟩
  keep := fun i h h' st k => by
    obtain ⟨⟨was, N⟩, o, go, r⟩ := st
    exact ⟨⟨was, k en (by simp) _ N⟩, o, k it (by simp) o go, r⟩
  item := by
    intro X hP hw hK hc i pins s σ H E I hf st hg
    subst hP hw hK
    obtain ⟨xs, x, hq, hx⟩ := hg
    obtain ⟨its, rv, p, hz⟩ := I.list hq
    obtain ⟨u, hu, ru⟩ := rv.get hx
    obtain ⟨⟨was, N⟩, J⟩ := st
    refine wpAny_pyNext_enum_item N J p.isList (x := u) (by simpa using hu) ne fun g N1 J1 t1 z1 k1 => ?_
    refine ⟨_, rfl, wpAny_letOwnedTupleGo_enum (s := { s with heap := g, toks := s.toks + 1 }) N1 fun g2 N2 S2 => ?_⟩
    have lt : en < s.heap.objs.size := Heap.lt_size N
    have k2 : ∀ b o, b ∉ [en, it] → s.heap.get? b = some o → g2.get? b = some o := fun b o hb e => (S2.2 b fun z => hb (by simp [z])).trans (k1 b o (fun z => hb (by simp [z])) (fun z => hb (by simp [z])) e)
    obtain ⟨hn, I2⟩ := I.adoptT (h' := g2) (t' := s.toks + 1) (fp := [en, it]) (vs := [.int i, x]) (us := [.int i s.toks, u]) (n := 0) k2 hf ⟨_, (S2.2 _ (Nat.ne_of_gt lt)).trans t1, rfl, _, rfl⟩ (.cons ⟨_, rfl⟩ (.cons ru .nil)) (by show 2 ≤ sizeLine; decide)
    refine ⟨.ref _, _, I2, rfl, ⟨_, x, hn, rfl, fun ys hy => by rw [I.list_inj hy hq]; exact hx, rfl⟩, ⟨⟨u, by simpa using N2⟩, ?_⟩, fun b hb => ?_⟩
    · obtain ⟨o, go, r⟩ := J1; exact ⟨o, (S2.2 it (Ne.symm ne)).trans go, r⟩
    · have ltb : b ≠ s.heap.objs.size := by
        obtain ⟨oi, gi, _⟩ := J
        rcases List.mem_cons.mp hb with z | z
        · rw [z]; exact Nat.ne_of_lt lt
        · rw [List.mem_singleton.mp z]; exact Nat.ne_of_lt (Heap.lt_size gi)
      rw [upd_ne ltb]; exact (hf b hb).1
  done := by
    intro X hP hw hK hc i pins s σ H E I hf st hg
    subst hP hw hK
    obtain ⟨xs, hq, hx⟩ := hg
    obtain ⟨its, rv, p, hz⟩ := I.list hq
    obtain ⟨⟨was, N⟩, J⟩ := st
    have hl := rv.length
    refine wpAny_pyNext_enum_end (I.ok.hd hc) N J p.isList (by simp; omega) fun g eb => ⟨rfl, I.turnedL (t' := s.toks) (fp := [en, it]) (fun b o hb e => eb b o (fun z => hb (by simp [z])) e) hf⟩
  self := fun ψ ψ ψ ψ ψ st h => by
    obtain ⟨⟨was, N⟩, _⟩ := st
    exact wpAny_pyIter_enum N h
noncomputable def iEnumL (K : PySem.W.Frag) (ta : TA) : TI := fun σ H R => ta σ H fun vs H1 => ∃ a, vs = [.ref a] ∧ (∃ xs, SqL K H1 a xs) ∧ R (Itel K a) H1
section
variable {X : Cx}
theorem pi_enumerateL {a : Expr} {ta : TA} {p pos tp : Pos} {es : List Expr} {x1 : Nat} (hg : Gl X "enumerate") (hm : X.mg "enumerate" = none) (ha : PA X [a] ta) (hs : starEach [a] X.env = [(false, eval a X.env)] := by rfl) :
    PI X (.Tuple es x1 tp) (.Call (.Name "enumerate" p) [a] [] pos) (iEnumL X.K ta) := by
  intro pins s σ H R I h
  refine Call_ (ld_blt I hg hm boot_enumerate (PyProof.Rows.callWith_type1 (thn (ha pos pins s σ H _ I h) fun us s1 ⟨vs, H1, I1, r1, q1⟩ => ?_) hs rfl))
  obtain ⟨t, e, ⟨xs, hq⟩, q⟩ := q1
  subst e
  cases r1 with
  | cons r rr =>
    cases rr
    cases r
    obtain ⟨its, rv, pt, hz⟩ := I1.list hq
    refine call_enumerate_list pt.isList fun g N J z k => wpAny_pyIter_enum (s := { s1 with heap := g }) N ?_
    refine ⟨s1.heap.objs.size + 1, [s1.heap.objs.size + 1, s1.heap.objs.size], _, _, H1, rfl, I1.kept (t' := s1.toks) fun b o e => k b o e, turn_enumL t _ _ (Nat.succ_ne_self _), ⟨⟨_, N⟩, J⟩, fun b hb => ?_, q⟩
    have le : s1.heap.objs.size ≤ b := by
      rcases List.mem_cons.mp hb with z | z
      · rw [z]; exact Nat.le_succ _
      · rw [List.mem_singleton.mp z]; exact Nat.le_refl _
    exact I1.fpOk le (I1.hok.fresh le)
end
section
variable {W : Wd} {m : Md} {E : XK} {tr : TA} {fr : Af} {c : Bool}
theorem itel_r {Hb Hc : Hp} {a : Addr} {us : List U} {vs : List V} (r : RUs W Hc us vs) (h : Hc a = some (.lst vs)) : ItR W Hb Hc (Itel W.K a) (enumU us) := by
  intro Hc2 H2 s1 s2 s3
  have ha := s2 _ _ (s1 _ _ h)
  refine ⟨fun i u hu => ?_, vs, .of ha, by unfold enumU; rw [List.length_mapIdx, r.len]; exact Nat.le_refl _⟩
  unfold enumU at hu
  rw [List.getElem?_mapIdx] at hu
  cases q : us[i]? with
  | none => rw [q] at hu; exact noS hu
  | some w =>
    rw [q] at hu; cases hu
    obtain ⟨v, hv, rv⟩ := r.at (i := 0) q
    refine ⟨⟨vs, v, .of ha, hv⟩, fun x H3 y => ?_⟩
    obtain ⟨b, z, hn, rfl, hz, rfl⟩ := y
    have e : vs[i]? = some z := hz vs (.of ha)
    rw [hv] at e; cases e
    refine ⟨upd Hc2 b (.tup [.int i, v]), (Ext.laid s2 hn).1, Same.laid hn, .tup upd_same (.cons .int (.one ((rv.mono s1).mono (Same.laid (s2.free hn)))))⟩
noncomputable def uEnumL : List U → Option (List U)
  | [.lst us] => some (enumU us)
  | _ => none
theorem uEnumL_l {us : List U} : uEnumL [.lst us] = some (enumU us) := rfl
theorem di_enumL (hr : DA W m E [false] tr fr) : DI W m E c (iEnumL W.K tr) (iArgs uEnumL fr) := by
  intro H0 ρ ω σ Hc H ow S R h
  refine hr H0 ρ ω σ Hc H ow S _ ((Aft.bnd h).imp fun us ω1 Hc1 H1 e1 p1 h1 vs rs => ?_)
  revert h1
  cases hg : uEnumL us with
  | none => exact fun h1 => h1.elim
  | some ws =>
    intro h1
    unfold uEnumL at hg
    split at hg
    · cases hg
      cases vs with
      | nil => unfold RBs at rs; exact rs.elim
      | cons v vs =>
        unfold RBs at rs
        obtain ⟨rv, rs⟩ := rs
        cases vs with
        | cons _ _ => unfold RBs at rs; exact rs.elim
        | nil =>
          rw [if_neg Bool.false_ne_true, RU] at rv
          obtain ⟨a, vs, rfl, q, r⟩ := rv
          exact ⟨a, rfl, ⟨vs, .of (e1.sub _ _ q)⟩, h1 Hc1 H1 (Ext.refl e1.sub) p1 _ (itel_r r q)⟩
    · cases hg
end
section
variable {ι : Type} {X : L2.FC ι} {W : Wd} {m : Md} {E : XK} {a : Expr} {fr : Af} {pos p : Pos}
theorem pi_enumLK {Y : Cx} {K : PySem.W.Frag} {a : Expr} {ta : TA} {p pos tp : Pos} {es : List Expr} {x1 : Nat} (h : Y.K = K) (hg : Gl Y "enumerate") (hm : Y.mg "enumerate" = none) (ha : PA Y [a] ta) (hs : starEach [a] Y.env = [(false, eval a Y.env)]) : PI Y (.Tuple es x1 tp) (.Call (.Name "enumerate" p) [a] [] pos) (iEnumL K ta) := h ▸ pi_enumerateL hg hm ha hs
theorem qi_enumL {c : Bool} {tp : Pos} {x1 : Nat} {ts : List Expr} (cx : Ctx X W E) (B : Bl W.mg) (ha : QA X W m E [false] [a] fr) (hg : ∀ y, Gl (X y) "enumerate" := by intro ψ; rfl) (hs : ∀ y, starEach [a] (X y).env = [(false, eval a (X y).env)] := by intro ψ; rfl) : QI X W m E c (.Tuple ts x1 tp) (.Call (.Name "enumerate" p) [a] [] pos) (iArgs uEnumL fr) :=
  let ⟨_, pa, da⟩ := ha; ⟨_, fun y => pi_enumLK (cx.hK y) (hg y) ((congrFun (cx.hm y) _).trans B.enumerate) (pa y) (hs y), di_enumL da⟩
end
noncomputable def rNeN (K : PySem.W.Frag) : R2 := fun x y H Q => ∃ (a b : Addr) (xs : List V), x = .ref a ∧ y = .ref b ∧ SqL K H a xs ∧ SqL K H b [] ∧ Q (.bl (decide (0 < xs.length))) H
theorem op_neN {X : Cx} (hu : X.A.units + 64 < cLine) : OpR X (compareOp .NotEq) (rNeN X.K) := by
  intro pins s σ H x y v u Q I rx ry h
  obtain ⟨a, b, xs, rfl, rfl, ha, hb, q⟩ := h
  cases rx; cases ry
  obtain ⟨its, r1, pt, _⟩ := I.list ha
  obtain ⟨its2, r2, pt2, _⟩ := I.list hb
  have l1 := r1.length
  have l2 := r2.length
  have l3 : its2 = [] := by cases its2 with
    | nil => rfl
    | cons _ _ => simp at l2
  subst l3
  by_cases hl : its.length = 0
  · have e0 : its = [] := List.length_eq_zero_iff.mp hl
    subst e0
    refine SeqAt.RcNeAt.lists (e := fun ψ => true) pt.isList pt2.isList rfl (by lia) (fun j h1 h2 => absurd h1 (by simp)) X.prog X.w X.xe _ ⟨.bl _, H, I, rfl, ?_⟩
    rw [show decide (0 < xs.length) = false by rw [l1]; rfl] at q
    exact q
  · refine SeqAt.RcNeAt.lists_lengths pt.isList pt2.isList (by simpa using hl) (by lia) X.prog X.w X.xe _ ⟨.bl _, H, I, rfl, ?_⟩
    rw [show decide (0 < xs.length) = true from decide_eq_true (by lia)] at q
    exact q
theorem op_neNK {X : Cx} {K : PySem.W.Frag} (h : X.K = K) (hu : X.A.units + 64 < cLine) : OpR X (compareOp .NotEq) (rNeN K) := h ▸ op_neN hu
noncomputable def uNeN : U → U → Option U
  | .lst us, .lst [] => some (.bl (decide (0 < us.length)))
  | _, _ => none
theorem uNeN_l {us : List U} : uNeN (.lst us) (.lst []) = some (.bl (decide (0 < us.length))) := rfl
theorem ou_neN {W : Wd} : OpU W (rNeN W.K) uNeN := by
  intro Hc H ω u1 u2 x y s p rx ry u e Q k
  unfold uNeN at e
  split at e
  · cases e
    obtain ⟨a, vs, rfl, h1, r1⟩ := rx.lst s
    obtain ⟨b, ws, rfl, h2, r2⟩ := ry.lst s
    rw [RUs] at r2; subst r2
    exact ⟨a, b, vs, rfl, rfl, .of h1, .of h2, by rw [← r1.len]; exact k _ Hc H (Ext.refl s) p .bl⟩
  · cases e
section
variable {ι : Type} {X : L2.FC ι} {W : Wd} {m : Md} {E : XK} {a b : Expr} {fa fb : Ef} {pos : Pos}
theorem qt_neN (cx : Ctx X W E) (ha : QB X W m E a fa) (hb : QB X W m E b fb) : QT X W m E (.Compare a [.NotEq] [b] pos) (tfB (eOp uNeN fa fb)) := qt_cmp (fun y => op_neNK (cx.hK y) (cx.hu y)) ou_neN (nomark _) ha hb
end
section
variable {i j p w l n2 : Nat} {fa fb fi fk fi2 fk2 : Ef} {ρ : En} {ω : Om} {g : Sf} {a b c d r : List Int} {n x y k : Int} {f : List (List Int) → Option (List (List Int))} {u : U} {m : Nat}
noncomputable abbrev L4 (a b c d : List Int) : U := .lst [.lst (a.map U.int), .lst (b.map U.int), .lst (c.map U.int), .lst (d.map U.int)]
noncomputable def nxO (o : Option (List (List Int))) (j : Nat) (ρ : En) (ω : Om) : Fl := match o with
  | some F => .nx (ρ.set j (some (ofLL F))) ω
  | none => .stk
noncomputable def nxU (o : Option (Option U)) (j : Nat) (ρ : En) (ω : Om) (f : List (List Int) → Option (List (List Int))) : Fl := match o with
  | some (some u) => nxO ((asLL u).bind f) j ρ ω
  | _ => .stk
theorem nxF_ap : nxF j ρ ω f = nxU (ρ[j]?) j ρ ω f := by
  unfold nxF nxU nxO
  cases ρ[j]? with
  | none => rfl
  | some o => cases o <;> rfl
theorem nxU_s : nxU (some (some u)) j ρ ω f = nxO ((asLL u).bind f) j ρ ω := rfl
theorem nxO_s : nxO (some [a, b, c, d]) j ρ ω = .nx (ρ.set j (some (L4 a b c d))) ω := rfl
theorem asLL4 : asLL (L4 a b c d) = some [a, b, c, d] := asLL_to [a, b, c, d]
theorem nSet_ap : nSet i fa ρ ω = okI (fa ρ ω) fun n ω1 => .nx (ρ.set i (some (.int n))) ω1 := rfl
theorem nPut_ap : nPut j fk fi fa ρ ω = okI (fa ρ ω) fun n ω1 => okI (fk ρ ω1) fun k ω2 => okI (fi ρ ω2) fun i ω3 => nxF j ρ ω3 fun F => putLL F k i n := rfl
theorem nRep_ap : nRep j fk fa ρ ω = okL (fa ρ ω) fun ns ω1 => okI (fk ρ ω1) fun k ω2 => nxF j ρ ω2 fun F => repLL F k ns := rfl
theorem nApp_ap : nApp j fk fa ρ ω = okI (fk ρ ω) fun k ω1 => okI (fa ρ ω1) fun n ω2 => nxF j ρ ω2 fun F => appLL F k n := rfl
theorem nSw_ap : nSw j fk fi fk2 fi2 fa ρ ω = okP (fa ρ ω) fun n m ω1 => seqN (putN j fk fi n ρ ω1) fun ρ1 ω2 => putN j fk2 fi2 m ρ1 ω2 := rfl
theorem putN_ap : putN j fk fi n ρ ω = okI (fk ρ ω) fun k ω2 => okI (fi ρ ω2) fun i ω3 => nxF j ρ ω3 fun F => putLL F k i n := rfl
theorem seqN_nx {k : En → Om → Fl} : seqN (.nx ρ ω) k = k ρ ω := rfl
noncomputable def retN (o : Option (Option U)) (ω : Om) : Fl := match o with
  | some (some u) => .rt u ω
  | _ => .stk
theorem nRet_ap : nRet j ρ ω = retN (ρ[j]?) ω := rfl
theorem noE_rt : noE (.rt u ω) = .rt u ω := rfl
theorem okL_rep {k : List Int → Om → Fl} : okL (.ok (.lst (c.map U.int ++ List.replicate m (.int n))) ω) k = k (c ++ List.replicate m n) ω := by
  have := okL_ok (ns := c ++ List.replicate m n) (ω := ω) (k := k); simpa using this
theorem okL_1 {k : List Int → Om → Fl} : okL (.ok (.lst (c.map U.int ++ [.int n])) ω) k = k (c ++ [n]) ω := by
  have := okL_ok (ns := c ++ [n]) (ω := ω) (k := k); simpa using this
theorem okL_2 {k : List Int → Om → Fl} : okL (.ok (.lst (c.map U.int ++ [.int n, .int x])) ω) k = k (c ++ [n, x]) ω := by
  have := okL_ok (ns := c ++ [n, x]) (ω := ω) (k := k); simpa using this
theorem ixN_in {m : Nat} {i : Int} (h0 : 0 ≤ i) (h1 : i < m) : ixN m i = some i.toNat := by unfold ixN; rw [if_pos h0, if_pos h1]
theorem putLL_0 (h0 : 0 ≤ k) (h1 : k < a.length) : putLL [a, b, c, d] 0 k n = some [a.set k.toNat n, b, c, d] := by
  show (ixN a.length k).map _ = _; rw [ixN_in h0 h1]; rfl
theorem putLL_1 (h0 : 0 ≤ k) (h1 : k < b.length) : putLL [a, b, c, d] 1 k n = some [a, b.set k.toNat n, c, d] := by
  show (ixN b.length k).map _ = _; rw [ixN_in h0 h1]; rfl
theorem putLL_2 (h0 : 0 ≤ k) (h1 : k < c.length) : putLL [a, b, c, d] 2 k n = some [a, b, c.set k.toNat n, d] := by
  show (ixN c.length k).map _ = _; rw [ixN_in h0 h1]; rfl
theorem putLL_3 (h0 : 0 ≤ k) (h1 : k < d.length) : putLL [a, b, c, d] 3 k n = some [a, b, c, d.set k.toNat n] := by
  show (ixN d.length k).map _ = _; rw [ixN_in h0 h1]; rfl
theorem repLL_0 : repLL [a, b, c, d] 0 r = some [r, b, c, d] := rfl
theorem repLL_1 : repLL [a, b, c, d] 1 r = some [a, r, c, d] := rfl
theorem repLL_2 : repLL [a, b, c, d] 2 r = some [a, b, r, d] := rfl
theorem appLL_3 (h : d.length < 1000000) : appLL [a, b, c, d] 3 n = some [a, b, c, d ++ [n]] := by
  show (if d.length < sizeLine then some [a, b, c, d ++ [n]] else none) = _
  rw [ite_lt h]
theorem atI_q2 {α : Type} {x0 x1 x2 : α} {l : List α} : atI (x0 :: x1 :: x2 :: l) 2 = some x2 := atI_cast (x0 :: x1 :: x2 :: l) 2
theorem atI_q3 {α : Type} {x0 x1 x2 x3 : α} {l : List α} : atI (x0 :: x1 :: x2 :: x3 :: l) 3 = some x3 := atI_cast (x0 :: x1 :: x2 :: x3 :: l) 3
theorem atI_m1 (h : 0 < d.length) : atI (d.map U.int) (-1) = some (.int (d.getLastD 0)) := by
  rcases List.eq_nil_or_concat d with rfl | ⟨l, x, rfl⟩
  · simp at h
  · rw [List.concat_eq_append, List.map_append, List.map_cons, List.map_nil, atI_end]; simp
noncomputable def callN (o1 o2 o3 o4 : Option (Option U)) (n2 : Nat) (g2 : Sf) (j : Nat) (ρ : En) (ω : Om) : Fl := match o1 with
  | some (some .pile) => match o2 with
    | some (some (.int x)) => match o3 with
      | some (some (.int y)) => match o4 with
        | some (some u) => match asLL u with
          | some F => seqN (g2 (rho4 n2 F x y) ω) fun ρ' ω' => match ρ'[1]? with
            | some (some u') => .nx (ρ.set j (some u')) ω'
            | _ => .stk
          | none => .stk
        | _ => .stk
      | _ => .stk
    | _ => .stk
  | _ => .stk
theorem nCall_ap : nCall p j w l n2 g ρ ω = callN (ρ[p]?) (ρ[w]?) (ρ[l]?) (ρ[j]?) n2 g j ρ ω := rfl
noncomputable def back1 (j : Nat) (ρ : En) (o : Option (Option U)) (ω : Om) : Fl := match o with
  | some (some u') => .nx (ρ.set j (some u')) ω
  | _ => .stk
theorem callN_s : callN (some (some .pile)) (some (some (.int x))) (some (some (.int y))) (some (some (L4 a b c d))) n2 g j ρ ω = seqN (g (some .pile :: some (L4 a b c d) :: some (.int x) :: some (.int y) :: List.replicate n2 none) ω) fun ρ' ω' => back1 j ρ (ρ'[1]?) ω' := by
  unfold callN; simp only; rw [asLL4]; rfl
theorem back1_s : back1 j ρ (some (some u)) ω = .nx (ρ.set j (some u)) ω := rfl
end
end L2
namespace My
open PySem L2 PyProof.Rows
set_option maxHeartbeats 4000000
section EvBlock
noncomputable def Bs (bs : List Int) : Prop := ∀ b ∈ bs, 2 ≤ b ∧ b ≤ 1000000
theorem Bs.tail {b : Int} {bs : List Int} (h : Bs (b :: bs)) : Bs bs := fun c hc => h c (List.mem_cons_of_mem _ hc)
noncomputable def pr : List Int → Int
  | [] => 1
  | b :: bs => b * pr bs
noncomputable def vb : List Int → List Int → Int
  | b :: bs, d :: ds => d + b * vb bs ds
  | _, _ => 0
noncomputable def fwx : List Int → List Int → Option Nat
  | _, [] => none
  | [], _ :: _ => some 0
  | b :: bs, d :: ds => if 0 ≤ d ∧ d < b then (fwx bs ds).map (· + 1) else some 0
noncomputable def strip : List Int → List Int
  | [] => []
  | d :: ds => if strip ds = [] ∧ d = 0 then [] else d :: strip ds
theorem strip_0 : ∀ l : List Int, strip (l ++ [0]) = strip l
  | [] => by simp [strip]
  | d :: l => by rw [List.cons_append, strip, strip, strip_0 l]
theorem strip_n {d : Int} (h : d ≠ 0) : ∀ l : List Int, strip (l ++ [d]) = l ++ [d]
  | [] => by simp [strip, h]
  | c :: l => by rw [List.cons_append, strip, strip_n h l, if_neg (by simp)]
noncomputable def bat (h r : List Int) (i : Nat) : Option Int := if i < h.length then h[i]? else r[(i - h.length) % r.length]?
theorem bat_some {h r : List Int} {i : Nat} (c : 0 < r.length ∨ i < h.length) : ∃ b, bat h r i = some b ∧ (b ∈ h ∨ b ∈ r) := by
  unfold bat
  by_cases z : i < h.length
  · rw [if_pos z, List.getElem?_eq_getElem z]; exact ⟨_, rfl, .inl (List.getElem_mem z)⟩
  · have l : (i - h.length) % r.length < r.length := Nat.mod_lt _ (by lia)
    rw [if_neg z, List.getElem?_eq_getElem l]; exact ⟨_, rfl, .inr (List.getElem_mem l)⟩
theorem bat_none {h r : List Int} {i : Nat} (c : ¬ (0 < r.length ∨ i < h.length)) : bat h r i = none := by
  unfold bat
  rw [if_neg (by lia), List.getElem?_eq_none (by rw [show r.length = 0 by lia]; simp)]
noncomputable def fbp (f : Nat → Option Int) : Nat → Nat → List Int
  | _, 0 => []
  | p, n + 1 => match f p with
    | none => []
    | some b => b :: fbp f (p + 1) n
theorem fbp_len (f : Nat → Option Int) : ∀ (n p : Nat), (fbp f p n).length ≤ n
  | 0, p => by simp [fbp]
  | n + 1, p => by
    unfold fbp
    cases f p with
    | none => simp
    | some b => have := fbp_len f n (p + 1); simp; lia
theorem fbp_get {f : Nat → Option Int} (hf : ∀ i, f i = none → f (i + 1) = none) : ∀ (n p i : Nat), i < n → (fbp f p n)[i]? = f (p + i)
  | 0, p, i, h => by lia
  | n + 1, p, i, h => by
    unfold fbp
    cases q : f p with
    | none =>
      have : ∀ j, f (p + j) = none := fun j => by
        induction j with
        | zero => exact q
        | succ j ih => exact hf _ ih
      simp [this i]
    | some b =>
      cases i with
      | zero => simp [q]
      | succ i => rw [show p + (i + 1) = p + 1 + i by lia]; simpa using fbp_get hf n (p + 1) i (by lia)
theorem bat_mono (h r : List Int) (i : Nat) (e : bat h r i = none) : bat h r (i + 1) = none := by
  by_cases c : 0 < r.length ∨ i < h.length
  · obtain ⟨b, q, _⟩ := bat_some c; rw [q] at e; cases e
  · exact bat_none (by lia)
theorem fbp_take {h r : List Int} {n : Nat} {l : List Int} (e : ∀ i, i < l.length → l[i]? = bat h r i) (c : n ≤ l.length ∨ (r = [] ∧ l = h)) : l.take n = fbp (bat h r) 0 n := by
  apply List.ext_getElem?
  intro i
  by_cases hi : i < n
  · rw [List.getElem?_take_of_lt hi, fbp_get (bat_mono h r) n 0 i hi, Nat.zero_add]
    rcases c with c | ⟨c1, c2⟩
    · exact e i (by lia)
    · by_cases z : i < l.length
      · exact e i z
      · rw [List.getElem?_eq_none (by lia), bat_none (by subst c1; subst c2; simp; lia)]
  · rw [List.getElem?_eq_none (by simp; lia), List.getElem?_eq_none (by have := fbp_len (bat h r) n 0; lia)]
theorem fbp_Bs {h r : List Int} (hh : Bs h) (hr : Bs r) : ∀ (n p : Nat), Bs (fbp (bat h r) p n)
  | 0, p => by intro b hb; cases hb
  | n + 1, p => by
    unfold fbp
    by_cases c : 0 < r.length ∨ p < h.length
    · obtain ⟨b, q, m⟩ := bat_some c
      rw [q]
      intro x hx
      rcases List.mem_cons.mp hx with rfl | hx
      · rcases m with m | m
        · exact hh _ m
        · exact hr _ m
      · exact fbp_Bs hh hr n (p + 1) x hx
    · rw [bat_none c]; intro b hb; cases hb
noncomputable def Pre (f : Nat → Option Int) : Nat → List Int → Prop
  | _, [] => True
  | p, b :: bs => f p = some b ∧ Pre f (p + 1) bs
theorem pre_fbp (f : Nat → Option Int) : ∀ (n p : Nat), Pre f p (fbp f p n)
  | 0, p => trivial
  | n + 1, p => by
    unfold fbp
    cases q : f p with
    | none => trivial
    | some b => exact ⟨q, pre_fbp f n (p + 1)⟩
theorem div_lt' {n b : Int} (h : 0 < n) (hb : 2 ≤ b) : n / b < n := Int.ediv_lt_of_lt_mul (by lia) (by
    have := Int.mul_le_mul_of_nonneg_left hb (show 0 ≤ n by lia)
    lia)
noncomputable def dgsF (f : Nat → Option Int) : Nat → Nat → Int → Option (List Int)
  | 0, _, _ => some []
  | k + 1, p, n => if n ≤ 0 then some [] else match f p with
    | none => none
    | some b => if 2 ≤ b then (dgsF f k (p + 1) (n / b)).map (n % b :: ·) else none
noncomputable def dgs (f : Nat → Option Int) (p : Nat) (n : Int) : Option (List Int) := dgsF f n.toNat p n
theorem dgsF_0 {f : Nat → Option Int} {k p : Nat} {n : Int} (h : n ≤ 0) : dgsF f k p n = some [] := by
  cases k with
  | zero => rfl
  | succ k => rw [dgsF, if_pos h]
theorem dgsF_eq {f : Nat → Option Int} : ∀ (k j p : Nat) (n : Int), n.toNat ≤ k → n.toNat ≤ j → dgsF f k p n = dgsF f j p n
  | 0, j, p, n, h, _ => by rw [dgsF_0 (show n ≤ 0 by lia), dgsF_0 (show n ≤ 0 by lia)]
  | k + 1, 0, p, n, _, h => by rw [dgsF_0 (show n ≤ 0 by lia), dgsF_0 (show n ≤ 0 by lia)]
  | k + 1, j + 1, p, n, h1, h2 => by
    rw [dgsF, dgsF]
    by_cases c : n ≤ 0
    · rw [if_pos c, if_pos c]
    · rw [if_neg c, if_neg c]
      cases f p with
      | none => rfl
      | some b =>
        by_cases hb : 2 ≤ b
        · have := div_lt' (by lia) hb (n := n)
          simp only [if_pos hb]
          rw [dgsF_eq k j (p + 1) (n / b) (by lia) (by lia)]
        · simp only [if_neg hb]
theorem dgs_u (f : Nat → Option Int) (p : Nat) (n : Int) : dgs f p n = if _h : n ≤ 0 then some [] else match f p with
    | none => none
    | some b => if _h : 2 ≤ b then (dgs f (p + 1) (n / b)).map (n % b :: ·) else none := by
  by_cases c : n ≤ 0
  · rw [dif_pos c]; exact dgsF_0 c
  · rw [dif_neg c]
    obtain ⟨k, hk⟩ : ∃ k, n.toNat = k + 1 := ⟨n.toNat - 1, by lia⟩
    rw [dgs, hk, dgsF, if_neg c]
    cases f p with
    | none => rfl
    | some b =>
      by_cases hb : 2 ≤ b
      · have := div_lt' (by lia) hb (n := n)
        simp only [if_pos hb, dif_pos hb]
        rw [dgs, dgsF_eq k (n / b).toNat (p + 1) (n / b) (by lia) (Nat.le_refl _)]
      · simp only [if_neg hb, dif_neg hb]
theorem dgs_nil {f : Nat → Option Int} {p : Nat} {n : Int} (h : dgs f p n = some []) : n ≤ 0 := by
  rw [dgs_u] at h
  by_cases c : n ≤ 0
  · exact c
  · rw [dif_neg c] at h
    cases q : f p with
    | none => rw [q] at h; cases h
    | some b =>
      rw [q] at h; simp only at h
      by_cases hb : 2 ≤ b
      · rw [dif_pos hb] at h
        cases q2 : dgs f (p + 1) (n / b) with
        | none => rw [q2] at h; cases h
        | some t => rw [q2] at h; cases h
      · rw [dif_neg hb] at h; cases h
noncomputable def wi : Int → List Int → List Int
  | _, [] => []
  | w, b :: bs => w :: wi (w * b) bs
noncomputable def ln (f : Nat → Option Int) (n : Int) : Int := max 1 (((dgs f 0 n).getD []).length : Int)
noncomputable def gd (a b : Int) : Int := ((Int.gcd a b : Nat) : Int)
noncomputable def fr (a b : Int) : List Int := [a / gd a b, b / gd a b]
noncomputable def hz : Int → List Int → List Int → Int
  | n, b :: bs, d :: ds => hz (n * b + d) bs ds
  | n, _, _ => n
noncomputable def sh (x : Nat → Int) : Nat → Int := fun i => x (i + 1)
noncomputable def ro (ds : List Int) : Nat → Int := fun i => ds.getD i 0
theorem fbp_full {h r : List Int} (hr : 0 < r.length) : ∀ (n p : Nat), (fbp (bat h r) p n).length = n
  | 0, _ => rfl
  | n + 1, p => by
    obtain ⟨b, hb, _⟩ := bat_some (h := h) (r := r) (i := p) (.inl hr)
    rw [fbp, hb]
    show (b :: fbp (bat h r) (p + 1) n).length = n + 1
    rw [List.length_cons, fbp_full hr n]
noncomputable def vl (h r ds : List Int) : Int := vb (fbp (bat h r) 0 ds.length) ds
noncomputable def top (i : Nat) : Stmt := PySem.Challenge.pw_mixedscales_k52_whole_sums_spoilt_twice.main.body.getD i (.Pass ⟨0, 0, 0, 0⟩)
noncomputable def wkT (_ : Wd) : Prop := True
structure Tx (K : PySem.W.Frag) (mg : L2.SV) : Prop where
  t : True
  x_NoPlace : XOk K mg "NoPlace"
section
variable {P : Program} {w : World} {K : PySem.W.Frag} {mg : L2.SV} {base : Heap}
noncomputable abbrev s_q11 : Stmt := top 4
noncomputable abbrev N_q11 : List Str := ["scale", "place"]
noncomputable abbrev p_q11 : List Str := ["scale", "place"]
theorem sc_q11 : FnScope N_q11 p_q11 (defScope s_q11) := ⟨rfl, rfl, rfl, by decide +kernel, rfl, by decide +kernel, by decide +kernel⟩
noncomputable abbrev b_q11 : List Bool := [true, true]
noncomputable def g_q11 : Sf := (sSeq (sIf (tfB (eOp uLt (eVar 1) (eC (.int 0)))) (sRet (eC (.bl false))) sNext)
      (sRet (eOr (eOp uGt (eB uLen (aCons (eOp uIx (eVar 0) (eC (.int 1))) aNil)) (eC (.int 0))) (eOp uLt (eVar 1) (eB uLen (aCons (eOp uIx (eVar 0) (eC (.int 0))) aNil))))))
noncomputable def F_q11 : Ff := runU N_q11.length g_q11
theorem ok_q11 {f : Addr} {fd : FuncData} (F : Fun K "has_place" "has_place" s_q11 f fd) (B : Bl mg) (kt : Kt K) (T : Tx K mg)  : FnOk P w K mg base (CX1 P w) 1 f fd p_q11 (spU K mg wkT b_q11.length b_q11 F_q11) := by
  have nd := sc_q11.nd
  refine F.okQ (N := N_q11) (ps := p_q11) (bs := b_q11) (wk := wkT) (m := ⟨[0, 1], []⟩) (g := g_q11) sc_q11 rfl rfl (by decide) fun cdv A outer s H E W hK hm hw hr hA => ?_
  subst hK; subst hm
  have cx := ctx_def (W := W) (P := P) (w := w) (base := base) (N := N_q11) (outer := outer) (H := H) (E := E) rfl rfl hr
  exact (qk_cons (qs_if (qt_lt (qb_var 1) (QE.tb qe_int)) (qss_one (qs_ret qe_bl)) qss_nil)
      (qk_one (qs_ret (qe_or (QE.tb (qe_gt (QE.tb (qe_len cx B (QE.tb (qe_ix cx (qb_var 0) (QE.tb qe_int))))) (QE.tb qe_int))) (qe_one (qe_lt (qb_var 1) (QE.tb (qe_len cx B (QE.tb (qe_ix cx (qb_var 0) (QE.tb qe_int)))))))))))
noncomputable abbrev s_q0 : Stmt := top 5
noncomputable abbrev N_q0 : List Str := ["scale", "place"]
noncomputable abbrev p_q0 : List Str := ["scale", "place"]
theorem sc_q0 : FnScope N_q0 p_q0 (defScope s_q0) := ⟨rfl, rfl, rfl, by decide +kernel, rfl, by decide +kernel, by decide +kernel⟩
noncomputable abbrev b_q0 : List Bool := [true, true]
noncomputable def g_q0 : Sf := (sIf (tfNot (tfB (eCall F_q11 (aCons (eVar 0) (aCons (eVar 1) aNil))))) (sRaise "NoPlace" (eC (.str "the scale has no such place"))) sNext)
noncomputable def F_q0 : Ff := runU N_q0.length g_q0
theorem ok_q0 {f : Addr} {fd : FuncData} (F : Fun K "refuse_no_place" "refuse_no_place" s_q0 f fd) (B : Bl mg) (kt : Kt K) (T : Tx K mg) {a_q11 : Addr} {d_q11 : FuncData} (c_q11 : Fn P w K mg base (CX1 P w) 1 "has_place" a_q11 d_q11 p_q11 (spU K mg wkT b_q11.length b_q11 F_q11)) : FnOk P w K mg base (CX1 P w) 2 f fd p_q0 (spU K mg wkT b_q0.length b_q0 F_q0) := by
  have nd := sc_q0.nd
  refine F.okQ (N := N_q0) (ps := p_q0) (bs := b_q0) (wk := wkT) (m := ⟨[0, 1], []⟩) (g := g_q0) sc_q0 rfl rfl (by decide) fun cdv A outer s H E W hK hm hw hr hA => ?_
  subst hK; subst hm
  have cx := ctx_def (W := W) (P := P) (w := w) (base := base) (N := N_q0) (outer := outer) (H := H) (E := E) rfl rfl hr
  have hw_q11 : wkT W := trivial
  exact (qk_one (qs_if (qt_not (qt_val (QE.tb (qe_call cx (fun ψ => c_q11) (fun ψ => hr.mono (by decide)) hw_q11 (qa_b (qb_var 0) (qa_b (qb_var 1) qa_nil)))))) (qss_one (qs_raise hA rfl T.x_NoPlace (QE.tb qe_str))) qss_nil))
noncomputable abbrev s_q17 : Stmt := top 6
noncomputable abbrev N_q17 : List Str := ["scale", "place", "head", "ring"]
noncomputable abbrev p_q17 : List Str := ["scale", "place"]
theorem sc_q17 : FnScope N_q17 p_q17 (defScope s_q17) := ⟨rfl, rfl, rfl, by decide +kernel, rfl, by decide +kernel, by decide +kernel⟩
noncomputable abbrev b_q17 : List Bool := [true, true]
noncomputable def g_q17 : Sf := (sSeq (sExpr (eCall F_q0 (aCons (eVar 0) (aCons (eVar 1) aNil))))
      (sSeq (sSet 2 (eOp uIx (eVar 0) (eC (.int 0))))
      (sSeq (sSet 3 (eOp uIx (eVar 0) (eC (.int 1))))
      (sSeq (sIf (tfB (eOp uLt (eVar 1) (eB uLen (aCons (eVar 2) aNil)))) (sRet (eOp uIx (eVar 2) (eVar 1))) sNext)
      (sRet (eOp uIx (eVar 3) (eOp uMod (eOp uSub (eVar 1) (eB uLen (aCons (eVar 2) aNil))) (eB uLen (aCons (eVar 3) aNil)))))))))
noncomputable def F_q17 : Ff := runU N_q17.length g_q17
theorem ok_q17 {f : Addr} {fd : FuncData} (F : Fun K "base_at" "base_at" s_q17 f fd) (B : Bl mg) (kt : Kt K) (T : Tx K mg) {a_q0 : Addr} {d_q0 : FuncData} (c_q0 : Fn P w K mg base (CX1 P w) 2 "refuse_no_place" a_q0 d_q0 p_q0 (spU K mg wkT b_q0.length b_q0 F_q0)) : FnOk P w K mg base (CX1 P w) 3 f fd p_q17 (spU K mg wkT b_q17.length b_q17 F_q17) := by
  have nd := sc_q17.nd
  refine F.okQ (N := N_q17) (ps := p_q17) (bs := b_q17) (wk := wkT) (m := ⟨[0, 1], []⟩) (g := g_q17) sc_q17 rfl rfl (by decide) fun cdv A outer s H E W hK hm hw hr hA => ?_
  subst hK; subst hm
  have cx := ctx_def (W := W) (P := P) (w := w) (base := base) (N := N_q17) (outer := outer) (H := H) (E := E) rfl rfl hr
  have hw_q0 : wkT W := trivial
  exact (qk_cons (qs_expr (QE.tb (qe_call cx (fun ψ => c_q0) (fun ψ => hr.mono (by decide)) hw_q0 (qa_b (qb_var 0) (qa_b (qb_var 1) qa_nil)))))
      (qk_cons (qs_set 2 (fun ψ => nd) (qe_ix cx (qb_var 0) (QE.tb qe_int)) (hs := fun ψ => sw_sub))
      (qk_cons (qs_set 3 (fun ψ => nd) (qe_ix cx (qb_var 0) (QE.tb qe_int)) (hs := fun ψ => sw_sub))
      (qk_cons (qs_if (qt_lt (qb_var 1) (QE.tb (qe_len cx B (qb_var 2)))) (qss_one (qs_ret (qe_ix cx (qb_var 2) (qb_var 1)))) qss_nil)
      (qk_one (qs_ret (qe_ix cx (qb_var 3) (QE.tb (qe_mod (QE.tb (qe_sub (qb_var 1) (QE.tb (qe_len cx B (qb_var 2))))) (QE.tb (qe_len cx B (qb_var 3))))))))))))
noncomputable abbrev s_q4 : Stmt := top 7
noncomputable abbrev N_q4 : List Str := ["scale", "digits", "place", "digit"]
noncomputable abbrev p_q4 : List Str := ["scale", "digits"]
theorem sc_q4 : FnScope N_q4 p_q4 (defScope s_q4) := ⟨rfl, rfl, rfl, by decide +kernel, rfl, by decide +kernel, by decide +kernel⟩
noncomputable abbrev b_q4 : List Bool := [true, true]
noncomputable def B_q4_0 : Sf := (sSeq (sIf (tfNot (tfB (eCall F_q11 (aCons (eVar 0) (aCons (eVar 2) aNil))))) (sRet (eVar 2)) sNext)
      (sIf (tfOr (tfB (eOp uLt (eVar 3) (eC (.int 0)))) (tfB (eOp uGe (eVar 3) (eCall F_q17 (aCons (eVar 0) (aCons (eVar 2) aNil)))))) (sRet (eVar 2)) sNext))
noncomputable def g_q4 : Sf := (sSeq (sFor (iArgs uEnum (aCons (eVar 1) aNil)) (aTup 2 (aConsT (aName 2) (aConsT (aName 3) aNilT))) B_q4_0)
      (sRet (eC .non)))
noncomputable def F_q4 : Ff := runU N_q4.length g_q4
theorem ok_q4 {f : Addr} {fd : FuncData} (F : Fun K "first_wrong" "first_wrong" s_q4 f fd) (B : Bl mg) (kt : Kt K) (T : Tx K mg) {a_q11 : Addr} {d_q11 : FuncData} (c_q11 : Fn P w K mg base (CX1 P w) 1 "has_place" a_q11 d_q11 p_q11 (spU K mg wkT b_q11.length b_q11 F_q11)) {a_q17 : Addr} {d_q17 : FuncData} (c_q17 : Fn P w K mg base (CX1 P w) 3 "base_at" a_q17 d_q17 p_q17 (spU K mg wkT b_q17.length b_q17 F_q17)) : FnOk P w K mg base (CX1 P w) 4 f fd p_q4 (spU K mg wkT b_q4.length b_q4 F_q4) := by
  have nd := sc_q4.nd
  refine F.okQ (N := N_q4) (ps := p_q4) (bs := b_q4) (wk := wkT) (m := ⟨[0, 1], []⟩) (g := g_q4) sc_q4 rfl rfl (by decide) fun cdv A outer s H E W hK hm hw hr hA => ?_
  subst hK; subst hm
  have cx := ctx_def (W := W) (P := P) (w := w) (base := base) (N := N_q4) (outer := outer) (H := H) (E := E) rfl rfl hr
  have hw_q11 : wkT W := trivial
  have hw_q17 : wkT W := trivial
  exact (qk_cons (qs_for cx pw_def (qi_enum cx B (qa_b (qb_var 1) qa_nil)) (qg_tup (n := 2) cx (qgs_cons (qg_name 2 (fun ψ => nd)) (qgs_cons (qg_name 3 (fun ψ => nd)) qgs_nil))) (qss_cons (qs_if (qt_not (qt_val (QE.tb (qe_call cx (fun ψ => c_q11) (fun ψ => hr.mono (by decide)) hw_q11 (qa_b (qb_var 0) (qa_b (qb_var 2) qa_nil)))))) (qss_one (qs_ret (qe_var 2))) qss_nil)
      (qss_one (qs_if (QW.t (qw_or (qt_lt (qb_var 3) (QE.tb qe_int)) (qw_or1 (qt_ge (qb_var 3) (QE.tb (qe_call cx (fun ψ => c_q17) (fun ψ => hr.mono (by decide)) hw_q17 (qa_b (qb_var 0) (qa_b (qb_var 2) qa_nil)))))))) (qss_one (qs_ret (qe_var 2))) qss_nil))))
      (qk_one (qs_ret qe_non)))
noncomputable abbrev s_q16 : Stmt := top 8
noncomputable abbrev N_q16 : List Str := ["digits", "place"]
noncomputable abbrev p_q16 : List Str := ["digits", "place"]
theorem sc_q16 : FnScope N_q16 p_q16 (defScope s_q16) := ⟨rfl, rfl, rfl, by decide +kernel, rfl, by decide +kernel, by decide +kernel⟩
noncomputable abbrev b_q16 : List Bool := [true, true]
noncomputable def g_q16 : Sf := (sRet (eIf (tfB (eOp uLt (eVar 1) (eB uLen (aCons (eVar 0) aNil)))) (eOp uIx (eVar 0) (eVar 1)) (eC (.int 0))))
noncomputable def F_q16 : Ff := runU N_q16.length g_q16
theorem ok_q16 {f : Addr} {fd : FuncData} (F : Fun K "digit_at" "digit_at" s_q16 f fd) (B : Bl mg) (kt : Kt K) (T : Tx K mg)  : FnOk P w K mg base (CX1 P w) 1 f fd p_q16 (spU K mg wkT b_q16.length b_q16 F_q16) := by
  have nd := sc_q16.nd
  refine F.okQ (N := N_q16) (ps := p_q16) (bs := b_q16) (wk := wkT) (m := ⟨[0, 1], []⟩) (g := g_q16) sc_q16 rfl rfl (by decide) fun cdv A outer s H E W hK hm hw hr hA => ?_
  subst hK; subst hm
  have cx := ctx_def (W := W) (P := P) (w := w) (base := base) (N := N_q16) (outer := outer) (H := H) (E := E) rfl rfl hr
  exact (qk_one (qs_ret (qe_if (qt_lt (qb_var 1) (QE.tb (qe_len cx B (qb_var 0)))) (qe_ix cx (qb_var 0) (qb_var 1)) qe_int)))
noncomputable abbrev s_q1 : Stmt := top 9
noncomputable abbrev N_q1 : List Str := ["digits", "many"]
noncomputable abbrev p_q1 : List Str := ["digits"]
theorem sc_q1 : FnScope N_q1 p_q1 (defScope s_q1) := ⟨rfl, rfl, rfl, by decide +kernel, rfl, by decide +kernel, by decide +kernel⟩
noncomputable abbrev b_q1 : List Bool := [true]
noncomputable def B_q1_0 : Sf := (sAug 1 uSub (eC (.int 1)))
noncomputable def g_q1 : Sf := (sSeq (sSet 1 (eB uLen (aCons (eVar 0) aNil)))
      (sSeq (sWh (tfAnd (tfB (eOp uGt (eVar 1) (eC (.int 0)))) (tfB (eOp uEq (eOp uIx (eVar 0) (eOp uSub (eVar 1) (eC (.int 1)))) (eC (.int 0))))) B_q1_0)
      (sRet (eB uTuple (aCons (eSl uSl (eVar 0) pNo (pSome (eVar 1))) aNil)))))
noncomputable def F_q1 : Ff := runU N_q1.length g_q1
theorem ok_q1 {f : Addr} {fd : FuncData} (F : Fun K "without_noughts" "without_noughts" s_q1 f fd) (B : Bl mg) (kt : Kt K) (T : Tx K mg)  : FnOk P w K mg base (CX1 P w) 1 f fd p_q1 (spU K mg wkT b_q1.length b_q1 F_q1) := by
  have nd := sc_q1.nd
  refine F.okQ (N := N_q1) (ps := p_q1) (bs := b_q1) (wk := wkT) (m := ⟨[0], []⟩) (g := g_q1) sc_q1 rfl rfl (by decide) fun cdv A outer s H E W hK hm hw hr hA => ?_
  subst hK; subst hm
  have cx := ctx_def (W := W) (P := P) (w := w) (base := base) (N := N_q1) (outer := outer) (H := H) (E := E) rfl rfl hr
  exact (qk_cons (qs_set 1 (fun ψ => nd) (qe_len cx B (qb_var 0)))
      (qk_cons (qs_while pw_def (QW.t (qw_and (qt_gt (qb_var 1) (QE.tb qe_int)) (qw_and1 (qt_eq cx (QE.tb (qe_ix cx (qb_var 0) (QE.tb (qe_sub (qb_var 1) (QE.tb qe_int))))) (QE.tb qe_int))))) (qss_one (qs_aug 1 (fun ψ => nd) (fun ψ => iop_sub) ou_sub (QE.tb qe_int))))
      (qk_one (qs_ret (qe_tuple cx B (QE.tb (qe_sl cx (qb_var 0) qp_none (qp_some (qb_var 1)))))))))
noncomputable abbrev s_q12 : Stmt := top 11
noncomputable abbrev N_q12 : List Str := ["scale", "one", "other", "digits", "carries", "many", "coming", "place", "whole"]
noncomputable abbrev p_q12 : List Str := ["scale", "one", "other", "digits", "carries"]
theorem sc_q12 : FnScope N_q12 p_q12 (defScope s_q12) := ⟨rfl, rfl, rfl, by decide +kernel, rfl, by decide +kernel, by decide +kernel⟩
noncomputable abbrev b_q12 : List Bool := [true, false, false, false, true]
noncomputable def B_q12_0 : Sf := (sSeq (sSet 8 (eOp uAdd (eOp uAdd (eCall F_q16 (aCons (eVar 1) (aCons (eVar 7) aNil))) (eCall F_q16 (aCons (eVar 2) (aCons (eVar 7) aNil)))) (eVar 6)))
      (sSeq (sIf (tfB (eOp uNe (eVar 8) (eOp uAdd (eCall F_q16 (aCons (eVar 3) (aCons (eVar 7) aNil))) (eOp uMul (eCall F_q17 (aCons (eVar 0) (aCons (eVar 7) aNil))) (eOp uIx (eVar 4) (eVar 7)))))) (sRet (eC (.bl false))) sNext)
      (sSet 6 (eOp uIx (eVar 4) (eVar 7)))))
noncomputable def g_q12 : Sf := (sSeq (sIf (tfB (eB uAny (aCons (eComp (iOf (eTup (aCons (eVar 1) (aCons (eVar 2) (aCons (eVar 3) aNil))))) 1 [0] (aName 0) tfTrue (eOp (uIs true) (eCall F_q4 (aCons (eVar 1) (aCons (eVar 0) aNil))) (eC .non))) aNil))) (sRet (eC (.bl false))) sNext)
      (sSeq (sSet 5 (eB uMax2 (aCons (eB uLen (aCons (eVar 1) aNil)) (aCons (eB uLen (aCons (eVar 2) aNil)) aNil))))
      (sSeq (sIf (tfB (eOp uNe (eB uLen (aCons (eVar 4) aNil)) (eVar 5))) (sRet (eC (.bl false))) sNext)
      (sSeq (sSet 6 (eC (.int 0)))
      (sSeq (sFor (iArgs uR1 (aCons (eVar 5) aNil)) (aName 7) B_q12_0)
      (sRet (eOp uEq (eCall F_q1 (aCons (eSl uSl (eVar 3) (pSome (eVar 5)) pNo) aNil)) (eCall F_q1 (aCons (eTup (aCons (eVar 6) aNil)) aNil)))))))))
noncomputable def F_q12 : Ff := runU N_q12.length g_q12
theorem ok_q12 {f : Addr} {fd : FuncData} (F : Fun K "sum_shown" "sum_shown" s_q12 f fd) (B : Bl mg) (kt : Kt K) (T : Tx K mg) {a_q1 : Addr} {d_q1 : FuncData} (c_q1 : Fn P w K mg base (CX1 P w) 1 "without_noughts" a_q1 d_q1 p_q1 (spU K mg wkT b_q1.length b_q1 F_q1)) {a_q4 : Addr} {d_q4 : FuncData} (c_q4 : Fn P w K mg base (CX1 P w) 4 "first_wrong" a_q4 d_q4 p_q4 (spU K mg wkT b_q4.length b_q4 F_q4)) {a_q16 : Addr} {d_q16 : FuncData} (c_q16 : Fn P w K mg base (CX1 P w) 1 "digit_at" a_q16 d_q16 p_q16 (spU K mg wkT b_q16.length b_q16 F_q16)) {a_q17 : Addr} {d_q17 : FuncData} (c_q17 : Fn P w K mg base (CX1 P w) 3 "base_at" a_q17 d_q17 p_q17 (spU K mg wkT b_q17.length b_q17 F_q17)) : FnOk P w K mg base (CX1 P w) 5 f fd p_q12 (spU K mg wkT b_q12.length b_q12 F_q12) := by
  have nd := sc_q12.nd
  refine F.okQ (N := N_q12) (ps := p_q12) (bs := b_q12) (wk := wkT) (m := ⟨[0, 4], []⟩) (g := g_q12) sc_q12 rfl rfl (by decide) fun cdv A outer s H E W hK hm hw hr hA => ?_
  subst hK; subst hm
  have cx := ctx_def (W := W) (P := P) (w := w) (base := base) (N := N_q12) (outer := outer) (H := H) (E := E) rfl rfl hr
  have hw_q1 : wkT W := trivial
  have hw_q4 : wkT W := trivial
  have hw_q16 : wkT W := trivial
  have hw_q17 : wkT W := trivial
  exact (qk_cons (qs_if (qt_val (QE.tb (qe_any cx B (QF.tb (qf_comp (bs := ["row"]) ⟨[1], []⟩ cx (comp_ok rfl (by rfl) rfl (by rfl) (by rfl) (.cons rfl .nil) (.cons (j := 0) rfl (by first | exact .inl rfl | exact .inr rfl) rfl (by first | exact .inl rfl | exact .inr rfl) .nil)) (qi_e cx (qe_tup (qa_e (qe_var 1) (qa_e (qe_var 2) (qa_e (qe_var 3) qa_nil))))) (qg_name 0 (fun ψ => (show (["row", "scale"] : List Str).Nodup by decide +kernel))) qts_nil (qe_isnot (QE.tb (qe_call cx.blk (fun ψ => c_q4) (fun ψ => hr.mono (by decide)) hw_q4 (qa_b (qb_var 1) (qa_b (qb_var 0) qa_nil)))) (QE.tb qe_non))))))) (qss_one (qs_ret qe_bl)) qss_nil)
      (qk_cons (qs_set 5 (fun ψ => nd) (qe_max2 cx B (qa_b (QE.tb (qe_len cx B (qb_var 1))) (qa_b (QE.tb (qe_len cx B (qb_var 2))) qa_nil))))
      (qk_cons (qs_if (qt_ne cx (QE.tb (qe_len cx B (qb_var 4))) (qb_var 5)) (qss_one (qs_ret qe_bl)) qss_nil)
      (qk_cons (qs_set 6 (fun ψ => nd) qe_int)
      (qk_cons (qs_for cx pw_def (qi_r1 cx B (qa_b (qb_var 5) qa_nil)) (qg_name 7 (fun ψ => nd)) (qss_cons (qs_set 8 (fun ψ => nd) (qe_add cx (QE.tb (qe_add cx (QE.tb (qe_call cx (fun ψ => c_q16) (fun ψ => hr.mono (by decide)) hw_q16 (qa_b (qb_var 1) (qa_b (qb_var 7) qa_nil)))) (QE.tb (qe_call cx (fun ψ => c_q16) (fun ψ => hr.mono (by decide)) hw_q16 (qa_b (qb_var 2) (qa_b (qb_var 7) qa_nil)))))) (qb_var 6)) (hs := fun ψ => sw_binop))
      (qss_cons (qs_if (qt_ne cx (qb_var 8) (QE.tb (qe_add cx (QE.tb (qe_call cx (fun ψ => c_q16) (fun ψ => hr.mono (by decide)) hw_q16 (qa_b (qb_var 3) (qa_b (qb_var 7) qa_nil)))) (QE.tb (qe_mul (QE.tb (qe_call cx (fun ψ => c_q17) (fun ψ => hr.mono (by decide)) hw_q17 (qa_b (qb_var 0) (qa_b (qb_var 7) qa_nil)))) (QE.tb (qe_ix cx (qb_var 4) (qb_var 7)))))))) (qss_one (qs_ret qe_bl)) qss_nil)
      (qss_one (qs_set 6 (fun ψ => nd) (qe_ix cx (qb_var 4) (qb_var 7)) (hs := fun ψ => sw_sub))))))
      (qk_one (qs_ret (qe_eq cx (QE.tb (qe_call cx (fun ψ => c_q1) (fun ψ => hr.mono (by decide)) hw_q1 (qa_b (QE.tb (qe_sl cx (qb_var 3) (qp_some (qb_var 5)) qp_none)) qa_nil))) (QE.tb (qe_call cx (fun ψ => c_q1) (fun ψ => hr.mono (by decide)) hw_q1 (qa_b (QE.tb (qe_tup (qa_e (qe_var 6) qa_nil))) qa_nil)))))))))))
noncomputable abbrev s_q10 : Stmt := top 13
noncomputable abbrev N_q10 : List Str := ["script"]
noncomputable abbrev p_q10 : List Str := ["script"]
theorem sc_q10 : FnScope N_q10 p_q10 (defScope s_q10) := ⟨rfl, rfl, rfl, by decide +kernel, rfl, by decide +kernel, by decide +kernel⟩
noncomputable abbrev b_q10 : List Bool := [false]
noncomputable def g_q10 : Sf := (sRet (eLst (aCons (eVar 0) (aCons (eC (.int 0)) (aCons (eC (.int 0)) (aCons (eC (.int 37199)) (aCons (eC (.int 0)) aNil)))))))
noncomputable def F_q10 : Ff := runU N_q10.length g_q10
theorem ok_q10 {f : Addr} {fd : FuncData} (F : Fun K "_law_pile" "_law_pile" s_q10 f fd) (B : Bl mg) (kt : Kt K) (T : Tx K mg)  : FnOk P w K mg base (CX1 P w) 1 f fd p_q10 (spU K mg wkT b_q10.length b_q10 F_q10) := by
  have nd := sc_q10.nd
  refine F.okQ (N := N_q10) (ps := p_q10) (bs := b_q10) (wk := wkT) (m := ⟨[], []⟩) (g := g_q10) sc_q10 rfl rfl (by decide) fun cdv A outer s H E W hK hm hw hr hA => ?_
  subst hK; subst hm
  have cx := ctx_def (W := W) (P := P) (w := w) (base := base) (N := N_q10) (outer := outer) (H := H) (E := E) rfl rfl hr
  exact (qk_one (qs_ret (QF.te (qf_lst (qa_e (qe_var 0) (qa_e qe_int (qa_e qe_int (qa_e qe_int (qa_e qe_int qa_nil)))))))))
noncomputable abbrev s_q9 : Stmt := top 14
noncomputable abbrev N_q9 : List Str := ["pile", "most", "found", "cell"]
noncomputable abbrev p_q9 : List Str := ["pile", "most"]
theorem sc_q9 : FnScope N_q9 p_q9 (defScope s_q9) := ⟨rfl, rfl, rfl, by decide +kernel, rfl, by decide +kernel, by decide +kernel⟩
noncomputable abbrev b_q9 : List Bool := [true, true]
noncomputable def g_q9 : Sf := (sSeq (sIf (tfB (eOp uGt (ePl 0 1) (eC (.int 0)))) (sSeq (sSet 2 (eOp uMod (ePl 0 1) (eVar 1)))
      (sSeq (sPl 0 1 (eOp uDiv (ePl 0 1) (eVar 1)))
      (sRet (eVar 2)))) sNext)
      (sSeq (sIf (tfB (eOp uLt (ePl 0 0) (ePlLen 0))) (sSeq (sSet 3 (ePlAt 0 0))
      (sSeq (sPl 0 0 (eOp uAdd (ePl 0 0) (eC (.int 1))))
      (sSeq (sPl 0 2 (eOp uMod (eOp uAdd (eOp uMul (ePl 0 2) (eC (.int 69069))) (eVar 3)) (eC (.int 2147483629))))
      (sSeq (sIf (tfB (eOp uGe (eB uAbs (aCons (eVar 3) aNil)) (eOp uPow (eC (.int 10)) (eC (.int 18))))) (sSeq (sPl 0 1 (eOp uDiv (eB uAbs (aCons (eVar 3) aNil)) (eVar 1)))
      (sRet (eOp uMod (eB uAbs (aCons (eVar 3) aNil)) (eVar 1)))) sNext)
      (sRet (eOp uMod (eVar 3) (eVar 1))))))) sNext)
      (sSeq (sPl 0 3 (eOp uAdd (ePl 0 3) (eC (.int 1))))
      (sSeq (sPl 0 2 (eOp uMod (eOp uAdd (eOp uAdd (eOp uMul (ePl 0 2) (ePl 0 2)) (eOp uMul (eC (.int 40014)) (ePl 0 3))) (eC (.int 977))) (eC (.int 2147483629))))
      (sRet (eOp uMod (eOp uDiv (ePl 0 2) (eC (.int 16))) (eVar 1)))))))
noncomputable def F_q9 : Ff := runU N_q9.length g_q9
theorem ok_q9 {f : Addr} {fd : FuncData} (F : Fun K "_law_next" "_law_next" s_q9 f fd) (B : Bl mg) (kt : Kt K) (T : Tx K mg)  : FnOk P w K mg base (CX1 P w) 1 f fd p_q9 (spU K mg PlW b_q9.length b_q9 F_q9) := by
  have nd := sc_q9.nd
  refine F.okQ (N := N_q9) (ps := p_q9) (bs := b_q9) (wk := PlW) (m := ⟨[0, 1], []⟩) (g := g_q9) sc_q9 rfl rfl (by decide) fun cdv A outer s H E W hK hm hw hr hA => ?_
  subst hK; subst hm
  have cx := ctx_def (W := W) (P := P) (w := w) (base := base) (N := N_q9) (outer := outer) (H := H) (E := E) rfl rfl hr
  exact (qk_cons (qs_if (qt_gt (QE.tb (qe_pl 0 1 hw cx)) (QE.tb qe_int)) (qss_cons (qs_set 2 (fun ψ => nd) (qe_mod (QE.tb (qe_pl 0 1 hw cx)) (qb_var 1)) (hs := fun ψ => sw_binop))
      (qss_cons (qs_pl 0 1 hw (qe_div (QE.tb (qe_pl 0 1 hw cx)) (qb_var 1)))
      (qss_one (qs_ret (qe_var 2))))) qss_nil)
      (qk_cons (qs_if (qt_lt (QE.tb (qe_pl 0 0 hw cx)) (QE.tb (qe_plLen 0 hw cx B))) (qss_cons (qs_set 3 (fun ψ => nd) (qe_plAt 0 0 hw cx) (hs := fun ψ => sw_sub))
      (qss_cons (qs_pl 0 0 hw (qe_add cx (QE.tb (qe_pl 0 0 hw cx)) (QE.tb qe_int)))
      (qss_cons (qs_pl 0 2 hw (qe_mod (QE.tb (qe_add cx (QE.tb (qe_mul (QE.tb (qe_pl 0 2 hw cx)) (QE.tb qe_int))) (qb_var 3))) (QE.tb qe_int)))
      (qss_cons (qs_if (qt_ge (QE.tb (qe_abs cx B (qb_var 3))) (QE.tb (qe_pow (QE.tb qe_int) (QE.tb qe_int)))) (qss_cons (qs_pl 0 1 hw (qe_div (QE.tb (qe_abs cx B (qb_var 3))) (qb_var 1)))
      (qss_one (qs_ret (qe_mod (QE.tb (qe_abs cx B (qb_var 3))) (qb_var 1))))) qss_nil)
      (qss_one (qs_ret (qe_mod (qb_var 3) (qb_var 1)))))))) qss_nil)
      (qk_cons (qs_pl 0 3 hw (qe_add cx (QE.tb (qe_pl 0 3 hw cx)) (QE.tb qe_int)))
      (qk_cons (qs_pl 0 2 hw (qe_mod (QE.tb (qe_add cx (QE.tb (qe_add cx (QE.tb (qe_mul (QE.tb (qe_pl 0 2 hw cx)) (QE.tb (qe_pl 0 2 hw cx)))) (QE.tb (qe_mul (QE.tb qe_int) (QE.tb (qe_pl 0 3 hw cx)))))) (QE.tb qe_int))) (QE.tb qe_int)))
      (qk_one (qs_ret (qe_mod (QE.tb (qe_div (QE.tb (qe_pl 0 2 hw cx)) (QE.tb qe_int))) (qb_var 1))))))))
noncomputable abbrev s_q7 : Stmt := top 15
noncomputable abbrev N_q7 : List Str := ["pile"]
noncomputable abbrev p_q7 : List Str := ["pile"]
theorem sc_q7 : FnScope N_q7 p_q7 (defScope s_q7) := ⟨rfl, rfl, rfl, by decide +kernel, rfl, by decide +kernel, by decide +kernel⟩
noncomputable abbrev b_q7 : List Bool := [true]
noncomputable def g_q7 : Sf := (sRet (eOp uIx (eLst (aCons (eC (.int 2)) (aCons (eC (.int 3)) (aCons (eOp uAdd (eC (.int 2)) (eCall F_q9 (aCons (eVar 0) (aCons (eC (.int 11)) aNil)))) (aCons (eC (.int 10)) (aCons (eC (.int 60)) (aCons (eOp uAdd (eC (.int 2)) (eCall F_q9 (aCons (eVar 0) (aCons (eOp uSub (eOp uPow (eC (.int 10)) (eC (.int 6))) (eC (.int 1))) aNil)))) (aCons (eOp uPow (eC (.int 10)) (eC (.int 6))) aNil)))))))) (eCall F_q9 (aCons (eVar 0) (aCons (eC (.int 7)) aNil)))))
noncomputable def F_q7 : Ff := runU N_q7.length g_q7
theorem ok_q7 {f : Addr} {fd : FuncData} (F : Fun K "_law_base" "_law_base" s_q7 f fd) (B : Bl mg) (kt : Kt K) (T : Tx K mg) {a_q9 : Addr} {d_q9 : FuncData} (c_q9 : Fn P w K mg base (CX1 P w) 1 "_law_next" a_q9 d_q9 p_q9 (spU K mg PlW b_q9.length b_q9 F_q9)) : FnOk P w K mg base (CX1 P w) 2 f fd p_q7 (spU K mg PlW b_q7.length b_q7 F_q7) := by
  have nd := sc_q7.nd
  refine F.okQ (N := N_q7) (ps := p_q7) (bs := b_q7) (wk := PlW) (m := ⟨[0], []⟩) (g := g_q7) sc_q7 rfl rfl (by decide) fun cdv A outer s H E W hK hm hw hr hA => ?_
  subst hK; subst hm
  have cx := ctx_def (W := W) (P := P) (w := w) (base := base) (N := N_q7) (outer := outer) (H := H) (E := E) rfl rfl hr
  have hw_q9 : PlW W := hw
  exact (qk_one (qs_ret (qe_ix cx (QF.tb (qf_lst (qa_e qe_int (qa_e qe_int (qa_e (qe_add cx (QE.tb qe_int) (QE.tb (qe_call cx (fun ψ => c_q9) (fun ψ => hr.mono (by decide)) hw_q9 (qa_b (qb_var 0) (qa_b (QE.tb qe_int) qa_nil))))) (qa_e qe_int (qa_e qe_int (qa_e (qe_add cx (QE.tb qe_int) (QE.tb (qe_call cx (fun ψ => c_q9) (fun ψ => hr.mono (by decide)) hw_q9 (qa_b (qb_var 0) (qa_b (QE.tb (qe_sub (QE.tb (qe_pow (QE.tb qe_int) (QE.tb qe_int))) (QE.tb qe_int))) qa_nil))))) (qa_e (qe_pow (QE.tb qe_int) (QE.tb qe_int)) qa_nil))))))))) (QE.tb (qe_call cx (fun ψ => c_q9) (fun ψ => hr.mono (by decide)) hw_q9 (qa_b (qb_var 0) (qa_b (QE.tb qe_int) qa_nil)))))))
noncomputable abbrev s_q6 : Stmt := top 16
noncomputable abbrev N_q6 : List Str := ["pile", "head"]
noncomputable abbrev p_q6 : List Str := ["pile"]
theorem sc_q6 : FnScope N_q6 p_q6 (defScope s_q6) := ⟨rfl, rfl, rfl, by decide +kernel, rfl, by decide +kernel, by decide +kernel⟩
noncomputable abbrev b_q6 : List Bool := [true]
noncomputable def g_q6 : Sf := (sSeq (sSet 1 (eB uTuple (aCons (eComp (iArgs uR1 (aCons (eOp uIx (eLst (aCons (eC (.int 0)) (aCons (eCall F_q9 (aCons (eVar 0) (aCons (eC (.int 4)) aNil))) (aCons (eC (.int 12)) aNil)))) (eCall F_q9 (aCons (eVar 0) (aCons (eC (.int 3)) aNil)))) aNil)) 1 [0] (aName 0) tfTrue (eCall F_q7 (aCons (eVar 1) aNil))) aNil)))
      (sRet (eTup (aCons (eVar 1) (aCons (eB uTuple (aCons (eComp (iArgs uR1 (aCons (eOp uAdd (eC (.int 1)) (eOp uIx (eLst (aCons (eC (.int 0)) (aCons (eCall F_q9 (aCons (eVar 0) (aCons (eC (.int 3)) aNil))) (aCons (eC (.int 11)) aNil)))) (eCall F_q9 (aCons (eVar 0) (aCons (eC (.int 3)) aNil))))) aNil)) 1 [0] (aName 0) tfTrue (eCall F_q7 (aCons (eVar 1) aNil))) aNil)) aNil)))))
noncomputable def F_q6 : Ff := runU N_q6.length g_q6
theorem ok_q6 {f : Addr} {fd : FuncData} (F : Fun K "_law_scale" "_law_scale" s_q6 f fd) (B : Bl mg) (kt : Kt K) (T : Tx K mg) {a_q7 : Addr} {d_q7 : FuncData} (c_q7 : Fn P w K mg base (CX1 P w) 2 "_law_base" a_q7 d_q7 p_q7 (spU K mg PlW b_q7.length b_q7 F_q7)) {a_q9 : Addr} {d_q9 : FuncData} (c_q9 : Fn P w K mg base (CX1 P w) 1 "_law_next" a_q9 d_q9 p_q9 (spU K mg PlW b_q9.length b_q9 F_q9)) : FnOk P w K mg base (CX1 P w) 3 f fd p_q6 (spU K mg PlW b_q6.length b_q6 F_q6) := by
  have nd := sc_q6.nd
  refine F.okQ (N := N_q6) (ps := p_q6) (bs := b_q6) (wk := PlW) (m := ⟨[0], []⟩) (g := g_q6) sc_q6 rfl rfl (by decide) fun cdv A outer s H E W hK hm hw hr hA => ?_
  subst hK; subst hm
  have cx := ctx_def (W := W) (P := P) (w := w) (base := base) (N := N_q6) (outer := outer) (H := H) (E := E) rfl rfl hr
  have hw_q7 : PlW W := hw
  have hw_q9 : PlW W := hw
  exact (qk_cons (qs_set 1 (fun ψ => nd) (qe_tuple cx B (QF.tb (qf_comp (bs := ["k"]) ⟨[1], []⟩ cx (comp_ok rfl (by rfl) rfl (by rfl) (by rfl) (.cons rfl .nil) (.cons (j := 0) rfl (by first | exact .inl rfl | exact .inr rfl) rfl (by first | exact .inl rfl | exact .inr rfl) .nil)) (qi_r1 cx B (qa_b (QE.tb (qe_ix cx (QF.tb (qf_lst (qa_e qe_int (qa_e (qe_call cx (fun ψ => c_q9) (fun ψ => hr.mono (by decide)) hw_q9 (qa_b (qb_var 0) (qa_b (QE.tb qe_int) qa_nil))) (qa_e qe_int qa_nil))))) (QE.tb (qe_call cx (fun ψ => c_q9) (fun ψ => hr.mono (by decide)) hw_q9 (qa_b (qb_var 0) (qa_b (QE.tb qe_int) qa_nil)))))) qa_nil)) (qg_name 0 (fun ψ => (show (["k", "pile"] : List Str).Nodup by decide +kernel))) qts_nil (qe_call cx.blk (fun ψ => c_q7) (fun ψ => hr.mono (by decide)) hw_q7 (qa_b (qb_var 1) qa_nil))))))
      (qk_one (qs_ret (qe_tup (qa_e (qe_var 1) (qa_e (qe_tuple cx B (QF.tb (qf_comp (bs := ["k"]) ⟨[1], []⟩ cx (comp_ok rfl (by rfl) rfl (by rfl) (by rfl) (.cons rfl .nil) (.cons (j := 0) rfl (by first | exact .inl rfl | exact .inr rfl) rfl (by first | exact .inl rfl | exact .inr rfl) .nil)) (qi_r1 cx B (qa_b (QE.tb (qe_add cx (QE.tb qe_int) (QE.tb (qe_ix cx (QF.tb (qf_lst (qa_e qe_int (qa_e (qe_call cx (fun ψ => c_q9) (fun ψ => hr.mono (by decide)) hw_q9 (qa_b (qb_var 0) (qa_b (QE.tb qe_int) qa_nil))) (qa_e qe_int qa_nil))))) (QE.tb (qe_call cx (fun ψ => c_q9) (fun ψ => hr.mono (by decide)) hw_q9 (qa_b (qb_var 0) (qa_b (QE.tb qe_int) qa_nil)))))))) qa_nil)) (qg_name 0 (fun ψ => (show (["k", "pile"] : List Str).Nodup by decide +kernel))) qts_nil (qe_call cx.blk (fun ψ => c_q7) (fun ψ => hr.mono (by decide)) hw_q7 (qa_b (qb_var 1) qa_nil))))) qa_nil))))))
noncomputable abbrev s_q5 : Stmt := top 17
noncomputable abbrev N_q5 : List Str := ["scale", "many", "found", "head", "ring"]
noncomputable abbrev p_q5 : List Str := ["scale", "many"]
theorem sc_q5 : FnScope N_q5 p_q5 (defScope s_q5) := ⟨rfl, rfl, rfl, by decide +kernel, rfl, by decide +kernel, by decide +kernel⟩
noncomputable abbrev b_q5 : List Bool := [false, true]
noncomputable def B_q5_0 : Sf := (sSet 2 (eOp uAdd (eVar 2) (eB uList (aCons (eVar 4) aNil))))
noncomputable def g_q5 : Sf := (sSeq (sAsg (aTup 2 (aConsT (aName 3) (aConsT (aName 4) aNilT))) (eVar 0))
      (sSeq (sSet 2 (eB uList (aCons (eVar 3) aNil)))
      (sSeq (sWh (tfB (eOp uLt (eB uLen (aCons (eVar 2) aNil)) (eVar 1))) B_q5_0)
      (sRet (eSl uSl (eVar 2) pNo (pSome (eVar 1)))))))
noncomputable def F_q5 : Ff := runU N_q5.length g_q5
theorem ok_q5 {f : Addr} {fd : FuncData} (F : Fun K "_law_bases" "_law_bases" s_q5 f fd) (B : Bl mg) (kt : Kt K) (T : Tx K mg)  : FnOk P w K mg base (CX1 P w) 1 f fd p_q5 (spU K mg wkT b_q5.length b_q5 F_q5) := by
  have nd := sc_q5.nd
  refine F.okQ (N := N_q5) (ps := p_q5) (bs := b_q5) (wk := wkT) (m := ⟨[1], []⟩) (g := g_q5) sc_q5 rfl rfl (by decide) fun cdv A outer s H E W hK hm hw hr hA => ?_
  subst hK; subst hm
  have cx := ctx_def (W := W) (P := P) (w := w) (base := base) (N := N_q5) (outer := outer) (H := H) (E := E) rfl rfl hr
  exact (qk_cons (qs_asg (qe_var 0) (qg_tup (n := 2) cx (qgs_cons (qg_name 3 (fun ψ => nd)) (qgs_cons (qg_name 4 (fun ψ => nd)) qgs_nil))))
      (qk_cons (qs_set 2 (fun ψ => nd) (QF.te (qf_list cx B (qb_var 3))))
      (qk_cons (qs_while pw_def (qt_lt (QE.tb (qe_len cx B (qb_var 2))) (qb_var 1)) (qss_one (qs_set 2 (fun ψ => nd) (qe_add cx (qb_var 2) (QF.tb (qf_list cx B (qb_var 4)))) (hs := fun ψ => sw_binop))))
      (qk_one (qs_ret (qe_sl cx (qb_var 2) qp_none (qp_some (qb_var 1))))))))
noncomputable abbrev s_q14 : Stmt := top 20
noncomputable abbrev N_q14 : List Str := ["pile", "scale", "most", "many", "found", "base"]
noncomputable abbrev p_q14 : List Str := ["pile", "scale", "most"]
theorem sc_q14 : FnScope N_q14 p_q14 (defScope s_q14) := ⟨rfl, rfl, rfl, by decide +kernel, rfl, by decide +kernel, by decide +kernel⟩
noncomputable abbrev b_q14 : List Bool := [true, false, false]
noncomputable def B_q14_0 : Sf := (sApp 4 (eOp uIx (eLst (aCons (eC (.int 0)) (aCons (eOp uSub (eVar 5) (eC (.int 1))) (aCons (eCall F_q9 (aCons (eVar 0) (aCons (eVar 5) aNil))) aNil)))) (eCall F_q9 (aCons (eVar 0) (aCons (eC (.int 3)) aNil)))))
noncomputable def g_q14 : Sf := (sSeq (sSet 3 (eOp uIx (eLst (aCons (eCall F_q9 (aCons (eVar 0) (aCons (eC (.int 5)) aNil))) (aCons (eCall F_q9 (aCons (eVar 0) (aCons (eOp uAdd (eVar 2) (eC (.int 1))) aNil))) (aCons (eVar 2) aNil)))) (eCall F_q9 (aCons (eVar 0) (aCons (eC (.int 3)) aNil)))))
      (sSeq (sSet 4 (eLst aNil))
      (sSeq (sFor (iOf (eCall F_q5 (aCons (eVar 1) (aCons (eVar 3) aNil)))) (aName 5) B_q14_0)
      (sRet (eB uTuple (aCons (eOp uAdd (eVar 4) (eOp uRep (eLst (aCons (eC (.int 0)) aNil)) (eOp uIx (eLst (aCons (eC (.int 0)) (aCons (eC (.int 0)) (aCons (eCall F_q9 (aCons (eVar 0) (aCons (eC (.int 4)) aNil))) aNil)))) (eCall F_q9 (aCons (eVar 0) (aCons (eC (.int 3)) aNil)))))) aNil))))))
noncomputable def F_q14 : Ff := runU N_q14.length g_q14
theorem ok_q14 {f : Addr} {fd : FuncData} (F : Fun K "_law_row" "_law_row" s_q14 f fd) (B : Bl mg) (kt : Kt K) (T : Tx K mg) {a_q5 : Addr} {d_q5 : FuncData} (c_q5 : Fn P w K mg base (CX1 P w) 1 "_law_bases" a_q5 d_q5 p_q5 (spU K mg wkT b_q5.length b_q5 F_q5)) {a_q9 : Addr} {d_q9 : FuncData} (c_q9 : Fn P w K mg base (CX1 P w) 1 "_law_next" a_q9 d_q9 p_q9 (spU K mg PlW b_q9.length b_q9 F_q9)) : FnOk P w K mg base (CX1 P w) 2 f fd p_q14 (spU K mg PlW b_q14.length b_q14 F_q14) := by
  have nd := sc_q14.nd
  refine F.okQ (N := N_q14) (ps := p_q14) (bs := b_q14) (wk := PlW) (m := ⟨[0], [4]⟩) (g := g_q14) sc_q14 rfl rfl (by decide) fun cdv A outer s H E W hK hm hw hr hA => ?_
  subst hK; subst hm
  have cx := ctx_def (W := W) (P := P) (w := w) (base := base) (N := N_q14) (outer := outer) (H := H) (E := E) rfl rfl hr
  have hw_q5 : wkT W := trivial
  have hw_q9 : PlW W := hw
  exact (qk_cons (qs_set 3 (fun ψ => nd) (qe_ix cx (QF.tb (qf_lst (qa_e (qe_call cx (fun ψ => c_q9) (fun ψ => hr.mono (by decide)) hw_q9 (qa_b (qb_var 0) (qa_b (QE.tb qe_int) qa_nil))) (qa_e (qe_call cx (fun ψ => c_q9) (fun ψ => hr.mono (by decide)) hw_q9 (qa_b (qb_var 0) (qa_b (QE.tb (qe_add cx (qb_var 2) (QE.tb qe_int))) qa_nil))) (qa_e (qe_var 2) qa_nil))))) (QE.tb (qe_call cx (fun ψ => c_q9) (fun ψ => hr.mono (by decide)) hw_q9 (qa_b (qb_var 0) (qa_b (QE.tb qe_int) qa_nil))))) (hs := fun ψ => sw_sub))
      (qk_cons (qs_own 4 (fun ψ => nd) (qf_lst qa_nil) (hs := fun ψ => sw_list))
      (qk_cons (qs_for cx pw_def (qi_e cx (qe_call cx (fun ψ => c_q5) (fun ψ => hr.mono (by decide)) hw_q5 (qa_e (qe_var 1) (qa_b (qb_var 3) qa_nil)))) (qg_name 5 (fun ψ => nd)) (qss_one (qs_app 4 cx (qe_ix cx (QF.tb (qf_lst (qa_e qe_int (qa_e (qe_sub (qb_var 5) (QE.tb qe_int)) (qa_e (qe_call cx (fun ψ => c_q9) (fun ψ => hr.mono (by decide)) hw_q9 (qa_b (qb_var 0) (qa_b (qb_var 5) qa_nil))) qa_nil))))) (QE.tb (qe_call cx (fun ψ => c_q9) (fun ψ => hr.mono (by decide)) hw_q9 (qa_b (qb_var 0) (qa_b (QE.tb qe_int) qa_nil))))))))
      (qk_one (qs_ret (qe_tuple cx B (QE.tb (qe_add cx (qb_var 4) (QE.tb (qe_rep (QF.tb (qf_lst (qa_e qe_int qa_nil))) (QE.tb (qe_ix cx (QF.tb (qf_lst (qa_e qe_int (qa_e qe_int (qa_e (qe_call cx (fun ψ => c_q9) (fun ψ => hr.mono (by decide)) hw_q9 (qa_b (qb_var 0) (qa_b (QE.tb qe_int) qa_nil))) qa_nil))))) (QE.tb (qe_call cx (fun ψ => c_q9) (fun ψ => hr.mono (by decide)) hw_q9 (qa_b (qb_var 0) (qa_b (QE.tb qe_int) qa_nil))))))))))))))))
noncomputable abbrev s_q15 : Stmt := top 21
noncomputable abbrev N_q15 : List Str := ["scale", "one", "other", "longer", "digits", "carries", "carry", "k", "base", "total"]
noncomputable abbrev p_q15 : List Str := ["scale", "one", "other"]
theorem sc_q15 : FnScope N_q15 p_q15 (defScope s_q15) := ⟨rfl, rfl, rfl, by decide +kernel, rfl, by decide +kernel, by decide +kernel⟩
noncomputable abbrev b_q15 : List Bool := [false, false, false]
noncomputable def B_q15_0 : Sf := (sSeq (sSet 9 (eOp uAdd (eVar 6) (eB uSumU (aCons (eComp (iOf (eTup (aCons (eVar 1) (aCons (eVar 2) aNil)))) 1 [7] (aName 0) (tfB (eOp uLt (eVar 1) (eB uLen (aCons (eVar 0) aNil)))) (eOp uIx (eVar 0) (eVar 1))) aNil))))
      (sSeq (sSet 6 (eB uInt (aCons (eOp uGe (eVar 9) (eVar 8)) aNil)))
      (sSeq (sApp 4 (eOp uSub (eVar 9) (eOp uMul (eVar 6) (eVar 8))))
      (sApp 5 (eVar 6)))))
noncomputable def g_q15 : Sf := (sSeq (sSet 3 (eB uMax2 (aCons (eB uLen (aCons (eVar 1) aNil)) (aCons (eB uLen (aCons (eVar 2) aNil)) aNil))))
      (sSeq (sSet 4 (eLst aNil))
      (sSeq (sSet 5 (eLst aNil))
      (sSeq (sSet 6 (eC (.int 0)))
      (sSeq (sFor (iArgs uEnumL (aCons (eCall F_q5 (aCons (eVar 0) (aCons (eVar 3) aNil))) aNil)) (aTup 2 (aConsT (aName 7) (aConsT (aName 8) aNilT))) B_q15_0)
      (sRet (eLst (aCons (eB uList (aCons (eVar 1) aNil)) (aCons (eB uList (aCons (eVar 2) aNil)) (aCons (eOp uAdd (eVar 4) (eOp uRep (eLst (aCons (eC (.int 1)) aNil)) (eVar 6))) (aCons (eVar 5) aNil)))))))))))
noncomputable def F_q15 : Ff := runU N_q15.length g_q15
theorem ok_q15 {f : Addr} {fd : FuncData} (F : Fun K "_law_sum" "_law_sum" s_q15 f fd) (B : Bl mg) (kt : Kt K) (T : Tx K mg) {a_q5 : Addr} {d_q5 : FuncData} (c_q5 : Fn P w K mg base (CX1 P w) 1 "_law_bases" a_q5 d_q5 p_q5 (spU K mg wkT b_q5.length b_q5 F_q5)) : FnOk P w K mg base (CX1 P w) 2 f fd p_q15 (spU K mg wkT b_q15.length b_q15 F_q15) := by
  have nd := sc_q15.nd
  refine F.okQ (N := N_q15) (ps := p_q15) (bs := b_q15) (wk := wkT) (m := ⟨[], [4, 5]⟩) (g := g_q15) sc_q15 rfl rfl (by decide) fun cdv A outer s H E W hK hm hw hr hA => ?_
  subst hK; subst hm
  have cx := ctx_def (W := W) (P := P) (w := w) (base := base) (N := N_q15) (outer := outer) (H := H) (E := E) rfl rfl hr
  have hw_q5 : wkT W := trivial
  exact (qk_cons (qs_set 3 (fun ψ => nd) (qe_max2 cx B (qa_b (QE.tb (qe_len cx B (qb_var 1))) (qa_b (QE.tb (qe_len cx B (qb_var 2))) qa_nil))))
      (qk_cons (qs_own 4 (fun ψ => nd) (qf_lst qa_nil) (hs := fun ψ => sw_list))
      (qk_cons (qs_own 5 (fun ψ => nd) (qf_lst qa_nil) (hs := fun ψ => sw_list))
      (qk_cons (qs_set 6 (fun ψ => nd) qe_int)
      (qk_cons (qs_for cx pw_def (qi_enumL cx B (qa_e (qe_call cx (fun ψ => c_q5) (fun ψ => hr.mono (by decide)) hw_q5 (qa_e (qe_var 0) (qa_b (qb_var 3) qa_nil))) qa_nil)) (qg_tup (n := 2) cx (qgs_cons (qg_name 7 (fun ψ => nd)) (qgs_cons (qg_name 8 (fun ψ => nd)) qgs_nil))) (qss_cons (qs_set 9 (fun ψ => nd) (qe_add cx (qb_var 6) (QE.tb (qe_sumU cx B (QF.tb (qf_comp (bs := ["row"]) ⟨[], []⟩ cx (comp_ok rfl (by rfl) rfl (by rfl) (by rfl) (.cons rfl .nil) (.cons (j := 7) rfl (by first | exact .inl rfl | exact .inr rfl) rfl (by first | exact .inl rfl | exact .inr rfl) .nil)) (qi_e cx (qe_tup (qa_e (qe_var 1) (qa_e (qe_var 2) qa_nil)))) (qg_name 0 (fun ψ => (show (["row", "k"] : List Str).Nodup by decide +kernel))) (qts_one (qt_lt (qb_var 1) (QE.tb (qe_len cx.blk B (qb_var 0))))) (qe_ix cx.blk (qb_var 0) (qb_var 1))))))) (hs := fun ψ => sw_binop))
      (qss_cons (qs_set 6 (fun ψ => nd) (qe_toint cx B (QE.tb (qe_ge (qb_var 9) (qb_var 8)))))
      (qss_cons (qs_app 4 cx (qe_sub (qb_var 9) (QE.tb (qe_mul (qb_var 6) (qb_var 8)))))
      (qss_one (qs_app 5 cx (qe_var 6)))))))
      (qk_one (qs_ret (QF.te (qf_lst (qa_e (QF.te (qf_list cx B (qb_var 1))) (qa_e (QF.te (qf_list cx B (qb_var 2))) (qa_e (qe_add cx (qb_var 4) (QE.tb (qe_rep (QF.tb (qf_lst (qa_e qe_int qa_nil))) (qb_var 6)))) (qa_e (qe_var 5) qa_nil)))))))))))))
noncomputable abbrev s_q2 : Stmt := top 22
noncomputable abbrev N_q2 : List Str := ["scale", "row", "some"]
noncomputable abbrev p_q2 : List Str := ["scale", "row"]
theorem sc_q2 : FnScope N_q2 p_q2 (defScope s_q2) := ⟨rfl, rfl, rfl, by decide +kernel, rfl, by decide +kernel, by decide +kernel⟩
noncomputable abbrev b_q2 : List Bool := [false, false]
noncomputable def g_q2 : Sf := (sSeq (sSet 2 (eB uLzip (aCons (eCall F_q5 (aCons (eVar 0) (aCons (eB uLen (aCons (eVar 1) aNil)) aNil))) (aCons (eVar 1) aNil))))
      (sRet (eOp uEq (eComp (iOf (eVar 2)) 2 [] (aTup 2 (aConsT (aName 0) (aConsT (aName 1) aNilT))) (tfNot (tfB (eChain uLe uLt (eC (.int 0)) (eVar 1) (eVar 0)))) (eC (.int 1))) (eLst aNil))))
noncomputable def F_q2 : Ff := runU N_q2.length g_q2
theorem ok_q2 {f : Addr} {fd : FuncData} (F : Fun K "_law_is_row" "_law_is_row" s_q2 f fd) (B : Bl mg) (kt : Kt K) (T : Tx K mg) {a_q5 : Addr} {d_q5 : FuncData} (c_q5 : Fn P w K mg base (CX1 P w) 1 "_law_bases" a_q5 d_q5 p_q5 (spU K mg wkT b_q5.length b_q5 F_q5)) : FnOk P w K mg base (CX1 P w) 2 f fd p_q2 (spU K mg wkT b_q2.length b_q2 F_q2) := by
  have nd := sc_q2.nd
  refine F.okQ (N := N_q2) (ps := p_q2) (bs := b_q2) (wk := wkT) (m := ⟨[], []⟩) (g := g_q2) sc_q2 rfl rfl (by decide) fun cdv A outer s H E W hK hm hw hr hA => ?_
  subst hK; subst hm
  have cx := ctx_def (W := W) (P := P) (w := w) (base := base) (N := N_q2) (outer := outer) (H := H) (E := E) rfl rfl hr
  have hw_q5 : wkT W := trivial
  exact (qk_cons (qs_set 2 (fun ψ => nd) (QF.te (qf_lzip cx B (qa_b (QE.tb (qe_call cx (fun ψ => c_q5) (fun ψ => hr.mono (by decide)) hw_q5 (qa_e (qe_var 0) (qa_b (QE.tb (qe_len cx B (qb_var 1))) qa_nil)))) (qa_b (qb_var 1) qa_nil)))))
      (qk_one (qs_ret (qe_eq cx (QF.tb (qf_comp (bs := ["base", "digit"]) ⟨[], []⟩ cx (comp_ok rfl (by rfl) rfl (by rfl) (by rfl) .nil .nil) (qi_v 2 cx) (qg_tup (n := 2) cx.blk (qgs_cons (qg_name 0 (fun ψ => (show (["base", "digit"] : List Str).Nodup by decide +kernel))) (qgs_cons (qg_name 1 (fun ψ => (show (["base", "digit"] : List Str).Nodup by decide +kernel))) qgs_nil))) (qts_one (qt_not (qt_lelt (QE.tb qe_int) (qb_var 1) (qb_var 0)))) qe_int)) (QF.tb (qf_lst qa_nil))))))
noncomputable abbrev s_q13 : Stmt := top 23
noncomputable abbrev N_q13 : List Str := ["scale", "four", "longer", "rows", "came", "one", "other", "digits", "carries", "k", "base", "total"]
noncomputable abbrev p_q13 : List Str := ["scale", "four"]
theorem sc_q13 : FnScope N_q13 p_q13 (defScope s_q13) := ⟨rfl, rfl, rfl, by decide +kernel, rfl, by decide +kernel, by decide +kernel⟩
noncomputable abbrev b_q13 : List Bool := [false, false]
noncomputable def B_q13_0 : Sf := (sSeq (sSet 11 (eOp uAdd (eOp uAdd (eOp uIx (eOp uIx (eVar 3) (eC (.int 0))) (eVar 9)) (eOp uIx (eOp uIx (eVar 3) (eC (.int 1))) (eVar 9))) (eVar 4)))
      (sSeq (sIf (tfB (eOp uNe (eVar 11) (eOp uAdd (eOp uIx (eOp uIx (eVar 3) (eC (.int 2))) (eVar 9)) (eOp uMul (eVar 10) (eOp uIx (eVar 8) (eVar 9)))))) (sRet (eC (.bl false))) sNext)
      (sSet 4 (eOp uIx (eVar 8) (eVar 9)))))
noncomputable def g_q13 : Sf := (sSeq (sAsg (aLst 4 (aConsT (aName 5) (aConsT (aName 6) (aConsT (aName 7) (aConsT (aName 8) aNilT))))) (eVar 1))
      (sSeq (sSet 2 (eB uMax2 (aCons (eB uLen (aCons (eVar 5) aNil)) (aCons (eB uLen (aCons (eVar 6) aNil)) aNil))))
      (sSeq (sIf (tfB (eOp uNeN (eComp (iOf (eSl uSl (eVar 1) pNo (pSome (eC (.int 3))))) 1 [0] (aName 0) (tfNot (tfB (eCall F_q2 (aCons (eVar 1) (aCons (eVar 0) aNil))))) (eVar 0)) (eLst aNil))) (sRet (eC (.bl false))) sNext)
      (sSeq (sIf (tfB (eOp uNe (eB uLen (aCons (eVar 8) aNil)) (eVar 2))) (sRet (eC (.bl false))) sNext)
      (sSeq (sIf (tfB (eOp uNe (eComp (iOf (eSl uSl (eVar 7) (pSome (eOp uAdd (eVar 2) (eC (.int 1)))) pNo)) 1 [] (aName 0) (tfB (eOp uNe (eVar 0) (eC (.int 0)))) (eVar 0)) (eLst aNil))) (sRet (eC (.bl false))) sNext)
      (sSeq (sSet 3 (eComp (iOf (eSl uSl (eVar 1) pNo (pSome (eC (.int 3))))) 1 [2] (aName 0) tfTrue (eOp uAdd (eB uList (aCons (eVar 0) aNil)) (eOp uRep (eLst (aCons (eC (.int 0)) aNil)) (eOp uAdd (eVar 1) (eC (.int 1)))))))
      (sSeq (sSet 4 (eC (.int 0)))
      (sSeq (sFor (iArgs uEnumL (aCons (eCall F_q5 (aCons (eVar 0) (aCons (eVar 2) aNil))) aNil)) (aTup 2 (aConsT (aName 9) (aConsT (aName 10) aNilT))) B_q13_0)
      (sRet (eOp uEq (eVar 4) (eOp uIx (eOp uIx (eVar 3) (eC (.int 2))) (eVar 2))))))))))))
noncomputable def F_q13 : Ff := runU N_q13.length g_q13
theorem ok_q13 {f : Addr} {fd : FuncData} (F : Fun K "_law_due" "_law_due" s_q13 f fd) (B : Bl mg) (kt : Kt K) (T : Tx K mg) {a_q5 : Addr} {d_q5 : FuncData} (c_q5 : Fn P w K mg base (CX1 P w) 1 "_law_bases" a_q5 d_q5 p_q5 (spU K mg wkT b_q5.length b_q5 F_q5)) {a_q2 : Addr} {d_q2 : FuncData} (c_q2 : Fn P w K mg base (CX1 P w) 2 "_law_is_row" a_q2 d_q2 p_q2 (spU K mg wkT b_q2.length b_q2 F_q2)) : FnOk P w K mg base (CX1 P w) 3 f fd p_q13 (spU K mg wkT b_q13.length b_q13 F_q13) := by
  have nd := sc_q13.nd
  refine F.okQ (N := N_q13) (ps := p_q13) (bs := b_q13) (wk := wkT) (m := ⟨[], []⟩) (g := g_q13) sc_q13 rfl rfl (by decide) fun cdv A outer s H E W hK hm hw hr hA => ?_
  subst hK; subst hm
  have cx := ctx_def (W := W) (P := P) (w := w) (base := base) (N := N_q13) (outer := outer) (H := H) (E := E) rfl rfl hr
  have hw_q5 : wkT W := trivial
  have hw_q2 : wkT W := trivial
  exact (qk_cons (qs_asg (qe_var 1) (qg_lst (n := 4) cx (qgs_cons (qg_name 5 (fun ψ => nd)) (qgs_cons (qg_name 6 (fun ψ => nd)) (qgs_cons (qg_name 7 (fun ψ => nd)) (qgs_cons (qg_name 8 (fun ψ => nd)) qgs_nil))))))
      (qk_cons (qs_set 2 (fun ψ => nd) (qe_max2 cx B (qa_b (QE.tb (qe_len cx B (qb_var 5))) (qa_b (QE.tb (qe_len cx B (qb_var 6))) qa_nil))))
      (qk_cons (qs_if (qt_neN cx (QF.tb (qf_comp (bs := ["row"]) ⟨[], []⟩ cx (comp_ok rfl (by rfl) rfl (by rfl) (by rfl) (.cons rfl .nil) (.cons (j := 0) rfl (by first | exact .inl rfl | exact .inr rfl) rfl (by first | exact .inl rfl | exact .inr rfl) .nil)) (qi_e cx (qe_sl cx (qb_var 1) qp_none (qp_some (QE.tb qe_int)))) (qg_name 0 (fun ψ => (show (["row", "scale"] : List Str).Nodup by decide +kernel))) (qts_one (qt_not (qt_val (QE.tb (qe_call cx.blk (fun ψ => c_q2) (fun ψ => hr.mono (by decide)) hw_q2 (qa_e (qe_var 1) (qa_e (qe_var 0) qa_nil))))))) (qe_var 0))) (QF.tb (qf_lst qa_nil))) (qss_one (qs_ret qe_bl)) qss_nil)
      (qk_cons (qs_if (qt_ne cx (QE.tb (qe_len cx B (qb_var 8))) (qb_var 2)) (qss_one (qs_ret qe_bl)) qss_nil)
      (qk_cons (qs_if (qt_ne cx (QF.tb (qf_comp (bs := ["digit"]) ⟨[], []⟩ cx (comp_ok rfl (by rfl) rfl (by rfl) (by rfl) .nil .nil) (qi_e cx (qe_sl cx (qb_var 7) (qp_some (QE.tb (qe_add cx (qb_var 2) (QE.tb qe_int)))) qp_none)) (qg_name 0 (fun ψ => (show (["digit"] : List Str).Nodup by decide +kernel))) (qts_one (qt_ne cx.blk (qb_var 0) (QE.tb qe_int))) (qe_var 0))) (QF.tb (qf_lst qa_nil))) (qss_one (qs_ret qe_bl)) qss_nil)
      (qk_cons (qs_setC (bs := ["row"]) false 3 ⟨[], []⟩ cx nd (comp_ok rfl (by rfl) rfl (by rfl) (by rfl) (.cons rfl .nil) (.cons (j := 2) rfl (by first | exact .inl rfl | exact .inr rfl) rfl (by first | exact .inl rfl | exact .inr rfl) .nil)) (qi_e cx (qe_sl cx (qb_var 1) qp_none (qp_some (QE.tb qe_int)))) (qg_name 0 (fun ψ => (show (["row", "longer"] : List Str).Nodup by decide +kernel))) qts_nil (qe_add cx.blk (QF.tb (qf_list cx.blk B (qb_var 0))) (QE.tb (qe_rep (QF.tb (qf_lst (qa_e qe_int qa_nil))) (QE.tb (qe_add cx.blk (qb_var 1) (QE.tb qe_int)))))))
      (qk_cons (qs_set 4 (fun ψ => nd) qe_int)
      (qk_cons (qs_for cx pw_def (qi_enumL cx B (qa_e (qe_call cx (fun ψ => c_q5) (fun ψ => hr.mono (by decide)) hw_q5 (qa_e (qe_var 0) (qa_b (qb_var 2) qa_nil))) qa_nil)) (qg_tup (n := 2) cx (qgs_cons (qg_name 9 (fun ψ => nd)) (qgs_cons (qg_name 10 (fun ψ => nd)) qgs_nil))) (qss_cons (qs_set 11 (fun ψ => nd) (qe_add cx (QE.tb (qe_add cx (QE.tb (qe_ix cx (QE.tb (qe_ix cx (qb_var 3) (QE.tb qe_int))) (qb_var 9))) (QE.tb (qe_ix cx (QE.tb (qe_ix cx (qb_var 3) (QE.tb qe_int))) (qb_var 9))))) (qb_var 4)) (hs := fun ψ => sw_binop))
      (qss_cons (qs_if (qt_ne cx (qb_var 11) (QE.tb (qe_add cx (QE.tb (qe_ix cx (QE.tb (qe_ix cx (qb_var 3) (QE.tb qe_int))) (qb_var 9))) (QE.tb (qe_mul (qb_var 10) (QE.tb (qe_ix cx (qb_var 8) (qb_var 9)))))))) (qss_one (qs_ret qe_bl)) qss_nil)
      (qss_one (qs_set 4 (fun ψ => nd) (qe_ix cx (qb_var 8) (qb_var 9)) (hs := fun ψ => sw_sub))))))
      (qk_one (qs_ret (qe_eq cx (qb_var 4) (QE.tb (qe_ix cx (QE.tb (qe_ix cx (qb_var 3) (QE.tb qe_int))) (qb_var 2))))))))))))))
noncomputable abbrev s_q3 : Stmt := top 24
noncomputable abbrev N_q3 : List Str := ["pile", "found", "way", "longer", "more", "which", "last"]
noncomputable abbrev p_q3 : List Str := ["pile", "found", "way", "longer"]
theorem sc_q3 : FnScope N_q3 p_q3 (defScope s_q3) := ⟨rfl, rfl, rfl, by decide +kernel, rfl, by decide +kernel, by decide +kernel⟩
noncomputable def g_q3 : Sf := (sIf (tfB (eOp uEq (eVar 2) (eC (.int 5)))) (sSeq (nSet 4 (eOp uSub (eOp uAdd (eC (.int 1)) (eVar 3)) (eB uMin2 (aCons (eB uLen (aCons (eOp uIx (eVar 1) (eC (.int 0))) aNil)) (aCons (eB uLen (aCons (eOp uIx (eVar 1) (eC (.int 1))) aNil)) aNil)))))
      (sSeq (nSet 5 (eCall F_q9 (aCons (eVar 0) (aCons (eC (.int 2)) aNil))))
      (sSeq (nRep 1 (eVar 5) (eOp uCat (eOp uIx (eVar 1) (eVar 5)) (eOp uRep (eLst (aCons (eC (.int 0)) aNil)) (eB uMin2 (aCons (eVar 4) (aCons (eB uMax2 (aCons (eC (.int 0)) (aCons (eOp uSub (eC (.int 84)) (eB uLen (aCons (eOp uIx (eVar 1) (eVar 5)) aNil))) aNil))) aNil))))))
      (sSeq (nSet 6 (eOp uIx (eLst (aCons (eC (.int 0)) (aCons (eOp uIx (eOp uIx (eVar 1) (eC (.int 3))) (eUn uNeg (eC (.int 1)))) aNil))) (eCall F_q9 (aCons (eVar 0) (aCons (eC (.int 2)) aNil)))))
      (sIf (tfB (eOp uLt (eVar 3) (eC (.int 84)))) (nApp 1 (eC (.int 3)) (eVar 6)) sNext))))) (sSeq (nSet 5 (eCall F_q9 (aCons (eVar 0) (aCons (eC (.int 3)) aNil))))
      (sSeq (sIf (tfAnd (tfB (eOp uEq (eVar 5) (eC (.int 0)))) (tfB (eOp uLt (eVar 3) (eC (.int 84))))) (nApp 1 (eC (.int 3)) (eC (.int 0))) sNext)
      (sIf (tfAnd (tfB (eOp uGt (eVar 5) (eC (.int 0)))) (tfB (eOp uLt (eB uLen (aCons (eOp uIx (eVar 1) (eC (.int 2))) aNil)) (eC (.int 84))))) (nRep 1 (eC (.int 2)) (eOp uCat (eOp uIx (eVar 1) (eC (.int 2))) (eOp uIx (eLst (aCons (eLst (aCons (eC (.int 1)) aNil)) (aCons (eLst (aCons (eC (.int 0)) (aCons (eC (.int 0)) aNil))) aNil))) (eOp uSub (eVar 5) (eC (.int 1)))))) sNext))))
theorem ok_q3 {f : Addr} {fd : FuncData} (F : Fun K "_law_longer" "_law_longer" s_q3 f fd) (B : Bl mg) (kt : Kt K) (T : Tx K mg) {a_q9 : Addr} {d_q9 : FuncData} (c_q9 : Fn P w K mg base (CX1 P w) 1 "_law_next" a_q9 d_q9 p_q9 (spU K mg PlW b_q9.length b_q9 F_q9)) : FnOk P w K mg base (CX1 P w) 2 f fd p_q3 (spN K mg PlW [0] 3 g_q3) := by
  have nd := sc_q3.nd
  refine F.okN (N := N_q3) (ps := p_q3) (wk := PlW) (B := [0]) (n2 := 3) (g := g_q3) sc_q3 rfl rfl fun cdv A outer s H E W hK hm hw hr hA => ?_
  subst hK; subst hm
  have cx := ctx_def (W := W) (P := P) (w := w) (base := base) (N := N_q3) (outer := outer) (H := H) (E := E) rfl rfl hr
  have hw_q9 : PlW W := hw
  exact (qns_one (qn_if (E := E) (qt_eq cx (qb_var 2) (QE.tb qe_int)) (qns_cons (qn_set (E := E) 4 (fun ψ => nd) (QE.tb (qe_sub (QE.tb (qe_add cx (QE.tb qe_int) (qb_var 3))) (QE.tb (qe_min2 cx B (qa_b (QE.tb (qe_len cx B (QE.tb (qe_ix cx (qb_var 1) (QE.tb qe_int))))) (qa_b (QE.tb (qe_len cx B (QE.tb (qe_ix cx (qb_var 1) (QE.tb qe_int))))) qa_nil)))))) (hs := fun ψ => sw_binop))
      (qns_cons (qn_set (E := E) 5 (fun ψ => nd) (QE.tb (qe_call cx (fun ψ => c_q9) (fun ψ => hr.mono (by decide)) hw_q9 (qa_b (qb_var 0) (qa_b (QE.tb qe_int) qa_nil)))))
      (qns_cons (qn_rep (E := E) (qf_cat cx (QE.tb (qe_ix cx (qb_var 1) (qb_var 5))) (QE.tb (qe_rep (QF.tb (qf_lst (qa_e qe_int qa_nil))) (QE.tb (qe_min2 cx B (qa_b (qb_var 4) (qa_b (QE.tb (qe_max2 cx B (qa_b (QE.tb qe_int) (qa_b (QE.tb (qe_sub (QE.tb qe_int) (QE.tb (qe_len cx B (QE.tb (qe_ix cx (qb_var 1) (qb_var 5))))))) qa_nil)))) qa_nil))))))) (qb_var 5))
      (qns_cons (qn_set (E := E) 6 (fun ψ => nd) (QE.tb (qe_ix cx (QF.tb (qf_lst (qa_e qe_int (qa_e (qe_ix cx (QE.tb (qe_ix cx (qb_var 1) (QE.tb qe_int))) (QE.tb (qe_neg (QE.tb qe_int)))) qa_nil)))) (QE.tb (qe_call cx (fun ψ => c_q9) (fun ψ => hr.mono (by decide)) hw_q9 (qa_b (qb_var 0) (qa_b (QE.tb qe_int) qa_nil)))))) (hs := fun ψ => sw_sub))
      (qns_one (qn_if (E := E) (qt_lt (qb_var 3) (QE.tb qe_int)) (qns_one (qn_app cx (QE.tb qe_int) (qb_var 6))) qns_nil)))))) (qns_cons (qn_set (E := E) 5 (fun ψ => nd) (QE.tb (qe_call cx (fun ψ => c_q9) (fun ψ => hr.mono (by decide)) hw_q9 (qa_b (qb_var 0) (qa_b (QE.tb qe_int) qa_nil)))))
      (qns_cons (qn_if (E := E) (QW.t (qw_and (qt_eq cx (qb_var 5) (QE.tb qe_int)) (qw_and1 (qt_lt (qb_var 3) (QE.tb qe_int))))) (qns_one (qn_app cx (QE.tb qe_int) (QE.tb qe_int))) qns_nil)
      (qns_one (qn_if (E := E) (QW.t (qw_and (qt_gt (qb_var 5) (QE.tb qe_int)) (qw_and1 (qt_lt (QE.tb (qe_len cx B (QE.tb (qe_ix cx (qb_var 1) (QE.tb qe_int))))) (QE.tb qe_int))))) (qns_one (qn_rep (E := E) (qf_cat cx (QE.tb (qe_ix cx (qb_var 1) (QE.tb qe_int))) (QE.tb (qe_ix cx (QF.tb (qf_lst (qa_e (QF.te (qf_lst (qa_e qe_int qa_nil))) (qa_e (QF.te (qf_lst (qa_e qe_int (qa_e qe_int qa_nil)))) qa_nil)))) (QE.tb (qe_sub (qb_var 5) (QE.tb qe_int)))))) (QE.tb qe_int))) qns_nil))))))
noncomputable abbrev s_q8 : Stmt := top 25
noncomputable abbrev N_q8 : List Str := ["pile", "scale", "four", "found", "longer", "at", "to", "by", "way", "base", "which"]
noncomputable abbrev p_q8 : List Str := ["pile", "scale", "four"]
theorem sc_q8 : FnScope N_q8 p_q8 (defScope s_q8) := ⟨rfl, rfl, rfl, by decide +kernel, rfl, by decide +kernel, by decide +kernel⟩
noncomputable abbrev b_q8 : List Bool := [true, false, true]
noncomputable def g_q8 : Sf := (nNest 3 (eComp (iOf (eVar 2)) 1 [] (aName 0) tfTrue (eB uList (aCons (eVar 0) aNil)))
      (sSeq (nSet 4 (eB uLen (aCons (eOp uIx (eVar 3) (eC (.int 3))) aNil)))
      (sSeq (sIf (tfB (eOp uEq (eVar 4) (eC (.int 0)))) (nRet 3) sNext)
      (sSeq (nSet 5 (eCall F_q9 (aCons (eVar 0) (aCons (eVar 4) aNil))))
      (sSeq (nSet 6 (eCall F_q9 (aCons (eVar 0) (aCons (eVar 4) aNil))))
      (sSeq (nSet 7 (eOp uIx (eLst (aCons (eC (.int 1)) (aCons (eUn uNeg (eC (.int 1))) (aCons (eC (.int 2)) aNil)))) (eCall F_q9 (aCons (eVar 0) (aCons (eC (.int 3)) aNil)))))
      (sSeq (nSet 8 (eCall F_q9 (aCons (eVar 0) (aCons (eC (.int 7)) aNil))))
      (sSeq (nRep 3 (eC (.int 2)) (eOp uCat (eOp uIx (eVar 3) (eC (.int 2))) (eOp uRep (eLst (aCons (eC (.int 0)) aNil)) (eOp uSub (eVar 4) (eB uLen (aCons (eOp uIx (eVar 3) (eC (.int 2))) aNil))))))
      (sSeq (sIf (tfB (eOp uEq (eVar 8) (eC (.int 0)))) (sSeq (nRep 3 (eC (.int 2)) (eOp uCat (eOp uIx (eVar 3) (eC (.int 2))) (eOp uRep (eLst (aCons (eC (.int 0)) aNil)) (eOp uSub (eOp uAdd (eVar 5) (eC (.int 2))) (eB uLen (aCons (eOp uIx (eVar 3) (eC (.int 2))) aNil))))))
      (sSeq (nPut 3 (eC (.int 3)) (eVar 5) (eOp uAdd (eOp uIx (eOp uIx (eVar 3) (eC (.int 3))) (eVar 5)) (eVar 7)))
      (sSeq (nSet 9 (eOp uIx (eCall F_q5 (aCons (eVar 1) (aCons (eOp uAdd (eVar 5) (eC (.int 1))) aNil))) (eVar 5)))
      (sSeq (nPut 3 (eC (.int 2)) (eVar 5) (eOp uSub (eOp uIx (eOp uIx (eVar 3) (eC (.int 2))) (eVar 5)) (eOp uMul (eVar 7) (eVar 9))))
      (nPut 3 (eC (.int 2)) (eOp uAdd (eVar 5) (eC (.int 1))) (eOp uAdd (eOp uIx (eOp uIx (eVar 3) (eC (.int 2))) (eOp uAdd (eVar 5) (eC (.int 1)))) (eVar 7))))))) sNext)
      (sSeq (sIf (tfB (eOp uEq (eVar 8) (eC (.int 1)))) (sSeq (nSet 10 (eB uInt (aCons (eOp uGe (eVar 5) (eB uLen (aCons (eOp uIx (eVar 3) (eC (.int 0))) aNil))) aNil)))
      (sSeq (nRep 3 (eVar 10) (eOp uCat (eOp uIx (eVar 3) (eVar 10)) (eOp uRep (eLst (aCons (eC (.int 0)) aNil)) (eOp uSub (eOp uAdd (eVar 5) (eC (.int 1))) (eB uLen (aCons (eOp uIx (eVar 3) (eVar 10)) aNil))))))
      (sSeq (nPut 3 (eVar 10) (eVar 5) (eOp uAdd (eOp uIx (eOp uIx (eVar 3) (eVar 10)) (eVar 5)) (eVar 7)))
      (nPut 3 (eC (.int 2)) (eVar 5) (eOp uAdd (eOp uIx (eOp uIx (eVar 3) (eC (.int 2))) (eVar 5)) (eVar 7)))))) sNext)
      (sSeq (sIf (tfB (eOp uEq (eVar 8) (eC (.int 2)))) (nSw 3 (eC (.int 3)) (eVar 5) (eC (.int 3)) (eVar 6) (eTup (aCons (eOp uIx (eOp uIx (eVar 3) (eC (.int 3))) (eVar 6)) (aCons (eOp uIx (eOp uIx (eVar 3) (eC (.int 3))) (eVar 5)) aNil)))) sNext)
      (sSeq (sIf (tfB (eOp uEq (eVar 8) (eC (.int 3)))) (sSeq (nPut 3 (eC (.int 3)) (eVar 5) (eOp uAdd (eOp uIx (eOp uIx (eVar 3) (eC (.int 3))) (eVar 5)) (eVar 7)))
      (nPut 3 (eC (.int 3)) (eVar 6) (eOp uSub (eOp uIx (eOp uIx (eVar 3) (eC (.int 3))) (eVar 6)) (eVar 7)))) sNext)
      (sSeq (sIf (tfB (eOp uEq (eVar 8) (eC (.int 4)))) (nSw 3 (eC (.int 2)) (eVar 5) (eC (.int 2)) (eVar 6) (eTup (aCons (eOp uIx (eOp uIx (eVar 3) (eC (.int 2))) (eVar 6)) (aCons (eOp uIx (eOp uIx (eVar 3) (eC (.int 2))) (eVar 5)) aNil)))) sNext)
      (sSeq (sIf (tfB (eOp uGt (eVar 8) (eC (.int 4)))) (nCall 0 3 8 4 3 g_q3) sNext)
      (nRet 3)))))))))))))))
noncomputable def F_q8 : Ff := runU N_q8.length g_q8
theorem ok_q8 {f : Addr} {fd : FuncData} (F : Fun K "_law_bent" "_law_bent" s_q8 f fd) (B : Bl mg) (kt : Kt K) (T : Tx K mg) {a_q9 : Addr} {d_q9 : FuncData} (c_q9 : Fn P w K mg base (CX1 P w) 1 "_law_next" a_q9 d_q9 p_q9 (spU K mg PlW b_q9.length b_q9 F_q9)) {a_q3 : Addr} {d_q3 : FuncData} (c_q3 : Fn P w K mg base (CX1 P w) 2 "_law_longer" a_q3 d_q3 p_q3 (spN K mg PlW [0] 3 g_q3)) {a_q5 : Addr} {d_q5 : FuncData} (c_q5 : Fn P w K mg base (CX1 P w) 1 "_law_bases" a_q5 d_q5 p_q5 (spU K mg wkT b_q5.length b_q5 F_q5)) : FnOk P w K mg base (CX1 P w) 3 f fd p_q8 (spU K mg PlW b_q8.length b_q8 F_q8) := by
  have nd := sc_q8.nd
  refine F.okQ (N := N_q8) (ps := p_q8) (bs := b_q8) (wk := PlW) (m := ⟨[0, 2], []⟩) (g := g_q8) sc_q8 rfl rfl (by decide) fun cdv A outer s H E W hK hm hw hr hA => ?_
  subst hK; subst hm
  have cx := ctx_def (W := W) (P := P) (w := w) (base := base) (N := N_q8) (outer := outer) (H := H) (E := E) rfl rfl hr
  have hw_q9 : PlW W := hw
  have hw_q3 : PlW W := hw
  have hw_q5 : wkT W := trivial
  exact (qk_nest (bs := ["row"]) 3 ⟨[], []⟩ cx nd (comp_ok rfl (by rfl) rfl (by rfl) (by rfl) .nil .nil) (qi_v 2 cx) (qg_name 0 (fun ψ => (show (["row"] : List Str).Nodup by decide +kernel))) qts_nil (qf_list cx.blk B (qb_var 0))
      (qns_cons (qn_set (E := E) 4 (fun ψ => nd) (QE.tb (qe_len cx B (QE.tb (qe_ix cx (qb_var 3) (QE.tb qe_int))))))
      (qns_cons (qn_if (E := E) (qt_eq cx (qb_var 4) (QE.tb qe_int)) (qns_one qn_ret) qns_nil)
      (qns_cons (qn_set (E := E) 5 (fun ψ => nd) (QE.tb (qe_call cx (fun ψ => c_q9) (fun ψ => hr.mono (by decide)) hw_q9 (qa_b (qb_var 0) (qa_b (qb_var 4) qa_nil)))))
      (qns_cons (qn_set (E := E) 6 (fun ψ => nd) (QE.tb (qe_call cx (fun ψ => c_q9) (fun ψ => hr.mono (by decide)) hw_q9 (qa_b (qb_var 0) (qa_b (qb_var 4) qa_nil)))))
      (qns_cons (qn_set (E := E) 7 (fun ψ => nd) (QE.tb (qe_ix cx (QF.tb (qf_lst (qa_e qe_int (qa_e (qe_neg (QE.tb qe_int)) (qa_e qe_int qa_nil))))) (QE.tb (qe_call cx (fun ψ => c_q9) (fun ψ => hr.mono (by decide)) hw_q9 (qa_b (qb_var 0) (qa_b (QE.tb qe_int) qa_nil)))))) (hs := fun ψ => sw_sub))
      (qns_cons (qn_set (E := E) 8 (fun ψ => nd) (QE.tb (qe_call cx (fun ψ => c_q9) (fun ψ => hr.mono (by decide)) hw_q9 (qa_b (qb_var 0) (qa_b (QE.tb qe_int) qa_nil)))))
      (qns_cons (qn_rep (E := E) (qf_cat cx (QE.tb (qe_ix cx (qb_var 3) (QE.tb qe_int))) (QE.tb (qe_rep (QF.tb (qf_lst (qa_e qe_int qa_nil))) (QE.tb (qe_sub (qb_var 4) (QE.tb (qe_len cx B (QE.tb (qe_ix cx (qb_var 3) (QE.tb qe_int)))))))))) (QE.tb qe_int))
      (qns_cons (qn_if (E := E) (qt_eq cx (qb_var 8) (QE.tb qe_int)) (qns_cons (qn_rep (E := E) (qf_cat cx (QE.tb (qe_ix cx (qb_var 3) (QE.tb qe_int))) (QE.tb (qe_rep (QF.tb (qf_lst (qa_e qe_int qa_nil))) (QE.tb (qe_sub (QE.tb (qe_add cx (qb_var 5) (QE.tb qe_int))) (QE.tb (qe_len cx B (QE.tb (qe_ix cx (qb_var 3) (QE.tb qe_int)))))))))) (QE.tb qe_int))
      (qns_cons (qn_put cx (QE.tb (qe_add cx (QE.tb (qe_ix cx (QE.tb (qe_ix cx (qb_var 3) (QE.tb qe_int))) (qb_var 5))) (qb_var 7))) (QE.tb qe_int) (qb_var 5))
      (qns_cons (qn_set (E := E) 9 (fun ψ => nd) (QE.tb (qe_ix cx (QE.tb (qe_call cx (fun ψ => c_q5) (fun ψ => hr.mono (by decide)) hw_q5 (qa_e (qe_var 1) (qa_b (QE.tb (qe_add cx (qb_var 5) (QE.tb qe_int))) qa_nil)))) (qb_var 5))) (hs := fun ψ => sw_sub))
      (qns_cons (qn_put cx (QE.tb (qe_sub (QE.tb (qe_ix cx (QE.tb (qe_ix cx (qb_var 3) (QE.tb qe_int))) (qb_var 5))) (QE.tb (qe_mul (qb_var 7) (qb_var 9))))) (QE.tb qe_int) (qb_var 5))
      (qns_one (qn_put cx (QE.tb (qe_add cx (QE.tb (qe_ix cx (QE.tb (qe_ix cx (qb_var 3) (QE.tb qe_int))) (QE.tb (qe_add cx (qb_var 5) (QE.tb qe_int))))) (qb_var 7))) (QE.tb qe_int) (QE.tb (qe_add cx (qb_var 5) (QE.tb qe_int))))))))) qns_nil)
      (qns_cons (qn_if (E := E) (qt_eq cx (qb_var 8) (QE.tb qe_int)) (qns_cons (qn_set (E := E) 10 (fun ψ => nd) (QE.tb (qe_toint cx B (QE.tb (qe_ge (qb_var 5) (QE.tb (qe_len cx B (QE.tb (qe_ix cx (qb_var 3) (QE.tb qe_int))))))))))
      (qns_cons (qn_rep (E := E) (qf_cat cx (QE.tb (qe_ix cx (qb_var 3) (qb_var 10))) (QE.tb (qe_rep (QF.tb (qf_lst (qa_e qe_int qa_nil))) (QE.tb (qe_sub (QE.tb (qe_add cx (qb_var 5) (QE.tb qe_int))) (QE.tb (qe_len cx B (QE.tb (qe_ix cx (qb_var 3) (qb_var 10)))))))))) (qb_var 10))
      (qns_cons (qn_put cx (QE.tb (qe_add cx (QE.tb (qe_ix cx (QE.tb (qe_ix cx (qb_var 3) (qb_var 10))) (qb_var 5))) (qb_var 7))) (qb_var 10) (qb_var 5))
      (qns_one (qn_put cx (QE.tb (qe_add cx (QE.tb (qe_ix cx (QE.tb (qe_ix cx (qb_var 3) (QE.tb qe_int))) (qb_var 5))) (qb_var 7))) (QE.tb qe_int) (qb_var 5)))))) qns_nil)
      (qns_cons (qn_if (E := E) (qt_eq cx (qb_var 8) (QE.tb qe_int)) (qns_one (qn_sw cx (qe_tup (qa_e (qe_ix cx (QE.tb (qe_ix cx (qb_var 3) (QE.tb qe_int))) (qb_var 6)) (qa_e (qe_ix cx (QE.tb (qe_ix cx (qb_var 3) (QE.tb qe_int))) (qb_var 5)) qa_nil))) (QE.tb qe_int) (qb_var 5) (QE.tb qe_int) (qb_var 6))) qns_nil)
      (qns_cons (qn_if (E := E) (qt_eq cx (qb_var 8) (QE.tb qe_int)) (qns_cons (qn_put cx (QE.tb (qe_add cx (QE.tb (qe_ix cx (QE.tb (qe_ix cx (qb_var 3) (QE.tb qe_int))) (qb_var 5))) (qb_var 7))) (QE.tb qe_int) (qb_var 5))
      (qns_one (qn_put cx (QE.tb (qe_sub (QE.tb (qe_ix cx (QE.tb (qe_ix cx (qb_var 3) (QE.tb qe_int))) (qb_var 6))) (qb_var 7))) (QE.tb qe_int) (qb_var 6)))) qns_nil)
      (qns_cons (qn_if (E := E) (qt_eq cx (qb_var 8) (QE.tb qe_int)) (qns_one (qn_sw cx (qe_tup (qa_e (qe_ix cx (QE.tb (qe_ix cx (qb_var 3) (QE.tb qe_int))) (qb_var 6)) (qa_e (qe_ix cx (QE.tb (qe_ix cx (qb_var 3) (QE.tb qe_int))) (qb_var 5)) qa_nil))) (QE.tb qe_int) (qb_var 5) (QE.tb qe_int) (qb_var 6))) qns_nil)
      (qns_cons (qn_if (E := E) (qt_gt (qb_var 8) (QE.tb qe_int)) (qns_one (qn_call 0 8 4 cx (fun ψ => c_q3) (fun ψ => hr.mono (by decide)) hw_q3 (fun ψ => pa_var 0 (pa_var 3 (pa_var 8 (pa_var 4 pa_nil)))))) qns_nil)
      (qns_one qn_ret)))))))))))))))
noncomputable abbrev s_law : Stmt := top 26
noncomputable abbrev N_law : List Str := ["script", "pile", "turn", "scale", "one", "four", "some", "again", "bent", "due", "rows", "found"]
noncomputable abbrev p_law : List Str := ["script"]
theorem sc_law : FnScope N_law p_law (defScope s_law) := ⟨rfl, rfl, rfl, by decide +kernel, rfl, by decide +kernel, by decide +kernel⟩
noncomputable def B_law_0 : Sf := (sSeq (sSet 8 (eCall F_q8 (aCons (eVar 1) (aCons (eVar 3) (aCons (eOp uIx (eLst (aCons (eVar 5) (aCons (eOp uIx (eVar 6) (eUn uNeg (eC (.int 1)))) aNil))) (eCall F_q9 (aCons (eVar 1) (aCons (eC (.int 2)) aNil)))) aNil)))))
      (sApp 6 (eVar 8)))
noncomputable def B_law_1 : Sf := (sSeq (sSet 11 (eCall F_q12 (aCons (eVar 3) (aCons (eOp uIx (eVar 10) (eC (.int 0))) (aCons (eOp uIx (eVar 10) (eC (.int 1))) (aCons (eOp uIx (eVar 10) (eC (.int 2))) (aCons (eOp uIx (eVar 10) (eC (.int 3))) aNil)))))))
      (sIf (tfOr (tfNot (tfB (eB uIsT (aCons (eVar 11) (aCons (eC (.ty "bool")) aNil))))) (tfB (eOp uNe (eVar 11) (eVar 9)))) (sRet (eC (.bl false))) sNext))
noncomputable def B_law_2 : Sf := (sSeq (sSet 9 (eCall F_q13 (aCons (eVar 3) (aCons (eVar 8) aNil))))
      (sSeq (sSet 10 (eComp (iOf (eVar 8)) 1 [] (aName 0) tfTrue (eB uTuple (aCons (eVar 0) aNil))))
      (sFor (iArgs uR1 (aCons (eC (.int 2)) aNil)) (aName 7) B_law_1)))
noncomputable def B_law_3 : Sf := (sSeq (sSet 3 (eCall F_q6 (aCons (eVar 1) aNil)))
      (sSeq (sSet 4 (eCall F_q14 (aCons (eVar 1) (aCons (eVar 3) (aCons (eC (.int 60)) aNil)))))
      (sSeq (sSet 5 (eCall F_q15 (aCons (eVar 3) (aCons (eVar 4) (aCons (eCall F_q14 (aCons (eVar 1) (aCons (eVar 3) (aCons (eOp uIx (eLst (aCons (eC (.int 60)) (aCons (eC (.int 6)) aNil))) (eCall F_q9 (aCons (eVar 1) (aCons (eC (.int 2)) aNil)))) aNil)))) aNil)))))
      (sSeq (sSet 6 (eLst (aCons (eVar 5) aNil)))
      (sSeq (sFor (iArgs uR1 (aCons (eC (.int 12)) aNil)) (aName 7) B_law_0)
      (sFz [6] (sFor (iOf (eVar 6)) (aName 8) B_law_2)))))))
noncomputable def g_law : Sf := (sSeq (sFor (iArgs uR1 (aCons (eC (.int 4)) aNil)) (aName 2) B_law_3)
      (sRet (eC (.bl true))))
noncomputable abbrev pcells : List Int := [0, 0, 37199, 0]
theorem ok_law {f : Addr} {fd : FuncData} (F : Fun K "law" "law" s_law f fd) (B : Bl mg) (kt : Kt K) (T : Tx K mg) {a_q10 : Addr} {d_q10 : FuncData} (c_q10 : Fn P w K mg base (CX1 P w) 1 "_law_pile" a_q10 d_q10 p_q10 (spU K mg wkT b_q10.length b_q10 F_q10)) {a_q6 : Addr} {d_q6 : FuncData} (c_q6 : Fn P w K mg base (CX1 P w) 3 "_law_scale" a_q6 d_q6 p_q6 (spU K mg PlW b_q6.length b_q6 F_q6)) {a_q14 : Addr} {d_q14 : FuncData} (c_q14 : Fn P w K mg base (CX1 P w) 2 "_law_row" a_q14 d_q14 p_q14 (spU K mg PlW b_q14.length b_q14 F_q14)) {a_q15 : Addr} {d_q15 : FuncData} (c_q15 : Fn P w K mg base (CX1 P w) 2 "_law_sum" a_q15 d_q15 p_q15 (spU K mg wkT b_q15.length b_q15 F_q15)) {a_q8 : Addr} {d_q8 : FuncData} (c_q8 : Fn P w K mg base (CX1 P w) 3 "_law_bent" a_q8 d_q8 p_q8 (spU K mg PlW b_q8.length b_q8 F_q8)) {a_q13 : Addr} {d_q13 : FuncData} (c_q13 : Fn P w K mg base (CX1 P w) 3 "_law_due" a_q13 d_q13 p_q13 (spU K mg wkT b_q13.length b_q13 F_q13)) {a_q12 : Addr} {d_q12 : FuncData} (c_q12 : Fn P w K mg base (CX1 P w) 5 "sum_shown" a_q12 d_q12 p_q12 (spU K mg wkT b_q12.length b_q12 F_q12)) {a_q9 : Addr} {d_q9 : FuncData} (c_q9 : Fn P w K mg base (CX1 P w) 1 "_law_next" a_q9 d_q9 p_q9 (spU K mg PlW b_q9.length b_q9 F_q9)) (hFp : ∀ ns ω, F_q10 [.scr ns] ω = .ok (.lst (.scr ns :: pcells.map U.int)) ω) (hlaw : ∀ ns : List Int, ns.length ≤ 63 → ∃ ω', endF (g_law (none :: some .pile :: List.replicate (N_law.length - 2) none) ⟨ns, pcells⟩) = .ok (.bl true) ω') : FnOk P w K mg base (CX1 P w) 6 f fd p_law (spLaw K) := by
  have nd := sc_law.nd
  refine F.okP (N := N_law) (m := ⟨[], [6]⟩) (g := g_law) (Fp := F_q10) (cells := pcells) sc_law rfl (by decide) (by decide) (fun cdv A outer s H E hr hA => ?_) (fun cdv A outer s H E W hK hm hw hr hA => ?_) hFp hlaw
  · have cx := ctx_def (W := wd0 K mg) (P := P) (w := w) (base := base) (N := N_law) (outer := outer) (H := H) (E := E) rfl rfl hr
    have hw_q10 : wkT (wd0 K mg) := trivial
    exact (qs_set 1 (fun ψ => nd) (qe_call cx (fun ψ => c_q10) (fun ψ => hr.mono (by decide)) hw_q10 (qa_e (qe_var 0) qa_nil)))
  · subst hK; subst hm
    have cx := ctx_def (W := W) (P := P) (w := w) (base := base) (N := N_law) (outer := outer) (H := H) (E := E) rfl rfl hr
    have hw_q10 : wkT W := trivial
    have hw_q6 : PlW W := hw
    have hw_q14 : PlW W := hw
    have hw_q15 : wkT W := trivial
    have hw_q8 : PlW W := hw
    have hw_q13 : wkT W := trivial
    have hw_q12 : wkT W := trivial
    have hw_q9 : PlW W := hw
    exact (qk_cons (qs_for cx pw_def (qi_r1 cx B (qa_b (QE.tb qe_int) qa_nil)) (qg_name 2 (fun ψ => nd)) (qss_cons (qs_set 3 (fun ψ => nd) (qe_call cx (fun ψ => c_q6) (fun ψ => hr.mono (by decide)) hw_q6 (qa_b (qb_var 1) qa_nil)))
      (qss_cons (qs_set 4 (fun ψ => nd) (qe_call cx (fun ψ => c_q14) (fun ψ => hr.mono (by decide)) hw_q14 (qa_b (qb_var 1) (qa_e (qe_var 3) (qa_e qe_int qa_nil)))))
      (qss_cons (qs_set 5 (fun ψ => nd) (qe_call cx (fun ψ => c_q15) (fun ψ => hr.mono (by decide)) hw_q15 (qa_e (qe_var 3) (qa_e (qe_var 4) (qa_e (qe_call cx (fun ψ => c_q14) (fun ψ => hr.mono (by decide)) hw_q14 (qa_b (qb_var 1) (qa_e (qe_var 3) (qa_e (qe_ix cx (QF.tb (qf_lst (qa_e qe_int (qa_e qe_int qa_nil)))) (QE.tb (qe_call cx (fun ψ => c_q9) (fun ψ => hr.mono (by decide)) hw_q9 (qa_b (qb_var 1) (qa_b (QE.tb qe_int) qa_nil))))) qa_nil)))) qa_nil)))))
      (qss_cons (qs_own 6 (fun ψ => nd) (qf_lst (qa_e (qe_var 5) qa_nil)) (hs := fun ψ => sw_list))
      (qss_cons (qs_for cx pw_def (qi_r1 cx B (qa_b (QE.tb qe_int) qa_nil)) (qg_name 7 (fun ψ => nd)) (qss_cons (qs_set 8 (fun ψ => nd) (qe_call cx (fun ψ => c_q8) (fun ψ => hr.mono (by decide)) hw_q8 (qa_b (qb_var 1) (qa_e (qe_var 3) (qa_b (QE.tb (qe_ix cx (QF.tb (qf_lst (qa_e (qe_var 5) (qa_e (qe_ix cx (qb_var 6) (QE.tb (qe_neg (QE.tb qe_int)))) qa_nil)))) (QE.tb (qe_call cx (fun ψ => c_q9) (fun ψ => hr.mono (by decide)) hw_q9 (qa_b (qb_var 1) (qa_b (QE.tb qe_int) qa_nil)))))) qa_nil)))))
      (qss_one (qs_app 6 cx (qe_var 8)))))
      (qss_fz [6] [] (qss_one (qs_for cx pw_def (qi_v 6 cx) (qg_name 8 (fun ψ => nd)) (qss_cons (qs_set 9 (fun ψ => nd) (qe_call cx (fun ψ => c_q13) (fun ψ => hr.mono (by decide)) hw_q13 (qa_e (qe_var 3) (qa_e (qe_var 8) qa_nil))))
      (qss_cons (qs_setC (bs := ["row"]) false 10 ⟨[], []⟩ cx nd (comp_ok rfl (by rfl) rfl (by rfl) (by rfl) .nil .nil) (qi_v 8 cx) (qg_name 0 (fun ψ => (show (["row"] : List Str).Nodup by decide +kernel))) qts_nil (qe_tuple cx.blk B (qb_var 0)))
      (qss_one (qs_for cx pw_def (qi_r1 cx B (qa_b (QE.tb qe_int) qa_nil)) (qg_name 7 (fun ψ => nd)) (qss_cons (qs_set 11 (fun ψ => nd) (qe_call cx (fun ψ => c_q12) (fun ψ => hr.mono (by decide)) hw_q12 (qa_b (qb_var 3) (qa_e (qe_ix cx (qb_var 10) (QE.tb qe_int)) (qa_e (qe_ix cx (qb_var 10) (QE.tb qe_int)) (qa_e (qe_ix cx (qb_var 10) (QE.tb qe_int)) (qa_b (QE.tb (qe_ix cx (qb_var 10) (QE.tb qe_int))) qa_nil)))))))
      (qss_one (qs_if (QW.t (qw_or (qt_not (qt_val (QE.tb (qe_isT cx B kt (qa_b (qb_var 11) (qa_b (QE.tb (qe_ty (n := "bool") (fun y => (congrFun (cx.hm y) _).trans B.bool) boot_bool)) qa_nil)))))) (qw_or1 (qt_ne cx (qb_var 11) (qb_var 9))))) (qss_one (qs_ret qe_bl)) qss_nil))))))))))))))))
      (qk_one (qs_ret qe_bl)))
end
end EvBlock
section EvBlock
local macro_rules | `(tactic| walk_at "ev") => do
    let js1 ← ("List.length_cons List.length_nil List.length_append List.length_map List.length_replicate List.length_reverse List.length_take List.length_drop rngU_len List.length_range".splitOn " ").toArray.mapM fun s => `(Lean.Parser.Tactic.simpLemma| $(Lean.mkIdent s.toName):term)
    let ls ← ("uLzip_s uEnumL_l uNeN_l nxF_ap nxU_s nxO_s asLL4 nSet_ap nPut_ap nRep_ap nApp_ap nSw_ap putN_ap seqN_nx nRet_ap noE_rt okI_ok okP_ok okL_rep okL_1 okL_2 putLL_0 putLL_1 putLL_2 putLL_3 repLL_0 repLL_1 repLL_2 appLL_3 atI_q2 atI_q3 nCall_ap callN_s back1_s aLst_ap sSeq_then thenF_nx thenF_rt thenF_err runU_end endF_rt endF_nx endF_err sNext_ap sIf_ap sSet_ap sRet_ap sExpr_ap sAug_ap sApp_ap sAsg_ap sFor_ap stepU_ap sRaise_ap aName_ap aTup_ap aNilT_ap aConsT_ap eVar_ap eC_ap eOp_ap eUn_ap eAnd_ap eOr_ap eIf_ap eChain_ap eTup_ap eLst_ap eB_ap eCall_ap eSl_ap eComp_ap cstU_ap tfB_ap tfAnd_ap tfOr_ap tfNot_ap tfTrue_ap aNil_ap aCons_ap pNo_ap pSome_ap iOf_ap iArgs_ap asB_r asI_r asSeq_l asSeq_t asOk_ok Res.bnd_ok Res.bnd_err Res.bnd_stk Res.of_some Res.of_none Fl.of_ok Fl.of_err Fl.of_stk List.getElem?_cons_zero List.getElem?_cons_succ List.set_cons_zero List.set_cons_succ List.map_cons List.map_nil List.length_cons List.length_nil List.length_map List.cons_append List.nil_append List.replicate Nat.zero_add uIx_l uIx_t uAdd_i uSub_r uNeg_r uLt_r uLe_r uGt_r uGe_r uIs_r isNon_n isNon_i isNon_b isNon_t isNon_l isNon_s isNon_x uLen_l uLen_t uLen_s uTuple_l uTuple_t uList_l uList_t uList_s uMax2_r uMin2_r uAbs_r uInt_i uInt_b uIsT_ii uIsT_ib uIsT_bb uIsT_bi uIsT_tt uIsT_ll uEq_ii uNe_ii uDiv_s uMod_s uMul_r uMul_l uPow_s mkT_s mkL_s uAdd_l uAdd_t uCat_l ite_lt ite_le uR1_s ePl_ap ePlLen_ap ePlAt_ap sPl_ap uRep_t1 uRep_l1 atI_i2 atI_i3 atI_i4 atI_i5 atI_i6 atI_i7 atI_i8 atI_i10 uSl_l uSl_t uSlL_l atI_zero atI_one atI_end blkU_r Option.getD_some Option.getD_none Option.bind_some Option.bind_none Option.map_some decide_true decide_false Bool.not_true Bool.not_false if_true if_false Bool.false_eq_true Bool.true_eq_false decide_eq_true_eq Bool.not_eq_true' decide_eq_false_iff_not ne_eq not_true_eq_false not_false_eq_true Nat.reduceSub Nat.reduceAdd Nat.reduceLT Int.reduceEq Int.reduceLT Int.reduceLE Int.reduceAdd Int.reduceSub Int.reduceMul Int.reduceDiv Int.reduceMod reduceIte Int.reduceToNat Int.reducePow Int.reduceNeg".splitOn " ").toArray.mapM fun s => `(Lean.Parser.Tactic.simpLemma| $(Lean.mkIdent s.toName):term)
    `(tactic| try simp (disch := first | decide | lia | omega | (simp only [$js1,*]; first | lia | omega)) only [$ls,*])
theorem enum_cons (u : U) (us : List U) (i : Nat) : (u :: us).mapIdx (fun j w => U.tup [.int ((i + j : Nat) : Int), w]) = .tup [.int (i : Int), u] :: us.mapIdx (fun j w => U.tup [.int ((i + 1 + j : Nat) : Int), w]) := by
  rw [List.mapIdx_cons]
  simp only [Nat.add_zero]
  congr 1
  refine congrArg (fun f => us.mapIdx f) ?_
  funext j w
  rw [show i + (j + 1) = i + 1 + j by lia]
theorem F_has_place_yes {h r : List Int} {p : Nat} (c : 0 < r.length ∨ p < h.length) (ω : Om) : F_q11 [(.tup [.tup (h.map U.int), .tup (r.map U.int)]), .int p] ω = .ok (.bl true) ω := by
  unfold F_q11 g_q11
  walk_at "ev"
  rw [if_neg (by lia)]
  walk_at "ev"
  have e : (if 0 < (r.length : Int) then Res.ok (U.bl true) ω else Res.ok (U.bl (decide ((p : Int) < (h.length : Int)))) ω) = .ok (.bl true) ω := by
    by_cases z : 0 < r.length
    · rw [if_pos (by lia)]
    · rw [if_neg (by lia), decide_eq_true (by lia)]
  rw [e]
  walk_at "ev"
theorem F_has_place_no {h r : List Int} {p : Nat} (c : ¬ (0 < r.length ∨ p < h.length)) (ω : Om) : F_q11 [(.tup [.tup (h.map U.int), .tup (r.map U.int)]), .int p] ω = .ok (.bl false) ω := by
  unfold F_q11 g_q11
  walk_at "ev"
  rw [if_neg (by lia)]
  have e : (if 0 < (r.length : Int) then Res.ok (U.bl true) ω else Res.ok (U.bl (decide ((p : Int) < (h.length : Int)))) ω) = .ok (.bl false) ω := by
    rw [if_neg (by lia), decide_eq_false (by lia)]
  walk_at "ev"
  rw [e]
  walk_at "ev"
theorem F_refuse_no_place_yes {h r : List Int} {p : Nat} (c : 0 < r.length ∨ p < h.length) (ω : Om) : F_q0 [(.tup [.tup (h.map U.int), .tup (r.map U.int)]), .int p] ω = .ok .non ω := by
  unfold F_q0 g_q0
  walk_at "ev"
  rw [F_has_place_yes c]
  walk_at "ev"
theorem bat_c {h r : List Int} {p : Nat} {b : Int} (e : bat h r p = some b) : 0 < r.length ∨ p < h.length := by
  by_cases c : 0 < r.length ∨ p < h.length
  · exact c
  · rw [bat_none c] at e; cases e
theorem F_base_at_eq {h r : List Int} {p : Nat} {b : Int} (e : bat h r p = some b) (ω : Om) : F_q17 [(.tup [.tup (h.map U.int), .tup (r.map U.int)]), .int p] ω = .ok (.int b) ω := by
  have c := bat_c e
  unfold F_q17 g_q17
  walk_at "ev"
  rw [F_refuse_no_place_yes c]
  walk_at "ev"
  unfold bat at e
  by_cases z : p < h.length
  · rw [if_pos z] at e
    rw [if_pos (by lia)]
    walk_at "ev"
    have e1 : atI (h.map U.int) (p : Int) = some (.int b) := by rw [atI_cast, List.getElem?_map, e]; rfl
    rw [e1]
    walk_at "ev"
  · rw [if_neg z] at e
    rw [if_neg (by lia)]
    walk_at "ev"
    rw [show (p : Int) - (h.length : Int) = ((p - h.length : Nat) : Int) by lia, ← Int.natCast_emod]
    have e1 : atI (r.map U.int) (((p - h.length) % r.length : Nat) : Int) = some (.int b) := by rw [atI_cast, List.getElem?_map, e]; rfl
    rw [e1]
    walk_at "ev"
noncomputable def fwO (r : Option Nat) (p : Nat) (ω : Om) (ρ : En) : Fl := match r with
  | some k => .rt (.int ((p + k : Nat) : Int)) ω
  | none => .nx ρ ω
theorem fw_loop (h r : List Int) (D : Option U) : ∀ (ds : List Int) (p : Nat) (x y : Option U) (ω : Om),
    ∃ x' y', forU (stepU (aTup 2 (aConsT (aName 2) (aConsT (aName 3) aNilT))) B_q4_0) ((ds.map U.int).mapIdx (fun j u => U.tup [.int ((p + j : Nat) : Int), u])) [some (.tup [.tup (h.map U.int), .tup (r.map U.int)]), D, x, y] ω = fwO (fwx (fbp (bat h r) p ds.length) ds) p ω [some (.tup [.tup (h.map U.int), .tup (r.map U.int)]), D, x', y']
  | [], p, x, y, ω => ⟨x, y, rfl⟩
  | d :: ds, p, x, y, ω => by
    by_cases c : 0 < r.length ∨ p < h.length
    · obtain ⟨b, hb, _⟩ := bat_some c
      obtain ⟨x', y', q⟩ := fw_loop h r D ds (p + 1) (some (.int (p : Int))) (some (.int d)) ω
      refine ⟨x', y', ?_⟩
      rw [List.map_cons, enum_cons, forU, B_q4_0]
      walk_at "ev"
      rw [F_has_place_yes c]
      walk_at "ev"
      rw [F_base_at_eq hb]
      walk_at "ev"
      rw [fbp, hb]
      simp only
      rw [fwx]
      by_cases z : 0 ≤ d ∧ d < b
      · have e1 : (if d < 0 then Res.ok true ω else Res.ok (decide (b ≤ d)) ω : Res Bool) = .ok false ω := by rw [if_neg (by lia), decide_eq_false (by lia)]
        rw [e1]
        walk_at "ev"
        rw [← B_q4_0, if_pos z, q]
        cases fwx (fbp (bat h r) (p + 1) ds.length) ds with
        | none => rfl
        | some k => simp [fwO]; lia
      · have e1 : (if d < 0 then Res.ok true ω else Res.ok (decide (b ≤ d)) ω : Res Bool) = .ok true ω := by
          by_cases y : d < 0
          · rw [if_pos y]
          · rw [if_neg y, decide_eq_true (by lia)]
        rw [e1]
        walk_at "ev"
        rw [if_neg z]
        rfl
    · refine ⟨none, none, ?_⟩
      rw [List.map_cons, enum_cons, forU, B_q4_0]
      walk_at "ev"
      rw [F_has_place_no c]
      walk_at "ev"
      rw [fbp, bat_none c]
      rfl
noncomputable def opU : Option Nat → U
  | some k => .int (k : Nat)
  | none => .non
theorem F_first_wrong_eq {h r ds : List Int} (ω : Om) : F_q4 [(.tup [.tup (h.map U.int), .tup (r.map U.int)]), .tup (ds.map U.int)] ω = .ok (opU (fwx (fbp (bat h r) 0 ds.length) ds)) ω := by
  obtain ⟨x', y', e⟩ := fw_loop h r (some (.tup (ds.map U.int))) ds 0 none none ω
  unfold F_q4 g_q4
  walk_at "ev"
  rw [show uEnum [U.tup (ds.map U.int)] = some (enumU (ds.map U.int)) from rfl]
  walk_at "ev"
  unfold enumU
  simp only [Nat.zero_add] at e
  rw [e]
  cases fwx (fbp (bat h r) 0 ds.length) ds with
  | none => simp only [fwO, opU]; walk_at "ev"
  | some k => simp only [fwO, opU, Nat.zero_add]; walk_at "ev"
theorem rng_r (n : Nat) : rngU 0 n = (List.range' 0 n).map fun i : Nat => U.int (i : Int) := by
  unfold rngU; rw [List.range_eq_range']; simp only [Int.zero_add]
theorem F_digit_at_eq {ds : List Int} {p : Nat} (ω : Om) : F_q16 [.tup (ds.map U.int), .int (p : Int)] ω = .ok (.int (ro ds p)) ω := by
  unfold F_q16 g_q16
  walk_at "ev"
  by_cases c : p < ds.length
  · rw [if_pos (by lia)]
    walk_at "ev"
    rw [atI_ints (by lia) (by lia), Int.toNat_natCast]
    walk_at "ev"
    rfl
  · rw [if_neg (by lia)]
    walk_at "ev"
    unfold ro
    rw [List.getD_eq_getElem?_getD, List.getElem?_eq_none (by lia)]
    rfl
noncomputable def shn (x : Nat → Int) (p : Nat) : Nat → Int := fun i => x (p + i)
theorem sh_shn (x : Nat → Int) (p : Nat) : sh (shn x p) = shn x (p + 1) := by
  funext i
  show x (p + (i + 1)) = x (p + 1 + i)
  congr 1; lia
theorem shn0 (x : Nat → Int) : shn x 0 = x := by funext i; show x (0 + i) = x i; rw [Nat.zero_add]
noncomputable abbrev mx (one other : List Int) : Nat := max one.length other.length
theorem wn_loopT (ds : List Int) : ∀ (m : Nat) (ω : Om), m ≤ ds.length → ∃ m' : Nat, m' ≤ ds.length ∧ ds.take m' = strip (ds.take m) ∧ sWh (tfAnd (tfB (eOp uGt (eVar 1) (eC (.int 0)))) (tfB (eOp uEq (eOp uIx (eVar 0) (eOp uSub (eVar 1) (eC (.int 1)))) (eC (.int 0))))) B_q1_0 [some (.tup (ds.map U.int)), some (.int (m : Int))] ω = .nx [some (.tup (ds.map U.int)), some (.int (m' : Int))] ω := by
  intro m
  induction m with
  | zero =>
    intro ω ψ
    exact ⟨0, by lia, by simp [strip], sWh_end (ω1 := ω) (by walk_at "ev"; rw [if_neg (by simp)])⟩
  | succ m ih =>
    intro ω hm
    have e0 : ds.take (m + 1) = ds.take m ++ [ds[m]] := List.take_succ_eq_append_getElem (by lia)
    have e1 : atI (ds.map U.int) (((m + 1 : Nat) : Int) - 1) = some (.int ds[m]) := by
      rw [show (((m + 1 : Nat) : Int) - 1) = (m : Int) by lia, atI_cast, List.getElem?_map, List.getElem?_eq_getElem (by lia)]; rfl
    generalize ds[m] = d at e0 e1
    by_cases z : d = 0
    · subst z
      obtain ⟨m', l, e2, e3⟩ := ih ω (by lia)
      refine ⟨m', l, by rw [e2, e0, strip_0], ?_⟩
      rw [sWh_step (ω1 := ω) (ρ' := [some (.tup (ds.map U.int)), some (.int (m : Int))]) (ω' := ω) (by
        walk_at "ev"
        rw [if_pos (by lia), e1]
        walk_at "ev") (by
        unfold B_q1_0
        walk_at "ev"
        rw [show (((m + 1 : Nat) : Int) - 1) = (m : Int) by lia])]
      exact e3
    · refine ⟨m + 1, hm, by rw [e0, strip_n z], sWh_end (ω1 := ω) (by
        walk_at "ev"
        rw [if_pos (by lia), e1]
        walk_at "ev"
        simp [z])⟩
theorem F_without_noughts_t {ds : List Int} (hl : ds.length ≤ 9000) (ω : Om) : F_q1 [.tup (ds.map U.int)] ω = .ok (.tup ((strip ds).map U.int)) ω := by
  obtain ⟨m', l, e, q⟩ := wn_loopT ds ds.length ω (Nat.le_refl _)
  rw [List.take_length] at e
  unfold F_q1 g_q1
  walk_at "ev"
  rw [q]
  walk_at "ev"
  rw [cutTo' (by lia), Int.toNat_natCast, ← List.map_take, e]
  walk_at "ev"
noncomputable def ssh (x y t k : Nat → Int) : List Int → Int → Option Int
  | [], c => some c
  | b :: bs, c => if x 0 + y 0 + c = t 0 + b * k 0 then ssh (sh x) (sh y) (sh t) (sh k) bs (k 0) else none
section
variable {h r one other ds cs : List Int}
theorem ss_loop (A5 : Option U) (ω : Om) : ∀ (bs : List Int) (p : Nat) (c : Int) (y7 y8 : Option U), Bs bs → Pre (bat h r) p bs → p + bs.length ≤ cs.length →
    ∃ y7' y8' c', forU (stepU (aName 7) B_q12_0) ((List.range' p bs.length).map fun i : Nat => U.int (i : Int)) [some (.tup [.tup (h.map U.int), .tup (r.map U.int)]), some (.tup (one.map U.int)), some (.tup (other.map U.int)), some (.tup (ds.map U.int)), some (.tup (cs.map U.int)), A5, some (.int c), y7, y8] ω =
      (match ssh (shn (ro one) p) (shn (ro other) p) (shn (ro ds) p) (shn (ro cs) p) bs c with
        | some z => .nx [some (.tup [.tup (h.map U.int), .tup (r.map U.int)]), some (.tup (one.map U.int)), some (.tup (other.map U.int)), some (.tup (ds.map U.int)), some (.tup (cs.map U.int)), A5, some (.int z), y7', y8'] ω
        | none => .rt (.bl false) ω) ∧ c' = c
  | [], p, c, y7, y8, _, _, _ => ⟨y7, y8, c, rfl, rfl⟩
  | b :: bs, p, c, y7, y8, hb, hp, hl => by
    have b2 := hb b (by simp)
    rw [List.length_cons] at hl
    have eC : atI (cs.map U.int) (p : Int) = some (.int (ro cs p)) := by rw [atI_ints (by lia) (by lia), Int.toNat_natCast]; rfl
    by_cases q : ro one p + ro other p + c = ro ds p + b * ro cs p
    · obtain ⟨y7', y8', c', e, _⟩ := ss_loop A5 ω bs (p + 1) (ro cs p) (some (.int (p : Int))) (some (.int (ro one p + ro other p + c))) hb.tail hp.2 (by lia)
      refine ⟨y7', y8', c, ?_, rfl⟩
      rw [List.length_cons, List.range'_succ, List.map_cons, forU]
      rw [show stepU (aName 7) B_q12_0 (.int (p : Int)) [some (.tup [.tup (h.map U.int), .tup (r.map U.int)]), some (.tup (one.map U.int)), some (.tup (other.map U.int)), some (.tup (ds.map U.int)), some (.tup (cs.map U.int)), A5, some (.int c), y7, y8] ω = .nx [some (.tup [.tup (h.map U.int), .tup (r.map U.int)]), some (.tup (one.map U.int)), some (.tup (other.map U.int)), some (.tup (ds.map U.int)), some (.tup (cs.map U.int)), A5, some (.int (ro cs p)), some (.int (p : Int)), some (.int (ro one p + ro other p + c))] ω by
        unfold B_q12_0
        walk_at "ev"
        rw [F_digit_at_eq]
        walk_at "ev"
        rw [F_digit_at_eq]
        walk_at "ev"
        rw [F_digit_at_eq]
        walk_at "ev"
        rw [F_base_at_eq hp.1]
        walk_at "ev"
        rw [eC]
        walk_at "ev"
        rw [if_neg (fun w => w q)]
        walk_at "ev"
        try rw [eC]
        walk_at "ev"]
      simp only
      rw [e]
      rw [ssh]
      rw [show shn (ro one) p 0 + shn (ro other) p 0 + c = ro one p + ro other p + c from rfl, show shn (ro ds) p 0 + b * shn (ro cs) p 0 = ro ds p + b * ro cs p from rfl, if_pos q, sh_shn, sh_shn, sh_shn, sh_shn]
      rfl
    · refine ⟨y7, y8, c, ?_, rfl⟩
      rw [List.length_cons, List.range'_succ, List.map_cons, forU]
      rw [show stepU (aName 7) B_q12_0 (.int (p : Int)) [some (.tup [.tup (h.map U.int), .tup (r.map U.int)]), some (.tup (one.map U.int)), some (.tup (other.map U.int)), some (.tup (ds.map U.int)), some (.tup (cs.map U.int)), A5, some (.int c), y7, y8] ω = .rt (.bl false) ω by
        unfold B_q12_0
        walk_at "ev"
        rw [F_digit_at_eq]
        walk_at "ev"
        rw [F_digit_at_eq]
        walk_at "ev"
        rw [F_digit_at_eq]
        walk_at "ev"
        rw [F_base_at_eq hp.1]
        walk_at "ev"
        rw [eC]
        walk_at "ev"
        rw [if_pos q]
        walk_at "ev"]
      simp only
      rw [ssh]
      rw [show shn (ro one) p 0 + shn (ro other) p 0 + c = ro one p + ro other p + c from rfl, show shn (ro ds) p 0 + b * shn (ro cs) p 0 = ro ds p + b * ro cs p from rfl, if_neg q]
end
structure Gd (ω : Om) : Prop where
  ex : ∃ p1 p2 p3 p4, ω.rs = [p1, p2, p3, p4] ∧ 0 ≤ p1 ∧ 0 ≤ p3 ∧ p3 < 2147483629
theorem next_ex {ω : Om} (h : Gd ω) {most : Int} (h0 : 0 < most) (h1 : most < 2 ^ 200) : ∃ (r : Int) (ω' : Om), F_q9 [.pile, .int most] ω = .ok (.int r) ω' ∧ Gd ω' ∧ 0 ≤ r ∧ r < most := by
  obtain ⟨cs, rs⟩ := ω
  obtain ⟨p1, p2, p3, p4, e, a1, a2, a3⟩ := h.ex
  simp only at e
  subst e
  have md : ∀ x : Int, 0 ≤ x % most ∧ x % most < most := fun x => ⟨Int.emod_nonneg _ (by lia), Int.emod_lt_of_pos _ h0⟩
  unfold F_q9 g_q9
  by_cases c1 : p2 > 0
  · refine ⟨p2 % most, ⟨cs, [p1, p2 / most, p3, p4]⟩, ?_, ⟨p1, p2 / most, p3, p4, rfl, a1, a2, a3⟩, (md p2).1, (md p2).2⟩
    walk_at "ev"
    rw [if_pos c1]
    walk_at "ev"
    rw [uDiv_b 200 (by decide) h0 h1]
    walk_at "ev"
    try rfl
  · by_cases c2 : p1 < (cs.length : Int)
    · obtain ⟨c, hc⟩ : ∃ c, atI cs p1 = some c := ⟨cs[p1.toNat]'(by lia), by rw [atI_in a1 c2]⟩
      have b1 := Int.emod_nonneg (p3 * 69069 + c) (show (2147483629 : Int) ≠ 0 by decide)
      have b2 := Int.emod_lt_of_pos (p3 * 69069 + c) (show (0 : Int) < 2147483629 by decide)
      by_cases c3 : 1000000000000000000 ≤ (if c < 0 then -c else c)
      · refine ⟨(if c < 0 then -c else c) % most, ⟨cs, [p1 + 1, (if c < 0 then -c else c) / most, (p3 * 69069 + c) % 2147483629, p4]⟩, ?_, ⟨_, _, _, _, rfl, by lia, b1, b2⟩, (md _).1, (md _).2⟩
        walk_at "ev"
        rw [if_neg c1]
        walk_at "ev"
        rw [if_pos c2]
        walk_at "ev"
        rw [hc]
        walk_at "ev"
        rw [if_pos c3]
        walk_at "ev"
        rw [uDiv_b 200 (by decide) h0 h1]
        walk_at "ev"
        try rfl
      · refine ⟨c % most, ⟨cs, [p1 + 1, p2, (p3 * 69069 + c) % 2147483629, p4]⟩, ?_, ⟨_, _, _, _, rfl, by lia, b1, b2⟩, (md _).1, (md _).2⟩
        walk_at "ev"
        rw [if_neg c1]
        walk_at "ev"
        rw [if_pos c2]
        walk_at "ev"
        rw [hc]
        walk_at "ev"
        rw [if_neg c3]
        walk_at "ev"
        try rfl
    · have b1 := Int.emod_nonneg (p3 * p3 + 40014 * (p4 + 1) + 977) (show (2147483629 : Int) ≠ 0 by decide)
      have b2 := Int.emod_lt_of_pos (p3 * p3 + 40014 * (p4 + 1) + 977) (show (0 : Int) < 2147483629 by decide)
      refine ⟨(p3 * p3 + 40014 * (p4 + 1) + 977) % 2147483629 / 16 % most, ⟨cs, [p1, p2, (p3 * p3 + 40014 * (p4 + 1) + 977) % 2147483629, p4 + 1]⟩, ?_, ⟨_, _, _, _, rfl, a1, b1, b2⟩, (md _).1, (md _).2⟩
      walk_at "ev"
      rw [if_neg c1]
      walk_at "ev"
      rw [if_neg c2]
      walk_at "ev"
      try rfl
theorem pile_eq (ns : List Int) (ω : Om) : F_q10 [.scr ns] ω = .ok (.lst (.scr ns :: pcells.map U.int)) ω := by
  unfold F_q10 g_q10
  walk_at "ev"
theorem bases_loop {h r : List Int} (hr : 0 < r.length) (hr2 : r.length ≤ 100) (n : Nat) (hn : n ≤ 5000) (ω : Om) : ∀ (m : Nat) (l : List Int) (k : Nat), n ≤ l.length + m → l.length ≤ 5200 → l.length = h.length + k * r.length → (∀ i, i < l.length → l[i]? = bat h r i) →
    ∃ l' : List Int, n ≤ l'.length ∧ l'.length ≤ 5200 ∧ (∀ i, i < l'.length → l'[i]? = bat h r i) ∧ sWh (tfB (eOp uLt (eB uLen (aCons (eVar 2) aNil)) (eVar 1))) B_q5_0 [some (.tup [.tup (h.map U.int), .tup (r.map U.int)]), some (.int (n : Int)), some (.lst (l.map U.int)), some (.tup (h.map U.int)), some (.tup (r.map U.int))] ω = .nx [some (.tup [.tup (h.map U.int), .tup (r.map U.int)]), some (.int (n : Int)), some (.lst (l'.map U.int)), some (.tup (h.map U.int)), some (.tup (r.map U.int))] ω := by
  have ne : (!decide (r = [])) = true := by cases r with
    | nil => simp at hr
    | cons a b => simp
  intro m
  induction m with
  | zero =>
    intro l k hm hl ψ he
    refine ⟨l, by lia, hl, he, sWh_end (ω1 := ω) (by
      walk_at "ev"
      rw [decide_eq_false (by lia)])⟩
  | succ m ih =>
    intro l k hm hl hk he
    by_cases c : l.length < n
    · have hk2 : (l ++ r).length = h.length + (k + 1) * r.length := by rw [List.length_append, hk, Nat.add_mul]; lia
      obtain ⟨l', a1, a2, a3, a4⟩ := ih (l ++ r) (k + 1) (by simp; lia) (by simp; lia) hk2 (fun i hi => by
        by_cases z : i < l.length
        · rw [List.getElem?_append_left z]; exact he i z
        · rw [List.getElem?_append_right (by lia)]
          have e2 : (i - h.length) % r.length = i - l.length := by
            have : i - h.length = (i - l.length) + r.length * k := by rw [Nat.mul_comm]; lia
            rw [this, Nat.add_mul_mod_self_left, Nat.mod_eq_of_lt (by simp at hi; lia)]
          unfold bat
          rw [if_neg (by lia), e2])
      refine ⟨l', a1, a2, a3, ?_⟩
      rw [sWh_step (ω1 := ω) (ρ' := [some (.tup [.tup (h.map U.int), .tup (r.map U.int)]), some (.int (n : Int)), some (.lst ((l ++ r).map U.int)), some (.tup (h.map U.int)), some (.tup (r.map U.int))]) (ω' := ω) (by
        walk_at "ev"
        rw [decide_eq_true (by lia)]) (by
        unfold B_q5_0
        walk_at "ev"
        rw [List.map_append])]
      exact a4
    · refine ⟨l, by lia, hl, he, sWh_end (ω1 := ω) (by
        walk_at "ev"
        rw [decide_eq_false (by lia)])⟩
theorem F_bases_eq {h r : List Int} {n : Nat} (c : 0 < r.length) (hh : h.length ≤ 100) (hr : r.length ≤ 100) (hn : n ≤ 5000) (ω : Om) : F_q5 [(.tup [.tup (h.map U.int), .tup (r.map U.int)]), .int (n : Int)] ω = .ok (.lst ((fbp (bat h r) 0 n).map U.int)) ω := by
  unfold F_q5 g_q5
  walk_at "ev"
  obtain ⟨l', a1, a2, a3, a4⟩ := bases_loop (h := h) c hr n hn ω n h 0 (by lia) (by lia) (by lia) (fun i hi => by unfold bat; rw [if_pos hi])
  rw [a4]
  walk_at "ev"
  rw [cutTo' (by lia), Int.toNat_natCast, ← List.map_take, fbp_take a3 (.inl a1)]
noncomputable def prI (p : Int × Int) : U := .tup [.int p.1, .int p.2]
theorem zip_pr : ∀ (a b : List Int), zipU (a.map U.int) (b.map U.int) = (a.zip b).map prI
  | [], _ => by simp [zipU]
  | _ :: _, [] => by simp [zipU]
  | x :: a, y :: b => by
    have := zip_pr a b
    unfold zipU at this ⊢
    rw [List.map_cons, List.map_cons, List.zipWith_cons_cons, this]; rfl
structure Sc (h r : List Int) : Prop where
  bh : Bs h
  br : Bs r
  hr : 0 < r.length
  lh : h.length ≤ 15
  lr : r.length ≤ 15
theorem base_ex {ω : Om} (h : Gd ω) : ∃ (b : Int) (ω' : Om), Gd ω' ∧ (2 ≤ b ∧ b ≤ 1000000) ∧ F_q7 [.pile] ω = .ok (.int b) ω' := by
  obtain ⟨r1, ω1, e1, d1, a1, b1⟩ := next_ex h (most := 11) (by decide) (by decide)
  obtain ⟨r2, ω2, e2, d2, a2, b2⟩ := next_ex d1 (most := 999999) (by decide) (by decide)
  obtain ⟨r3, ω3, e3, d3, a3, b3⟩ := next_ex d2 (most := 7) (by decide) (by decide)
  refine ⟨([2, 3, 2 + r1, 10, 60, 2 + r2, 1000000] : List Int).getD r3.toNat 0, ω3, d3, ?_, ?_⟩
  · exact getD_of (P := fun x => 2 ≤ x ∧ x ≤ 1000000) (by
      intro x hx
      simp only [List.mem_cons, List.not_mem_nil, or_false] at hx
      omega) (by simp; lia)
  · unfold F_q7 g_q7
    walk_at "ev"
    rw [e1]
    walk_at "ev"
    rw [e2]
    walk_at "ev"
    rw [e3]
    walk_at "ev"
theorem bases_ex : ∀ (xs : List U) (ω : Om), Gd ω → ∃ (bs : List Int) (ω' : Om), Gd ω' ∧ Bs bs ∧ bs.length = xs.length ∧ cmpU (cstU (aName 0) tfTrue (eCall F_q7 (aCons (eVar 1) aNil)) [none, some .pile]) xs ω = .ok (bs.map U.int) ω'
  | [], ω, d => ⟨[], ω, d, fun b hb => by simp at hb, rfl, rfl⟩
  | x :: xs, ω, d => by
    obtain ⟨b, ω1, d1, hb, e⟩ := base_ex d
    obtain ⟨bs, ω2, d2, h2, l2, e2⟩ := bases_ex xs ω1 d1
    refine ⟨b :: bs, ω2, d2, fun c hc => ?_, by simp [l2], ?_⟩
    · rcases List.mem_cons.mp hc with rfl | z
      · exact hb
      · exact h2 c z
    · have : cstU (aName 0) tfTrue (eCall F_q7 (aCons (eVar 1) aNil)) [none, some .pile] x ω = .ok (some (.int b)) ω1 := by
        walk_at "ev"
        rw [e]
        walk_at "ev"
      rw [cmpU, this, Res.bnd_ok, e2]; rfl
theorem scale_ex {ω : Om} (d : Gd ω) : ∃ (h r : List Int) (ω' : Om), Gd ω' ∧ Sc h r ∧ F_q6 [.pile] ω = .ok (.tup [.tup (h.map U.int), .tup (r.map U.int)]) ω' := by
  obtain ⟨r1, ω1, e1, d1, a1, b1⟩ := next_ex d (most := 4) (by decide) (by decide)
  obtain ⟨r2, ω2, e2, d2, a2, b2⟩ := next_ex d1 (most := 3) (by decide) (by decide)
  have hm : 0 ≤ ([0, r1, 12] : List Int).getD r2.toNat 0 ∧ ([0, r1, 12] : List Int).getD r2.toNat 0 ≤ 12 := getD_of (P := fun x => 0 ≤ x ∧ x ≤ 12) (by
      intro x hx
      simp only [List.mem_cons, List.not_mem_nil, or_false] at hx
      omega) (by simp; lia)
  obtain ⟨h, ω3, d3, bh, lh, e3⟩ := bases_ex (rngU 0 (([0, r1, 12] : List Int).getD r2.toNat 0).toNat) ω2 d2
  obtain ⟨r4, ω4, e4, d4, a4, b4⟩ := next_ex d3 (most := 3) (by decide) (by decide)
  obtain ⟨r5, ω5, e5, d5, a5, b5⟩ := next_ex d4 (most := 3) (by decide) (by decide)
  have hm2 : 0 ≤ ([0, r4, 11] : List Int).getD r5.toNat 0 ∧ ([0, r4, 11] : List Int).getD r5.toNat 0 ≤ 11 := getD_of (P := fun x => 0 ≤ x ∧ x ≤ 11) (by
      intro x hx
      simp only [List.mem_cons, List.not_mem_nil, or_false] at hx
      omega) (by simp; lia)
  obtain ⟨r, ω6, d6, br, lr, e6⟩ := bases_ex (rngU 0 (1 + ([0, r4, 11] : List Int).getD r5.toNat 0).toNat) ω5 d5
  rw [rngU_len] at lh lr
  refine ⟨h, r, ω6, d6, ⟨bh, br, by lia, by lia, by lia⟩, ?_⟩
  unfold F_q6 g_q6
  walk_at "ev"
  rw [e1]
  walk_at "ev"
  rw [e2]
  walk_at "ev"
  rw [e3]
  walk_at "ev"
  rw [e4]
  walk_at "ev"
  rw [e5]
  walk_at "ev"
  rw [e6]
  walk_at "ev"
theorem digs_loop (A1 A2 A3 : Option U) : ∀ (bs acc : List Int) (ω : Om) (x : Option U), Bs bs → Gd ω → acc.length + bs.length ≤ 1000 →
    ∃ (ds : List Int) (ω' : Om) (x' : Option U), Gd ω' ∧ ds.length = bs.length ∧ forU (stepU (aName 5) B_q14_0) (bs.map U.int) [some .pile, A1, A2, A3, some (.lst (acc.map U.int)), x] ω = .nx [some .pile, A1, A2, A3, some (.lst ((acc ++ ds).map U.int)), x'] ω'
  | [], acc, ω, x, _, d, _ => ⟨[], ω, x, d, rfl, by rw [List.append_nil]; rfl⟩
  | b :: bs, acc, ω, x, hb, d, hl => by
    have h2 := hb b (by simp)
    rw [List.length_cons] at hl
    obtain ⟨r1, ω1, e1, d1, a1, b1⟩ := next_ex d (most := b) (by lia) (by lia)
    obtain ⟨r2, ω2, e2, d2, a2, b2⟩ := next_ex d1 (most := 3) (by decide) (by decide)
    obtain ⟨ds, ω3, x3, d3, f3, e3⟩ := digs_loop A1 A2 A3 bs (acc ++ [([0, b - 1, r1] : List Int).getD r2.toNat 0]) ω2 (some (.int b)) hb.tail d2 (by simp; lia)
    refine ⟨([0, b - 1, r1] : List Int).getD r2.toNat 0 :: ds, ω3, x3, d3, by simp [f3], ?_⟩
    rw [List.map_cons, forU]
    rw [show stepU (aName 5) B_q14_0 (.int b) [some .pile, A1, A2, A3, some (.lst (acc.map U.int)), x] ω = .nx [some .pile, A1, A2, A3, some (.lst ((acc ++ [([0, b - 1, r1] : List Int).getD r2.toNat 0]).map U.int)), some (.int b)] ω2 by
      unfold B_q14_0
      walk_at "ev"
      rw [e1]
      walk_at "ev"
      rw [e2]
      walk_at "ev"
      simp]
    simp only
    rw [e3, List.append_assoc]; rfl
theorem row_ex {h r : List Int} (S : Sc h r) {ω : Om} (d : Gd ω) {most : Int} (m0 : 4 ≤ most) (m1 : most ≤ 60) : ∃ (ds : List Int) (ω' : Om), Gd ω' ∧ (ds.length : Int) ≤ most + 3 ∧ F_q14 [.pile, (.tup [.tup (h.map U.int), .tup (r.map U.int)]), .int most] ω = .ok (.tup (ds.map U.int)) ω' := by
  have lh := S.lh
  have lr := S.lr
  obtain ⟨r1, ω1, e1, d1, a1, b1⟩ := next_ex d (most := 5) (by decide) (by decide)
  obtain ⟨r2, ω2, e2, d2, a2, b2⟩ := next_ex d1 (most := most + 1) (by lia) (by lia)
  obtain ⟨r3, ω3, e3, d3, a3, b3⟩ := next_ex d2 (most := 3) (by decide) (by decide)
  obtain ⟨m, em, h0, h1⟩ : ∃ m : Nat, ([r1, r2, most] : List Int).getD r3.toNat 0 = (m : Int) ∧ 0 ≤ m ∧ (m : Int) ≤ most := by
    have hm : 0 ≤ ([r1, r2, most] : List Int).getD r3.toNat 0 ∧ ([r1, r2, most] : List Int).getD r3.toNat 0 ≤ most := getD_of (P := fun x => 0 ≤ x ∧ x ≤ most) (by
      intro x hx
      simp only [List.mem_cons, List.not_mem_nil, or_false] at hx
      omega) (by simp; lia)
    exact ⟨_, (Int.toNat_of_nonneg hm.1).symm, Nat.zero_le _, by rw [Int.toNat_of_nonneg hm.1]; exact hm.2⟩
  have B := fbp_Bs S.bh S.br m 0
  have lb := fbp_full (h := h) S.hr m 0
  obtain ⟨ds, ω4, x4, d4, f4, e4⟩ := digs_loop (some (.tup [.tup (h.map U.int), .tup (r.map U.int)])) (some (.int most)) (some (.int (m : Int))) (fbp (bat h r) 0 m) [] ω3 none B d3 (by rw [lb]; simp; lia)
  obtain ⟨r5, ω5, e5, d5, a5, b5⟩ := next_ex d4 (most := 4) (by decide) (by decide)
  obtain ⟨r6, ω6, e6, d6, a6, b6⟩ := next_ex d5 (most := 3) (by decide) (by decide)
  obtain ⟨k, ek, hk⟩ : ∃ k : Nat, ([0, 0, r5] : List Int).getD r6.toNat 0 = (k : Int) ∧ k ≤ 3 := by
    have hm : 0 ≤ ([0, 0, r5] : List Int).getD r6.toNat 0 ∧ ([0, 0, r5] : List Int).getD r6.toNat 0 ≤ 3 := getD_of (P := fun x => 0 ≤ x ∧ x ≤ 3) (by
      intro x hx
      simp only [List.mem_cons, List.not_mem_nil, or_false] at hx
      omega) (by simp; lia)
    exact ⟨_, (Int.toNat_of_nonneg hm.1).symm, by lia⟩
  rw [lb] at f4
  rw [List.map_nil, List.nil_append] at e4
  refine ⟨ds ++ List.replicate k 0, ω6, d6, by simp; lia, ?_⟩
  unfold F_q14 g_q14
  walk_at "ev"
  rw [e1]
  walk_at "ev"
  rw [e2]
  walk_at "ev"
  rw [e3]
  walk_at "ev"
  rw [em, F_bases_eq S.hr (by lia) (by lia) (by lia)]
  walk_at "ev"
  rw [e4]
  walk_at "ev"
  rw [e5]
  walk_at "ev"
  rw [e6]
  walk_at "ev"
  rw [ek]
  walk_at "ev"
  simp
theorem uSum_i (zs : List Int) : uSumU [.lst (zs.map U.int)] = some (.int zs.sum) := by
  unfold uSumU seqInts
  simp only [asInts_map]
  rfl
theorem two_ints (p : Nat) (one other : List Int) : ∃ zs : List Int, [one, other].filterMap (fun l : List Int => if p < l.length then some (U.int (ro l p)) else none) = zs.map U.int := by
  by_cases c1 : p < one.length
  · by_cases c2 : p < other.length
    · exact ⟨[ro one p, ro other p], by simp [c1, c2]⟩
    · exact ⟨[ro one p], by simp [c1, c2]⟩
  · by_cases c2 : p < other.length
    · exact ⟨[ro other p], by simp [c1, c2]⟩
    · exact ⟨[], by simp [c1, c2]⟩
theorem two_cmp (p : Nat) (one other : List Int) (ω : Om) : cmpU (cstU (aName 0) (tfB (eOp uLt (eVar 1) (eB uLen (aCons (eVar 0) aNil)))) (eOp uIx (eVar 0) (eVar 1)) [none, some (.int (p : Int))]) [.tup (one.map U.int), .tup (other.map U.int)] ω = .ok ([one, other].filterMap fun l : List Int => if p < l.length then some (U.int (ro l p)) else none) ω := by
  refine cmpU_gen (g := fun l : List Int => U.tup (l.map U.int)) (ns := [one, other]) fun l ψ => ?_
  walk_at "ev"
  by_cases c : p < l.length
  · rw [if_pos (by lia), if_pos c]
    walk_at "ev"
    rw [atI_ints (by lia) (by lia), Int.toNat_natCast]
    walk_at "ev"
    rfl
  · rw [if_neg (by lia), if_neg c]
theorem sum_loop (A0 A3 : Option U) (one other : List Int) (ω : Om) : ∀ (bs aD aC : List Int) (p : Nat) (c : Int) (y7 y8 y9 : Option U), Bs bs → (c = 0 ∨ c = 1) → aD.length + bs.length ≤ 9000 → aC.length + bs.length ≤ 9000 →
    ∃ (dD dC : List Int) (c' : Int) (y7' y8' y9' : Option U), dD.length = bs.length ∧ dC.length = bs.length ∧ (c' = 0 ∨ c' = 1) ∧ forU (stepU (aTup 2 (aConsT (aName 7) (aConsT (aName 8) aNilT))) B_q15_0) ((bs.map U.int).mapIdx (fun j u => U.tup [.int ((p + j : Nat) : Int), u])) [A0, some (.tup (one.map U.int)), some (.tup (other.map U.int)), A3, some (.lst (aD.map U.int)), some (.lst (aC.map U.int)), some (.int c), y7, y8, y9] ω = .nx [A0, some (.tup (one.map U.int)), some (.tup (other.map U.int)), A3, some (.lst ((aD ++ dD).map U.int)), some (.lst ((aC ++ dC).map U.int)), some (.int c'), y7', y8', y9'] ω
  | [], aD, aC, p, c, y7, y8, y9, _, hc, _, _ => ⟨[], [], c, y7, y8, y9, rfl, rfl, hc, by rw [List.append_nil, List.append_nil]; rfl⟩
  | b :: bs, aD, aC, p, c, y7, y8, y9, hb, hc, l1, l2 => by
    have b2 := hb b (by simp)
    rw [List.length_cons] at l1 l2
    obtain ⟨zs, hz⟩ := two_ints p one other
    generalize ht : c + zs.sum = t
    generalize hq : (if decide (b ≤ t) = true then (1 : Int) else 0) = c1
    have hc1 : c1 = 0 ∨ c1 = 1 := by rw [← hq]; by_cases z : b ≤ t <;> simp [z]
    obtain ⟨dD, dC, c', y7', y8', y9', e1, e2, e3, e4⟩ := sum_loop A0 A3 one other ω bs (aD ++ [t - c1 * b]) (aC ++ [c1]) (p + 1) c1 (some (.int (p : Int))) (some (.int b)) (some (.int t)) hb.tail hc1 (by simp; lia) (by simp; lia)
    refine ⟨(t - c1 * b) :: dD, c1 :: dC, c', y7', y8', y9', by simp [e1], by simp [e2], e3, ?_⟩
    rw [List.map_cons, enum_cons, forU]
    rw [show stepU (aTup 2 (aConsT (aName 7) (aConsT (aName 8) aNilT))) B_q15_0 (.tup [.int (p : Int), .int b]) [A0, some (.tup (one.map U.int)), some (.tup (other.map U.int)), A3, some (.lst (aD.map U.int)), some (.lst (aC.map U.int)), some (.int c), y7, y8, y9] ω = .nx [A0, some (.tup (one.map U.int)), some (.tup (other.map U.int)), A3, some (.lst ((aD ++ [t - c1 * b]).map U.int)), some (.lst ((aC ++ [c1]).map U.int)), some (.int c1), some (.int (p : Int)), some (.int b), some (.int t)] ω by
      unfold B_q15_0
      walk_at "ev"
      rw [two_cmp, hz]
      walk_at "ev"
      rw [uSum_i]
      walk_at "ev"
      simp only [decide_eq_true_eq] at hq
      rw [ht]
      try rw [hq]
      walk_at "ev"
      simp]
    simp only
    rw [e4]
    simp only [List.append_assoc, List.singleton_append]
theorem sum_ex {h r : List Int} (S : Sc h r) {one other : List Int} (l1 : one.length ≤ 63) (l2 : other.length ≤ 63) (ω : Om) : ∃ (c d : List Int), c.length ≤ 64 ∧ d.length ≤ 63 ∧ F_q15 [(.tup [.tup (h.map U.int), .tup (r.map U.int)]), .tup (one.map U.int), .tup (other.map U.int)] ω = .ok (L4 one other c d) ω := by
  have lh := S.lh
  have lr := S.lr
  have lb := fbp_full (h := h) S.hr (mx one other) 0
  obtain ⟨dD, dC, c', y7', y8', y9', e1, e2, e3, e4⟩ := sum_loop (some (.tup [.tup (h.map U.int), .tup (r.map U.int)])) (some (.int (max (one.length : Int) (other.length : Int)))) one other ω (fbp (bat h r) 0 (mx one other)) [] [] 0 0 none none none (fbp_Bs S.bh S.br _ _) (.inl rfl) (by rw [lb]; simp; lia) (by rw [lb]; simp; lia)
  rw [lb] at e1 e2
  rw [List.map_nil, List.nil_append, List.nil_append] at e4
  simp only [Nat.zero_add] at e4
  refine ⟨dD ++ List.replicate c'.toNat 1, dC, by simp; lia, by lia, ?_⟩
  unfold F_q15 g_q15
  walk_at "ev"
  rw [show max (one.length : Int) (other.length : Int) = ((mx one other : Nat) : Int) by lia] at e4 ⊢
  rw [F_bases_eq S.hr (by lia) (by lia) (by lia)]
  walk_at "ev"
  walk_at "ev"
  unfold enumU
  rw [e4]
  walk_at "ev"
  simp
theorem strip_nil : ∀ t : List Int, strip t = [] ↔ ∀ x ∈ t, x = 0
  | [] => by simp [strip]
  | d :: t => by
    rw [strip]
    have ih := strip_nil t
    by_cases c : strip t = [] ∧ d = 0
    · rw [if_pos c]
      constructor
      · intro ψ x hx
        rcases List.mem_cons.mp hx with rfl | z
        · exact c.2
        · exact ih.mp c.1 x z
      · intro ψ; rfl
    · rw [if_neg c]
      constructor
      · intro z; cases z
      · intro z; exact absurd ⟨ih.mpr fun x hx => z x (List.mem_cons_of_mem _ hx), z d (by simp)⟩ c
theorem strip_one (z : Int) : strip [z] = if z = 0 then [] else [z] := by
  rw [strip]; simp [strip]
theorem tail_eq (ds : List Int) (n : Nat) (z : Int) : decide (strip (ds.drop n) = strip [z]) = (decide ((ds.drop (n + 1)).filter (fun x => !decide (x = 0)) = []) && decide (z = ro ds n)) := by
  have key : (ds.drop (n + 1)).filter (fun x => !decide (x = 0)) = [] ↔ strip (ds.drop (n + 1)) = [] := by
    rw [strip_nil, List.filter_eq_nil_iff]
    simp
  rw [show decide ((ds.drop (n + 1)).filter (fun x => !decide (x = 0)) = []) = decide (strip (ds.drop (n + 1)) = []) from decide_eq_decide.mpr key]
  rw [strip_one]
  by_cases c : n < ds.length
  · have e : ds.drop n = ds[n] :: ds.drop (n + 1) := List.drop_eq_getElem_cons c
    have e2 : ro ds n = ds[n] := by unfold ro; simp [c]
    rw [e, e2, strip]
    generalize ds[n] = d
    generalize strip (ds.drop (n + 1)) = t
    by_cases c1 : t = []
    · subst c1
      by_cases c2 : d = 0
      · subst c2
        by_cases c3 : z = 0
        · simp [c3]
        · simp [c3]
      · by_cases c3 : z = 0
        · subst c3; simp [c2]; exact fun h => c2 h.symm
        · simp [c2, c3]; exact ⟨fun h => h.symm, fun h => h.symm⟩
    · rw [if_neg (fun w => c1 w.1)]
      have : ¬ (d :: t = if z = 0 then [] else [z]) := by
        by_cases c3 : z = 0
        · simp [c3]
        · rw [if_neg c3]; intro h; cases h; exact c1 rfl
      simp [this, c1]
  · have e : ds.drop n = [] := List.drop_eq_nil_of_le (by lia)
    have e1 : ds.drop (n + 1) = [] := List.drop_eq_nil_of_le (by lia)
    have e2 : ro ds n = 0 := by unfold ro; rw [List.getD_eq_getElem?_getD, List.getElem?_eq_none (by lia)]; rfl
    rw [e, e1, e2]
    by_cases c3 : z = 0
    · simp [c3, strip]
    · simp [c3, strip]
theorem fwx_all : ∀ (bs ds : List Int), bs.length = ds.length → (fwx bs ds = none ↔ ((bs.zip ds).filterMap fun p : Int × Int => if 0 ≤ p.2 ∧ p.2 < p.1 then none else some (1 : Int)) = [])
  | [], [], _ => by simp [fwx]
  | [], _ :: _, h => by simp at h
  | _ :: _, [], h => by simp at h
  | b :: bs, d :: ds, h => by
    have ih := fwx_all bs ds (by simpa using h)
    rw [fwx, List.zip_cons_cons, List.filterMap_cons]
    by_cases c : 0 ≤ d ∧ d < b
    · rw [if_pos c]
      simp only [c, and_self, if_true]
      rw [← ih]; simp
    · rw [if_neg c]
      simp [c]
noncomputable def okW (h r ds : List Int) : Bool := decide (fwx (fbp (bat h r) 0 ds.length) ds = none)
theorem isr_cmp (ω : Om) (ps : List (Int × Int)) : cmpU (cstU (aTup 2 (aConsT (aName 0) (aConsT (aName 1) aNilT))) (tfNot (tfB (eChain uLe uLt (eC (.int 0)) (eVar 1) (eVar 0)))) (eC (.int 1)) [none, none]) (ps.map prI) ω = .ok ((ps.filterMap fun p : Int × Int => if 0 ≤ p.2 ∧ p.2 < p.1 then none else some (1 : Int)).map U.int) ω := by
  rw [cmpU_gen (g := prI) (f := fun p : Int × Int => if 0 ≤ p.2 ∧ p.2 < p.1 then none else some (U.int 1)) (ω := ω) (fun p ψ => ?_)]
  · congr 1
    rw [List.map_filterMap]
    congr 1
    funext p
    by_cases c : 0 ≤ p.2 ∧ p.2 < p.1
    · simp [c]
    · simp [c]
  · rw [show prI p = U.tup [.int p.1, .int p.2] from rfl]
    walk_at "ev"
    by_cases c0 : 0 ≤ p.2
    · by_cases c1 : p.2 < p.1
      · simp [c0, c1, asB]
      · simp [c0, c1, asB]
    · simp [c0, asB]
theorem F_isrow_eq {h r ds : List Int} (S : Sc h r) (l : ds.length ≤ 90) (ω : Om) : F_q2 [(.tup [.tup (h.map U.int), .tup (r.map U.int)]), .lst (ds.map U.int)] ω = .ok (.bl (okW h r ds)) ω := by
  have lh := S.lh
  have lr := S.lr
  have lb := fbp_full (h := h) S.hr ds.length 0
  unfold F_q2 g_q2
  walk_at "ev"
  rw [F_bases_eq S.hr (by lia) (by lia) (by lia)]
  walk_at "ev"
  try rw [uLzip_s (by simp [lb]) (by simp [lb]; lia)]
  walk_at "ev"
  rw [zip_pr]
  walk_at "ev"
  rw [ite_le (by simp [lb]; lia), isr_cmp]
  walk_at "ev"
  rw [show (U.lst [] : U) = .lst (([] : List Int).map U.int) from rfl, uEq_ll]
  walk_at "ev"
  unfold okW
  congr 2
  exact decide_eq_decide.mpr (fwx_all _ _ lb).symm
noncomputable def duB (h r one other ds cs : List Int) : Bool := if (okW h r one && okW h r other && okW h r ds) = true then (if cs.length = mx one other then (match ssh (ro one) (ro other) (ro ds) (ro cs) (fbp (bat h r) 0 (mx one other)) 0 with
  | none => false
  | some z => decide (strip (ds.drop (mx one other)) = strip [z])) else false) else false
section
variable {h r one other ds cs : List Int}
theorem is_op (o : Option Nat) : isNon (opU o) = decide (o = none) := by
  cases o <;> rfl
theorem any_b (a b c : Bool) : uAny [U.lst [.bl a, .bl b, .bl c]] = some (.bl (a || b || c)) := by
  cases a <;> cases b <;> cases c <;> rfl
theorem any3 (ω : Om) : cmpU (cstU (aName 0) tfTrue (eOp (uIs true) (eCall F_q4 (aCons (eVar 1) (aCons (eVar 0) aNil))) (eC .non)) [none, some (.tup [.tup (h.map U.int), .tup (r.map U.int)])]) [.tup (one.map U.int), .tup (other.map U.int), .tup (ds.map U.int)] ω = .ok [.bl (!okW h r one), .bl (!okW h r other), .bl (!okW h r ds)] ω := by
  have := cmpU_gen (st := cstU (aName 0) tfTrue (eOp (uIs true) (eCall F_q4 (aCons (eVar 1) (aCons (eVar 0) aNil))) (eC .non)) [none, some (.tup [.tup (h.map U.int), .tup (r.map U.int)])]) (g := fun l : List Int => U.tup (l.map U.int)) (f := fun l => some (.bl (!okW h r l))) (ω := ω) (ns := [one, other, ds]) (fun x hx => by
    walk_at "ev"
    rw [F_first_wrong_eq]
    walk_at "ev"
    rw [is_op]
    rfl)
  simpa using this
theorem F_shown_eq (S : Sc h r) (l1 : one.length ≤ 90) (l2 : other.length ≤ 90) (l3 : ds.length ≤ 90) (ω : Om) :
    F_q12 [(.tup [.tup (h.map U.int), .tup (r.map U.int)]), .tup (one.map U.int), .tup (other.map U.int), .tup (ds.map U.int), .tup (cs.map U.int)] ω = .ok (.bl (duB h r one other ds cs)) ω := by
  have lb := fbp_full (h := h) S.hr (mx one other) 0
  unfold F_q12 g_q12
  walk_at "ev"
  rw [any3]
  walk_at "ev"
  rw [any_b]
  walk_at "ev"
  unfold duB
  by_cases c : (okW h r one && okW h r other && okW h r ds) = true
  · rw [if_pos c]
    have c' : (!okW h r one || !okW h r other || !okW h r ds) = false := by
      revert c
      cases okW h r one <;> cases okW h r other <;> cases okW h r ds <;> simp
    rw [c']
    walk_at "ev"
    by_cases lc : cs.length = mx one other
    · obtain ⟨y7, y8, _, e, _⟩ := ss_loop (h := h) (r := r) (one := one) (other := other) (ds := ds) (cs := cs) (some (.int (max (one.length : Int) (other.length : Int)))) ω (fbp (bat h r) 0 (mx one other)) 0 0 none none (fbp_Bs S.bh S.br _ _) (pre_fbp _ _ _) (by rw [lb]; lia)
      rw [shn0, shn0, shn0, shn0, lb] at e
      rw [if_pos lc, if_neg (fun w => w (by lia))]
      walk_at "ev"
      rw [show (max (one.length : Int) (other.length : Int)).toNat = mx one other by lia, rng_r, e]
      cases hS : ssh (ro one) (ro other) (ro ds) (ro cs) (fbp (bat h r) 0 (mx one other)) 0 with
      | none =>
        simp only
        walk_at "ev"
      | some z =>
        simp only
        walk_at "ev"
        rw [cutFrom' (by lia), show (max (one.length : Int) (other.length : Int)).toNat = mx one other by lia, ← List.map_drop, F_without_noughts_t (by simp; lia)]
        walk_at "ev"
        rw [show ([U.tup [U.int z]] : List U) = [U.tup ([z].map U.int)] from rfl, F_without_noughts_t (by simp)]
        walk_at "ev"
        rw [uEq_tt]
        walk_at "ev"
    · rw [if_neg lc, if_pos (by lia)]
      walk_at "ev"
  · rw [if_neg c]
    have c' : (!okW h r one || !okW h r other || !okW h r ds) = true := by
      revert c
      cases okW h r one <;> cases okW h r other <;> cases okW h r ds <;> simp
    rw [c']
    walk_at "ev"
end
theorem due_loop {x y t cs : List Int} (A0 A1 A2 A5 A6 A7 : Option U) (ω : Om) : ∀ (bs : List Int) (p : Nat) (c : Int) (y9 y10 y11 : Option U), Bs bs → p + bs.length ≤ cs.length → p + bs.length ≤ x.length → p + bs.length ≤ y.length → p + bs.length ≤ t.length →
    ∃ y9' y10' y11', forU (stepU (aTup 2 (aConsT (aName 9) (aConsT (aName 10) aNilT))) B_q13_0) ((bs.map U.int).mapIdx (fun j u => U.tup [.int ((p + j : Nat) : Int), u])) [A0, A1, A2, some (.lst [.lst (x.map U.int), .lst (y.map U.int), .lst (t.map U.int)]), some (.int c), A5, A6, A7, some (.lst (cs.map U.int)), y9, y10, y11] ω =
      (match ssh (shn (ro x) p) (shn (ro y) p) (shn (ro t) p) (shn (ro cs) p) bs c with
        | some z => .nx [A0, A1, A2, some (.lst [.lst (x.map U.int), .lst (y.map U.int), .lst (t.map U.int)]), some (.int z), A5, A6, A7, some (.lst (cs.map U.int)), y9', y10', y11'] ω
        | none => .rt (.bl false) ω)
  | [], p, c, y9, y10, y11, _, _, _, _, _ => ⟨y9, y10, y11, rfl⟩
  | b :: bs, p, c, y9, y10, y11, hb, l1, l2, l3, l4 => by
    have b2 := hb b (by simp)
    rw [List.length_cons] at l1 l2 l3 l4
    have eC : ∀ {l : List Int}, p < l.length → atI (l.map U.int) (p : Int) = some (.int (ro l p)) := fun h => by rw [atI_ints (by lia) (by lia), Int.toNat_natCast]; rfl
    obtain ⟨y9', y10', y11', e⟩ := due_loop (x := x) (y := y) (t := t) (cs := cs) A0 A1 A2 A5 A6 A7 ω bs (p + 1) (ro cs p) (some (.int (p : Int))) (some (.int b)) (some (.int (ro x p + ro y p + c))) hb.tail (by lia) (by lia) (by lia) (by lia)
    refine ⟨y9', y10', y11', ?_⟩
    rw [List.map_cons, enum_cons, forU]
    have st : stepU (aTup 2 (aConsT (aName 9) (aConsT (aName 10) aNilT))) B_q13_0 (.tup [.int (p : Int), .int b]) [A0, A1, A2, some (.lst [.lst (x.map U.int), .lst (y.map U.int), .lst (t.map U.int)]), some (.int c), A5, A6, A7, some (.lst (cs.map U.int)), y9, y10, y11] ω = (if ro x p + ro y p + c = ro t p + b * ro cs p then .nx [A0, A1, A2, some (.lst [.lst (x.map U.int), .lst (y.map U.int), .lst (t.map U.int)]), some (.int (ro cs p)), A5, A6, A7, some (.lst (cs.map U.int)), some (.int (p : Int)), some (.int b), some (.int (ro x p + ro y p + c))] ω else .rt (.bl false) ω) := by
      unfold B_q13_0
      walk_at "ev"
      rw [eC (by lia), eC (by lia)]
      walk_at "ev"
      rw [eC (by lia), eC (by lia)]
      walk_at "ev"
      by_cases q : ro x p + ro y p + c = ro t p + b * ro cs p
      · rw [if_neg (fun w => w q), if_pos q]
        walk_at "ev"
        try rw [eC (by lia)]
        walk_at "ev"
      · rw [if_pos q, if_neg q]
        walk_at "ev"
    rw [st, ssh]
    rw [show shn (ro x) p 0 + shn (ro y) p 0 + c = ro x p + ro y p + c from rfl, show shn (ro t) p 0 + b * shn (ro cs) p 0 = ro t p + b * ro cs p from rfl]
    by_cases q : ro x p + ro y p + c = ro t p + b * ro cs p
    · rw [if_pos q, if_pos q]
      simp only
      rw [e, sh_shn, sh_shn, sh_shn, sh_shn]
      rfl
    · rw [if_neg q, if_neg q]
theorem ro_pad (l : List Int) (k : Nat) : ro (l ++ List.replicate k 0) = ro l := by
  funext i
  unfold ro
  rw [List.getD_eq_getElem?_getD, List.getD_eq_getElem?_getD]
  by_cases c : i < l.length
  · rw [List.getElem?_append_left c]
  · rw [List.getElem?_append_right (by lia), List.getElem?_replicate, List.getElem?_eq_none (by lia)]
    split <;> rfl
noncomputable def pad (l : List Int) (n : Nat) : List Int := l ++ List.replicate (n + 1) 0
theorem pad_len (l : List Int) (n : Nat) : (pad l n).length = l.length + (n + 1) := by unfold pad; simp
theorem pad_ro (l : List Int) (n : Nat) : ro (pad l n) = ro l := ro_pad l (n + 1)
section
variable {h r one other ds cs : List Int}
theorem bad_cmp (S : Sc h r) (l1 : one.length ≤ 90) (l2 : other.length ≤ 90) (l3 : ds.length ≤ 90) (ω : Om) : cmpU (cstU (aName 0) (tfNot (tfB (eCall F_q2 (aCons (eVar 1) (aCons (eVar 0) aNil))))) (eVar 0) [none, some (.tup [.tup (h.map U.int), .tup (r.map U.int)])]) [.lst (one.map U.int), .lst (other.map U.int), .lst (ds.map U.int)] ω = .ok ([one, other, ds].filterMap fun l => if okW h r l = true then none else some (U.lst (l.map U.int))) ω := by
  refine cmpU_gen (g := fun l : List Int => U.lst (l.map U.int)) (ns := [one, other, ds]) fun l hl => ?_
  have ll : l.length ≤ 90 := by
    simp only [List.mem_cons, List.not_mem_nil, or_false] at hl
    rcases hl with rfl | rfl | rfl <;> assumption
  walk_at "ev"
  rw [F_isrow_eq S ll]
  walk_at "ev"
  cases okW h r l <;> simp
theorem bad_len : decide (0 < ([one, other, ds].filterMap fun l => if okW h r l = true then none else some (U.lst (l.map U.int))).length) = !(okW h r one && okW h r other && okW h r ds) := by
  cases c1 : okW h r one <;> cases c2 : okW h r other <;> cases c3 : okW h r ds <;> simp [c1, c2, c3]
theorem pad_cmp (n : Nat) (hn : n ≤ 200) (l1 : one.length ≤ 90) (l2 : other.length ≤ 90) (l3 : ds.length ≤ 90) (ω : Om) : cmpU (cstU (aName 0) tfTrue (eOp uAdd (eB uList (aCons (eVar 0) aNil)) (eOp uRep (eLst (aCons (eC (.int 0)) aNil)) (eOp uAdd (eVar 1) (eC (.int 1))))) [none, some (.int (n : Int))]) [.lst (one.map U.int), .lst (other.map U.int), .lst (ds.map U.int)] ω = .ok [.lst ((pad one n).map U.int), .lst ((pad other n).map U.int), .lst ((pad ds n).map U.int)] ω := by
  have := cmpU_gen (st := cstU (aName 0) tfTrue (eOp uAdd (eB uList (aCons (eVar 0) aNil)) (eOp uRep (eLst (aCons (eC (.int 0)) aNil)) (eOp uAdd (eVar 1) (eC (.int 1))))) [none, some (.int (n : Int))]) (g := fun l : List Int => U.lst (l.map U.int)) (f := fun l => some (.lst ((pad l n).map U.int))) (ω := ω) (ns := [one, other, ds]) (fun l hl => by
    have ll : l.length ≤ 90 := by
      simp only [List.mem_cons, List.not_mem_nil, or_false] at hl
      rcases hl with rfl | rfl | rfl <;> assumption
    walk_at "ev"
    rw [show ((n : Int) + 1).toNat = n + 1 by lia]
    simp [List.replicate_succ, pad])
  simpa using this
theorem nz_cmp (l : List Int) (ω : Om) : cmpU (cstU (aName 0) (tfB (eOp uNe (eVar 0) (eC (.int 0)))) (eVar 0) [none]) (l.map U.int) ω = .ok ((l.filter fun x => !decide (x = 0)).map U.int) ω := by
  rw [cmpU_gen (g := U.int) (f := fun x : Int => if x = 0 then none else some (U.int x)) (ω := ω) (fun x ψ => ?_)]
  · congr 1
    induction l with
    | nil => rfl
    | cons x l ih =>
      by_cases c : x = 0
      · simp [c, ih]
      · simp [c, ih]
  · walk_at "ev"
    by_cases c : x = 0
    · simp [c]
    · simp [c]
theorem F_due_eq (S : Sc h r) (l1 : one.length ≤ 90) (l2 : other.length ≤ 90) (l3 : ds.length ≤ 90) (ω : Om) :
    F_q13 [(.tup [.tup (h.map U.int), .tup (r.map U.int)]), L4 one other ds cs] ω = .ok (.bl (duB h r one other ds cs)) ω := by
  have lh := S.lh
  have lr := S.lr
  have lb := fbp_full (h := h) S.hr (mx one other) 0
  have em : max (one.length : Int) (other.length : Int) = ((mx one other : Nat) : Int) := by lia
  unfold F_q13 g_q13
  walk_at "ev"
  rw [show cutG [U.lst (one.map U.int), .lst (other.map U.int), .lst (ds.map U.int), .lst (cs.map U.int)] none (some 3) = [U.lst (one.map U.int), .lst (other.map U.int), .lst (ds.map U.int)] by rw [cutTo' (by decide)]; rfl]
  walk_at "ev"
  rw [bad_cmp S l1 l2 l3]
  walk_at "ev"
  have hb := bad_len (h := h) (r := r) (one := one) (other := other) (ds := ds)
  unfold duB
  by_cases c : (okW h r one && okW h r other && okW h r ds) = true
  · rw [c] at hb
    have hb' := of_decide_eq_false hb
    rw [if_pos c, if_neg hb']
    walk_at "ev"
    rw [em]
    by_cases lc : cs.length = mx one other
    · rw [if_pos lc, if_neg (fun w => w (by lia))]
      walk_at "ev"
      rw [cutFrom' (by lia), ← List.map_drop]
      walk_at "ev"
      rw [show (((mx one other : Nat) : Int) + 1).toNat = mx one other + 1 by lia, nz_cmp]
      walk_at "ev"
      rw [show (U.lst [] : U) = .lst (([] : List Int).map U.int) from rfl, uNe_ll]
      walk_at "ev"
      obtain ⟨y9, y10, y11, e⟩ := due_loop (x := pad one (mx one other)) (y := pad other (mx one other)) (t := pad ds (mx one other)) (cs := cs) (some (.tup [.tup (h.map U.int), .tup (r.map U.int)])) (some (L4 one other ds cs)) (some (.int ((mx one other : Nat) : Int))) (some (.lst (one.map U.int))) (some (.lst (other.map U.int))) (some (.lst (ds.map U.int))) ω (fbp (bat h r) 0 (mx one other)) 0 0 none none none (fbp_Bs S.bh S.br _ _) (by rw [lb]; lia) (by rw [lb, pad_len]; lia) (by rw [lb, pad_len]; lia) (by rw [lb, pad_len]; lia)
      rw [shn0, shn0, shn0, shn0, pad_ro, pad_ro, pad_ro] at e
      simp only [Nat.zero_add] at e
      have te := tail_eq ds (mx one other)
      by_cases tz : (ds.drop (mx one other + 1)).filter (fun x => !decide (x = 0)) = []
      · rw [if_neg (fun w => w tz)]
        walk_at "ev"
        rw [show cutG [U.lst (one.map U.int), .lst (other.map U.int), .lst (ds.map U.int), .lst (cs.map U.int)] none (some 3) = [U.lst (one.map U.int), .lst (other.map U.int), .lst (ds.map U.int)] by rw [cutTo' (by decide)]; rfl]
        walk_at "ev"
        rw [pad_cmp (mx one other) (by lia) l1 l2 l3]
        walk_at "ev"
        rw [F_bases_eq S.hr (by lia) (by lia) (by lia)]
        walk_at "ev"
        unfold enumU
        rw [e]
        cases hS : ssh (ro one) (ro other) (ro ds) (ro cs) (fbp (bat h r) 0 (mx one other)) 0 with
        | none =>
          simp only
          walk_at "ev"
        | some z =>
          simp only
          walk_at "ev"
          rw [atI_ints (by lia) (by rw [pad_len]; lia), Int.toNat_natCast]
          walk_at "ev"
          rw [te z, decide_eq_true tz, Bool.true_and]
          rw [show (pad ds (mx one other)).getD (mx one other) 0 = ro ds (mx one other) from congrFun (pad_ro ds (mx one other)) (mx one other)]
      · rw [if_pos tz]
        walk_at "ev"
        cases hS : ssh (ro one) (ro other) (ro ds) (ro cs) (fbp (bat h r) 0 (mx one other)) 0 with
        | none => rfl
        | some z =>
          simp only
          rw [te z, decide_eq_false tz, Bool.false_and]
    · rw [if_neg lc, if_pos (fun w => lc (by lia))]
      walk_at "ev"
  · rw [Bool.eq_false_iff.mpr c] at hb
    have hb' := of_decide_eq_true hb
    rw [if_neg c, if_pos hb']
    walk_at "ev"
end
end EvBlock
section EvBlock
local macro_rules | `(tactic| walk_at "ev") => do
    let js1 ← ("List.length_cons List.length_nil List.length_append List.length_map List.length_replicate List.length_set List.length_reverse List.length_take List.length_drop rngU_len List.length_range".splitOn " ").toArray.mapM fun s => `(Lean.Parser.Tactic.simpLemma| $(Lean.mkIdent s.toName):term)
    let ls ← ("uLzip_s uEnumL_l uNeN_l nxF_ap nxU_s nxO_s asLL4 nSet_ap nPut_ap nRep_ap nApp_ap nSw_ap putN_ap seqN_nx nRet_ap noE_rt okI_ok okP_ok okL_rep okL_1 okL_2 putLL_0 putLL_1 putLL_2 putLL_3 repLL_0 repLL_1 repLL_2 appLL_3 atI_ints atI_m1 atI_q2 atI_q3 nCall_ap callN_s back1_s aLst_ap sSeq_then thenF_nx thenF_rt thenF_err runU_end endF_rt endF_nx endF_err sNext_ap sIf_ap sSet_ap sRet_ap sExpr_ap sAug_ap sApp_ap sAsg_ap sFor_ap stepU_ap sRaise_ap aName_ap aTup_ap aNilT_ap aConsT_ap eVar_ap eC_ap eOp_ap eUn_ap eAnd_ap eOr_ap eIf_ap eChain_ap eTup_ap eLst_ap eB_ap eCall_ap eSl_ap eComp_ap cstU_ap tfB_ap tfAnd_ap tfOr_ap tfNot_ap tfTrue_ap aNil_ap aCons_ap pNo_ap pSome_ap iOf_ap iArgs_ap asB_r asI_r asSeq_l asSeq_t asOk_ok Res.bnd_ok Res.bnd_err Res.bnd_stk Res.of_some Res.of_none Fl.of_ok Fl.of_err Fl.of_stk List.getElem?_cons_zero List.getElem?_cons_succ List.set_cons_zero List.set_cons_succ List.map_cons List.map_nil List.length_cons List.length_nil List.length_map List.cons_append List.nil_append List.replicate Nat.zero_add uIx_l uIx_t uAdd_i uSub_r uNeg_r uLt_r uLe_r uGt_r uGe_r uIs_r isNon_n isNon_i isNon_b isNon_t isNon_l isNon_s isNon_x uLen_l uLen_t uLen_s uTuple_l uTuple_t uList_l uList_t uList_s uMax2_r uMin2_r uAbs_r uInt_i uInt_b uIsT_ii uIsT_ib uIsT_bb uIsT_bi uIsT_tt uIsT_ll uEq_ii uNe_ii uDiv_s uMod_s uMul_r uMul_l uPow_s mkT_s mkL_s uAdd_l uAdd_t uCat_l ite_lt ite_le uR1_s ePl_ap ePlLen_ap ePlAt_ap sPl_ap uRep_t1 uRep_l1 atI_i2 atI_i3 atI_i4 atI_i5 atI_i6 atI_i7 atI_i8 atI_i10 uSl_l uSl_t uSlL_l atI_zero atI_one atI_end blkU_r Option.getD_some Option.getD_none Option.bind_some Option.bind_none Option.map_some decide_true decide_false Bool.not_true Bool.not_false if_true if_false Bool.false_eq_true Bool.true_eq_false decide_eq_true_eq Bool.not_eq_true' decide_eq_false_iff_not ne_eq not_true_eq_false not_false_eq_true Nat.reduceSub Nat.reduceAdd Nat.reduceLT Int.reduceEq Int.reduceLT Int.reduceLE Int.reduceAdd Int.reduceSub Int.reduceMul Int.reduceDiv Int.reduceMod reduceIte Int.reduceToNat Int.reducePow Int.reduceNeg".splitOn " ").toArray.mapM fun s => `(Lean.Parser.Tactic.simpLemma| $(Lean.mkIdent s.toName):term)
    `(tactic| try simp (disch := first | decide | lia | omega | (simp only [$js1,*]; first | lia | omega)) only [$ls,*])
structure Go (a b c d : List Int) : Prop where
  la : a.length ≤ 84
  lb : b.length ≤ 84
  lc : c.length ≤ 86
  ld : d.length ≤ 84
noncomputable def PL (W L : Option U) (r : Fl) : Prop := ∃ (a b c d : List Int) (x4 x5 x6 : Option U) (ω : Om), r = .nx [some .pile, some (L4 a b c d), W, L, x4, x5, x6] ω ∧ Gd ω ∧ Go a b c d
theorem longer_5 {a b c d : List Int} (G : Go a b c d) (h0 : 0 < d.length) {ω : Om} (g : Gd ω) : PL (some (.int 5)) (some (.int (d.length : Int))) (g_q3 [some .pile, some (L4 a b c d), some (.int 5), some (.int (d.length : Int)), none, none, none] ω) := by
  obtain ⟨la, lb, lc, ld⟩ := G
  obtain ⟨r1, ω1, e1, d1, a1, b1⟩ := next_ex g (most := 2) (by decide) (by decide)
  obtain ⟨r2, ω2, e2, d2, a2, b2⟩ := next_ex d1 (most := 2) (by decide) (by decide)
  unfold g_q3
  walk_at "ev"
  rw [e1]
  walk_at "ev"
  have hr : r1 = 0 ∨ r1 = 1 := by omega
  rcases hr with rfl | rfl
  · walk_at "ev"
    rw [e2]
    walk_at "ev"
    by_cases c84 : (d.length : Int) < 84
    · rw [if_pos c84]
      walk_at "ev"
      exact ⟨_, _, _, _, _, _, _, _, rfl, d2, ⟨by simp; omega, lb, lc, by simp; omega⟩⟩
    · rw [if_neg c84]
      exact ⟨_, _, _, _, _, _, _, _, rfl, d2, ⟨by simp; omega, lb, lc, ld⟩⟩
  · walk_at "ev"
    rw [e2]
    walk_at "ev"
    by_cases c84 : (d.length : Int) < 84
    · rw [if_pos c84]
      walk_at "ev"
      exact ⟨_, _, _, _, _, _, _, _, rfl, d2, ⟨la, by simp; omega, lc, by simp; omega⟩⟩
    · rw [if_neg c84]
      exact ⟨_, _, _, _, _, _, _, _, rfl, d2, ⟨la, by simp; omega, lc, ld⟩⟩
theorem longer_6 {a b c d : List Int} (G : Go a b c d) (h0 : 0 < d.length) {ω : Om} (g : Gd ω) : PL (some (.int 6)) (some (.int (d.length : Int))) (g_q3 [some .pile, some (L4 a b c d), some (.int 6), some (.int (d.length : Int)), none, none, none] ω) := by
  obtain ⟨la, lb, lc, ld⟩ := G
  obtain ⟨r1, ω1, e1, d1, a1, b1⟩ := next_ex g (most := 3) (by decide) (by decide)
  unfold g_q3
  walk_at "ev"
  rw [e1]
  walk_at "ev"
  have hr : r1 = 0 ∨ r1 = 1 ∨ r1 = 2 := by omega
  rcases hr with rfl | rfl | rfl
  · walk_at "ev"
    by_cases c84 : (d.length : Int) < 84
    · rw [if_pos c84]
      walk_at "ev"
      exact ⟨_, _, _, _, _, _, _, _, rfl, d1, ⟨la, lb, lc, by simp; omega⟩⟩
    · rw [if_neg c84]
      walk_at "ev"
      exact ⟨_, _, _, _, _, _, _, _, rfl, d1, ⟨la, lb, lc, ld⟩⟩
  · walk_at "ev"
    by_cases c84 : (c.length : Int) < 84
    · rw [if_pos c84]
      walk_at "ev"
      exact ⟨_, _, _, _, _, _, _, _, rfl, d1, ⟨la, lb, by simp; omega, ld⟩⟩
    · rw [if_neg c84]
      walk_at "ev"
      exact ⟨_, _, _, _, _, _, _, _, rfl, d1, ⟨la, lb, lc, ld⟩⟩
  · walk_at "ev"
    by_cases c84 : (c.length : Int) < 84
    · rw [if_pos c84]
      walk_at "ev"
      exact ⟨_, _, _, _, _, _, _, _, rfl, d1, ⟨la, lb, by simp; omega, ld⟩⟩
    · rw [if_neg c84]
      walk_at "ev"
      exact ⟨_, _, _, _, _, _, _, _, rfl, d1, ⟨la, lb, lc, ld⟩⟩
theorem nNest_ok {j : Nat} {f : Ef} {g : Sf} {ρ : En} {ω ω1 : Om} {a b c d : List Int} (h : f ρ ω = .ok (L4 a b c d) ω1) (hj : j < ρ.length) : nNest j f g ρ ω = noE (g (ρ.set j (some (L4 a b c d))) ω1) := by
  unfold nNest
  rw [h]
  simp only [asLL4]
  rw [if_pos hj]
  rfl
theorem copy_cmp (a b c d : List Int) (ρ : En) (ω : Om) (h : ρ[2]? = some (some (L4 a b c d))) : eComp (iOf (eVar 2)) 1 [] (aName 0) tfTrue (eB uList (aCons (eVar 0) aNil)) ρ ω = .ok (L4 a b c d) ω := by
  have := cmpU_gen (st := cstU (aName 0) tfTrue (eB uList (aCons (eVar 0) aNil)) [none]) (g := fun l : List Int => U.lst (l.map U.int)) (f := fun l => some (.lst (l.map U.int))) (ω := ω) (ns := [a, b, c, d]) (fun l ψ => by walk_at "ev")
  rw [eComp_ap, iOf_ap, eVar_ap, h]
  simp only [List.map_cons, List.map_nil] at this
  walk_at "ev"
  rw [this]
  simp
noncomputable def PB (r : Res U) : Prop := ∃ (a b c d : List Int) (ω : Om), r = .ok (L4 a b c d) ω ∧ Gd ω ∧ Go a b c d
theorem bent_ex {h r a b c d : List Int} (S : Sc h r) (G : Go a b c d) {ω : Om} (g : Gd ω) : PB (F_q8 [.pile, (.tup [.tup (h.map U.int), .tup (r.map U.int)]), L4 a b c d] ω) := by
  have lh := S.lh
  have lr := S.lr
  obtain ⟨la, lb, lc, ld⟩ := G
  unfold F_q8 g_q8
  rw [runU_end]
  rw [nNest_ok (copy_cmp a b c d _ ω rfl) (by simp)]
  walk_at "ev"
  by_cases z : (d.length : Int) = 0
  · rw [if_pos z]
    walk_at "ev"
    exact ⟨_, _, _, _, _, rfl, g, ⟨la, lb, lc, ld⟩⟩
  · rw [if_neg z]
    obtain ⟨r1, ω1, e1, d1, a1, b1⟩ := next_ex g (most := (d.length : Int)) (by lia) (by lia)
    obtain ⟨r2, ω2, e2, d2, a2, b2⟩ := next_ex d1 (most := (d.length : Int)) (by lia) (by lia)
    obtain ⟨r3, ω3, e3, d3, a3, b3⟩ := next_ex d2 (most := 3) (by decide) (by decide)
    obtain ⟨r4, ω4, e4, d4, a4, b4⟩ := next_ex d3 (most := 7) (by decide) (by decide)
    walk_at "ev"
    rw [e1]
    walk_at "ev"
    rw [e2]
    walk_at "ev"
    rw [e3]
    walk_at "ev"
    rw [e4]
    walk_at "ev"
    have hby : -1 ≤ ([1, -1, 2] : List Int).getD r3.toNat 0 ∧ ([1, -1, 2] : List Int).getD r3.toNat 0 ≤ 2 := getD_of (P := fun x => -1 ≤ x ∧ x ≤ 2) (by
      intro x hx
      simp only [List.mem_cons, List.not_mem_nil, or_false] at hx
      omega) (by simp; lia)
    generalize ([1, -1, 2] : List Int).getD r3.toNat 0 = by1 at hby ⊢
    obtain ⟨c1, hc1, l1, l2⟩ : ∃ c1 : List Int, c ++ List.replicate ((d.length : Int) - (c.length : Int)).toNat 0 = c1 ∧ d.length ≤ c1.length ∧ c1.length ≤ 86 := ⟨_, rfl, by simp; omega, by simp; omega⟩
    rw [hc1]
    have hr : r4 = 0 ∨ r4 = 1 ∨ r4 = 2 ∨ r4 = 3 ∨ r4 = 4 ∨ r4 = 5 ∨ r4 = 6 := by omega
    rcases hr with rfl | rfl | rfl | rfl | rfl | rfl | rfl
    · walk_at "ev"
      obtain ⟨c2, hc2, l3, l4⟩ : ∃ c2 : List Int, c1 ++ List.replicate (r1 + 2 - (c1.length : Int)).toNat 0 = c2 ∧ r1 + 2 ≤ (c2.length : Int) ∧ c2.length ≤ 86 := ⟨_, rfl, by simp; omega, by simp; omega⟩
      rw [hc2]
      walk_at "ev"
      obtain ⟨n, hn⟩ : ∃ n : Nat, r1 = (n : Int) := ⟨r1.toNat, by omega⟩
      have lbf := fbp_full (h := h) S.hr (n + 1) 0
      have hn1 : r1 + 1 = ((n + 1 : Nat) : Int) := by omega
      rw [hn1, F_bases_eq S.hr (by omega) (by omega) (by omega)]
      walk_at "ev"
      exact ⟨_, _, _, _, _, rfl, d4, ⟨la, lb, by simp; omega, by simp; omega⟩⟩
    · walk_at "ev"
      by_cases q : (a.length : Int) ≤ r1
      · rw [if_pos q]
        walk_at "ev"
        obtain ⟨b1', hb1, l3, l4⟩ : ∃ b1' : List Int, b ++ List.replicate (r1 + 1 - (b.length : Int)).toNat 0 = b1' ∧ r1 + 1 ≤ (b1'.length : Int) ∧ b1'.length ≤ 84 := ⟨_, rfl, by simp; omega, by simp; omega⟩
        rw [hb1]
        walk_at "ev"
        exact ⟨_, _, _, _, _, rfl, d4, ⟨la, by simp; omega, by simp; omega, ld⟩⟩
      · rw [if_neg q]
        walk_at "ev"
        obtain ⟨a1', ha1, l3, l4⟩ : ∃ a1' : List Int, a ++ List.replicate (r1 + 1 - (a.length : Int)).toNat 0 = a1' ∧ r1 + 1 ≤ (a1'.length : Int) ∧ a1'.length ≤ 84 := ⟨_, rfl, by simp; omega, by simp; omega⟩
        rw [ha1]
        walk_at "ev"
        exact ⟨_, _, _, _, _, rfl, d4, ⟨by simp; omega, lb, by simp; omega, ld⟩⟩
    · walk_at "ev"
      exact ⟨_, _, _, _, _, rfl, d4, ⟨la, lb, l2, by simp; omega⟩⟩
    · walk_at "ev"
      exact ⟨_, _, _, _, _, rfl, d4, ⟨la, lb, l2, by simp; omega⟩⟩
    · walk_at "ev"
      exact ⟨_, _, _, _, _, rfl, d4, ⟨la, lb, by simp; omega, ld⟩⟩
    · walk_at "ev"
      obtain ⟨a', b', c', d', x4, x5, x6, ω5, e5, d5, G5⟩ := longer_5 (a := a) (b := b) (c := c1) (d := d) ⟨la, lb, l2, ld⟩ (by lia) d4
      rw [e5]
      walk_at "ev"
      exact ⟨_, _, _, _, _, rfl, d5, G5⟩
    · walk_at "ev"
      obtain ⟨a', b', c', d', x4, x5, x6, ω5, e5, d5, G5⟩ := longer_6 (a := a) (b := b) (c := c1) (d := d) ⟨la, lb, l2, ld⟩ (by lia) d4
      rw [e5]
      walk_at "ev"
      exact ⟨_, _, _, _, _, rfl, d5, G5⟩
end EvBlock
section EvBlock
local macro_rules | `(tactic| walk_at "ev") => do
    let js1 ← ("List.length_cons List.length_nil List.length_append List.length_map List.length_replicate List.length_reverse List.length_take List.length_drop rngU_len List.length_range".splitOn " ").toArray.mapM fun s => `(Lean.Parser.Tactic.simpLemma| $(Lean.mkIdent s.toName):term)
    let ls ← ("uLzip_s uEnumL_l uNeN_l nxF_ap nxU_s nxO_s asLL4 nSet_ap nPut_ap nRep_ap nApp_ap nSw_ap putN_ap seqN_nx nRet_ap noE_rt okI_ok okP_ok okL_rep okL_1 okL_2 putLL_0 putLL_1 putLL_2 putLL_3 repLL_0 repLL_1 repLL_2 appLL_3 atI_q2 atI_q3 nCall_ap callN_s back1_s aLst_ap sSeq_then thenF_nx thenF_rt thenF_err runU_end endF_rt endF_nx endF_err sNext_ap sIf_ap sSet_ap sRet_ap sExpr_ap sAug_ap sApp_ap sAsg_ap sFor_ap stepU_ap sRaise_ap aName_ap aTup_ap aNilT_ap aConsT_ap eVar_ap eC_ap eOp_ap eUn_ap eAnd_ap eOr_ap eIf_ap eChain_ap eTup_ap eLst_ap eB_ap eCall_ap eSl_ap eComp_ap cstU_ap tfB_ap tfAnd_ap tfOr_ap tfNot_ap tfTrue_ap aNil_ap aCons_ap pNo_ap pSome_ap iOf_ap iArgs_ap asB_r asI_r asSeq_l asSeq_t asOk_ok Res.bnd_ok Res.bnd_err Res.bnd_stk Res.of_some Res.of_none Fl.of_ok Fl.of_err Fl.of_stk List.getElem?_cons_zero List.getElem?_cons_succ List.set_cons_zero List.set_cons_succ List.map_cons List.map_nil List.length_cons List.length_nil List.length_map List.cons_append List.nil_append List.replicate Nat.zero_add uIx_l uIx_t uAdd_i uSub_r uNeg_r uLt_r uLe_r uGt_r uGe_r uIs_r isNon_n isNon_i isNon_b isNon_t isNon_l isNon_s isNon_x uLen_l uLen_t uLen_s uTuple_l uTuple_t uList_l uList_t uList_s uMax2_r uMin2_r uAbs_r uInt_i uInt_b uIsT_ii uIsT_ib uIsT_bb uIsT_bi uIsT_tt uIsT_ll uEq_ii uNe_ii uDiv_s uMod_s uMul_r uMul_l uPow_s mkT_s mkL_s uAdd_l uAdd_t uCat_l ite_lt ite_le uR1_s ePl_ap ePlLen_ap ePlAt_ap sPl_ap uRep_t1 uRep_l1 atI_i2 atI_i3 atI_i4 atI_i5 atI_i6 atI_i7 atI_i8 atI_i10 uSl_l uSl_t uSlL_l atI_zero atI_one atI_end blkU_r Option.getD_some Option.getD_none Option.bind_some Option.bind_none Option.map_some decide_true decide_false Bool.not_true Bool.not_false if_true if_false Bool.false_eq_true Bool.true_eq_false decide_eq_true_eq Bool.not_eq_true' decide_eq_false_iff_not ne_eq not_true_eq_false not_false_eq_true Nat.reduceSub Nat.reduceAdd Nat.reduceLT Int.reduceEq Int.reduceLT Int.reduceLE Int.reduceAdd Int.reduceSub Int.reduceMul Int.reduceDiv Int.reduceMod reduceIte Int.reduceToNat Int.reducePow Int.reduceNeg".splitOn " ").toArray.mapM fun s => `(Lean.Parser.Tactic.simpLemma| $(Lean.mkIdent s.toName):term)
    `(tactic| try simp (disch := first | decide | lia | omega | (simp only [$js1,*]; first | lia | omega)) only [$ls,*])
noncomputable abbrev Q4 := List Int × List Int × List Int × List Int
noncomputable abbrev gq (q : Q4) : U := L4 q.1 q.2.1 q.2.2.1 q.2.2.2
noncomputable abbrev GoQ (q : Q4) : Prop := Go q.1 q.2.1 q.2.2.1 q.2.2.2
theorem bents {h r : List Int} (S : Sc h r) {q0 : Q4} (g0 : GoQ q0) (T O A9 A10 A11 : Option U) : ∀ (us : List U) (qs : List Q4) (ω : Om) (x7 x8 : Option U), qs ≠ [] → (∀ q ∈ qs, GoQ q) → Gd ω → qs.length + us.length ≤ 1000 →
    ∃ (qs' : List Q4) (ω' : Om) (x7' x8' : Option U), Gd ω' ∧ (∀ q ∈ qs', GoQ q) ∧ qs'.length ≤ 1000 ∧ forU (stepU (aName 7) B_law_0) us [none, some .pile, T, some (.tup [.tup (h.map U.int), .tup (r.map U.int)]), O, some (gq q0), some (.lst (qs.map gq)), x7, x8, A9, A10, A11] ω = .nx [none, some .pile, T, some (.tup [.tup (h.map U.int), .tup (r.map U.int)]), O, some (gq q0), some (.lst (qs'.map gq)), x7', x8', A9, A10, A11] ω'
  | [], qs, ω, x7, x8, _, hq, d, hl => ⟨qs, ω, x7, x8, d, hq, by simpa using hl, rfl⟩
  | u :: us, qs, ω, x7, x8, ne, hq, d, hl => by
    rw [List.length_cons] at hl
    obtain ⟨r1, ω1, e1, d1, a1, b1⟩ := next_ex d (most := 2) (by decide) (by decide)
    obtain ⟨l, ql, hql⟩ : ∃ (l : List Q4) (ql : Q4), qs = l ++ [ql] := by
      rcases List.eq_nil_or_concat qs with z | ⟨l, x, z⟩
      · exact absurd z ne
      · exact ⟨l, x, by rw [z, List.concat_eq_append]⟩
    have el : atI (qs.map gq) (-1) = some (gq ql) := by rw [hql, List.map_append, List.map_cons, List.map_nil, atI_end]
    obtain ⟨qx, gx, ex⟩ : ∃ qx : Q4, GoQ qx ∧ atI [gq q0, gq ql] r1 = some (gq qx) := by
      have hr : r1 = 0 ∨ r1 = 1 := by omega
      rcases hr with rfl | rfl
      · exact ⟨q0, g0, rfl⟩
      · exact ⟨ql, hq ql (by rw [hql]; simp), rfl⟩
    obtain ⟨a, b, c, e, ω2, eb, d2, gn⟩ := bent_ex S gx d1
    obtain ⟨qs', ω3, x7', x8', d3, h3, l3, e3⟩ := bents S g0 T O A9 A10 A11 us (qs ++ [(a, b, c, e)]) ω2 (some u) (some (L4 a b c e)) (by simp) (fun q hq' => by
      rcases List.mem_append.mp hq' with z | z
      · exact hq q z
      · rw [List.mem_singleton.mp z]; exact gn) d2 (by simp; omega)
    refine ⟨qs', ω3, x7', x8', d3, h3, l3, ?_⟩
    rw [forU]
    rw [show stepU (aName 7) B_law_0 u [none, some .pile, T, some (.tup [.tup (h.map U.int), .tup (r.map U.int)]), O, some (gq q0), some (.lst (qs.map gq)), x7, x8, A9, A10, A11] ω = .nx [none, some .pile, T, some (.tup [.tup (h.map U.int), .tup (r.map U.int)]), O, some (gq q0), some (.lst ((qs ++ [(a, b, c, e)]).map gq)), some u, some (L4 a b c e), A9, A10, A11] ω2 by
      unfold B_law_0
      walk_at "ev"
      rw [el]
      walk_at "ev"
      rw [e1]
      walk_at "ev"
      rw [ex]
      walk_at "ev"
      rw [eb]
      walk_at "ev"
      simp]
    simp only
    exact e3
theorem neS (k : Bool) : uNe (.bl k) (.bl k) = some (.bl false) := by cases k <;> rfl
theorem agains {h r a b c e : List Int} (S : Sc h r) (G : Go a b c e) (T O F So Bn : Option U) (ω : Om) : ∀ (us : List U) (x7 x11 : Option U),
    ∃ x7' x11', forU (stepU (aName 7) B_law_1) us [none, some .pile, T, some (.tup [.tup (h.map U.int), .tup (r.map U.int)]), O, F, So, x7, Bn, some (.bl (duB h r a b c e)), some (.lst [.tup (a.map U.int), .tup (b.map U.int), .tup (c.map U.int), .tup (e.map U.int)]), x11] ω = .nx [none, some .pile, T, some (.tup [.tup (h.map U.int), .tup (r.map U.int)]), O, F, So, x7', Bn, some (.bl (duB h r a b c e)), some (.lst [.tup (a.map U.int), .tup (b.map U.int), .tup (c.map U.int), .tup (e.map U.int)]), x11'] ω
  | [], x7, x11 => ⟨x7, x11, rfl⟩
  | u :: us, x7, x11 => by
    have l1 := G.la
    have l2 := G.lb
    have l3 := G.lc
    obtain ⟨x7', x11', e3⟩ := agains S G T O F So Bn ω us (some u) (some (.bl (duB h r a b c e)))
    refine ⟨x7', x11', ?_⟩
    rw [forU]
    rw [show stepU (aName 7) B_law_1 u [none, some .pile, T, some (.tup [.tup (h.map U.int), .tup (r.map U.int)]), O, F, So, x7, Bn, some (.bl (duB h r a b c e)), some (.lst [.tup (a.map U.int), .tup (b.map U.int), .tup (c.map U.int), .tup (e.map U.int)]), x11] ω = .nx [none, some .pile, T, some (.tup [.tup (h.map U.int), .tup (r.map U.int)]), O, F, So, some u, Bn, some (.bl (duB h r a b c e)), some (.lst [.tup (a.map U.int), .tup (b.map U.int), .tup (c.map U.int), .tup (e.map U.int)]), some (.bl (duB h r a b c e))] ω by
      unfold B_law_1
      walk_at "ev"
      rw [F_shown_eq S (by omega) (by omega) (by omega)]
      walk_at "ev"
      rw [neS]
      walk_at "ev"]
    simp only
    exact e3
theorem tup_cmp (a b c e : List Int) (ω : Om) : cmpU (cstU (aName 0) tfTrue (eB uTuple (aCons (eVar 0) aNil)) [none]) [.lst (a.map U.int), .lst (b.map U.int), .lst (c.map U.int), .lst (e.map U.int)] ω = .ok [.tup (a.map U.int), .tup (b.map U.int), .tup (c.map U.int), .tup (e.map U.int)] ω := by
  have := cmpU_gen (st := cstU (aName 0) tfTrue (eB uTuple (aCons (eVar 0) aNil)) [none]) (g := fun l : List Int => U.lst (l.map U.int)) (f := fun l => some (.tup (l.map U.int))) (ω := ω) (ns := [a, b, c, e]) (fun l ψ => by walk_at "ev")
  simpa using this
theorem looks {h r : List Int} (S : Sc h r) (T O F So : Option U) (ω : Om) : ∀ (qs : List Q4) (x7 x8 x9 x10 x11 : Option U), (∀ q ∈ qs, GoQ q) →
    ∃ x7' x8' x9' x10' x11', forU (stepU (aName 8) B_law_2) (qs.map gq) [none, some .pile, T, some (.tup [.tup (h.map U.int), .tup (r.map U.int)]), O, F, So, x7, x8, x9, x10, x11] ω = .nx [none, some .pile, T, some (.tup [.tup (h.map U.int), .tup (r.map U.int)]), O, F, So, x7', x8', x9', x10', x11'] ω
  | [], x7, x8, x9, x10, x11, _ => ⟨x7, x8, x9, x10, x11, rfl⟩
  | (a, b, c, e) :: qs, x7, x8, x9, x10, x11, hq => by
    have G : Go a b c e := hq (a, b, c, e) (by simp)
    have l1 := G.la
    have l2 := G.lb
    have l3 := G.lc
    obtain ⟨y7, y11, e2⟩ := agains S G T O F So (some (L4 a b c e)) ω (rngU 0 2) x7 x11
    obtain ⟨x7', x8', x9', x10', x11', e3⟩ := looks S T O F So ω qs y7 (some (L4 a b c e)) (some (.bl (duB h r a b c e))) (some (.lst [.tup (a.map U.int), .tup (b.map U.int), .tup (c.map U.int), .tup (e.map U.int)])) y11 fun q hq' => hq q (List.mem_cons_of_mem _ hq')
    refine ⟨x7', x8', x9', x10', x11', ?_⟩
    rw [List.map_cons, forU]
    rw [show stepU (aName 8) B_law_2 (gq (a, b, c, e)) [none, some .pile, T, some (.tup [.tup (h.map U.int), .tup (r.map U.int)]), O, F, So, x7, x8, x9, x10, x11] ω = .nx [none, some .pile, T, some (.tup [.tup (h.map U.int), .tup (r.map U.int)]), O, F, So, y7, some (L4 a b c e), some (.bl (duB h r a b c e)), some (.lst [.tup (a.map U.int), .tup (b.map U.int), .tup (c.map U.int), .tup (e.map U.int)]), y11] ω by
      unfold B_law_2
      walk_at "ev"
      rw [F_due_eq S (one := a) (other := b) (ds := c) (cs := e) (by omega) (by omega) (by omega)]
      walk_at "ev"
      rw [tup_cmp]
      walk_at "ev"
      rw [e2]]
    simp only
    exact e3
theorem turns : ∀ (us : List U) (ω : Om) (x2 x3 x4 x5 x6 x7 x8 x9 x10 x11 : Option U), Gd ω →
    ∃ (ω' : Om) (x2' x3' x4' x5' x6' x7' x8' x9' x10' x11' : Option U), forU (stepU (aName 2) B_law_3) us [none, some .pile, x2, x3, x4, x5, x6, x7, x8, x9, x10, x11] ω = .nx [none, some .pile, x2', x3', x4', x5', x6', x7', x8', x9', x10', x11'] ω'
  | [], ω, x2, x3, x4, x5, x6, x7, x8, x9, x10, x11, _ => ⟨ω, x2, x3, x4, x5, x6, x7, x8, x9, x10, x11, rfl⟩
  | u :: us, ω, x2, x3, x4, x5, x6, x7, x8, x9, x10, x11, d => by
    obtain ⟨h, r, ω1, d1, S, e1⟩ := scale_ex d
    obtain ⟨one, ω2, d2, l2, e2⟩ := row_ex S d1 (most := 60) (by decide) (by decide)
    obtain ⟨r3, ω3, e3, d3, a3, b3⟩ := next_ex d2 (most := 2) (by decide) (by decide)
    have hm : 4 ≤ ([60, 6] : List Int).getD r3.toNat 0 ∧ ([60, 6] : List Int).getD r3.toNat 0 ≤ 60 := getD_of (P := fun x => 4 ≤ x ∧ x ≤ 60) (by
      intro x hx
      simp only [List.mem_cons, List.not_mem_nil, or_false] at hx
      omega) (by simp; lia)
    obtain ⟨other, ω4, d4, l4, e4⟩ := row_ex S d3 hm.1 hm.2
    obtain ⟨c, e, lc, le, e5⟩ := sum_ex S (one := one) (other := other) (by omega) (by omega) ω4
    have g0 : GoQ (one, other, c, e) := ⟨by show one.length ≤ 84; omega, by show other.length ≤ 84; omega, by show c.length ≤ 86; omega, by show e.length ≤ 84; omega⟩
    obtain ⟨qs, ω6, y7, y8, d6, hq, lq, e6⟩ := bents S g0 (some u) (some (.tup (one.map U.int))) x9 x10 x11 (rngU 0 12) [(one, other, c, e)] ω4 x7 x8 (by simp) (fun q hq => by rw [List.mem_singleton.mp hq]; exact g0) d4 (by rw [rngU_len]; simp)
    obtain ⟨z7, z8, z9, z10, z11, e7⟩ := looks S (some u) (some (.tup (one.map U.int))) (some (L4 one other c e)) (some (.lst (qs.map gq))) ω6 qs y7 y8 x9 x10 x11 hq
    obtain ⟨ω', x2', x3', x4', x5', x6', x7', x8', x9', x10', x11', e8⟩ := turns us ω6 (some u) (some (.tup [.tup (h.map U.int), .tup (r.map U.int)])) (some (.tup (one.map U.int))) (some (L4 one other c e)) none z7 z8 z9 z10 z11 d6
    refine ⟨ω', x2', x3', x4', x5', x6', x7', x8', x9', x10', x11', ?_⟩
    rw [forU]
    rw [show stepU (aName 2) B_law_3 u [none, some .pile, x2, x3, x4, x5, x6, x7, x8, x9, x10, x11] ω = .nx [none, some .pile, some u, some (.tup [.tup (h.map U.int), .tup (r.map U.int)]), some (.tup (one.map U.int)), some (L4 one other c e), none, z7, z8, z9, z10, z11] ω6 by
      unfold B_law_3
      walk_at "ev"
      rw [e1]
      walk_at "ev"
      rw [e2]
      walk_at "ev"
      rw [e3]
      walk_at "ev"
      rw [e4]
      walk_at "ev"
      rw [e5]
      walk_at "ev"
      simp only [List.map_cons, List.map_nil] at e6
      rw [e6]
      walk_at "ev"
      rw [show ∀ (g : Sf) (ρ : En) (ω : Om), sFz [6] g ρ ω = dropFl [6] (g ρ ω) from fun ψ ψ ψ => rfl]
      walk_at "ev"
      rw [e7]
      rfl]
    simp only
    exact e8
theorem law_true (ns : List Int) (hns : ns.length ≤ 63) : ∃ ω', endF (g_law (none :: some .pile :: List.replicate (N_law.length - 2) none) ⟨ns, pcells⟩) = .ok (.bl true) ω' := by
  have d : Gd ⟨ns, pcells⟩ := ⟨0, 0, 37199, 0, rfl, by decide, by decide, by decide⟩
  obtain ⟨ω', x2, x3, x4, x5, x6, x7, x8, x9, x10, x11, e⟩ := turns (rngU 0 4) ⟨ns, pcells⟩ none none none none none none none none none none d
  refine ⟨ω', ?_⟩
  unfold g_law
  walk_at "ev"
  rw [e]
  walk_at "ev"
end EvBlock
end My
set_option maxHeartbeats 0
open PySem PySem.W PyProof.Rows
open_top hd for PySem.Challenge.rw_mixedscales_k52_whole_sums_spoilt_twice
set_option maxHeartbeats 8000000
namespace My
open PySem L2 PyProof.Rows
theorem us_1 {fd : FuncData} {ps : List Str} (h : ∀ a0, bindArgs fd ⟨[a0], []⟩ = pure (ps.zip [a0])) : ∀ us : List Value, us.length = 1 → bindArgs fd ⟨us, []⟩ = pure (ps.zip us)
  | [a0], _ => h a0
theorem us_2 {fd : FuncData} {ps : List Str} (h : ∀ a0 a1, bindArgs fd ⟨[a0, a1], []⟩ = pure (ps.zip [a0, a1])) : ∀ us : List Value, us.length = 2 → bindArgs fd ⟨us, []⟩ = pure (ps.zip us)
  | [a0, a1], _ => h a0 a1
theorem us_3 {fd : FuncData} {ps : List Str} (h : ∀ a0 a1 a2, bindArgs fd ⟨[a0, a1, a2], []⟩ = pure (ps.zip [a0, a1, a2])) : ∀ us : List Value, us.length = 3 → bindArgs fd ⟨us, []⟩ = pure (ps.zip us)
  | [a0, a1, a2], _ => h a0 a1 a2
theorem us_4 {fd : FuncData} {ps : List Str} (h : ∀ a0 a1 a2 a3, bindArgs fd ⟨[a0, a1, a2, a3], []⟩ = pure (ps.zip [a0, a1, a2, a3])) : ∀ us : List Value, us.length = 4 → bindArgs fd ⟨us, []⟩ = pure (ps.zip us)
  | [a0, a1, a2, a3], _ => h a0 a1 a2 a3
theorem us_5 {fd : FuncData} {ps : List Str} (h : ∀ a0 a1 a2 a3 a4, bindArgs fd ⟨[a0, a1, a2, a3, a4], []⟩ = pure (ps.zip [a0, a1, a2, a3, a4])) : ∀ us : List Value, us.length = 5 → bindArgs fd ⟨us, []⟩ = pure (ps.zip us)
  | [a0, a1, a2, a3, a4], _ => h a0 a1 a2 a3 a4
noncomputable abbrev NSp (K : PySem.W.Frag) (x : Str) (f : Addr) : Prop := PySem.W.nsIn K mainGlobals x = some (some (.ref f))
noncomputable abbrev NNp (K : PySem.W.Frag) (x : Str) : Prop := PySem.W.nsIn K mainGlobals x = some none
noncomputable abbrev CDp (K : PySem.W.Frag) (c : Value) (x : Str) : Prop := PySem.W.codeIn K c x = true
noncomputable abbrev KPp (K : PySem.W.Frag) (f : Addr) : Prop := PySem.W.keepIn K (.ref f) = true
noncomputable abbrev LKp (K : PySem.W.Frag) (f : Addr) (x : Str) (s : Stmt) (oc : Value) (od : Option Addr) (kV dc pm : Value) (an : Option Addr) (cd ct : Value) (sl : Array (Option Value)) : Prop := K.lookup f = some ⟨oc, od, .func (PySem.W.fnOf x x (defArgs s) (defBody s) (defScope s) .none kV dc pm an cd ct), sl⟩
theorem all_mk {l : PySem.W.OpenLaw} {w : World} {K : PySem.W.Frag} {h : Heap} {mg : L2.SV} {fa C_NoPlace f_q11 f_q0 f_q17 f_q4 f_q16 f_q1 f_q12 f_q10 f_q9 f_q7 f_q6 f_q5 f_q14 f_q15 f_q2 f_q13 f_q3 f_q8 f_law  : Addr} (X : K.In h) (G : h.Ns mainGlobals mg) (hfa : mg "law" = some (.ref fa))
    {od_q11 an_q11 od_q0 an_q0 od_q17 an_q17 od_q4 an_q4 od_q16 an_q16 od_q1 an_q1 od_q12 an_q12 od_q10 an_q10 od_q9 an_q9 od_q7 an_q7 od_q6 an_q6 od_q5 an_q5 od_q14 an_q14 od_q15 an_q15 od_q2 an_q2 od_q13 an_q13 od_q3 an_q3 od_q8 an_q8 od_law an_law : Option Addr} {sl_q11 sl_q0 sl_q17 sl_q4 sl_q16 sl_q1 sl_q12 sl_q10 sl_q9 sl_q7 sl_q6 sl_q5 sl_q14 sl_q15 sl_q2 sl_q13 sl_q3 sl_q8 sl_law : Array (Option Value)} {oc_q11 kV_q11 dc_q11 pm_q11 cd_q11 ct_q11 oc_q0 kV_q0 dc_q0 pm_q0 cd_q0 ct_q0 oc_q17 kV_q17 dc_q17 pm_q17 cd_q17 ct_q17 oc_q4 kV_q4 dc_q4 pm_q4 cd_q4 ct_q4 oc_q16 kV_q16 dc_q16 pm_q16 cd_q16 ct_q16 oc_q1 kV_q1 dc_q1 pm_q1 cd_q1 ct_q1 oc_q12 kV_q12 dc_q12 pm_q12 cd_q12 ct_q12 oc_q10 kV_q10 dc_q10 pm_q10 cd_q10 ct_q10 oc_q9 kV_q9 dc_q9 pm_q9 cd_q9 ct_q9 oc_q7 kV_q7 dc_q7 pm_q7 cd_q7 ct_q7 oc_q6 kV_q6 dc_q6 pm_q6 cd_q6 ct_q6 oc_q5 kV_q5 dc_q5 pm_q5 cd_q5 ct_q5 oc_q14 kV_q14 dc_q14 pm_q14 cd_q14 ct_q14 oc_q15 kV_q15 dc_q15 pm_q15 cd_q15 ct_q15 oc_q2 kV_q2 dc_q2 pm_q2 cd_q2 ct_q2 oc_q13 kV_q13 dc_q13 pm_q13 cd_q13 ct_q13 oc_q3 kV_q3 dc_q3 pm_q3 cd_q3 ct_q3 oc_q8 kV_q8 dc_q8 pm_q8 cd_q8 ct_q8 oc_law kV_law dc_law pm_law cd_law ct_law : Value}
    (a_q11 : NSp K "has_place" f_q11)
    (l_q11 : LKp K f_q11 "has_place" s_q11 oc_q11 od_q11 kV_q11 dc_q11 pm_q11 an_q11 cd_q11 ct_q11 sl_q11)
    (c_q11 : CDp K cd_q11 "has_place")
    (k_q11 : KPp K f_q11)
    (a_q0 : NSp K "refuse_no_place" f_q0)
    (l_q0 : LKp K f_q0 "refuse_no_place" s_q0 oc_q0 od_q0 kV_q0 dc_q0 pm_q0 an_q0 cd_q0 ct_q0 sl_q0)
    (c_q0 : CDp K cd_q0 "refuse_no_place")
    (k_q0 : KPp K f_q0)
    (a_q17 : NSp K "base_at" f_q17)
    (l_q17 : LKp K f_q17 "base_at" s_q17 oc_q17 od_q17 kV_q17 dc_q17 pm_q17 an_q17 cd_q17 ct_q17 sl_q17)
    (c_q17 : CDp K cd_q17 "base_at")
    (k_q17 : KPp K f_q17)
    (a_q4 : NSp K "first_wrong" f_q4)
    (l_q4 : LKp K f_q4 "first_wrong" s_q4 oc_q4 od_q4 kV_q4 dc_q4 pm_q4 an_q4 cd_q4 ct_q4 sl_q4)
    (c_q4 : CDp K cd_q4 "first_wrong")
    (k_q4 : KPp K f_q4)
    (a_q16 : NSp K "digit_at" f_q16)
    (l_q16 : LKp K f_q16 "digit_at" s_q16 oc_q16 od_q16 kV_q16 dc_q16 pm_q16 an_q16 cd_q16 ct_q16 sl_q16)
    (c_q16 : CDp K cd_q16 "digit_at")
    (k_q16 : KPp K f_q16)
    (a_q1 : NSp K "without_noughts" f_q1)
    (l_q1 : LKp K f_q1 "without_noughts" s_q1 oc_q1 od_q1 kV_q1 dc_q1 pm_q1 an_q1 cd_q1 ct_q1 sl_q1)
    (c_q1 : CDp K cd_q1 "without_noughts")
    (k_q1 : KPp K f_q1)
    (a_q12 : NSp K "sum_shown" f_q12)
    (l_q12 : LKp K f_q12 "sum_shown" s_q12 oc_q12 od_q12 kV_q12 dc_q12 pm_q12 an_q12 cd_q12 ct_q12 sl_q12)
    (c_q12 : CDp K cd_q12 "sum_shown")
    (k_q12 : KPp K f_q12)
    (a_q10 : NSp K "_law_pile" f_q10)
    (l_q10 : LKp K f_q10 "_law_pile" s_q10 oc_q10 od_q10 kV_q10 dc_q10 pm_q10 an_q10 cd_q10 ct_q10 sl_q10)
    (c_q10 : CDp K cd_q10 "_law_pile")
    (k_q10 : KPp K f_q10)
    (a_q9 : NSp K "_law_next" f_q9)
    (l_q9 : LKp K f_q9 "_law_next" s_q9 oc_q9 od_q9 kV_q9 dc_q9 pm_q9 an_q9 cd_q9 ct_q9 sl_q9)
    (c_q9 : CDp K cd_q9 "_law_next")
    (k_q9 : KPp K f_q9)
    (a_q7 : NSp K "_law_base" f_q7)
    (l_q7 : LKp K f_q7 "_law_base" s_q7 oc_q7 od_q7 kV_q7 dc_q7 pm_q7 an_q7 cd_q7 ct_q7 sl_q7)
    (c_q7 : CDp K cd_q7 "_law_base")
    (k_q7 : KPp K f_q7)
    (a_q6 : NSp K "_law_scale" f_q6)
    (l_q6 : LKp K f_q6 "_law_scale" s_q6 oc_q6 od_q6 kV_q6 dc_q6 pm_q6 an_q6 cd_q6 ct_q6 sl_q6)
    (c_q6 : CDp K cd_q6 "_law_scale")
    (k_q6 : KPp K f_q6)
    (a_q5 : NSp K "_law_bases" f_q5)
    (l_q5 : LKp K f_q5 "_law_bases" s_q5 oc_q5 od_q5 kV_q5 dc_q5 pm_q5 an_q5 cd_q5 ct_q5 sl_q5)
    (c_q5 : CDp K cd_q5 "_law_bases")
    (k_q5 : KPp K f_q5)
    (a_q14 : NSp K "_law_row" f_q14)
    (l_q14 : LKp K f_q14 "_law_row" s_q14 oc_q14 od_q14 kV_q14 dc_q14 pm_q14 an_q14 cd_q14 ct_q14 sl_q14)
    (c_q14 : CDp K cd_q14 "_law_row")
    (k_q14 : KPp K f_q14)
    (a_q15 : NSp K "_law_sum" f_q15)
    (l_q15 : LKp K f_q15 "_law_sum" s_q15 oc_q15 od_q15 kV_q15 dc_q15 pm_q15 an_q15 cd_q15 ct_q15 sl_q15)
    (c_q15 : CDp K cd_q15 "_law_sum")
    (k_q15 : KPp K f_q15)
    (a_q2 : NSp K "_law_is_row" f_q2)
    (l_q2 : LKp K f_q2 "_law_is_row" s_q2 oc_q2 od_q2 kV_q2 dc_q2 pm_q2 an_q2 cd_q2 ct_q2 sl_q2)
    (c_q2 : CDp K cd_q2 "_law_is_row")
    (k_q2 : KPp K f_q2)
    (a_q13 : NSp K "_law_due" f_q13)
    (l_q13 : LKp K f_q13 "_law_due" s_q13 oc_q13 od_q13 kV_q13 dc_q13 pm_q13 an_q13 cd_q13 ct_q13 sl_q13)
    (c_q13 : CDp K cd_q13 "_law_due")
    (k_q13 : KPp K f_q13)
    (a_q3 : NSp K "_law_longer" f_q3)
    (l_q3 : LKp K f_q3 "_law_longer" s_q3 oc_q3 od_q3 kV_q3 dc_q3 pm_q3 an_q3 cd_q3 ct_q3 sl_q3)
    (c_q3 : CDp K cd_q3 "_law_longer")
    (k_q3 : KPp K f_q3)
    (a_q8 : NSp K "_law_bent" f_q8)
    (l_q8 : LKp K f_q8 "_law_bent" s_q8 oc_q8 od_q8 kV_q8 dc_q8 pm_q8 an_q8 cd_q8 ct_q8 sl_q8)
    (c_q8 : CDp K cd_q8 "_law_bent")
    (k_q8 : KPp K f_q8)
    (a_law : NSp K "law" f_law)
    (l_law : LKp K f_law "law" s_law oc_law od_law kV_law dc_law pm_law an_law cd_law ct_law sl_law)
    (c_law : CDp K cd_law "law")
    (k_law : KPp K f_law)
    (q_NoPlace : NSp K "NoPlace" C_NoPlace)
    (n_len : NNp K "len")
    (n_range : NNp K "range")
    (n_sum : NNp K "sum")
    (n_tuple : NNp K "tuple")
    (n_list : NNp K "list")
    (n_max : NNp K "max")
    (n_min : NNp K "min")
    (n_isinstance : NNp K "isinstance")
    (n_int : NNp K "int")
    (n_bool : NNp K "bool")
    (n_abs : NNp K "abs")
    (n_zip : NNp K "zip")
    (n_enumerate : NNp K "enumerate")
    (n_any : NNp K "any")
    (n_all : NNp K "all")
    (n_sorted : NNp K "sorted")
    (n_set : NNp K "set")
    (n_dict : NNp K "dict")
    (n_reversed : NNp K "reversed")
    (n_ValueError : NNp K "ValueError")
    (x_NoPlace : PySem.W.excIn K C_NoPlace [.type "ValueError", .type "Exception", .type "BaseException", .type "object"] "ValueError.__new__" = true)
    (i_ib : PySem.W.kitOne K (.type "int") (.type "bool") = some false)
    (i_bi : PySem.W.kitOne K (.type "bool") (.type "int") = some true)
    : ∃ fd : FuncData, (∀ (s : Shared) (v : Value), BindsTo s fd ⟨[v], []⟩ [("script", v)]) ∧ ∀ base : Heap, K.In base → base.Ns mainGlobals mg → FnOk l.prog w K mg base CX0 6 fa fd ["script"] (spLaw K) := by
  have e := hfa.symm.trans (PySem.W.mg_of X G a_law)
  cases e
  have F_q11' := fun_mk (st := s_q11) l_q11 c_q11 k_q11
  have b_q11' := F_q11'.binds (ps := p_q11) fun ψ ψ ψ ψ ψ ψ us hl => us_2 (fun ψ ψ => rfl) us hl
  have m_q11 := PySem.W.mg_of X G a_q11
  have F_q0' := fun_mk (st := s_q0) l_q0 c_q0 k_q0
  have b_q0' := F_q0'.binds (ps := p_q0) fun ψ ψ ψ ψ ψ ψ us hl => us_2 (fun ψ ψ => rfl) us hl
  have m_q0 := PySem.W.mg_of X G a_q0
  have F_q17' := fun_mk (st := s_q17) l_q17 c_q17 k_q17
  have b_q17' := F_q17'.binds (ps := p_q17) fun ψ ψ ψ ψ ψ ψ us hl => us_2 (fun ψ ψ => rfl) us hl
  have m_q17 := PySem.W.mg_of X G a_q17
  have F_q4' := fun_mk (st := s_q4) l_q4 c_q4 k_q4
  have b_q4' := F_q4'.binds (ps := p_q4) fun ψ ψ ψ ψ ψ ψ us hl => us_2 (fun ψ ψ => rfl) us hl
  have m_q4 := PySem.W.mg_of X G a_q4
  have F_q16' := fun_mk (st := s_q16) l_q16 c_q16 k_q16
  have b_q16' := F_q16'.binds (ps := p_q16) fun ψ ψ ψ ψ ψ ψ us hl => us_2 (fun ψ ψ => rfl) us hl
  have m_q16 := PySem.W.mg_of X G a_q16
  have F_q1' := fun_mk (st := s_q1) l_q1 c_q1 k_q1
  have b_q1' := F_q1'.binds (ps := p_q1) fun ψ ψ ψ ψ ψ ψ us hl => us_1 (fun ψ => rfl) us hl
  have m_q1 := PySem.W.mg_of X G a_q1
  have F_q12' := fun_mk (st := s_q12) l_q12 c_q12 k_q12
  have b_q12' := F_q12'.binds (ps := p_q12) fun ψ ψ ψ ψ ψ ψ us hl => us_5 (fun ψ ψ ψ ψ ψ => rfl) us hl
  have m_q12 := PySem.W.mg_of X G a_q12
  have F_q10' := fun_mk (st := s_q10) l_q10 c_q10 k_q10
  have b_q10' := F_q10'.binds (ps := p_q10) fun ψ ψ ψ ψ ψ ψ us hl => us_1 (fun ψ => rfl) us hl
  have m_q10 := PySem.W.mg_of X G a_q10
  have F_q9' := fun_mk (st := s_q9) l_q9 c_q9 k_q9
  have b_q9' := F_q9'.binds (ps := p_q9) fun ψ ψ ψ ψ ψ ψ us hl => us_2 (fun ψ ψ => rfl) us hl
  have m_q9 := PySem.W.mg_of X G a_q9
  have F_q7' := fun_mk (st := s_q7) l_q7 c_q7 k_q7
  have b_q7' := F_q7'.binds (ps := p_q7) fun ψ ψ ψ ψ ψ ψ us hl => us_1 (fun ψ => rfl) us hl
  have m_q7 := PySem.W.mg_of X G a_q7
  have F_q6' := fun_mk (st := s_q6) l_q6 c_q6 k_q6
  have b_q6' := F_q6'.binds (ps := p_q6) fun ψ ψ ψ ψ ψ ψ us hl => us_1 (fun ψ => rfl) us hl
  have m_q6 := PySem.W.mg_of X G a_q6
  have F_q5' := fun_mk (st := s_q5) l_q5 c_q5 k_q5
  have b_q5' := F_q5'.binds (ps := p_q5) fun ψ ψ ψ ψ ψ ψ us hl => us_2 (fun ψ ψ => rfl) us hl
  have m_q5 := PySem.W.mg_of X G a_q5
  have F_q14' := fun_mk (st := s_q14) l_q14 c_q14 k_q14
  have b_q14' := F_q14'.binds (ps := p_q14) fun ψ ψ ψ ψ ψ ψ us hl => us_3 (fun ψ ψ ψ => rfl) us hl
  have m_q14 := PySem.W.mg_of X G a_q14
  have F_q15' := fun_mk (st := s_q15) l_q15 c_q15 k_q15
  have b_q15' := F_q15'.binds (ps := p_q15) fun ψ ψ ψ ψ ψ ψ us hl => us_3 (fun ψ ψ ψ => rfl) us hl
  have m_q15 := PySem.W.mg_of X G a_q15
  have F_q2' := fun_mk (st := s_q2) l_q2 c_q2 k_q2
  have b_q2' := F_q2'.binds (ps := p_q2) fun ψ ψ ψ ψ ψ ψ us hl => us_2 (fun ψ ψ => rfl) us hl
  have m_q2 := PySem.W.mg_of X G a_q2
  have F_q13' := fun_mk (st := s_q13) l_q13 c_q13 k_q13
  have b_q13' := F_q13'.binds (ps := p_q13) fun ψ ψ ψ ψ ψ ψ us hl => us_2 (fun ψ ψ => rfl) us hl
  have m_q13 := PySem.W.mg_of X G a_q13
  have F_q3' := fun_mk (st := s_q3) l_q3 c_q3 k_q3
  have b_q3' := F_q3'.binds (ps := p_q3) fun ψ ψ ψ ψ ψ ψ us hl => us_4 (fun ψ ψ ψ ψ => rfl) us hl
  have m_q3 := PySem.W.mg_of X G a_q3
  have F_q8' := fun_mk (st := s_q8) l_q8 c_q8 k_q8
  have b_q8' := F_q8'.binds (ps := p_q8) fun ψ ψ ψ ψ ψ ψ us hl => us_3 (fun ψ ψ ψ => rfl) us hl
  have m_q8 := PySem.W.mg_of X G a_q8
  have F_law' := fun_mk (st := s_law) l_law c_law k_law
  have m_NoPlace := PySem.W.mg_of X G q_NoPlace
  have z_len := PySem.W.mg_none_of X G n_len
  have z_range := PySem.W.mg_none_of X G n_range
  have z_sum := PySem.W.mg_none_of X G n_sum
  have z_tuple := PySem.W.mg_none_of X G n_tuple
  have z_list := PySem.W.mg_none_of X G n_list
  have z_max := PySem.W.mg_none_of X G n_max
  have z_min := PySem.W.mg_none_of X G n_min
  have z_isinstance := PySem.W.mg_none_of X G n_isinstance
  have z_int := PySem.W.mg_none_of X G n_int
  have z_bool := PySem.W.mg_none_of X G n_bool
  have z_abs := PySem.W.mg_none_of X G n_abs
  have z_zip := PySem.W.mg_none_of X G n_zip
  have z_enumerate := PySem.W.mg_none_of X G n_enumerate
  have z_any := PySem.W.mg_none_of X G n_any
  have z_all := PySem.W.mg_none_of X G n_all
  have z_sorted := PySem.W.mg_none_of X G n_sorted
  have z_set := PySem.W.mg_none_of X G n_set
  have z_dict := PySem.W.mg_none_of X G n_dict
  have z_reversed := PySem.W.mg_none_of X G n_reversed
  have z_ValueError := PySem.W.mg_none_of X G n_ValueError
  have B : Bl mg := ⟨z_len, z_range, z_sum, z_tuple, z_list, z_max, z_min, z_isinstance, z_int, z_bool, z_abs, z_zip, z_enumerate, z_any, z_all, z_sorted, z_set, z_dict, z_reversed, z_ValueError⟩
  have kt : Kt K := ⟨i_ib, i_bi⟩
  have T : Tx K mg := ⟨trivial, ⟨_, m_NoPlace, x_NoPlace⟩⟩
  refine ⟨PySem.W.fnOf "law" "law" (defArgs s_law) (defBody s_law) (defScope s_law) .none kV_law dc_law pm_law an_law cd_law ct_law, fun s v => .of_eq rfl, fun base ψ ψ => ?_⟩
  have c_q11' := Fn.mk (ok_q11 (P := l.prog) (w := w) (base := base) F_q11' B kt T ) m_q11 k_q11 b_q11'
  have c_q0' := Fn.mk (ok_q0 (P := l.prog) (w := w) (base := base) F_q0' B kt T c_q11') m_q0 k_q0 b_q0'
  have c_q17' := Fn.mk (ok_q17 (P := l.prog) (w := w) (base := base) F_q17' B kt T c_q0') m_q17 k_q17 b_q17'
  have c_q4' := Fn.mk (ok_q4 (P := l.prog) (w := w) (base := base) F_q4' B kt T c_q11' c_q17') m_q4 k_q4 b_q4'
  have c_q16' := Fn.mk (ok_q16 (P := l.prog) (w := w) (base := base) F_q16' B kt T ) m_q16 k_q16 b_q16'
  have c_q1' := Fn.mk (ok_q1 (P := l.prog) (w := w) (base := base) F_q1' B kt T ) m_q1 k_q1 b_q1'
  have c_q12' := Fn.mk (ok_q12 (P := l.prog) (w := w) (base := base) F_q12' B kt T c_q1' c_q4' c_q16' c_q17') m_q12 k_q12 b_q12'
  have c_q10' := Fn.mk (ok_q10 (P := l.prog) (w := w) (base := base) F_q10' B kt T ) m_q10 k_q10 b_q10'
  have c_q9' := Fn.mk (ok_q9 (P := l.prog) (w := w) (base := base) F_q9' B kt T ) m_q9 k_q9 b_q9'
  have c_q7' := Fn.mk (ok_q7 (P := l.prog) (w := w) (base := base) F_q7' B kt T c_q9') m_q7 k_q7 b_q7'
  have c_q6' := Fn.mk (ok_q6 (P := l.prog) (w := w) (base := base) F_q6' B kt T c_q7' c_q9') m_q6 k_q6 b_q6'
  have c_q5' := Fn.mk (ok_q5 (P := l.prog) (w := w) (base := base) F_q5' B kt T ) m_q5 k_q5 b_q5'
  have c_q14' := Fn.mk (ok_q14 (P := l.prog) (w := w) (base := base) F_q14' B kt T c_q5' c_q9') m_q14 k_q14 b_q14'
  have c_q15' := Fn.mk (ok_q15 (P := l.prog) (w := w) (base := base) F_q15' B kt T c_q5') m_q15 k_q15 b_q15'
  have c_q2' := Fn.mk (ok_q2 (P := l.prog) (w := w) (base := base) F_q2' B kt T c_q5') m_q2 k_q2 b_q2'
  have c_q13' := Fn.mk (ok_q13 (P := l.prog) (w := w) (base := base) F_q13' B kt T c_q5' c_q2') m_q13 k_q13 b_q13'
  have c_q3' := Fn.mk (ok_q3 (P := l.prog) (w := w) (base := base) F_q3' B kt T c_q9') m_q3 k_q3 b_q3'
  have c_q8' := Fn.mk (ok_q8 (P := l.prog) (w := w) (base := base) F_q8' B kt T c_q9' c_q3' c_q5') m_q8 k_q8 b_q8'
  exact law_endP (ok_law F_law' B kt T c_q10' c_q6' c_q14' c_q15' c_q8' c_q13' c_q12' c_q9' pile_eq law_true)
end My
open PySem PySem.W PyProof.Rows
set_option maxRecDepth 100000 in
set_option maxHeartbeats 0 in
theorem PySem.Challenge.cw_mixedscales_k52_whole_sums_spoilt_twice_holds : PySem.Challenge.rw_mixedscales_k52_whole_sums_spoilt_twice.Holds :=
  hd (by
  k_fill
  refine L2.walk_ofK (l := PySem.Challenge.rw_mixedscales_k52_whole_sums_spoilt_twice) (n := 63) (k := 6) (x := "script") (CX := L2.CX0) (sp := L2.spLaw) rfl (by decide) rfl ⟨rfl, by decide, by decide⟩ (fun w h Y => PySem.W.kIn_of Y) ?F ?S ?C
  case S => exact fun ψ ψ a ns hl ψ hS => ⟨a, ns, rfl, hS, hl, fun ψ => rfl⟩
  case C => exact fun ψ ψ ψ ψ z => z
  case F =>
    intro w mg fa h KX G hmg
    refine' My.all_mk KX G hmg ?a_q11 ?l_q11 ?c_q11 ?k_q11 ?a_q0 ?l_q0 ?c_q0 ?k_q0 ?a_q17 ?l_q17 ?c_q17 ?k_q17 ?a_q4 ?l_q4 ?c_q4 ?k_q4 ?a_q16 ?l_q16 ?c_q16 ?k_q16 ?a_q1 ?l_q1 ?c_q1 ?k_q1 ?a_q12 ?l_q12 ?c_q12 ?k_q12 ?a_q10 ?l_q10 ?c_q10 ?k_q10 ?a_q9 ?l_q9 ?c_q9 ?k_q9 ?a_q7 ?l_q7 ?c_q7 ?k_q7 ?a_q6 ?l_q6 ?c_q6 ?k_q6 ?a_q5 ?l_q5 ?c_q5 ?k_q5 ?a_q14 ?l_q14 ?c_q14 ?k_q14 ?a_q15 ?l_q15 ?c_q15 ?k_q15 ?a_q2 ?l_q2 ?c_q2 ?k_q2 ?a_q13 ?l_q13 ?c_q13 ?k_q13 ?a_q3 ?l_q3 ?c_q3 ?k_q3 ?a_q8 ?l_q8 ?c_q8 ?k_q8 ?a_law ?l_law ?c_law ?k_law ?q_NoPlace ?n_len ?n_range ?n_sum ?n_tuple ?n_list ?n_max ?n_min ?n_isinstance ?n_int ?n_bool ?n_abs ?n_zip ?n_enumerate ?n_any ?n_all ?n_sorted ?n_set ?n_dict ?n_reversed ?n_ValueError ?x_NoPlace ?i_ib ?i_bi
    all_goals (try delta My.NSp); all_goals (try delta My.NNp); all_goals (try delta My.CDp); all_goals (try delta My.KPp); all_goals (try delta My.LKp)
    (case a_q11 | l_q11 | c_q11 | k_q11 | a_q0 | l_q0 | c_q0 | k_q0 | a_q17 | l_q17 | c_q17 | k_q17 | a_q4 | l_q4 | c_q4 | k_q4 | a_q16 | l_q16 | c_q16 | k_q16 | a_q1 | l_q1 | c_q1 | k_q1 | a_q12 | l_q12 | c_q12 | k_q12 | a_q10 | l_q10 | c_q10 | k_q10 | a_q9 | l_q9 | c_q9 | k_q9 | a_q7 | l_q7 | c_q7 | k_q7 | a_q6 | l_q6 | c_q6 | k_q6 | a_q5 | l_q5 | c_q5 | k_q5 | a_q14 | l_q14 | c_q14 | k_q14 | a_q15 | l_q15 | c_q15 | k_q15 | a_q2 | l_q2 | c_q2 | k_q2 | a_q13 | l_q13 | c_q13 | k_q13 | a_q3 | l_q3 | c_q3 | k_q3 | a_q8 | l_q8 | c_q8 | k_q8 | a_law | l_law | c_law | k_law | q_NoPlace | n_len | n_range | n_sum | n_tuple | n_list | n_max | n_min | n_isinstance | n_int | n_bool | n_abs | n_zip | n_enumerate | n_any | n_all | n_sorted | n_set | n_dict | n_reversed | n_ValueError => k_is)
    (case x_NoPlace => k_exc)
    (case i_ib | i_bi => kit_is)
  )
