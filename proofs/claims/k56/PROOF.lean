import PyProof.Rows.All
import Wide.All
import OpenK.AllK
import Wide.FinOn
import Lean
import PyProof.EqAt
import PyProof.EqKinds
import PyProof.TupleCall
import PySem.Challenge.RW_mixedscales_k56_whole_ways_one_by_one
set_option Elab.async false
set_option compiler.extract_closed false
set_option bootstrap.genMatcherCode false
set_option genSizeOfSpec false
set_option linter.all false
set_option maxRecDepth 100000
/-! THE HAND LAYER, for ints, bools, texts, own classes, LISTS and tuples (index, slices, in, append, pop ..), calls, loops. Paste it whole ahead of your own text; what your proof does not reach may be deleted. -/
namespace L2
open PySem PySem.Spec PyProof.Rows
noncomputable abbrev SV := Str → Option Value
noncomputable abbrev VSP := Value → Shared → Prop
noncomputable abbrev Key := Sum Int Str
noncomputable def keyIs : Key → Value → Bool
  | .inl k, v => Value.isInt k v
  | .inr x, v => Value.isStrOf x v
noncomputable def keyH (w : World) : Key → Int
  | .inl k => hashInt k
  | .inr x => hashStr w x
theorem keyIs_shape : ∀ {k : Key} {v : Value}, keyIs k v = true → (∃ i t, k = Sum.inl i ∧ v = Value.int i t) ∨ (∃ x t, k = Sum.inr x ∧ v = Value.str x t)
  | .inl i, v, h => by
    obtain ⟨t, e⟩ := Value.isInt_shape (k := i) (v := v) h
    exact .inl ⟨i, t, rfl, e⟩
  | .inr x, v, h => by
    obtain ⟨t, e⟩ := Value.isStrOf_shape (x := x) (v := v) h
    exact .inr ⟨x, t, rfl, e⟩
theorem key_ll (a b : Int) : decide ((Sum.inl a : Key) = Sum.inl b) = (a == b) := by
  by_cases e : a = b
  · subst e; simp
  · have h : ¬ (Sum.inl a : Key) = Sum.inl b := fun q => e (Sum.inl.inj q)
    rw [decide_eq_false h]
    exact (beq_eq_false_iff_ne.mpr e).symm
theorem key_rr (a b : Str) : decide ((Sum.inr a : Key) = Sum.inr b) = decide (a = b) := by
  by_cases e : a = b
  · subst e; simp
  · have h : ¬ (Sum.inr a : Key) = Sum.inr b := fun q => e (Sum.inr.inj q)
    rw [decide_eq_false h, decide_eq_false e]
theorem key_lr (a : Int) (b : Str) : decide ((Sum.inl a : Key) = Sum.inr b) = false := decide_eq_false (fun q => nomatch q)
theorem key_rl (a : Str) (b : Int) : decide ((Sum.inr a : Key) = Sum.inl b) = false := decide_eq_false (fun q => nomatch q)
noncomputable def mixKind (prog : Program) (w : World) : PySem.KeyKind prog w Key where
  is := keyIs
  hash := keyH w
  inj := fun v a b ha hb => by
    rcases keyIs_shape ha with ⟨i, t, rfl, rfl⟩ | ⟨x, t, rfl, rfl⟩
    · rcases keyIs_shape hb with ⟨j, u, rfl, e⟩ | ⟨y, u, rfl, e⟩
      · injection e with e1 _; rw [e1]
      · exact nomatch e
    · rcases keyIs_shape hb with ⟨j, u, rfl, e⟩ | ⟨y, u, rfl, e⟩
      · exact nomatch e
      · injection e with e1 _; rw [e1]
  byValue := fun k v h => by
    rcases keyIs_shape h with ⟨i, t, rfl, rfl⟩ | ⟨x, t, rfl, rfl⟩ <;> rfl
  pyHash := fun hv h => by
    rcases keyIs_shape hv with ⟨i, t, rfl, rfl⟩ | ⟨x, t, rfl, rfl⟩
    · exact wpAny_pyHash_int h
    · exact wpAny_pyHash_str h
  eqBool := fun hu hv h => by
    rcases keyIs_shape hu with ⟨i, t, rfl, rfl⟩ | ⟨x, t, rfl, rfl⟩
    · rcases keyIs_shape hv with ⟨j, u, rfl, rfl⟩ | ⟨y, u, rfl, rfl⟩
      · rw [key_ll] at h; exact wpAny_eqBool_int h
      · rw [key_lr] at h; exact SeqAt.EqAt.int_str i t y u _ _ _ _ h
    · rcases keyIs_shape hv with ⟨j, u, rfl, rfl⟩ | ⟨y, u, rfl, rfl⟩
      · rw [key_rl] at h; exact SeqAt.EqAt.str_int x t j u _ _ _ _ h
      · rw [key_rr] at h; exact wpAny_eqBool_str h
  «strs» := fun k x t v h => by
    rcases keyIs_shape h with ⟨i, u, rfl, e⟩ | ⟨y, u, rfl, e⟩
    · exact nomatch e
    · injection e with e1 _
      subst e1
      cases v <;> rfl
inductive V where
  | non | bl (b : Bool) | int (i : Int) | str (x : Str) | byt (b : Array UInt8) | flt (b : UInt64) | ref (a : Addr) | ty (n : String)
  deriving DecidableEq
noncomputable def RelV : V → Value → Prop
  | .non, u => u = Value.none
  | .bl b, u => u = Value.bool b
  | .int i, u => ∃ t, u = Value.int i t
  | .str x, u => ∃ t, u = Value.str x t
  | .byt b, u => ∃ t, u = Value.bytes b t
  | .flt b, u => ∃ t, u = Value.float b t
  | .ref a, u => u = Value.ref a
  | .ty n, u => u = Value.type n
noncomputable abbrev Vals : List V → List Value → Prop := Paired RelV
theorem Vals.length {xs : List V} {us : List Value} (r : Vals xs us) : xs.length = us.length := Paired.length r
theorem Vals.get : ∀ {xs : List V} {us : List Value} {i : Nat} {x : V}, Vals xs us → xs[i]? = some x → ∃ u, us[i]? = some u ∧ RelV x u
  | _, _, _, _, .nil, e => by simp at e
  | _, _, 0, _, .cons r _, e => by simp at e; subst e; exact ⟨_, rfl, r⟩
  | _, _, i + 1, x, .cons _ t, e => by
    obtain ⟨u, h1, h2⟩ := Vals.get (i := i) (x := x) t (by simpa using e)
    exact ⟨u, by simpa using h1, h2⟩
theorem Vals.set {x : V} {u : Value} (r : RelV x u) : ∀ {xs : List V} {us : List Value} (i : Nat), Vals xs us → Vals (xs.set i x) (us.set i u)
  | _, _, _, .nil => .nil
  | _, _, 0, .cons _ t => .cons r t
  | _, _, i + 1, .cons q t => .cons q (Vals.set r i t)
theorem Vals.append : ∀ {xs ys : List V} {us ws : List Value}, Vals xs us → Vals ys ws → Vals (xs ++ ys) (us ++ ws)
  | _, _, _, _, .nil, s => s
  | _, _, _, _, .cons r t, s => .cons r (Vals.append t s)
theorem Vals.take : ∀ {xs : List V} {us : List Value} (n : Nat), Vals xs us → Vals (xs.take n) (us.take n)
  | _, _, 0, _ => .nil
  | _, _, _ + 1, .nil => .nil
  | _, _, n + 1, .cons r t => .cons r (Vals.take n t)
theorem Vals.drop : ∀ {xs : List V} {us : List Value} (n : Nat), Vals xs us → Vals (xs.drop n) (us.drop n)
  | _, _, 0, r => r
  | _, _, _ + 1, .nil => .nil
  | _, _, n + 1, .cons _ t => Vals.drop n t
noncomputable def RelO : Option V → Option Value → Prop
  | some v, some u => RelV v u
  | none, none => True
  | _, _ => False
noncomputable def KV {κ : Type} : List (κ × V) → List (κ × Value) → Prop := Paired fun (p : κ × V) (q : κ × Value) => p.1 = q.1 ∧ RelV p.2 q.2
noncomputable def kV : Key → V
  | .inl i => .int i
  | .inr x => .str x
inductive HO where
  | lst (xs : List V)
  | tup (xs : List V)
  | dK (kvs : List (Key × V)) | dT (kvs : List (List Key × V))
  | set (S : Int → Bool) (n : Nat)
  | ins (C dx : Addr) (fs : List (Str × V))
  | own (x : Addr)
  | xd (fs : List (Str × V))
  | met (f x : Addr)
  | rng (lo hi : Int)
  | frz (o : Obj) (u : HO)
  | tbl (ps : Array Value)
  | ext (φ : Heap → Prop)
noncomputable abbrev Hp := Addr → Option HO
noncomputable def upd (H : Hp) (a : Addr) (o : HO) : Hp := fun b => if b = a then some o else H b
theorem upd_same {H : Hp} {a : Addr} {o : HO} : upd H a o a = some o := by unfold upd; rw [if_pos rfl]
theorem upd_ne {H : Hp} {a b : Addr} {o : HO} (h : b ≠ a) : upd H a o b = H b := by unfold upd; rw [if_neg h]
theorem ne_of {H : Hp} {a b : Addr} {o u : HO} (h : H a = some o) (h' : H b = some u) (d : o ≠ u) : a ≠ b := by
  intro e; subst e; rw [h] at h'; exact d (Option.some.inj h')
theorem ne_of_none {H : Hp} {a b : Addr} {o : HO} (h : H a = some o) (h' : H b = none) : a ≠ b := by
  intro e; subst e; rw [h] at h'; cases h'
section
variable (P : Program) (w : World)
noncomputable def ObjOk (H : Hp) (h : Heap) (a : Addr) : HO → Prop
  | .lst xs => xs.length ≤ sizeLine ∧ ∃ (its : List Value) (n : Nat), Vals xs its ∧ h.get? a = some { cls := .type "list", data := .seq its.toArray n }
  | .tup xs => xs.length ≤ sizeLine ∧ ∃ its : List Value, Vals xs its ∧ IsTup h a its.toArray
  | .dK kvs => kvs.length ≤ sizeLine ∧ (a == sysModules) = false ∧ ∃ vs, KV kvs vs ∧ h.DictOf (mixKind P w) a vs
  | .dT kvs => kvs.length ≤ sizeLine ∧ (a == sysModules) = false ∧ ∃ xs : List (List Key × Addr × Value),
      Paired (fun (p : List Key × V) (q : List Key × Addr × Value) => p.1 = q.1 ∧ H q.2.1 = some (.tup (p.1.map kV)) ∧ RelV p.2 q.2.2) kvs xs ∧
      ∃ o es ep, h.get? a = some o ∧ o.ExactDict ∧ o.data = .dict es ep ∧ es.toList = xs.map (entryOfKey (tupleKind (mixKind P w))) ∧ (xs.map (·.1)).Nodup
  | .set S n => h.SetOf (intKind P w) a S n
  | .ins C dx fs => H dx = some (.own a) ∧ fs.length ≤ 1000 ∧ dx ≠ a ∧ h.get? a = some (PySem.W.instObj C dx) ∧
      ∃ mA, h.Ns1 dx mA ∧ (∀ f, RelO (fs.lookup f) (mA f)) ∧ PySem.Within mA (fs.map (·.1))
  | .own _ => ∃ o, h.get? a = some o
  | .xd fs => ∃ mA, h.Ns1 a mA ∧ ∀ f, RelO (fs.lookup f) (mA f)
  | .rng lo hi => ∃ t u v, h.get? a = some { cls := .type "range", data := .fields #[.int lo t, .int hi u, .int 1 v] }
  | .frz o u => h.get? a = some o ∧ ObjOk H h a u
  | .tbl ps => h.get? a = some { cls := .none, data := .fields ps }
  | .met f x => h.get? a = some (PySem.W.methodObj (.ref f) (.ref x))
  | .ext φ => φ h ∧ (∃ o, h.get? a = some o) ∧ ∀ h1 h2 : Heap, φ h1 → (∀ o, h1.get? a = some o → h2.get? a = some o) → φ h2
noncomputable def HOk (H : Hp) (h : Heap) : Prop := ∀ a o, H a = some o → ObjOk P w H h a o
end
section
variable {P : Program} {w : World} {H H' : Hp} {h h' : Heap} {a : Addr} {o : HO}
theorem ObjOk.lt (x : ObjOk P w H h a o) : a < h.objs.size := by
  cases o with
  | lst xs => obtain ⟨_, _, _, _, e⟩ := x; exact Heap.lt_size e
  | tup xs => obtain ⟨_, _, _, p⟩ := x; exact p.lt
  | dK kvs => obtain ⟨_, _, _, _, o, _, _, e, _⟩ := x; exact Heap.lt_size e
  | dT kvs => obtain ⟨_, _, _, _, o, _, _, e, _⟩ := x; exact Heap.lt_size e
  | set S n => obtain ⟨o, _, _, _, e, _⟩ := x; exact Heap.lt_size e
  | ins C dx fs => obtain ⟨_, _, _, e, _⟩ := x; exact Heap.lt_size e
  | own y => obtain ⟨_, e⟩ := x; exact Heap.lt_size e
  | xd fs => obtain ⟨_, ⟨_, _, _, e, _⟩, _⟩ := x; exact Heap.lt_size e
  | rng lo hi => obtain ⟨_, _, _, e⟩ := x; exact Heap.lt_size e
  | frz ob u => obtain ⟨e, _⟩ := x; exact Heap.lt_size e
  | tbl ps => exact Heap.lt_size (show h.get? a = some _ from x)
  | met f y => exact Heap.lt_size (show h.get? a = some _ from x)
  | ext φ => obtain ⟨_, ⟨_, e⟩, _⟩ := x; exact Heap.lt_size e
theorem Paired.mapP {α β : Type} {F G : α → β → Prop} : ∀ {l₁ : List α} {l₂ : List β}, Paired F l₁ l₂ → (∀ a b, F a b → G a b) → Paired G l₁ l₂
  | _, _, .nil, _ => .nil
  | _, _, .cons r t, f => .cons (f _ _ r) (Paired.mapP t f)
theorem ObjOk.stay (x : ObjOk P w H h a o) (k : ∀ b u, (b = a ∨ H b = some (.own a)) → h.get? b = some u → h'.get? b = some u)
    (ho : ∀ b, H b = some (.own a) → H' b = some (.own a)) (ht : ∀ b xs, H b = some (.tup xs) → H' b = some (.tup xs)) : ObjOk P w H' h' a o := by
  induction o with
  | lst xs => obtain ⟨z, its, n, r, e⟩ := x; exact ⟨z, its, n, r, k _ _ (.inl rfl) e⟩
  | tup xs => obtain ⟨z, its, r, ob, e, c⟩ := x; exact ⟨z, its, r, ob, k _ _ (.inl rfl) e, c⟩
  | dK kvs => obtain ⟨z, y, vs, r, ob, es, ep, e, c⟩ := x; exact ⟨z, y, vs, r, ob, es, ep, k _ _ (.inl rfl) e, c⟩
  | dT kvs =>
    obtain ⟨z, y, xs, r, ob, es, ep, e, c⟩ := x
    exact ⟨z, y, xs, Paired.mapP r fun p q z => ⟨z.1, ht _ _ z.2.1, z.2.2⟩, ob, es, ep, k _ _ (.inl rfl) e, c⟩
  | set S n => obtain ⟨ob, es, ep, t, e, c⟩ := x; exact ⟨ob, es, ep, t, k _ _ (.inl rfl) e, c⟩
  | ins C dx fs =>
    obtain ⟨d, z, ne, e, mA, ⟨od, es, ep, e2, c⟩, r⟩ := x
    exact ⟨ho _ d, z, ne, k _ _ (.inl rfl) e, mA, ⟨od, es, ep, k _ _ (.inr d) e2, c⟩, r⟩
  | own y => obtain ⟨ob, e⟩ := x; exact ⟨ob, k _ _ (.inl rfl) e⟩
  | xd fs => obtain ⟨mA, ⟨od, es, ep, e, c⟩, r⟩ := x; exact ⟨mA, ⟨od, es, ep, k _ _ (.inl rfl) e, c⟩, r⟩
  | rng lo hi => obtain ⟨t, u, v, e⟩ := x; exact ⟨t, u, v, k _ _ (.inl rfl) e⟩
  | frz ob u ih => obtain ⟨e, q⟩ := x; exact ⟨k _ _ (.inl rfl) e, ih q⟩
  | tbl ps =>
    have e : h.get? a = some { cls := .none, data := .fields ps } := x
    show h'.get? a = some { cls := .none, data := .fields ps }
    exact k a _ (.inl rfl) e
  | met f y =>
    have e : h.get? a = some (PySem.W.methodObj (.ref f) (.ref y)) := x
    show h'.get? a = some (PySem.W.methodObj (.ref f) (.ref y))
    exact k a _ (.inl rfl) e
  | ext φ => obtain ⟨p, ⟨o, e⟩, st⟩ := x; exact ⟨st _ _ p fun o q => k _ _ (.inl rfl) q, ⟨o, k _ _ (.inl rfl) e⟩, st⟩
theorem HOk.lt (x : HOk P w H h) (e : H a = some o) : a < h.objs.size := (x a o e).lt
theorem HOk.fresh (x : HOk P w H h) (e : h.objs.size ≤ a) : H a = none := by
  cases q : H a with
  | none => rfl
  | some u => exact absurd (Nat.lt_of_lt_of_le (x.lt q) e) (Nat.lt_irrefl _)
theorem HOk.kept (x : HOk P w H h) (k : ∀ b u, h.get? b = some u → h'.get? b = some u) : HOk P w H h' := fun a o e =>
  (x a o e).stay (fun b u ψ q => k b u q) (fun ψ q => q) fun ψ ψ q => q
theorem HOk.laid (x : HOk P w H h) (k : ∀ b u, h.get? b = some u → h'.get? b = some u) (hp : h.objs.size ≤ a) (new : ObjOk P w (upd H a o) h' a o) : HOk P w (upd H a o) h' := fun b u e => by
  have hn := x.fresh hp
  by_cases hb : b = a
  · subst hb; rw [upd_same] at e; cases e; exact new
  · rw [upd_ne hb] at e
    exact (x b u e).stay (fun c v ψ q => k c v q) (fun c q => by rw [upd_ne (ne_of_none q hn)]; exact q) fun c xs q => by rw [upd_ne (ne_of_none q hn)]; exact q
end
noncomputable def Rd (H : Hp) (a : Addr) (u : HO) : Prop := H a = some u ∨ ∃ o, H a = some (.frz o u)
theorem Rd.of {H : Hp} {a : Addr} {u : HO} (h : H a = some u) : Rd H a u := .inl h
theorem Rd.ok {P : Program} {w : World} {H : Hp} {h : Heap} {a : Addr} {u : HO} (r : Rd H a u) (x : HOk P w H h) : ObjOk P w H h a u := by
  rcases r with r | ⟨o, r⟩
  · exact x a u r
  · obtain ⟨_, q⟩ := x a _ r
    exact q
noncomputable def Mut : Option HO → Prop
  | some (.lst _) => True
  | some (.dK _) => True
  | some (.dT _) => True
  | some (.set _ _) => True
  | some (.ins _ _ _) => True
  | some (.ext _) => True
  | _ => False
section
variable {P : Program} {w : World} {H : Hp} {h h' : Heap} {x e : Addr} {o' : HO}
theorem HOk.write (ok : HOk P w H h) (mu : Mut (H x)) (he : e = x ∨ H e = some (.own x)) (k : ∀ b u, b ≠ e → h.get? b = some u → h'.get? b = some u) (heo : ∃ u, h'.get? e = some u)
    (new : ObjOk P w (upd H x o') h' x o') : HOk P w (upd H x o') h' := fun b u q => by
  have nown : ∀ c y, H c = some (.own y) → c ≠ x := fun c y r z => by subst z; rw [r] at mu; exact mu
  have ntup : ∀ c xs, H c = some (.tup xs) → c ≠ x := fun c xs r z => by subst z; rw [r] at mu; exact mu
  by_cases hb : b = x
  · subst hb; rw [upd_same] at q; cases q; exact new
  · rw [upd_ne hb] at q
    by_cases hbe : b = e
    · have q' : H b = some (.own x) := by
        rcases he with z | z
        · exact absurd (hbe.trans z) hb
        · rw [hbe]; exact z
      rw [q] at q'; cases q'
      obtain ⟨v, hv⟩ := heo
      exact ⟨v, by rw [hbe]; exact hv⟩
    · refine (ok b u q).stay (fun c v hc r => k c v ?_ r) (fun c r => by rw [upd_ne (nown c b r)]; exact r) fun c xs r => by rw [upd_ne (ntup c xs r)]; exact r
      rcases hc with rfl | hc
      · exact hbe
      · rintro rfl
        rcases he with z | z
        · exact nown c b hc z
        · rw [hc] at z; cases z; exact hb rfl
end
structure Un (fs ex : List Addr) (H H' : Hp) (h h' : Heap) : Prop where
  keep : ∀ b o, h.get? b = some o → H b = none → b ∉ fs → b ∉ ex → h'.get? b = some o
  slot : ∀ b o, h.get? b = some o → H b = none → b ∈ fs → b ∉ ex → ∃ sl, h'.get? b = some { o with slots := sl }
  free : ∀ b o, h.get? b = some o → H b = none → b ∉ ex → H' b = none
  there : ∀ b o, h.get? b = some o → b ∉ ex → ∃ o', h'.get? b = some o'
  tups : ∀ b xs, H b = some (.tup xs) → H' b = some (.tup xs)
  frzs : ∀ b o u, H b = some (.frz o u) → H' b = some (.frz o u)
  tbls : ∀ b ps, H b = some (.tbl ps) → ∃ more, H' b = some (.tbl (ps ++ more))
section
variable {fs fs' ex ex' : List Addr} {H H1 H2 : Hp} {h h1 h2 h' : Heap} {a x e : Addr} {o : HO}
theorem Un.any (u : Un fs ex H H1 h h1) {b : Addr} {ob : Obj} (q : h.get? b = some ob) (n : H b = none) (hx : b ∉ ex) : ∃ sl, h1.get? b = some { ob with slots := sl } := by
  by_cases hb : b ∈ fs
  · exact u.slot b ob q n hb hx
  · exact ⟨ob.slots, u.keep b ob q n hb hx⟩
theorem Un.trans (a : Un fs ex H H1 h h1) (b : Un fs ex H1 H2 h1 h2) : Un fs ex H H2 h h2 where
  keep := fun c ob q n hc hx => b.keep c ob (a.keep c ob q n hc hx) (a.free c ob q n hx) hc hx
  slot := fun c ob q n hc hx => by
    obtain ⟨sl, e1⟩ := a.slot c ob q n hc hx
    obtain ⟨sl', e2⟩ := b.slot c _ e1 (a.free c ob q n hx) hc hx
    exact ⟨sl', e2⟩
  free := fun c ob q n hx => by
    obtain ⟨o', e1⟩ := a.there c ob q hx
    exact b.free c o' e1 (a.free c ob q n hx) hx
  there := fun c ob q hx => by
    obtain ⟨o', e1⟩ := a.there c ob q hx
    exact b.there c o' e1 hx
  tups := fun c xs q => b.tups c xs (a.tups c xs q)
  frzs := fun c ob xs q => b.frzs c ob xs (a.frzs c ob xs q)
  tbls := fun c ps q => by
    obtain ⟨m1, e1⟩ := a.tbls c ps q
    obtain ⟨m2, e2⟩ := b.tbls c _ e1
    exact ⟨m1 ++ m2, by rw [e2, Array.append_assoc]⟩
theorem Un.kept (k : ∀ b u, h.get? b = some u → h'.get? b = some u) : Un fs ex H H h h' :=
  ⟨fun b ob q ψ ψ ψ => k b ob q, fun b ob q ψ ψ ψ => ⟨ob.slots, k b ob q⟩, fun ψ ψ ψ n ψ => n, fun b ob q ψ => ⟨ob, k b ob q⟩, fun ψ ψ q => q, fun ψ ψ ψ q => q, fun ψ ps q => ⟨#[], by rw [q]; simp⟩⟩
theorem Un.refl : Un fs ex H H h h := Un.kept fun ψ ψ q => q
theorem Un.laid (k : ∀ b u, h.get? b = some u → h'.get? b = some u) (hp : h.objs.size ≤ a) (hn : H a = none) : Un fs ex H (upd H a o) h h' where
  keep := fun b u q ψ ψ ψ => k b u q
  slot := fun b u q ψ ψ ψ => ⟨u.slots, k b u q⟩
  free := fun b u q n ψ => by rw [upd_ne (Nat.ne_of_lt (Nat.lt_of_lt_of_le (Heap.lt_size q) hp))]; exact n
  there := fun b u q ψ => ⟨u, k b u q⟩
  tups := fun b xs q => by rw [upd_ne (ne_of_none q hn)]; exact q
  frzs := fun b u xs q => by rw [upd_ne (ne_of_none q hn)]; exact q
  tbls := fun b ps q => ⟨#[], by rw [upd_ne (ne_of_none q hn), q]; simp⟩
theorem Un.write (mu : Mut (H x)) (he : e = x ∨ H e = some (.own x)) (k : ∀ b u, b ≠ e → h.get? b = some u → h'.get? b = some u) (heo : ∃ u, h'.get? e = some u) : Un fs ex H (upd H x o) h h' := by
  have hx : ∀ b, H b = none → b ≠ x := fun b n z => by subst z; rw [n] at mu; exact mu
  have hb : ∀ b, H b = none → b ≠ e := fun b n z => by
    subst z
    rcases he with r | r
    · exact hx b n r
    · rw [n] at r; cases r
  have hm : ∀ b u, H b = some u → ¬ Mut (some u) → b ≠ x := fun b u q nm z => by subst z; rw [q] at mu; exact nm mu
  refine ⟨fun b u q n ψ ψ => k b u (hb b n) q, fun b u q n ψ ψ => ⟨u.slots, k b u (hb b n) q⟩, fun b u q n ψ => by rw [upd_ne (hx b n)]; exact n, fun b u q ψ => ?_,
    fun b xs q => by rw [upd_ne (hm b _ q fun z => z)]; exact q, fun b u xs q => by rw [upd_ne (hm b _ q fun z => z)]; exact q, fun b ps q => ⟨#[], by rw [upd_ne (hm b _ q fun z => z), q]; simp⟩⟩
  by_cases hbe : b = e
  · subst hbe; exact heo
  · exact ⟨u, k b u hbe q⟩
theorem Un.mono (u : Un fs ex H H1 h h1) (hs : ∀ b ∈ fs, b ∈ fs') (hx : ∀ b ∈ ex, b ∈ ex') : Un fs' ex' H H1 h h1 :=
  ⟨fun b ob q n hb he => u.keep b ob q n (fun z => hb (hs b z)) fun z => he (hx b z), fun ψ ψ q n ψ he => u.any q n fun z => he (hx _ z), fun b ob q n he => u.free b ob q n fun z => he (hx b z), fun b ob q he => u.there b ob q fun z => he (hx b z), u.tups, u.frzs, u.tbls⟩
end
noncomputable def trk (h : Heap) (H : Hp) : List Addr := (List.range h.objs.size).filter fun a => (H a).isSome
noncomputable def hidT (h : Heap) (H : Hp) : Heap := PySem.W.hideAll h (trk h H)
theorem hidT_size (h : Heap) (H : Hp) : (hidT h H).objs.size = h.objs.size := PySem.W.hideAll_size _ _
theorem hidT_get {h : Heap} {H : Hp} {b : Addr} {o : Obj} (e : h.get? b = some o) (n : H b = none) : (hidT h H).get? b = some o :=
  PySem.W.hideAll_get _ e fun hm => by
    have q : (H b).isSome = true := (List.mem_filter.mp hm).2
    rw [n] at q; simp at q
theorem of_hidT {h : Heap} {H : Hp} {b : Addr} {o : Obj} (e : (hidT h H).get? b = some o) : h.get? b = some o ∧ H b = none := by
  have e' : h.get? b = some o := PySem.W.of_hideAll (trk h H) e
  refine ⟨e', ?_⟩
  cases q : H b with
  | none => rfl
  | some x =>
    have hm : b ∈ trk h H := List.mem_filter.mpr ⟨List.mem_range.mpr (Heap.lt_size e'), by simp [q]⟩
    have z : (hidT h H).get? b = none := PySem.W.hideAll_none (trk h H) hm
    rw [z] at e; cases e
noncomputable def allNews (g h : Heap) (L : Addr) : List (Addr × Obj) := (List.range h.objs.size).filterMap fun a => if a = L ∨ (g.get? a).isSome = true then none else (h.get? a).map fun o => (a, o)
noncomputable def rest (g h : Heap) (L d : Addr) : List (Addr × Obj) := (allNews g h L).filter fun p => decide (p.1 ≠ d)
structure Mod (K : PySem.W.Frag) (mg : L2.SV) (base : Heap) : Prop where
  kin : K.In base
  glob : base.Ns mainGlobals mg
  blt : ∃ mb, base.Ns builtinsNs mb ∧ ∀ x : Str, x ≠ "__name__" → mb x = bootBuiltins x
  nolimit : base.NoLimit
structure Cx where
  prog : Program
  w : World
  K : PySem.W.Frag
  mg : Str → Option Value
  base : Heap
  A : Around
  N : List Str
  s₀ : Shared
  H₀ : Hp
  env : Env
  outer : List Env
  stack : List Env
  ex : List Addr
  fn : Str → Bool
  calm : Bool
  pn : List (Addr × Obj)
  xe : Value → Shared → Prop
noncomputable def frs (l : List Env) : List Addr := l.filterMap (·.frame)
noncomputable abbrev Cx.fs (X : Cx) : List Addr := frs X.outer
noncomputable def Vis (sc : Scope) (x : Str) : Prop := sc.names.lookup x = some .local ∨ sc.names.lookup x = some .cell ∨ sc.names.lookup x = some .free
noncomputable def Loc (sc : Scope) (x : Str) : Prop := sc.names.lookup x = some .local ∨ sc.names.lookup x = some .cell
noncomputable def Look (env : Env) (h : Heap) (m : L2.SV) (x : Str) (u : Value) : Prop :=
  (env.kindOf x = some .local ∧ m x = some u) ∨ ((env.kindOf x = some .cell ∨ env.kindOf x = some .free) ∧ ∃ c, env.cells.lookup x = some c ∧ h.IsCell c (some u))
structure Cx.Ok (X : Cx) : Prop where
  mod : Mod X.K X.mg X.base
  kind : X.env.scope.kind = .function
  glob : X.env.globals = mainGlobals
  blt : X.env.builtins = builtinsNs
  above : X.s₀.heap.objs.size ≤ X.env.locals
  inj : ∀ x y c, X.env.cells.lookup x = some c → X.env.cells.lookup y = some c → x = y
  has : ∀ x, (X.env.kindOf x = some .cell ∨ X.env.kindOf x = some .free) → ∃ c, X.env.cells.lookup x = some c
  cab : ∀ x c, X.fn x = true → X.env.cells.lookup x = some c → X.s₀.heap.objs.size ≤ c
  hd : X.calm = true → X.A.handled = none
  frames : X.A.frames = some X.stack
  stk : X.stack = X.outer ∨ (X.stack = X.env :: X.outer ∧ X.env.frame = some X.env.locals)
  exf : ∀ b ∈ X.ex, b ≠ X.env.locals ∧ ∀ x c, X.env.cells.lookup x = some c → c ≠ b
  bs : ∀ b o, X.base.get? b = some o → X.s₀.heap.get? b = some o ∧ X.H₀ b = none
  bsz : X.base.objs.size ≤ X.s₀.heap.objs.size
  noex : ∀ b o, X.base.get? b = some o → b ∉ X.ex
  exfs : ∀ b ∈ X.ex, b ∉ X.fs
  funs : X.s₀.heap.FunFrames X.base X.outer
  frf : ∀ b ∈ X.fs, X.H₀ b = none
structure Inv (X : Cx) (pins : List (Addr × Obj)) (σ : List (Option V)) (H : Hp) (s : Shared) : Prop where
  ok : X.Ok
  os : s.os = X.s₀.os
  bare : AllBare s.gens
  base : Un X.fs X.ex X.H₀ H X.s₀.heap s.heap
  loc : ∃ m, s.heap.Ns X.env.locals m ∧ ∀ (i : Nat) (x : Str) (v : V), X.N[i]? = some x → σ[i]? = some (some v) → Vis X.env.scope x → ∃ u, RelV v u ∧ Look X.env s.heap m x u
  cell : ∀ x c, X.env.cells.lookup x = some c → ∃ v, s.heap.IsCell c v
  free : H X.env.locals = none
  freeC : ∀ x c, X.env.cells.lookup x = some c → H c = none
  pin : ∀ p ∈ X.pn ++ pins, s.heap.get? p.1 = some p.2 ∧ H p.1 = none ∧ p.1 ≠ X.env.locals ∧ p.1 ∉ X.fs ∧ ∀ v, p.2.data ≠ .cell v
  hok : HOk X.prog X.w H s.heap
  len : σ.length = X.N.length
section
variable {X : Cx} {pins : List (Addr × Obj)} {σ : List (Option V)} {H H' : Hp} {s : Shared} {h' : Heap}
theorem Cx.Ok.nofr (ok : X.Ok) {b : Addr} {o : Obj} (e : X.base.get? b = some o) : b ∉ X.fs := fun hb => by
  have := (ok.funs.mem hb).1
  rw [e] at this; cases this
theorem Inv.bs (I : Inv X pins σ H s) : ∀ b o, X.base.get? b = some o → s.heap.get? b = some o ∧ H b = none := fun b o e =>
  ⟨I.base.keep b o (I.ok.bs b o e).1 (I.ok.bs b o e).2 (I.ok.nofr e) (I.ok.noex b o e), I.base.free b o (I.ok.bs b o e).1 (I.ok.bs b o e).2 (I.ok.noex b o e)⟩
theorem Inv.bk (I : Inv X pins σ H s) : ∀ b o, X.base.get? b = some o → s.heap.get? b = some o := fun b o e => (I.bs b o e).1
theorem Inv.mod (I : Inv X pins σ H s) : Mod X.K X.mg X.base := I.ok.mod
theorem Inv.kIn (I : Inv X pins σ H s) : X.K.In s.heap := I.ok.mod.kin.keeps I.bk
theorem Inv.nolimit (I : Inv X pins σ H s) : s.heap.NoLimit := I.ok.mod.nolimit.keeps I.bk
theorem Inv.fr (I : Inv X pins σ H s) : ∃ m, Fr X.base X.env.locals s.heap m :=
  let ⟨m, hn, _⟩ := I.loc
  ⟨m, hn, I.bk, Nat.le_trans I.ok.bsz I.ok.above⟩
theorem Inv.lt (I : Inv X pins σ H s) : X.env.locals < s.heap.objs.size := let ⟨_, hn, _⟩ := I.loc; hn.lt
theorem Inv.sz (I : Inv X pins σ H s) : X.s₀.heap.objs.size ≤ s.heap.objs.size := Nat.le_trans I.ok.above (Nat.le_of_lt I.lt)
theorem Inv.nofs (I : Inv X pins σ H s) {a : Addr} (h : s.heap.objs.size ≤ a) : a ∉ X.fs := fun hb => by
  obtain ⟨_, o, ho, _⟩ := I.ok.funs.mem hb
  exact absurd (Nat.lt_of_lt_of_le (Heap.lt_size ho) (Nat.le_trans I.sz h)) (Nat.lt_irrefl _)
theorem Inv.cne (I : Inv X pins σ H s) : ∀ x c, X.env.cells.lookup x = some c → c ≠ X.env.locals := fun x c e z => by
  obtain ⟨v, o, ho, hd⟩ := I.cell x c e
  obtain ⟨m, ⟨o', es, ep, ho', hd', _⟩, _⟩ := I.loc
  rw [z, ho'] at ho; cases ho; rw [hd'] at hd; cases hd
theorem Inv.funs (I : Inv X pins σ H s) : s.heap.FunFrames X.base X.outer := by
  have all : ∀ (l : List Env), (∀ b ∈ frs l, b ∈ X.fs) → X.s₀.heap.FunFrames X.base l → s.heap.FunFrames X.base l := by
    intro l
    induction l with
    | nil => intro ψ ψ; trivial
    | cons env r ih =>
      intro hs hl
      obtain ⟨hk, ⟨L, o, hf, hn, ho, hd⟩, hr⟩ := hl
      have hL : L ∈ X.fs := hs L (by unfold frs; rw [List.filterMap_cons, hf]; exact List.mem_cons_self)
      obtain ⟨sl, e⟩ := I.base.slot L o ho (I.ok.frf L hL) hL fun z => I.ok.exfs L z hL
      exact ⟨hk, ⟨L, _, hf, hn, e, hd⟩, ih (fun b hb => hs b (by unfold frs; rw [List.filterMap_cons, hf]; exact List.mem_cons_of_mem _ hb)) hr⟩
  exact all X.outer (fun ψ hb => hb) I.ok.funs
theorem Inv.stack (I : Inv X pins σ H s) : s.heap.FunFrames X.base X.stack := by
  rcases I.ok.stk with e | ⟨e, hf⟩
  · rw [e]; exact I.funs
  · rw [e]
    obtain ⟨m, hn, _⟩ := I.loc
    refine .cons (by rw [I.ok.kind]; decide) hf hn ?_ I.funs
    exact Heap.get?_none_of_le (Nat.le_trans I.ok.bsz I.ok.above)
theorem Inv.stkSub (I : Inv X pins σ H s) : ∀ b ∈ frs X.stack, b ∈ X.env.locals :: X.fs := fun b hb => by
  rcases I.ok.stk with e | ⟨e, hf⟩
  · rw [e] at hb; exact List.mem_cons_of_mem _ hb
  · rw [e] at hb
    unfold frs at hb
    rw [List.filterMap_cons, hf] at hb
    exact hb
theorem Inv.stkFree (I : Inv X pins σ H s) : ∀ b ∈ frs X.stack, H b = none := fun b hb => by
  rcases List.mem_cons.mp (I.stkSub b hb) with e | hb
  · rw [e]; exact I.free
  · obtain ⟨_, o, ho, _⟩ := I.ok.funs.mem hb
    exact I.base.free b o ho (I.ok.frf b hb) fun z => I.ok.exfs b z hb
theorem Inv.step {g' : Array GenState} {t' : Nat} {d' : Drawn} {ch : List Addr} (I : Inv X pins σ H s)
    (hch : ∀ b ∈ ch, (b ∈ X.ex ∨ X.s₀.heap.objs.size ≤ b) ∧ b ≠ X.env.locals ∧ (∀ x c, X.env.cells.lookup x = some c → c ≠ b) ∧ ∀ p ∈ X.pn ++ pins, p.1 ≠ b)
    (keep : ∀ b o, b ≠ X.env.locals → b ∉ X.fs → b ∉ ch → s.heap.get? b = some o → H b = none → h'.get? b = some o)
    (slot : ∀ b o, b ≠ X.env.locals → b ∈ X.fs → b ∉ ch → s.heap.get? b = some o → H b = none → ∃ sl, h'.get? b = some { o with slots := sl }) (free : ∀ b o, b ∉ ch → s.heap.get? b = some o → H b = none → H' b = none)
    (there : ∀ b o, b ∉ ch → s.heap.get? b = some o → ∃ o', h'.get? b = some o')
    (tups : ∀ b xs, H b = some (.tup xs) → H' b = some (.tup xs)) (frzs : ∀ b o u, H b = some (.frz o u) → H' b = some (.frz o u)) (tbls : ∀ b ps, H b = some (.tbl ps) → ∃ more, H' b = some (.tbl (ps ++ more)))
    (ns : ∀ m, s.heap.Ns X.env.locals m → h'.Ns X.env.locals m) (hok : HOk X.prog X.w H' h') (hg : AllBare g') :
    Inv X pins σ H' { s with heap := h', gens := g', drawn := d', toks := t' } := by
  have neL : ∀ b o, X.s₀.heap.get? b = some o → b ≠ X.env.locals := fun b o e => Nat.ne_of_lt (Nat.lt_of_lt_of_le (Heap.lt_size e) I.ok.above)
  have neC : ∀ b o, X.s₀.heap.get? b = some o → b ∉ X.ex → b ∉ ch := fun b o e hx hb => by
    rcases (hch b hb).1 with z | z
    · exact hx z
    · exact absurd (Nat.lt_of_lt_of_le (Heap.lt_size e) z) (Nat.lt_irrefl _)
  have cellK : ∀ x c, X.env.cells.lookup x = some c → ∀ v, s.heap.IsCell c v → h'.IsCell c v := fun x c e v ⟨o, ho, hd⟩ => by
    have nch : c ∉ ch := fun z => (hch c z).2.2.1 x c e rfl
    by_cases hc : c ∈ X.fs
    · obtain ⟨sl, q⟩ := slot c o (I.cne x c e) hc nch ho (I.freeC x c e)
      exact ⟨_, q, hd⟩
    · exact ⟨o, keep c o (I.cne x c e) hc nch ho (I.freeC x c e), hd⟩
  refine ⟨I.ok, I.os, hg, ⟨fun b o e n hb hx => ?_, fun b o e n hb hx => ?_, fun b o e n hx => ?_, fun b o e hx => ?_, fun b xs e => tups b xs (I.base.tups b xs e), fun b o xs e => frzs b o xs (I.base.frzs b o xs e), fun b ps e => ?_⟩, ?_, fun x c e => ?_, ?_, fun x c e => ?_, fun p hp => ?_, hok, I.len⟩
  · exact keep b o (neL b o e) hb (neC b o e hx) (I.base.keep b o e n hb hx) (I.base.free b o e n hx)
  · obtain ⟨sl, e1⟩ := I.base.slot b o e n hb hx
    obtain ⟨sl', e2⟩ := slot b _ (neL b o e) hb (neC b o e hx) e1 (I.base.free b o e n hx)
    exact ⟨sl', e2⟩
  · obtain ⟨o', e1⟩ := I.base.there b o e hx
    exact free b o' (neC b o e hx) e1 (I.base.free b o e n hx)
  · obtain ⟨o', e1⟩ := I.base.there b o e hx
    exact there b o' (neC b o e hx) e1
  · obtain ⟨m1, e1⟩ := I.base.tbls b ps e
    obtain ⟨m2, e2⟩ := tbls b _ e1
    exact ⟨m1 ++ m2, by rw [e2, Array.append_assoc]⟩
  · obtain ⟨m, hn, hl⟩ := I.loc
    refine ⟨m, ns m hn, fun i x v e1 e2 e3 => ?_⟩
    obtain ⟨u, r, l⟩ := hl i x v e1 e2 e3
    refine ⟨u, r, ?_⟩
    rcases l with l | ⟨k, c, e, z⟩
    · exact .inl l
    · exact .inr ⟨k, c, e, cellK x c e _ z⟩
  · obtain ⟨v, z⟩ := I.cell x c e
    exact ⟨v, cellK x c e v z⟩
  · obtain ⟨m, ⟨o, _, _, ho, _⟩, _⟩ := I.loc
    exact free _ o (fun z => (hch _ z).2.1 rfl) ho I.free
  · obtain ⟨v, o, ho, hd⟩ := I.cell x c e
    exact free c o (fun z => (hch c z).2.2.1 x c e rfl) ho (I.freeC x c e)
  · obtain ⟨e, n, ne, nf, d⟩ := I.pin p hp
    have nch : p.1 ∉ ch := fun z => (hch p.1 z).2.2.2 p hp rfl
    exact ⟨keep p.1 p.2 ne nf nch e n, free p.1 p.2 nch e n, ne, nf, d⟩
theorem Inv.un {t' : Nat} (I : Inv X pins σ H s) (u : Un X.fs [] H H' s.heap h') (hok : HOk X.prog X.w H' h') : Inv X pins σ H' { s with heap := h', toks := t' } := by
  obtain ⟨m, ⟨o, es, ep, ho, r⟩, _⟩ := id I.loc
  obtain ⟨sl, hL⟩ := u.any ho I.free (by simp)
  exact I.step (g' := s.gens) (d' := s.drawn) (ch := []) (fun ψ z => nomatch z) (fun b o ψ hb ψ e n => u.keep b o e n hb (by simp)) (fun b o ψ hb ψ e n => u.slot b o e n hb (by simp)) (fun b o ψ e n => u.free b o e n (by simp)) (fun b o ψ e => u.there b o e (by simp)) u.tups u.frzs u.tbls (fun m' hm => by
    obtain ⟨o', es', ep', ho', r'⟩ := hm
    rw [ho] at ho'; cases ho'
    exact ⟨_, es', ep', hL, r'⟩) hok I.bare
theorem Inv.call {g' : Array GenState} {t' : Nat} {d' : Drawn} {ch : List Addr} (I : Inv X pins σ H s) (u : Un (frs X.stack) ch H H' s.heap h') (hok : HOk X.prog X.w H' h') (hg : AllBare g')
    (hch : ∀ b ∈ ch, (b ∈ X.ex ∨ X.s₀.heap.objs.size ≤ b) ∧ b ≠ X.env.locals ∧ (∀ x c, X.env.cells.lookup x = some c → c ≠ b) ∧ ∀ p ∈ X.pn ++ pins, p.1 ≠ b) :
    Inv X pins σ H' { s with heap := h', gens := g', drawn := d', toks := t' } := by
  obtain ⟨m, ⟨o, es, ep, ho, r⟩, _⟩ := id I.loc
  obtain ⟨sl, hL⟩ := u.any ho I.free fun z => (hch _ z).2.1 rfl
  exact I.step (ch := ch) hch (fun b o hL hb hc e n => u.keep b o e n (fun z => (List.mem_cons.mp (I.stkSub b z)).elim hL hb) hc) (fun b o ψ ψ hc e n => u.any e n hc) (fun b o hc e n => u.free b o e n hc) (fun b o hc e => u.there b o e hc) u.tups u.frzs u.tbls (fun m' hm => by
    obtain ⟨o', es', ep', ho', r'⟩ := hm
    rw [ho] at ho'; cases ho'
    exact ⟨_, es', ep', hL, r'⟩) hok hg
theorem Inv.turned {t' : Nat} {it : Addr} (I : Inv X pins σ H s) (k : ∀ b o, b ≠ it → s.heap.get? b = some o → h'.get? b = some o) (hn : H it = none) (hL : it ≠ X.env.locals)
    (h1 : it ∈ X.ex ∨ X.s₀.heap.objs.size ≤ it) (h2 : ∀ x c, X.env.cells.lookup x = some c → c ≠ it) (h3 : ∀ p ∈ X.pn ++ pins, p.1 ≠ it) : Inv X pins σ H { s with heap := h', toks := t' } := by
  have nit : ∀ b u, H b = some u → b ≠ it := fun b u e z => by rw [z, hn] at e; cases e
  refine I.step (g' := s.gens) (d' := s.drawn) (ch := [it]) (fun b hb => ?_) (fun b o ψ ψ hc e ψ => k b o (fun z => hc (by simp [z])) e) (fun b o ψ ψ hc e ψ => ⟨o.slots, k b o (fun z => hc (by simp [z])) e⟩) (fun ψ ψ ψ ψ n => n)
    (fun b o hc e => ⟨o, k b o (fun z => hc (by simp [z])) e⟩) (fun ψ ψ e => e) (fun ψ ψ ψ e => e) (fun b ps e => ⟨#[], by rw [e]; simp⟩) (fun m hm => ?_) (fun b u e => ?_) I.bare
  · have e : b = it := by simpa using hb
    subst e
    exact ⟨h1, hL, h2, h3⟩
  · obtain ⟨o, es, ep, ho, r⟩ := hm
    exact ⟨o, es, ep, k _ o (Ne.symm hL) ho, r⟩
  · refine (I.hok b u e).stay (fun c v hc q => k c v ?_ q) (fun ψ q => q) fun ψ ψ q => q
    rcases hc with z | z
    · rw [z]; exact nit b u e
    · exact nit c _ z
theorem Inv.tok (I : Inv X pins σ H s) (t : Nat) : Inv X pins σ H { s with toks := t } := I.un (h' := s.heap) (t' := t) Un.refl I.hok
theorem Inv.kept {t' : Nat} (I : Inv X pins σ H s) (k : ∀ b u, s.heap.get? b = some u → h'.get? b = some u) : Inv X pins σ H { s with heap := h', toks := t' } := I.un (Un.kept k) (I.hok.kept k)
theorem Inv.laid {a : Addr} {o : HO} {t' : Nat} (I : Inv X pins σ H s) (k : ∀ b u, s.heap.get? b = some u → h'.get? b = some u) (hp : s.heap.objs.size ≤ a) (new : ObjOk X.prog X.w (upd H a o) h' a o) :
    Inv X pins σ (upd H a o) { s with heap := h', toks := t' } := I.un (Un.laid k hp (I.hok.fresh hp)) (I.hok.laid k hp new)
theorem Inv.write {x e : Addr} {o : HO} {t' : Nat} (I : Inv X pins σ H s) (mu : Mut (H x)) (he : e = x ∨ H e = some (.own x)) (k : ∀ b u, b ≠ e → s.heap.get? b = some u → h'.get? b = some u) (heo : ∃ u, h'.get? e = some u)
    (new : ObjOk X.prog X.w (upd H x o) h' x o) : Inv X pins σ (upd H x o) { s with heap := h', toks := t' } := I.un (Un.write mu he k heo) (I.hok.write mu he k heo new)
theorem Inv.pins_of {pins' : List (Addr × Obj)} (I : Inv X pins σ H s) (h : ∀ p ∈ pins', s.heap.get? p.1 = some p.2 ∧ H p.1 = none ∧ p.1 ≠ X.env.locals ∧ p.1 ∉ X.fs ∧ ∀ v, p.2.data ≠ .cell v) : Inv X pins' σ H s :=
  ⟨I.ok, I.os, I.bare, I.base, I.loc, I.cell, I.free, I.freeC, fun p hp => (List.mem_append.mp hp).elim (fun z => I.pin p (List.mem_append_left _ z)) (h p), I.hok, I.len⟩
theorem nodup_ix {N : List Str} (hN : N.Nodup) {i j : Nat} {x : Str} (a : N[i]? = some x) (b : N[j]? = some x) : i = j := by
  obtain ⟨h1, e1⟩ := List.getElem?_eq_some_iff.mp a
  obtain ⟨h2, e2⟩ := List.getElem?_eq_some_iff.mp b
  exact (List.getElem_inj hN).mp (e1.trans e2.symm)
theorem store_ok2 {M : Model} {A : Around} {E : L2.VSP} {i : Nat} {x : Str} {v : V} {u : Value} {Q : Unit → Shared → Prop} (I : Inv X pins σ H s) (hN : X.N.Nodup) (hi : X.N[i]? = some x) (hx : Loc X.env.scope x) (r : RelV v u)
    (h : ∀ s', Inv X pins (σ.set i (some v)) H s' → (∃ a, Heap.SameBut a s.heap s'.heap ∧ (a = X.env.locals ∨ X.env.cells.lookup x = some a)) → Q () s') (hf : X.fn x = true ∨ X.env.scope.names.lookup x = some .local := by first | exact .inl rfl | exact .inr rfl | assumption) : wpAny M A (storeName X.env x u) Q E s := by
  obtain ⟨m, hn, hl⟩ := id I.loc
  have hcls : (X.env.scope.kind == .class || (X.env.scope.kind == .module && X.env.locals != X.env.globals)) = false := by rw [I.ok.kind]; rfl
  have hiσ : i < σ.length := by rw [I.len]; exact (List.getElem?_eq_some_iff.mp hi).1
  have cne := I.cne
  have tracked : ∀ {a : Addr} {h' : Heap}, (∃ o, s.heap.get? a = some o ∧ H a = none) → Heap.SameBut a s.heap h' → HOk X.prog X.w H h' := fun {a h'} ha hs b ob e => by
    obtain ⟨_, _, hfree⟩ := ha
    refine (I.hok b ob e).stay (fun c w' hc q => (hs.2 c ?_).trans q) (fun ψ q => q) fun ψ ψ q => q
    rintro rfl
    rcases hc with rfl | hc
    · rw [hfree] at e; cases e
    · rw [hfree] at hc; cases hc
  rcases hx with hk | hk
  · refine wpAny_storeName_local hk hn (fun h' hn' hs => ?_) hcls
    obtain ⟨oL, _, _, hoL, _⟩ := id hn
    refine h _ ⟨I.ok, I.os, I.bare, ⟨fun b o e n hb hx => ?_, fun b o e n hb hx => ?_, I.base.free, fun b o e hx => ?_, I.base.tups, I.base.frzs, I.base.tbls⟩, ⟨_, hn', fun j y v' e1 e2 e3 => ?_⟩, fun y c e => ?_, I.free, I.freeC, fun p hp => ?_, tracked ⟨oL, hoL, I.free⟩ hs, by simpa using I.len⟩ ⟨_, hs, .inl rfl⟩
    · exact (hs.2 b (Nat.ne_of_lt (Nat.lt_of_lt_of_le (Heap.lt_size e) I.ok.above))).trans (I.base.keep b o e n hb hx)
    · obtain ⟨sl, e1⟩ := I.base.slot b o e n hb hx
      exact ⟨sl, (hs.2 b (Nat.ne_of_lt (Nat.lt_of_lt_of_le (Heap.lt_size e) I.ok.above))).trans e1⟩
    · obtain ⟨o', e1⟩ := I.base.there b o e hx
      exact ⟨o', (hs.2 b (Nat.ne_of_lt (Nat.lt_of_lt_of_le (Heap.lt_size e) I.ok.above))).trans e1⟩
    · by_cases hj : j = i
      · subst hj
        rw [hi] at e1; cases e1
        rw [List.getElem?_set_self hiσ] at e2
        cases e2
        exact ⟨u, r, .inl ⟨hk, by simp⟩⟩
      · rw [List.getElem?_set_ne (Ne.symm hj)] at e2
        obtain ⟨u', r', q⟩ := hl j y v' e1 e2 e3
        refine ⟨u', r', ?_⟩
        rcases q with ⟨k, e⟩ | ⟨k, c, e, z⟩
        · refine .inl ⟨k, ?_⟩
          have : y ≠ x := fun e => hj (nodup_ix hN e1 (e ▸ hi))
          simp [this, e]
        · exact .inr ⟨k, c, e, z.sameBut hs (cne y c e)⟩
    · obtain ⟨w', z⟩ := I.cell y c e
      exact ⟨w', z.sameBut hs (cne y c e)⟩
    · obtain ⟨e, n, ne, nf, d⟩ := I.pin p hp
      exact ⟨(hs.2 p.1 ne).trans e, n, ne, nf, d⟩
  · have hfn : X.fn x = true := by
      rcases hf with z | z
      · exact z
      · rw [z] at hk; cases hk
    obtain ⟨c, hc⟩ := I.ok.has x (.inl hk)
    obtain ⟨w', z⟩ := I.cell x c hc
    refine wpAny_storeName_cell I.ok.kind hk hc z (fun h' hc' hs => ?_)
    obtain ⟨oc, hoc, hocd⟩ := id z
    refine h { s with heap := h' } ⟨I.ok, I.os, I.bare, ⟨fun b o e n hb hx => ?_, fun b o e n hb hx => ?_, I.base.free, fun b o e hx => ?_, I.base.tups, I.base.frzs, I.base.tbls⟩, ⟨m, hn.sameBut hs (Ne.symm (cne x c hc)), fun j y v' e1 e2 e3 => ?_⟩, fun y c' e => ?_, I.free, I.freeC, fun p hp => ?_, tracked ⟨oc, hoc, I.freeC x c hc⟩ hs, by simpa using I.len⟩ ⟨c, hs, .inr hc⟩
    · exact (hs.2 b (Nat.ne_of_lt (Nat.lt_of_lt_of_le (Heap.lt_size e) (I.ok.cab x c hfn hc)))).trans (I.base.keep b o e n hb hx)
    · obtain ⟨sl, e1⟩ := I.base.slot b o e n hb hx
      exact ⟨sl, (hs.2 b (Nat.ne_of_lt (Nat.lt_of_lt_of_le (Heap.lt_size e) (I.ok.cab x c hfn hc)))).trans e1⟩
    · obtain ⟨o', e1⟩ := I.base.there b o e hx
      exact ⟨o', (hs.2 b (Nat.ne_of_lt (Nat.lt_of_lt_of_le (Heap.lt_size e) (I.ok.cab x c hfn hc)))).trans e1⟩
    · by_cases hj : j = i
      · subst hj
        rw [hi] at e1; cases e1
        rw [List.getElem?_set_self hiσ] at e2
        cases e2
        exact ⟨u, r, .inr ⟨.inl hk, c, hc, hc'⟩⟩
      · rw [List.getElem?_set_ne (Ne.symm hj)] at e2
        obtain ⟨u', r', q⟩ := hl j y v' e1 e2 e3
        refine ⟨u', r', ?_⟩
        rcases q with q | ⟨k, c', e, z'⟩
        · exact .inl q
        · refine .inr ⟨k, c', e, z'.sameBut hs ?_⟩
          rintro rfl
          exact hj (nodup_ix hN e1 (I.ok.inj _ _ _ e hc ▸ hi))
    · by_cases hcc : c' = c
      · subst hcc; exact ⟨_, hc'⟩
      · obtain ⟨w2, z2⟩ := I.cell y c' e
        exact ⟨w2, z2.sameBut hs hcc⟩
    · obtain ⟨e, n, ne, nf, d⟩ := I.pin p hp
      refine ⟨(hs.2 p.1 ?_).trans e, n, ne, nf, d⟩
      intro q
      rw [q, hoc] at e
      have q' : oc = p.2 := Option.some.inj e
      exact d w' (by rw [← q']; exact hocd)
theorem store_ok {M : Model} {A : Around} {E : L2.VSP} {i : Nat} {x : Str} {v : V} {u : Value} {Q : Unit → Shared → Prop} (I : Inv X pins σ H s) (hN : X.N.Nodup) (hi : X.N[i]? = some x) (hx : Loc X.env.scope x) (r : RelV v u)
    (h : ∀ s', Inv X pins (σ.set i (some v)) H s' → Q () s') (hf : X.fn x = true ∨ X.env.scope.names.lookup x = some .local := by first | exact .inl rfl | exact .inr rfl | assumption) : wpAny M A (storeName X.env x u) Q E s :=
  store_ok2 I hN hi hx r (fun s' I' ψ => h s' I') hf
theorem Inv.call' {s' : Shared} {ch : List Addr} (I : Inv X pins σ H s) (ho : s'.os = s.os) (u : Un (frs X.stack) ch H H' s.heap s'.heap) (hok : HOk X.prog X.w H' s'.heap) (hg : AllBare s'.gens)
    (hch : ∀ b ∈ ch, (b ∈ X.ex ∨ X.s₀.heap.objs.size ≤ b) ∧ b ≠ X.env.locals ∧ (∀ x c, X.env.cells.lookup x = some c → c ≠ b) ∧ ∀ p ∈ X.pn ++ pins, p.1 ≠ b) : Inv X pins σ H' s' := by
  obtain ⟨h', g', d', t', o'⟩ := s'
  have e : o' = s.os := ho
  subst e
  exact I.call (g' := g') (t' := t') (d' := d') u hok hg hch
end
noncomputable abbrev XK := Value → Option Addr → Hp → Prop
noncomputable abbrev St := List (Option V)
noncomputable abbrev VK := V → Hp → Prop
noncomputable abbrev TE := St → Hp → VK → Prop
noncomputable abbrev TT := St → Hp → (Bool → Hp → Prop) → Prop
noncomputable abbrev TA := St → Hp → (List V → Hp → Prop) → Prop
structure Ends where
  nx : St → Hp → Prop
  rt : VK
  bk : St → Hp → Prop := fun ψ ψ => False
  ct : St → Hp → Prop := fun ψ ψ => False
noncomputable abbrev TS := Ends → St → Hp → Prop
noncomputable def EP (X : Cx) (pins : List (Addr × Obj)) (σ : St) (Q : VK) (u : Value) (s' : Shared) : Prop := ∃ v H', Inv X pins σ H' s' ∧ RelV v u ∧ Q v H'
noncomputable def TP (X : Cx) (pins : List (Addr × Obj)) (σ : St) (Q : Bool → Hp → Prop) (b : Bool) (s' : Shared) : Prop := ∃ H', Inv X pins σ H' s' ∧ Q b H'
noncomputable def AP (X : Cx) (pins : List (Addr × Obj)) (σ : St) (Q : List V → Hp → Prop) (us : List Value) (s' : Shared) : Prop := ∃ vs H', Inv X pins σ H' s' ∧ Vals vs us ∧ Q vs H'
noncomputable def SP (X : Cx) (pins : List (Addr × Obj)) (D : Ends) (f : Flow) (s' : Shared) : Prop :=
  match f with
  | .next => ∃ σ' H', Inv X pins σ' H' s' ∧ D.nx σ' H'
  | .brk => ∃ σ' H', Inv X pins σ' H' s' ∧ D.bk σ' H'
  | .cont => ∃ σ' H', Inv X pins σ' H' s' ∧ D.ct σ' H'
  | .ret u => ∃ v σ' H', Inv X pins σ' H' s' ∧ RelV v u ∧ D.rt v H'
noncomputable def PE (X : Cx) (e : Expr) (t : TE) : Prop :=
  ∀ (pins : List (Addr × Obj)) (s : Shared) (σ : St) (H : Hp) (Q : VK), Inv X pins σ H s → t σ H Q → wpAny (model X.prog X.w) X.A (eval e X.env) (EP X pins σ Q) X.xe s
noncomputable def PT (X : Cx) (e : Expr) (t : TT) : Prop :=
  ∀ (pins : List (Addr × Obj)) (s : Shared) (σ : St) (H : Hp) (Q : Bool → Hp → Prop), Inv X pins σ H s → t σ H Q → wpAny (model X.prog X.w) X.A (isTrue e X.env (eval e X.env)) (TP X pins σ Q) X.xe s
noncomputable def PW (X : Cx) (e : Expr) (t : TT) : Prop :=
  ∀ (whole : Sem Value) (pins : List (Addr × Obj)) (s : Shared) (σ : St) (H : Hp) (Q : Bool → Hp → Prop), Inv X pins σ H s → t σ H Q → wpAny (model X.prog X.w) X.A (isTrue e X.env whole) (TP X pins σ Q) X.xe s
theorem PW.pt {X : Cx} {e : Expr} {t : TT} (h : PW X e t) : PT X e t := h _
noncomputable def PA (X : Cx) (es : List Expr) (t : TA) : Prop :=
  ∀ (pos : Pos) (pins : List (Addr × Obj)) (s : Shared) (σ : St) (H : Hp) (Q : List V → Hp → Prop), Inv X pins σ H s → t σ H Q → wpAny (model X.prog X.w) X.A (spliced (backTo pos (starEach es X.env))) (AP X pins σ Q) X.xe s
noncomputable def PS (X : Cx) (st : Stmt) (t : TS) : Prop :=
  ∀ (pins : List (Addr × Obj)) (s : Shared) (σ : St) (H : Hp) (D : Ends), Inv X pins σ H s → t D σ H → wpAny (model X.prog X.w) X.A (exec st X.env) (SP X pins D) X.xe s
noncomputable def PSs (X : Cx) (st : List Stmt) (t : TS) : Prop :=
  ∀ (pins : List (Addr × Obj)) (s : Shared) (σ : St) (H : Hp) (D : Ends), Inv X pins σ H s → t D σ H → wpAny (model X.prog X.w) X.A (execs st X.env) (SP X pins D) X.xe s
theorem thn {α : Type} {t : Sem α} {Q Q' : α → Shared → Prop} {M : Model} {A : Around} {E : L2.VSP} {s : Shared} (h : wpAny M A t Q E s) (hQ : ∀ a s, Q a s → Q' a s) : wpAny M A t Q' E s := wpAny_mono h hQ fun ψ ψ x => x
section
variable {X : Cx}
theorem bin {a b : Expr} {ta tb : TE} (ha : PE X a ta) (hb : PE X b tb) {pins : List (Addr × Obj)} {s : Shared} {σ : St} {H : Hp} {R : V → V → Hp → Prop} (I : Inv X pins σ H s) (h : ta σ H fun x H1 => tb σ H1 fun y H2 => R x y H2)
    {α : Type} {Q : α → Shared → Prop} {f : Value → Value → Sem α}
    (hf : ∀ v u s2 x y H2, Inv X pins σ H2 s2 → RelV x v → RelV y u → R x y H2 → wpAny (model X.prog X.w) X.A (f v u) Q X.xe s2) :
    wpAny (model X.prog X.w) X.A (eval a X.env) (fun v s₁ => wpAny (model X.prog X.w) X.A (eval b X.env) (fun u s₂ => wpAny (model X.prog X.w) X.A (f v u) Q X.xe s₂) X.xe s₁) X.xe s := by
  refine thn (ha pins s σ H _ I h) fun v s1 ⟨x, H1, I1, r1, q1⟩ => ?_
  refine thn (hb pins s1 σ H1 _ I1 q1) fun u s2 ⟨y, H2, I2, r2, q2⟩ => ?_
  exact hf v u s2 x y H2 I2 r1 r2 q2
noncomputable def tVar (i : Nat) : TE := fun σ H Q => ∃ v, σ[i]? = some (some v) ∧ Q v H
noncomputable def tC (v : V) : TE := fun ψ H Q => Q v H
theorem pe_var {i : Nat} {x : Str} {pos : Pos} (hN : X.N[i]? = some x) (hv : Vis X.env.scope x) (hd : (x == ("__debug__" : Str)) = false := by decide) (hcd : (x == ("__classdict__" : Str)) = false := by decide) : PE X (.Name x pos) (tVar i) := by
  intro pins s σ H Q I h
  obtain ⟨v, e, h⟩ := h
  obtain ⟨m, hn, hl⟩ := I.loc
  obtain ⟨u, r, l⟩ := hl i x v hN e hv
  have fin : EP X pins σ Q u s := ⟨v, H, I, r, h⟩
  rcases l with ⟨hk, hm⟩ | ⟨hk, c, hc, hcell⟩
  · exact wpAny_Name (wpAny_loadName_local I.ok.kind hk hn hm fin) hd
  · rcases hk with hk | hk
    · exact wpAny_Name (wpAny_loadName_cell I.ok.kind hk hc hcell fin) hd
    · exact wpAny_Name (wpAny_loadName_free I.ok.kind hk hc hcell fin hcd) hd
theorem pe_int {i j pos} : PE X (.Constant (.int i) j pos) (tC (.int i)) := fun ψ ψ ψ H ψ I h => wpAny_Constant_int ⟨.int i, H, I.tok _, ⟨_, rfl⟩, h⟩
theorem pe_bl {b j pos} : PE X (.Constant (.bool b) j pos) (tC (.bl b)) := fun ψ ψ ψ H ψ I h => Constant_bool ⟨.bl b, H, I, rfl, h⟩
theorem pe_non {j pos} : PE X (.Constant .none j pos) (tC .non) := fun ψ ψ ψ H ψ I h => Constant_none ⟨.non, H, I, rfl, h⟩
theorem pe_str {x j pos} : PE X (.Constant (.str x) j pos) (tC (.str x)) := fun ψ ψ ψ H ψ I h => Calls.Constant_str ⟨.str x, H, I.tok _, ⟨_, rfl⟩, h⟩
noncomputable def Gl (X : Cx) (x : Str) : Prop := X.env.kindOf x = some .globalImplicit
theorem ld_glob {E : L2.VSP} {pins : List (Addr × Obj)} {s : Shared} {σ : St} {H : Hp} {x : Str} {u : Value} {pos : Pos} {Q : L2.VSP} (I : Inv X pins σ H s) (hg : Gl X x) (hm : X.mg x = some u) (h : Q u s)
    (hd : (x == ("__debug__" : Str)) = false := by decide) : wpAny (model X.prog X.w) X.A (eval (.Name x pos) X.env) Q E s :=
  Calls.Name_function_global I.ok.kind hg (Calls.loadGlobal_global (by rw [I.ok.glob]; exact I.mod.glob.keeps I.bk) hm h) hd
theorem ld_blt {E : L2.VSP} {pins : List (Addr × Obj)} {s : Shared} {σ : St} {H : Hp} {x : Str} {u : Value} {pos : Pos} {Q : L2.VSP} (I : Inv X pins σ H s) (hg : Gl X x) (hm : X.mg x = none) (hv : bootBuiltins x = some u) (h : Q u s)
    (hn : x ≠ "__name__" := by decide) (hd : (x == ("__debug__" : Str)) = false := by decide) : wpAny (model X.prog X.w) X.A (eval (.Name x pos) X.env) Q E s := by
  obtain ⟨mb, h1, h2⟩ := I.mod.blt
  exact Calls.Name_function_global I.ok.kind hg (Calls.loadGlobal_builtin (by rw [I.ok.glob]; exact I.mod.glob.keeps I.bk) hm (by rw [I.ok.blt]; exact h1.keeps I.bk) ((h2 x hn).trans hv) h) hd
theorem pe_bltn {x : Str} {v : V} {u : Value} {pos : Pos} (hg : Gl X x) (hm : X.mg x = none) (hv : bootBuiltins x = some u) (r : RelV v u) (hn : x ≠ "__name__" := by decide) (hd : (x == ("__debug__" : Str)) = false := by decide) : PE X (.Name x pos) (tC v) :=
  fun ψ ψ ψ H ψ I h => ld_blt I hg hm hv ⟨v, H, I, r, h⟩ hn hd
variable {a b : Expr} {ta tb : TE} {pos : Pos}
noncomputable def PC (X : Cx) (op : CmpOp) (a b : Expr) (t : TE) : Prop :=
  ∀ (pins : List (Addr × Obj)) (s : Shared) (σ : St) (H : Hp) (Q : VK), Inv X pins σ H s → t σ H Q →
    wpAny (model X.prog X.w) X.A (eval a X.env) (fun v s₁ => wpAny (model X.prog X.w) X.A (eval b X.env) (fun u s₂ => wpAny (model X.prog X.w) X.A (compareOp op v u) (EP X pins σ Q) X.xe s₂) X.xe s₁) X.xe s
theorem nobehind (b : Expr) {op : CmpOp} (h : op ≠ .In) (h2 : op ≠ .NotIn) : behindInMarks op b = false := by
  have e1 : (op == CmpOp.In) = false := by cases op <;> first | rfl | exact absurd rfl h
  have e2 : (op == CmpOp.NotIn) = false := by cases op <;> first | rfl | exact absurd rfl h2
  cases b <;> simp [behindInMarks, e1, e2]
noncomputable def tB (t : TE) : TT := fun σ H Q => t σ H fun x H1 => ∃ c, x = .bl c ∧ Q c H1
theorem pt_cmp {op : CmpOp} {t : TE} (h : PC X op a b t) (h1 : behindInMarks op b = false := by first | exact nobehind _ (by decide) (by decide) | rfl) : PT X (.Compare a [op] [b] pos) (tB t) := by
  intro pins s σ H Q I hw
  refine wpAny_isTrue_Compare1 (thn (h pins s σ H _ I hw) fun v s1 h1 => thn h1 fun u s2 h2 => thn h2 fun c s3 ⟨x, H1, I1, r1, q1⟩ => ?_) h1
  obtain ⟨d, rfl, q⟩ := q1
  cases r1
  exact wpAny_truthy_bool ⟨H1, I1, q⟩
theorem pt_val {e : Expr} {t : TE} (h : PE X e t) (he : ∀ whole, isTrue e X.env whole = (do let v ← whole; standAt e.pos; holding [v] (truthy v)) := by intro ψ; rfl) : PT X e (tB t) := by
  intro pins s σ H Q I hw
  refine isTrue_plain (thn (h pins s σ H _ I hw) fun v s1 ⟨x, H1, I1, r1, q1⟩ => ?_) (he _)
  obtain ⟨d, rfl, q⟩ := q1
  cases r1
  exact wpAny_truthy_bool ⟨H1, I1, q⟩
variable {tA tB' : TT} {rest : List Expr}
noncomputable def tAnd (t u : TT) : TT := fun σ H Q => t σ H fun c H1 => if c = true then u σ H1 Q else Q false H1
noncomputable def tOr (t u : TT) : TT := fun σ H Q => t σ H fun c H1 => if c = true then Q true H1 else u σ H1 Q
noncomputable def tNot (t : TT) : TT := fun σ H Q => t σ H fun c H1 => Q (!c) H1
theorem pw_and1 (ha : PT X a tA) : PW X (.BoolOp .And [a] pos) tA := by
  intro wh pins s σ H Q I h
  refine isTrue_and (thn (ha pins s σ H Q I h) fun c s1 e => ?_)
  cases c with
  | true => exact isTrue_and_nil e
  | false => exact e
theorem pw_or1 (ha : PT X a tA) : PW X (.BoolOp .Or [a] pos) tA := by
  intro wh pins s σ H Q I h
  refine isTrue_or (thn (ha pins s σ H Q I h) fun c s1 e => ?_)
  cases c with
  | false => exact isTrue_or_nil e
  | true => exact e
theorem pw_and (ha : PT X a tA) (hb : PW X (.BoolOp .And (b :: rest) pos) tB') : PW X (.BoolOp .And (a :: b :: rest) pos) (tAnd tA tB') := by
  intro wh pins s σ H Q I h
  refine isTrue_and (thn (ha pins s σ H _ I h) fun c s1 ⟨H1, I1, q1⟩ => ?_)
  cases c with
  | true => exact hb wh pins s1 σ H1 Q I1 q1
  | false => exact ⟨H1, I1, q1⟩
theorem pw_or (ha : PT X a tA) (hb : PW X (.BoolOp .Or (b :: rest) pos) tB') : PW X (.BoolOp .Or (a :: b :: rest) pos) (tOr tA tB') := by
  intro wh pins s σ H Q I h
  refine isTrue_or (thn (ha pins s σ H _ I h) fun c s1 ⟨H1, I1, q1⟩ => ?_)
  cases c with
  | true => exact ⟨H1, I1, q1⟩
  | false => exact hb wh pins s1 σ H1 Q I1 q1
theorem pt_not (ha : PT X a tA) : PT X (.UnaryOp .Not a pos) (tNot tA) := by
  intro pins s σ H Q I h
  exact isTrue_not (ha pins s σ H (fun c H1 => Q (!c) H1) I h)
theorem pe_one {op} {t : TE} (h : PE X a t) : PE X (.BoolOp op [a] pos) t := fun pins s σ H Q I hw => BoolOp_one (h pins s σ H Q I hw)
end
noncomputable def SqL (K : PySem.W.Frag) (H : Hp) (a : Addr) (xs : List V) : Prop :=
  Rd H a (.lst xs) ∨
    ∃ (o : Obj) (its : Array Value) (n : Nat), K.lookup a = some o ∧ o.cls = .type "list" ∧ o.dict = none ∧ o.data = .seq its n ∧ its.size ≤ sizeLine ∧ Vals xs its.toList
noncomputable def SqT (K : PySem.W.Frag) (H : Hp) (a : Addr) (xs : List V) : Prop :=
  Rd H a (.tup xs) ∨
    ∃ (o : Obj) (its : Array Value) (n : Nat), K.lookup a = some o ∧ o.cls = .type "tuple" ∧ o.data = .seq its n ∧ its.size ≤ sizeLine ∧ Vals xs its.toList
noncomputable def absV : Value → Option V
  | .none => some .non
  | .bool b => some (.bl b)
  | .int i _ => some (.int i)
  | .str x _ => some (.str x)
  | .bytes b _ => some (.byt b)
  | .float b _ => some (.flt b)
  | .ref a => some (.ref a)
  | .type n => some (.ty n)
  | _ => none
theorem RelV.abs {x : V} {u : Value} (r : RelV x u) : absV u = some x := by
  cases x with
  | non => cases r; rfl
  | bl _ => cases r; rfl
  | int _ => obtain ⟨t, rfl⟩ := r; rfl
  | str _ => obtain ⟨t, rfl⟩ := r; rfl
  | byt _ => obtain ⟨t, rfl⟩ := r; rfl
  | flt _ => obtain ⟨t, rfl⟩ := r; rfl
  | ref _ => cases r; rfl
  | ty _ => cases r; rfl
theorem RelV.inj {x y : V} {u : Value} (r : RelV x u) (q : RelV y u) : x = y := Option.some.inj (r.abs.symm.trans q.abs)
theorem Vals.inj : ∀ {xs ys : List V} {us : List Value}, Vals xs us → Vals ys us → xs = ys
  | _, _, _, .nil, .nil => rfl
  | _, _, _, .cons r t, .cons r' t' => by rw [r.inj r', Vals.inj t t']
section
variable {X : Cx} {pins : List (Addr × Obj)} {σ : St} {H : Hp} {s : Shared} {a : Addr} {xs ys : List V}
theorem SqL.of {K : PySem.W.Frag} (h : H a = some (.lst xs)) : SqL K H a xs := .inl (.inl h)
theorem SqT.of {K : PySem.W.Frag} (h : H a = some (.tup xs)) : SqT K H a xs := .inl (.inl h)
theorem Inv.list (I : Inv X pins σ H s) (h : SqL X.K H a xs) : ∃ its : List Value, Vals xs its ∧ PlainL s.heap a its.toArray ∧ xs.length ≤ sizeLine := by
  rcases h with h | ⟨o, its, n, hk, hc, hd, hs, hz, r⟩
  · obtain ⟨z, its, n, r, e⟩ := h.ok I.hok
    exact ⟨its, r, ⟨_, n, e, rfl, rfl, rfl⟩, z⟩
  · refine ⟨its.toList, r, ⟨o, n, I.kIn a o hk, hc, hd, by simpa using hs⟩, ?_⟩
    have e := r.length
    simp only [Array.length_toList] at e
    omega
theorem Inv.tuple (I : Inv X pins σ H s) (h : SqT X.K H a xs) : ∃ its : List Value, Vals xs its ∧ IsTup s.heap a its.toArray ∧ xs.length ≤ sizeLine := by
  rcases h with h | ⟨o, its, n, hk, hc, hs, hz, r⟩
  · obtain ⟨z, its, r, p⟩ := h.ok I.hok
    exact ⟨its, r, p, z⟩
  · refine ⟨its.toList, r, ⟨o, I.kIn a o hk, hc, n, by simpa using hs⟩, ?_⟩
    have e := r.length
    simp only [Array.length_toList] at e
    omega
theorem Inv.list_inj (I : Inv X pins σ H s) (h : SqL X.K H a xs) (h' : SqL X.K H a ys) : xs = ys := by
  obtain ⟨its, r, ⟨o, n, e, _, _, d⟩, _⟩ := I.list h
  obtain ⟨its', r', ⟨o', n', e', _, _, d'⟩, _⟩ := I.list h'
  rw [e] at e'; cases e'
  rw [d] at d'
  injection d' with d1 _
  have : its = its' := by simpa using congrArg Array.toList d1
  subst this
  exact r.inj r'
theorem Inv.tuple_inj (I : Inv X pins σ H s) (h : SqT X.K H a xs) (h' : SqT X.K H a ys) : xs = ys := by
  obtain ⟨its, r, ⟨o, e, _, n, d⟩, _⟩ := I.tuple h
  obtain ⟨its', r', ⟨o', e', _, n', d'⟩, _⟩ := I.tuple h'
  rw [e] at e'; cases e'
  rw [d] at d'
  injection d' with d1 _
  have : its = its' := by simpa using congrArg Array.toList d1
  subst this
  exact r.inj r'
end
noncomputable abbrev Cx.wish (X : Cx) (E : L2.VSP) : Cx := { X with xe := E }
noncomputable abbrev Cx.nox (X : Cx) : Cx := X.wish fun ψ ψ => False
theorem Cx.Ok.wish {X : Cx} (ok : X.Ok) (E : L2.VSP) : (X.wish E).Ok :=
  ⟨ok.mod, ok.kind, ok.glob, ok.blt, ok.above, ok.inj, ok.has, ok.cab, ok.hd, ok.frames, ok.stk, ok.exf, ok.bs, ok.bsz, ok.noex, ok.exfs, ok.funs, ok.frf⟩
theorem Cx.Ok.unwish {X : Cx} {E : L2.VSP} (ok : (X.wish E).Ok) : X.Ok :=
  ⟨ok.mod, ok.kind, ok.glob, ok.blt, ok.above, ok.inj, ok.has, ok.cab, ok.hd, ok.frames, ok.stk, ok.exf, ok.bs, ok.bsz, ok.noex, ok.exfs, ok.funs, ok.frf⟩
section
variable {X : Cx} {pins : List (Addr × Obj)} {σ : St} {H : Hp} {s : Shared} {E : L2.VSP}
theorem Inv.wish (I : Inv X pins σ H s) (E : L2.VSP) : Inv (X.wish E) pins σ H s := ⟨I.ok.wish E, I.os, I.bare, I.base, I.loc, I.cell, I.free, I.freeC, I.pin, I.hok, I.len⟩
theorem Inv.unwish (I : Inv (X.wish E) pins σ H s) : Inv X pins σ H s := ⟨I.ok.unwish, I.os, I.bare, I.base, I.loc, I.cell, I.free, I.freeC, I.pin, I.hok, I.len⟩
theorem SP.unwish {D : Ends} {f : Flow} {s' : Shared} (h : SP (X.wish E) pins D f s') : SP X pins D f s' := by
  cases f with
  | next => obtain ⟨σ', H', I, q⟩ := h; exact ⟨σ', H', I.unwish, q⟩
  | brk => obtain ⟨σ', H', I, q⟩ := h; exact ⟨σ', H', I.unwish, q⟩
  | cont => obtain ⟨σ', H', I, q⟩ := h; exact ⟨σ', H', I.unwish, q⟩
  | ret u => obtain ⟨v, σ', H', I, r, q⟩ := h; exact ⟨v, σ', H', I.unwish, r, q⟩
theorem PE.nox {e : Expr} {t : TE} (h : PE X.nox e t) : PE X e t := fun pins s σ H Q I hw =>
  wpAny_mono (h pins s σ H Q (I.wish _) hw) (fun _ _ ⟨v, H', I', r, q⟩ => ⟨v, H', I'.unwish, r, q⟩) fun ψ ψ z => False.elim z
theorem PT.nox {e : Expr} {t : TT} (h : PT X.nox e t) : PT X e t := fun pins s σ H Q I hw =>
  wpAny_mono (h pins s σ H Q (I.wish _) hw) (fun _ _ ⟨H', I', q⟩ => ⟨H', I'.unwish, q⟩) fun ψ ψ z => False.elim z
theorem PSs.nox {st : List Stmt} {t : TS} (h : PSs X.nox st t) : PSs X st t := fun pins s σ H D I hw =>
  wpAny_mono (h pins s σ H D (I.wish _) hw) (fun ψ ψ q => q.unwish) fun ψ ψ z => False.elim z
end
section
variable {X : Cx} {st : Stmt} {rest : List Stmt} {t u : TS} {e : Expr} {te : TE} {pos : Pos}
noncomputable def tNext : TS := fun D σ H => D.nx σ H
noncomputable def tSeq (t u : TS) : TS := fun D σ H => t { D with nx := u D } σ H
theorem pss_nil : PSs X [] tNext := fun ψ ψ σ H ψ I h => wpAny_execs_nil ⟨σ, H, I, h⟩
theorem pss_cons (h1 : PS X st t) (h2 : PSs X rest u) : PSs X (st :: rest) (tSeq t u) := by
  intro pins s σ H D I h
  refine wpAny_execs_cons (thn (h1 pins s σ H { D with nx := u D } I h) fun f s1 q => ?_)
  cases f with
  | next =>
    obtain ⟨σ', H', I', q⟩ := q
    exact h2 pins s1 σ' H' D I' q
  | ret v => exact q
  | brk => exact q
  | cont => exact q
theorem pss_one (h1 : PS X st t) : PSs X [st] t := by
  intro pins s σ H D I h
  refine wpAny_execs_cons (thn (h1 pins s σ H D I h) fun f s1 q => ?_)
  cases f with
  | next => exact wpAny_execs_nil q
  | ret v => exact q
  | brk => exact q
  | cont => exact q
theorem Inv.quiet {pins : List (Addr × Obj)} {σ : St} {H : Hp} {s : Shared} (I : Inv X pins σ H s) : interactive X.env = false := by simp [interactive, I.ok.kind]
noncomputable def tDrop (te : TE) : TS := fun D σ H => te σ H fun ψ H1 => D.nx σ H1
theorem ps_expr (he : PE X e te) (hs : swapsWith e none pos.line X.env = pure false := by rfl) : PS X (.Expr e pos) (tDrop te) := by
  intro pins s σ H D I h
  exact wpAny_Expr_any (thn (he pins s σ H _ I h) fun v s1 ⟨x, H1, I1, r1, q1⟩ => ⟨σ, H1, I1, q1⟩) I.quiet hs
noncomputable def tRet (te : TE) : TS := fun D σ H => te σ H D.rt
theorem ps_ret (he : PE X e te) : PS X (.Return (some e) pos) (tRet te) := by
  intro pins s σ H D I h
  exact wpAny_Return_some (thn (he pins s σ H _ I h) fun v s1 ⟨x, H1, I1, r1, q1⟩ => ⟨x, σ, H1, I1, r1, q1⟩)
noncomputable def tIfS (c : TT) (t u : TS) : TS := fun D σ H => c σ H fun b H1 => if b = true then t D σ H1 else u D σ H1
theorem ps_if {c : Expr} {a b : List Stmt} {tc : TT} (hc : PT X c tc) (ha : PSs X a t) (hb : PSs X b u) : PS X (.If c a b pos) (tIfS tc t u) := by
  intro pins s σ H D I h
  refine wpAny_If (thn (hc pins s σ H _ I h) fun d s1 ⟨H1, I1, q1⟩ => ?_)
  cases d with
  | true => exact ha pins s1 σ H1 D I1 q1
  | false => exact hb pins s1 σ H1 D I1 q1
end
noncomputable abbrev TG := V → St → Hp → (St → Hp → Prop) → Prop
noncomputable abbrev TGs := List V → St → Hp → (St → Hp → Prop) → Prop
noncomputable def PG (X : Cx) (target : Expr) (t : TG) : Prop :=
  ∀ (pins : List (Addr × Obj)) (s : Shared) (σ : St) (H : Hp) (v : V) (u : Value) (Q : St → Hp → Prop), Inv X pins σ H s → RelV v u → t v σ H Q →
    wpAny (model X.prog X.w) X.A (assign target X.env u) (fun ψ s' => ∃ σ' H', Inv X pins σ' H' s' ∧ Q σ' H') X.xe s
noncomputable def PGs (X : Cx) (ts : List Expr) (t : TGs) : Prop :=
  ∀ (pins : List (Addr × Obj)) (s : Shared) (σ : St) (H : Hp) (vs : List V) (us : List Value) (Q : St → Hp → Prop), Inv X pins σ H s → Vals vs us → t vs σ H Q →
    wpAny (model X.prog X.w) X.A (assignInOrder ((assignEach ts X.env).map (·.2)) us) (fun ψ s' => ∃ σ' H', Inv X pins σ' H' s' ∧ Q σ' H') X.xe s
noncomputable abbrev TSet := V → V → V → Hp → (Hp → Prop) → Prop
noncomputable def PSet (X : Cx) (t : TSet) : Prop :=
  ∀ (pins : List (Addr × Obj)) (s : Shared) (σ : St) (H : Hp) (o i v : V) (ov iv u : Value) (Q : Hp → Prop), Inv X pins σ H s → RelV o ov → RelV i iv → RelV v u → t o i v H Q →
    wpAny (model X.prog X.w) X.A (setItem ov iv u) (fun ψ s' => ∃ H', Inv X pins σ H' s' ∧ Q H') X.xe s
noncomputable abbrev TIp := V → V → Hp → VK → Prop
noncomputable def PIp (X : Cx) (op : Operator) (t : TIp) : Prop :=
  ∀ (pins : List (Addr × Obj)) (s : Shared) (σ : St) (H : Hp) (x y : V) (v u : Value) (Q : VK), Inv X pins σ H s → RelV x v → RelV y u → t x y H Q →
    wpAny (model X.prog X.w) X.A (inplaceOp op v u) (EP X pins σ Q) X.xe s
section
variable {X : Cx} {pos : Pos}
noncomputable def gName (i : Nat) : TG := fun v σ H Q => Q (σ.set i (some v)) H
theorem pg_name {i : Nat} {x : Str} (hN : X.N.Nodup) (hi : X.N[i]? = some x) (hx : Loc X.env.scope x) (hf : X.fn x = true ∨ X.env.scope.names.lookup x = some .local := by first | exact .inl rfl | exact .inr rfl | assumption) : PG X (.Name x pos) (gName i) := by
  intro pins s σ H v u Q I r h
  exact wpAny_assign_Name (store_ok I hN hi hx r (fun s' I' => ⟨_, H, I', h⟩) hf)
noncomputable def gNil : TGs := fun vs σ H Q => vs = [] ∧ Q σ H
noncomputable def gCons (t : TG) (u : TGs) : TGs := fun vs σ H Q => ∃ v r, vs = v :: r ∧ t v σ H fun σ' H' => u r σ' H' Q
theorem pgs_nil : PGs X [] gNil := by
  intro pins s σ H vs us Q I r h
  obtain ⟨e, h⟩ := h
  subst e
  cases r
  exact assignInOrder_nil ⟨σ, H, I, h⟩
theorem pgs_cons {e : Expr} {es : List Expr} {t : TG} {u : TGs} (h1 : PG X e t) (h2 : PGs X es u)
    (hs : (assignEach (e :: es) X.env).map (·.2) = assign e X.env :: (assignEach es X.env).map (·.2) := by rfl) : PGs X (e :: es) (gCons t u) := by
  intro pins s σ H vs us Q I r h
  obtain ⟨v, vr, e1, h⟩ := h
  subst e1
  cases r with
  | cons r rr =>
    rw [hs]
    refine assignInOrder_cons (thn (h1 pins s σ H _ _ _ I r h) fun _ s1 ⟨σ1, H1, I1, q1⟩ => ?_)
    exact h2 pins s1 σ1 H1 _ _ Q I1 rr q1
noncomputable def gTup (K : PySem.W.Frag) (n : Nat) (t : TGs) : TG := fun v σ H Q => ∃ a xs, v = .ref a ∧ SqT K H a xs ∧ xs.length = n ∧ t xs σ H Q
theorem pg_tup {es : List Expr} {k : Nat} {t : TGs} {n : Nat} (hc : X.calm = true) (h : PGs X es t)
    (hn : (assignEach es X.env).length = n := by rfl) (hst : (assignEach es X.env).findIdx? (·.1) = none := by rfl) : PG X (.Tuple es k pos) (gTup X.K n t) := by
  intro pins s σ H v u Q I r hw
  obtain ⟨a, xs, e1, hq, hl, hw⟩ := hw
  subst e1
  cases r
  obtain ⟨its, rv, ht, hz⟩ := I.tuple hq
  refine assign_Tuple_tuple (I.ok.hd hc) ht (by simp [hn, ← hl, rv.length]) hst fun h' hx => ?_
  have I1 : Inv X pins σ H { s with heap := h' } := I.kept (t' := s.toks) fun b o e => hx b o (Nat.ne_of_lt (Heap.lt_size e)) e
  exact h pins _ σ H xs _ Q I1 (by simpa using rv) hw
noncomputable def gSub (to ti : TE) (t : TSet) : TG := fun v σ H Q => to σ H fun o H1 => ti σ H1 fun i H2 => t o i v H2 fun H3 => Q σ H3
theorem pg_sub {o i : Expr} {to ti : TE} {t : TSet} (ho : PE X o to) (hi : PE X i ti) (hs : PSet X t)
    (ha : ∀ v, assign (.Subscript o i pos) X.env v = (do
      let ov ← holding [v] (eval o X.env)
      let iv ← holding [v, ov] (eval i X.env)
      standAt pos
      holding [v, ov, iv] (setItem ov iv v)
      release [v, ov, iv] []) := by intro ψ; rfl) : PG X (.Subscript o i pos) (gSub to ti t) := by
  intro pins s σ H v u Q I r h
  rw [ha]
  refine wpAny_bind (wpAny_holding (thn (ho pins s σ H _ I h) fun ov s1 ⟨x, H1, I1, r1, q1⟩ => ?_))
  refine wpAny_bind (wpAny_holding (thn (hi pins s1 σ H1 _ I1 q1) fun iv s2 ⟨y, H2, I2, r2, q2⟩ => ?_))
  refine wpAny_bind (wpAny_standAt (wpAny_bind (wpAny_holding (thn (hs pins s2 σ H2 x y v ov iv u _ I2 r1 r2 r q2) fun _ s3 ⟨H3, I3, q3⟩ => ?_))))
  exact wpAny_release ⟨σ, H3, I3, q3⟩
noncomputable def tAsg (te : TE) (g : TG) : TS := fun D σ H => te σ H fun x H1 => g x σ H1 D.nx
theorem ps_asg {tg e : Expr} {te : TE} {g : TG} (he : PE X e te) (hg : PG X tg g) (hs : swapsWithSole [tg] e pos.line X.env = pure false := by rfl) (hw : swappedStores [tg] e X.env = pure none := by rfl)
    (h1 : (assignEach [tg] X.env).map (·.2) = [assign tg X.env] := by rfl) : PS X (.Assign [tg] e pos) (tAsg te g) := by
  intro pins s σ H D I h
  refine wpAny_Assign_stores (thn (he pins s σ H _ I h) fun v s1 ⟨x, H1, I1, r1, q1⟩ => ?_) hs hw
  rw [h1]
  exact thn (hg pins s1 σ H1 x v _ I1 r1 q1) fun ψ s2 q => q
theorem ps_set {i : Nat} {x : Str} {e : Expr} {te : TE} {pos' : Pos} (hN : X.N.Nodup) (hi : X.N[i]? = some x) (hx : Loc X.env.scope x) (he : PE X e te) (hs : swapsWith e (some (.Name x pos')) pos.line X.env = pure false := by rfl) (hf : X.fn x = true ∨ X.env.scope.names.lookup x = some .local := by first | exact .inl rfl | exact .inr rfl | assumption) :
    PS X (.Assign [.Name x pos'] e pos) (tAsg te (gName i)) := by
  intro pins s σ H D I h
  refine wpAny_Assign_Name (thn (he pins s σ H _ I h) fun v s1 ⟨y, H1, I1, r1, q1⟩ => ?_) hs
  exact store_ok I1 hN hi hx r1 (fun s2 I2 => ⟨_, H1, I2, q1⟩) hf
noncomputable def tAug (i : Nat) (te : TE) (ti : TIp) : TS := fun D σ H => ∃ x, σ[i]? = some (some x) ∧ te σ H fun y H1 => ti x y H1 fun z H2 => D.nx (σ.set i (some z)) H2
theorem ps_aug {i : Nat} {x : Str} {e : Expr} {te : TE} {op : Operator} {ti : TIp} {pos' : Pos} (hN : X.N.Nodup) (hi : X.N[i]? = some x) (hx : Loc X.env.scope x) (he : PE X e te) (ho : PIp X op ti) (hf : X.fn x = true ∨ X.env.scope.names.lookup x = some .local := by first | exact .inl rfl | exact .inr rfl | assumption) :
    PS X (.AugAssign (.Name x pos') op e pos) (tAug i te ti) := by
  intro pins s σ H D I h
  obtain ⟨v, e1, h⟩ := h
  obtain ⟨m, hn, hl⟩ := I.loc
  have vis : Vis X.env.scope x := by rcases hx with k | k; exact .inl k; exact .inr (.inl k)
  obtain ⟨u, r, l⟩ := hl i x v hi e1 vis
  refine wpAny_AugAssign_Name ?_
  have go : wpAny (model X.prog X.w) X.A (eval e X.env) (fun w s₂ => wpAny (model X.prog X.w) X.A (inplaceOp op u w) (fun r s₃ => wpAny (model X.prog X.w) X.A (storeName X.env x r) (fun ψ => SP X pins D .next) X.xe s₃) X.xe s₂) X.xe s := by
    refine thn (he pins s σ H _ I h) fun w s1 ⟨y, H1, I1, r1, q1⟩ => ?_
    refine thn (ho pins s1 σ H1 v y u w _ I1 r r1 q1) fun z s2 ⟨zv, H2, I2, r2, q2⟩ => ?_
    exact store_ok I2 hN hi hx r2 (fun s3 I3 => ⟨_, H2, I3, q2⟩) hf
  rcases l with ⟨hk, hm⟩ | ⟨hk, c, hc, hcell⟩
  · exact wpAny_loadName_local I.ok.kind hk hn hm go
  · rcases hk with hk | hk
    · exact wpAny_loadName_cell I.ok.kind hk hc hcell go
    · rcases hx with k | k
      · have : X.env.scope.names.lookup x = some .free := hk
        rw [k] at this; cases this
      · have : X.env.scope.names.lookup x = some .free := hk
        rw [k] at this; cases this
end
section
variable {X : Cx} {pos : Pos}
noncomputable def tWhile (c : TT) (tb : TS) : TS := fun D σ H => ∃ W : Nat → St → Hp → Prop, (∃ m, W m σ H) ∧ ∀ m σ H, W m σ H →
  c σ H fun b H1 => if b = true then ∃ N : St → Hp → Prop, (∀ σ' H', N σ' H' → ∃ m', m' < m ∧ W m' σ' H') ∧ tb { D with nx := N, ct := N, bk := D.nx } σ H1 else D.nx σ H1
theorem ps_while {c : Expr} {body : List Stmt} {tc : TT} {tb : TS} (hp : PassesOwn (model X.prog X.w) X.A X.env X.xe) (hc : PT X c tc) (hb : PSs X body tb) : PS X (.While c body [] pos) (tWhile tc tb) := by
  intro pins s σ H D I h
  obtain ⟨W, ⟨m0, w0⟩, turn⟩ := h
  refine wpAny_While (codeAny_whileLoop (fun n s' => ∃ σ' H', Inv X pins σ' H' s' ∧ W n σ' H') ?_ m0 ⟨σ, H, I, w0⟩)
  rintro n s1 ⟨σ1, H1, I1, w1⟩
  refine wpAny_passesOwn hp (thn (hc pins s1 σ1 H1 _ I1 (turn n σ1 H1 w1)) fun b s2 ⟨H2, I2, q2⟩ => ?_)
  cases b with
  | true =>
    obtain ⟨N, hN, q2⟩ := q2
    rw [if_pos rfl]
    refine wpAny_passesOwn hp (thn (hb pins s2 σ1 H2 _ I2 q2) fun f s3 q3 => ?_)
    cases f with
    | next =>
      obtain ⟨σ3, H3, I3, n3⟩ := q3
      obtain ⟨m', hm, w3⟩ := hN σ3 H3 n3
      exact ⟨m', hm, σ3, H3, I3, w3⟩
    | cont =>
      obtain ⟨σ3, H3, I3, n3⟩ := q3
      obtain ⟨m', hm, w3⟩ := hN σ3 H3 n3
      exact ⟨m', hm, σ3, H3, I3, w3⟩
    | brk => exact q3
    | ret v => exact q3
  | false =>
    rw [if_neg Bool.false_ne_true]
    exact wpAny_execs_nil ⟨σ1, H2, I2, q2⟩
end
structure It where
  go : Nat → Hp → Prop
  yld : Nat → Hp → V → Hp → Prop
  stop : Nat → Hp → Prop
noncomputable def FpOk (X : Cx) (pins : List (Addr × Obj)) (H : Hp) (b : Addr) : Prop :=
  H b = none ∧ b ≠ X.env.locals ∧ b ∉ X.fs ∧ (b ∈ X.ex ∨ X.s₀.heap.objs.size ≤ b) ∧ (∀ x c, X.env.cells.lookup x = some c → c ≠ b) ∧ ∀ p ∈ X.pn ++ pins, p.1 ≠ b
theorem Inv.fpOk {X : Cx} {pins : List (Addr × Obj)} {σ : St} {H H' : Hp} {s : Shared} {b : Addr} (I : Inv X pins σ H s) (hb : s.heap.objs.size ≤ b) (hn : H' b = none) : FpOk X pins H' b := by
  refine ⟨hn, Nat.ne_of_gt (Nat.lt_of_lt_of_le I.lt hb), I.nofs hb, .inr (Nat.le_trans I.sz hb), fun x c e z => ?_, fun p hp z => ?_⟩
  · obtain ⟨v, q⟩ := I.cell x c e
    exact absurd (Nat.lt_of_lt_of_le q.lt (by rw [z]; exact hb)) (Nat.lt_irrefl _)
  · exact absurd (Nat.lt_of_lt_of_le (Heap.lt_size (I.pin p hp).1) (by rw [z]; exact hb)) (Nat.lt_irrefl _)
structure Turn (P : Program) (w : World) (K : PySem.W.Frag) (tg : Expr) (J : It) (fp : List Addr) (it : Addr) (tn : Nat → Heap → Prop) : Prop where
  mem : it ∈ fp
  obj : ∀ i h, tn i h → ∀ b ∈ fp, ∃ o, h.get? b = some o ∧ ∀ v, o.data ≠ .cell v
  keep : ∀ i h h', tn i h → (∀ b ∈ fp, ∀ o, h.get? b = some o → h'.get? b = some o) → tn i h'
  item : ∀ (X : Cx), X.prog = P → X.w = w → X.K = K → X.calm = true → ∀ (i : Nat) (pins : List (Addr × Obj)) (s : Shared) (σ : St) (H : Hp) (E : L2.VSP), Inv X pins σ H s → (∀ b ∈ fp, FpOk X pins H b) → tn i s.heap → J.go i H →
    wpAny (model P w) X.A (pyNext (.ref it)) (fun r s1 => ∃ u, r = some u ∧
      wpAny (model P w) X.A (letOwnedTupleGo tg (.ref it) u) (fun ψ s2 => ∃ x H', Inv X pins σ H' s2 ∧ RelV x u ∧ J.yld i H x H' ∧ tn (i + 1) s2.heap ∧ ∀ b ∈ fp, H' b = none) E s1) E s
  done : ∀ (X : Cx), X.prog = P → X.w = w → X.K = K → X.calm = true → ∀ (i : Nat) (pins : List (Addr × Obj)) (s : Shared) (σ : St) (H : Hp) (E : L2.VSP), Inv X pins σ H s → (∀ b ∈ fp, FpOk X pins H b) → tn i s.heap → J.stop i H →
    wpAny (model P w) X.A (pyNext (.ref it)) (fun r s1 => r = none ∧ Inv X pins σ H s1) E s
  self : ∀ (A : Around) (i : Nat) (s : Shared) (Q : L2.VSP) (E : L2.VSP), tn i s.heap → Q (.ref it) s → wpAny (model P w) A (pyIter (.ref it)) Q E s
noncomputable abbrev TI := St → Hp → (It → Hp → Prop) → Prop
noncomputable def PIE (X : Cx) (pins : List (Addr × Obj)) (σ : St) (tg : Expr) (R : It → Hp → Prop) (itv : Value) (s2 : Shared) : Prop :=
  ∃ (it : Addr) (fp : List Addr) (tn : Nat → Heap → Prop) (J : It) (H' : Hp), itv = .ref it ∧ Inv X pins σ H' s2 ∧ Turn X.prog X.w X.K tg J fp it tn ∧ tn 0 s2.heap ∧ (∀ b ∈ fp, FpOk X pins H' b) ∧ R J H'
noncomputable def PI (X : Cx) (tg iter : Expr) (wi : TI) : Prop :=
  ∀ (pins : List (Addr × Obj)) (s : Shared) (σ : St) (H : Hp) (R : It → Hp → Prop), Inv X pins σ H s → wi σ H R →
    wpAny (model X.prog X.w) X.A (eval iter X.env) (fun v s1 => wpAny (model X.prog X.w) X.A (pyIter v) (PIE X pins σ tg R) X.xe s1) X.xe s
theorem go_of {M : Model} {A : Around} {E : L2.VSP} {s : Shared} {tg : Expr} {it : Addr} {u : Value} {o : Obj} {n : String} {vs : Array Value} {Q : Unit → Shared → Prop} (ho : s.heap.get? it = some o) (hc : o.cls = .type n) (hd : o.data = .fields vs)
    (hn : ["enumerate", "zip", "dict_itemiterator", "dict_reverseitemiterator", "odict_iterator", "itertools.zip_longest", "itertools.pairwise"].contains n = false) (hQ : Q () s) : wpAny M A (letOwnedTupleGo tg (.ref it) u) Q E s := by
  unfold letOwnedTupleGo
  cases tg <;> first
    | exact wpAny_pure hQ
    | (cases u <;> first
        | exact wpAny_pure hQ
        | (refine wpAny_bind (wpAny_load ho ?_)
           rw [hc, hd]
           show wpAny M A (if (["enumerate", "zip", "dict_itemiterator", "dict_reverseitemiterator", "odict_iterator", "itertools.zip_longest", "itertools.pairwise"].contains n && vs[0]? == some (rawInt _)) = true then _ else _) Q E s
           rw [if_neg (by intro h; rw [hn, Bool.false_and] at h; cases h)]
           exact wpAny_pure hQ))
noncomputable def Itl (K : PySem.W.Frag) (a : Addr) : It :=
  ⟨fun i H => ∃ xs x, SqL K H a xs ∧ xs[i]? = some x, fun i H x H' => H' = H ∧ ∀ xs, SqL K H a xs → xs[i]? = some x, fun i H => ∃ xs, SqL K H a xs ∧ xs.length ≤ i⟩
noncomputable def Itt (K : PySem.W.Frag) (a : Addr) : It :=
  ⟨fun i H => ∃ xs x, SqT K H a xs ∧ xs[i]? = some x, fun i H x H' => H' = H ∧ ∀ xs, SqT K H a xs → xs[i]? = some x, fun i H => ∃ xs, SqT K H a xs ∧ xs.length ≤ i⟩
noncomputable def Itr (lo : Int) (n : Nat) : It := ⟨fun i ψ => i < n, fun i H x H' => H' = H ∧ x = .int (lo + i), fun i ψ => n ≤ i⟩
theorem turn_list {P : Program} {w : World} {K : PySem.W.Frag} {tg : Expr} (a it : Addr) : Turn P w K tg (Itl K a) [it] it (fun i h => h.IsListIter it a i) where
  mem := by simp
  obj := fun i h st b hb => by
    have e : b = it := by simpa using hb
    subst e
    obtain ⟨o, e, c, d⟩ := st
    exact ⟨o, e, fun v z => by rw [d] at z; cases z⟩
  keep := fun i h h' st k => st.at fun o e => k it (by simp) o e
  item := by
    intro X hP hw hK hc i pins s σ H E I hf st hg
    subst hP hw hK
    obtain ⟨xs, x, hq, hx⟩ := hg
    obtain ⟨its, rv, p, hz⟩ := I.list hq
    obtain ⟨u, hu, ru⟩ := rv.get hx
    obtain ⟨f0, f1, f2, f3, f4, f5⟩ := hf it (by simp)
    refine wpAny_pyNext_list_item st p.isList (x := u) (by simpa using hu) fun h' st' sb => ?_
    have I1 : Inv X pins σ H { s with heap := h' } := I.turned (t' := s.toks) (fun b o hb e => (sb.2 b hb).trans e) f0 f1 f3 f4 f5
    obtain ⟨o, e, c, d⟩ := id st'
    exact ⟨u, rfl, go_of (s := { s with heap := h' }) e c d (by decide) ⟨x, H, I1, ru, ⟨rfl, fun ys hy => by rw [I.list_inj hy hq]; exact hx⟩, st', fun b hb => (hf b hb).1⟩⟩
  done := by
    intro X hP hw hK hc i pins s σ H E I hf st hg
    subst hP hw hK
    obtain ⟨xs, hq, hx⟩ := hg
    obtain ⟨its, rv, p, hz⟩ := I.list hq
    obtain ⟨f0, f1, f2, f3, f4, f5⟩ := hf it (by simp)
    have hl := rv.length
    exact wpAny_pyNext_list_end (I.ok.hd hc) st p.isList (by simp; omega) fun h' eb => ⟨rfl, I.turned (t' := s.toks) (fun b o hb e => eb b o hb e) f0 f1 f3 f4 f5⟩
  self := fun ψ ψ ψ ψ ψ st h => wpAny_pyIter_listiter st h
theorem turn_tuple {P : Program} {w : World} {K : PySem.W.Frag} {tg : Expr} (a it : Addr) : Turn P w K tg (Itt K a) [it] it (fun i h => h.IsTupleIter it a i) where
  mem := by simp
  obj := fun i h st b hb => by
    have e : b = it := by simpa using hb
    subst e
    obtain ⟨o, e, c, d⟩ := st
    exact ⟨o, e, fun v z => by rw [d] at z; cases z⟩
  keep := fun i h h' st k => st.at fun o e => k it (by simp) o e
  item := by
    intro X hP hw hK hc i pins s σ H E I hf st hg
    subst hP hw hK
    obtain ⟨xs, x, hq, hx⟩ := hg
    obtain ⟨its, rv, p, hz⟩ := I.tuple hq
    obtain ⟨u, hu, ru⟩ := rv.get hx
    obtain ⟨f0, f1, f2, f3, f4, f5⟩ := hf it (by simp)
    refine wpAny_pyNext_tuple_item st (show s.heap.IsTuple a its.toArray from p) (x := u) (by simpa using hu) fun h' st' sb => ?_
    have I1 : Inv X pins σ H { s with heap := h' } := I.turned (t' := s.toks) (fun b o hb e => (sb.2 b hb).trans e) f0 f1 f3 f4 f5
    obtain ⟨o, e, c, d⟩ := id st'
    exact ⟨u, rfl, go_of (s := { s with heap := h' }) e c d (by decide) ⟨x, H, I1, ru, ⟨rfl, fun ys hy => by rw [I.tuple_inj hy hq]; exact hx⟩, st', fun b hb => (hf b hb).1⟩⟩
  done := by
    intro X hP hw hK hc i pins s σ H E I hf st hg
    subst hP hw hK
    obtain ⟨xs, hq, hx⟩ := hg
    obtain ⟨its, rv, p, hz⟩ := I.tuple hq
    obtain ⟨f0, f1, f2, f3, f4, f5⟩ := hf it (by simp)
    have hl := rv.length
    exact wpAny_pyNext_tuple_end (I.ok.hd hc) st (show s.heap.IsTuple a its.toArray from p) (by simp; omega) fun h' eb => ⟨rfl, I.turned (t' := s.toks) (fun b o hb e => eb b o hb e) f0 f1 f3 f4 f5⟩
  self := fun ψ ψ ψ ψ ψ st h => wpAny_pyIter_tupleiter st h
theorem turn_range {P : Program} {w : World} {K : PySem.W.Frag} {tg : Expr} (it : Addr) (lo : Int) (n : Nat) : Turn P w K tg (Itr lo n) [it] it (fun i h => IsRangeIter h it (lo + (i : Nat) * 1) ((n : Int) - (i : Nat)) 1) where
  mem := by simp
  obj := fun i h st b hb => by
    have e : b = it := by simpa using hb
    subst e
    exact ⟨_, st, fun v z => by
      have z' : Data.fields _ = Data.cell v := z
      cases z'⟩
  keep := fun i h h' st k => k it (by simp) _ st
  item := by
    intro X hP hw hK hc i pins s σ H E I hf st hg
    subst hP hw hK
    obtain ⟨f0, f1, f2, f3, f4, f5⟩ := hf it (by simp)
    have W := Walks.range (prog := X.prog) (w := X.w) (I.ok.hd hc) it lo 1 n
    refine W.item i s _ _ hg st fun v h' tk hv st' kk => ?_
    obtain ⟨t, rfl⟩ := hv
    have I1 : Inv X pins σ H { s with heap := h', toks := tk } := I.turned (fun b o hb e => kk b o (by simpa using hb) e) f0 f1 f3 f4 f5
    refine ⟨_, rfl, go_of (s := { s with heap := h', toks := tk }) (n := "range_iterator") st' rfl rfl (by decide) ⟨.int (lo + i), H, I1, ⟨t, ?_⟩, ⟨rfl, rfl⟩, st', fun b hb => (hf b hb).1⟩⟩
    rw [Int.mul_one]
  done := by
    intro X hP hw hK hc i pins s σ H E I hf st hg
    subst hP hw hK
    obtain ⟨f0, f1, f2, f3, f4, f5⟩ := hf it (by simp)
    exact wpAny_pyNext_range_end (I.ok.hd hc) st (by have : n ≤ i := hg; omega) fun h' eb => ⟨rfl, I.turned (t' := s.toks) (fun b o hb e => eb b o hb e) f0 f1 f3 f4 f5⟩
  self := fun ψ ψ ψ ψ ψ st h => wpAny_pyIter_rangeiter st h
section
variable {X : Cx} {tg : Expr}
theorem range_it {pins : List (Addr × Obj)} {σ : St} {H : Hp} {s : Shared} {R : It → Hp → Prop} {E : L2.VSP} {lo hi : Int} {t u v : Tok} {tk : Nat} (I : Inv X pins σ H s) (h1 : -(2 ^ 62) ≤ lo) (h2 : lo < 2 ^ 62) (h3 : -(2 ^ 62) ≤ hi) (h4 : hi < 2 ^ 62)
    (q : R (Itr lo (hi - lo).toNat) H) : wpAny (model X.prog X.w) X.A (pyIter (.ref s.heap.objs.size)) (PIE X pins σ tg R) E { s with heap := s.heap.push { cls := .type "range", data := .fields #[.int lo t, .int hi u, .int 1 v] }, toks := tk } := by
  refine wpAny_pyIter_range (IsRange.new ..) (small_one h1 h2 h3 h4) ?_
  have I1 : Inv X pins σ H { s with heap := s.heap.push { cls := .type "range", data := .fields #[.int lo t, .int hi u, .int 1 v] }, toks := tk } := I.kept fun b o e => Heap.get?_push_of_some _ e
  refine ⟨(s.heap.push { cls := .type "range", data := .fields #[.int lo t, .int hi u, .int 1 v] }).objs.size, [(s.heap.push { cls := .type "range", data := .fields #[.int lo t, .int hi u, .int 1 v] }).objs.size], _, _, H, rfl,
    I1.kept (t' := tk) fun b o e => Heap.get?_push_of_some _ e, turn_range _ lo (hi - lo).toNat, ?_, fun b hb => ?_, q⟩
  · have e1 : lo + ((0 : Nat) : Int) * 1 = lo := by simp
    have e2 : (((hi - lo).toNat : Nat) : Int) - ((0 : Nat) : Int) = Builtin.Range.rangeSize lo hi 1 := by rw [rangeSize_one]; split <;> omega
    show IsRangeIter _ _ (lo + ((0 : Nat) : Int) * 1) ((((hi - lo).toNat : Nat) : Int) - ((0 : Nat) : Int)) 1
    rw [e1, e2]
    exact Heap.get?_push_size _ rfl
  · have e : b = (s.heap.push { cls := .type "range", data := .fields #[.int lo t, .int hi u, .int 1 v] }).objs.size := by simpa using hb
    subst e
    exact I1.fpOk (Nat.le_refl _) (I1.hok.fresh (Nat.le_refl _))
noncomputable def iRng1 (ta : TA) : TI := fun σ H R => ta σ H fun vs H1 => ∃ j : Int, vs = [.int j] ∧ -(2 ^ 62) ≤ j ∧ j < 2 ^ 62 ∧ R (Itr 0 j.toNat) H1
noncomputable def iRng2 (ta : TA) : TI := fun σ H R => ta σ H fun vs H1 => ∃ i j : Int, vs = [.int i, .int j] ∧ (-(2 ^ 62) ≤ i ∧ i < 2 ^ 62 ∧ -(2 ^ 62) ≤ j ∧ j < 2 ^ 62) ∧ R (Itr i (j - i).toNat) H1
theorem pi_range1 {a : Expr} {ta : TA} {p pos : Pos} (hg : Gl X "range") (hm : X.mg "range" = none) (ha : PA X [a] ta) (hs : starEach [a] X.env = [(false, eval a X.env)] := by rfl) : PI X tg (.Call (.Name "range" p) [a] [] pos) (iRng1 ta) := by
  intro pins s σ H R I h
  refine Call_ (ld_blt I hg hm boot_range (PyProof.Rows.callWith_type1 (thn (ha pos pins s σ H _ I h) fun us s1 ⟨vs, H1, I1, r1, q1⟩ => ?_) hs rfl))
  obtain ⟨j, e, q1, q2, q⟩ := q1
  subst e
  cases r1 with
  | cons r rr =>
    cases rr
    obtain ⟨t, rfl⟩ := r
    exact call_range_1 (range_it I1 (by omega) (by omega) q1 q2 (by simpa using q))
theorem pi_range2 {a b : Expr} {ta : TA} {p pos : Pos} (hg : Gl X "range") (hm : X.mg "range" = none) (ha : PA X [a, b] ta) (hs : starEach [a, b] X.env = [(false, eval a X.env), (false, eval b X.env)] := by rfl) (hs2 : starEach [b] X.env = [(false, eval b X.env)] := by rfl) :
    PI X tg (.Call (.Name "range" p) [a, b] [] pos) (iRng2 ta) := by
  intro pins s σ H R I h
  refine Call_ (ld_blt I hg hm boot_range (PyProof.Rows.callWith_type1 (thn (ha pos pins s σ H _ I h) fun us s1 ⟨vs, H1, I1, r1, q1⟩ => ?_) (by rw [hs, hs2]) (by rw [hs2]; rfl)))
  obtain ⟨i, j, e, ⟨q1, q2, q3, q4⟩, q⟩ := q1
  subst e
  cases r1 with
  | cons r rr =>
    cases rr with
    | cons r' rr =>
      cases rr
      obtain ⟨t, rfl⟩ := r
      obtain ⟨t', rfl⟩ := r'
      exact call_range_2 (range_it I1 q1 q2 q3 q4 q)
noncomputable def tFor (wi : TI) (g : TG) (tb : TS) : TS := fun D σ H => wi σ H fun J H1 => ∃ W : Nat → Nat → St → Hp → Prop, (∃ m, W 0 m σ H1) ∧ ∀ i m σ H, W i m σ H →
  (J.stop i H ∧ D.nx σ H) ∨ (J.go i H ∧ ∃ N : St → Hp → Prop, (∀ σ' H', N σ' H' → ∃ m', m' < m ∧ W (i + 1) m' σ' H') ∧ ∀ x H', J.yld i H x H' → g x σ H' fun σ2 H2 => tb { D with nx := N, ct := N, bk := D.nx } σ2 H2)
noncomputable def pinsAt (fp : List Addr) (h : Heap) : List (Addr × Obj) := fp.filterMap fun b => (h.get? b).map fun o => (b, o)
theorem mem_pinsAt {fp : List Addr} {h : Heap} {b : Addr} {o : Obj} (hb : b ∈ fp) (e : h.get? b = some o) : (b, o) ∈ pinsAt fp h := List.mem_filterMap.mpr ⟨b, hb, by rw [e]; rfl⟩
theorem of_pinsAt {fp : List Addr} {h : Heap} {p : Addr × Obj} (hp : p ∈ pinsAt fp h) : p.1 ∈ fp ∧ h.get? p.1 = some p.2 := by
  obtain ⟨b, hb, e⟩ := List.mem_filterMap.mp hp
  cases q : h.get? b with
  | none => rw [q] at e; cases e
  | some o =>
    rw [q] at e
    have e' : (b, o) = p := Option.some.inj e
    subst e'
    exact ⟨hb, q⟩
theorem Inv.pinned {pins : List (Addr × Obj)} {σ : St} {H : Hp} {s : Shared} {fp : List Addr} (I : Inv X pins σ H s) (hf : ∀ b ∈ fp, FpOk X pins H b) (ho : ∀ b ∈ fp, ∃ o, s.heap.get? b = some o ∧ ∀ v, o.data ≠ .cell v) : Inv X (pins ++ pinsAt fp s.heap) σ H s :=
  I.pins_of fun p hp => (List.mem_append.mp hp).elim (fun z => I.pin p (List.mem_append_right _ z)) fun z => by
    obtain ⟨hb, e⟩ := of_pinsAt z
    obtain ⟨f0, f1, f2, _⟩ := hf p.1 hb
    obtain ⟨o, e', d⟩ := ho p.1 hb
    rw [e] at e'; cases e'
    exact ⟨e, f0, f1, f2, d⟩
theorem Inv.unpinned {pins pl : List (Addr × Obj)} {σ : St} {H : Hp} {s : Shared} (I : Inv X (pins ++ pl) σ H s) : Inv X pins σ H s := I.pins_of fun p hp => I.pin p (List.mem_append_right _ (List.mem_append_left _ hp))
theorem ps_for {iter : Expr} {body : List Stmt} {wi : TI} {g : TG} {tb : TS} {pos : Pos} (hp : PassesOwn (model X.prog X.w) X.A X.env X.xe) (hc : X.calm = true) (hi : PI X tg iter wi) (hg : PG X tg g) (hb : PSs X body tb)
    (hs : ∀ x, foldedSetIterable iter X.env x = pure x := by intro ψ; rfl) : PS X (.For tg iter body [] pos) (tFor wi g tb) := by
  intro pins s σ H D I h
  refine wpAny_For (thn (hi pins s σ H _ I h) fun v s1 h1 => thn h1 fun itv s2 h2 => ?_) hs
  obtain ⟨it, fp, tn, J, H2, e, I2, T, st2, f2, W, ⟨m0, w0⟩, turn⟩ := h2
  subst e
  have stat : ∀ {H' : Hp}, (∀ b ∈ fp, H' b = none) → ∀ b ∈ fp, FpOk X pins H' b := fun hn b hb => ⟨hn b hb, (f2 b hb).2⟩
  refine codeAny_forLoop_any (fun n s' => ∃ i σ' H', Inv X pins σ' H' s' ∧ tn i s'.heap ∧ (∀ b ∈ fp, H' b = none) ∧ W i n σ' H') ?_ m0 ⟨0, σ, H2, I2, st2, fun b hb => (f2 b hb).1, w0⟩
  rintro n s3 ⟨i, σ3, H3, I3, st3, fr3, w3⟩
  rcases turn i n σ3 H3 w3 with ⟨stop, qn⟩ | ⟨go, N, hN, step⟩
  · refine wpAny_passesOwn hp (thn (T.done X rfl rfl rfl hc i pins s3 σ3 H3 X.xe I3 (stat fr3) st3 stop) fun r s4 ⟨hr, I4⟩ => ?_)
    subst hr
    exact wpAny_execs_nil ⟨σ3, H3, I4, qn⟩
  · refine wpAny_passesOwn hp (thn (T.item X rfl rfl rfl hc i pins s3 σ3 H3 X.xe I3 (stat fr3) st3 go) fun r s4 ⟨u, hr, h4⟩ => ?_)
    subst hr
    refine wpAny_passesOwn hp (thn h4 fun _ s5 ⟨x, H5, I5, r5, y5, st5, fr5⟩ => ?_)
    have I5' := I5.pinned (stat fr5) (T.obj _ _ st5)
    refine wpAny_passesOwn hp (thn (hg _ s5 σ3 H5 x u _ I5' r5 (step x H5 y5)) fun _ s6 ⟨σ6, H6, I6, q6⟩ => ?_)
    refine wpAny_passesOwn hp (thn (hb _ s6 σ6 H6 _ I6 q6) fun f s7 q7 => ?_)
    have again : ∀ {σ7 : St} {H7 : Hp}, Inv X (pins ++ pinsAt fp s5.heap) σ7 H7 s7 → N σ7 H7 → ∃ m, m < n ∧ ∃ i σ' H', Inv X pins σ' H' s7 ∧ tn i s7.heap ∧ (∀ b ∈ fp, H' b = none) ∧ W i m σ' H' := fun {σ7 H7} I7 n7 => by
      obtain ⟨m', hm, w7⟩ := hN σ7 H7 n7
      refine ⟨m', hm, i + 1, σ7, H7, I7.unpinned, T.keep _ _ _ st5 fun b hb o e => (I7.pin (b, o) (List.mem_append_right _ (List.mem_append_right _ (mem_pinsAt hb e)))).1, fun b hb => ?_, w7⟩
      obtain ⟨o, e, d⟩ := T.obj _ _ st5 b hb
      exact (I7.pin (b, o) (List.mem_append_right _ (List.mem_append_right _ (mem_pinsAt hb e)))).2.1
    cases f with
    | next => obtain ⟨σ7, H7, I7, n7⟩ := q7; exact again I7 n7
    | cont => obtain ⟨σ7, H7, I7, n7⟩ := q7; exact again I7 n7
    | brk => obtain ⟨σ7, H7, I7, q7⟩ := q7; exact ⟨σ7, H7, I7.unpinned, q7⟩
    | ret v => obtain ⟨x7, σ7, H7, I7, r7, q7⟩ := q7; exact ⟨x7, σ7, H7, I7.unpinned, r7, q7⟩
end
noncomputable abbrev R2 := V → V → Hp → VK → Prop
noncomputable def OpR (X : Cx) (f : Value → Value → Sem Value) (r : R2) : Prop :=
  ∀ (pins : List (Addr × Obj)) (s : Shared) (σ : St) (H : Hp) (x y : V) (v u : Value) (Q : VK), Inv X pins σ H s → RelV x v → RelV y u → r x y H Q →
    wpAny (model X.prog X.w) X.A (f v u) (EP X pins σ Q) X.xe s
noncomputable def UnR (X : Cx) (f : Value → Sem Value) (r : V → Hp → VK → Prop) : Prop :=
  ∀ (pins : List (Addr × Obj)) (s : Shared) (σ : St) (H : Hp) (x : V) (v : Value) (Q : VK), Inv X pins σ H s → RelV x v → r x H Q →
    wpAny (model X.prog X.w) X.A (f v) (EP X pins σ Q) X.xe s
noncomputable def CallR (X : Cx) (f : Value) (r : List V → Hp → VK → Prop) : Prop :=
  ∀ (pins : List (Addr × Obj)) (s : Shared) (σ : St) (H : Hp) (xs : List V) (us : List Value) (Q : VK), Inv X pins σ H s → Vals xs us → r xs H Q →
    wpAny (model X.prog X.w) X.A (call f us) (EP X pins σ Q) X.xe s
noncomputable def tOp (r : R2) (ta tb : TE) : TE := fun σ H Q => ta σ H fun x H1 => tb σ H1 fun y H2 => r x y H2 Q
noncomputable def tUn (r : V → Hp → VK → Prop) (ta : TE) : TE := fun σ H Q => ta σ H fun x H1 => r x H1 Q
noncomputable def rI (C : Int → Int → Prop) (g : Int → Int → V) : R2 := fun x y H Q => ∃ i j, x = .int i ∧ y = .int j ∧ C i j ∧ Q (g i j) H
noncomputable def rI0 (g : Int → Int → V) : R2 := fun x y H Q => ∃ i j, x = .int i ∧ y = .int j ∧ Q (g i j) H
noncomputable def rU (g : Int → V) : V → Hp → VK → Prop := fun x H Q => ∃ i, x = .int i ∧ Q (g i) H
section
variable {X : Cx} {a b c : Expr} {ta tb tc : TE} {pos : Pos}
theorem binT (ha : PE X a ta) (hb : PE X b tb) {pins : List (Addr × Obj)} {s : Shared} {σ : St} {H : Hp} {R : V → V → Hp → Prop} (I : Inv X pins σ H s)
    (h : ta σ H fun x H1 => tb σ H1 fun y H2 => R x y H2) {Q : L2.VSP} {f : Value → Value → Sem Value}
    (hf : ∀ v u s2 x y H2, Inv X pins σ H2 s2 → RelV x v → RelV y u → R x y H2 → wpAny (model X.prog X.w) X.A (f v u) Q X.xe s2) :
    wpAny (model X.prog X.w) X.A (eval a X.env) (fun v s₁ => wpAny (model X.prog X.w) X.A (eval b X.env) (fun u s₂ => wpAny (model X.prog X.w) X.A (f v u) Q X.xe s₂) X.xe s₁) X.xe s := by
  refine thn (ha pins s σ H _ I h) fun v s1 ⟨x, H1, I1, r1, q1⟩ => ?_
  refine thn (hb pins s1 σ H1 _ I1 q1) fun u s2 ⟨y, H2, I2, r2, q2⟩ => ?_
  exact hf v u s2 x y H2 I2 r1 r2 q2
theorem pe_op {op : Operator} {r : R2} (ho : OpR X (binaryOp op) r) (ha : PE X a ta) (hb : PE X b tb) : PE X (.BinOp a op b pos) (tOp r ta tb) := by
  intro pins s σ H Q I h
  exact wpAny_BinOp (binT ha hb I h fun v u s2 x y H2 I2 rx ry q => ho pins s2 σ H2 x y v u Q I2 rx ry q)
theorem pe_un {op : UnaryOp} {r : V → Hp → VK → Prop} (ho : UnR X (unaryOp op) r) (ha : PE X a ta) : PE X (.UnaryOp op a pos) (tUn r ta) := by
  intro pins s σ H Q I h
  exact UnaryOp_ (thn (ha pins s σ H _ I h) fun v s1 ⟨x, H1, I1, r1, q1⟩ => ho pins s1 σ H1 x v Q I1 r1 q1)
theorem opI {f : Value → Value → Sem Value} {C : Int → Int → Prop} {g : Int → Int → Int}
    (rule : ∀ (i j : Int) (t u : Tok) (s : Shared) (Q : L2.VSP) (E : L2.VSP), C i j → Q (.int (g i j) s.toks) { s with toks := s.toks + 1 } → wpAny (model X.prog X.w) X.A (f (.int i t) (.int j u)) Q E s) :
    OpR X f (rI C fun i j => .int (g i j)) := by
  intro pins s σ H x y v u Q I rx ry h
  obtain ⟨i, j, rfl, rfl, hc, q⟩ := h
  obtain ⟨t, rfl⟩ := rx
  obtain ⟨t', rfl⟩ := ry
  exact rule i j t t' s _ _ hc ⟨.int (g i j), H, I.tok _, ⟨_, rfl⟩, q⟩
theorem opI0 {f : Value → Value → Sem Value} {g : Int → Int → Int}
    (rule : ∀ (i j : Int) (t u : Tok) (s : Shared) (Q : L2.VSP) (E : L2.VSP), Q (.int (g i j) s.toks) { s with toks := s.toks + 1 } → wpAny (model X.prog X.w) X.A (f (.int i t) (.int j u)) Q E s) :
    OpR X f (rI0 fun i j => .int (g i j)) := by
  intro pins s σ H x y v u Q I rx ry h
  obtain ⟨i, j, rfl, rfl, q⟩ := h
  obtain ⟨t, rfl⟩ := rx
  obtain ⟨t', rfl⟩ := ry
  exact rule i j t t' s _ _ ⟨.int (g i j), H, I.tok _, ⟨_, rfl⟩, q⟩
theorem opB0 {f : Value → Value → Sem Value} {g : Int → Int → Bool}
    (rule : ∀ (i j : Int) (t u : Tok) (s : Shared) (Q : L2.VSP) (E : L2.VSP), Q (.bool (g i j)) s → wpAny (model X.prog X.w) X.A (f (.int i t) (.int j u)) Q E s) :
    OpR X f (rI0 fun i j => .bl (g i j)) := by
  intro pins s σ H x y v u Q I rx ry h
  obtain ⟨i, j, rfl, rfl, q⟩ := h
  obtain ⟨t, rfl⟩ := rx
  obtain ⟨t', rfl⟩ := ry
  exact rule i j t t' s _ _ ⟨.bl (g i j), H, I, rfl, q⟩
noncomputable def CPow (i j : Int) : Prop := 0 ≤ j ∧ j ≤ 1000000 ∧ i.natAbs < 2 ^ 64
noncomputable def CMul (i j : Int) : Prop := (-(2 ^ 64) < i ∧ i < 2 ^ 64) ∨ (-(2 ^ 64) < j ∧ j < 2 ^ 64)
theorem CMul.ok {i j : Int} (h : CMul i j) : IntMulOk i j := by
  rcases h with ⟨h1, h2⟩ | ⟨h1, h2⟩
  · exact .of_left (intBits_le_64 h1 h2)
  · exact .of_right (intBits_le_64 h1 h2)
theorem two_pow_nn (k : Nat) : (0 : Int) ≤ 2 ^ k := by
  rw [two_pow_cast]
  exact Int.natCast_nonneg _
theorem op_add : OpR X (binaryOp .Add) (rI0 fun i j => .int (i + j)) := opI0 fun ψ ψ ψ ψ ψ ψ ψ q => add_int q
theorem op_sub : OpR X (binaryOp .Sub) (rI0 fun i j => .int (i - j)) := opI0 fun ψ ψ ψ ψ ψ ψ ψ q => sub_int q
theorem op_mod : OpR X (binaryOp .Mod) (rI (fun ψ j => 0 < j) fun i j => .int (i % j)) := opI fun i j ψ ψ ψ ψ ψ hc q => by
  have h1 : (0 : Int) < j := hc
  exact mod_int' (by omega) (by rw [Int.fmod_eq_emod_of_nonneg i (by omega)]; exact q)
theorem op_pow : OpR X (binaryOp .Pow) (rI CPow fun i j => .int (i ^ j.toNat)) := opI fun ψ ψ ψ ψ ψ ψ ψ hc q => pow_int_small hc.1 hc.2.1 hc.2.2 q
theorem iop_add : OpR X (inplaceOp .Add) (rI0 fun i j => .int (i + j)) := opI0 fun ψ ψ ψ ψ ψ ψ ψ q => iadd_int q
theorem iop_sub : OpR X (inplaceOp .Sub) (rI0 fun i j => .int (i - j)) := opI0 fun ψ ψ ψ ψ ψ ψ ψ q => isub_int q
theorem unI {f : Value → Sem Value} {g : Int → Int}
    (rule : ∀ (i : Int) (t : Tok) (s : Shared) (Q : L2.VSP) (E : L2.VSP), Q (.int (g i) s.toks) { s with toks := s.toks + 1 } → wpAny (model X.prog X.w) X.A (f (.int i t)) Q E s) :
    UnR X f (rU fun i => .int (g i)) := by
  intro pins s σ H x v Q I rx h
  obtain ⟨i, rfl, q⟩ := h
  obtain ⟨t, rfl⟩ := rx
  exact rule i t s _ _ ⟨.int (g i), H, I.tok _, ⟨_, rfl⟩, q⟩
theorem un_neg : UnR X (unaryOp .USub) (rU fun i => .int (-i)) := unI fun ψ ψ ψ ψ ψ q => neg_int q
end
noncomputable def scal : V → V → Bool
  | .non, .non => true | .non, .int _ => true | .int _, .non => true | .non, .bl _ => true | .bl _, .non => true | .non, .str _ => true | .str _, .non => true
  | .int _, .int _ => true | .bl _, .bl _ => true | .str _, .str _ => true | .byt _, .byt _ => true
  | .int _, .str _ => true | .str _, .int _ => true | .bl _, .str _ => true | .str _, .bl _ => true
  | _, _ => false
noncomputable def rEq : R2 := fun x y H Q => scal x y = true ∧ Q (.bl (decide (x = y))) H
noncomputable def rNe : R2 := fun x y H Q => scal x y = true ∧ Q (.bl (!decide (x = y))) H
theorem dec_int {i j : Int} : decide (V.int i = V.int j) = (i == j) := by
  rw [Bool.eq_iff_iff]
  simp
theorem dec_bl {i j : Bool} : decide (V.bl i = V.bl j) = (i == j) := by
  rw [Bool.eq_iff_iff]
  simp
theorem dec_str {i j : Str} : decide (V.str i = V.str j) = (i == j) := by
  rw [Bool.eq_iff_iff]
  simp
theorem dec_byt {i j : Array UInt8} : decide (V.byt i = V.byt j) = (i.toList == j.toList) := by
  rw [Bool.eq_iff_iff]
  cases i
  cases j
  simp
section
variable {X : Cx} {a b c : Expr} {ta tb tc : TE} {pos : Pos}
theorem fin_bl {pins : List (Addr × Obj)} {σ : St} {H : Hp} {s : Shared} {Q : VK} {k k' : Bool} (I : Inv X pins σ H s) (q : Q (.bl k) H) (e : k = k') : EP X pins σ Q (.bool k') s := by
  subst e
  exact ⟨.bl k, H, I, rfl, q⟩
theorem op_eq : OpR X (compareOp .Eq) rEq := by
  intro pins s σ H x y v u Q I rx ry h
  obtain ⟨hs, q⟩ := h
  cases x with
  | non =>
    cases rx
    cases y with
    | non => cases ry; exact PySem.EqNone.eq_none_none (fin_bl I q (by simp))
    | bl j => cases ry; exact PySem.EqNone.eq_none_bool (fin_bl I q (by simp))
    | int j => obtain ⟨t', rfl⟩ := ry; exact PySem.EqNone.eq_none_int (fin_bl I q (by simp))
    | str j => obtain ⟨t', rfl⟩ := ry; exact PySem.EqNone.eq_none_str (fin_bl I q (by simp))
    | _ => exact absurd (show false = true from hs) Bool.false_ne_true
  | bl i =>
    cases rx
    cases y with
    | non => cases ry; exact PySem.EqNone.eq_bool_none (fin_bl I q (by simp))
    | bl j => cases ry; exact eq_bool (fin_bl I q dec_bl)
    | str j => obtain ⟨t', rfl⟩ := ry; exact PySem.EqMixed.eq_bool_str (fin_bl I q (by simp))
    | _ => exact absurd (show false = true from hs) Bool.false_ne_true
  | int i =>
    obtain ⟨t, rfl⟩ := rx
    cases y with
    | non => cases ry; exact PySem.EqNone.eq_int_none (fin_bl I q (by simp))
    | int j => obtain ⟨t', rfl⟩ := ry; exact eq_int (fin_bl I q dec_int)
    | str j => obtain ⟨t', rfl⟩ := ry; exact PySem.EqMixed.eq_int_str (fin_bl I q (by simp))
    | _ => exact absurd (show false = true from hs) Bool.false_ne_true
  | str i =>
    obtain ⟨t, rfl⟩ := rx
    cases y with
    | non => cases ry; exact PySem.EqNone.eq_str_none (fin_bl I q (by simp))
    | bl j => cases ry; exact PySem.EqMixed.eq_str_bool (fin_bl I q (by simp))
    | int j => obtain ⟨t', rfl⟩ := ry; exact PySem.EqMixed.eq_str_int (fin_bl I q (by simp))
    | str j => obtain ⟨t', rfl⟩ := ry; exact eq_str (fin_bl I q dec_str)
    | _ => exact absurd (show false = true from hs) Bool.false_ne_true
  | byt i =>
    obtain ⟨t, rfl⟩ := rx
    cases y with
    | byt j => obtain ⟨t', rfl⟩ := ry; exact PySem.W.eq_bytes (fin_bl I q dec_byt)
    | _ => exact absurd (show false = true from hs) Bool.false_ne_true
  | _ => cases y <;> exact absurd (show false = true from hs) Bool.false_ne_true
theorem op_ne : OpR X (compareOp .NotEq) rNe := by
  intro pins s σ H x y v u Q I rx ry h
  obtain ⟨hs, q⟩ := h
  cases x with
  | non =>
    cases rx
    cases y with
    | non => cases ry; exact PySem.EqNone.ne_none_none (fin_bl I q (by simp))
    | bl j => cases ry; exact PySem.EqNone.ne_none_bool (fin_bl I q (by simp))
    | int j => obtain ⟨t', rfl⟩ := ry; exact PySem.EqNone.ne_none_int (fin_bl I q (by simp))
    | str j => obtain ⟨t', rfl⟩ := ry; exact PySem.EqNone.ne_none_str (fin_bl I q (by simp))
    | _ => exact absurd (show false = true from hs) Bool.false_ne_true
  | bl i =>
    cases rx
    cases y with
    | non => cases ry; exact PySem.EqNone.ne_bool_none (fin_bl I q (by simp))
    | bl j => cases ry; exact ne_bool (fin_bl I q (congrArg not dec_bl))
    | str j => obtain ⟨t', rfl⟩ := ry; exact PySem.EqMixed.ne_bool_str (fin_bl I q (by simp))
    | _ => exact absurd (show false = true from hs) Bool.false_ne_true
  | int i =>
    obtain ⟨t, rfl⟩ := rx
    cases y with
    | non => cases ry; exact PySem.EqNone.ne_int_none (fin_bl I q (by simp))
    | int j => obtain ⟨t', rfl⟩ := ry; exact ne_int (fin_bl I q (congrArg not dec_int))
    | str j => obtain ⟨t', rfl⟩ := ry; exact PySem.EqMixed.ne_int_str (fin_bl I q (by simp))
    | _ => exact absurd (show false = true from hs) Bool.false_ne_true
  | str i =>
    obtain ⟨t, rfl⟩ := rx
    cases y with
    | non => cases ry; exact PySem.EqNone.ne_str_none (fin_bl I q (by simp))
    | bl j => cases ry; exact PySem.EqMixed.ne_str_bool (fin_bl I q (by simp))
    | int j => obtain ⟨t', rfl⟩ := ry; exact PySem.EqMixed.ne_str_int (fin_bl I q (by simp))
    | str j => obtain ⟨t', rfl⟩ := ry; exact ne_str (fin_bl I q (congrArg not dec_str))
    | _ => exact absurd (show false = true from hs) Bool.false_ne_true
  | byt i =>
    obtain ⟨t, rfl⟩ := rx
    cases y with
    | byt j => obtain ⟨t', rfl⟩ := ry; exact PySem.W.ne_bytes (fin_bl I q (congrArg not dec_byt))
    | _ => exact absurd (show false = true from hs) Bool.false_ne_true
  | _ => cases y <;> exact absurd (show false = true from hs) Bool.false_ne_true
theorem op_lt : OpR X (compareOp .Lt) (rI0 fun i j => .bl (decide (i < j))) := opB0 fun ψ ψ ψ ψ ψ ψ ψ q => lt_int q
theorem op_le : OpR X (compareOp .LtE) (rI0 fun i j => .bl (decide (i ≤ j))) := opB0 fun ψ ψ ψ ψ ψ ψ ψ q => le_int q
theorem op_gt : OpR X (compareOp .Gt) (rI0 fun i j => .bl (decide (j < i))) := opB0 fun ψ ψ ψ ψ ψ ψ ψ q => gt_int q
theorem op_ge : OpR X (compareOp .GtE) (rI0 fun i j => .bl (decide (j ≤ i))) := opB0 fun ψ ψ ψ ψ ψ ψ ψ q => ge_int q
theorem op_notN : OpR X (compareOp .IsNot) (fun x y H Q => y = .non ∧ Q (.bl (!decide (x = .non))) H) := by
  intro pins s σ H x y v u Q I rx ry h
  obtain ⟨rfl, q⟩ := h
  cases ry
  refine isnot_none_gen (fin_bl I q ?_)
  cases x <;> first
    | (cases rx; rfl)
    | (obtain ⟨t, rfl⟩ := rx; rfl)
theorem OpR.or {f : Value → Value → Sem Value} {r r' : R2} (h : OpR X f r) (h' : OpR X f r') : OpR X f (fun x y H Q => r x y H Q ∨ r' x y H Q) := by
  intro pins s σ H x y v u Q I rx ry q
  rcases q with q | q
  · exact h pins s σ H x y v u Q I rx ry q
  · exact h' pins s σ H x y v u Q I rx ry q
theorem nomark (b : Expr) {op : CmpOp} (h : op ≠ .In := by decide) (h2 : op ≠ .NotIn := by decide) : behindInMarks op b = false := by
  have e1 : (op == CmpOp.In) = false := by cases op <;> first | rfl | exact absurd rfl h
  have e2 : (op == CmpOp.NotIn) = false := by cases op <;> first | rfl | exact absurd rfl h2
  cases b <;> simp [behindInMarks, e1, e2]
theorem pe_cmpR {op : CmpOp} {r : R2} (ho : OpR X (compareOp op) r) (ha : PE X a ta) (hb : PE X b tb) (hm : behindInMarks op b = false) : PE X (.Compare a [op] [b] pos) (tOp r ta tb) := by
  intro pins s σ H Q I h
  exact wpAny_Compare1 (binT ha hb I h fun v u s2 x y H2 I2 rx ry q => ho pins s2 σ H2 x y v u Q I2 rx ry q) hm
noncomputable def tTest (t : TE) : TT := fun σ H Q => t σ H fun x H' => ∃ k, x = .bl k ∧ Q k H'
theorem pt_cmpR {op : CmpOp} {r : R2} (ho : OpR X (compareOp op) r) (ha : PE X a ta) (hb : PE X b tb) (hm : behindInMarks op b = false) : PT X (.Compare a [op] [b] pos) (tTest (tOp r ta tb)) := by
  intro pins s σ H Q I h
  refine wpAny_isTrue_Compare1 (thn (ha pins s σ H _ I h) fun v s1 ⟨x, H1, I1, r1, q1⟩ => thn (hb pins s1 σ H1 _ I1 q1) fun u s2 ⟨y, H2, I2, r2, q2⟩ =>
    thn (ho pins s2 σ H2 x y v u _ I2 r1 r2 q2) fun c s3 ⟨z, H3, I3, r3, k, e, q3⟩ => ?_) hm
  subst e
  cases r3
  exact wpAny_truthy_bool ⟨H3, I3, q3⟩
theorem line63 : (sizeLine : Nat) < 2 ^ 63 := by rw [sizeLine_eq]; decide
theorem vals1 {x : V} {us : List Value} (r : Vals [x] us) : ∃ u, us = [u] ∧ RelV x u := by
  cases r with
  | cons r1 r2 => cases r2; exact ⟨_, rfl, r1⟩
theorem vals2 {x y : V} {us : List Value} (r : Vals [x, y] us) : ∃ u w', us = [u, w'] ∧ RelV x u ∧ RelV y w' := by
  cases r with
  | cons r1 r2 =>
    cases r2 with
    | cons r3 r4 => cases r4; exact ⟨_, _, rfl, r1, r3⟩
theorem call_abs : CallR X (.builtin "abs") (fun xs H Q => ∃ i, xs = [.int i] ∧ Q (.int (if i < 0 then -i else i)) H) := by
  intro pins s σ H xs us Q I r h
  obtain ⟨i, rfl, q⟩ := h
  obtain ⟨u, rfl, t, rfl⟩ := vals1 r
  exact call_abs_int fun u tk => ⟨.int (if i < 0 then -i else i), H, I.tok _, ⟨_, rfl⟩, q⟩
theorem call_max2 (hc : X.calm = true) : CallR X (.builtin "max") (fun xs H Q => ∃ i j, xs = [.int i, .int j] ∧ Q (.int (if j > i then j else i)) H) := by
  intro pins s σ H xs us Q I r h
  obtain ⟨i, j, rfl, q⟩ := h
  obtain ⟨u, w', rfl, ⟨t, rfl⟩, ⟨t', rfl⟩⟩ := vals2 r
  refine max_two_ints (I.ok.hd hc) fun h' tk k => ⟨_, H, I.kept k, ?_, q⟩
  by_cases hj : j > i
  · rw [if_pos hj, if_pos hj]; exact ⟨_, rfl⟩
  · rw [if_neg hj, if_neg hj]; exact ⟨_, rfl⟩
theorem call_min2 (hc : X.calm = true) : CallR X (.builtin "min") (fun xs H Q => ∃ i j, xs = [.int i, .int j] ∧ Q (.int (if j < i then j else i)) H) := by
  intro pins s σ H xs us Q I r h
  obtain ⟨i, j, rfl, q⟩ := h
  obtain ⟨u, w', rfl, ⟨t, rfl⟩, ⟨t', rfl⟩⟩ := vals2 r
  refine min_two_ints (I.ok.hd hc) fun h' tk k => ⟨_, H, I.kept k, ?_, q⟩
  by_cases hj : j < i
  · rw [if_pos hj, if_pos hj]; exact ⟨_, rfl⟩
  · rw [if_neg hj, if_neg hj]; exact ⟨_, rfl⟩
end
structure ObjM (h : Heap) (x dx C : Addr) (mA : L2.SV) : Prop where
  obj : h.get? x = some (PySem.W.instObj C dx)
  ns : h.Ns1 dx mA
  ne : dx ≠ x
theorem lookIn_ns {h : Heap} {dx : Addr} {mA : L2.SV} (n : h.Ns1 dx mA) : ∃ od, h.get? dx = some od ∧ ∀ name, PySem.W.lookIn name od = some (mA name) := by
  obtain ⟨o, es, ep, ho, hd, hk, _, hm⟩ := n
  refine ⟨o, ho, fun name => ?_⟩
  have e := hm name
  unfold nsFind findBy at e
  rw [← Array.find?_toList] at e
  unfold PySem.W.lookIn
  rw [hd]
  dsimp only
  split
  · rename_i y q
    rw [q] at e
    exact congrArg some e
  · rename_i q
    rw [q] at e
    have a : es.toList.any (·.refKey) = false := by
      rw [List.any_eq_false]
      intro y hy
      obtain ⟨z, t, hkey⟩ := hk y (Array.mem_toList_iff.mp hy)
      simp [DictEntry.refKey, hkey]
    have a' : ¬ es.toList.any (·.refKey) = true := by rw [a]; exact Bool.false_ne_true
    rw [if_neg a']
    exact congrArg some e
theorem ObjM.look {h : Heap} {x dx C : Addr} {mA : L2.SV} (I : ObjM h x dx C mA) : ∃ od, PySem.W.InstAt h x (PySem.W.instObj C dx) C (some od) ∧ ∀ name, PySem.W.lookIn name od = some (mA name) :=
  let ⟨od, ho, hl⟩ := lookIn_ns I.ns
  ⟨od, ⟨I.obj, rfl, rfl, ho⟩, hl⟩
section
variable {prog : Program} {w : World} {A : Around} {E : L2.VSP} {s : Shared} {K : PySem.W.Frag} {x dx C f : Addr} {mA : L2.SV} {name : Str} {v : Value}
end
section
variable {P : Program} {w : World} {H H' : Hp} {h h' : Heap} {a C dx : Addr} {fs fs' : List (Str × V)}
theorem ins_get (hok : HOk P w H h) (e : H a = some (.ins C dx fs)) : ∃ mA, ObjM h a dx C mA ∧ (∀ f, RelO (fs.lookup f) (mA f)) ∧ PySem.Within mA (fs.map (·.1)) ∧ fs.length ≤ 1000 ∧ H dx = some (.own a) := by
  obtain ⟨d, z, ne, ob, mA, n, r, q⟩ := (show ObjOk P w H h a (.ins C dx fs) from hok a _ e)
  exact ⟨mA, ⟨ob, n, ne⟩, r, q, z, d⟩
end
structure Cls (K : PySem.W.Frag) (C : Addr) : Prop where
  pg : PySem.W.plainGet K C Str.empty = true
  hd : PySem.W.hasDictIn K C = true
  po : PySem.W.plainOver K C = true
  sa : PySem.W.findIn K (.ref C) "__setattr__" = some (some (.builtin "object.__setattr__"))
theorem Cls.get {K : PySem.W.Frag} {C : Addr} (c : Cls K C) (f : Str) : PySem.W.plainGet K C f = true := c.pg
section
variable {X : Cx} {pins : List (Addr × Obj)} {σ : St} {H : Hp} {s : Shared} {a C dx : Addr} {fs : List (Str × V)} {f : Str} {v : V} {A : Around} {E : L2.VSP}
end
section
variable {X : Cx} {o e value : Expr} {f : Str} {pos pos' tpos : Pos} {ta tv : TE}
end
section
variable {X : Cx} {pins : List (Addr × Obj)} {σ : St} {H : Hp} {s : Shared} {A : Around} {E : L2.VSP} {Q : L2.VSP} {c : Value} {b : Bool}
inductive TyOf (K : PySem.W.Frag) (H : Hp) : V → Value → Prop where
  | non : TyOf K H .non (.type "NoneType")
  | bl (x : Bool) : TyOf K H (.bl x) (.type "bool")
  | int (i : Int) : TyOf K H (.int i) (.type "int")
  | str (x : Str) : TyOf K H (.str x) (.type "str")
  | flt (x : UInt64) : TyOf K H (.flt x) (.type "float")
  | lst {a : Addr} {xs : List V} (e : H a = some (.lst xs)) : TyOf K H (.ref a) (.type "list")
  | frz {a : Addr} {o : Obj} {xs : List V} (e : H a = some (.frz o (.lst xs))) : TyOf K H (.ref a) (.type "list")
  | tup {a : Addr} {xs : List V} (e : H a = some (.tup xs)) : TyOf K H (.ref a) (.type "tuple")
  | dK {a : Addr} {kvs : List (Key × V)} (e : H a = some (.dK kvs)) : TyOf K H (.ref a) (.type "dict")
  | dT {a : Addr} {kvs : List (List Key × V)} (e : H a = some (.dT kvs)) : TyOf K H (.ref a) (.type "dict")
  | ins {a C dx : Addr} {fs : List (Str × V)} (e : H a = some (.ins C dx fs)) (cl : Cls K C) (ha : PySem.W.findIn K (.ref C) "__class__" = some (some (.builtin "object.__class__")))
      (hn : PySem.W.specialIn K (.builtin "object.__class__") "__get__" = some (some (.builtin "getset_descriptor.__get__"))) (htk : PySem.W.takesIn K (.builtin "object.__class__") = some true)
      (hm : PySem.W.mroIn K C (.type "object") = some true) : TyOf K H (.ref a) (.ref C)
theorem isinst_ok {x : V} {u t : Value} (I : Inv X pins σ H s) (rx : RelV x u) (ty : TyOf X.K H x t) (e : PySem.W.kitOne X.K t c = some b) (h : ∀ tk, Q (.bool b) { s with toks := tk }) :
    wpAny (model X.prog X.w) A (call (.builtin "isinstance") [u, c]) Q E s := by
  cases ty with
  | non => cases (show u = Value.none from rx); exact PySem.W.kia_one PySem.W.kitx_none I.kIn True.intro e (fun z => nomatch z) h
  | bl y => cases (show u = Value.bool y from rx); exact PySem.W.kia_one PySem.W.kitx_bool I.kIn True.intro e (fun z => nomatch z) h
  | int i => obtain ⟨t, q⟩ := (show ∃ t, u = Value.int i t from rx); cases q; exact PySem.W.kia_one PySem.W.kitx_int I.kIn True.intro e (fun z => nomatch z) h
  | str y => obtain ⟨t, q⟩ := (show ∃ t, u = Value.str y t from rx); cases q; exact PySem.W.kia_one PySem.W.kitx_str I.kIn True.intro e (fun z => nomatch z) h
  | flt y => obtain ⟨t, q⟩ := (show ∃ t, u = Value.float y t from rx); cases q; exact PySem.W.kia_one PySem.W.kitx_float I.kIn True.intro e (fun z => nomatch z) h
  | @lst a xs ea =>
    cases (show u = Value.ref a from rx)
    obtain ⟨_, _, n, _, h1⟩ := (show ObjOk X.prog X.w H s.heap a (.lst xs) from I.hok a _ ea)
    exact PySem.W.kia_one PySem.W.kitx_list I.kIn ⟨_, h1, rfl⟩ e (fun z => nomatch z) h
  | @frz a ob xs ea =>
    cases (show u = Value.ref a from rx)
    obtain ⟨_, _, _, n, _, h1⟩ := (show ObjOk X.prog X.w H s.heap a (.frz ob (.lst xs)) from I.hok a _ ea)
    exact PySem.W.kia_one PySem.W.kitx_list I.kIn ⟨_, h1, rfl⟩ e (fun z => nomatch z) h
  | @tup a xs ea =>
    cases (show u = Value.ref a from rx)
    obtain ⟨_, _, _, p⟩ := (show ObjOk X.prog X.w H s.heap a (.tup xs) from I.hok a _ ea)
    obtain ⟨o, h1, h2, _⟩ := p
    exact PySem.W.kia_one PySem.W.kitx_tuple I.kIn ⟨o, h1, h2⟩ e (fun z => nomatch z) h
  | @dK a kvs ea =>
    cases (show u = Value.ref a from rx)
    obtain ⟨_, _, vs, _, p⟩ := (show ObjOk X.prog X.w H s.heap a (.dK kvs) from I.hok a _ ea)
    obtain ⟨o, es, ep, h1, h2, _⟩ := p
    exact PySem.W.kia_one PySem.W.kitx_dict I.kIn ⟨o, h1, h2.1⟩ e (fun z => nomatch z) h
  | @dT a kvs ea =>
    cases (show u = Value.ref a from rx)
    obtain ⟨_, _, xs, _, o, es, ep, h1, h2, _⟩ := (show ObjOk X.prog X.w H s.heap a (.dT kvs) from I.hok a _ ea)
    exact PySem.W.kia_one PySem.W.kitx_dict I.kIn ⟨o, h1, h2.1⟩ e (fun z => nomatch z) h
  | @ins a C dx fs ea cl ha hn htk hm =>
    cases (show u = Value.ref a from rx)
    obtain ⟨mA, O, _⟩ := ins_get I.hok ea
    obtain ⟨od, J, _⟩ := O.look
    exact PySem.W.kia_one (PySem.W.kitx_own (cl.get _) cl.hd ha hn htk hm) I.kIn J e (fun z => nomatch z) h
end
structure Room (k : Nat) (A : Around) : Prop where
  hd : A.handled = none
  dp : A.depth + 3 * k + 5 < recursionLimit
  un : A.units + 16 * k + 200 < cLine
theorem Room.mono {j k : Nat} {A : Around} (r : Room k A) (h : j ≤ k) : Room j A := ⟨r.hd, by have := r.dp; omega, by have := r.un; omega⟩
theorem Room.deeper {k : Nat} {A : Around} (r : Room (k + 1) A) (env : Env) : Room k (A.deeper env) :=
  ⟨r.hd, by have := r.dp; show A.depth + 1 + 3 * k + 5 < _; omega, by have := r.un; show A.units + 3 + 16 * k + 200 < _; omega⟩
theorem Room.in1 {k : Nat} {A : Around} (r : Room (k + 1) A) : Room k A.in1 :=
  ⟨r.hd, by have := r.dp; show A.depth + 3 * k + 5 < _; omega, by have := r.un; show A.units + 1 + 16 * k + 200 < _; omega⟩
theorem Room.depth {k : Nat} {A : Around} (r : Room k A) : A.depth < recursionLimit := by have := r.dp; omega
theorem Room.units {k : Nat} {A : Around} (r : Room k A) : A.units + 64 < cLine := by have := r.un; omega
noncomputable def tNil : TA := fun ψ H Q => Q [] H
noncomputable def tCons (ta : TE) (tr : TA) : TA := fun σ H Q => ta σ H fun x H1 => tr σ H1 fun xs H2 => Q (x :: xs) H2
section
variable {X : Cx} {e : Expr} {es : List Expr} {te : TE} {t : TA} {pos : Pos}
theorem pa_nil : PA X [] tNil := fun ψ ψ ψ ψ H Q I h => Calls.spliced_nil ⟨[], H, I, .nil, h⟩
theorem pa_cons (ha : PE X e te) (hr : PA X es t) (hs : starEach (e :: es) X.env = (false, eval e X.env) :: starEach es X.env := by rfl) : PA X (e :: es) (tCons te t) := by
  intro pos pins s σ H Q I h
  rw [hs]
  show wpAny _ _ (spliced ((false, eval e X.env) :: backTo pos (starEach es X.env))) _ _ s
  refine Calls.spliced_cons (thn (ha pins s σ H _ I h) fun u s1 ⟨x, H1, I1, r1, q1⟩ => ?_)
  exact thn (hr pos pins s1 σ H1 _ I1 q1) fun us s2 ⟨xs, H2, I2, r2, q2⟩ => ⟨x :: xs, H2, I2, .cons r1 r2, q2⟩
noncomputable def tTup (t : TA) : TE := fun σ H Q => t σ H fun xs H1 => xs.length ≤ sizeLine ∧ ∀ p, H1 p = none → Q (.ref p) (upd H1 p (.tup xs))
noncomputable def tLst (t : TA) : TE := fun σ H Q => t σ H fun xs H1 => xs.length ≤ sizeLine ∧ ∀ p, H1 p = none → Q (.ref p) (upd H1 p (.lst xs))
theorem pe_tup {x1} (h : PA X es t) : PE X (.Tuple es x1 pos) (tTup t) := by
  intro pins s σ H Q I hq
  refine wpAny_Tuple_spliced (thn (h pos pins s σ H _ I hq) fun us s1 ⟨xs, H1, I1, r, z, q⟩ => ⟨by rw [← r.length]; exact z, ?_⟩)
  have hf : H1 s1.heap.objs.size = none := I1.hok.fresh (Nat.le_refl _)
  refine ⟨.ref s1.heap.objs.size, upd H1 s1.heap.objs.size (.tup xs), I1.laid (t' := s1.toks) (fun b u e => Heap.get?_push_of_some _ e) (Nat.le_refl _) ?_, rfl, q _ hf⟩
  exact ⟨z, us, r, ⟨_, Heap.get?_push_size _ rfl, rfl, _, rfl⟩⟩
theorem pe_lst (h : PA X es t) : PE X (.List es pos) (tLst t) := by
  intro pins s σ H Q I hq
  refine wpAny_List_spliced (thn (h pos pins s σ H _ I hq) fun us s1 ⟨xs, H1, I1, r, z, q⟩ => ⟨by rw [← r.length]; exact z, ?_⟩)
  have hf : H1 s1.heap.objs.size = none := I1.hok.fresh (Nat.le_refl _)
  refine ⟨.ref s1.heap.objs.size, upd H1 s1.heap.objs.size (.lst xs), I1.laid (t' := s1.toks) (fun b u e => Heap.get?_push_of_some _ e) (Nat.le_refl _) ?_, rfl, q _ hf⟩
  exact ⟨z, us, 0, r, Heap.get?_push_size _ rfl⟩
end
noncomputable abbrev Sp := List V → Hp → VK → XK → Prop
noncomputable abbrev CXT := List Env → Hp → Shared → XK → Value → Shared → Prop
structure Env0 (P : Program) (w : World) (K : PySem.W.Frag) (mg : L2.SV) (base : Heap) (A : Around) (outer : List Env) (s : Shared) (H : Hp) : Prop where
  frames : A.frames = some outer
  mod : Mod K mg base
  bs : ∀ b o, base.get? b = some o → s.heap.get? b = some o ∧ H b = none
  bsz : base.objs.size ≤ s.heap.objs.size
  funs : s.heap.FunFrames base outer
  frf : ∀ b ∈ frs outer, H b = none
  hok : HOk P w H s.heap
  bare : AllBare s.gens
noncomputable def CE (outer : List Env) (P : Program) (w : World) (H : Hp) (s : Shared) (Q : VK) (u : Value) (s' : Shared) : Prop :=
  ∃ v H', s'.os = s.os ∧ AllBare s'.gens ∧ Un (frs outer) [] H H' s.heap s'.heap ∧ HOk P w H' s'.heap ∧ RelV v u ∧ Q v H'
noncomputable def CR (CX : CXT) (outer : List Env) (P : Program) (w : World) (H : Hp) (s : Shared) (Q : VK) (E : XK) (r : Result) (s' : Shared) : Prop :=
  match r with
  | .ok (.ret u) => CE outer P w H s Q u s'
  | .ok _ => False
  | .error e => CX outer H s E e s'
structure FnOk (P : Program) (w : World) (K : PySem.W.Frag) (mg : L2.SV) (base : Heap) (CX : CXT) (k : Nat) (f : Addr) (fd : FuncData) (ps : List Str) (sp : Sp) : Prop where
  len : ∀ vs H Q E, sp vs H Q E → vs.length = ps.length
  run : ∀ (A : Around) (outer : List Env) (s : Shared) (H : Hp) (args : Args) (us : List Value) (vs : List V) (Q : VK) (E : XK), Room k A → Env0 P w K mg base A outer s H → BindsTo s fd args (ps.zip us) → Vals vs us → sp vs H Q E →
    codeAny (model P w) A (.call (.ref f) args) (CR CX outer P w H s Q E) s
theorem FnOk.mono {P : Program} {w : World} {K : PySem.W.Frag} {mg : L2.SV} {base : Heap} {CX : CXT} {j k : Nat} {f : Addr} {fd : FuncData} {ps : List Str} {sp : Sp} (F : FnOk P w K mg base CX j f fd ps sp) (h : j ≤ k) :
    FnOk P w K mg base CX k f fd ps sp := ⟨F.len, fun A outer s H args us vs Q E hr => F.run A outer s H args us vs Q E (hr.mono h)⟩
theorem FnOk.imp {P : Program} {w : World} {K : PySem.W.Frag} {mg : L2.SV} {base : Heap} {CX : CXT} {k : Nat} {f : Addr} {fd : FuncData} {ps : List Str} {sp sp' : Sp} (F : FnOk P w K mg base CX k f fd ps sp)
    (h : ∀ vs H Q E, sp' vs H Q E → sp vs H Q E) : FnOk P w K mg base CX k f fd ps sp' :=
  ⟨fun vs H Q E q => F.len vs H Q E (h _ _ _ _ q), fun A outer s H args us vs Q E hr he hb hv hs => F.run A outer s H args us vs Q E hr he hb hv (h _ _ _ _ hs)⟩
theorem Env0.in1 {P : Program} {w : World} {K : PySem.W.Frag} {mg : L2.SV} {base : Heap} {A : Around} {outer : List Env} {s : Shared} {H : Hp} (e : Env0 P w K mg base A outer s H) :
    Env0 P w K mg base A.in1 outer s H := ⟨e.frames, e.mod, e.bs, e.bsz, e.funs, e.frf, e.hok, e.bare⟩
section
variable {X : Cx} {pins : List (Addr × Obj)} {σ : St} {H : Hp} {s s' : Shared}
theorem Inv.env0 (I : Inv X pins σ H s) : Env0 X.prog X.w X.K X.mg X.base X.A X.stack s H :=
  ⟨I.ok.frames, I.ok.mod, I.bs, Nat.le_trans I.ok.bsz I.sz, I.stack, I.stkFree, I.hok, I.bare⟩
theorem Inv.after {Q : VK} {u : Value} (I : Inv X pins σ H s) (h : CE X.stack X.prog X.w H s Q u s') : EP X pins σ Q u s' := by
  obtain ⟨v, H', os, bare, un, hok, r, q⟩ := h
  obtain ⟨hh, g, d, t, os'⟩ := s'
  obtain rfl : os' = s.os := os
  exact ⟨v, H', I.call (h' := hh) (g' := g) (d' := d) (t' := t) (ch := []) un hok bare (fun b z => absurd z (by simp)), r, q⟩
end
noncomputable def tCall (sp : Sp) (dvs : List V) (E : XK) (t : TA) : TE := fun σ H Q => t σ H fun vs H1 => sp (vs ++ dvs) H1 Q E
noncomputable def Binds (K : PySem.W.Frag) (fd : FuncData) (ps : List Str) (ds : List Value) : Prop :=
  ∀ (s : Shared) (us : List Value), K.In s.heap → (us ++ ds).length = ps.length → BindsTo s fd ⟨us, []⟩ (ps.zip (us ++ ds))
theorem Binds.all {K : PySem.W.Frag} {fd : FuncData} {ps : List Str} (h : ∀ us : List Value, us.length = ps.length → bindArgs fd ⟨us, []⟩ = pure (ps.zip us)) : Binds K fd ps [] := fun s us ψ hl => by
  rw [List.append_nil] at hl ⊢
  exact .of_eq (h us hl)
noncomputable def Passes (CX : CXT) (X : Cx) (E : XK) : Prop := ∀ (pins : List (Addr × Obj)) (σ : St) (H : Hp) (s : Shared) (e : Value) (s' : Shared), Inv X pins σ H s → CX X.stack H s E e s' → X.xe e s'
section
variable {X : Cx} {CX : CXT} {k : Nat} {f C : Addr} {fd : FuncData} {ps : List Str} {sp : Sp} {dvs : List V} {ds : List Value} {E : XK} {x m : Str} {p pos apos : Pos} {e o : Expr} {es : List Expr} {ta : TE} {t : TA}
theorem run_fn {pins : List (Addr × Obj)} {σ : St} {H : Hp} {s : Shared} {Q : VK} {us : List Value} {vs : List V} (F : FnOk X.prog X.w X.K X.mg X.base CX k f fd ps sp) (hr : Room k X.A) (hb : Binds X.K fd ps ds) (hd : Vals dvs ds) (hx : Passes CX X E)
    (I : Inv X pins σ H s) (r : Vals vs us) (h : sp (vs ++ dvs) H Q E) : wpAny (model X.prog X.w) X.A (call (.ref f) us) (EP X pins σ Q) X.xe s := by
  have r2 : Vals (vs ++ dvs) (us ++ ds) := r.append hd
  have hl : (us ++ ds).length = ps.length := by rw [← r2.length]; exact F.len _ _ _ _ h
  refine wpAny_call (codeAny_mono (F.run X.A X.stack s H ⟨us, []⟩ (us ++ ds) (vs ++ dvs) Q E hr I.env0 (hb s us I.kIn hl) r2 h) fun r s' hq => ?_)
  cases r with
  | error e => exact hx pins σ H s e s' I hq
  | ok fl =>
    cases fl with
    | ret u => exact I.after hq
    | next => exact False.elim hq
    | brk => exact False.elim hq
    | cont => exact False.elim hq
theorem pe_call (F : FnOk X.prog X.w X.K X.mg X.base CX k f fd ps sp) (hr : Room k X.A) (hg : Gl X x) (hm : X.mg x = some (.ref f)) (hk : PySem.W.keepIn X.K (.ref f) = true) (hb : Binds X.K fd ps ds) (hd : Vals dvs ds) (hx : Passes CX X E)
    (ha : PA X (e :: es) t) (hdb : (x == ("__debug__" : Str)) = false := by decide) (he : starEach (e :: es) X.env = (false, eval e X.env) :: starEach es X.env := by rfl) (hpl : (backTo pos (starEach es X.env)).any (·.1) = false := by rfl) :
    PE X (.Call (.Name x p) (e :: es) [] pos) (tCall sp dvs E t) := by
  intro pins s σ H Q I h
  refine wpAny_Call_Name_kw (ld_glob I hg hm ?_ hdb)
  refine PySem.W.callWith_K (h₀ := X.base) I.ok.mod.kin hk (thn (ha pos pins s σ H _ I h) fun us s1 ⟨vs, H1, I1, r, q⟩ => ⟨I1.kIn, ?_⟩) he hpl
  exact run_fn F hr hb hd hx I1 r q
end
section
variable {X : Cx} {CX : CXT} {k : Nat} {f C : Addr} {fd : FuncData} {ps ks : List Str} {sp : Sp} {E : XK} {x m : Str} {p pos apos kpos : Pos} {e o : Expr} {es : List Expr} {kws : List Keyword} {te ta : TE} {t tk : TA} {nm : Option Str}
variable {g : List Value → List Value → List Value} {gV : List V → List V → List V}
end
structure FnScope (N P : List Str) (sc : Scope) : Prop where
  kind : sc.kind = .function
  co : sc.isCoroutine = false
  gen : sc.isGenerator = false
  nd : N.Nodup
  pre : N.take P.length = P
  par : ∀ x ∈ P, sc.names.lookup x = some .local ∨ sc.names.lookup x = some .cell
  nofree : ∀ y ∈ sc.names, y.2 ≠ .free
theorem bindL_out {kindOf : Str → Option NameKind} {x : Str} : ∀ {binds : List (Str × Value)} {m : L2.SV}, (∀ v, (x, v) ∉ binds) → bindL kindOf binds m x = m x
  | [], _, _ => rfl
  | (n, v) :: r, m, h => by
    unfold bindL
    rw [bindL_out fun w hw => h w (List.mem_cons_of_mem _ hw)]
    split
    · have : x ≠ n := by rintro rfl; exact h v List.mem_cons_self
      simp [this]
    · rfl
theorem bindC_out {kindOf : Str → Option NameKind} {x : Str} : ∀ {binds : List (Str × Value)} {m : L2.SV}, (∀ v, (x, v) ∉ binds) → bindC kindOf binds m x = m x
  | [], _, _ => rfl
  | (n, v) :: r, m, h => by
    unfold bindC
    rw [bindC_out fun w hw => h w (List.mem_cons_of_mem _ hw)]
    split
    · rfl
    · have : x ≠ n := by rintro rfl; exact h v List.mem_cons_self
      simp [this]
theorem bindL_get {kindOf : Str → Option NameKind} {x : Str} {v : Value} : ∀ {P : List Str} {vs : List Value} {i : Nat} {m : L2.SV}, P.Nodup → P[i]? = some x → vs[i]? = some v → kindOf x = some .local →
    bindL kindOf (P.zip vs) m x = some v
  | [], _, _, _, _, h, _, _ => by simp at h
  | _ :: _, [], _, _, _, _, h, _ => by simp at h
  | p :: P, w :: vs, 0, m, nd, h1, h2, hk => by
    simp at h1 h2; subst h1; subst h2
    show bindL kindOf ((p, w) :: P.zip vs) m p = _
    unfold bindL
    rw [bindL_out fun v hv => (List.nodup_cons.mp nd).1 (List.of_mem_zip hv).1, if_pos hk]
    simp
  | p :: P, w :: vs, i + 1, m, nd, h1, h2, hk => by
    show bindL kindOf ((p, w) :: P.zip vs) m x = _
    unfold bindL
    exact bindL_get (i := i) (List.nodup_cons.mp nd).2 (by simpa using h1) (by simpa using h2) hk
theorem bindC_get {kindOf : Str → Option NameKind} {x : Str} {v : Value} : ∀ {P : List Str} {vs : List Value} {i : Nat} {m : L2.SV}, P.Nodup → P[i]? = some x → vs[i]? = some v → kindOf x ≠ some .local →
    bindC kindOf (P.zip vs) m x = some v
  | [], _, _, _, _, h, _, _ => by simp at h
  | _ :: _, [], _, _, _, _, h, _ => by simp at h
  | p :: P, w :: vs, 0, m, nd, h1, h2, hk => by
    simp at h1 h2; subst h1; subst h2
    show bindC kindOf ((p, w) :: P.zip vs) m p = _
    unfold bindC
    rw [bindC_out fun v hv => (List.nodup_cons.mp nd).1 (List.of_mem_zip hv).1, if_neg hk]
    simp
  | p :: P, w :: vs, i + 1, m, nd, h1, h2, hk => by
    show bindC kindOf ((p, w) :: P.zip vs) m x = _
    unfold bindC
    exact bindC_get (i := i) (List.nodup_cons.mp nd).2 (by simpa using h1) (by simpa using h2) hk
noncomputable def start (N : List Str) (vs : List V) : St := vs.map some ++ List.replicate (N.length - vs.length) none
noncomputable def cxOf (CX : CXT) (P : Program) (w : World) (K : PySem.W.Frag) (mg : L2.SV) (base : Heap) (N : List Str) (qual : Str) (scope : Scope) (f : Addr) (cd : Value) (A : Around) (outer : List Env) (s : Shared) (H : Hp) (E : XK) : Cx where
  prog := P
  w := w
  K := K
  mg := mg
  base := base
  A := A.deeper (envOfC qual scope s.heap.objs.size f cd)
  N := N
  s₀ := s
  H₀ := H
  env := envOfC qual scope s.heap.objs.size f cd
  outer := outer
  stack := envOfC qual scope s.heap.objs.size f cd :: outer
  ex := []
  calm := true
  fn := fun ψ => true
  pn := []
  xe := fun e s' => wpAny (model P w) (A.deeper (envOfC qual scope s.heap.objs.size f cd)) (leaving (envOfC qual scope s.heap.objs.size f cd) e) (fun ψ s'' => CX outer H s E e s'') (fun e' s'' => CX outer H s E e' s'') s'
theorem cell_has {sc : Scope} {n : Nat} {x : Str} (h : sc.names.lookup x = some .cell) : ∃ c, (cellsFrom n sc.names []).lookup x = some c := by
  have q := PySem.W.cellsFrom_some sc.names n [] (.inl h)
  exact Option.isSome_iff_exists.mp q
theorem inv_start {CX : CXT} {P : Program} {w : World} {K : PySem.W.Frag} {mg : L2.SV} {base : Heap} {N ps : List Str} {qual : Str} {scope : Scope} {f : Addr} {cd : Value} {A : Around} {outer : List Env} {s s1 : Shared} {H : Hp} {E : XK} {us : List Value} {vs : List V}
    (S : FnScope N ps scope) (hd : A.handled = none) (e0 : Env0 P w K mg base A outer s H) (hl : vs.length = ps.length) (r : Vals vs us)
    (x : InCallC s s.heap.objs.size (bindL (envOfC qual scope s.heap.objs.size f cd).kindOf (ps.zip us) fun ψ => none) (cellsFrom (s.heap.objs.size + 1) scope.names []) (bindC (envOfC qual scope s.heap.objs.size f cd).kindOf (ps.zip us) fun ψ => none) s1) :
    Inv (cxOf CX P w K mg base N qual scope f cd A outer s H E) [] (start N vs) H s1 := by
  have hpl : ps.length ≤ N.length := by have := congrArg List.length S.pre; rw [List.length_take] at this; omega
  obtain ⟨h1, tk, rfl, hk⟩ := x.done
  have noA : ∀ b : Addr, b ∉ (cxOf CX P w K mg base N qual scope f cd A outer s H E).ex := fun b z => absurd (show b ∈ ([] : List Addr) from z) (by simp)
  refine ⟨⟨e0.mod, S.kind, rfl, rfl, Nat.le_refl _, fun y z c h1 h2 => ?_, fun y hy => ?_, fun y c ψ h => ?_, fun ψ => hd, Around.frames_deeper e0.frames, .inr ⟨rfl, rfl⟩, fun b z => absurd z (noA b), e0.bs, e0.bsz, fun b ψ ψ => noA b, fun b z => absurd z (noA b), e0.funs, e0.frf⟩,
    rfl, e0.bare, Un.kept hk, ⟨_, x.toInCall.ns, fun i y v h1 h2 h3 => ?_⟩, fun y c h => ⟨_, x.cell y c h⟩, e0.hok.fresh (Nat.le_refl _), fun y c h => ?_, fun p hp => absurd (show p ∈ ([] : List (Addr × Obj)) from hp) (by simp), e0.hok.kept hk, ?_⟩
  · exact name_of_addr x.apart (PySem.mem_of_lookup h1) (PySem.mem_of_lookup h2)
  · have hy : scope.names.lookup y = some .cell ∨ scope.names.lookup y = some .free := hy
    rcases hy with hy | hy
    · exact cell_has hy
    · exact absurd rfl (S.nofree _ (PySem.mem_of_lookup hy))
  · exact Nat.le_of_lt (x.above y c (PySem.mem_of_lookup h))
  · have hi : i < vs.length := by
      unfold start at h2
      by_cases hi : i < vs.length
      · exact hi
      · rw [List.getElem?_append_right (by simpa using hi)] at h2
        rw [List.getElem?_replicate] at h2
        split at h2 <;> cases h2
    have ha : vs[i]? = some v := by
      unfold start at h2
      rw [List.getElem?_append_left (by simpa using hi), List.getElem?_map] at h2
      cases e : vs[i]? with
      | none => rw [e] at h2; cases h2
      | some a => rw [e] at h2; cases h2; rfl
    obtain ⟨u, hu, rv⟩ := r.get ha
    have hp : ps[i]? = some y := by
      rw [← S.pre, List.getElem?_take_of_lt (by omega)]; exact h1
    have ndP : ps.Nodup := by rw [← S.pre]; exact S.nd.sublist (List.take_sublist _ _)
    refine ⟨u, rv, ?_⟩
    rcases S.par y (List.mem_of_getElem? hp) with k | k
    · exact .inl ⟨k, bindL_get ndP hp hu k⟩
    · obtain ⟨c, e⟩ := cell_has (n := s.heap.objs.size + 1) k
      refine .inr ⟨.inl k, c, e, ?_⟩
      have q := x.cell y c e
      rw [bindC_get ndP hp hu (by show scope.names.lookup y ≠ _; rw [k]; decide)] at q
      exact q
  · exact e0.hok.fresh (Nat.le_of_lt (x.above y c (PySem.mem_of_lookup h)))
  · unfold start
    show _ = N.length
    rw [List.length_append, List.length_map, List.length_replicate]
    omega
theorem fn_of {CX : CXT} {P : Program} {w : World} {K : PySem.W.Frag} {mg : L2.SV} {base : Heap} {k : Nat} {f : Addr} {name qual : Str} {params : Arguments} {body : List Stmt} {scope : Scope} {dV kV doc pm cdv ct oc : Value} {an od : Option Addr}
    {osl : Array (Option Value)} {N ps : List Str} {sp : Sp} (lk : K.lookup f = some ⟨oc, od, .func (PySem.W.fnOf name qual params body scope dV kV doc pm an cdv ct), osl⟩) (hcd : PySem.W.codeIn K cdv qual = true) (S : FnScope N ps scope)
    (len : ∀ vs H Q E, sp vs H Q E → vs.length = ps.length)
    (hbody : ∀ (A : Around) (outer : List Env) (s : Shared) (H : Hp) (vs : List V) (Q : VK) (E : XK), Room k (A.deeper (envOfC qual scope s.heap.objs.size f cdv)) → sp vs H Q E →
      ∃ t, PSs (cxOf CX P w K mg base N qual scope f cdv A outer s H E) body t ∧ t { nx := fun ψ H' => Q .non H', rt := Q } (start N vs) H) :
    FnOk P w K mg base CX (k + 1) f (PySem.W.fnOf name qual params body scope dV kV doc pm an cdv ct) ps sp := by
  refine ⟨len, fun A outer s H args us vs Q E hr e0 hb r hsp => ?_⟩
  have hl := len _ _ _ _ hsp
  have KX : K.In s.heap := e0.mod.kin.keeps fun b o e => (e0.bs b o e).1
  have lim : s.heap.NoLimit := e0.mod.nolimit.keeps fun b o e => (e0.bs b o e).1
  have hkind : ∀ y ∈ ps.zip us, scope.names.lookup y.1 = some .local ∨ (scope.names.lookup y.1 = some .cell ∧ ((cellsFrom (s.heap.objs.size + 1) scope.names []).lookup y.1).isSome = true) := fun ⟨n, v⟩ hy => by
    rcases S.par n (List.of_mem_zip hy).1 with q | q
    · exact .inl q
    · exact .inr ⟨q, PySem.W.cellsFrom_some _ _ _ (.inl q)⟩
  refine codeAny_call_function hr.depth (KX _ _ lk) rfl S.co S.gen rfl (PySem.W.codeRec_of KX hcd) (hb _ _ _ _ ?_)
  refine wpAny_newFunctionEnv_cells S.kind hkind fun env he s1 x => ?_
  subst he
  refine ⟨lim.keeps x.toInCall.keep, codeAny_func ?_⟩
  obtain ⟨t, ht, hq⟩ := hbody A outer s H vs Q E (hr.deeper _) hsp
  have I : Inv (cxOf CX P w K mg base N qual scope f cdv A outer s H E) [] (start N vs) H s1 := inv_start S hr.hd e0 hl r x
  refine wpAny_mono (ht [] s1 (start N vs) H _ I hq) (fun fl s' hs => ?_) fun e s' hs => hs
  have fin : ∀ {σ' : St} {H' : Hp} {v : V} {u : Value}, Inv (cxOf CX P w K mg base N qual scope f cdv A outer s H E) [] σ' H' s' → RelV v u → Q v H' → CE outer P w H s Q u s' :=
    fun {σ' H' v u} J rv q => ⟨v, H', J.os, J.bare, J.base, J.hok, rv, q⟩
  cases fl with
  | ret u =>
    obtain ⟨v, σ', H', J, rv, q⟩ := hs
    exact fin J rv q
  | next =>
    obtain ⟨σ', H', J, q⟩ := hs
    exact fin (v := V.non) (u := Value.none) J rfl q
  | brk =>
    obtain ⟨_, _, _, q⟩ := hs
    exact False.elim q
  | cont =>
    obtain ⟨_, _, _, q⟩ := hs
    exact False.elim q
section
variable {X : Cx} {x : Str} {p pos : Pos} {e : Expr} {es : List Expr} {t : TA} {id T : String} {r : List V → Hp → VK → Prop}
noncomputable def tCB (r : List V → Hp → VK → Prop) (t : TA) : TE := fun σ H Q => t σ H fun vs H1 => r vs H1 Q
theorem pe_callB (hc : CallR X (.builtin id) r) (hg : Gl X x) (hm : X.mg x = none) (hv : bootBuiltins x = some (.builtin id)) (ha : PA X (e :: es) t) (hn : x ≠ "__name__" := by decide) (hdb : (x == ("__debug__" : Str)) = false := by decide)
    (he : starEach (e :: es) X.env = (false, eval e X.env) :: starEach es X.env := by rfl) (hpl : (backTo pos (starEach es X.env)).any (·.1) = false := by rfl) : PE X (.Call (.Name x p) (e :: es) [] pos) (tCB r t) := by
  intro pins s σ H Q I h
  refine wpAny_Call_Name_kw (ld_blt I hg hm hv ?_ hn hdb)
  exact PyProof.Rows.callWith_builtin1 (thn (ha pos pins s σ H _ I h) fun us s1 ⟨vs, H1, I1, r1, q1⟩ => hc pins s1 σ H1 vs us Q I1 r1 q1) he hpl
theorem pe_callTy (hc : CallR X (.type T) r) (hg : Gl X x) (hm : X.mg x = none) (hv : bootBuiltins x = some (.type T)) (ha : PA X (e :: es) t) (hn : x ≠ "__name__" := by decide) (hdb : (x == ("__debug__" : Str)) = false := by decide)
    (he : starEach (e :: es) X.env = (false, eval e X.env) :: starEach es X.env := by rfl) (hpl : (backTo pos (starEach es X.env)).any (·.1) = false := by rfl) : PE X (.Call (.Name x p) (e :: es) [] pos) (tCB r t) := by
  intro pins s σ H Q I h
  refine wpAny_Call_Name_kw (ld_blt I hg hm hv ?_ hn hdb)
  exact PyProof.Rows.callWith_type1 (thn (ha pos pins s σ H _ I h) fun us s1 ⟨vs, H1, I1, r1, q1⟩ => hc pins s1 σ H1 vs us Q I1 r1 q1) he hpl
end
end L2
namespace HT
open PySem PyProof.Rows
section
open PySem.SeqAt
open PySem.AutoSeq1 (wpAny_loadPart')
open PySem.MeetsSeq PySem.MeetsSeq2 PySem.MeetsSeq3
end
section
variable {prog : Program} {w : World} {A : Around} {E : L2.VSP} {s : Shared}
theorem cat_tup {t b : Addr} {vs ws : List Value} {Q : L2.VSP} (ht : IsTup s.heap t vs.toArray) (hb : IsTup s.heap b ws.toArray) (hv : vs ≠ [])
    (h1 : ws = [] → Q (.ref t) s) (h2 : ws ≠ [] → Q (.ref s.heap.objs.size) { s with heap := s.heap.push { cls := .type "tuple", data := .seq (vs ++ ws).toArray } })
    (hsz : vs.length + ws.length ≤ sizeLine) : wpAny (model prog w) A (binaryOp .Add (.ref t) (.ref b)) Q E s := by
  obtain ⟨⟨cls, dd, data, sl⟩, ho, hc, n, hd⟩ := id ht
  obtain ⟨⟨cls2, dd2, data2, sl2⟩, ho2, hc2, n2, hd2⟩ := id hb
  simp only at hc hd hc2 hd2
  subst hc hd hc2 hd2
  have e : vs.toArray ++ ws.toArray = (vs ++ ws).toArray := by simp
  by_cases hw : ws = []
  · exact concat_meets ⟨_, ho, rfl⟩ ⟨_, ho2, rfl⟩ noFill_tuple_add seq_tuple_add PySem.F.slot_tuple_add PySem.F.entry_tuple_add (PySem.F.args_tuple_add_2 _ _)
      (tuple_addW1 t b vs.toArray ws.toArray n n2 dd dd2 sl sl2 (by simpa using hv) (by simp [hw])) ⟨ho, ho2, h1 hw⟩
  · refine concat_meets ⟨_, ho, rfl⟩ ⟨_, ho2, rfl⟩ noFill_tuple_add seq_tuple_add PySem.F.slot_tuple_add PySem.F.entry_tuple_add (PySem.F.args_tuple_add_2 _ _)
      (tuple_addW2 t b vs.toArray ws.toArray n n2 dd dd2 sl sl2 (by simpa using hv) (by simpa using hw) (by rw [List.size_toArray, List.size_toArray]; exact hsz)) ⟨ho, ho2, ?_⟩
    rw [e]
    exact h2 hw
noncomputable def sIx (n d : Nat) : Option Int → Nat
  | none => d
  | some v => if v < 0 then (v + (n : Int)).toNat else min v.toNat n
theorem sIx_nat (n d k : Nat) : sIx n d (some (k : Int)) = min k n := by
  show (if (k : Int) < 0 then ((k : Int) + (n : Int)).toNat else min (k : Int).toNat n) = min k n
  rw [if_neg (by omega), Int.toNat_natCast]
theorem sIx_le (n d : Nat) (hd : d ≤ n) (o : Option Int) : sIx n d o ≤ n := by
  cases o with
  | none => exact hd
  | some v =>
    show (if v < 0 then (v + (n : Int)).toNat else min v.toNat n) ≤ n
    by_cases hv : v < 0
    · rw [if_pos hv]; omega
    · rw [if_neg hv]; exact Nat.min_le_right _ _
theorem clip_eq (v : Int) (n d : Nat) : (if v < 0 then max (v + (n : Int)) 0 else min v (n : Int)) = ((sIx n d (some v) : Nat) : Int) := by
  show (if v < 0 then max (v + (n : Int)) 0 else min v (n : Int)) = (((if v < 0 then (v + (n : Int)).toNat else min v.toNat n) : Nat) : Int)
  by_cases hv : v < 0
  · simp only [if_pos hv]; omega
  · simp only [if_neg hv]; omega
theorem adjust_gen (lo hi : Option Int) (n : Nat) : Builtin.Slice.sliceAdjust lo hi 1 (n : Int) = (((sIx n 0 lo : Nat) : Int), ((sIx n n hi : Nat) : Int)) := by
  have h1 : ¬ ((1 : Int) < 0) := by omega
  unfold Builtin.Slice.sliceAdjust
  simp only [h1, if_false]
  refine Prod.ext ?_ ?_
  · cases lo with
    | none => rfl
    | some v => exact clip_eq v n 0
  · cases hi with
    | none => rfl
    | some v => exact clip_eq v n n
theorem places_gen (i j : Nat) : Builtin.Slice.slicePlaces (i : Int) (j : Int) 1 = j - i := by
  unfold Builtin.Slice.slicePlaces
  have h1 : (1 : Int) > 0 := by omega
  simp only [h1, if_true, Int.ediv_one]
  split <;> omega
theorem slicePart_ {v : Value} {o : Option Int} {Q : Option Int → Shared → Prop} (p : IsPart v o) (h : Q o s) : wpAny (model prog w) A (Builtin.Slice.slicePartIndex v) Q E s := by
  cases p with
  | none => exact slicePart_none h
  | int i t => exact slicePart_int h
theorem sliceApplied_gen {sl : Addr} {vl vu : Value} {lo hi : Option Int} {n : Nat} {Q : Int × Int × Nat → Shared → Prop} (hs : s.heap.IsSliceOf sl vl vu .none) (pl : IsPart vl lo) (pu : IsPart vu hi)
    (h : Q (((sIx n 0 lo : Nat) : Int), 1, sIx n n hi - sIx n 0 lo) s) : wpAny (model prog w) A (Builtin.Slice.sliceApplied (.ref sl) (pure (n : Int))) Q E s := by
  obtain ⟨os, hos, hcs, hds⟩ := id hs
  unfold Builtin.Slice.sliceApplied Builtin.Slice.sliceFields
  refine wpAny_bind (wpAny_bind (wpAny_field hos hds (x := vl) rfl (wpAny_bind (wpAny_field hos hds (x := vu) rfl (wpAny_bind (wpAny_field hos hds (x := .none) rfl (wpAny_pure ?_)))))))
  refine wpAny_bind (slicePart_none ?_)
  show wpAny _ _ (if ((1 : Int) == 0) = true then _ else _) _ _ s
  rw [if_neg (by decide)]
  refine wpAny_bind (slicePart_ pl (wpAny_bind (slicePart_ pu (wpAny_bind (wpAny_pure ?_)))))
  show wpAny _ _ (match Builtin.Slice.sliceAdjust lo hi 1 (n : Int) with | (lo, hi) => pure (lo, (1 : Int), Builtin.Slice.slicePlaces lo hi 1)) _ _ s
  rw [adjust_gen lo hi n]
  show wpAny _ _ (pure (((sIx n 0 lo : Nat) : Int), (1 : Int), Builtin.Slice.slicePlaces ((sIx n 0 lo : Nat) : Int) ((sIx n n hi : Nat) : Int) 1)) _ _ s
  rw [places_gen]
  exact wpAny_pure h
theorem pick_gen (xs : Array Value) (i k : Nat) : ((List.range k).filterMap fun (m : Nat) => xs[((i : Int) + (m : Int) * 1).toNat]?).toArray = ((xs.toList.drop i).take k).toArray := by
  have e : (fun (m : Nat) => xs[((i : Int) + (m : Int) * 1).toNat]?) = fun m => xs[i + m]? := by
    funext m
    have : ((i : Int) + (m : Int) * 1).toNat = i + m := by omega
    rw [this]
  rw [e]
  have := pick_run xs i k
  rw [List.filterMap_map] at this
  have e2 : ((fun x => xs[x]?) ∘ fun x => i + x) = fun m => xs[i + m]? := rfl
  rw [e2] at this
  rw [this]
theorem getItem_tuple_cut {t sl : Addr} {items : Array Value} {vl vu : Value} {lo hi : Option Int} {Q : L2.VSP} (ht : IsTup s.heap t items) (hs : s.heap.IsSliceOf sl vl vu .none) (pl : IsPart vl lo) (pu : IsPart vu hi)
    (hw : ¬ (sIx items.size 0 lo = 0 ∧ sIx items.size items.size hi = items.size))
    (h : Q (.ref s.heap.objs.size) { s with heap := s.heap.push { cls := .type "tuple", data := .seq ((items.toList.drop (sIx items.size 0 lo)).take (sIx items.size items.size hi - sIx items.size 0 lo)).toArray } })
    (hsz : items.size ≤ sizeLine) : wpAny (model prog w) A (getItem (.ref t) (.ref sl)) Q E s := by
  have htake : sizeOk (.seq ((items.toList.drop (sIx items.size 0 lo)).take (sIx items.size items.size hi - sIx items.size 0 lo)).toArray) := by
    show ((items.toList.drop (sIx items.size 0 lo)).take (sIx items.size items.size hi - sIx items.size 0 lo)).toArray.size ≤ sizeLine
    rw [List.size_toArray, List.length_take, List.length_drop, Array.length_toList]
    omega
  have hj : sIx items.size items.size hi ≤ items.size := sIx_le _ _ (Nat.le_refl _) hi
  obtain ⟨os, hos, hcs, hds⟩ := id hs
  have hTs : s.TypeIs (.ref sl) "slice" := ⟨os, hos, hcs⟩
  unfold getItem
  try with_reducible refine wpAny_holding ?_
  first | refine wpAny_bind (wpAny_pure ?_) | skip
  refine wpAny_bind (wpAny_sequenceKey ht.typeIs (by decide) ?_)
  refine wpAny_bind (wpAny_callSpecial?_slot (name := Str.ofString "__getitem__") ht.typeIs PyProof.Rows.slot_tuple_getitem
    (wpAny_call_entry PyProof.Rows.slot_tuple_getitem ht.typeIs entry_tuple_getitem ?_ (args_tuple_getitem _ _)))
  show wpAny _ _ (Builtin.Tuple.tupleItemsOf (.ref t) >>= _) _ _ s
  refine wpAny_bind (tupleItemsOf_ ht ?_)
  refine wpAny_bind (wpAny_typeOf hTs ?_)
  rw [if_pos (by decide)]
  refine wpAny_bind (sliceApplied_gen hs pl pu ?_)
  have hno : ¬ ((((sIx items.size 0 lo : Nat) : Int) == 0 && (1 : Int) == 1 && (sIx items.size items.size hi - sIx items.size 0 lo) == items.size) = true) := by
    intro q
    rw [Bool.and_eq_true, Bool.and_eq_true] at q
    have q1 : ((sIx items.size 0 lo : Nat) : Int) = 0 := eq_of_beq q.1.1
    have q2 : sIx items.size items.size hi - sIx items.size 0 lo = items.size := eq_of_beq q.2
    exact hw ⟨by omega, by omega⟩
  show wpAny _ _ (if (((sIx items.size 0 lo : Nat) : Int) == 0 && (1 : Int) == 1 && (sIx items.size items.size hi - sIx items.size 0 lo) == items.size) = true then _ else _) _ _ s
  rw [if_neg hno, pick_gen]
  first
    | exact wpAny_bind (m := Builtin.Tuple.tupleExact _) (wpAny_newObj_type (wpAny_pure ⟨_, rfl, wpAny_pure h⟩) htake)
    | exact wpAny_bind (m := Builtin.Tuple.tupleExact _) (wpAny_newObj_type (wpAny_bind (wpAny_pure (wpAny_pure ⟨_, rfl, wpAny_pure h⟩))) htake)
    | exact wpAny_bind (wpAny_bind (m := Builtin.Tuple.tupleExact _) (wpAny_newObj_type (wpAny_pure (wpAny_pure ⟨_, rfl, wpAny_pure h⟩)) htake))
    | exact wpAny_bind (wpAny_bind (m := Builtin.Tuple.tupleExact _) (wpAny_newObj_type (wpAny_pure ⟨_, rfl, wpAny_pure h⟩) htake))
end
end HT
namespace L2
open PySem PySem.Spec PyProof.Rows
noncomputable abbrev TO := St → Hp → (Option Int → Hp → Prop) → Prop
noncomputable def PO (X : Cx) (e : Option Expr) (t : TO) : Prop :=
  ∀ (pins : List (Addr × Obj)) (s : Shared) (σ : St) (H : Hp) (Q : Option Int → Hp → Prop), Inv X pins σ H s → t σ H Q →
    wpAny (model X.prog X.w) X.A (evalPart e X.env) (fun u s' => ∃ o H', Inv X pins σ H' s' ∧ IsPart u o ∧ Q o H') X.xe s
noncomputable def tNoPart : TO := fun ψ H Q => Q none H
noncomputable def tPart (t : TE) : TO := fun σ H Q => t σ H fun x H1 => ∃ i, x = .int i ∧ Q (some i) H1
section
variable {X : Cx} {e : Expr} {te : TE} {lo hi : Option Expr} {tl th : TO} {pos p2 : Pos}
theorem po_none : PO X none tNoPart := by
  intro pins s σ H Q I h
  rw [evalPart_none]
  exact wpAny_pure ⟨none, H, I, .none, h⟩
theorem po_some (h : PE X e te) : PO X (some e) (tPart te) := by
  intro pins s σ H Q I hw
  rw [evalPart_some]
  refine thn (h pins s σ H _ I hw) fun u s1 ⟨x, H1, I1, r1, q1⟩ => ?_
  obtain ⟨i, rfl, q⟩ := q1
  obtain ⟨t, rfl⟩ := r1
  exact ⟨some i, H1, I1, .int i t, q⟩
noncomputable def SlR (X : Cx) (r : V → Option Int → Option Int → Hp → VK → Prop) : Prop :=
  ∀ (pins : List (Addr × Obj)) (s : Shared) (σ : St) (H : Hp) (x : V) (v vl vu : Value) (lo hi : Option Int) (sl : Addr) (Q : VK), Inv X pins σ H s → RelV x v → s.heap.IsSliceOf sl vl vu .none → IsPart vl lo → IsPart vu hi → r x lo hi H Q →
    ∃ T id, typeLookup (.type T) "__getitem__" = pure (some (.builtin id)) ∧ s.TypeIs v T ∧ wpAny (model X.prog X.w) X.A (getItem v (.ref sl)) (EP X pins σ Q) X.xe s
theorem SlR.or {r r' : V → Option Int → Option Int → Hp → VK → Prop} (h : SlR X r) (h' : SlR X r') : SlR X (fun x lo hi H Q => r x lo hi H Q ∨ r' x lo hi H Q) := by
  intro pins s σ H x v vl vu lo hi sl Q I rx hs pl pu q
  rcases q with q | q
  · exact h pins s σ H x v vl vu lo hi sl Q I rx hs pl pu q
  · exact h' pins s σ H x v vl vu lo hi sl Q I rx hs pl pu q
noncomputable def tSl (r : V → Option Int → Option Int → Hp → VK → Prop) (te : TE) (tl th : TO) : TE := fun σ H Q => te σ H fun x H1 => tl σ H1 fun l H2 => th σ H2 fun u H3 => r x l u H3 Q
theorem pe_slice {r : V → Option Int → Option Int → Hp → VK → Prop} (hr : SlR X r) (he : PE X e te) (hl : PO X lo tl) (hu : PO X hi th) : PE X (.Subscript e (.Slice lo hi none p2) pos) (tSl r te tl th) := by
  intro pins s σ H Q I h
  refine Subscript_ (thn (he pins s σ H _ I h) fun v s1 ⟨x, H1, I1, r1, q1⟩ => ?_)
  refine wpAny_Slice (thn (hl pins s1 σ H1 _ I1 q1) fun vl s2 ⟨l, H2, I2, pl, q2⟩ => thn (hu pins s2 σ H2 _ I2 q2) fun vu s3 ⟨u, H3, I3, pu, q3⟩ => ?_)
  rw [evalPart_none]
  refine wpAny_pure ?_
  have I4 : Inv X pins σ H3 { s3 with heap := s3.heap.push { cls := .type "slice", data := .fields #[vl, vu, .none] } } := I3.kept (t' := s3.toks) fun b ob q => Heap.get?_push_of_some _ q
  obtain ⟨T, id, hT, ht, hg⟩ := hr pins { s3 with heap := s3.heap.push { cls := .type "slice", data := .fields #[vl, vu, .none] } } σ H3 x v vl vu l u s3.heap.objs.size Q I4 r1 (Heap.IsSliceOf.new ..) pl pu q3
  show wpAny (model X.prog X.w) X.A (subscriptTail e (.Slice lo hi none p2) v (.ref s3.heap.objs.size)) (EP X pins σ Q) X.xe { s3 with heap := s3.heap.push { cls := .type "slice", data := .fields #[vl, vu, .none] } }
  exact tail_any (ops := [.ref s3.heap.objs.size, v]) ht hT hg (by with_unfolding_all rfl)
noncomputable def cutV (xs : List V) (lo hi : Option Int) : List V := (xs.drop (HT.sIx xs.length 0 lo)).take (HT.sIx xs.length xs.length hi - HT.sIx xs.length 0 lo)
theorem cutV_length (xs : List V) (lo hi : Option Int) : (cutV xs lo hi).length ≤ xs.length := by
  unfold cutV
  rw [List.length_take, List.length_drop]
  omega
noncomputable def rSlT (K : PySem.W.Frag) : V → Option Int → Option Int → Hp → VK → Prop := fun x lo hi H Q => ∃ a xs, x = .ref a ∧ SqT K H a xs ∧
  ¬ (HT.sIx xs.length 0 lo = 0 ∧ HT.sIx xs.length xs.length hi = xs.length) ∧ ∀ p, H p = none → Q (.ref p) (upd H p (.tup (cutV xs lo hi)))
theorem sl_tup : SlR X (rSlT X.K) := by
  intro pins s σ H x v vl vu lo hi sl Q I rx hs pl pu h
  obtain ⟨a, xs, rfl, hx, hw, q⟩ := h
  cases rx
  obtain ⟨its, r, ht, hz⟩ := I.tuple hx
  have hlen : its.toArray.size = xs.length := by rw [List.size_toArray]; exact r.length.symm
  refine ⟨"tuple", _, PyProof.Rows.slot_tuple_getitem.lookup, ht.typeIs, ?_⟩
  refine HT.getItem_tuple_cut ht hs pl pu (by rw [hlen]; exact hw) ?_ (by rw [hlen]; exact hz)
  rw [hlen]
  refine ⟨.ref s.heap.objs.size, _, I.laid (t' := s.toks) (o := .tup (cutV xs lo hi)) (fun b ob q => Heap.get?_push_of_some _ q) (Nat.le_refl _) ?_, rfl, q _ (I.hok.fresh (Nat.le_refl _))⟩
  exact ⟨Nat.le_trans (cutV_length xs lo hi) hz, _, (r.drop (HT.sIx xs.length 0 lo)).take (HT.sIx xs.length xs.length hi - HT.sIx xs.length 0 lo), IsTup.new _ _⟩
noncomputable def rCatT (K : PySem.W.Frag) : R2 := fun x y H Q => ∃ a b xs ys, x = .ref a ∧ y = .ref b ∧ SqT K H a xs ∧ SqT K H b ys ∧ xs ≠ [] ∧ xs.length + ys.length ≤ sizeLine ∧
  (ys = [] → Q (.ref a) H) ∧ (ys ≠ [] → ∀ p, H p = none → Q (.ref p) (upd H p (.tup (xs ++ ys))))
theorem Vals.nil_iff {xs : List V} {us : List Value} (r : Vals xs us) : us = [] ↔ xs = [] := by
  cases r with
  | nil => simp
  | cons _ _ => simp
theorem op_catT : OpR X (binaryOp .Add) (rCatT X.K) := by
  intro pins s σ H x y v u Q I rx ry h
  obtain ⟨a, b, xs, ys, rfl, rfl, ha, hb, hx, hz, q1, q2⟩ := h
  cases rx
  cases ry
  obtain ⟨its, r1, p1, _⟩ := I.tuple ha
  obtain ⟨its2, r2, p2, _⟩ := I.tuple hb
  refine HT.cat_tup p1 p2 (fun z => hx (r1.nil_iff.mp z)) (fun z => ⟨.ref a, H, I, rfl, q1 (r2.nil_iff.mp z)⟩) (fun z => ?_) (by rw [← r1.length, ← r2.length]; exact hz)
  refine ⟨.ref s.heap.objs.size, _, I.laid (t' := s.toks) (o := .tup (xs ++ ys)) (fun b ob q => Heap.get?_push_of_some _ q) (Nat.le_refl _) ?_, rfl, q2 (fun w => z (r2.nil_iff.mpr w)) _ (I.hok.fresh (Nat.le_refl _))⟩
  exact ⟨by rw [List.length_append]; exact hz, _, r1.append r2, IsTup.new _ _⟩
end
noncomputable def ixN (n : Nat) (i : Int) : Option Nat := if 0 ≤ i then (if i < n then some i.toNat else none) else if -(n : Int) ≤ i then some (i + n).toNat else none
noncomputable def atI {α : Type} (xs : List α) (i : Int) : Option α := (ixN xs.length i).bind fun j => xs[j]?
theorem ixN_seq {n : Nat} {i : Int} {j : Nat} (h : ixN n i = some j) : seqIndex? i n = some j ∧ j < n ∧ -(n : Int) ≤ i ∧ i < n := by
  unfold ixN at h
  by_cases h0 : 0 ≤ i
  · rw [if_pos h0] at h
    by_cases h1 : i < n
    · rw [if_pos h1] at h
      have e : i.toNat = j := Option.some.inj h
      exact ⟨by rw [seqIndex_of h0 h1, e], by omega, by omega, h1⟩
    · rw [if_neg h1] at h; cases h
  · rw [if_neg h0] at h
    by_cases h1 : -(n : Int) ≤ i
    · rw [if_pos h1] at h
      have e : (i + n).toNat = j := Option.some.inj h
      exact ⟨by rw [seqIndex_neg (by omega) h1, e], by omega, h1, by omega⟩
    · rw [if_neg h1] at h; cases h
theorem atI_get {α : Type} {xs : List α} {i : Int} {v : α} (h : atI xs i = some v) : ∃ j, seqIndex? i xs.length = some j ∧ xs[j]? = some v ∧ j < xs.length ∧ -(xs.length : Int) ≤ i ∧ i < xs.length := by
  unfold atI at h
  cases e : ixN xs.length i with
  | none => rw [e] at h; cases h
  | some j =>
    rw [e] at h
    obtain ⟨h1, h2, h3, h4⟩ := ixN_seq e
    exact ⟨j, h1, h, h2, h3, h4⟩
noncomputable def PlainIx (b : Expr) : Prop := ∀ o i, subscripted b false o i = operate [o, i] (getItem o i)
noncomputable def IxR (X : Cx) (r : R2) : Prop :=
  ∀ (value slice : Expr) (pins : List (Addr × Obj)) (s : Shared) (σ : St) (H : Hp) (x y : V) (v u : Value) (Q : VK), Inv X pins σ H s → RelV x v → RelV y u → r x y H Q →
    subscripted slice false v u = operate [v, u] (getItem v u) → wpAny (model X.prog X.w) X.A (subscriptTail value slice v u) (EP X pins σ Q) X.xe s
noncomputable def MtR (X : Cx) (id : String) (r : V → List V → Hp → VK → Prop) : Prop :=
  ∀ (pins : List (Addr × Obj)) (s : Shared) (σ : St) (H : Hp) (x : V) (xs : List V) (v : Value) (us : List Value) (Q : VK), Inv X pins σ H s → RelV x v → Vals xs us → r x xs H Q →
    wpAny (model X.prog X.w) X.A (call (.builtin id) (v :: us)) (EP X pins σ Q) X.xe s
section
variable {X : Cx} {a b : Expr} {ta tb : TE} {pos : Pos}
theorem IxR.or {r r' : R2} (h : IxR X r) (h' : IxR X r') : IxR X (fun x y H Q => r x y H Q ∨ r' x y H Q) := by
  intro value slice pins s σ H x y v u Q I rx ry q hs
  rcases q with q | q
  · exact h value slice pins s σ H x y v u Q I rx ry q hs
  · exact h' value slice pins s σ H x y v u Q I rx ry q hs
theorem pe_ix {r : R2} (hr : IxR X r) (ha : PE X a ta) (hb : PE X b tb) (hs : PlainIx b) : PE X (.Subscript a b pos) (tOp r ta tb) := by
  intro pins s σ H Q I h
  exact Subscript_ (binT ha hb I h fun v u s2 x y H2 I2 rx ry q => hr a b pins s2 σ H2 x y v u Q I2 rx ry q (hs _ _))
noncomputable def rIxL (K : PySem.W.Frag) : R2 := fun x y H Q => ∃ p xs i v, x = .ref p ∧ y = .int i ∧ SqL K H p xs ∧ atI xs i = some v ∧ Q v H
noncomputable def rIxT (K : PySem.W.Frag) : R2 := fun x y H Q => ∃ p xs i v, x = .ref p ∧ y = .int i ∧ SqT K H p xs ∧ atI xs i = some v ∧ Q v H
theorem ix_list : IxR X (rIxL X.K) := by
  intro value slice pins s σ H x y v u Q I rx ry h hs
  obtain ⟨p, xs, i, z, rfl, rfl, hq, he, q⟩ := h
  cases rx
  obtain ⟨t, rfl⟩ := ry
  obtain ⟨its, r, pl, hz⟩ := I.list hq
  obtain ⟨j, h1, h2, h3, h4, h5⟩ := atI_get he
  obtain ⟨w, ew, rw'⟩ := r.get h2
  have hl := r.length
  have hn := line63
  have fin : EP X pins σ Q w s := ⟨z, H, I, rw', q⟩
  by_cases h0 : 0 ≤ i
  · have hj : i.toNat = j := by
      rw [seqIndex_of h0 h5] at h1
      exact Option.some.inj h1
    exact item_listR pl.isList h0 (by omega) (by rw [hj]; simpa using ew) fin hs
  · have hj : (i + (its.toArray.size : Int)).toNat = j := by
      rw [seqIndex_neg (by omega) h4] at h1
      rw [List.size_toArray, ← hl]
      exact Option.some.inj h1
    exact subscriptTail_builtinR (x := w) pl.isList.typeIs slot_list_getitem.lookup
      (wpAny_getItem_list_neg (Q := fun r s' => r = w ∧ EP X pins σ Q r s') pl.isList (by omega) (by rw [List.size_toArray] <;> omega) (by omega) (by rw [hj]; simpa using ew) ⟨rfl, fin⟩) hs
theorem ix_tup : IxR X (rIxT X.K) := by
  intro value slice pins s σ H x y v u Q I rx ry h hs
  obtain ⟨p, xs, i, z, rfl, rfl, hq, he, q⟩ := h
  cases rx
  obtain ⟨t, rfl⟩ := ry
  obtain ⟨its, r, pl, hz⟩ := I.tuple hq
  obtain ⟨j, h1, h2, h3, h4, h5⟩ := atI_get he
  obtain ⟨w, ew, rw'⟩ := r.get h2
  have hl := r.length
  have hn := line63
  have fin : EP X pins σ Q w s := ⟨z, H, I, rw', q⟩
  exact subscriptTail_builtinR (x := w) pl.typeIs slot_tuple_getitem.lookup
    (getItem_tuple (j := j) (Q := fun r s' => r = w ∧ EP X pins σ Q r s') pl (by omega) (by omega) (by rw [List.size_toArray, ← hl]; exact h1) (by simpa using ew) ⟨rfl, fin⟩) hs
theorem mapSeq_set (its : List Value) (n j : Nat) (u : Value) : Obj.mapSeq (·.setIfInBounds j u) { cls := .type "list", data := .seq its.toArray n } = { cls := .type "list", data := .seq (its.set j u).toArray n } := by
  simp [Obj.mapSeq]
theorem Inv.lst {pins : List (Addr × Obj)} {σ : St} {H : Hp} {s : Shared} {p : Addr} {xs : List V} (I : Inv X pins σ H s) (h : H p = some (.lst xs)) :
    ∃ (its : List Value) (n : Nat), Vals xs its ∧ s.heap.get? p = some { cls := .type "list", data := .seq its.toArray n } ∧ xs.length ≤ sizeLine := by
  obtain ⟨z, its, n, r, e⟩ := I.hok p _ h
  exact ⟨its, n, r, e, z⟩
theorem Inv.lstUpd {pins : List (Addr × Obj)} {σ : St} {H : Hp} {s : Shared} {p : Addr} {xs ys : List V} {its its' : List Value} {n n' : Nat} {f : Obj → Obj} (I : Inv X pins σ H s) (h : H p = some (.lst xs))
    (ho : s.heap.get? p = some { cls := .type "list", data := .seq its.toArray n }) (hf : f { cls := .type "list", data := .seq its.toArray n } = { cls := .type "list", data := .seq its'.toArray n' }) (r : Vals ys its') (hz : ys.length ≤ sizeLine) (t : Nat) :
    Inv X pins σ (upd H p (.lst ys)) { s with heap := s.heap.update p f, toks := t } := by
  have e : (s.heap.update p f).get? p = some { cls := .type "list", data := .seq its'.toArray n' } := by
    rw [Heap.get?_update_self f ho (by rw [hf] <;> rfl), hf]
  refine I.write (x := p) (e := p) (by rw [h]; trivial) (.inl rfl) (fun b u hb q => (Heap.get?_update_other _ _ (Ne.symm hb)).trans q) ⟨_, e⟩ ?_
  exact ⟨hz, its', n', r, e⟩
noncomputable def rSetL : V → V → V → Hp → (Hp → Prop) → Prop := fun o i v H Q => ∃ p xs k j, o = .ref p ∧ i = .int k ∧ H p = some (.lst xs) ∧ ixN xs.length k = some j ∧ Q (upd H p (.lst (xs.set j v)))
theorem set_list : PSet X rSetL := by
  intro pins s σ H o i v ov iv u Q I ro ri rv h
  obtain ⟨p, xs, k, j, rfl, rfl, hp, hj, q⟩ := h
  cases ro
  obtain ⟨t, rfl⟩ := ri
  obtain ⟨its, n, r, ho, hz⟩ := I.lst hp
  obtain ⟨h1, h2, h3, h4⟩ := ixN_seq hj
  have hl := r.length
  have hn := line63
  have I' : Inv X pins σ (upd H p (.lst (xs.set j v))) { s with heap := s.heap.update p (Obj.mapSeq (·.setIfInBounds j u)) } :=
    I.lstUpd hp ho (mapSeq_set its n j u) (r.set rv j) (by rw [List.length_set]; exact hz) s.toks
  by_cases h0 : 0 ≤ k
  · have hk : k.toNat = j := by
      rw [seqIndex_of h0 h4] at h1
      exact Option.some.inj h1
    exact PySem.W.ki_setAt ho h0 (by omega) (by rw [List.size_toArray, ← hl]; exact h4) (by rw [hk]; exact ⟨_, I', q⟩)
  · have hk : (k + (its.toArray.size : Int)).toNat = j := by
      rw [seqIndex_neg (by omega) h3] at h1
      rw [List.size_toArray, ← hl]
      exact Option.some.inj h1
    exact PySem.W.ki_setBack ho (by omega) (by rw [List.size_toArray, ← hl]; exact h3) (by omega) (by rw [hk]; exact ⟨_, I', q⟩)
theorem slice_bounds (lo hi : Option Int) (n : Nat) : (sliceBounds lo hi none n).1 = ((HT.sIx n 0 lo : Nat) : Int) ∧ (sliceBounds lo hi none n).2.1 = ((HT.sIx n n hi : Nat) : Int) ∧ (sliceBounds lo hi none n).2.2 = 1 := by
  refine ⟨?_, ?_, rfl⟩
  · cases lo with
    | none => simp [sliceBounds, HT.sIx]
    | some i =>
      simp only [sliceBounds, HT.sIx, Option.getD_none, show (1 : Int) > 0 by decide, if_true]
      by_cases h : i < 0
      · simp only [h, if_true] <;> omega
      · simp only [h, if_false] <;> omega
  · cases hi with
    | none => simp [sliceBounds, HT.sIx]
    | some i =>
      simp only [sliceBounds, HT.sIx, Option.getD_none, show (1 : Int) > 0 by decide, if_true]
      by_cases h : i < 0
      · simp only [h, if_true] <;> omega
      · simp only [h, if_false] <;> omega
theorem slicePick_cut (its : List Value) (lo hi : Option Int) : slicePick its.toArray lo hi none = ((its.drop (HT.sIx its.length 0 lo)).take (HT.sIx its.length its.length hi - HT.sIx its.length 0 lo)).toArray := by
  obtain ⟨h1, h2, h3⟩ := slice_bounds lo hi its.toArray.size
  unfold slicePick
  rw [h1, h2, h3]
  simp only [sliceRange_one, pick_run, List.size_toArray] <;> rfl
noncomputable def rSlL (K : PySem.W.Frag) : V → Option Int → Option Int → Hp → VK → Prop := fun x lo hi H Q => ∃ a xs, x = .ref a ∧ SqL K H a xs ∧ ∀ p, H p = none → Q (.ref p) (upd H p (.lst (cutV xs lo hi)))
theorem sl_list : SlR X (rSlL X.K) := by
  intro pins s σ H x v vl vu lo hi sl Q I rx hs pl pu h
  obtain ⟨a, xs, rfl, hx, q⟩ := h
  cases rx
  obtain ⟨its, r, ht, hz⟩ := I.list hx
  have hlen := r.length
  refine ⟨"list", _, slot_list_getitem.lookup, ht.isList.typeIs, ?_⟩
  refine wpAny_getItem_list_slice ht.isList hs pl pu .none (by simp) ?_ (by rw [List.size_toArray] <;> omega)
  rw [slicePick_cut, ← hlen]
  refine ⟨.ref s.heap.objs.size, _, I.laid (t' := s.toks) (o := .lst (cutV xs lo hi)) (fun b ob q => Heap.get?_push_of_some _ q) (Nat.le_refl _) ?_, rfl, q _ (I.hok.fresh (Nat.le_refl _))⟩
  exact ⟨Nat.le_trans (cutV_length xs lo hi) hz, _, 0, (r.drop (HT.sIx xs.length 0 lo)).take (HT.sIx xs.length xs.length hi - HT.sIx xs.length 0 lo), Heap.get?_push_size _ rfl⟩
noncomputable def flatV : V → Bool
  | .non => true
  | .bl _ => true
  | .int _ => true
  | .str _ => true
  | _ => false
noncomputable def eqV : V → V → Bool
  | .non, .non => true
  | .bl a, .bl b => a == b
  | .bl a, .int b => (if a then 1 else 0) == b
  | .int a, .bl b => a == (if b then 1 else 0)
  | .int a, .int b => a == b
  | .str a, .str b => a == b
  | _, _ => false
theorem eqAt_V {A : Around} {s : Shared} {y x : V} {u v : Value} (ry : RelV y u) (rx : RelV x v) (fy : flatV y = true) (fx : flatV x = true) : SeqAt.EqAt A s u v (eqV y x) := by
  cases y with
  | non =>
    cases ry
    cases x with
    | non => cases rx; exact SeqAt.EqAt.same _
    | bl b => cases rx; exact SeqAt.EqAt.none_bool b
    | int b => obtain ⟨t, rfl⟩ := rx; exact SeqAt.EqAt.none_int b t
    | str b => obtain ⟨t, rfl⟩ := rx; exact SeqAt.EqAt.none_str b t
    | _ => exact absurd (show false = true from fx) Bool.false_ne_true
  | bl a =>
    cases ry
    cases x with
    | non => cases rx; exact SeqAt.EqAt.bool_none a
    | bl b => cases rx; exact SeqAt.EqAt.bool_bool a b
    | int b => obtain ⟨t, rfl⟩ := rx; exact SeqAt.EqAt.bool_int a b t
    | str b => obtain ⟨t, rfl⟩ := rx; exact SeqAt.EqAt.bool_str a b t
    | _ => exact absurd (show false = true from fx) Bool.false_ne_true
  | int a =>
    obtain ⟨t', rfl⟩ := ry
    cases x with
    | non => cases rx; exact SeqAt.EqAt.int_none a t'
    | bl b => cases rx; exact SeqAt.EqAt.int_bool a t' b
    | int b => obtain ⟨t, rfl⟩ := rx; exact SeqAt.EqAt.int_int a t' b t
    | str b => obtain ⟨t, rfl⟩ := rx; exact SeqAt.EqAt.int_str a t' b t
    | _ => exact absurd (show false = true from fx) Bool.false_ne_true
  | str a =>
    obtain ⟨t', rfl⟩ := ry
    cases x with
    | non => cases rx; exact SeqAt.EqAt.str_none a t'
    | bl b => cases rx; exact SeqAt.EqAt.str_bool a t' b
    | int b => obtain ⟨t, rfl⟩ := rx; exact SeqAt.EqAt.str_int a t' b t
    | str b => obtain ⟨t, rfl⟩ := rx; exact SeqAt.EqAt.str_str a t' b t
    | _ => exact absurd (show false = true from fx) Bool.false_ne_true
  | _ => exact absurd (show false = true from fy) Bool.false_ne_true
theorem call_len_seq : CallR X (.builtin "len") (fun xs H Q => ∃ p ys, xs = [.ref p] ∧ (SqL X.K H p ys ∨ SqT X.K H p ys) ∧ Q (.int ys.length) H) := by
  intro pins s σ H xs us Q I r h
  obtain ⟨p, ys, rfl, hq, q⟩ := h
  obtain ⟨u, rfl, rx⟩ := vals1 r
  cases rx
  have hn := line63
  rcases hq with hq | hq
  · obtain ⟨its, r', pl, hz⟩ := I.list hq
    have hlen := r'.length
    exact Calls.call_len_list pl.isList (by simp only [List.size_toArray] <;> omega) ⟨.int ys.length, H, I.tok _, ⟨s.toks + 1, by rw [List.size_toArray, hlen]⟩, q⟩
  · obtain ⟨its, r', pl, hz⟩ := I.tuple hq
    have hlen := r'.length
    exact len_tuple pl (by simp only [List.size_toArray] <;> omega) ⟨.int ys.length, H, I.tok _, ⟨s.toks + 1, by rw [List.size_toArray, hlen]⟩, q⟩
theorem CallR.or {f : Value} {r r' : List V → Hp → VK → Prop} (h : CallR X f r) (h' : CallR X f r') : CallR X f (fun xs H Q => r xs H Q ∨ r' xs H Q) := by
  intro pins s σ H xs us Q I rs q
  rcases q with q | q
  · exact h pins s σ H xs us Q I rs q
  · exact h' pins s σ H xs us Q I rs q
theorem call_tuple_of : CallR X (.type "tuple") (fun xs H Q => ∃ p ys, xs = [.ref p] ∧ ((SqL X.K H p ys ∧ ∀ l, H l = none → Q (.ref l) (upd H l (.tup ys))) ∨ (SqT X.K H p ys ∧ Q (.ref p) H))) := by
  intro pins s σ H xs us Q I r h
  obtain ⟨p, ys, rfl, h⟩ := h
  obtain ⟨u, rfl, rx⟩ := vals1 r
  cases rx
  rcases h with ⟨hq, q⟩ | ⟨hq, q⟩
  · obtain ⟨its, r', pl, hz⟩ := I.list hq
    have hlen := r'.length
    refine call_tuple_list pl.isList (fun h' kp => ?_) (by simp only [List.size_toArray] <;> omega)
    have I1 : Inv X pins σ H { s with heap := h' } := I.kept (t' := s.toks) kp
    have I2 : Inv X pins σ (upd H h'.objs.size (.tup ys)) { s with heap := h'.push { cls := .type "tuple", data := .seq its.toArray } } :=
      I1.laid (t' := s.toks) (fun b o e => Heap.get?_push_of_some _ e) (Nat.le_refl _) (show ObjOk X.prog X.w _ _ _ (.tup ys) from ⟨hz, its, r', IsTup.new _ _⟩)
    exact ⟨.ref h'.objs.size, _, I2, rfl, q _ (I1.hok.fresh (Nat.le_refl _))⟩
  · obtain ⟨its, r', pl, hz⟩ := I.tuple hq
    exact call_tuple_same pl ⟨.ref p, H, I, rfl, q⟩
noncomputable def tyV (K : PySem.W.Frag) (T : String) (x : V) (H : Hp) : Prop := match x with
  | .str _ => T = "str"
  | .int _ => T = "int"
  | .ref p => (T = "list" ∧ ∃ xs, SqL K H p xs) ∨ (T = "tuple" ∧ ∃ o, K.lookup p = some o ∧ o.cls = .type "tuple" ∧ o.dict = none) ∨
      (T = "dict" ∧ ((∃ kvs, H p = some (.dK kvs)) ∨ ∃ kvs, H p = some (.dT kvs))) ∨ (T = "set" ∧ ∃ S n, H p = some (.set S n))
  | _ => False
theorem tyV_is {pins : List (Addr × Obj)} {σ : St} {H : Hp} {s : Shared} {T : String} {x : V} {v : Value} (I : Inv X pins σ H s) (r : RelV x v) (ty : tyV X.K T x H) :
    s.TypeIs v T ∧ ∀ a, v = .ref a → ∃ ob, s.heap.get? a = some ob ∧ ob.dict = none := by
  cases x with
  | str z =>
    obtain ⟨t, rfl⟩ := r
    cases (show T = "str" from ty)
    exact ⟨typeIs_str s z t, fun ψ e => nomatch e⟩
  | int i =>
    obtain ⟨t, rfl⟩ := r
    cases (show T = "int" from ty)
    exact ⟨typeIs_int s i t, fun ψ e => nomatch e⟩
  | ref p =>
    cases r
    rcases ty with ⟨rfl, xs, hq⟩ | ⟨rfl, o, hk, hc, hd⟩ | ⟨rfl, hk⟩ | ⟨rfl, S, n, hk⟩
    · obtain ⟨its, _, pl, _⟩ := I.list hq
      refine ⟨pl.isList.typeIs, fun a e => ?_⟩
      cases e
      obtain ⟨o, n, e, c, hd, _⟩ := pl
      exact ⟨o, e, hd⟩
    · refine ⟨⟨o, I.kIn p o hk, hc⟩, fun a e => ?_⟩
      cases e
      exact ⟨o, I.kIn _ o hk, hd⟩
    · have z : ∃ o, s.heap.get? p = some o ∧ o.ExactDict := by
        rcases hk with ⟨kvs, hk⟩ | ⟨kvs, hk⟩
        · obtain ⟨_, _, _, _, o, _, _, e, ex, _⟩ := I.hok p _ hk
          exact ⟨o, e, ex⟩
        · obtain ⟨_, _, _, _, o, _, _, e, ex, _⟩ := I.hok p _ hk
          exact ⟨o, e, ex⟩
      obtain ⟨o, e, ex⟩ := z
      refine ⟨⟨o, e, ex.1⟩, fun a e2 => ?_⟩
      cases e2
      exact ⟨o, e, ex.2.1⟩
    · obtain ⟨o, _, _, _, e, ex, _⟩ := I.hok p _ hk
      refine ⟨⟨o, e, ex.1⟩, fun a e2 => ?_⟩
      cases e2
      exact ⟨o, e, ex.2.1⟩
  | _ => exact False.elim ty
noncomputable def tBM0 (K : PySem.W.Frag) (T : String) (r : V → List V → Hp → VK → Prop) (to : TE) : TE := fun σ H Q => to σ H fun x H1 => tyV K T x H1 ∧ r x [] H1 Q
noncomputable def tBM (K : PySem.W.Frag) (T : String) (r : V → List V → Hp → VK → Prop) (to : TE) (t : TA) : TE := fun σ H Q => to σ H fun x H1 => tyV K T x H1 ∧ t σ H1 fun xs H2 => r x xs H2 Q
variable {o e : Expr} {es : List Expr} {to : TE} {t : TA} {name : Str} {apos cpos : Pos} {T id : String} {r : V → List V → Hp → VK → Prop}
theorem pe_bm0 (pa : PlainAttrs T) (slot : Slot T name id) (hty : typeOf (.builtin id) = pure (.type "method_descriptor")) (hm : MtR X id r) (ho : PE X o to)
    (hbase : attributeBase o name X.env (eval o X.env) = eval o X.env := by rfl) (hline : (apos.endLine == cpos.line) = true := by rfl) : PE X (.Call (.Attribute o name apos) [] [] cpos) (tBM0 X.K T r to) := by
  intro pins s σ H Q I h
  refine wpAny_Call_method0_late hbase hline (thn (ho pins s σ H _ I h) fun v s1 ⟨x, H1, I1, r1, ty, q1⟩ => ?_)
  obtain ⟨h1, h2⟩ := tyV_is I1 r1 ty
  exact ⟨T, id, pa, slot, hty, h1, h2, Calls.callWith_builtin rfl (PySem.evalArgs_none (hm pins s1 σ H1 x [] v [] Q I1 r1 .nil q1))⟩
theorem pe_bm (pa : PlainAttrs T) (slot : Slot T name id) (hty : typeOf (.builtin id) = pure (.type "method_descriptor")) (hm : MtR X id r) (ho : PE X o to) (ha : PA X (e :: es) t)
    (hbase : attributeBase o name X.env (eval o X.env) = eval o X.env := by rfl)
    (hfew : ((backTo cpos (starEach (e :: es) X.env)).all (fun x => !x.1) && (backToKw cpos (keywordEach [] X.env)).all (fun x => x.1.isSome)
      && decide ((e :: es).length + ([] : List Keyword).length + (if ([] : List Keyword).isEmpty then 0 else 1) < 30)) = true := by rfl)
    (hline : (apos.endLine == cpos.line) = true := by rfl) (hs : starEach (e :: es) X.env = (false, eval e X.env) :: starEach es X.env := by rfl) (hplain : (backTo cpos (starEach es X.env)).any (·.1) = false := by rfl) :
    PE X (.Call (.Attribute o name apos) (e :: es) [] cpos) (tBM X.K T r to t) := by
  intro pins s σ H Q I h
  refine wpAny_Call_method_late hbase hfew hline rfl (thn (ho pins s σ H _ I h) fun v s1 ⟨x, H1, I1, r1, ty, q1⟩ => ?_)
  obtain ⟨h1, h2⟩ := tyV_is I1 r1 ty
  refine ⟨T, id, pa, slot, hty, h1, h2, ?_⟩
  have hA := ha cpos pins s1 σ H1 _ I1 q1
  rw [hs] at hA ⊢
  refine Calls.callWith_builtin (by show (false || (backTo cpos (starEach es X.env)).any (·.1)) = false; rw [hplain] <;> rfl) (Calls.evalArgs_plain ?_)
  exact thn hA fun us s2 ⟨vs, H2, I2, r2, q2⟩ => hm pins s2 σ H2 x vs v us Q I2 r1 r2 q2
end
noncomputable def MtM (X : Cx) (id : String) (r : V → List V → Hp → VK → Prop) : Prop :=
  ∀ (pins : List (Addr × Obj)) (s : Shared) (σ : St) (H : Hp) (x : V) (xs : List V) (v : Value) (us : List Value) (Q : VK), Inv X pins σ H s → RelV x v → Vals xs us → r x xs H Q →
    wpAny (model X.prog X.w) X.A (call (.builtin id) (v :: us)) (EP X pins σ Q) X.xe s
theorem Vals.one : ∀ {x : V} {us : List Value}, Vals [x] us → ∃ u, us = [u] ∧ RelV x u
  | _, _, .cons r .nil => ⟨_, rfl, r⟩
theorem Vals.two : ∀ {x y : V} {us : List Value}, Vals [x, y] us → ∃ u v, us = [u, v] ∧ RelV x u ∧ RelV y v
  | _, _, _, .cons r (.cons q .nil) => ⟨_, _, rfl, r, q⟩
theorem Vals.zero : ∀ {us : List Value}, Vals [] us → us = []
  | _, .nil => rfl
theorem Vals.dropLast {xs : List V} {us : List Value} (h : Vals xs us) : Vals xs.dropLast us.dropLast := by
  induction h with
  | nil => exact .nil
  | cons r t ih =>
    cases t with
    | nil => exact .nil
    | cons q t' => exact .cons r ih
theorem Vals.eraseIdx : ∀ {xs : List V} {us : List Value} (i : Nat), Vals xs us → Vals (xs.eraseIdx i) (us.eraseIdx i)
  | _, _, _, .nil => .nil
  | _, _, 0, .cons _ t => t
  | _, _, i + 1, .cons r t => .cons r (Vals.eraseIdx i t)
theorem Vals.reverse {xs : List V} {us : List Value} (h : Vals xs us) : Vals xs.reverse us.reverse := by
  induction h with
  | nil => exact .nil
  | cons r t ih => rw [List.reverse_cons, List.reverse_cons]; exact Vals.append ih (.cons r .nil)
theorem Vals.rep {xs : List V} {us : List Value} (h : Vals xs us) : ∀ k : Nat, Vals (List.replicate k xs).flatten (List.replicate k us).flatten
  | 0 => .nil
  | k + 1 => by
    rw [List.replicate_succ, List.replicate_succ, List.flatten_cons, List.flatten_cons]
    exact Vals.append h (Vals.rep h k)
theorem erase_last {α : Type} (l : List α) : l.eraseIdx (l.length - 1) = l.dropLast := by
  induction l with
  | nil => rfl
  | cons a r ih =>
    cases r with
    | nil => rfl
    | cons b r =>
      have e : (a :: b :: r).length - 1 = ((b :: r).length - 1) + 1 := by
        have h1 : (a :: b :: r).length = r.length + 2 := rfl
        have h2 : (b :: r).length = r.length + 1 := rfl
        omega
      rw [e, List.eraseIdx_cons_succ, ih]
      all_goals rfl
theorem foldl_rep (its : List Value) : ∀ (k : Nat) (acc : List Value),
    List.foldl (fun x1 x2 => x1 ++ x2) acc.toArray (List.replicate k its.toArray) = (acc ++ (List.replicate k its).flatten).toArray
  | 0, acc => by simp
  | k + 1, acc => by
    have e : acc.toArray ++ its.toArray = (acc ++ its).toArray := by simp
    have e2 : (acc ++ its) ++ (List.replicate k its).flatten = acc ++ (List.replicate (k + 1) its).flatten := by
      rw [List.replicate_succ, List.flatten_cons, List.append_assoc]
    rw [← e2, ← foldl_rep its k (acc ++ its), ← e, List.replicate_succ, List.foldl_cons]
section
variable {X : Cx} {pins : List (Addr × Obj)} {σ : St} {H : Hp} {s : Shared} {l b : Addr} {xs ys zs : List V}
theorem Inv.lset {its its' : List Value} {n : Nat} {f : Array Value → Array Value} {t' : Nat} (I : Inv X pins σ H s) (hH : H l = some (.lst xs))
    (e : s.heap.get? l = some { cls := .type "list", data := .seq its.toArray n }) (hf : f its.toArray = its'.toArray) (hv : Vals ys its') (hz : ys.length ≤ sizeLine) :
    Inv X pins σ (upd H l (.lst ys)) { s with heap := s.heap.update l (Obj.mapSeq f), toks := t' } := by
  have q := PySem.IsL.update e f
  rw [hf] at q
  refine I.write (x := l) (e := l) (by rw [hH]; exact trivial) (.inl rfl) (fun b' u hb hu => (Heap.get?_update_other s.heap (Obj.mapSeq f) (Ne.symm hb)).trans hu) ⟨_, q⟩ ?_
  exact ⟨hz, its', _, hv, q⟩
theorem Inv.lnew {its : List Value} {t' : Nat} (I : Inv X pins σ H s) (hv : Vals ys its) (hz : ys.length ≤ sizeLine) :
    Inv X pins σ (upd H s.heap.objs.size (.lst ys)) { s with heap := s.heap.push { cls := .type "list", data := .seq its.toArray }, toks := t' } :=
  I.laid (fun ψ ψ q => Heap.get?_push_of_some _ q) (Nat.le_refl _) ⟨hz, its, 0, hv, Heap.get?_push_size _ rfl⟩
theorem Inv.fresh (I : Inv X pins σ H s) : H s.heap.objs.size = none := I.hok.fresh (Nat.le_refl _)
theorem Inv.lstM (I : Inv X pins σ H s) (hH : H l = some (.lst xs)) : xs.length ≤ sizeLine ∧ ∃ (its : List Value) (n : Nat), Vals xs its ∧ xs.length = its.length ∧ s.heap.get? l = some { cls := .type "list", data := .seq its.toArray n } := by
  obtain ⟨z, its, n, r, e⟩ := I.hok l _ hH
  exact ⟨z, its, n, r, r.length, e⟩
theorem notLongL {n : Nat} (h : n ≤ sizeLine) : Builtin.List.listTooLong n = false := by
  unfold Builtin.List.listTooLong
  exact decide_eq_false (by omega)
end
section
variable {X : Cx}
noncomputable def rAppend : V → List V → Hp → VK → Prop := fun x vs H Q => ∃ l xs y, x = .ref l ∧ vs = [y] ∧ H l = some (.lst xs) ∧ xs.length < sizeLine ∧ Q .non (upd H l (.lst (xs ++ [y])))
theorem mt_append : MtM X "list.append" rAppend := by
  intro pins s σ H x vs v us Q I rx rv h
  obtain ⟨l, xs, y, rfl, rfl, hH, hz, q⟩ := h
  cases rx
  obtain ⟨u, rfl, ru⟩ := rv.one
  obtain ⟨z, its, n, r, hl, e⟩ := I.lstM hH
  refine call_meets F.slot_list_append ⟨_, e, rfl⟩ F.entry_list_append (F.args_list_append_2 _ _) (PySem.list_append l its.toArray n u (by rw [List.size_toArray]; omega)) ⟨e, ?_⟩
  refine ⟨.non, _, I.lset (its' := its ++ [u]) hH e (by simp) (r.append (.cons ru .nil)) ?_, rfl, q⟩
  rw [List.length_append, List.length_singleton]
  omega
noncomputable def rExtend : V → List V → Hp → VK → Prop := fun x vs H Q => ∃ l b xs zs, x = .ref l ∧ vs = [.ref b] ∧ H l = some (.lst xs) ∧ H b = some (.lst zs) ∧ xs.length + zs.length ≤ sizeLine ∧ Q .non (upd H l (.lst (xs ++ zs)))
theorem mt_extend : MtM X "list.extend" rExtend := by
  intro pins s σ H x vs v us Q I rx rv h
  obtain ⟨l, b, xs, zs, rfl, rfl, hH, hB, hz, q⟩ := h
  cases rx
  obtain ⟨u, rfl, ru⟩ := rv.one
  cases ru
  obtain ⟨z, its, n, r, hl, e⟩ := I.lstM hH
  obtain ⟨z2, its2, n2, r2, hl2, e2⟩ := I.lstM hB
  have hsz : its.toArray.size + its2.toArray.size ≤ sizeLine := by rw [List.size_toArray, List.size_toArray]; omega
  have hlong : ¬ (!its.toArray.isEmpty && Builtin.List.listTooLong (its.toArray.size + its2.toArray.size)) = true := by
    rw [notLongL hsz, Bool.and_false]
    exact Bool.false_ne_true
  refine call_meets F.slot_list_extend ⟨_, e, rfl⟩ F.entry_list_extend (F.args_list_extend_2 _ _)
    (AutoSeq1.list_extend_list_list_0 l its.toArray n b its2.toArray n2 hlong (by rw [List.size_toArray]; omega) (by omega)) ⟨e, e2, ?_⟩
  refine ⟨.non, _, I.lset (its' := its ++ its2) hH e (by simp) (r.append r2) ?_, rfl, q⟩
  rw [List.length_append]
  omega
noncomputable def rPop : V → List V → Hp → VK → Prop := fun x vs H Q => ∃ l xs y, x = .ref l ∧ vs = [] ∧ H l = some (.lst xs) ∧ xs[xs.length - 1]? = some y ∧ Q y (upd H l (.lst xs.dropLast))
theorem mt_pop : MtM X "list.pop" rPop := by
  intro pins s σ H x vs v us Q I rx rv h
  obtain ⟨l, xs, y, rfl, rfl, hH, hy, q⟩ := h
  cases rx
  have hus := rv.zero
  subst hus
  obtain ⟨z, its, n, r, hl, e⟩ := I.lstM hH
  obtain ⟨u, hu, ru⟩ := r.get hy
  have hy' : its.toArray[its.toArray.size - 1]? = some u := by
    show its.toArray[its.length - 1]? = some u
    rw [← Array.getElem?_toList, ← hl]
    exact hu
  refine call_meets F.slot_list_pop ⟨_, e, rfl⟩ F.entry_list_pop (F.args_list_pop_1 _) (MeetsSeq.list_pop_last l its.toArray n u hy' (by rw [List.size_toArray]; omega)) ⟨e, ?_⟩
  refine ⟨y, _, I.lset (its' := its.dropLast) hH e ?_ r.dropLast ?_, ru, q⟩
  · show its.toArray.eraseIdxIfInBounds (its.toArray.size - 1) = its.dropLast.toArray
    rw [List.size_toArray, List.eraseIdxIfInBounds_toArray, erase_last]
  · rw [List.length_dropLast]
    omega
noncomputable def rReverse : V → List V → Hp → VK → Prop := fun x vs H Q => ∃ l xs, x = .ref l ∧ vs = [] ∧ H l = some (.lst xs) ∧ Q .non (upd H l (.lst xs.reverse))
theorem mt_reverse : MtM X "list.reverse" rReverse := by
  intro pins s σ H x vs v us Q I rx rv h
  obtain ⟨l, xs, rfl, rfl, hH, q⟩ := h
  cases rx
  have hus := rv.zero
  subst hus
  obtain ⟨z, its, n, r, hl, e⟩ := I.lstM hH
  refine call_meets F.slot_list_reverse ⟨_, e, rfl⟩ F.entry_list_reverse (F.args_list_reverse_1 _) (AutoSeq1.list_reverse_list_0 l its.toArray n (by rw [List.size_toArray]; omega)) ⟨e, ?_⟩
  refine ⟨.non, _, I.lset (its' := its.reverse) hH e (by simp) r.reverse ?_, rfl, q⟩
  rw [List.length_reverse]
  omega
noncomputable def rCat : R2 := fun x y H Q => ∃ l b xs zs, x = .ref l ∧ y = .ref b ∧ H l = some (.lst xs) ∧ H b = some (.lst zs) ∧ xs.length + zs.length ≤ sizeLine ∧ ∀ p, H p = none → Q (.ref p) (upd H p (.lst (xs ++ zs)))
theorem op_cat : OpR X (binaryOp .Add) rCat := by
  intro pins s σ H x y v u Q I rx ry h
  obtain ⟨l, b, xs, zs, rfl, rfl, hH, hB, hz, q⟩ := h
  cases rx
  cases ry
  obtain ⟨z, its, n, r, hl, e⟩ := I.lstM hH
  obtain ⟨z2, its2, n2, r2, hl2, e2⟩ := I.lstM hB
  refine PySem.P.add_list e e2 ?_ (by rw [List.size_toArray, List.size_toArray]; omega)
  have ea : its.toArray ++ its2.toArray = (its ++ its2).toArray := by simp
  rw [ea]
  exact ⟨.ref _, _, I.lnew (t' := s.toks) (r.append r2) (by rw [List.length_append]; omega), rfl, q _ I.fresh⟩
noncomputable def rRep : R2 := fun x y H Q => ∃ l k xs, x = .ref l ∧ y = .int k ∧ H l = some (.lst xs) ∧ -(2 ^ 63) ≤ k ∧ k < 2 ^ 63 ∧ xs.length * k.toNat ≤ sizeLine ∧
  ∀ p, H p = none → Q (.ref p) (upd H p (.lst (List.replicate k.toNat xs).flatten))
theorem len_rep {α : Type} (xs : List α) (k : Nat) : (List.replicate k xs).flatten.length = k * xs.length := by
  induction k with
  | zero => simp
  | succ k ih => rw [List.replicate_succ, List.flatten_cons, List.length_append, ih, Nat.succ_mul, Nat.add_comm]
theorem op_rep : OpR X (binaryOp .Mult) rRep := by
  intro pins s σ H x y v u Q I rx ry h
  obtain ⟨l, k, xs, rfl, rfl, hH, h1, h2, hz, q⟩ := h
  cases rx
  obtain ⟨t, rfl⟩ := ry
  obtain ⟨z, its, n, r, hl, e⟩ := I.lstM hH
  have hlen : its.toArray.size * k.toNat ≤ sizeLine := by rw [List.size_toArray, ← hl]; exact hz
  have hcap : ¬ its.toArray.size * k.toNat > (2 ^ 63 - 1) / 8 := by
    have : (sizeLine : Nat) ≤ (2 ^ 63 - 1) / 8 := by decide
    omega
  have hfit : ¬ (!Builtin.List.listFitsIndex k) = true := by
    rw [fitsIndex_both h1 h2]
    exact Bool.false_ne_true
  have hlong : ¬ Builtin.List.listTooLong (its.toArray.size * k.toNat) = true := by
    rw [notLongL hlen]
    exact Bool.false_ne_true
  have hnew : List.foldl (fun x1 x2 => x1 ++ x2) #[] (List.replicate (if its.toArray.isEmpty = true then 0 else k.toNat) its.toArray) = (List.replicate k.toNat its).flatten.toArray := by
    have f0 : ∀ m : Nat, List.foldl (fun x1 x2 => x1 ++ x2) #[] (List.replicate m its.toArray) = (List.replicate m its).flatten.toArray := fun m => by
      have := foldl_rep its m []
      rw [List.nil_append] at this
      exact this
    rw [f0]
    cases its with
    | nil => simp
    | cons a r' => rw [if_neg (by simp)]
  refine wpAny_binaryOp_repeat_ref (T := "list") (U := "int") (by decide) ⟨_, e, rfl⟩ (fun s' => typeIs_int s' k t) noFill_list_mul F.fills_int_mul F.slot_int_rmul repeat_list F.slot_int_index.lookup
    (call_meets F.slot_int_rmul (typeIs_int s k t) F.entry_int_rmul (F.args_int_rmul_2 _ _) (int___rmul___int_list k t l its.toArray n)
      ⟨e, rfl, ⟨_, e, rfl⟩, call_meets F.slot_list_mul ⟨_, e, rfl⟩ F.entry_list_mul (F.args_list_mul_2 _ _) (AutoListH.list___mul___list_int_3 l its.toArray n k t hfit hcap hlong) ⟨e, ?_⟩⟩)
  rw [hnew]
  exact ⟨.ref _, _, I.lnew (t' := s.toks) (r.rep k.toNat) (by rw [len_rep, Nat.mul_comm]; exact hz), rfl, q _ I.fresh⟩
end
section
variable {prog : Program} {w : World} {A : Around} {E : L2.VSP} {s : Shared}
end
section
variable {X : Cx}
end
end L2
namespace Att
open PySem PySem.W PySem.Calls PyProof.Rows
theorem ints_of_wellAll {P : Params} {h : Heap} : ∀ (ns : List Int) (vs : List Value), WellAll P h vs (ns.map WData.int) → IntsAre vs ns := by
  intro ns
  induction ns with
  | nil =>
    intro vs w
    rw [List.map_nil] at w
    cases w
    exact .nil
  | cons n ns ih =>
    intro vs w
    rw [List.map_cons] at w
    cases w with
    | cons a b =>
      cases a
      exact .cons _ _ (ih _ b)
theorem script_of {l : OpenLaw} {n : Nat} (hn : l.most = some n) {P : Params} {h : Heap} {args : List WData} {vals : List Value}
    (hpre : l.row.toRowW.claim.pre args = true) (hwl : WellAll P h vals args) :
    ∃ a vs ns, vals = [Value.ref a] ∧ args = [WData.list (ns.map WData.int)] ∧ h.get? a = some { cls := .type "list", data := .seq vs.toArray } ∧ IntsAre vs ns ∧ ns.length ≤ n := by
  have hsh : WShape.hasAll [] args [.list .int] = true := (pre_splitW hpre).1
  have hc : l.pre.holds [] { args := args } = true := (pre_splitW hpre).2
  obtain ⟨d, r, rfl, h1, h2⟩ := hasAllW_cons hsh
  obtain rfl := hasAllW_nil h2
  obtain ⟨xs, rfl, h3⟩ := hasW_list h1
  obtain ⟨ns, rfl⟩ := items_int h3
  have hlen : ns.length ≤ n := by
    unfold OpenLaw.pre at hc
    have h4 : (WTm.not (.lt (.lit (.int (n : Int))) (.len (.arg 0)))).holds [] { args := [.list (ns.map .int)] } = true := by
      have h4 := (holds_andW hc).1
      rw [hn] at h4
      exact h4
    have h5 := condW_of h4 (w_not (w_lt w_lit (w_len_list (w_arg rfl))))
    rw [List.length_map] at h5
    refine Nat.le_of_not_lt fun q => ?_
    have q' : (n : Int) < ((ns.length : Nat) : Int) := by omega
    first
      | (rw [decide_eq_true q'] at h5; exact absurd h5 (by decide))
      | (simp at h5; omega)
  cases hwl with
  | cons w1 w2 =>
    cases w2
    cases w1 with
    | list ho hall => exact ⟨_, _, ns, rfl, rfl, ho, ints_of_wellAll ns _ hall, hlen⟩
theorem post_true (l : OpenLaw) (args : List WData) : l.row.toRowW.claim.post args (.bool true) args = true :=
  postW_of (r := l.row.toRowW) (X := (true == true))
    (show WShape.has [] (.bool true) .bool = true by first | rfl | decide | simp [WShape.has, WShape.arms, WShape.armsAll])
    (show (WTm.eq .res (.lit (.bool true))).value [] { args := args, res := some (.bool true), after := args } = some (.bool (true == true)) from w_eq_bool (w_res rfl) w_lit) rfl
theorem attach_call {l : OpenLaw} {n : Nat} {q : Program} {loose : List Str} {XP : (Str → Option Value) → Heap → Prop} {YP : World → Heap → Prop} {d : DefRec}
    (hn : l.most = some n) (hdf : d.params.defaults = [])
    (call : ∀ (w : World) (s₀ s₁ : Shared) (mg mb : L2.SV) (fa : Addr) (o : Obj) (pm cd doc : Value) (a : Addr) (vs : List Value) (ns : List Int),
      Ground q loose [] XP w s₀ mg mb s₁.heap → YP w s₁.heap →
      s₁.heap.get? fa = some o → o.data = .func (docDef d.name d.params d.body d.scope pm cd doc) → s₁.heap.CodeRec cd d.name → mg d.name = some (.ref fa) →
      s₁.heap.get? a = some { cls := .type "list", data := .seq vs.toArray } → IntsAre vs ns → ns.length ≤ n → s₁.gens = #[] →
      codeAny (model l.prog w) callerA (.call (.ref fa) ⟨[.ref a], []⟩) (fun r s' => r = .ok (.ret (.bool true)) ∧ OldK s₁.heap s'.heap ∧ s'.os = s₁.os ∧ AllBare s'.gens) s₁) :
    WalkO q loose XP YP l.row.toRowW d [] (fun f vs => PySem.call f vs) := by
  intro w s₀ s₁ mg mb G Y fa o pm cd doc dV kV ho hd hcd hD hmg hg args vals as hpre hlay hrd hwl hlo
  obtain rfl : dV = .none := Dflts.none hD hdf
  obtain rfl : kV = .none := Dflts.noKw hD
  obtain ⟨a, vs, ns, rfl, rfl, hobj, hints, hlen⟩ := script_of hn hpre hwl
  refine enter_call (codeAny_mono (call w s₀ s₁ mg mb fa o pm cd doc a vs ns G Y ho (fd_plain hd) hcd hmg hobj hints hlen hg) fun r s' hq => ?_)
  obtain ⟨rfl, h2, h3, h4⟩ := hq
  exact ⟨.inl ⟨.bool true, .bool true, [], rfl, fun ψ => rfl, .bool true, post_true l _, fun ψ => ⟨List.Pairwise.nil, fun ψ hm => (nomatch hm)⟩⟩, h2, h3, h4⟩
section
variable {prog : Program} {w : World} {A : Around} {E : L2.VSP} {s : Shared} {K : Frag}
end
end Att
namespace L2
open PySem PySem.Spec PyProof.Rows
theorem vals_ints : ∀ {vs : List Value} {ns : List Int}, IntsAre vs ns → Vals (ns.map V.int) vs
  | _, _, .nil => .nil
  | _, _, .cons n t h => .cons ⟨t, rfl⟩ (vals_ints h)
end L2
namespace L2
open PySem PySem.Spec PyProof.Rows
noncomputable def defArgs (s : Stmt) : Arguments := match s with
  | .FunctionDef _ a _ _ _ _ _ _ _ _ => a
  | _ => { posonlyargs := [], args := [], vararg := none, kwonlyargs := [], kw_defaults := [], kwarg := none, defaults := [] }
noncomputable def defBody (s : Stmt) : List Stmt := match s with
  | .FunctionDef _ _ b _ _ _ _ _ _ _ => b
  | _ => []
noncomputable def defScope (s : Stmt) : Scope := match s with
  | .FunctionDef _ _ _ _ _ _ sc _ _ _ => sc
  | _ => { kind := .function, names := [], isGenerator := false, isCoroutine := false }
noncomputable abbrev CX0 : CXT := fun ψ ψ ψ ψ ψ ψ => False
noncomputable abbrev E0 : XK := fun ψ ψ ψ => False
structure Fun (K : PySem.W.Frag) (x qual : Str) (st : Stmt) (f : Addr) (fd : FuncData) : Prop where
  ex : ∃ (oc : Value) (od : Option Addr) (kV doc pm : Value) (an : Option Addr) (cdv ct : Value) (osl : Array (Option Value)),
    fd = PySem.W.fnOf x qual (defArgs st) (defBody st) (defScope st) .none kV doc pm an cdv ct ∧ K.lookup f = some ⟨oc, od, .func fd, osl⟩ ∧ PySem.W.codeIn K cdv qual = true
  kp : PySem.W.keepIn K (.ref f) = true
section
variable {P : Program} {w : World} {K : PySem.W.Frag} {mg : L2.SV} {base : Heap}
theorem Fun.ok {x qual : Str} {st : Stmt} {f : Addr} {fd : FuncData} {N ps : List Str} {k : Nat} {sp : Sp} (F : Fun K x qual st f fd) (S : FnScope N ps (defScope st)) (len : ∀ vs H Q E, sp vs H Q E → vs.length = ps.length)
    (hbody : ∀ (cdv : Value) (A : Around) (outer : List Env) (s : Shared) (H : Hp) (vs : List V) (Q : VK) (E : XK), Room k (A.deeper (envOfC qual (defScope st) s.heap.objs.size f cdv)) → sp vs H Q E →
      ∃ t, PSs (cxOf CX0 P w K mg base N qual (defScope st) f cdv A outer s H E).nox (defBody st) t ∧ t { nx := fun ψ H' => Q .non H', rt := Q } (start N vs) H) : FnOk P w K mg base CX0 (k + 1) f fd ps sp := by
  obtain ⟨oc, od, kV, doc, pm, an, cdv, ct, osl, rfl, lk, hcd⟩ := F.ex
  refine fn_of lk hcd S len fun A outer s H vs Q E hr hsp => ?_
  obtain ⟨t, h, q⟩ := hbody cdv A outer s H vs Q E hr hsp
  exact ⟨t, h.nox, q⟩
theorem Fun.binds {x qual : Str} {st : Stmt} {f : Addr} {fd : FuncData} {ps : List Str} (F : Fun K x qual st f fd)
    (h : ∀ (kV doc pm : Value) (an : Option Addr) (cdv ct : Value) (us : List Value), us.length = ps.length → bindArgs (PySem.W.fnOf x qual (defArgs st) (defBody st) (defScope st) .none kV doc pm an cdv ct) ⟨us, []⟩ = pure (ps.zip us)) : Binds K fd ps [] := by
  obtain ⟨oc, od, kV, doc, pm, an, cdv, ct, osl, rfl, lk, hcd⟩ := F.ex
  exact .all (h kV doc pm an cdv ct)
theorem fun_mk {x qual : Str} {st : Stmt} {f : Addr} {oc : Value} {od an : Option Addr} {osl : Array (Option Value)} {kV doc pm cdv ct : Value} (l : K.lookup f = some ⟨oc, od, .func (PySem.W.fnOf x qual (defArgs st) (defBody st) (defScope st) .none kV doc pm an cdv ct), osl⟩)
    (c : PySem.W.codeIn K cdv qual = true) (k : PySem.W.keepIn K (.ref f) = true) : Fun K x qual st f (PySem.W.fnOf x qual (defArgs st) (defBody st) (defScope st) .none kV doc pm an cdv ct) := ⟨⟨oc, od, kV, doc, pm, an, cdv, ct, osl, rfl, l, c⟩, k⟩
end
section
variable {X : Cx}
end
noncomputable def Same (H H' : Hp) : Prop := ∀ b o, H b = some o → H' b = some o
theorem Same.refl (H : Hp) : Same H H := fun ψ ψ h => h
theorem Same.trans {H H1 H2 : Hp} (a : Same H H1) (b : Same H1 H2) : Same H H2 := fun c o h => b c o (a c o h)
theorem Same.free {H H' : Hp} (e : Same H H') {l : Addr} (h : H' l = Option.none) : H l = Option.none := by
  cases q : H l with
  | none => rfl
  | some o =>
    rw [e l o q] at h
    cases h
theorem Same.seq {K : PySem.W.Frag} {H H' : Hp} {a : Addr} {xs : List V} (e : Same H H') (h : SqL K H a xs) : SqL K H' a xs := by
  rcases h with (h | ⟨o, h⟩) | h
  · exact .inl (.inl (e _ _ h))
  · exact .inl (.inr ⟨o, e _ _ h⟩)
  · exact .inr h
theorem compLoop_any {prog : Program} {w : World} {A : Around} {R : Result → Shared → Prop} {s : Shared} {elt target iter : Expr} {ifs : List Expr} {scope : Scope} {pos : Pos} {it acc : Value} {env : Env} (I : Nat → Shared → Prop)
    (turn : ∀ n s, I n s → wpAny (model prog w) A (pyNext it) (fun r s₁ => match r with
      | none => R (.ok .next) s₁
      | some v => wpAny (model prog w) A (letOwnedTupleGo target it v) (fun ψ s₁' => wpAny (model prog w) A (assign target env v) (fun ψ s₂ =>
          wpAny (model prog w) A (forIn ifs true fun c r => if r = true then do let ok ← isTrue c env (eval c env); pure (ForInStep.yield ok) else pure (ForInStep.yield r)) (fun ok s₃ =>
            if ok = true then wpAny (model prog w) A (eval elt env) (fun x s₄ =>
              wpAny (model prog w) A (call (.builtin "list.append") [acc, x]) (fun ψ s₅ => ∃ m, m < n ∧ I m s₅) (fun ψ ψ => False) s₄) (fun ψ ψ => False) s₃
            else ∃ m, m < n ∧ I m s₃) (fun ψ ψ => False) s₂) (fun ψ ψ => False) s₁') (fun ψ ψ => False) s₁) (fun ψ ψ => False) s)
    (n : Nat) (h : I n s) : codeAny (model prog w) A (.compLoop (.ListComp elt [⟨target, iter, ifs, 0⟩] scope pos) 0 it acc env) R s := by
  refine codeAny_loop rfl I (fun n s hI => ?_) n h
  show wpAny _ A ((compTurn (.ListComp elt [⟨target, iter, ifs, 0⟩] scope pos) 0 it acc env).onRaise (fun x => do noteFrame x env; theTreesLotGoes x)) _ _ s
  refine wpAny_noted (wpAny_noRaise ?_)
  rw [compTurn_list]
  refine wpAny_bind (wpAny_standAt (wpAny_bind (thn (turn n s hI) fun r s₁ h₁ => ?_)))
  cases r with
  | none => exact wpAny_pure h₁
  | some v =>
    refine wpAny_bind (thn h₁ fun ψ s₁' h₁' => ?_)
    refine wpAny_bind (thn h₁' fun ψ s₂ h₂ => wpAny_bind (thn h₂ fun ok s₃ h₃ => ?_))
    cases ok with
    | false => exact wpAny_pure ⟨rfl, h₃⟩
    | true => exact wpAny_bind (wpAny_bind (thn h₃ fun x s₄ h₄ => wpAny_bind (thn h₄ fun ψ s₅ h₅ => wpAny_pure (wpAny_pure ⟨rfl, h₅⟩))))
theorem Inv.adopt {X : Cx} {pins : List (Addr × Obj)} {σ : St} {H : Hp} {s : Shared} {d : Addr} {o : HO} (I : Inv X pins σ H s) (f : FpOk X pins H d) (new : ObjOk X.prog X.w (upd H d o) s.heap d o) : Inv X pins σ (upd H d o) s := by
  obtain ⟨f0, f1, f2, f3, f4, f5⟩ := f
  have nd : ∀ b u, H b = some u → b ≠ d := fun b u e z => by rw [z, f0] at e; cases e
  refine I.step (h' := s.heap) (g' := s.gens) (d' := s.drawn) (t' := s.toks) (ch := [d]) (fun b hb => ?_) (fun b u ψ ψ ψ e ψ => e) (fun b u ψ ψ ψ e ψ => ⟨u.slots, e⟩) (fun b u hc e n => ?_) (fun b u ψ e => ⟨u, e⟩)
    (fun b xs e => by rw [upd_ne (nd b _ e)]; exact e) (fun b u v e => by rw [upd_ne (nd b _ e)]; exact e) (fun b ps e => ⟨#[], by rw [upd_ne (nd b _ e), e]; simp⟩) (fun m hm => hm) (fun b u e => ?_) I.bare
  · have z : b = d := by simpa using hb
    subst z
    exact ⟨f3, f1, f4, f5⟩
  · rw [upd_ne (fun z => hc (by simp [z]))]; exact n
  · by_cases hb : b = d
    · subst hb; rw [upd_same] at e; cases e; exact new
    · rw [upd_ne hb] at e
      exact (I.hok b u e).stay (fun ψ ψ ψ q => q) (fun c q => by rw [upd_ne (nd c _ q)]; exact q) fun c xs q => by rw [upd_ne (nd c _ q)]; exact q
inductive Caps (X : Cx) (sc : Scope) (cl : List (Str × Addr)) : List Nat → List Str → Prop
  | nil : Caps X sc cl [] []
  | cons {j : Nat} {js : List Nat} {y : Str} {ys : List Str} (hN : X.N[j]? = some y) (hk : X.env.kindOf y = some .cell ∨ X.env.kindOf y = some .free) (hl : cl.lookup y = X.env.cells.lookup y)
      (hv : sc.names.lookup y = some .cell ∨ sc.names.lookup y = some .free) (r : Caps X sc cl js ys) : Caps X sc cl (j :: js) (y :: ys)
noncomputable def blk (k : Nat) (js : List Nat) (σ : St) : St := List.replicate k none ++ js.map fun j => (σ[j]?).getD none
theorem Caps.get {X : Cx} {sc : Scope} {cl : List (Str × Addr)} {σ : St} : ∀ {js : List Nat} {ys : List Str} {i : Nat} {y : Str} {v : V}, Caps X sc cl js ys → ys[i]? = some y → (js.map fun (j : Nat) => (σ[j]?).getD none)[i]? = some (some v) →
    ∃ j : Nat, X.N[j]? = some y ∧ σ[j]? = some (some v) ∧ (X.env.kindOf y = some .cell ∨ X.env.kindOf y = some .free) ∧ cl.lookup y = X.env.cells.lookup y ∧ (sc.names.lookup y = some .cell ∨ sc.names.lookup y = some .free)
  | _, _, _, _, _, .nil, e, _ => by simp at e
  | _, _, 0, y, v, .cons (j := j) hN hk hl hv _, e, e2 => by
    simp at e e2
    subst e
    refine ⟨j, hN, ?_, hk, hl, hv⟩
    cases q : σ[j]? with
    | none => rw [q] at e2; simp at e2
    | some z => rw [q] at e2; simp at e2; rw [e2]
  | _, _, i + 1, y, v, .cons _ _ _ _ r, e, e2 => Caps.get (i := i) r (by simpa using e) (by simpa using e2)
theorem Caps.len {X : Cx} {sc : Scope} {cl : List (Str × Addr)} : ∀ {js : List Nat} {ys : List Str}, Caps X sc cl js ys → js.length = ys.length
  | _, _, .nil => rfl
  | _, _, .cons _ _ _ _ r => by simp [r.len]
noncomputable def cxComp (X : Cx) (N : List Str) (scope : Scope) (cl : List (Str × Addr)) (C : Addr) (pins : List (Addr × Obj)) (fp : List Addr) (s2 : Shared) (H2 : Hp) : Cx where
  prog := X.prog
  w := X.w
  K := X.K
  mg := X.mg
  base := X.base
  A := X.A
  N := N
  s₀ := s2
  H₀ := H2
  env := compEnvC scope cl C X.env
  outer := X.stack
  stack := X.stack
  ex := fp
  fn := fun ψ => false
  calm := X.calm
  pn := X.pn ++ pins
  xe := fun ψ ψ => False
noncomputable def PTs (X : Cx) (ifs : List Expr) (t : TT) : Prop :=
  ∀ (pins : List (Addr × Obj)) (s : Shared) (σ : St) (H : Hp) (Q : Bool → Hp → Prop), Inv X pins σ H s → t σ H Q →
    wpAny (model X.prog X.w) X.A (forIn ifs true fun c r => if r = true then do let ok ← isTrue c X.env (eval c X.env); pure (ForInStep.yield ok) else pure (ForInStep.yield r)) (TP X pins σ Q) X.xe s
noncomputable def tTrue : TT := fun ψ H Q => Q true H
theorem pts_nil {X : Cx} : PTs X [] tTrue := fun ψ ψ ψ H ψ I h => wpAny_tests_nil ⟨H, I, h⟩
theorem pts_one {X : Cx} {c : Expr} {t : TT} (h : PT X c t) : PTs X [c] t := fun pins s σ H Q I hq => wpAny_tests_one (h pins s σ H Q I hq)
noncomputable def tComp (wi : TI) (k : Nat) (js : List Nat) (g : TG) (tc : TT) (te : TE) : TE := fun σ H Q => wi σ H fun J H1 => ∃ W : Nat → Nat → List V → Hp → Prop, (∃ m, W 0 m [] H1) ∧ ∀ i m ys H, W i m ys H →
  (J.stop i H ∧ ys.length ≤ sizeLine ∧ ∀ p, H p = none → Q (.ref p) (upd H p (.lst ys))) ∨
  (J.go i H ∧ ys.length ≤ sizeLine ∧ ∀ x H', J.yld i H x H' → g x (blk k js σ) H' fun σ2 H2 => tc σ2 H2 fun b H3 => if b = true then te σ2 H3 fun v H4 => ∃ m', m' < m ∧ W (i + 1) m' (ys ++ [v]) H4 else ∃ m', m' < m ∧ W (i + 1) m' ys H3)
section
variable {X : Cx} {elt tg iter : Expr} {ifs : List Expr} {scope : Scope} {pos : Pos} {cl : List (Str × Addr)} {bs caps : List Str} {js : List Nat} {wi : TI} {g : TG} {tc : TT} {te : TE}
structure CompOk (X : Cx) (scope : Scope) (cl : List (Str × Addr)) (js : List Nat) (caps : List Str) : Prop where
  clos : closureFor scope X.env = pure cl
  cell : ∀ y ∈ scope.names, y.2 ≠ .cell
  kind : scope.kind = .function
  names : ∀ y ∈ scope.names, y.2 = .local → scope.names.lookup y.1 = some .local
  fr : ∀ y ∈ scope.names, y.2 = .free → (cl.lookup y.1).isSome = true
  sub : ∀ y c, cl.lookup y = some c → X.env.cells.lookup y = some c
  cap : Caps X (relabel scope X.env) cl js caps
theorem kind_relabel {scope : Scope} {env : Env} {x : Str} {k : NameKind} (hc : ∀ y ∈ scope.names, y.2 ≠ .cell) (hk : k = .cell ∨ k = .free) (h : (relabel scope env).names.lookup x = some k) : ∃ y ∈ scope.names, y.1 = x ∧ y.2 = .free := by
  have m := PySem.mem_of_lookup h
  obtain ⟨y, hy, e⟩ := List.mem_map.mp m
  obtain ⟨n, k'⟩ := y
  dsimp only at e
  by_cases q : (k' == NameKind.free && env.scope.kind == .function && env.kindOf n == some .cell) = true
  · rw [if_pos q] at e
    have e1 : n = x := congrArg Prod.fst e
    refine ⟨(n, k'), hy, e1, ?_⟩
    simp only [Bool.and_eq_true, beq_iff_eq] at q
    exact q.1.1
  · rw [if_neg q] at e
    have e1 : n = x := congrArg Prod.fst e
    have e2 : k' = k := congrArg Prod.snd e
    rcases hk with z | z
    · exact absurd (e2.trans z) (hc (n, k') hy)
    · exact ⟨(n, k'), hy, e1, e2.trans z⟩
theorem cxComp_ok {pins : List (Addr × Obj)} {σ : St} {H2 : Hp} {s2 : Shared} {fp : List Addr} {C : Addr} (c : CompOk X scope cl js caps) (I2 : Inv X pins σ H2 s2) (hC : s2.heap.objs.size ≤ C) (f2 : ∀ b ∈ fp, FpOk X pins H2 b) (ho : ∀ b ∈ fp, ∃ o, s2.heap.get? b = some o) :
    (cxComp X (bs ++ caps) scope cl C pins fp s2 H2).Ok := by
  have lt : ∀ b ∈ fp, b < C := fun b hb => let ⟨o, e⟩ := ho b hb; Nat.lt_of_lt_of_le (Heap.lt_size e) hC
  refine ⟨I2.ok.mod, c.kind, I2.ok.glob, I2.ok.blt, hC, fun x y a h1 h2 => I2.ok.inj x y a (c.sub _ _ h1) (c.sub _ _ h2), fun x hx => ?_, fun x a h ψ => absurd (show false = true from h) Bool.false_ne_true, I2.ok.hd, I2.ok.frames, .inl rfl, fun b hb => ⟨Nat.ne_of_lt (lt b hb), fun x a h => (f2 b hb).2.2.2.2.1 x a (c.sub _ _ h)⟩,
    I2.bs, Nat.le_trans I2.ok.bsz I2.sz, fun b o e hb => ?_, fun b hb z => ?_, I2.stack, I2.stkFree⟩
  · have hx' : (relabel scope X.env).names.lookup x = some .cell ∨ (relabel scope X.env).names.lookup x = some .free := hx
    obtain ⟨y, hy, e1, e2⟩ : ∃ y ∈ scope.names, y.1 = x ∧ y.2 = .free := by
      rcases hx' with q | q
      · exact kind_relabel c.cell (.inl rfl) q
      · exact kind_relabel c.cell (.inr rfl) q
    subst e1
    exact Option.isSome_iff_exists.mp (c.fr y hy e2)
  · rcases (f2 b hb).2.2.2.1 with z | z
    · exact I2.ok.noex b o e z
    · exact absurd (Nat.lt_of_lt_of_le (Heap.lt_size (I2.ok.bs b o e).1) z) (Nat.lt_irrefl _)
  · have f := f2 b hb
    rcases List.mem_cons.mp (I2.stkSub b z) with q | q
    · exact f.2.1 q
    · exact f.2.2.1 q
theorem comp_core {pins : List (Addr × Obj)} {σ : St} {H2 : Hp} {s2 : Shared} {fp : List Addr} {it : Addr} {tn : Nat → Heap → Prop} {J : It} {RR : Value → Addr → Result → Shared → Prop} {Z : List V → Hp → Prop} {E : L2.VSP} (hc : X.calm = true) (c : CompOk X scope cl js caps)
    (hg : ∀ C pins fp s2 H2, PG (cxComp X (bs ++ caps) scope cl C pins fp s2 H2) tg g) (ht : ∀ C pins fp s2 H2, PTs (cxComp X (bs ++ caps) scope cl C pins fp s2 H2) ifs tc) (he : ∀ C pins fp s2 H2, PE (cxComp X (bs ++ caps) scope cl C pins fp s2 H2) elt te)
    (I2 : Inv X pins σ H2 s2) (T : Turn X.prog X.w X.K tg J fp it tn) (st2 : tn 0 s2.heap) (f2 : ∀ b ∈ fp, FpOk X pins H2 b) (W : Nat → Nat → List V → Hp → Prop) {m0 : Nat} (w0 : W 0 m0 [] H2)
    (turn : ∀ i m ys H, W i m ys H →
      (J.stop i H ∧ ys.length ≤ sizeLine ∧ Z ys H) ∨
      (J.go i H ∧ ys.length ≤ sizeLine ∧ ∀ x H', J.yld i H x H' → g x (blk bs.length js σ) H' fun σ2 H2 => tc σ2 H2 fun b H3 => if b = true then te σ2 H3 fun v H4 => ∃ m', m' < m ∧ W (i + 1) m' (ys ++ [v]) H4 else ∃ m', m' < m ∧ W (i + 1) m' ys H3))
    (hR : ∀ (D C : Addr) (s4 : Shared) (H3 : Hp) (ys : List V) (mC : L2.SV), Inv X pins σ (upd H3 D (.lst ys)) s4 → H3 D = none → FpOk X pins (upd H3 D (.lst ys)) C → s4.heap.Ns C mC → Z ys H3 → RR (.ref D) C (.ok .next) s4) :
    wpAny (model X.prog X.w) X.A (newList []) (fun acc s₃ => wpAny (model X.prog X.w) X.A (newFunctionEnv scope X.env.globals cl [] X.env.qual none .none (some X.env)) (fun cenv s₄ =>
      codeAny (model X.prog X.w) X.A (.compStart (.ListComp elt [⟨tg, iter, ifs, 0⟩] scope pos) 0 (.ref it) acc { cenv with scope := relabel scope X.env }) (RR acc cenv.locals) s₄) E s₃) E s2 := by
  refine wpAny_newObj_type (wpAny_newFunctionEnv c.cell (by intro y hy; simp at hy) (fun h₁ hns₁ hsb₁ => ?_) c.kind)
  dsimp only at hns₁ hsb₁ ⊢
  generalize hP : s2.heap.push { cls := .type "list", dict := none, data := .seq ([] : List Value).toArray } = P2 at hns₁ hsb₁ ⊢
  have hCs : P2.objs.size = s2.heap.objs.size + 1 := by rw [← hP, Heap.size_push]
  have hCle : s2.heap.objs.size ≤ P2.objs.size := by rw [hCs]; exact Nat.le_succ _
  have hDC : s2.heap.objs.size ≠ P2.objs.size := by rw [hCs]; exact Nat.ne_of_lt (Nat.lt_succ_self _)
  have below : ∀ b, b < s2.heap.objs.size → b ≠ P2.objs.size := fun b hb => by rw [hCs]; exact Nat.ne_of_lt (Nat.lt_succ_of_lt hb)
  have old : ∀ b o, s2.heap.get? b = some o → h₁.get? b = some o := fun b o e => hsb₁.extBut b o (below b (Heap.lt_size e)) (Heap.get?_push_of_some _ (hP ▸ Heap.get?_push_of_some _ e))
  have hacc : h₁.get? s2.heap.objs.size = some { cls := .type "list", data := .seq ([] : List Value).toArray } := hsb₁.extBut _ _ hDC (Heap.get?_push_of_some _ (hP ▸ Heap.get?_push_size _ rfl))
  have ob2 : ∀ b ∈ fp, ∃ o, s2.heap.get? b = some o := fun b hb => let ⟨o, e, _⟩ := T.obj 0 _ st2 b hb; ⟨o, e⟩
  have okY := cxComp_ok (bs := bs) c I2 hCle f2 ob2
  have fD : ∀ {H3 : Hp}, H3 s2.heap.objs.size = none → FpOk X pins H3 s2.heap.objs.size := fun hn => I2.fpOk (Nat.le_refl _) hn
  have fC : ∀ {H3 : Hp}, H3 P2.objs.size = none → FpOk X pins H3 P2.objs.size := fun hn => I2.fpOk hCle hn
  have stkne : ∀ b, b ∈ frs X.stack → b < s2.heap.objs.size := fun b hb => by
    rcases List.mem_cons.mp (I2.stkSub b hb) with q | q
    · rw [q]; exact I2.lt
    · obtain ⟨_, o, e, _⟩ := I2.ok.funs.mem q
      exact Nat.lt_of_lt_of_le (Heap.lt_size e) I2.sz
  have fpY : ∀ {H3 : Hp} {o : Obj}, (∀ b ∈ fp, H3 b = none) → ∀ b ∈ fp, FpOk (cxComp X (bs ++ caps) scope cl P2.objs.size pins fp s2 H2) [(s2.heap.objs.size, o)] H3 b := fun {H3 o} hn b hb => by
    obtain ⟨o', e'⟩ := ob2 b hb
    have f := f2 b hb
    refine ⟨hn b hb, below b (Heap.lt_size e'), okY.exfs b hb, .inl hb, fun x a h => f.2.2.2.2.1 x a (c.sub _ _ h), fun p hp => ?_⟩
    rcases List.mem_append.mp hp with z | z
    · exact f.2.2.2.2.2 p z
    · have z' : p = (s2.heap.objs.size, o) := by simpa using z
      subst z'
      exact Ne.symm (Nat.ne_of_lt (Heap.lt_size e'))
  have IY : Inv (cxComp X (bs ++ caps) scope cl P2.objs.size pins fp s2 H2) [(s2.heap.objs.size, { cls := .type "list", data := .seq ([] : List Value).toArray })] (blk bs.length js σ) H2 { s2 with heap := h₁, toks := s2.toks + ([] : List (Str × Value)).length } := by
    obtain ⟨m, hn, hl⟩ := I2.loc
    refine ⟨okY, rfl, I2.bare, Un.kept old, ⟨_, hns₁, fun i x v e1 e2 e3 => ?_⟩, fun x a h => ?_, I2.hok.fresh hCle, fun x a h => I2.freeC x a (c.sub _ _ h), fun p hp => ?_, I2.hok.kept old, ?_⟩
    · have hi : ¬ i < bs.length := fun hi => by
        have e2' : (List.replicate bs.length none ++ _)[i]? = some (some v) := e2
        rw [List.getElem?_append_left (by simpa using hi), List.getElem?_replicate, if_pos hi] at e2'
        cases e2'
      have e1' : (bs ++ caps)[i]? = some x := e1
      rw [List.getElem?_append_right (by lia)] at e1'
      have e2' : (List.replicate bs.length none ++ js.map fun j => (σ[j]?).getD none)[i]? = some (some v) := e2
      rw [List.getElem?_append_right (by simpa using hi), List.length_replicate] at e2'
      obtain ⟨j, q1, q2, q3, q4, q5⟩ := c.cap.get e1' e2'
      have vis : Vis X.env.scope x := by rcases q3 with z | z; exact .inr (.inl z); exact .inr (.inr z)
      obtain ⟨u, r, l⟩ := hl j x v q1 q2 vis
      refine ⟨u, r, .inr ⟨q5, ?_⟩⟩
      rcases l with ⟨z, _⟩ | ⟨_, a, z, z2⟩
      · rcases q3 with y | y <;> (rw [y] at z; cases z)
      · obtain ⟨ob, eo, d⟩ := z2
        exact ⟨a, q4.trans z, ob, old _ _ eo, d⟩
    · obtain ⟨v, ob, eo, d⟩ := I2.cell x a (c.sub _ _ h)
      exact ⟨v, ob, old _ _ eo, d⟩
    · rcases List.mem_append.mp hp with z | z
      · obtain ⟨q1, q2, q3, q4, q5⟩ := I2.pin p z
        refine ⟨old _ _ q1, q2, below _ (Heap.lt_size q1), fun y => ?_, q5⟩
        rcases List.mem_cons.mp (I2.stkSub p.1 y) with q | q
        · exact q3 q
        · exact q4 q
      · have z' : p = (s2.heap.objs.size, { cls := .type "list", data := .seq ([] : List Value).toArray }) := by simpa using z
        subst z'
        refine ⟨hacc, I2.hok.fresh (Nat.le_refl _), hDC, fun y => absurd (stkne _ y) (Nat.lt_irrefl _), fun v y => ?_⟩
        have y' : Data.seq _ _ = Data.cell v := y
        cases y'
    · show (List.replicate bs.length none ++ js.map fun j => (σ[j]?).getD none).length = (bs ++ caps).length
      rw [List.length_append, List.length_replicate, List.length_map, List.length_append, c.cap.len]
  have stat : ∀ {H3 : Hp} {o : Obj}, (∀ b ∈ fp, H3 b = none) → ∀ b ∈ fp, FpOk (cxComp X (bs ++ caps) scope cl P2.objs.size pins fp s2 H2) [(s2.heap.objs.size, o)] H3 b := fpY
  have loop : codeAny (model X.prog X.w) X.A (.compLoop (.ListComp elt [⟨tg, iter, ifs, 0⟩] scope pos) 0 (.ref it) (.ref s2.heap.objs.size) (compEnvC scope cl P2.objs.size X.env)) (RR (.ref s2.heap.objs.size) P2.objs.size)
      { s2 with heap := h₁, toks := s2.toks + ([] : List (Str × Value)).length } := by
    refine compLoop_any (fun n s' => ∃ (i : Nat) (ys : List V) (its : List Value) (nn : Nat) (H' : Hp), Inv (cxComp X (bs ++ caps) scope cl P2.objs.size pins fp s2 H2) [(s2.heap.objs.size, { cls := .type "list", data := .seq its.toArray nn })] (blk bs.length js σ) H' s' ∧ Vals ys its ∧ tn i s'.heap ∧ (∀ b ∈ fp, H' b = none) ∧ W i n ys H') ?_ m0
      ⟨0, [], [], 0, H2, IY, .nil, T.keep _ _ _ st2 fun b ψ o e => old b o e, fun b hb => (f2 b hb).1, w0⟩
    rintro n s3 ⟨i, ys, its, nn, H3, I3, rv, st3, fr3, w3⟩
    rcases turn i n ys H3 w3 with ⟨stop, hz, hZ⟩ | ⟨go, hz, step⟩
    · refine thn (T.done (cxComp X (bs ++ caps) scope cl P2.objs.size pins fp s2 H2) rfl rfl rfl hc i _ s3 _ H3 _ I3 (stat fr3) st3 stop) fun r s4 ⟨hr, I4⟩ => ?_
      subst hr
      obtain ⟨q1, q2, q3, q4, _⟩ := I4.pin (s2.heap.objs.size, { cls := .type "list", data := .seq its.toArray nn }) (by simp)
      have JX : Inv X pins σ H3 s4 := I2.call' (ch := fp) I4.os I4.base I4.hok I4.bare fun b hb => let f := f2 b hb; ⟨f.2.2.2.1, f.2.1, f.2.2.2.2.1, f.2.2.2.2.2⟩
      have JD : Inv X pins σ (upd H3 s2.heap.objs.size (.lst ys)) s4 := JX.adopt (fD q2) ⟨hz, its, nn, rv, q1⟩
      obtain ⟨mC, hnC, _⟩ := I4.loc
      exact hR _ _ s4 H3 ys mC JD q2 (fC (by rw [upd_ne (Ne.symm hDC)]; exact I4.free)) hnC hZ
    · refine thn (T.item (cxComp X (bs ++ caps) scope cl P2.objs.size pins fp s2 H2) rfl rfl rfl hc i _ s3 _ H3 _ I3 (stat fr3) st3 go) fun r s4 ⟨u, hr, h4⟩ => ?_
      subst hr
      refine thn h4 fun _ s5 ⟨x, H5, I5, r5, y5, st5, fr5⟩ => ?_
      have I5' := I5.pinned (stat fr5) (T.obj _ _ st5)
      refine thn (hg _ _ _ _ _ _ s5 _ H5 x u _ I5' r5 (step x H5 y5)) fun _ s6 ⟨σ6, H6, I6, q6⟩ => ?_
      refine thn (ht _ _ _ _ _ _ s6 σ6 H6 _ I6 q6) fun ok s7 ⟨H7, I7, q7⟩ => ?_
      have back : ∀ {σ8 : St} {H8 : Hp} {s8 : Shared}, Inv (cxComp X (bs ++ caps) scope cl P2.objs.size pins fp s2 H2) ([(s2.heap.objs.size, { cls := .type "list", data := .seq its.toArray nn })] ++ pinsAt fp s5.heap) σ8 H8 s8 → tn (i + 1) s8.heap ∧ ∀ b ∈ fp, H8 b = none := fun {σ8 H8 s8} I8 =>
        ⟨T.keep _ _ _ st5 fun b hb o e => (I8.pin (b, o) (List.mem_append_right _ (List.mem_append_right _ (mem_pinsAt hb e)))).1, fun b hb => by
          obtain ⟨o, e, d⟩ := T.obj _ _ st5 b hb
          exact (I8.pin (b, o) (List.mem_append_right _ (List.mem_append_right _ (mem_pinsAt hb e)))).2.1⟩
      have base : ∀ {σ8 : St} {H8 : Hp} {s8 : Shared} {o : Obj}, Inv (cxComp X (bs ++ caps) scope cl P2.objs.size pins fp s2 H2) [(s2.heap.objs.size, o)] σ8 H8 s8 → Inv (cxComp X (bs ++ caps) scope cl P2.objs.size pins fp s2 H2) [(s2.heap.objs.size, o)] (blk bs.length js σ) H8 s8 := fun {σ8 H8 s8 o} I8 => by
        obtain ⟨mC, hnC, _⟩ := I8.loc
        refine ⟨I8.ok, I8.os, I8.bare, I8.base, ⟨mC, hnC, fun i x v e1 e2 e3 => ?_⟩, I8.cell, I8.free, I8.freeC, I8.pin, I8.hok, IY.len⟩
        obtain ⟨u, r, l⟩ := IY.loc.choose_spec.2 i x v e1 e2 e3
        have hl0 := IY.loc.choose_spec.1
        refine ⟨u, r, ?_⟩
        rcases l with ⟨k, z⟩ | ⟨k, a, z, ob, eo, d⟩
        · have hb : ¬ i < bs.length := fun hi => by
            have e2' : (List.replicate bs.length none ++ _)[i]? = some (some v) := e2
            rw [List.getElem?_append_left (by simpa using hi), List.getElem?_replicate, if_pos hi] at e2'
            cases e2'
          have e1' : (bs ++ caps)[i]? = some x := e1
          rw [List.getElem?_append_right (by lia)] at e1'
          have e2' : (List.replicate bs.length none ++ js.map fun j => (σ[j]?).getD none)[i]? = some (some v) := e2
          rw [List.getElem?_append_right (by simpa using hb), List.length_replicate] at e2'
          obtain ⟨j, q1, q2, q3, q4, q5⟩ := c.cap.get e1' e2'
          have k' : (relabel scope X.env).names.lookup x = some .local := k
          rcases q5 with y | y <;> (rw [y] at k'; cases k')
        ·
          obtain ⟨v8, o8, e8, d8⟩ := I8.cell x a z
          obtain ⟨vX, oX, eX, dX⟩ := I2.cell x a (c.sub _ _ z)
          have h8 := I8.base.any eX (I2.freeC x a (c.sub _ _ z)) (fun hx => (f2 a hx).2.2.2.2.1 x a (c.sub _ _ z) rfl)
          obtain ⟨sl, h8⟩ := h8
          have eo' : h₁.get? a = some oX := old _ _ eX
          have eo2 : h₁.get? a = some ob := eo
          rw [eo'] at eo2
          cases eo2
          exact .inr ⟨k, a, z, _, h8, d⟩
      cases ok with
      | false =>
        obtain ⟨m', hm, w7⟩ := q7
        obtain ⟨st7, fr7⟩ := back I7
        exact ⟨m', hm, i + 1, ys, its, nn, H7, base I7.unpinned, rv, st7, fr7, w7⟩
      | true =>
        refine thn (he _ _ _ _ _ _ s7 σ6 H7 _ I7 q7) fun y s8 ⟨v, H8, I8, r8, m', hm, w8⟩ => ?_
        obtain ⟨st8, fr8⟩ := back I8
        have I8' := I8.unpinned
        obtain ⟨q1, q2, q3, q4, _⟩ := I8'.pin (s2.heap.objs.size, { cls := .type "list", data := .seq its.toArray nn }) (by simp)
        refine PySem.wpAny_list_append_plain (items := its.toArray) (hsz := by rw [List.size_toArray, ← rv.length]; exact hz) ⟨_, q1⟩ fun h9 hl9 hs9 => ?_
        obtain ⟨n9, e9⟩ := hl9
        have I80 : Inv (cxComp X (bs ++ caps) scope cl P2.objs.size pins fp s2 H2) [] σ6 H8 s8 := I8'.pins_of fun p hp => absurd hp (by simp)
        have I9 : Inv (cxComp X (bs ++ caps) scope cl P2.objs.size pins fp s2 H2) [] σ6 H8 { s8 with heap := h9, toks := s8.toks } := I80.turned (it := s2.heap.objs.size) (fun b o hb e => (hs9.2 b hb).trans e) q2 q3 (.inr (Nat.le_refl _))
          (fun x a h z => by
            obtain ⟨v', ob, eo, _⟩ := I2.cell x a (c.sub _ _ h)
            exact absurd (Heap.lt_size eo) (by rw [z]; exact Nat.lt_irrefl _))
          (fun p hp z => by
            have hp' : p ∈ X.pn ++ pins := (List.mem_append.mp hp).elim (fun z => z) fun z => absurd z (by simp)
            exact absurd (Heap.lt_size (I2.pin p hp').1) (by rw [z]; exact Nat.lt_irrefl _))
        have ea : its.toArray.push y = (its ++ [y]).toArray := by simp
        rw [ea] at e9
        have I10 : Inv (cxComp X (bs ++ caps) scope cl P2.objs.size pins fp s2 H2) [(s2.heap.objs.size, { cls := .type "list", data := .seq (its ++ [y]).toArray n9 })] σ6 H8 { s8 with heap := h9 } := I9.pins_of fun p hp => by
          have z' : p = (s2.heap.objs.size, { cls := .type "list", data := .seq (its ++ [y]).toArray n9 }) := by simpa using hp
          subst z'
          refine ⟨e9, q2, q3, q4, fun v' y' => ?_⟩
          have y2 : Data.seq _ _ = Data.cell v' := y'
          cases y2
        have hDf : s2.heap.objs.size ∉ fp := fun hb => by
          obtain ⟨o', e'⟩ := ob2 _ hb
          exact absurd (Heap.lt_size e') (Nat.lt_irrefl _)
        exact ⟨m', hm, i + 1, ys ++ [v], its ++ [y], n9, H8, base I10, rv.append (.cons r8 .nil), T.keep _ _ _ st8 fun b hb o e => (hs9.2 b (fun z => hDf (z ▸ hb))).trans e, fr8, w8⟩
  exact codeAny_compStart_list loop (T.self _ 0 _ _ _ (T.keep _ _ _ st2 fun b ψ o e => old b o e) loop)
theorem pe_comp (hc : X.calm = true) (c : CompOk X scope cl js caps) (hi : PI X tg iter wi)
    (hg : ∀ C pins fp s2 H2, PG (cxComp X (bs ++ caps) scope cl C pins fp s2 H2) tg g) (ht : ∀ C pins fp s2 H2, PTs (cxComp X (bs ++ caps) scope cl C pins fp s2 H2) ifs tc) (he : ∀ C pins fp s2 H2, PE (cxComp X (bs ++ caps) scope cl C pins fp s2 H2) elt te)
    (hs : ∀ x, foldedSetIterable iter X.env x = pure x := by intro ψ; rfl) : PE X (.ListComp elt [⟨tg, iter, ifs, 0⟩] scope pos) (tComp wi bs.length js g tc te) := by
  intro pins s σ H Q I h
  rw [eval_ListComp]
  refine wpAny_comprehension_free (use := none) rfl hs c.clos c.kind c.names (thn (hi pins s σ H _ I h) fun v s1 h1 => thn h1 fun itv s2 h2 => ?_)
  obtain ⟨it, fp, tn, J, H2, e, I2, T, st2, f2, W, ⟨m0, w0⟩, turn⟩ := h2
  subst e
  refine comp_core (RR := fun acc C => compPost (model X.prog X.w) X.A X.xe none (EP X pins σ Q) acc C) (Z := fun ys H => ∀ p, H p = none → Q (.ref p) (upd H p (.lst ys))) hc c hg ht he I2 T st2 f2 W w0 turn fun D C s4 H3 ys mC J4 hD fC hnC hZ => ?_
  refine ⟨mC, hnC, fun h' hs' => ⟨.ref D, upd H3 D (.lst ys), ?_, rfl, hZ D hD⟩⟩
  exact J4.turned (t' := s4.toks) (it := C) (fun b o hb e => (hs'.2 b hb).trans e) fC.1 fC.2.1 fC.2.2.2.1 fC.2.2.2.2.1 fC.2.2.2.2.2
theorem ps_setC {i : Nat} {y : Str} {py spos : Pos} (hsw : swapsWith (.ListComp elt [⟨tg, iter, ifs, 0⟩] scope pos) (some (.Name y py)) spos.line X.env = pure true) (hN : X.N.Nodup) (hy : X.N[i]? = some y) (hl : X.env.scope.names.lookup y = some .local) (hc : X.calm = true) (c : CompOk X scope cl js caps) (hi : PI X tg iter wi)
    (hg : ∀ C pins fp s2 H2, PG (cxComp X (bs ++ caps) scope cl C pins fp s2 H2) tg g) (ht : ∀ C pins fp s2 H2, PTs (cxComp X (bs ++ caps) scope cl C pins fp s2 H2) ifs tc) (he : ∀ C pins fp s2 H2, PE (cxComp X (bs ++ caps) scope cl C pins fp s2 H2) elt te)
    (hs : ∀ x, foldedSetIterable iter X.env x = pure x := by intro ψ; rfl) : PS X (.Assign [.Name y py] (.ListComp elt [⟨tg, iter, ifs, 0⟩] scope pos) spos) (tAsg (tComp wi bs.length js g tc te) (gName i)) := by
  intro pins s σ H D I h
  rw [exec_Assign_Name_used _ _ _ _ hsw]
  refine wpAny_bind (wpAny_standAt (wpAny_bind ?_))
  show wpAny _ X.A (do let _ ← comprehension (.ListComp elt [⟨tg, iter, ifs, 0⟩] scope pos) scope X.env _ (newList []) false (eval iter X.env) (some (assign (.Name y py) X.env))) _ _ s
  refine wpAny_bind (thn (wpAny_comprehension_free (use := some (assign (.Name y py) X.env)) (Q := fun ψ s' => SP X pins D .next s') rfl hs c.clos c.kind c.names
    (thn (hi pins s σ H _ I h) fun xv s1 h1 => thn h1 fun itv s2 h2 => ?_)) fun ψ s' hq => wpAny_pure (wpAny_pure hq))
  obtain ⟨it, fp, tn, J, H2, e, I2, T, st2, f2, W, ⟨m0, w0⟩, turn⟩ := h2
  subst e
  refine comp_core (RR := fun acc C => compPost (model X.prog X.w) X.A X.xe (some (assign (.Name y py) X.env)) (fun ψ s' => SP X pins D .next s') acc C) (Z := fun ys H => ∀ p, H p = none → D.nx (σ.set i (some (.ref p))) (upd H p (.lst ys))) hc c hg ht he I2 T st2 f2 W w0 turn fun d C s4 H3 ys mC J4 hD fC hnC hZ => ?_
  show wpAny _ X.A (assign (.Name y py) X.env (.ref d)) _ _ s4
  refine wpAny_assign_Name (store_ok2 J4 hN hy (.inl hl) (v := .ref d) rfl (fun s5 J5 ⟨a, hsb, ha⟩ => ?_) (.inr hl))
  have hCa : C ≠ a := by
    rcases ha with z | z
    · rw [z]; exact fC.2.1
    · exact fun q => fC.2.2.2.2.1 _ _ z q.symm
  refine ⟨mC, hnC.sameBut hsb hCa, fun h' hs' => ⟨_, _, J5.turned (t' := s5.toks) (it := C) (fun b o hb e => (hs'.2 b hb).trans e) fC.1 fC.2.1 fC.2.2.2.1 fC.2.2.2.2.1 fC.2.2.2.2.2, hZ d hD⟩⟩
end
section
variable {X : Cx}
noncomputable def CDivB (i j : Int) : Prop := 0 < j ∧ j.natAbs < 2 ^ 9000
theorem log_small {n : Nat} (h0 : 0 < n) (h : n < 2 ^ 9000) : n.log2 < 9000 := (Nat.log2_lt (Nat.ne_of_gt h0)).mpr h
theorem op_fdivB : OpR X (binaryOp .FloorDiv) (rI CDivB fun i j => .int (i / j)) := opI fun i j ψ ψ ψ ψ ψ hc q => by
  have h1 : (0 : Int) < j := hc.1
  exact floordiv_int (by lia) (by rw [Int.fdiv_eq_ediv_of_nonneg i (by lia)]; exact q) (.inl (PyProof.noPylong_of_log2 (log_small (by lia) hc.2)))
theorem bits_small {i : Int} (h : i.natAbs < 2 ^ 9000) : Builtin.Int.intBits i ≤ 2 ^ 20 := by
  unfold Builtin.Int.intBits
  split
  · exact Nat.zero_le _
  · have h2 : i.natAbs.log2 < 9000 := by
      rcases Nat.eq_zero_or_pos i.natAbs with h0 | hp
      · rw [h0]; decide
      · exact log_small hp h
    have e : (2 : Nat) ^ 20 = 1048576 := by decide
    lia
noncomputable def CMulB (i j : Int) : Prop := (-(2 ^ 64) < i ∧ i < 2 ^ 64) ∨ (-(2 ^ 64) < j ∧ j < 2 ^ 64) ∨ (i.natAbs < 2 ^ 9000 ∧ j.natAbs < 2 ^ 9000)
theorem CMulB.ok {i j : Int} (h : CMulB i j) : IntMulOk i j := by
  rcases h with ⟨h1, h2⟩ | ⟨h1, h2⟩ | ⟨h1, h2⟩
  · exact .of_left (intBits_le_64 h1 h2)
  · exact .of_right (intBits_le_64 h1 h2)
  · exact .of_bits (bits_small h1) (bits_small h2)
theorem op_mulB : OpR X (binaryOp .Mult) (rI CMulB fun i j => .int (i * j)) := opI fun ψ ψ ψ ψ ψ ψ ψ hc q => mul_int q hc.ok
end
inductive D where
  | non | bl (b : Bool) | int (i : Int) | str (x : Str) | tup (xs : List D)
mutual
noncomputable def DV (K : PySem.W.Frag) (H : Hp) : D → V → Prop
  | .non, v => v = .non
  | .bl b, v => v = .bl b
  | .int i, v => v = .int i
  | .str x, v => v = .str x
  | .tup ds, v => ∃ a xs, v = .ref a ∧ SqT K H a xs ∧ DVs K H ds xs
noncomputable def DVs (K : PySem.W.Frag) (H : Hp) : List D → List V → Prop
  | [], vs => vs = []
  | d :: ds, vs => ∃ v r, vs = v :: r ∧ DV K H d v ∧ DVs K H ds r
end
mutual
noncomputable def D.eq : D → D → Bool
  | .non, .non => true
  | .bl a, .bl b => a == b
  | .bl a, .int b => (if a then 1 else 0) == b
  | .int a, .bl b => a == (if b then 1 else 0)
  | .int a, .int b => a == b
  | .str a, .str b => a == b
  | .tup xs, .tup ys => D.eqs xs ys
  | _, _ => false
noncomputable def D.eqs : List D → List D → Bool
  | [], [] => true
  | x :: xs, y :: ys => D.eq x y && D.eqs xs ys
  | _, _ => false
end
mutual
noncomputable def D.depth : D → Nat
  | .tup xs => D.depths xs + 1
  | _ => 0
noncomputable def D.depths : List D → Nat
  | [] => 0
  | x :: xs => max (D.depth x) (D.depths xs)
end
theorem DVs.length {K : PySem.W.Frag} {H : Hp} : ∀ {ds : List D} {vs : List V}, DVs K H ds vs → ds.length = vs.length
  | [], vs, h => by rw [DVs] at h; subst h; rfl
  | d :: ds, vs, h => by
    rw [DVs] at h
    obtain ⟨v, r, rfl, _, h2⟩ := h
    simp [DVs.length h2]
theorem DVs.get {K : PySem.W.Frag} {H : Hp} : ∀ {ds : List D} {vs : List V} {j : Nat} {d : D}, DVs K H ds vs → ds[j]? = some d → ∃ v, vs[j]? = some v ∧ DV K H d v
  | [], vs, j, d, h, e => by simp at e
  | d' :: ds, vs, j, d, h, e => by
    rw [DVs] at h
    obtain ⟨v, r, rfl, h1, h2⟩ := h
    cases j with
    | zero => simp at e; subst e; exact ⟨v, rfl, h1⟩
    | succ j =>
      obtain ⟨v', e', h'⟩ := DVs.get (j := j) h2 (by simpa using e)
      exact ⟨v', by simpa using e', h'⟩
theorem all_succ (n : Nat) (e : Nat → Bool) : (List.range (n + 1)).all e = (e 0 && (List.range n).all fun j => e (j + 1)) := by
  rw [List.range_succ_eq_map, List.all_cons, List.all_map]
  rfl
theorem eqs_all : ∀ (xs ys : List D), D.eqs xs ys = ((List.range (min xs.length ys.length)).all (fun j => D.eq (xs.getD j .non) (ys.getD j .non)) && xs.length == ys.length)
  | [], [] => by simp [D.eqs]
  | [], y :: ys => by simp [D.eqs]
  | x :: xs, [] => by simp [D.eqs]
  | x :: xs, y :: ys => by
    rw [D.eqs, eqs_all xs ys]
    have e : min (x :: xs).length (y :: ys).length = min xs.length ys.length + 1 := by simp only [List.length_cons]; lia
    rw [e, all_succ]
    simp [Bool.and_assoc]
section
variable {X : Cx} {pins : List (Addr × Obj)} {σ : St} {H : Hp} {s : Shared}
theorem units_in1 (A : Around) : A.in1.units = A.units + 1 := rfl
mutual
theorem same_D (I : Inv X pins σ H s) : ∀ (d e : D) (x : V), DV X.K H d x → DV X.K H e x → D.eq d e = true
  | .non, e, x, hx, hy => by
    rw [DV] at hx; subst hx
    cases e with
    | tup b => rw [DV] at hy; obtain ⟨p, ys, z, _⟩ := hy; cases z
    | _ => rw [DV] at hy; first | rfl | cases hy
  | .bl a, e, x, hx, hy => by
    rw [DV] at hx; subst hx
    cases e with
    | tup b => rw [DV] at hy; obtain ⟨p, ys, z, _⟩ := hy; cases z
    | bl b => rw [DV] at hy; cases hy; rw [D.eq]; exact beq_self_eq_true _
    | _ => rw [DV] at hy; cases hy
  | .int a, e, x, hx, hy => by
    rw [DV] at hx; subst hx
    cases e with
    | tup b => rw [DV] at hy; obtain ⟨p, ys, z, _⟩ := hy; cases z
    | int b => rw [DV] at hy; cases hy; rw [D.eq]; exact beq_self_eq_true _
    | _ => rw [DV] at hy; cases hy
  | .str a, e, x, hx, hy => by
    rw [DV] at hx; subst hx
    cases e with
    | tup b => rw [DV] at hy; obtain ⟨p, ys, z, _⟩ := hy; cases z
    | str b => rw [DV] at hy; cases hy; rw [D.eq]; exact beq_self_eq_true _
    | _ => rw [DV] at hy; cases hy
  | .tup ds, e, x, hx, hy => by
    rw [DV] at hx
    obtain ⟨a, xs, rfl, ha, hxs⟩ := hx
    cases e with
    | tup es =>
      rw [DV] at hy
      obtain ⟨b, ys, z, hb, hys⟩ := hy
      cases z
      have e1 := I.tuple_inj ha hb
      subst e1
      rw [D.eq]
      exact sames_D I ds es xs hxs hys
    | _ => rw [DV] at hy; cases hy
theorem sames_D (I : Inv X pins σ H s) : ∀ (ds es : List D) (xs : List V), DVs X.K H ds xs → DVs X.K H es xs → D.eqs ds es = true
  | [], es, xs, hx, hy => by
    rw [DVs] at hx; subst hx
    cases es with
    | nil => rfl
    | cons e es => rw [DVs] at hy; obtain ⟨v, r, z, _⟩ := hy; cases z
  | d :: ds, es, xs, hx, hy => by
    rw [DVs] at hx
    obtain ⟨x, xr, rfl, hx1, hx2⟩ := hx
    cases es with
    | nil => rw [DVs] at hy; cases hy
    | cons e es =>
      rw [DVs] at hy
      obtain ⟨y, yr, z, hy1, hy2⟩ := hy
      cases z
      rw [D.eqs, same_D I d e x hx1 hy1, sames_D I ds es xr hx2 hy2]
      rfl
end
mutual
theorem eqAt_D (I : Inv X pins σ H s) : ∀ (d e : D) (A : Around) (x y : V) (u v : Value), RelV x u → RelV y v → DV X.K H d x → DV X.K H e y → A.units + d.depth < cLine → SeqAt.EqAt A s u v (D.eq d e)
  | .non, e, A, x, y, u, v, rx, ry, hx, hy, hu => by
    rw [DV] at hx; subst hx
    cases e with
    | non => rw [DV] at hy; subst hy; exact eqAt_V rx ry rfl rfl
    | bl b => rw [DV] at hy; subst hy; exact eqAt_V rx ry rfl rfl
    | int b => rw [DV] at hy; subst hy; exact eqAt_V rx ry rfl rfl
    | str b => rw [DV] at hy; subst hy; exact eqAt_V rx ry rfl rfl
    | tup b =>
      rw [DV] at hy
      obtain ⟨p, ys, rfl, hp, _⟩ := hy
      cases rx; cases ry
      obtain ⟨its, _, pt, _⟩ := I.tuple hp
      exact SeqAt.EqAt.none_tuple (show s.heap.IsTuple p its.toArray from pt) (by lia)
  | .bl a, e, A, x, y, u, v, rx, ry, hx, hy, hu => by
    rw [DV] at hx; subst hx
    cases e with
    | non => rw [DV] at hy; subst hy; exact eqAt_V rx ry rfl rfl
    | bl b => rw [DV] at hy; subst hy; exact eqAt_V rx ry rfl rfl
    | int b => rw [DV] at hy; subst hy; exact eqAt_V rx ry rfl rfl
    | str b => rw [DV] at hy; subst hy; exact eqAt_V rx ry rfl rfl
    | tup b =>
      rw [DV] at hy
      obtain ⟨p, ys, rfl, hp, _⟩ := hy
      cases rx; cases ry
      obtain ⟨its, _, pt, _⟩ := I.tuple hp
      exact SeqAt.EqAt.bool_tuple a (show s.heap.IsTuple p its.toArray from pt) (by lia)
  | .int a, e, A, x, y, u, v, rx, ry, hx, hy, hu => by
    rw [DV] at hx; subst hx
    cases e with
    | non => rw [DV] at hy; subst hy; exact eqAt_V rx ry rfl rfl
    | bl b => rw [DV] at hy; subst hy; exact eqAt_V rx ry rfl rfl
    | int b => rw [DV] at hy; subst hy; exact eqAt_V rx ry rfl rfl
    | str b => rw [DV] at hy; subst hy; exact eqAt_V rx ry rfl rfl
    | tup b =>
      rw [DV] at hy
      obtain ⟨p, ys, rfl, hp, _⟩ := hy
      obtain ⟨t, rfl⟩ := rx
      cases ry
      obtain ⟨its, _, pt, _⟩ := I.tuple hp
      exact SeqAt.EqAt.int_tuple a t (show s.heap.IsTuple p its.toArray from pt) (by lia)
  | .str a, e, A, x, y, u, v, rx, ry, hx, hy, hu => by
    rw [DV] at hx; subst hx
    cases e with
    | non => rw [DV] at hy; subst hy; exact eqAt_V rx ry rfl rfl
    | bl b => rw [DV] at hy; subst hy; exact eqAt_V rx ry rfl rfl
    | int b => rw [DV] at hy; subst hy; exact eqAt_V rx ry rfl rfl
    | str b => rw [DV] at hy; subst hy; exact eqAt_V rx ry rfl rfl
    | tup b =>
      rw [DV] at hy
      obtain ⟨p, ys, rfl, hp, _⟩ := hy
      obtain ⟨t, rfl⟩ := rx
      cases ry
      obtain ⟨its, _, pt, _⟩ := I.tuple hp
      exact SeqAt.EqAt.str_tuple a t (show s.heap.IsTuple p its.toArray from pt) (by lia)
  | .tup ds, e, A, x, y, u, v, rx, ry, hx, hy, hu => by
    rw [DV] at hx
    obtain ⟨a, xs, rfl, ha, hxs⟩ := hx
    cases rx
    obtain ⟨its, r1, pt, _⟩ := I.tuple ha
    have hu' : A.units + (D.depths ds + 1) < cLine := by rw [D.depth] at hu; exact hu
    cases e with
    | non => rw [DV] at hy; subst hy; cases ry; exact SeqAt.EqAt.tuple_none (show s.heap.IsTuple a its.toArray from pt) (by lia)
    | bl b => rw [DV] at hy; subst hy; cases ry; exact SeqAt.EqAt.tuple_bool b (show s.heap.IsTuple a its.toArray from pt) (by lia)
    | int b => rw [DV] at hy; subst hy; obtain ⟨t, rfl⟩ := ry; exact SeqAt.EqAt.tuple_int b t (show s.heap.IsTuple a its.toArray from pt) (by lia)
    | str b => rw [DV] at hy; subst hy; obtain ⟨t, rfl⟩ := ry; exact SeqAt.EqAt.tuple_str b t (show s.heap.IsTuple a its.toArray from pt) (by lia)
    | tup es =>
      rw [DV] at hy
      obtain ⟨b, ys, rfl, hb, hys⟩ := hy
      cases ry
      obtain ⟨its2, r2, pt2, _⟩ := I.tuple hb
      by_cases hab : a = b
      · subst hab
        have e1 := same_D I (.tup ds) (.tup es) (.ref a) (by rw [DV]; exact ⟨a, xs, rfl, ha, hxs⟩) (by rw [DV]; exact ⟨a, ys, rfl, hb, hys⟩)
        rw [e1]
        exact SeqAt.EqAt.same _
      · have key := SeqAt.RcAt.tuples (A := A) (e := fun j => D.eq (ds.getD j .non) (es.getD j .non)) (show s.heap.IsTuple a its.toArray from pt) (show s.heap.IsTuple b its2.toArray from pt2) (by lia) fun j h1 h2 => ?_
        · have l1 := hxs.length
          have l2 := hys.length
          have l3 := r1.length
          have l4 := r2.length
          refine SeqAt.EqAt.of_refs hab ?_
          rw [D.eq, eqs_all]
          rw [List.size_toArray, List.size_toArray, ← l3, ← l4, ← l1, ← l2] at key
          exact key
        · exact eqsAt_D I ds es A.in1 xs ys its its2 r1 r2 hxs hys (by rw [units_in1]; lia) j (by simpa using h1) (by simpa using h2)
theorem eqsAt_D (I : Inv X pins σ H s) : ∀ (ds es : List D) (A : Around) (xs ys : List V) (us vs : List Value), Vals xs us → Vals ys vs → DVs X.K H ds xs → DVs X.K H es ys → A.units + D.depths ds < cLine →
    ∀ j (h1 : j < us.length) (h2 : j < vs.length), SeqAt.EqAt A s us[j] vs[j] (D.eq (ds.getD j .non) (es.getD j .non))
  | [], _, _, xs, _, us, _, r1, _, hx, _, _ => fun j h1 ψ => by
    rw [DVs] at hx; subst hx
    cases r1
    simp at h1
  | d :: ds, [], _, _, ys, _, vs, _, r2, _, hy, _ => fun j ψ h2 => by
    rw [DVs] at hy; subst hy
    cases r2
    simp at h2
  | d :: ds, e :: es, A, xs, ys, us, vs, r1, r2, hx, hy, hu => fun j h1 h2 => by
    rw [DVs] at hx hy
    obtain ⟨x, xr, rfl, hx1, hx2⟩ := hx
    obtain ⟨y, yr, rfl, hy1, hy2⟩ := hy
    rw [D.depths] at hu
    cases r1 with
    | cons q1 t1 =>
      cases r2 with
      | cons q2 t2 =>
        cases j with
        | zero => exact eqAt_D I d e A x y _ _ q1 q2 hx1 hy1 (by lia)
        | succ j => exact eqsAt_D I ds es A xr yr _ _ t1 t2 hx2 hy2 (by lia) j (by simpa using h1) (by simpa using h2)
end
end
section
variable {X : Cx}
noncomputable def rEqT (K : PySem.W.Frag) (neg : Bool) : R2 := fun x y H Q => ∃ ds es, DV K H (.tup ds) x ∧ DV K H (.tup es) y ∧ D.depths ds ≤ 40 ∧ Q (.bl (if neg then !D.eqs ds es else D.eqs ds es)) H
theorem op_eqT (hu : X.A.units + 64 < cLine) : OpR X (compareOp .Eq) (rEqT X.K false) := by
  intro pins s σ H x y v u Q I rx ry h
  obtain ⟨ds, es, hx, hy, hd, q⟩ := h
  rw [DV] at hx hy
  obtain ⟨a, xs, rfl, ha, hxs⟩ := hx
  obtain ⟨b, ys, rfl, hb, hys⟩ := hy
  cases rx; cases ry
  obtain ⟨its, r1, pt, _⟩ := I.tuple ha
  obtain ⟨its2, r2, pt2, _⟩ := I.tuple hb
  refine SeqAt.eq_tupleAt (e := fun j => D.eq (ds.getD j .non) (es.getD j .non)) (show s.heap.IsTuple a its.toArray from pt) (show s.heap.IsTuple b its2.toArray from pt2) (by lia) (fun j h1 h2 => ?_) ⟨.bl _, H, I, rfl, ?_⟩
  · exact eqsAt_D I ds es X.A.in1 xs ys its its2 r1 r2 hxs hys (by rw [units_in1]; lia) j (by simpa using h1) (by simpa using h2)
  · rw [List.size_toArray, List.size_toArray, ← r1.length, ← r2.length, ← hxs.length, ← hys.length, ← eqs_all]
    exact q
theorem op_neT (hu : X.A.units + 64 < cLine) : OpR X (compareOp .NotEq) (rEqT X.K true) := by
  intro pins s σ H x y v u Q I rx ry h
  obtain ⟨ds, es, hx, hy, hd, q⟩ := h
  rw [DV] at hx hy
  obtain ⟨a, xs, rfl, ha, hxs⟩ := hx
  obtain ⟨b, ys, rfl, hb, hys⟩ := hy
  cases rx; cases ry
  obtain ⟨its, r1, pt, _⟩ := I.tuple ha
  obtain ⟨its2, r2, pt2, _⟩ := I.tuple hb
  refine SeqAt.RcNeAt.tuples (e := fun j => D.eq (ds.getD j .non) (es.getD j .non)) (show s.heap.IsTuple a its.toArray from pt) (show s.heap.IsTuple b its2.toArray from pt2) (by lia) (fun j h1 h2 => ?_) X.prog X.w X.xe _ ⟨.bl _, H, I, rfl, ?_⟩
  · exact eqsAt_D I ds es X.A.in1 xs ys its its2 r1 r2 hxs hys (by rw [units_in1]; lia) j (by simpa using h1) (by simpa using h2)
  · rw [List.size_toArray, List.size_toArray, ← r1.length, ← r2.length, ← hxs.length, ← hys.length, ← eqs_all]
    exact q
noncomputable def rEqL (K : PySem.W.Frag) (neg : Bool) : R2 := fun x y H Q => ∃ a b xs ys ds es, x = .ref a ∧ y = .ref b ∧ SqL K H a xs ∧ SqL K H b ys ∧ DVs K H ds xs ∧ DVs K H es ys ∧ D.depths ds ≤ 40 ∧ Q (.bl (if neg then !D.eqs ds es else D.eqs ds es)) H
theorem eqs_len : ∀ {xs ys : List D}, xs.length ≠ ys.length → D.eqs xs ys = false
  | [], [], h => absurd rfl h
  | [], _ :: _, _ => rfl
  | _ :: _, [], _ => rfl
  | x :: xs, y :: ys, h => by rw [D.eqs, eqs_len (fun z => h (by simp [z])), Bool.and_false]
theorem op_eqL (hu : X.A.units + 64 < cLine) : OpR X (compareOp .Eq) (rEqL X.K false) := by
  intro pins s σ H x y v u Q I rx ry h
  obtain ⟨a, b, xs, ys, ds, es, rfl, rfl, ha, hb, hxs, hys, hd, q⟩ := h
  cases rx; cases ry
  obtain ⟨its, r1, pt, _⟩ := I.list ha
  obtain ⟨its2, r2, pt2, _⟩ := I.list hb
  by_cases hl : its.length = its2.length
  · refine SeqAt.eq_listAt (e := fun j => D.eq (ds.getD j .non) (es.getD j .non)) pt.isList pt2.isList (by simp [hl]) (by lia) (fun j h1 h2 => ?_) ⟨.bl _, H, I, rfl, ?_⟩
    · exact eqsAt_D I ds es X.A.in1 xs ys its its2 r1 r2 hxs hys (by rw [units_in1]; lia) j (by simpa using h1) (by simpa using h2)
    · have e := eqs_all ds es
      have l1 := hxs.length; have l2 := hys.length; have l3 := r1.length; have l4 := r2.length
      rw [show min ds.length es.length = its.toArray.size by rw [List.size_toArray]; lia, show (ds.length == es.length) = true by rw [beq_iff_eq]; lia, Bool.and_true] at e
      rw [← e]
      exact q
  · refine SeqAt.eq_list_lengthsAt pt.isList pt2.isList (by simp [hl]) (by lia) ⟨.bl _, H, I, rfl, ?_⟩
    have e : D.eqs ds es = false := eqs_len (by have l1 := hxs.length; have l2 := hys.length; have l3 := r1.length; have l4 := r2.length; lia)
    simp only [Bool.false_eq_true, if_false] at q
    rw [e] at q
    exact q
theorem op_neL (hu : X.A.units + 64 < cLine) : OpR X (compareOp .NotEq) (rEqL X.K true) := by
  intro pins s σ H x y v u Q I rx ry h
  obtain ⟨a, b, xs, ys, ds, es, rfl, rfl, ha, hb, hxs, hys, hd, q⟩ := h
  cases rx; cases ry
  obtain ⟨its, r1, pt, _⟩ := I.list ha
  obtain ⟨its2, r2, pt2, _⟩ := I.list hb
  by_cases hl : its.length = its2.length
  · refine SeqAt.RcNeAt.lists (e := fun j => D.eq (ds.getD j .non) (es.getD j .non)) pt.isList pt2.isList (by simp [hl]) (by lia) (fun j h1 h2 => ?_) X.prog X.w X.xe _ ⟨.bl _, H, I, rfl, ?_⟩
    · exact eqsAt_D I ds es X.A.in1 xs ys its its2 r1 r2 hxs hys (by rw [units_in1]; lia) j (by simpa using h1) (by simpa using h2)
    · have e := eqs_all ds es
      have l1 := hxs.length; have l2 := hys.length; have l3 := r1.length; have l4 := r2.length
      rw [show min ds.length es.length = its.toArray.size by rw [List.size_toArray]; lia, show (ds.length == es.length) = true by rw [beq_iff_eq]; lia, Bool.and_true] at e
      rw [← e]
      exact q
  · refine SeqAt.RcNeAt.lists_lengths pt.isList pt2.isList (by simp [hl]) (by lia) X.prog X.w X.xe _ ⟨.bl _, H, I, rfl, ?_⟩
    have e : D.eqs ds es = false := eqs_len (by have l1 := hxs.length; have l2 := hys.length; have l3 := r1.length; have l4 := r2.length; lia)
    simp only [if_true] at q
    rw [e] at q
    exact q
theorem call_isinst : CallR X (.builtin "isinstance") (fun xs H Q => ∃ x c cv t b, xs = [x, c] ∧ (∀ u, RelV c u → u = cv) ∧ TyOf X.K H x t ∧ PySem.W.kitOne X.K t cv = some b ∧ Q (.bl b) H) := by
  intro pins s σ H xs us Q I r h
  obtain ⟨x, c, cv, t, b, rfl, rc, ty, e, q⟩ := h
  obtain ⟨u, v, rfl, rx, rv⟩ := vals2 r
  have e2 := rc v rv
  subst e2
  exact isinst_ok I rx ty e fun tk => ⟨.bl b, H, I.tok _, rfl, q⟩
end
structure Noted (F : List Addr) (e : Addr) (oe : Obj) (vs : Array Value) (hd : Value) (h h' : Heap) (T' : Addr) (fl : Value) : Prop where
  keep : ∀ b o, h.get? b = some o → b ≠ e → hd ≠ .ref b → b ∉ F → h'.get? b = some o
  slot : ∀ b o, h.get? b = some o → b ∈ F → ∃ sl, h'.get? b = some { o with slots := sl }
  exc : h'.get? e = some { oe with data := .fields (vs.setIfInBounds 1 (.ref T')) }
  new : h.objs.size ≤ T'
  ent : ∃ oT ts, h'.get? T' = some oT ∧ oT.data = .fields ts ∧ ts[3]? = some fl
theorem mapF {o : Obj} {vs : Array Value} (hd : o.data = .fields vs) (f : Array Value → Array Value) : Obj.mapFields f o = { o with data := .fields (f vs) } := by
  obtain ⟨a, b, c, d⟩ := o
  subst hd
  rfl
section
variable {M : Model} {A : Around} {E : L2.VSP} {s : Shared} {base : Heap} {env : Env} {outer : List Env} {L e : Addr} {oe : Obj} {vs : Array Value} {hd : Value}
theorem entry_full {hn : Bool} {Q : Unit → Shared → Prop} (hfr : A.frames = some (env :: outer)) (hl : s.heap.FunFrames base (env :: outer)) (hf : env.frame = some L) (he : s.heap.get? e = some oe) (hdt : oe.data = .fields vs) (h1 : 1 < vs.size) (nf : e ∉ frs (env :: outer))
    (h : ∀ h' T', Noted (frs (env :: outer)) e oe vs .none s.heap h' T' (rawInt L) → Q () { s with heap := h' }) :
    wpAny M A (do setField (.ref e) 1 (← EntryCells.newEntry hd (← frameOf env) .none (rawInt L) .none (← entryPlaceOf L hn))) Q E s := by
  refine wpAny_bind (wpAny_frameOf_fun hfr hl hf fun g gs => wpAny_bind (wpAny_entryPlaceOf fun pl ok => ?_))
  unfold EntryCells.newEntry newFields
  refine wpAny_bind (wpAny_newObj_type ?_ (ok.sizeOk5 _ _ _ _ _))
  have sz : g.objs.size = s.heap.objs.size := gs.1
  have ge : g.get? e = some oe := (gs.2.1 e nf).trans he
  have pe := Heap.get?_push_of_some (h := g) { cls := .type "traceback", dict := none, data := .fields ([hd, .ref L, .none, rawInt L, .none] ++ (if pl.isEmpty then List.replicate 6 Value.none else pl)).toArray } ge
  refine wpAny_setField pe hdt h1 (h _ g.objs.size ⟨fun b o eb n1 ψ n3 => ?_, fun b o eb hb => ?_, ?_, Nat.le_of_eq sz.symm, ?_⟩)
  · rw [Heap.get?_update_other _ _ (Ne.symm n1)]
    exact Heap.get?_push_of_some _ ((gs.2.1 b n3).trans eb)
  · obtain ⟨sl, q⟩ := gs.2.2 b o eb
    refine ⟨sl, ?_⟩
    rw [Heap.get?_update_other _ _ (fun z : e = b => nf (z.symm ▸ hb))]
    exact Heap.get?_push_of_some _ q
  · rw [Heap.get?_update_self _ pe (by rw [mapF hdt]; exact Obj.isFreed_of_fields rfl), mapF hdt]
  · have ne : e ≠ g.objs.size := Nat.ne_of_lt (Heap.lt_size ge)
    refine ⟨_, _, by rw [Heap.get?_update_other _ _ ne]; exact Heap.get?_push_size g rfl, rfl, ?_⟩
    simp
theorem note_full {Q : Unit → Shared → Prop} (hfr : A.frames = some (env :: outer)) (hl : s.heap.FunFrames base (env :: outer)) (hf : env.frame = some L) (he : s.heap.get? e = some oe) (hdt : oe.data = .fields vs) (h1 : vs[1]? = some hd) (nf : e ∉ frs (env :: outer))
    (hh : hd = .none ∨ ∃ T oT ts, hd = .ref T ∧ T ≠ e ∧ T ∉ frs (env :: outer) ∧ s.heap.get? T = some oT ∧ oT.data = .fields ts ∧ ts[3]? = some .none)
    (h : ∀ h' T', Noted (frs (env :: outer)) e oe vs hd s.heap h' T' (rawInt L) → Q () { s with heap := h' }) : wpAny M A (noteFrame (.ref e) env) Q E s := by
  have sz1 := (Array.getElem?_eq_some_iff.mp h1).1
  unfold noteFrame
  simp only [hf]
  refine wpAny_bind (wpAny_field he hdt h1 ?_)
  rcases hh with z | ⟨T, oT, ts, z, ne, nF, eT, dT, t3⟩
  · subst z
    rw [if_neg (by decide)]
    exact entry_full hfr hl hf he hdt sz1 nf h
  · subst z
    rw [if_pos (show (Value.ref T != Value.none) = true from by simp)]
    refine wpAny_bind (wpAny_field eT dT t3 ?_)
    rw [if_neg (show ¬ ((Value.none == rawInt L) = true) from by simp [rawInt])]
    refine wpAny_bind (wpAny_setField eT dT (Array.getElem?_eq_some_iff.mp t3).1 ?_)
    have oth : ∀ b, b ≠ T → (s.heap.update T (Obj.mapFields (·.setIfInBounds 3 Value.none))).get? b = s.heap.get? b := fun b hb => Heap.get?_update_other _ _ (Ne.symm hb)
    have szT : (s.heap.update T (Obj.mapFields (·.setIfInBounds 3 Value.none))).objs.size = s.heap.objs.size := by simp [Heap.update]
    have fl : (s.heap.update T (Obj.mapFields (·.setIfInBounds 3 Value.none))).FunFrames base (env :: outer) := hl.of_keeps fun b o eb nfb => ⟨o, (oth b (fun q => by rw [q, eT] at eb; cases eb; exact nfb ts dT)).trans eb, rfl⟩
    refine entry_full (s := { s with heap := s.heap.update T (Obj.mapFields (·.setIfInBounds 3 Value.none)) }) hfr fl hf ((oth e (Ne.symm ne)).trans he) hdt sz1 nf fun h' T' N => h h' T' ⟨fun b o eb n1 n2 n3 => ?_, fun b o eb hb => ?_, N.exc, by have := N.new; rw [szT] at this; exact this, N.ent⟩
    · exact N.keep b o ((oth b (fun q => n2 (by rw [q]))).trans eb) n1 (fun q => by cases q) n3
    · exact N.slot b o ((oth b (fun q => nF (q ▸ hb))).trans eb) hb
theorem flight_full {h0 : Heap} {F : List Addr} {T' : Addr} {fl : Value} {Q : Unit → Shared → Prop} (h1 : 1 < vs.size) (lt : e < h0.objs.size) (N : Noted F e oe vs hd h0 s.heap T' fl) (hF : ∀ b ∈ F, b < h0.objs.size) (h : ∀ h', Noted F e oe vs hd h0 h' T' .none → Q () { s with heap := h' }) : wpAny M A (setFlight (.ref e) none) Q E s := by
  obtain ⟨oT, ts, eT, dT, t3⟩ := N.ent
  have sz3 := (Array.getElem?_eq_some_iff.mp t3).1
  unfold setFlight
  refine wpAny_bind (wpAny_field N.exc rfl (x := .ref T') (by simp [h1]) ?_)
  rw [if_pos (show (Value.ref T' != Value.none) = true from by simp)]
  have oth : ∀ b, b < h0.objs.size → (s.heap.update T' (Obj.mapFields (·.setIfInBounds 3 ((none : Option Addr).elim Value.none fun f => rawInt f)))).get? b = s.heap.get? b := fun b hb => Heap.get?_update_other _ _ (Nat.ne_of_gt (Nat.lt_of_lt_of_le hb N.new))
  refine wpAny_setField eT dT sz3 (h _ ⟨fun b o eb n1 n2 n3 => (oth b (Heap.lt_size eb)).trans (N.keep b o eb n1 n2 n3), fun b o eb hb => ?_, (oth e lt).trans N.exc, N.new, ?_⟩)
  · obtain ⟨sl, q⟩ := N.slot b o eb hb
    exact ⟨sl, (oth b (hF b hb)).trans q⟩
  · refine ⟨_, _, Heap.get?_update_self _ eT (by rw [mapF dT]; exact Obj.isFreed_of_fields rfl), by rw [mapF dT], ?_⟩
    simp [sz3]
end
structure Flw (H : Hp) (n : Heap) (h : Heap) (e : Addr) (oc : Value) (od : Option Addr) (fresh : Bool) : Prop where
  un : H e = none
  yn : n.get? e = none
  ob : ∃ oe vs hd, h.get? e = some oe ∧ oe.cls = oc ∧ oe.dict = od ∧ oe.data = .fields vs ∧ vs[1]? = some hd ∧
    (if fresh = true then hd = .none else ∃ T oT ts, hd = .ref T ∧ T ≠ e ∧ H T = none ∧ n.get? T = none ∧ h.get? T = some oT ∧ oT.data = .fields ts ∧ ts[3]? = some .none)
noncomputable def CX1 (P : Program) (w : World) : CXT := fun outer H s E e s' => ∃ ea H' oc od, e = .ref ea ∧ s'.os = s.os ∧ AllBare s'.gens ∧ Un (frs outer) [] H H' s.heap s'.heap ∧ HOk P w H' s'.heap ∧ Flw H' s.heap s'.heap ea oc od false ∧ E oc od H'
section
variable {X : Cx} {pins : List (Addr × Obj)} {σ : St} {H : Hp} {s : Shared}
theorem Inv.frmLt (I : Inv X pins σ H s) : ∀ b ∈ frs X.stack, b < s.heap.objs.size := fun b hb => by
  rcases List.mem_cons.mp (I.stkSub b hb) with q | q
  · rw [q]; exact I.lt
  · obtain ⟨_, o, e, _⟩ := I.ok.funs.mem q
    exact Nat.lt_of_lt_of_le (Heap.lt_size e) I.sz
theorem frm_fields (I : Inv X pins σ H s) {b : Addr} {o : Obj} {vs : Array Value} (e : s.heap.get? b = some o) (d : o.data = .fields vs) : b ∉ frs X.stack := fun hb => by
  obtain ⟨_, o', e', n⟩ := I.stack.mem hb
  rw [e] at e'; cases e'
  exact n vs d
theorem land {env : Env} {outer : List Env} {L e : Addr} {oc : Value} {od : Option Addr} {n : Heap} {fr : Bool} {E : L2.VSP} {Q : Unit → Shared → Prop} (I : Inv X pins σ H s) (hle : ∀ b o, n.get? b = some o → ∃ o', s.heap.get? b = some o') (hst : X.stack = env :: outer) (hf : env.frame = some L) (F : Flw H n s.heap e oc od fr)
    (h : ∀ h', (∀ b o, s.heap.get? b = some o → n.get? b ≠ none → b ∉ frs X.stack → h'.get? b = some o) → (∀ b o, s.heap.get? b = some o → b ∈ frs X.stack → ∃ sl, h'.get? b = some { o with slots := sl }) → (∀ b u o, H b = some u → s.heap.get? b = some o → h'.get? b = some o) →
      (∀ b o, s.heap.get? b = some o → (∀ vs, o.data ≠ .fields vs) → b ∉ frs X.stack → h'.get? b = some o) → (∀ p ∈ X.pn ++ pins, n.get? p.1 ≠ none → h'.get? p.1 = some p.2) → Flw H n h' e oc od false → Q () { s with heap := h' }) :
    wpAny (model X.prog X.w) X.A (noteFrame (.ref e) env) (fun ψ s1 => wpAny (model X.prog X.w) X.A (setFlight (.ref e) none) Q E s1) E s := by
  obtain ⟨oe, vs, hd, ge, c, d, dt, h1, hh⟩ := F.ob
  have hfr : X.A.frames = some (env :: outer) := by rw [← hst]; exact I.ok.frames
  have ffr := I.stack
  rw [hst] at ffr
  have nf : e ∉ frs (env :: outer) := by rw [← hst]; exact frm_fields I ge dt
  have sz1 := (Array.getElem?_eq_some_iff.mp h1).1
  have lt := Heap.lt_size ge
  have hF : ∀ b ∈ frs (env :: outer), b < s.heap.objs.size := by rw [← hst]; exact I.frmLt
  refine note_full hfr ffr hf ge dt h1 nf ?_ fun g T' N => ?_
  · cases fr with
    | true => exact .inl hh
    | false =>
      obtain ⟨T, oT, ts, z, ne, hT, _, eT, dT, t3⟩ := hh
      exact .inr ⟨T, oT, ts, z, ne, by rw [← hst]; exact frm_fields I eT dT, eT, dT, t3⟩
  · refine flight_full (s := { s with heap := g }) sz1 lt N hF fun g' N' => ?_
    have nh : ∀ b, H b ≠ none → hd ≠ .ref b := fun b hb z => by
      cases fr with
      | true => rw [show hd = .none from hh] at z; cases z
      | false =>
        obtain ⟨T, oT, ts, z', _, hT, _⟩ := hh
        rw [z'] at z; cases z
        exact hb hT
    have nl : ∀ b, n.get? b ≠ none → hd ≠ .ref b := fun b hb z => by
      cases fr with
      | true => rw [show hd = .none from hh] at z; cases z
      | false =>
        obtain ⟨T, oT, ts, z', _, _, hT, _⟩ := hh
        rw [z'] at z; cases z
        exact hb hT
    have nd : ∀ b o, s.heap.get? b = some o → (∀ vs, o.data ≠ .fields vs) → hd ≠ .ref b := fun b o eb hb z => by
      cases fr with
      | true => rw [show hd = .none from hh] at z; cases z
      | false =>
        obtain ⟨T, oT, ts, z', _, _, _, eT, dT, _⟩ := hh
        rw [z'] at z; cases z
        rw [eT] at eb; cases eb
        exact hb ts dT
    have yn := F.yn
    refine h g' (fun b o eb hb hn => N'.keep b o eb (fun z => hb (by rw [z]; exact yn)) (nl b hb) (by rw [← hst]; exact hn)) (fun b o eb hb => N'.slot b o eb (by rw [← hst]; exact hb)) (fun b u o hb eb => N'.keep b o eb (fun z => by rw [z, F.un] at hb; cases hb) (nh b (by rw [hb]; simp)) ?_)
      (fun b o eb hb hn => N'.keep b o eb (fun z => by rw [z, ge] at eb; cases eb; exact hb vs dt) (nd b o eb hb) (by rw [← hst]; exact hn)) (fun p hp lt => ?_) ⟨F.un, F.yn, _, _, _, N'.exc, c, d, rfl, (by simp [sz1]; rfl), ?_⟩
    · intro z
      have z2 := I.stkFree b (by rw [hst]; exact z)
      rw [z2] at hb; cases hb
    · obtain ⟨q1, q2, q3, q4, q5⟩ := I.pin p hp
      refine N'.keep p.1 p.2 q1 (fun z => lt (by rw [z]; exact yn)) (nl p.1 lt) fun z => ?_
      rcases List.mem_cons.mp (I.stkSub p.1 (by rw [hst]; exact z)) with y | y
      · exact q3 y
      · exact q4 y
    · obtain ⟨oT, ts, eT, dT, t3⟩ := N'.ent
      have hn : s.heap.objs.size ≤ T' := N'.new
      refine ⟨T', oT, ts, rfl, Nat.ne_of_gt (Nat.lt_of_lt_of_le lt hn), I.hok.fresh hn, ?_, eT, dT, t3⟩
      cases z : n.get? T' with
      | none => rfl
      | some o =>
        obtain ⟨o', e'⟩ := hle T' o z
        exact absurd (Nat.lt_of_lt_of_le (Heap.lt_size e') hn) (Nat.lt_irrefl _)
end
theorem Flw.mono {H : Hp} {m n : Heap} {h : Heap} {e : Addr} {oc : Value} {od : Option Addr} {fr : Bool} (F : Flw H n h e oc od fr) (le : ∀ b, n.get? b = none → m.get? b = none) : Flw H m h e oc od fr := by
  obtain ⟨a, b, oe, vs, hd, e1, e2, e3, e4, e5, e6⟩ := F
  refine ⟨a, le _ b, oe, vs, hd, e1, e2, e3, e4, e5, ?_⟩
  cases fr with
  | true => exact e6
  | false =>
    obtain ⟨T, oT, ts, q1, q2, q3, q4, q5⟩ := e6
    exact ⟨T, oT, ts, q1, q2, q3, le _ q4, q5⟩
section
variable {P : Program} {w : World} {K : PySem.W.Frag} {mg : L2.SV} {base : Heap} {N : List Str} {qual : Str} {scope : Scope} {f : Addr} {cd : Value} {A : Around} {outer : List Env} {s : Shared} {H : Hp} {E : XK}
theorem leave1 {pins : List (Addr × Obj)} {σ : St} {H' : Hp} {s' : Shared} {n : Heap} {e : Addr} {oc : Value} {od : Option Addr} {fr : Bool} (I : Inv (cxOf (CX1 P w) P w K mg base N qual scope f cd A outer s H E) pins σ H' s')
    (F : Flw H' n s'.heap e oc od fr) (le : ∀ b, n.get? b = none → s.heap.get? b = none) (hle : ∀ b o, n.get? b = some o → ∃ o', s'.heap.get? b = some o') (q : E oc od H') : (cxOf (CX1 P w) P w K mg base N qual scope f cd A outer s H E).xe (.ref e) s' := by
  show wpAny (model P w) (A.deeper (envOfC qual scope s.heap.objs.size f cd)) (leaving (envOfC qual scope s.heap.objs.size f cd) (.ref e)) _ _ s'
  unfold leaving
  have hfs : ∀ b, b ∈ frs (envOfC qual scope s.heap.objs.size f cd :: outer) → b = s.heap.objs.size ∨ b ∈ frs outer := fun b hb => List.mem_cons.mp hb
  refine wpAny_bind (land (X := cxOf (CX1 P w) P w K mg base N qual scope f cd A outer s H E) I hle rfl rfl F fun h' k1 k2 k3 k4 k5 F' => ?_)
  have nfr : ∀ b, b < s.heap.objs.size → b ∉ frs outer → b ∉ frs (envOfC qual scope s.heap.objs.size f cd :: outer) := fun b hb hn z => by
    rcases hfs b z with y | y
    · exact absurd hb (by rw [y]; exact Nat.lt_irrefl _)
    · exact hn y
  have B := I.base
  refine ⟨e, H', oc, od, rfl, I.os, I.bare, ⟨fun b o eb n hb hx => ?_, fun b o eb n hb hx => ?_, fun b o eb n hx => B.free b o eb n hx, fun b o eb hx => ?_, B.tups, B.frzs, B.tbls⟩, fun b u eb => ?_, F'.mono le, q⟩
  · exact k1 b o (B.keep b o eb n hb hx) (fun z => by rw [le b z] at eb; cases eb) (nfr b (Heap.lt_size eb) hb)
  · obtain ⟨sl, e1⟩ := B.slot b o eb n hb hx
    obtain ⟨sl', e2⟩ := k2 b _ e1 (List.mem_cons_of_mem _ hb)
    exact ⟨sl', e2⟩
  · obtain ⟨o', e1⟩ := B.there b o eb hx
    by_cases hb : b ∈ frs outer
    · obtain ⟨sl', e2⟩ := k2 b _ e1 (List.mem_cons_of_mem _ hb)
      exact ⟨_, e2⟩
    · exact ⟨o', k1 b o' e1 (fun z => by rw [le b z] at eb; cases eb) (nfr b (Heap.lt_size eb) hb)⟩
  · refine (I.hok b u eb).stay (fun c v hc r => ?_) (fun ψ r => r) fun ψ ψ r => r
    rcases hc with rfl | hc
    · exact k3 c _ v eb r
    · exact k3 c _ v hc r
theorem passes1 {E1 : XK} (h : ∀ oc od H', E1 oc od H' → E oc od H') : Passes (CX1 P w) (cxOf (CX1 P w) P w K mg base N qual scope f cd A outer s H E) E1 := by
  intro pins σ H1 s1 e s' I hx
  obtain ⟨ea, H', oc, od, rfl, os, bare, un, hok, F, q⟩ := hx
  refine leave1 (I.call' (ch := []) os un hok bare fun b z => absurd z (by simp)) F (fun b z => ?_) (fun b o z => un.there b o z (by simp)) (h _ _ _ q)
  cases y : s.heap.get? b with
  | none => rfl
  | some o =>
    obtain ⟨o', e'⟩ := I.base.there b o y (by simp [cxOf])
    rw [z] at e'; cases e'
end
theorem obj_at {P : Program} {w : World} {H : Hp} {h : Heap} {a : Addr} {o : HO} (x : ObjOk P w H h a o) : ∃ ob, h.get? a = some ob := by
  cases o with
  | lst xs => obtain ⟨_, _, _, _, e⟩ := x; exact ⟨_, e⟩
  | tup xs => obtain ⟨_, _, _, ob, e, _⟩ := x; exact ⟨_, e⟩
  | dK kvs => obtain ⟨_, _, _, _, o, _, _, e, _⟩ := x; exact ⟨_, e⟩
  | dT kvs => obtain ⟨_, _, _, _, o, _, _, e, _⟩ := x; exact ⟨_, e⟩
  | set S n => obtain ⟨o, _, _, _, e, _⟩ := x; exact ⟨_, e⟩
  | ins C dx fs => obtain ⟨_, _, _, e, _⟩ := x; exact ⟨_, e⟩
  | own y => exact x
  | xd fs => obtain ⟨_, ⟨_, _, _, e, _⟩, _⟩ := x; exact ⟨_, e⟩
  | rng lo hi => obtain ⟨_, _, _, e⟩ := x; exact ⟨_, e⟩
  | frz ob u => obtain ⟨e, _⟩ := x; exact ⟨_, e⟩
  | tbl ps => exact ⟨_, x⟩
  | met f y => exact ⟨_, x⟩
  | ext φ => obtain ⟨_, e, _⟩ := x; exact e
theorem exc_obj {K : PySem.W.Frag} {h : Heap} {C : Addr} {bmB : List Value} {newId : String} (KX : K.In h) (q : PySem.W.excIn K C bmB newId = true) :
    ∃ bm N nm qn bs hdct sn sub ab col dd k0 k1 k2 k3 k5 mN, h.get? C = some (excClassObj nm qn C N bs bm hdct sn sub ab col dd k0 k1 k2 k3 k5 newId) ∧ h.Ns N mN ∧ mN "__init__" = none ∧ OwnTail h bmB bm := by
  unfold PySem.W.excIn at q
  split at q
  · rename_i dd cls slots there
    split at q
    · rename_i C' up a0 a1 a2 a3 made a5 hmro hsl
      simp only [Bool.and_eq_true, beq_iff_eq, Bool.not_eq_true'] at q
      obtain ⟨⟨⟨⟨⟨y1, y2⟩, y3⟩, y4⟩, y5⟩, y6⟩ := q
      subst y1 y2
      obtain ⟨c1, c2, c3, c4, c5, c6, c7, c8, c9, c10, c11⟩ := cls
      dsimp only at hmro y3 y5 y6
      subst hmro y3
      have z : slots = #[a0, a1, a2, a3, some (.builtin made), a5] := by
        obtain ⟨l⟩ := slots
        dsimp only at hsl
        rw [hsl]
      subst z
      refine ⟨up, c4, c1, c5, c2, c6, c7, c8, c9, c10, dd, a0, a1, a2, a3, a5, _, KX _ _ there, Heap.Ns.of_isNs (PySem.W.isNs_of_in KX y5), ?_, PySem.W.tail_of_in KX y4⟩
      exact PySem.W.nsMap_none_of_in KX y5 y6
    · cases q
  · cases q
section
variable {P : Program} {w : World} {K : PySem.W.Frag} {mg : L2.SV} {base : Heap} {N : List Str} {qual : Str} {scope : Scope} {f : Addr} {cd : Value} {A : Around} {outer : List Env} {s : Shared} {H : Hp} {E : XK}
noncomputable def tRaise (E : XK) (C : Addr) (te : TE) : TS := fun ψ σ H => te σ H fun ψ H1 => E (.ref C) none H1
theorem ps_raise {x : Str} {C : Addr} {e0 : Expr} {te : TE} {np cpos pos : Pos} {B newId initId : String} {bmB : List Value} (hA : A.handled = none) (FB : ExcBaseFacts B newId initId bmB) (hC : PySem.W.excIn K C bmB newId = true) (hm : mg x = some (.ref C))
    (hg : Gl (cxOf (CX1 P w) P w K mg base N qual scope f cd A outer s H E) x) (he : PE (cxOf (CX1 P w) P w K mg base N qual scope f cd A outer s H E).nox e0 te)
    (hd : (x == ("__debug__" : Str)) = false := by decide) (hs : starEach [e0] (envOfC qual scope s.heap.objs.size f cd) = [(false, eval e0 (envOfC qual scope s.heap.objs.size f cd))] := by rfl) :
    PS (cxOf (CX1 P w) P w K mg base N qual scope f cd A outer s H E) (.Raise (some (.Call (.Name x np) [e0] [] cpos)) none pos) (tRaise E C te) := by
  intro pins s1 σ H1 Dn I h
  obtain ⟨bm, Ns, nm, qn, bs, hdct, sn, sub, ab, col, dd, k0, k1, k2, k3, k5, mN, hcl, hns, hni, tl⟩ := exc_obj I.ok.mod.kin hC
  refine wpAny_Raise_call_subT (C := C) (nm := nm) (q := qn) (N := Ns) (bs := bs) (bm := bm) (hdct := hdct) (sn := sn) (sub := sub) (ab := ab) (col := col) (dd := dd) (k0 := k0) (k1 := k1) (k2 := k2) (k3 := k3) (k5 := k5) FB (mN := mN) (tl.hasType FB.hasBase) hA
    (by show (backTo cpos (starEach [e0] (envOfC qual scope s.heap.objs.size f cd))).any (·.1) = false; rw [hs]; rfl) hni (ld_glob I hg hm ⟨rfl, ?_⟩ hd)
  show wpAny _ _ (evalArgs (Value.ref C) true (backTo cpos (starEach [e0] (envOfC qual scope s.heap.objs.size f cd))) []) _ _ _
  rw [hs]
  refine Calls.evalArgs_plain ?_
  refine Calls.spliced_cons (thn (PE.nox he pins s1 σ H1 _ I h) fun u s2 ⟨v, H2, I2, r2, q2⟩ => Calls.spliced_nil ⟨rfl, (by show 1 ≤ sizeLine; decide), I2.bk _ _ hcl, hns.keeps I2.bk, tl.keeps I2.bk, fun h' e hm' => ?_⟩)
  obtain ⟨t, et, _, _⟩ := hm'.there
  have I3 := I2.kept (h' := h') (t' := s2.toks) hm'.keeps
  have un : H2 e = none := by
    cases z : H2 e with
    | none => rfl
    | some u =>
      obtain ⟨ob, eo⟩ := obj_at (I2.hok e u z)
      have z2 := hm'.new
      rw [eo] at z2; cases z2
  refine leave1 (n := s2.heap) (fr := true) I3 ⟨un, hm'.new, _, _, _, et, rfl, rfl, rfl, rfl, rfl⟩ (fun b z => ?_) (fun b o z => ⟨o, hm'.keeps b o z⟩) q2
  cases y : s.heap.get? b with
  | none => rfl
  | some o =>
    obtain ⟨o', e'⟩ := I2.base.there b o y (by simp [cxOf])
    rw [z] at e'; cases e'
end
noncomputable def XP (X : Cx) (pins : List (Addr × Obj)) (σ : St) (E : XK) (e : Value) (s' : Shared) : Prop := ∃ s0 H0, Inv X pins σ H0 s0 ∧ CX1 X.prog X.w X.stack H0 s0 E e s'
section
variable {X : Cx} {k : Nat} {f : Addr} {fd : FuncData} {ps : List Str} {sp : Sp} {x : Str} {p pos : Pos} {e : Expr} {es : List Expr} {t : TA}
theorem PA.nox {es : List Expr} {t : TA} (h : PA X.nox es t) {Er : L2.VSP} {pos : Pos} {pins : List (Addr × Obj)} {s : Shared} {σ : St} {H : Hp} {Q : List V → Hp → Prop} (I : Inv X pins σ H s) (q : t σ H Q) :
    wpAny (model X.prog X.w) X.A (spliced (backTo pos (starEach es X.env))) (AP X pins σ Q) Er s :=
  wpAny_mono (h pos pins s σ H Q (I.wish _) q) (fun _ _ ⟨vs, H', I', r, q⟩ => ⟨vs, H', I'.unwish, r, q⟩) fun ψ ψ z => False.elim z
end
noncomputable def excO (e C : Addr) : HO := .ext fun h => ∃ o, h.get? e = some o ∧ o.cls = .ref C ∧ o.dict = none ∧ PySem.W.notCls o = true
section
variable {X : Cx} {pins : List (Addr × Obj)} {σ : St} {H : Hp} {s : Shared}
theorem Inv.adoptX {d : Addr} {o : HO} (I : Inv X pins σ H s) (hn : H d = none) (h0 : X.s₀.heap.get? d = none) (hL : d ≠ X.env.locals) (hc : ∀ x c, X.env.cells.lookup x = some c → c ≠ d) (hp : ∀ p ∈ X.pn ++ pins, p.1 ≠ d)
    (new : ObjOk X.prog X.w (upd H d o) s.heap d o) : Inv X pins σ (upd H d o) s := by
  have nd : ∀ b u, H b = some u → b ≠ d := fun b u e z => by rw [z, hn] at e; cases e
  have B := I.base
  refine ⟨I.ok, I.os, I.bare, ⟨B.keep, B.slot, fun b u e n hx => ?_, B.there, fun b xs e => ?_, fun b u v e => ?_, fun b ps e => ?_⟩, I.loc, I.cell, by rw [upd_ne (Ne.symm hL)]; exact I.free, fun x c e => by rw [upd_ne (hc x c e)]; exact I.freeC x c e, fun p hq => ?_, fun b u e => ?_, I.len⟩
  · rw [upd_ne (fun z => by rw [z, h0] at e; cases e)]; exact B.free b u e n hx
  · have q := B.tups b xs e
    rw [upd_ne (nd _ _ q)]; exact q
  · have q := B.frzs b u v e
    rw [upd_ne (nd _ _ q)]; exact q
  · obtain ⟨mo, q⟩ := B.tbls b ps e
    exact ⟨mo, by rw [upd_ne (nd _ _ q)]; exact q⟩
  · obtain ⟨q1, q2, q3⟩ := I.pin p hq
    exact ⟨q1, by rw [upd_ne (hp p hq)]; exact q2, q3⟩
  · by_cases hb : b = d
    · subst hb; rw [upd_same] at e; cases e; exact new
    · rw [upd_ne hb] at e
      exact (I.hok b u e).stay (fun ψ ψ ψ q => q) (fun c q => by rw [upd_ne (nd c _ q)]; exact q) fun c xs q => by rw [upd_ne (nd c _ q)]; exact q
end
section
variable {X : Cx} {xn cn n : Str} {i j : Nat} {call : Expr} {b0 : Stmt} {suite : List Stmt} {p1 p2 p3 p4 pos : Pos} {tc : St → Hp → VK → XK → Prop} {ts : TS}
end
theorem bga_bind (self : Value) : bindSpecial (.builtin "BaseException.__getattribute__") self = pure (.builtin "BaseException.__getattribute__", [self]) := PySem.F.attr_ValueError.ga.bind self
structure ExcK (K : PySem.W.Frag) (C : Addr) : Prop where
  ga : PySem.W.findIn K (.ref C) "__getattribute__" = some (some (.builtin "BaseException.__getattribute__"))
  hk : PySem.W.findIn K (.ref C) "__getattr__" = some none
  cl : (PySem.W.clsIn K C).isSome = true
  at_ : PySem.W.findIn K (.ref C) "__class__" = some (some (.builtin "object.__class__"))
  gt : PySem.W.specialIn K (.builtin "object.__class__") "__get__" = some (some (.builtin "getset_descriptor.__get__"))
  tk : PySem.W.takesIn K (.builtin "object.__class__") = some true
  mo : PySem.W.mroIn K C (.type "object") = some true
  mb : PySem.W.mroIn K C (.type "BaseException") = some true
section
variable {prog : Program} {w : World} {A : Around} {E : L2.VSP} {s : Shared} {K : PySem.W.Frag} {x C : Addr} {ox : Obj}
theorem exc_findG {od : Option Obj} (c : ExcK K C) : PySem.W.findObj K C od "__class__" = some (.bind (.builtin "getset_descriptor.__get__") (.builtin "object.__class__")) := by
  obtain ⟨cd, hc⟩ := Option.isSome_iff_exists.mp c.cl
  unfold PySem.W.findObj
  rw [hc, Option.bind_some, c.at_, Option.bind_some]
  simp [c.gt, c.tk]
theorem exc_classG {od : Option Obj} {Q : Option Value → Shared → Prop} (c : ExcK K C) (KX : K.In s.heap) (I : PySem.W.InstAt s.heap x ox C od) (h : Q (some (.ref C)) { s with toks := s.toks + 1 }) : wpAny (model prog w) A (getAttr? (.ref x) "__class__") Q E s := by
  obtain ⟨hh, g, d, t, os⟩ := s
  have L0 := I.type (M := model prog w)
  have L1 := PySem.W.looks_findIn (M := model prog w) KX c.ga
  have L2 := PySem.W.looks_findIn (M := model prog w) KX c.hk
  have L3 := PySem.W.looks_find (M := model prog w) KX I (exc_findG c)
  have L4 := PySem.W.looks_mroIn (M := model prog w) KX c.mb
  have f3 := bga_bind (.ref x)
  unfold getAttr? getAttrBy? getAttrBy
  refine wpAny_bind (wpAny_mkText (wpAny_bind (wpAny_attempt (wpAny_holding (wpAny_bind (L0.at (wpAny_bind (L1.at ?_))))))))
  show wpAny _ _ (getAttrByItsOwn _ _ _ _ _ _) _ _ _
  unfold getAttrByItsOwn hookBefore
  refine wpAny_bind ?_
  show wpAny _ _ (typeLookup (.ref C) "__getattr__") _ _ _
  refine L2.at ?_
  refine wpAny_bind (wpAny_attempt (wpAny_holding ?_))
  unfold callGetattribute boundAndCalled
  rw [if_neg (by decide), f3]
  refine wpAny_bind (wpAny_pure ?_)
  refine wpAny_call (codeAny_call_builtin PySem.F.attr_ValueError.ga.plain PySem.F.entry_bexc_ga ?_)
  have hk : builtinKind "BaseException.__getattribute__" = some .slot := by decide +kernel
  have hsp : splitId "BaseException.__getattribute__" = some ("BaseException", "__getattribute__") := by decide +kernel
  have ha := PySem.F.args_bexc_ga (.ref x) (.str "__class__" t)
  simp only [checkBuiltinCall, hk, hsp]
  refine wpAny_bind ?_
  unfold isInstance
  repeat (any_goals (first | assumption | lk | wp_step))
  refine wpAny_run (PySem.W.class_get (s := ⟨hh, g, d, t + 1, os⟩) KX I c.mo ?_)
  repeat (any_goals (first | assumption | lk | wp_step))
theorem exc_class {Q : Option Value → Shared → Prop} (c : ExcK K C) (KX : K.In s.heap) (I : PySem.W.InstAt s.heap x ox C none) (h : Q (some (.ref C)) { s with toks := s.toks + 1 }) : wpAny (model prog w) A (getAttr? (.ref x) "__class__") Q E s := exc_classG c KX I h
theorem kitx_exc (c : ExcK K C) : PySem.W.KitX K (.ref x) (.ref C) (fun h => ∃ ox, PySem.W.InstAt h x ox C none) where
  ty := fun _ _ _ ⟨_, I⟩ => I.type
  it := fun ψ ψ KX ψ => by
    have e := c.cl
    unfold PySem.W.clsIn at e
    split at e
    · rename_i c' d' cd' sl' ho
      intro A' Q' E' s' k q
      unfold isType loadHead
      exact wpAny_bind (wpAny_loadPart (k _ _ (KX _ _ ho)) (wpAny_pure q))
    · cases e
  ne := fun h tp dd its n sl KX htp => by
    have e := c.cl
    refine Bool.eq_false_iff.mpr fun q => ?_
    have e2 : C = tp := Value.ref.inj (beq_iff_eq.mp q)
    subst e2
    unfold PySem.W.clsIn at e
    split at e
    · rename_i c' d' cd' sl' ho
      have z := (KX _ _ ho).symm.trans htp
      cases z
    · cases e
  ca := fun KX ⟨_, I⟩ k => exc_class c KX I k
end
section
variable {X : Cx}
theorem exc_inst {pins : List (Addr × Obj)} {σ : St} {H : Hp} {s : Shared} {e C : Addr} (I : Inv X pins σ H s) (h : H e = some (excO e C)) : ∃ ox, PySem.W.InstAt s.heap e ox C none := by
  obtain ⟨⟨o, h1, h2, h3, h4⟩, _, _⟩ := I.hok e _ h
  exact ⟨o, h1, h2, h4, by rw [h3]; trivial⟩
theorem call_isinstE : CallR X (.builtin "isinstance") (fun xs H Q => ∃ e C c cv b, xs = [.ref e, c] ∧ H e = some (excO e C) ∧ ExcK X.K C ∧ (∀ u, RelV c u → u = cv) ∧ PySem.W.kitOne X.K (.ref C) cv = some b ∧ Q (.bl b) H) := by
  intro pins s σ H xs us Q I r h
  obtain ⟨e, C, c, cv, b, rfl, he, ck, rc, k, q⟩ := h
  obtain ⟨u, v, rfl, rx, rv⟩ := vals2 r
  cases rx
  have e2 := rc v rv
  subst e2
  exact PySem.W.kia_one (kitx_exc ck) I.kIn (exc_inst I he) k (fun z => nomatch z) fun tk => ⟨.bl b, H, I.tok _, rfl, q⟩
theorem vals_refs : ∀ {cs : List Addr} {us : List Value}, Vals (cs.map V.ref) us → us = cs.map Value.ref
  | [], us, r => by rw [List.map_nil] at r; cases r; rfl
  | c :: cs, us, r => by
    rw [List.map_cons] at r
    cases r with
    | cons q t => cases q; rw [vals_refs t]; rfl
theorem call_isinstET : CallR X (.builtin "isinstance") (fun xs H Q => ∃ (e C tp : Addr) (cs : List Addr) (b : Bool), xs = [.ref e, .ref tp] ∧ H e = some (excO e C) ∧ ExcK X.K C ∧ H tp = some (.tup (cs.map V.ref)) ∧ PySem.W.kitAny X.K (.ref C) (cs.map Value.ref) = some b ∧ Q (.bl b) H) := by
  intro pins s σ H xs us Q I r h
  obtain ⟨e, C, tp, cs, b, rfl, he, ck, ht, k, q⟩ := h
  obtain ⟨u, v, rfl, rx, rv⟩ := vals2 r
  cases rx
  cases rv
  obtain ⟨_, its, r1, o, h1, h2, n, h3⟩ := I.hok tp _ ht
  have e1 := vals_refs r1
  subst e1
  obtain ⟨oc, od, dt, sl⟩ := o
  dsimp only at h2 h3
  subst h2 h3
  exact PySem.W.kia_tup (kitx_exc ck) I.kIn (exc_inst I he) h1 k (fun z => nomatch z) fun tk => ⟨.bl b, H, I.tok _, rfl, q⟩
end
structure Kp (L : List Addr) (H H' : Hp) : Prop where
  keep : ∀ b o, b ∉ L → H b = some o → H' b = some o
  tup : ∀ b xs, H b = some (.tup xs) → H' b = some (.tup xs)
theorem Kp.refl {L : List Addr} {H : Hp} : Kp L H H := ⟨fun ψ ψ ψ h => h, fun ψ ψ h => h⟩
theorem Kp.trans {L : List Addr} {H H1 H2 : Hp} (a : Kp L H H1) (b : Kp L H1 H2) : Kp L H H2 := ⟨fun c o n h => b.keep c o n (a.keep c o n h), fun c xs h => b.tup c xs (a.tup c xs h)⟩
theorem Kp.new {L : List Addr} {H : Hp} {p : Addr} {o : HO} (n : H p = none) : Kp L H (upd H p o) := ⟨fun b u ψ h => by rw [upd_ne (ne_of_none h n)]; exact h, fun b xs h => by rw [upd_ne (ne_of_none h n)]; exact h⟩
theorem Kp.set {L : List Addr} {H : Hp} {l : Addr} {xs ys : List V} (m : l ∈ L) (h : H l = some (.lst xs)) : Kp L H (upd H l (.lst ys)) :=
  ⟨fun b u n e => by rw [upd_ne (fun z : b = l => n (by rw [z]; exact m))]; exact e, fun b zs e => by rw [upd_ne (ne_of e h (by intro z; cases z))]; exact e⟩
theorem Kp.get {H H' : Hp} (k : Kp [] H H') {b : Addr} {o : HO} (h : H b = some o) : H' b = some o := k.keep b o (by simp) h
theorem Kp.non {H H' : Hp} (k : Kp [] H H') {b : Addr} (h : H' b = none) : H b = none := by
  cases q : H b with
  | none => rfl
  | some o => rw [k.get q] at h; cases h
noncomputable def Ints (H : Hp) (v : V) (ns : List Int) : Prop := ∃ a, v = .ref a ∧ H a = some (.tup (ns.map V.int))
theorem Ints.kp {L : List Addr} {H H' : Hp} {v : V} {ns : List Int} (h : Ints H v ns) (k : Kp L H H') : Ints H' v ns := let ⟨a, e, q⟩ := h; ⟨a, e, k.tup _ _ q⟩
noncomputable def Scl (H : Hp) (v : V) (hd rg : List Int) : Prop := ∃ a x y, v = .ref a ∧ H a = some (.tup [x, y]) ∧ Ints H x hd ∧ Ints H y rg
theorem Scl.kp {L : List Addr} {H H' : Hp} {v : V} {hd rg : List Int} (h : Scl H v hd rg) (k : Kp L H H') : Scl H' v hd rg := let ⟨a, x, y, e, q, i, j⟩ := h; ⟨a, x, y, e, k.tup _ _ q, i.kp k, j.kp k⟩
section
variable {X : Cx} {K : PySem.W.Frag} {t u : TS} {D : Ends} {σ : St} {H : Hp} {te ta tb tc : TE} {Q : VK} {tt tt' : TT} {B : Bool → Hp → Prop} {r r' : R2} {i : Nat} {v x y : V}
theorem rd_call {sp : Sp} {E : XK} {tr : TA} (h : tr σ H fun vs H1 => sp vs H1 Q E) : tCall sp [] E tr σ H Q := by
  unfold tCall
  have e : (fun (vs : List V) H1 => sp (vs ++ []) H1 Q E) = fun vs H1 => sp vs H1 Q E := by funext vs H1; rw [List.append_nil]
  rw [e]; exact h
noncomputable def rIxA (K : PySem.W.Frag) : R2 := fun x y H Q => rIxL K x y H Q ∨ rIxT K x y H Q
theorem ix_any : IxR X (rIxA X.K) := ix_list.or ix_tup
noncomputable def rEqA (K : PySem.W.Frag) : R2 := fun x y H Q => rEq x y H Q ∨ rEqT K false x y H Q ∨ rEqL K false x y H Q
noncomputable def rNeA (K : PySem.W.Frag) : R2 := fun x y H Q => rNe x y H Q ∨ rEqT K true x y H Q ∨ rEqL K true x y H Q
theorem op_eqA (hu : X.A.units + 64 < cLine) : OpR X (compareOp .Eq) (rEqA X.K) := op_eq.or ((op_eqT hu).or (op_eqL hu))
theorem op_neA (hu : X.A.units + 64 < cLine) : OpR X (compareOp .NotEq) (rNeA X.K) := op_ne.or ((op_neT hu).or (op_neL hu))
end
theorem dvs_ints {K : PySem.W.Frag} {H : Hp} : ∀ ns : List Int, DVs K H (ns.map D.int) (ns.map V.int)
  | [] => by rw [List.map_nil, DVs]; rfl
  | n :: ns => by rw [List.map_cons, DVs]; exact ⟨_, _, rfl, by rw [DV], dvs_ints ns⟩
theorem depths_ints : ∀ ns : List Int, D.depths (ns.map D.int) = 0
  | [] => by rw [List.map_nil, D.depths]
  | n :: ns => by
    have e : D.depth (.int n) = 0 := by simp [D.depth]
    rw [List.map_cons, D.depths, depths_ints ns, e]; rfl
theorem eqs_ints : ∀ ns ms : List Int, D.eqs (ns.map D.int) (ms.map D.int) = decide (ns = ms)
  | [], [] => by simp [D.eqs]
  | [], m :: ms => by simp [D.eqs]
  | n :: ns, [] => by simp [D.eqs]
  | n :: ns, m :: ms => by
    rw [List.map_cons, List.map_cons, D.eqs, D.eq, eqs_ints ns ms]
    by_cases h1 : n = m <;> by_cases h2 : ns = ms <;> simp [h1, h2]
structure Fn (P : Program) (w : World) (K : PySem.W.Frag) (mg : L2.SV) (base : Heap) (CX : CXT) (k : Nat) (x : Str) (f : Addr) (fd : FuncData) (ps : List Str) (sp : Sp) : Prop where
  F : FnOk P w K mg base CX k f fd ps sp
  hm : mg x = some (.ref f)
  kp : PySem.W.keepIn K (.ref f) = true
  hb : Binds K fd ps []
section
variable {X : Cx} {k : Nat} {f : Addr} {fd : FuncData} {ps : List Str} {sp : Sp} {x : Str} {p pos : Pos} {e : Expr} {es : List Expr} {t : TA}
end
section
variable {P : Program} {w : World} {K : PySem.W.Frag} {mg : L2.SV} {base : Heap}
theorem Fun.okX {x qual : Str} {st : Stmt} {f : Addr} {fd : FuncData} {N ps : List Str} {k : Nat} {sp : Sp} (F : Fun K x qual st f fd) (S : FnScope N ps (defScope st)) (len : ∀ vs H Q E, sp vs H Q E → vs.length = ps.length)
    (hbody : ∀ (cdv : Value) (A : Around) (outer : List Env) (s : Shared) (H : Hp) (vs : List V) (Q : VK) (E : XK), Room k (A.deeper (envOfC qual (defScope st) s.heap.objs.size f cdv)) → A.handled = none → sp vs H Q E →
      ∃ t, PSs (cxOf (CX1 P w) P w K mg base N qual (defScope st) f cdv A outer s H E) (defBody st) t ∧ t { nx := fun ψ H' => Q .non H', rt := Q } (start N vs) H) : FnOk P w K mg base (CX1 P w) (k + 1) f fd ps sp := by
  obtain ⟨oc, od, kV, doc, pm, an, cdv, ct, osl, rfl, lk, hcd⟩ := F.ex
  exact fn_of lk hcd S len fun A outer s H vs Q E hr hsp => hbody cdv A outer s H vs Q E hr hr.hd hsp
theorem PS.nox {X : Cx} {st : Stmt} {t : TS} (h : PS X.nox st t) : PS X st t := fun pins s σ H D I hw =>
  wpAny_mono (h pins s σ H D (I.wish _) hw) (fun ψ ψ q => q.unwish) fun ψ ψ z => False.elim z
end
inductive ClOf (cells : List (Str × Addr)) : List (Str × Addr) → Prop
  | nil : ClOf cells []
  | cons {y : Str} {c : Addr} {r : List (Str × Addr)} (h : cells.lookup y = some c) (t : ClOf cells r) : ClOf cells ((y, c) :: r)
theorem ClOf.sub {cells : List (Str × Addr)} : ∀ {cl : List (Str × Addr)}, ClOf cells cl → ∀ y c, cl.lookup y = some c → cells.lookup y = some c
  | _, .nil, y, c, h => by simp at h
  | _, .cons (y := y') (c := c') q t, y, c, h => by
    rw [List.lookup_cons] at h
    by_cases e : y = y'
    · subst e
      simp at h
      subst h
      exact q
    · have e' : (y == y') = false := by simpa using e
      rw [e'] at h
      exact t.sub y c h
theorem comp_ok {X : Cx} {scope : Scope} {cl : List (Str × Addr)} {js : List Nat} {caps : List Str} (clos : closureFor scope X.env = pure cl) (a : (scope.names.all fun y => y.2 != .cell) = true) (kind : scope.kind = .function)
    (b : (scope.names.all fun y => y.2 != .local || scope.names.lookup y.1 == some .local) = true) (c : (scope.names.all fun y => y.2 != .free || (cl.lookup y.1).isSome) = true) (d : ClOf X.env.cells cl) (cap : Caps X (relabel scope X.env) cl js caps) : CompOk X scope cl js caps := by
  refine ⟨clos, fun y hy => ?_, kind, fun y hy e => ?_, fun y hy e => ?_, d.sub, cap⟩
  · have z := List.all_eq_true.mp a y hy
    simpa using z
  · have z := List.all_eq_true.mp b y hy
    rw [e] at z
    simpa using z
  · have z := List.all_eq_true.mp c y hy
    rw [e] at z
    simpa using z
section
variable {X : Cx} {K : PySem.W.Frag} {H : Hp} {Q : VK} {v : V}
noncomputable def rLen (K : PySem.W.Frag) : List V → Hp → VK → Prop := fun xs H Q => ∃ p ys, xs = [.ref p] ∧ (SqL K H p ys ∨ SqT K H p ys) ∧ Q (.int ys.length) H
theorem call_lenA : CallR X (.builtin "len") (rLen X.K) := call_len_seq
noncomputable def rTupOf (K : PySem.W.Frag) : List V → Hp → VK → Prop := fun xs H Q => ∃ p ys, xs = [.ref p] ∧ ((SqL K H p ys ∧ ∀ l, H l = none → Q (.ref l) (upd H l (.tup ys))) ∨ (SqT K H p ys ∧ Q (.ref p) H))
theorem call_tupA : CallR X (.type "tuple") (rTupOf X.K) := call_tuple_of
noncomputable def rMax : List V → Hp → VK → Prop := fun xs H Q => ∃ i j, xs = [.int i, .int j] ∧ Q (.int (if j > i then j else i)) H
theorem call_maxA (hc : X.calm = true) : CallR X (.builtin "max") rMax := call_max2 hc
noncomputable def rMin : List V → Hp → VK → Prop := fun xs H Q => ∃ i j, xs = [.int i, .int j] ∧ Q (.int (if j < i then j else i)) H
theorem call_minA (hc : X.calm = true) : CallR X (.builtin "min") rMin := call_min2 hc
noncomputable def rIsA (K : PySem.W.Frag) : List V → Hp → VK → Prop := fun xs H Q => (∃ x c cv t b, xs = [x, c] ∧ (∀ u, RelV c u → u = cv) ∧ TyOf K H x t ∧ PySem.W.kitOne K t cv = some b ∧ Q (.bl b) H) ∨
    (∃ e C c cv b, xs = [.ref e, c] ∧ H e = some (excO e C) ∧ ExcK K C ∧ (∀ u, RelV c u → u = cv) ∧ PySem.W.kitOne K (.ref C) cv = some b ∧ Q (.bl b) H) ∨
    (∃ (e C tp : Addr) (cs : List Addr) (b : Bool), xs = [.ref e, .ref tp] ∧ H e = some (excO e C) ∧ ExcK K C ∧ H tp = some (.tup (cs.map V.ref)) ∧ PySem.W.kitAny K (.ref C) (cs.map Value.ref) = some b ∧ Q (.bl b) H)
theorem ris_ty {x : V} {t : Value} {n : String} {b : Bool} (ty : TyOf K H x t) (k : PySem.W.kitOne K t (.type n) = some b) (h : Q (.bl b) H) : rIsA K [x, .ty n] H Q := .inl ⟨x, .ty n, .type n, t, b, rfl, fun ψ r => r, ty, k, h⟩
theorem call_isB : CallR X (.builtin "isinstance") (rIsA X.K) := call_isinst.or (call_isinstE.or call_isinstET)
end
section
variable {X : Cx} {k : Nat} {f : Addr} {fd : FuncData} {ps : List Str} {sp : Sp} {x : Str} {p pos : Pos} {e : Expr} {es : List Expr} {t : TA} {P : Program} {w : World} {K : PySem.W.Frag} {mg : L2.SV} {base : Heap} {N : List Str} {qual : Str} {scope : Scope} {cd : Value} {A : Around} {outer : List Env} {s : Shared} {H : Hp} {E : XK} {g : Addr}
end
section
variable {K : PySem.W.Frag} {ta : TA} {tl : TE} {g : TG} {tb : TS} {D : Ends} {σ : St} {H : Hp}
end
section
variable {K : PySem.W.Frag} {ta : TA} {tl : TE} {k : Nat} {js : List Nat} {g : TG} {tc : TT} {te : TE} {σ : St} {H : Hp} {Q : VK}
end
end L2
namespace L2
open PySem PySem.Spec PyProof.Rows
noncomputable def Scls (H : Hp) (ps : List (List Int × List Int)) (vs : List V) : Prop := Paired (fun p v => Scl H v p.1 p.2) ps vs
theorem Scls.kp {L : List Addr} {H H' : Hp} (k : Kp L H H') {ps : List (List Int × List Int)} {vs : List V} (h : Scls H ps vs) : Scls H' ps vs := Paired.mapP h fun ψ ψ s => s.kp k
theorem Scls.get {H : Hp} : ∀ {ps : List (List Int × List Int)} {vs : List V} {i : Nat}, Scls H ps vs → i < ps.length → ∃ p v, p ∈ ps ∧ vs[i]? = some v ∧ Scl H v p.1 p.2
  | _, _, _, .nil, h => by simp at h
  | _, _, 0, .cons a t, h => ⟨_, _, List.mem_cons_self, rfl, a⟩
  | _, _, i + 1, .cons a t, h => by
    obtain ⟨p, v, m, e, s⟩ := Scls.get (i := i) t (by simpa using h)
    exact ⟨p, v, List.mem_cons_of_mem _ m, by simpa using e, s⟩
end L2
namespace L2
open PySem
theorem sw_list {es : List Expr} {p : Pos} {t : Option Expr} {l : Nat} {env : Env} : swapsWith (.List es p) t l env = pure false := rfl
theorem sw_binop {a b : Expr} {o : Operator} {p : Pos} {t : Option Expr} {l : Nat} {env : Env} : swapsWith (.BinOp a o b p) t l env = pure false := rfl
theorem sw_tuple {es : List Expr} {k} {p : Pos} {t : Option Expr} {l : Nat} {env : Env} : swapsWith (.Tuple es k p) t l env = pure false := rfl
theorem sw_sub {a b : Expr} {p : Pos} {t : Option Expr} {l : Nat} {env : Env} : swapsWith (.Subscript a b p) t l env = pure false := rfl
end L2
namespace L2
open PySem PySem.Spec PyProof.Rows
theorem fm_some {α β : Type} {f : α → Option β} {g : α → β} : ∀ {l : List α}, (∀ x ∈ l, f x = some (g x)) → l.filterMap f = l.map g
  | [], _ => rfl
  | x :: r, h => by rw [List.filterMap_cons, h x (by simp), List.map_cons, fm_some fun y hy => h y (List.mem_cons_of_mem _ hy)]
theorem pick_back (its : List Value) : slicePick its.toArray none none (some (-1)) = its.reverse.toArray := by
  unfold slicePick
  have e1 : (sliceBounds none none (some (-1)) its.toArray.size) = ((its.length : Int) - 1, -1, -1) := by
    simp [sliceBounds]
  rw [e1]
  have e2 : sliceRange ((its.length : Int) - 1) (-1) (-1) = (List.range its.length).map fun k => its.length - 1 - k := by
    unfold sliceRange
    rw [if_neg (by decide)]
    have c : (if ((its.length : Int) - 1) > -1 then (((its.length : Int) - 1) - -1 - -1 - 1) / (- -1) else 0).toNat = its.length := by
      by_cases h : ((its.length : Int) - 1) > -1
      · rw [if_pos h]; simp
      · rw [if_neg h]; lia
    simp only [c]
    refine List.map_congr_left fun k hk => ?_
    have := List.mem_range.mp hk
    lia
  rw [e2]
  congr 1
  refine List.ext_getElem? fun i => ?_
  rw [List.filterMap_map]
  have e3 : (List.range its.length).filterMap ((fun x => its.toArray[x]?) ∘ fun k => its.length - 1 - k) = (List.range its.length).map fun k => (its[its.length - 1 - k]?).getD default := by
    refine fm_some fun k hk => ?_
    have := List.mem_range.mp hk
    have lt : its.length - 1 - k < its.length := by lia
    simp [lt]
  rw [e3]
  by_cases hi : i < its.length
  · rw [List.getElem?_map, List.getElem?_range hi, List.getElem?_reverse hi]
    have lt : its.length - 1 - i < its.length := by lia
    simp [lt]
  · rw [List.getElem?_eq_none (by simp; lia), List.getElem?_eq_none (by simp; lia)]
section
variable {X : Cx} {e se : Expr} {te : TE} {ts : TO} {p2 pos : Pos}
noncomputable def rRev (K : PySem.W.Frag) : V → Option Int → Hp → VK → Prop := fun x st H Q => ∃ a xs, x = .ref a ∧ st = some (-1) ∧ SqL K H a xs ∧ ∀ p, H p = none → Q (.ref p) (upd H p (.lst xs.reverse))
variable {K : PySem.W.Frag} {σ : St} {H : Hp} {Q : VK}
end
section
variable {X : Cx} {K : PySem.W.Frag}
theorem call_isK (h : X.K = K) : CallR X (.builtin "isinstance") (rIsA K) := h ▸ call_isB
theorem call_lenK (h : X.K = K) : CallR X (.builtin "len") (rLen K) := h ▸ call_lenA
theorem ix_anyK (h : X.K = K) : IxR X (rIxA K) := h ▸ ix_any
end
section
variable {prog : Program} {w : World} {A : Around} {E : L2.VSP} {s : Shared}
theorem nextT_item {ti tu : Addr} {k : Nat} {its : Array Value} {v : Value} {Q : L2.VSP} (I : s.heap.IsTupleIter ti tu k) (T : s.heap.IsTuple tu its) (hv : its[k]? = some v)
    (q : ∀ g, g.IsTupleIter ti tu (k + 1) → Heap.SameBut ti s.heap g → Q v { s with heap := g }) : wpAny (model prog w) A (Builtin.SmallTypes.nextOf (.ref ti)) Q E s := by
  obtain ⟨oi, gi, ci, di⟩ := id I; obtain ⟨ot, gt, _, nt, dt⟩ := T; unfold Builtin.SmallTypes.nextOf
  refine wpAny_bind (wpAny_callSpecial?_slot (name := Str.ofString "__next__") I.typeIs F.slot_tuple_iterator_next (wpAny_call_entry F.slot_tuple_iterator_next I.typeIs F.entry_tuple_iterator_next ?_ (F.args_tuple_iterator_next_1 _)))
  show wpAny _ _ (field (.ref ti) 0 >>= _) _ _ s; refine wpAny_bind (wpAny_field gi di (x := .ref tu) rfl ?_)
  show wpAny _ _ (if (Value.ref tu == Value.none) = true then _ else _) _ _ s; rw [if_neg (show ¬ ((Value.ref tu == Value.none) = true) from Bool.false_ne_true)]
  show wpAny _ _ (field (.ref ti) 1 >>= _) _ _ s; refine wpAny_bind (wpAny_field gi di (x := .int k 0) rfl ?_)
  show wpAny _ _ (seqItems? (.ref tu) >>= _) _ _ s; refine wpAny_bind (wpAny_seqItems gt dt ?_)
  simp only [Int.toNat_natCast, hv]; refine wpAny_bind (wpAny_setField gi di (by simp) (wpAny_pure ⟨v, rfl, wpAny_pure (q _ ?_ (Heap.SameBut.update ..))⟩))
  exact ⟨_, Heap.get?_update_self _ gi (Obj.isFreed_of_fields (Obj.data_mapFields di _)), (Obj.cls_mapFields ..).trans ci, by rw [Obj.data_mapFields di]; simp [rawInt]⟩
theorem nextT_end {ti tu : Addr} {k : Nat} {its : Array Value} {Q : L2.VSP} (nh : A.handled = none) (I : s.heap.IsTupleIter ti tu k) (T : s.heap.IsTuple tu its) (hv : its[k]? = none)
    (q : ∀ g x, Heap.ExtBut ti s.heap g → (∃ o, g.get? x = some o ∧ o.cls = .type "StopIteration") → E (.ref x) { s with heap := g }) : wpAny (model prog w) A (Builtin.SmallTypes.nextOf (.ref ti)) Q E s := by
  obtain ⟨oi, gi, ci, di⟩ := id I; obtain ⟨ot, gt, _, nt, dt⟩ := T; unfold Builtin.SmallTypes.nextOf
  refine wpAny_bind (wpAny_callSpecial?_slot (name := Str.ofString "__next__") I.typeIs F.slot_tuple_iterator_next (wpAny_call_entry F.slot_tuple_iterator_next I.typeIs F.entry_tuple_iterator_next ?_ (F.args_tuple_iterator_next_1 _)))
  show wpAny _ _ (field (.ref ti) 0 >>= _) _ _ s; refine wpAny_bind (wpAny_field gi di (x := .ref tu) rfl ?_)
  show wpAny _ _ (if (Value.ref tu == Value.none) = true then _ else _) _ _ s; rw [if_neg (show ¬ ((Value.ref tu == Value.none) = true) from Bool.false_ne_true)]
  show wpAny _ _ (field (.ref ti) 1 >>= _) _ _ s; refine wpAny_bind (wpAny_field gi di (x := .int k 0) rfl ?_)
  show wpAny _ _ (seqItems? (.ref tu) >>= _) _ _ s; refine wpAny_bind (wpAny_seqItems gt dt ?_)
  simp only [Int.toNat_natCast, hv]; refine wpAny_bind (wpAny_rule (wpAny_bind (wpAny_setField gi di (by simp) ?_)))
  show wpAny _ _ (newExc (.type "StopIteration") [] >>= _) _ _ _; refine wpAny_bind ?_; simp only [newExc, newTuple]; refine wpAny_bind (wpAny_newObj_type ?_ (by size_fits))
  refine wpAny_bind (m := firstArgMember _ _) (wpAny_of_eq (a := Value.none) (by first | rfl | (simp only [firstArgMember]; rfl)) ?_); refine wpAny_newObj_type ?_ (by size_fits)
  simp only [raiseNew]; refine wpAny_bind (wpAny_handled ?_); first | rw [show A.in1.handled = none from nh] | rw [nh]
  refine wpAny_bind (wpAny_pure (wpAny_throw ?_)); exact q _ _ (((Heap.SameBut.update ..).extBut.push _).push _) ⟨_, Heap.get?_push_size _ rfl, rfl⟩
end
section
variable {X : Cx} {pins : List (Addr × Obj)} {σ : St} {H : Hp} {s : Shared} {h' : Heap}
theorem Inv.turnedL {t' : Nat} {fp : List Addr} (I : Inv X pins σ H s) (k : ∀ b o, b ∉ fp → s.heap.get? b = some o → h'.get? b = some o) (hf : ∀ b ∈ fp, FpOk X pins H b) : Inv X pins σ H { s with heap := h', toks := t' } := by
  have nf : ∀ b u, H b = some u → b ∉ fp := fun b u e z => by rw [(hf b z).1] at e; cases e
  refine I.step (g' := s.gens) (d' := s.drawn) (ch := fp) (fun b hb => ⟨(hf b hb).2.2.2.1, (hf b hb).2.1, (hf b hb).2.2.2.2.1, (hf b hb).2.2.2.2.2⟩) (fun b o ψ ψ hc e ψ => k b o hc e) (fun b o ψ ψ hc e ψ => ⟨o.slots, k b o hc e⟩) (fun ψ ψ ψ ψ n => n)
    (fun b o hc e => ⟨o, k b o hc e⟩) (fun ψ ψ e => e) (fun ψ ψ ψ e => e) (fun b ps e => ⟨#[], by rw [e]; simp⟩) (fun m hm => ?_) (fun b u e => ?_) I.bare
  · obtain ⟨o, es, ep, ho, r⟩ := hm; exact ⟨o, es, ep, k _ o (fun z => (hf _ z).2.1 rfl) ho, r⟩
  · refine (I.hok b u e).stay (fun c v hc q => k c v ?_ q) (fun ψ q => q) fun ψ ψ q => q
    rcases hc with z | z
    · rw [z]; exact nf b u e
    · exact nf c _ z
theorem Inv.adoptT {fp : List Addr} {t' : Nat} {vs : List V} {us : List Value} {n : Nat} (I : Inv X pins σ H s) (k : ∀ b o, b ∉ fp → s.heap.get? b = some o → h'.get? b = some o) (hf : ∀ b ∈ fp, FpOk X pins H b)
    (ht : ∃ o, h'.get? s.heap.objs.size = some o ∧ o.cls = .type "tuple" ∧ ∃ n, o.data = .seq us.toArray n) (r : Vals vs us) (hl : vs.length ≤ sizeLine) : H s.heap.objs.size = none ∧ Inv X pins σ (upd H s.heap.objs.size (.tup vs)) { s with heap := h', toks := t' } := by
  have I1 := I.turnedL (t' := t') k hf
  have hn : H s.heap.objs.size = none := I.hok.fresh (Nat.le_refl _)
  have lt : ∀ {b : Addr} {o : Obj}, s.heap.get? b = some o → s.heap.objs.size ≠ b := fun e z => absurd (Heap.lt_size e) (by rw [← z]; exact Nat.lt_irrefl _)
  refine ⟨hn, I1.adoptX hn ?_ ?_ (fun x c e z => ?_) (fun p hp z => ?_) ⟨hl, us, r, ht⟩⟩
  · cases z : X.s₀.heap.get? s.heap.objs.size with
    | none => rfl
    | some o => exact absurd (Nat.lt_of_lt_of_le (Heap.lt_size z) I.sz) (Nat.lt_irrefl _)
  · intro z; exact absurd I.lt (by rw [← z]; exact Nat.lt_irrefl _)
  · obtain ⟨v, q⟩ := I.cell x c e; exact absurd q.lt (by rw [z]; exact Nat.lt_irrefl _)
  · exact lt (I.pin p hp).1 z.symm
end
section
variable {X : Cx}
end
section
variable {K : PySem.W.Frag} {ta : TA} {g : TG} {tb : TS} {D : Ends} {σ : St} {H : Hp}
end
section
variable {prog : Program} {w : World} {A : Around} {E : L2.VSP} {s : Shared}
theorem zipT_next {zp tI tO ia ib la lb : Addr} {ka kb : Nat} {xs ys : Array Value} {x y a b : Value} {Q : L2.VSP} (D : ZipApart zp tI tO ia ib la lb) (Z : IsZip s.heap zp tI tO .none) (PI : IsPair s.heap tI (.ref ia) (.ref ib)) (PO : IsPair s.heap tO a b)
    (I1 : s.heap.IsTupleIter ia la ka) (I2 : s.heap.IsListIter ib lb kb) (S1 : s.heap.IsTuple la xs) (S2 : s.heap.IsList lb ys) (hx : xs[ka]? = some x) (hy : ys[kb]? = some y)
    (q : ∀ g, IsZip g zp tI tO (rawInt s.heap.objs.size) → IsPair g tO x y → g.IsTupleIter ia la (ka + 1) → g.IsListIter ib lb (kb + 1) → IsPair g s.heap.objs.size x y →
      (∀ c o, c ≠ zp → c ≠ tO → c ≠ ia → c ≠ ib → s.heap.get? c = some o → g.get? c = some o) → Q (.ref s.heap.objs.size) { s with heap := g }) :
    wpAny (model prog w) A (Builtin.«zip.__next__» ⟨[.ref zp], []⟩) (fun fin s' => ∃ v, fin = .done (.ret v) ∧ Q v s') E s := by
  show wpAny _ _ (field (.ref zp) 2 >>= _) _ _ _; refine wpAny_bind (wpAny_field Z rfl (x := .bool false) rfl ?_)
  show wpAny _ _ (field (.ref zp) 3 >>= _) _ _ _; refine wpAny_bind (wpAny_field Z rfl (x := .ref tI) rfl ?_); refine wpAny_bind (wpAny_seqItems PI rfl ?_)
  show wpAny _ _ (Builtin.SmallTypes.ownedTupleIsFree (.ref zp) >>= _) _ _ _; refine wpAny_bind ?_; unfold Builtin.SmallTypes.ownedTupleIsFree
  refine wpAny_bind (wpAny_field Z rfl (x := .none) rfl (wpAny_pure ?_)); simp only [if_true]; refine wpAny_bind (wpAny_rule ?_); refine wpAny_bind (wpAny_field Z rfl (x := .ref tO) rfl ?_)
  refine wpAny_bind (wpAny_setField_rec Z (by simp) fun g1 Z1 E1 => ?_); replace Z1 : IsZip g1 zp tI tO .ellipsis := Z1; refine wpAny_bind ?_
  simp only [List.zipIdx_cons, List.zipIdx_nil, List.forIn_cons, List.forIn_nil]; refine wpAny_bind (wpAny_bind (wpAny_onRaise ?_))
  show wpAny _ _ (Builtin.SmallTypes.nextOf (.ref ia) >>= _) _ _ _; refine wpAny_bind (nextT_item (I1.extBut E1.extBut D.i1z) (S1.extBut E1.extBut D.l1z) hx fun g2 I12 E2 => wpAny_pure ?_)
  have P2 : IsPair g2 tO a b := E2.extBut _ _ D.TOi1 (E1.extBut _ _ D.TOz PO)
  refine wpAny_bind (wpAny_seqItems P2 rfl ?_); refine wpAny_bind (wpAny_updateSeq_pair P2 fun g3 P3 E3 => ?_); replace P3 : IsPair g3 tO x b := P3
  refine wpAny_bind (wpAny_letGo (wpAny_pure ?_)); refine wpAny_bind (wpAny_bind (wpAny_onRaise ?_)); show wpAny _ _ (Builtin.SmallTypes.nextOf (.ref ib) >>= _) _ _ _
  refine wpAny_bind (wpAny_nextOf_list_item (((I2.extBut E1.extBut D.i2z).extBut E2.extBut D.i12.symm).extBut E3.extBut D.TOi2.symm) (((S2.extBut E1.extBut D.l2z).extBut E2.extBut D.l2i1).extBut E3.extBut D.l2TO) hy fun g4 I24 E4 => wpAny_pure ?_)
  have P4 : IsPair g4 tO x b := E4.extBut _ _ D.TOi2 P3
  refine wpAny_bind (wpAny_seqItems P4 rfl ?_); refine wpAny_bind (wpAny_updateSeq_pair P4 fun g5 P5 E5 => ?_); replace P5 : IsPair g5 tO x y := P5
  refine wpAny_bind (wpAny_letGo (wpAny_pure (wpAny_pure ?_))); refine wpAny_bind (wpAny_seqItems P5 rfl ?_); refine wpAny_bind (wpAny_newTuple ?_)
  have zs : g5.objs.size = s.heap.objs.size := by rw [E5.1, E4.1, E3.1, E2.1, E1.1]
  have Z5 : IsZip g5 zp tI tO .ellipsis := E5.extBut _ _ D.TOz.symm (E4.extBut _ _ D.i2z.symm (E3.extBut _ _ D.TOz.symm (E2.extBut _ _ D.i1z.symm Z1)))
  have kk : ∀ c o, c ≠ zp → c ≠ tO → c ≠ ia → c ≠ ib → s.heap.get? c = some o → g5.get? c = some o := fun c o c1 c2 c3 c4 e => E5.extBut _ _ c2 (E4.extBut _ _ c4 (E3.extBut _ _ c2 (E2.extBut _ _ c3 (E1.extBut _ _ c1 e))))
  have I15 : g5.IsTupleIter ia la (ka + 1) := ((I12.extBut E3.extBut D.TOi1.symm).extBut E4.extBut D.i12).extBut E5.extBut D.TOi1.symm
  have I25 : g5.IsListIter ib lb (kb + 1) := I24.extBut E5.extBut D.TOi2.symm
  have lz : zp < g5.objs.size := Heap.lt_size Z5
  show wpAny _ _ (Builtin.SmallTypes.ownedTupleHandOut (.ref zp) (.ref g5.objs.size) >>= _) _ _ _; refine wpAny_bind ?_; unfold Builtin.SmallTypes.ownedTupleHandOut
  have Z6 : IsZip (g5.push { cls := .type "tuple", data := .seq #[x, y] }) zp tI tO .ellipsis := Heap.get?_push_of_some _ Z5
  refine wpAny_bind (wpAny_setField_rec Z6 (by simp) fun g7 Z7 E7 => ?_); replace Z7 : IsZip g7 zp tI tO (rawInt g5.objs.size) := Z7
  refine wpAny_setField_rec Z7 (by simp) fun g8 Z8 E8 => ?_; replace Z8 : IsZip g8 zp tI tO (rawInt g5.objs.size) := Z8
  have up : ∀ c o, c ≠ zp → g5.get? c = some o → g8.get? c = some o := fun c o c1 e => E8.extBut _ _ c1 (E7.extBut _ _ c1 (Heap.get?_push_of_some _ e))
  have T8 : IsPair g8 g5.objs.size x y := E8.extBut _ _ (Nat.ne_of_gt lz) (E7.extBut _ _ (Nat.ne_of_gt lz) (Heap.get?_push_size _ rfl))
  rw [zs] at Z8 T8; refine wpAny_pure ⟨_, rfl, ?_⟩; show Q (.ref g5.objs.size) _; rw [zs]
  have I18 : g8.IsTupleIter ia la (ka + 1) := let ⟨o, e, r⟩ := I15; ⟨o, up _ o D.i1z e, r⟩
  exact q g8 Z8 (up _ _ D.TOz P5) I18 (I25.at fun o e => up _ o D.i2z e) T8 fun c o c1 c2 c3 c4 e => up c o c1 (kk c o c1 c2 c3 c4 e)
theorem zipT_end {zp tI tO ia ib la lb : Addr} {ka kb : Nat} {xs ys : Array Value} {a b : Value} {Q : Fin → Shared → Prop} (nh : A.handled = none) (D : ZipApart zp tI tO ia ib la lb) (Z : IsZip s.heap zp tI tO .none) (PI : IsPair s.heap tI (.ref ia) (.ref ib))
    (I1 : s.heap.IsTupleIter ia la ka) (S1 : s.heap.IsTuple la xs) (hx : xs[ka]? = none)
    (q : ∀ g e, (∀ c o, c ≠ zp → c ≠ ia → s.heap.get? c = some o → g.get? c = some o) → (∃ o, g.get? e = some o ∧ o.cls = .type "StopIteration") → E (.ref e) { s with heap := g }) : wpAny (model prog w) A (Builtin.«zip.__next__» ⟨[.ref zp], []⟩) Q E s := by
  show wpAny _ _ (field (.ref zp) 2 >>= _) _ _ _; refine wpAny_bind (wpAny_field Z rfl (x := .bool false) rfl ?_)
  show wpAny _ _ (field (.ref zp) 3 >>= _) _ _ _; refine wpAny_bind (wpAny_field Z rfl (x := .ref tI) rfl ?_); refine wpAny_bind (wpAny_seqItems PI rfl ?_)
  show wpAny _ _ (Builtin.SmallTypes.ownedTupleIsFree (.ref zp) >>= _) _ _ _; refine wpAny_bind ?_; unfold Builtin.SmallTypes.ownedTupleIsFree
  refine wpAny_bind (wpAny_field Z rfl (x := .none) rfl (wpAny_pure ?_)); simp only [if_true]; refine wpAny_bind (wpAny_rule ?_); refine wpAny_bind (wpAny_field Z rfl (x := .ref tO) rfl ?_)
  refine wpAny_bind (wpAny_setField_rec Z (by simp) fun g1 Z1 E1 => ?_); replace Z1 : IsZip g1 zp tI tO .ellipsis := Z1; refine wpAny_bind ?_
  simp only [List.zipIdx_cons, List.zipIdx_nil, List.forIn_cons, List.forIn_nil]; refine wpAny_bind (wpAny_bind (wpAny_onRaise ?_))
  show wpAny _ _ (Builtin.SmallTypes.nextOf (.ref ia) >>= _) _ _ _; refine wpAny_bind (nextT_end nh (I1.extBut E1.extBut D.i1z) (S1.extBut E1.extBut D.l1z) hx fun g2 e E2 he => ?_)
  obtain ⟨oe, ge, ce⟩ := he; have Z2 : IsZip g2 zp tI tO .ellipsis := E2 _ _ D.i1z.symm Z1; have ez : e ≠ zp := fun z => by subst z; rw [Z2] at ge; cases ge; simp at ce
  exact wpAny_setField_rec Z2 (by simp) fun g3 ψ E3 => q g3 e (fun c o c1 c3 z => E3.extBut _ _ c1 (E2 _ _ c3 (E1.extBut _ _ c1 z))) ⟨oe, E3.extBut _ _ ez ge, ce⟩
theorem pyNextZ_item {zp tI tO ia ib la lb : Addr} {ka kb : Nat} {xs ys : Array Value} {x y a b : Value} {Q : Option Value → Shared → Prop} (D : ZipApart zp tI tO ia ib la lb) (Z : IsZip s.heap zp tI tO .none) (PI : IsPair s.heap tI (.ref ia) (.ref ib)) (PO : IsPair s.heap tO a b)
    (I1 : s.heap.IsTupleIter ia la ka) (I2 : s.heap.IsListIter ib lb kb) (S1 : s.heap.IsTuple la xs) (S2 : s.heap.IsList lb ys) (hx : xs[ka]? = some x) (hy : ys[kb]? = some y)
    (q : ∀ g, IsZip g zp tI tO (rawInt s.heap.objs.size) → IsPair g tO x y → g.IsTupleIter ia la (ka + 1) → g.IsListIter ib lb (kb + 1) → IsPair g s.heap.objs.size x y →
      (∀ c o, c ≠ zp → c ≠ tO → c ≠ ia → c ≠ ib → s.heap.get? c = some o → g.get? c = some o) → Q (some (.ref s.heap.objs.size)) { s with heap := g }) : wpAny (model prog w) A (pyNext (.ref zp)) Q E s := by
  have ty : s.TypeIs (.ref zp) "zip" := ⟨_, Z, rfl⟩
  unfold pyNext; exact wpAny_bind (wpAny_attempt (wpAny_callSpecial?_slot (name := Str.ofString "__next__") ty F.slot_zip_next (wpAny_call_entry F.slot_zip_next ty F.entry_zip_next (zipT_next D Z PI PO I1 I2 S1 S2 hx hy fun g a1 a2 a3 a4 a5 a6 => wpAny_pure (q g a1 a2 a3 a4 a5 a6)) (F.args_zip_next_1 _))))
theorem pyNextZ_end {zp tI tO ia ib la lb : Addr} {ka : Nat} {xs : Array Value} {Q : Option Value → Shared → Prop} (nh : A.handled = none) (D : ZipApart zp tI tO ia ib la lb) (Z : IsZip s.heap zp tI tO .none) (PI : IsPair s.heap tI (.ref ia) (.ref ib))
    (I1 : s.heap.IsTupleIter ia la ka) (S1 : s.heap.IsTuple la xs) (hx : xs[ka]? = none)
    (q : ∀ g, (∀ c o, c ≠ zp → c ≠ ia → s.heap.get? c = some o → g.get? c = some o) → Q none { s with heap := g }) : wpAny (model prog w) A (pyNext (.ref zp)) Q E s := by
  have ty : s.TypeIs (.ref zp) "zip" := ⟨_, Z, rfl⟩
  unfold pyNext; refine wpAny_bind (wpAny_attempt (wpAny_callSpecial?_slot (name := Str.ofString "__next__") ty F.slot_zip_next (wpAny_call_entry F.slot_zip_next ty F.entry_zip_next (zipT_end (kb := 0) (ys := #[]) (a := .none) (b := .none) nh D Z PI I1 S1 hx fun g e k he => ?_) (F.args_zip_next_1 _))))
  obtain ⟨o, go, co⟩ := he; refine wpAny_bind (wpAny_isInstance (T := "StopIteration") (b := true) ⟨o, go, co⟩ isSubtype_stop ?_); exact wpAny_pure (q _ k)
noncomputable abbrev zT1 (h : Heap) (la : Addr) : Heap := h.push { cls := .type "tuple_iterator", data := .fields #[.ref la, .int 0 0] }
noncomputable abbrev zT2 (h : Heap) (la lb : Addr) : Heap := (zT1 h la).push { cls := .type "list_iterator", data := .fields #[.ref lb, .int 0 0] }
noncomputable abbrev zT3 (h : Heap) (la lb : Addr) : Heap := (zT2 h la lb).push { cls := .type "tuple", data := .seq #[.ref h.objs.size, .ref (zT1 h la).objs.size] }
noncomputable abbrev zT4 (h : Heap) (la lb : Addr) : Heap := (zT3 h la lb).push { cls := .type "tuple", data := .seq #[.none, .none] }
noncomputable abbrev zT5 (h : Heap) (la lb : Addr) : Heap := (zT4 h la lb).push { cls := .type "zip", data := .fields #[.none, .bool false, .bool false, .ref (zT2 h la lb).objs.size, .ref (zT3 h la lb).objs.size] }
theorem meetsZ_new (la lb : Addr) (xs ys : Array Value) : Meets (Builtin.«zip.__new__» ⟨[.type "zip", .ref la, .ref lb], []⟩) (fun ψ R s => s.heap.IsTuple la xs ∧ s.heap.IsList lb ys ∧ R (.ok (.ret (.ref (zT4 s.heap la lb).objs.size))) { s with heap := zT5 s.heap la lb }) :=
  .of_wp fun prog w A R s h => by
    obtain ⟨g0, gn, dr, tk, os⟩ := s; obtain ⟨t1, t2, h⟩ := h; have sb := sub_zip
    have T1 : Heap.IsTuple (Shared.heap ⟨g0, gn, dr, tk, os⟩) la xs := t1
    have T2 : Heap.IsList (Shared.heap ⟨g0.push { cls := .type "tuple_iterator", data := .fields #[.ref la, .int 0 0] }, gn, dr, tk, os⟩) lb ys := Heap.IsList.push t2 _
    wp_walk using wpAny_pyIter_tuple T1, wpAny_pyIter_list T2; exact ⟨_, rfl, h⟩
theorem callZ {la lb : Addr} {xs ys : Array Value} {Q : L2.VSP} (t1 : s.heap.IsTuple la xs) (t2 : s.heap.IsList lb ys)
    (q : ∀ g, IsZip g (s.heap.objs.size + 4) (s.heap.objs.size + 2) (s.heap.objs.size + 3) .none → IsPair g (s.heap.objs.size + 2) (.ref s.heap.objs.size) (.ref (s.heap.objs.size + 1)) → IsPair g (s.heap.objs.size + 3) .none .none →
      g.IsTupleIter s.heap.objs.size la 0 → g.IsListIter (s.heap.objs.size + 1) lb 0 → (∀ c o, s.heap.get? c = some o → g.get? c = some o) → Q (.ref (s.heap.objs.size + 4)) { s with heap := g }) : wpAny (model prog w) A (call (.type "zip") [.ref la, .ref lb]) Q E s := by
  refine callType_new F.called_zip (by decide) (F.typeCall_zip_2 _ _) (F.newCall_zip_2 _ _) (fun obj => F.args_object_init_3 obj _ _) F.entry_zip_new (meetsZ_new la lb xs ys) ⟨t1, t2, ?_⟩
  have n1 : (zT1 s.heap la).objs.size = s.heap.objs.size + 1 := Heap.size_push ..
  have n2 : (zT2 s.heap la lb).objs.size = s.heap.objs.size + 2 := by rw [Heap.size_push, n1]
  have n3 : (zT3 s.heap la lb).objs.size = s.heap.objs.size + 3 := by rw [Heap.size_push, n2]
  have n4 : (zT4 s.heap la lb).objs.size = s.heap.objs.size + 4 := by rw [Heap.size_push, n3]
  have e5 : (zT5 s.heap la lb).get? (zT4 s.heap la lb).objs.size = some _ := Heap.get?_push_size _ rfl
  have e4 : (zT5 s.heap la lb).get? (zT3 s.heap la lb).objs.size = some _ := Heap.get?_push_of_some _ (Heap.get?_push_size _ rfl)
  have e3 : (zT5 s.heap la lb).get? (zT2 s.heap la lb).objs.size = some _ := Heap.get?_push_of_some _ (Heap.get?_push_of_some _ (Heap.get?_push_size _ rfl))
  have e2 : (zT5 s.heap la lb).get? (zT1 s.heap la).objs.size = some _ := Heap.get?_push_of_some _ (Heap.get?_push_of_some _ (Heap.get?_push_of_some _ (Heap.get?_push_size _ rfl)))
  have e1 : (zT5 s.heap la lb).get? s.heap.objs.size = some _ := Heap.get?_push_of_some _ (Heap.get?_push_of_some _ (Heap.get?_push_of_some _ (Heap.get?_push_of_some _ (Heap.get?_push_size _ rfl))))
  show _ ∧ _; rw [n2, n3, n4] at e5; rw [n1, n2] at e3; rw [n3] at e4; rw [n1] at e2; rw [n4]
  exact ⟨⟨_, e5, rfl⟩, q _ e5 e3 e4 ⟨_, e1, rfl, rfl⟩ ⟨_, e2, rfl, rfl⟩ fun c o x => Heap.get?_push_of_some _ (Heap.get?_push_of_some _ (Heap.get?_push_of_some _ (Heap.get?_push_of_some _ (Heap.get?_push_of_some _ x))))⟩
end
noncomputable def Itz (K : PySem.W.Frag) (a b : Addr) : It :=
  ⟨fun i H => ∃ xs ys x y, SqT K H a xs ∧ SqL K H b ys ∧ xs[i]? = some x ∧ ys[i]? = some y, fun i H v H' => ∃ p x y, H p = none ∧ v = .ref p ∧ (∀ xs, SqT K H a xs → xs[i]? = some x) ∧ (∀ ys, SqL K H b ys → ys[i]? = some y) ∧ H' = upd H p (.tup [x, y]),
    fun i H => ∃ xs, SqT K H a xs ∧ xs.length ≤ i⟩
theorem turn_zip {P : Program} {w : World} {K : PySem.W.Frag} {es : List Expr} {x1 : Nat} {pos : Pos} (a b zp tI tO ia ib : Addr) (D : ZipApart zp tI tO ia ib a b) :
    Turn P w K (.Tuple es x1 pos) (Itz K a b) [zp, tO, ia, ib, tI] zp (fun i h => (IsZip h zp tI tO .none ∧ IsPair h tI (.ref ia) (.ref ib) ∧ ∃ u v, IsPair h tO u v) ∧ h.IsTupleIter ia a i ∧ h.IsListIter ib b i) where
  mem := by simp
  obj := fun i h st c hc => by
    obtain ⟨⟨Z, P1, u, v, P2⟩, ⟨o1, g1, _, d1⟩, ⟨o2, g2, _, d2⟩⟩ := st
    simp only [List.mem_cons, List.not_mem_nil, or_false] at hc
    rcases hc with rfl | rfl | rfl | rfl | rfl
    · exact ⟨_, Z, fun v z => by cases z⟩
    · exact ⟨_, P2, fun v z => by cases z⟩
    · exact ⟨o1, g1, fun v z => by rw [d1] at z; cases z⟩
    · exact ⟨o2, g2, fun v z => by rw [d2] at z; cases z⟩
    · exact ⟨_, P1, fun v z => by cases z⟩
  keep := fun i h h' st k => by
    obtain ⟨⟨Z, P1, u, v, P2⟩, ⟨o1, g1, r1⟩, ⟨o2, g2, r2⟩⟩ := st
    exact ⟨⟨k zp (by simp) _ Z, k tI (by simp) _ P1, u, v, k tO (by simp) _ P2⟩, ⟨o1, k ia (by simp) o1 g1, r1⟩, ⟨o2, k ib (by simp) o2 g2, r2⟩⟩
  item := by
    intro X hP hw hK hc i pins s σ H E I hf st hg
    subst hP hw hK
    obtain ⟨xs, ys, x, y, hq, hr, hx, hy⟩ := hg
    obtain ⟨its, rv, p, hz⟩ := I.tuple hq
    obtain ⟨jts, rw', pl, hz2⟩ := I.list hr
    obtain ⟨u, hu, ru⟩ := rv.get hx
    obtain ⟨v, hv, rv2⟩ := rw'.get hy
    obtain ⟨⟨Z, P1, a1, b1, P2⟩, J1, J2⟩ := st
    refine pyNextZ_item D Z P1 P2 J1 J2 (show s.heap.IsTuple a its.toArray from p) pl.isList (x := u) (y := v) (by simpa using hu) (by simpa using hv) fun g Z1 Q2 L1 L2 t1 k1 => ?_
    refine ⟨_, rfl, wpAny_letOwnedTupleGo_zip (s := { s with heap := g }) Z1 fun g2 Z2 S2 => ?_⟩
    have lt : zp < s.heap.objs.size := Heap.lt_size Z
    have k2 : ∀ c o, c ∉ [zp, tO, ia, ib, tI] → s.heap.get? c = some o → g2.get? c = some o := fun c o hb e => (S2.2 c fun z => hb (by simp [z])).trans (k1 c o (fun z => hb (by simp [z])) (fun z => hb (by simp [z])) (fun z => hb (by simp [z])) (fun z => hb (by simp [z])) e)
    obtain ⟨hn, I2⟩ := I.adoptT (h' := g2) (t' := s.toks) (fp := [zp, tO, ia, ib, tI]) (vs := [x, y]) (us := [u, v]) (n := 0) k2 hf ⟨_, (S2.2 _ (Nat.ne_of_gt lt)).trans t1, rfl, _, rfl⟩ (.cons ru (.cons rv2 .nil)) (by show 2 ≤ sizeLine; decide)
    refine ⟨.ref _, _, I2, rfl, ⟨_, x, y, hn, rfl, fun zs hy => by rw [I.tuple_inj hy hq]; exact hx, fun zs hy' => by rw [I.list_inj hy' hr]; exact hy, rfl⟩, ⟨⟨Z2, ?_, u, v, (S2.2 _ D.TOz).trans Q2⟩, ?_, ?_⟩, fun c hb => ?_⟩
    · exact (S2.2 _ D.TIz).trans (k1 tI _ D.TIz D.TITO D.TIi1 D.TIi2 P1)
    · obtain ⟨o, go, r⟩ := L1; exact ⟨o, (S2.2 ia D.i1z).trans go, r⟩
    · obtain ⟨o, go, r⟩ := L2; exact ⟨o, (S2.2 ib D.i2z).trans go, r⟩
    · have ltb : c ≠ s.heap.objs.size := by
        obtain ⟨o1, q1, _⟩ := J1
        obtain ⟨o2, q2, _⟩ := J2
        simp only [List.mem_cons, List.not_mem_nil, or_false] at hb
        rcases hb with rfl | rfl | rfl | rfl | rfl
        · exact Nat.ne_of_lt lt
        · exact Nat.ne_of_lt (Heap.lt_size P2)
        · exact Nat.ne_of_lt (Heap.lt_size q1)
        · exact Nat.ne_of_lt (Heap.lt_size q2)
        · exact Nat.ne_of_lt (Heap.lt_size P1)
      rw [upd_ne ltb]; exact (hf c hb).1
  done := by
    intro X hP hw hK hc i pins s σ H E I hf st hg
    subst hP hw hK
    obtain ⟨xs, hq, hx⟩ := hg
    obtain ⟨its, rv, p, hz⟩ := I.tuple hq
    obtain ⟨⟨Z, P1, a1, b1, P2⟩, J1, J2⟩ := st
    have hl := rv.length
    refine pyNextZ_end (I.ok.hd hc) D Z P1 J1 (show s.heap.IsTuple a its.toArray from p) (by simp; lia) fun g eb => ⟨rfl, I.turnedL (t' := s.toks) (fp := [zp, tO, ia, ib, tI]) (fun c o hb e => eb c o (fun z => hb (by simp [z])) (fun z => hb (by simp [z])) e) hf⟩
  self := fun ψ ψ ψ ψ ψ st h => wpAny_pyIter_zip st.1.1 h
noncomputable def iZip (K : PySem.W.Frag) (ta : TA) : TI := fun σ H R => ta σ H fun vs H1 => ∃ a b, vs = [.ref a, .ref b] ∧ (∃ xs, SqT K H1 a xs) ∧ (∃ ys, SqL K H1 b ys) ∧ R (Itz K a b) H1
theorem boot_zip : bootBuiltins "zip" = some (.type "zip") := by decide +kernel
section
variable {X : Cx}
theorem pi_zip {a b : Expr} {ta : TA} {p pos tp : Pos} {es : List Expr} {x1 : Nat} (hg : Gl X "zip") (hm : X.mg "zip" = none) (ha : PA X [a, b] ta) (hs : starEach [a, b] X.env = [(false, eval a X.env), (false, eval b X.env)] := by rfl) (hs2 : starEach [b] X.env = [(false, eval b X.env)] := by rfl) :
    PI X (.Tuple es x1 tp) (.Call (.Name "zip" p) [a, b] [] pos) (iZip X.K ta) := by
  intro pins s σ H R I h
  refine Call_ (ld_blt I hg hm boot_zip (PyProof.Rows.callWith_type1 (thn (ha pos pins s σ H _ I h) fun us s1 ⟨vs, H1, I1, r1, q1⟩ => ?_) (by rw [hs, hs2]) (by rw [hs2]; rfl)))
  obtain ⟨t, l, e, ⟨xs, hq⟩, ⟨ys, hr⟩, q⟩ := q1
  subst e
  cases r1 with
  | cons r rr =>
    cases rr with
    | cons r' rr =>
      cases rr
      cases r
      cases r'
      obtain ⟨its, rv, pt, hz⟩ := I1.tuple hq
      obtain ⟨jts, rw', pl, hz2⟩ := I1.list hr
      refine callZ (show s1.heap.IsTuple t its.toArray from pt) pl.isList fun g Z P1 P2 J1 J2 k => wpAny_pyIter_zip (s := { s1 with heap := g }) Z ?_
      have lt1 : t < s1.heap.objs.size := by obtain ⟨o, e, _⟩ := pt; exact Heap.lt_size e
      have lt2 : l < s1.heap.objs.size := by obtain ⟨o, e, _⟩ := pl.isList; exact Heap.lt_size e
      refine ⟨s1.heap.objs.size + 4, [s1.heap.objs.size + 4, s1.heap.objs.size + 3, s1.heap.objs.size, s1.heap.objs.size + 1, s1.heap.objs.size + 2], _, _, H1, rfl, I1.kept (t' := s1.toks) fun b o e => k b o e,
        turn_zip t l _ (s1.heap.objs.size + 2) _ _ _ ?_, ⟨⟨Z, P1, _, _, P2⟩, J1, J2⟩, fun c hb => ?_, q⟩
      · constructor <;> first | lia | (simp only [Addr] at *; lia)
      · have le : s1.heap.objs.size ≤ c := by
          simp only [List.mem_cons, List.not_mem_nil, or_false] at hb
          rcases hb with rfl | rfl | rfl | rfl | rfl <;> first | exact Nat.le_refl _ | exact Nat.le_add_right _ _
        exact I1.fpOk le (I1.hok.fresh le)
end
section
variable {K : PySem.W.Frag} {ta : TA} {k : Nat} {js : List Nat} {g : TG} {tc : TT} {te : TE} {σ : St} {H : Hp} {Q : VK}
end
theorem addT0 (t b : Addr) (xs ys : Array Value) (n n2 : Nat) (dd dd2 : Option Addr) (sl sl2 : Array (Option Value)) (h0 : xs.isEmpty = true) :
    Meets (Builtin.«tuple.__add__» ⟨[.ref t, .ref b], []⟩) (fun ψ R s => s.heap.get? t = some ⟨.type "tuple", dd, .seq xs n, sl⟩ ∧ s.heap.get? b = some ⟨.type "tuple", dd2, .seq ys n2, sl2⟩ ∧ R (.ok (.ret (.ref b))) s) :=
  .of_wp fun prog w A R s h => by
    obtain ⟨g0, gn, dr, tk, os⟩ := s; obtain ⟨e1, e2, h⟩ := h; have sb := AutoSeq1.sub_tuple_tuple
    wp_walk using AutoSeq1.wpAny_loadPart' e1, AutoSeq1.wpAny_loadPart' e2; exact ⟨_, rfl, h⟩
section
variable {X : Cx} {K : PySem.W.Frag} {H : Hp} {Q : VK}
theorem noFill_tuple_mul : fillsNumberSlot (.type "tuple") "mul" = pure false := PySem.fillsNumberSlot_seq (id := "tuple.__mul__") (r := some (.builtin "tuple.__rmul__")) F.slot_tuple_mul.lookup (by decide +kernel) F.slot_tuple_rmul.lookup (by decide +kernel)
theorem repeat_tuple : seqRepeat? (.type "tuple") = pure (some (.builtin "tuple.__mul__")) := by
  unfold seqRepeat?; rw [PySem.seqSlot_of (T := "tuple") (name := "__mul__") (id := "tuple.__mul__") F.slot_tuple_mul.lookup (by decide +kernel), PySem.seqSlot_of (T := "tuple") (name := "__rmul__") (id := "tuple.__rmul__") F.slot_tuple_rmul.lookup (by decide +kernel)]; rfl
theorem rmulT (k : Int) (t : Tok) (l : Addr) (xs : Array Value) (n : Nat) (dd : Option Addr) (sl : Array (Option Value)) :
    Meets (Builtin.«int.__rmul__» ⟨[.int k t, .ref l], []⟩) (fun ψ R s => s.heap.get? l = some ⟨.type "tuple", dd, .seq xs n, sl⟩ ∧ R (.ok (.ret Value.notImplemented)) s) :=
  .of_wp fun prog w A R s h => by obtain ⟨g0, gn, dr, tk, os⟩ := s; obtain ⟨e1, h⟩ := h; wp_walk using AutoSeq1.wpAny_loadPart' e1; exact ⟨_, rfl, h⟩
theorem mulT1 (k : Int) (t : Tok) (l : Addr) (x : Value) (n : Nat) (dd : Option Addr) (sl : Array (Option Value)) (hk : k = 1) :
    Meets (Builtin.«tuple.__mul__» ⟨[.ref l, .int k t], []⟩) (fun ψ R s => s.heap.get? l = some ⟨.type "tuple", dd, .seq #[x] n, sl⟩ ∧ R (.ok (.ret (.ref l))) s) :=
  .of_wp fun prog w A R s h => by subst hk; obtain ⟨g0, gn, dr, tk, os⟩ := s; obtain ⟨e1, h⟩ := h; wp_walk using AutoSeq1.wpAny_loadPart' e1; exact ⟨_, rfl, h⟩
theorem mulT0 (k : Int) (t : Tok) (l : Addr) (x : Value) (n : Nat) (dd : Option Addr) (sl : Array (Option Value)) (c1 : (decide (k < -2 ^ 63) || decide (k ≥ 2 ^ 63)) = false) (c2 : ((#[x] : Array Value).isEmpty || k == 1) = false) (c3 : (decide (k ≤ 0) || (#[x] : Array Value).isEmpty) = true) :
    Meets (Builtin.«tuple.__mul__» ⟨[.ref l, .int k t], []⟩) (fun ψ R s => s.heap.get? l = some ⟨.type "tuple", dd, .seq #[x] n, sl⟩ ∧ R (.ok (.ret (.ref s.heap.objs.size))) { s with heap := s.heap.push { cls := .type "tuple", data := .seq #[] } }) :=
  .of_wp fun prog w A R s h => by
    obtain ⟨g0, gn, dr, tk, os⟩ := s; obtain ⟨e1, h⟩ := h; have f1 := AutoSeq1.idx_int; have sb := AutoSeq1.sub_tuple_tuple
    wp_walk using AutoSeq1.wpAny_loadPart' e1
    refine wpAny_ite_false (by rw [c1]; rfl) ?_
    wp_walk using AutoSeq1.wpAny_loadPart' e1
    refine wpAny_ite_false (by rw [c2]; rfl) ?_
    wp_walk using AutoSeq1.wpAny_loadPart' e1
    refine wpAny_ite_true (by rw [c3]; rfl) ?_
    wp_walk using AutoSeq1.wpAny_loadPart' e1
    exact ⟨_, rfl, h⟩
theorem mulT2 (k : Int) (t : Tok) (l : Addr) (x : Value) (n : Nat) (dd : Option Addr) (sl : Array (Option Value)) (c1 : (decide (k < -2 ^ 63) || decide (k ≥ 2 ^ 63)) = false) (c2 : ((#[x] : Array Value).isEmpty || k == 1) = false) (c3 : (decide (k ≤ 0) || (#[x] : Array Value).isEmpty) = false)
    (c4 : ¬ (((#[x] : Array Value).size : Int) * k > (2 ^ 63 - 1) / 8)) (c5 : Builtin.Tuple.tupleTooMany (((#[x] : Array Value).size : Int) * k) = false) (c6 : ((List.replicate k.toNat (#[x] : Array Value)).foldl (· ++ ·) #[]).size ≤ sizeLine) :
    Meets (Builtin.«tuple.__mul__» ⟨[.ref l, .int k t], []⟩) (fun ψ R s => s.heap.get? l = some ⟨.type "tuple", dd, .seq #[x] n, sl⟩ ∧ R (.ok (.ret (.ref s.heap.objs.size))) { s with heap := s.heap.push { cls := .type "tuple", data := .seq ((List.replicate k.toNat (#[x] : Array Value)).foldl (· ++ ·) #[]) } }) :=
  .of_wp fun prog w A R s h => by
    obtain ⟨g0, gn, dr, tk, os⟩ := s; obtain ⟨e1, h⟩ := h; have f1 := AutoSeq1.idx_int; have sb := AutoSeq1.sub_tuple_tuple
    wp_walk using AutoSeq1.wpAny_loadPart' e1
    refine wpAny_ite_false (by rw [c1]; rfl) ?_
    wp_walk using AutoSeq1.wpAny_loadPart' e1
    refine wpAny_ite_false (by rw [c2]; rfl) ?_
    wp_walk using AutoSeq1.wpAny_loadPart' e1
    refine wpAny_ite_false (by rw [c3]; rfl) ?_
    wp_walk using AutoSeq1.wpAny_loadPart' e1
    refine wpAny_ite_false (decide_eq_false c4) ?_
    wp_walk using AutoSeq1.wpAny_loadPart' e1
    first
      | (refine wpAny_ite_false (by rw [c5]; rfl) ?_; wp_walk using AutoSeq1.wpAny_loadPart' e1; exact ⟨_, rfl, h⟩)
      | exact ⟨_, rfl, h⟩
theorem fold_one (u : Value) : ∀ (m : Nat) (acc : Array Value), (List.replicate m (#[u] : Array Value)).foldl (fun x1 x2 => x1 ++ x2) acc = acc ++ (List.replicate m u).toArray
  | 0, acc => by simp
  | m + 1, acc => by rw [List.replicate_succ, List.foldl_cons, fold_one u m]; apply Array.ext'; simp [List.replicate_succ]
theorem vals_rep {v : V} {u : Value} (r : RelV v u) : ∀ m : Nat, Vals (List.replicate m v) (List.replicate m u)
  | 0 => .nil
  | m + 1 => .cons r (vals_rep r m)
theorem getT_whole {prog : Program} {w : World} {A : Around} {E : L2.VSP} {s : Shared} {t sl : Addr} {items : Array Value} {vl vu : Value} {lo hi : Option Int} {Q : L2.VSP} (ht : IsTup s.heap t items) (hs : s.heap.IsSliceOf sl vl vu .none) (pl : IsPart vl lo) (pu : IsPart vu hi)
    (hw : HT.sIx items.size 0 lo = 0 ∧ HT.sIx items.size items.size hi = items.size) (h : Q (.ref t) s) : wpAny (model prog w) A (getItem (.ref t) (.ref sl)) Q E s := by
  obtain ⟨os, hos, hcs, hds⟩ := id hs; have ts : s.TypeIs (.ref sl) "slice" := ⟨os, hos, hcs⟩
  unfold getItem; (try with_reducible refine wpAny_holding ?_); (first | refine wpAny_bind (wpAny_pure ?_) | skip); refine wpAny_bind (wpAny_sequenceKey ht.typeIs (by decide) ?_)
  refine wpAny_bind (wpAny_callSpecial?_slot (name := Str.ofString "__getitem__") ht.typeIs PyProof.Rows.slot_tuple_getitem (wpAny_call_entry PyProof.Rows.slot_tuple_getitem ht.typeIs entry_tuple_getitem ?_ (args_tuple_getitem _ _)))
  show wpAny _ _ (Builtin.Tuple.tupleItemsOf (.ref t) >>= _) _ _ s; refine wpAny_bind (tupleItemsOf_ ht ?_); refine wpAny_bind (wpAny_typeOf ts ?_); rw [if_pos (by decide)]
  refine wpAny_bind (HT.sliceApplied_gen hs pl pu ?_)
  show wpAny _ _ (if (((HT.sIx items.size 0 lo : Nat) : Int) == 0 && (1 : Int) == 1 && (HT.sIx items.size items.size hi - HT.sIx items.size 0 lo) == items.size) = true then _ else _) _ _ s
  rw [if_pos (by rw [hw.1, hw.2]; simp)]
  unfold Builtin.Tuple.tupleIsExact
  refine wpAny_bind (wpAny_bind (wpAny_typeOf ht.typeIs (wpAny_pure ?_)))
  rw [if_pos (by decide)]
  refine wpAny_bind (wpAny_rule ?_)
  first
    | exact wpAny_pure ⟨_, rfl, wpAny_pure h⟩
    | exact wpAny_bind (wpAny_pure (wpAny_pure ⟨_, rfl, wpAny_pure h⟩))
noncomputable def rSlW (K : PySem.W.Frag) : V → Option Int → Option Int → Hp → VK → Prop := fun x lo hi H Q => ∃ a xs, x = .ref a ∧ SqT K H a xs ∧ (HT.sIx xs.length 0 lo = 0 ∧ HT.sIx xs.length xs.length hi = xs.length) ∧ Q (.ref a) H
theorem sl_wholeT : SlR X (rSlW X.K) := by
  intro pins s σ H x v vl vu lo hi sl Q I rx hs pl pu h
  obtain ⟨a, xs, rfl, hx, hw, q⟩ := h
  cases rx
  obtain ⟨its, r, ht, hz⟩ := I.tuple hx
  have hlen : its.toArray.size = xs.length := by rw [List.size_toArray]; exact r.length.symm
  exact ⟨"tuple", _, PyProof.Rows.slot_tuple_getitem.lookup, ht.typeIs, getT_whole ht hs pl pu (by rw [hlen]; exact hw) ⟨.ref a, H, I, rfl, q⟩⟩
end
section
variable {K : PySem.W.Frag} {tl : TE} {k : Nat} {js : List Nat} {g : TG} {tc : TT} {te : TE} {σ : St} {H : Hp} {Q : VK}
end
theorem pg_tupK {X : Cx} {K : PySem.W.Frag} {es : List Expr} {k : Nat} {t : TGs} {n : Nat} {pos : Pos} (hK : X.K = K) (hc : X.calm = true) (h : PGs X es t) (hn : (assignEach es X.env).length = n := by rfl) (hst : (assignEach es X.env).findIdx? (·.1) = none := by rfl) : PG X (.Tuple es k pos) (gTup K n t) :=
  hK ▸ pg_tup hc h hn hst
section
variable {X : Cx} {K : PySem.W.Frag}
variable {D : Ends} {σ : St} {H : Hp} {i j : Nat} {te : TE}
end
section
variable {prog : Program} {w : World} {A : Around} {E : L2.VSP} {s : Shared}
theorem slApp_back {sl : Addr} {vs : Value} {n : Nat} {Q : Int × Int × Nat → Shared → Prop} (hs : s.heap.IsSliceOf sl .none .none vs) (ps : IsPart vs (some (-1))) (h : Q ((n : Int) - 1, -1, n) s) : wpAny (model prog w) A (Builtin.Slice.sliceApplied (.ref sl) (pure (n : Int))) Q E s := by
  obtain ⟨os, go, cs, ds⟩ := id hs
  unfold Builtin.Slice.sliceApplied Builtin.Slice.sliceFields
  refine wpAny_bind (wpAny_bind (wpAny_field go ds (x := .none) rfl (wpAny_bind (wpAny_field go ds (x := .none) rfl (wpAny_bind (wpAny_field go ds (x := vs) rfl (wpAny_pure ?_)))))))
  refine wpAny_bind (HT.slicePart_ ps ?_)
  show wpAny _ _ (if ((-1 : Int) == 0) = true then _ else _) _ _ s; rw [if_neg (by decide)]
  refine wpAny_bind (HT.slicePart_ .none (wpAny_bind (HT.slicePart_ .none (wpAny_bind (wpAny_pure ?_)))))
  show wpAny _ _ (pure ((n : Int) - 1, (-1 : Int), Builtin.Slice.slicePlaces ((n : Int) - 1) (-1) (-1))) _ _ s
  have e : Builtin.Slice.slicePlaces ((n : Int) - 1) (-1) (-1) = n := by
    unfold Builtin.Slice.slicePlaces
    rw [if_neg (by decide)]
    by_cases z : ((n : Int) - 1) > -1
    · rw [if_pos z]; simp
    · rw [if_neg z]; omega
  rw [e]; exact wpAny_pure h
theorem pick_backT (xs : List Value) : ((List.range xs.length).filterMap fun (m : Nat) => xs.toArray[(((xs.length : Int) - 1) + (m : Int) * -1).toNat]?).toArray = xs.reverse.toArray := by
  congr 1
  have e3 : (List.range xs.length).filterMap (fun (m : Nat) => xs.toArray[(((xs.length : Int) - 1) + (m : Int) * -1).toNat]?) = (List.range xs.length).map fun k => (xs[xs.length - 1 - k]?).getD default := by
    refine fm_some fun k hk => ?_
    have := List.mem_range.mp hk
    have lt : xs.length - 1 - k < xs.length := by omega
    rw [show (((xs.length : Int) - 1) + (k : Int) * -1).toNat = xs.length - 1 - k by omega]
    simp [lt]
  rw [e3]
  refine List.ext_getElem? fun i => ?_
  by_cases hi : i < xs.length
  · rw [List.getElem?_map, List.getElem?_range hi, List.getElem?_reverse hi]
    have lt : xs.length - 1 - i < xs.length := by omega
    simp [lt]
  · rw [List.getElem?_eq_none (by simp; omega), List.getElem?_eq_none (by simp; omega)]
theorem getT_back {t sl : Addr} {xs : List Value} {vs : Value} {Q : L2.VSP} (ht : IsTup s.heap t xs.toArray) (hs : s.heap.IsSliceOf sl .none .none vs) (ps : IsPart vs (some (-1))) (hz : xs.length ≤ sizeLine)
    (h : Q (.ref s.heap.objs.size) { s with heap := s.heap.push { cls := .type "tuple", data := .seq xs.reverse.toArray } }) : wpAny (model prog w) A (getItem (.ref t) (.ref sl)) Q E s := by
  obtain ⟨os, hos, hcs, hds⟩ := id hs; have ts : s.TypeIs (.ref sl) "slice" := ⟨os, hos, hcs⟩
  have fits : sizeOk (.seq xs.reverse.toArray) := by show xs.reverse.toArray.size ≤ sizeLine; simpa using hz
  unfold getItem; (try with_reducible refine wpAny_holding ?_); (first | refine wpAny_bind (wpAny_pure ?_) | skip); refine wpAny_bind (wpAny_sequenceKey ht.typeIs (by decide) ?_)
  refine wpAny_bind (wpAny_callSpecial?_slot (name := Str.ofString "__getitem__") ht.typeIs PyProof.Rows.slot_tuple_getitem (wpAny_call_entry PyProof.Rows.slot_tuple_getitem ht.typeIs entry_tuple_getitem ?_ (args_tuple_getitem _ _)))
  show wpAny _ _ (Builtin.Tuple.tupleItemsOf (.ref t) >>= _) _ _ s; refine wpAny_bind (tupleItemsOf_ ht ?_); refine wpAny_bind (wpAny_typeOf ts ?_); rw [if_pos (by decide)]
  refine wpAny_bind (slApp_back hs ps ?_)
  have no : ¬ ((((xs.toArray.size : Int) - 1) == 0 && (-1 : Int) == 1 && xs.toArray.size == xs.toArray.size) = true) := by simp
  show wpAny _ _ (if ((((xs.toArray.size : Int) - 1) == 0 && (-1 : Int) == 1 && xs.toArray.size == xs.toArray.size)) = true then _ else _) _ _ s
  rw [if_neg no]
  have e := pick_backT xs
  rw [← List.size_toArray (as := xs)] at e
  rw [e]
  first
    | exact wpAny_bind (m := Builtin.Tuple.tupleExact _) (wpAny_newObj_type (wpAny_pure ⟨_, rfl, wpAny_pure h⟩) fits)
    | exact wpAny_bind (wpAny_bind (m := Builtin.Tuple.tupleExact _) (wpAny_newObj_type (wpAny_pure (wpAny_pure ⟨_, rfl, wpAny_pure h⟩)) fits))
    | exact wpAny_bind (wpAny_bind (m := Builtin.Tuple.tupleExact _) (wpAny_newObj_type (wpAny_pure ⟨_, rfl, wpAny_pure h⟩) fits))
end
section
variable {X : Cx} {e se : Expr} {te : TE} {ts : TO} {p2 pos : Pos} {K : PySem.W.Frag} {σ : St} {H : Hp} {Q : VK}
noncomputable def rRevT (K : PySem.W.Frag) : V → Option Int → Hp → VK → Prop := fun x st H Q => ∃ a xs, x = .ref a ∧ st = some (-1) ∧ SqT K H a xs ∧ ∀ p, H p = none → Q (.ref p) (upd H p (.tup xs.reverse))
end
section
variable {X : Cx} {K : PySem.W.Frag} {H : Hp} {Q : VK}
end
theorem call_tupK {X : Cx} {K : PySem.W.Frag} (h : X.K = K) : CallR X (.type "tuple") (rTupOf K) := h ▸ call_tupA
inductive U where
  | non | bl (b : Bool) | int (i : Int) | str (x : Str) | ty (n : String) | nm (x : Str) | exc (c : Str) (pl : Option Int) | pile
  | tup (xs : List U) | lst (xs : List U) | scr (ns : List Int) | dic (ks vs : List U)
structure Om where
  cs : List Int
  rs : List Int
structure Wd where
  K : PySem.W.Frag
  mg : Str → Option Value
  pa : Addr
  L : List Addr
  pl : Om → Hp → Prop
  st : ∀ ω H H', pl ω H → (∀ b o, H b = some o → (b ∈ L ∨ ∃ x y, o = .frz x y) → H' b = some o) → pl ω H'
noncomputable def kU : Key → U
  | .inl i => .int i
  | .inr x => .str x
noncomputable def excD (e C d : Addr) : HO := .ext fun h => ∃ o, h.get? e = some o ∧ o.cls = .ref C ∧ o.dict = some d ∧ PySem.W.notCls o = true
mutual
noncomputable def RU (W : Wd) (H : Hp) : U → V → Prop
  | .non, v => v = .non
  | .bl b, v => v = .bl b
  | .int i, v => v = .int i
  | .str x, v => v = .str x
  | .ty n, v => v = .ty n
  | .nm x, v => ∃ a, v = .ref a ∧ W.mg x = some (.ref a)
  | .exc c none, v => ∃ a C, v = .ref a ∧ W.mg c = some (.ref C) ∧ H a = some (excO a C)
  | .exc c (some n), v => ∃ a C d, v = .ref a ∧ W.mg c = some (.ref C) ∧ H a = some (excD a C d) ∧ H d = some (.xd [("place", .int n)])
  | .pile, v => v = .ref W.pa
  | .tup xs, v => ∃ a vs, v = .ref a ∧ H a = some (.tup vs) ∧ RUs W H xs vs
  | .lst xs, v => ∃ a vs, v = .ref a ∧ H a = some (.lst vs) ∧ RUs W H xs vs
  | .scr ns, v => ∃ a, v = .ref a ∧ SqL W.K H a (ns.map V.int)
  | .dic ks vs, v => ∃ a kvs, v = .ref a ∧ H a = some (.dK kvs) ∧ ks = kvs.map (fun p => kU p.1) ∧ RUs W H vs (kvs.map (·.2))
noncomputable def RUs (W : Wd) (H : Hp) : List U → List V → Prop
  | [], vs => vs = []
  | u :: us, vs => ∃ v r, vs = v :: r ∧ RU W H u v ∧ RUs W H us r
end
mutual
theorem RU.mono {W : Wd} {H H' : Hp} (s : Same H H') : ∀ {u : U} {v : V}, RU W H u v → RU W H' u v
  | .non, _, h => by rw [RU] at h ⊢; exact h
  | .bl _, _, h => by rw [RU] at h ⊢; exact h
  | .int _, _, h => by rw [RU] at h ⊢; exact h
  | .str _, _, h => by rw [RU] at h ⊢; exact h
  | .ty _, _, h => by rw [RU] at h ⊢; exact h
  | .nm _, _, h => by rw [RU] at h ⊢; exact h
  | .exc _ none, _, h => by rw [RU] at h ⊢; obtain ⟨a, C, e, m, q⟩ := h; exact ⟨a, C, e, m, s _ _ q⟩
  | .exc _ (some _), _, h => by rw [RU] at h ⊢; obtain ⟨a, C, d, e, m, q, r⟩ := h; exact ⟨a, C, d, e, m, s _ _ q, s _ _ r⟩
  | .pile, _, h => by rw [RU] at h ⊢; exact h
  | .tup xs, _, h => by rw [RU] at h ⊢; obtain ⟨a, vs, e, q, r⟩ := h; exact ⟨a, vs, e, s _ _ q, RUs.mono s r⟩
  | .lst xs, _, h => by rw [RU] at h ⊢; obtain ⟨a, vs, e, q, r⟩ := h; exact ⟨a, vs, e, s _ _ q, RUs.mono s r⟩
  | .scr ns, _, h => by rw [RU] at h ⊢; obtain ⟨a, e, q⟩ := h; exact ⟨a, e, s.seq q⟩
  | .dic ks vs, _, h => by rw [RU] at h ⊢; obtain ⟨a, kvs, e, q, z, r⟩ := h; exact ⟨a, kvs, e, s _ _ q, z, RUs.mono s r⟩
theorem RUs.mono {W : Wd} {H H' : Hp} (s : Same H H') : ∀ {us : List U} {vs : List V}, RUs W H us vs → RUs W H' us vs
  | [], _, h => by rw [RUs] at h ⊢; exact h
  | u :: us, _, h => by rw [RUs] at h ⊢; obtain ⟨v, r, e, q, z⟩ := h; exact ⟨v, r, e, RU.mono s q, RUs.mono s z⟩
end
section
variable {W : Wd} {H : Hp}
theorem RUs.nil : RUs W H [] [] := by rw [RUs]
theorem RUs.cons {u : U} {us : List U} {v : V} {vs : List V} (h : RU W H u v) (t : RUs W H us vs) : RUs W H (u :: us) (v :: vs) := by rw [RUs]; exact ⟨v, vs, rfl, h, t⟩
theorem RUs.len : ∀ {us : List U} {vs : List V}, RUs W H us vs → us.length = vs.length
  | [], _, h => by rw [RUs] at h; subst h; rfl
  | _ :: us, _, h => by rw [RUs] at h; obtain ⟨v, r, e, _, z⟩ := h; subst e; simp [z.len]
theorem RUs.at {i : Nat} : ∀ {us : List U} {vs : List V} {u : U} {i : Nat}, RUs W H us vs → us[i]? = some u → ∃ v, vs[i]? = some v ∧ RU W H u v
  | [], _, _, _, _, e => by simp at e
  | _ :: us, _, u, 0, h, e => by rw [RUs] at h; obtain ⟨v, r, e', q, z⟩ := h; subst e'; simp at e; subst e; exact ⟨v, rfl, q⟩
  | _ :: us, _, u, i + 1, h, e => by rw [RUs] at h; obtain ⟨v, r, e', q, z⟩ := h; subst e'; obtain ⟨w, g, k⟩ := RUs.at (i := 0) z (show us[i]? = some u by simpa using e); exact ⟨w, by simpa using g, k⟩
theorem RUs.app : ∀ {us ws : List U} {vs xs : List V}, RUs W H us vs → RUs W H ws xs → RUs W H (us ++ ws) (vs ++ xs)
  | [], _, _, _, h, t => by rw [RUs] at h; subst h; exact t
  | _ :: us, _, _, _, h, t => by rw [RUs] at h; obtain ⟨v, r, e, q, z⟩ := h; subst e; exact .cons q (z.app t)
theorem RUs.one {u : U} {v : V} (h : RU W H u v) : RUs W H [u] [v] := .cons h .nil
theorem RUs.drop : ∀ {us : List U} {vs : List V} (n : Nat), RUs W H us vs → RUs W H (us.drop n) (vs.drop n)
  | _, _, 0, h => h
  | [], _, _ + 1, h => by rw [RUs] at h; subst h; exact .nil
  | _ :: us, _, n + 1, h => by rw [RUs] at h; obtain ⟨v, r, e, q, z⟩ := h; subst e; exact z.drop n
theorem RUs.take : ∀ {us : List U} {vs : List V} (n : Nat), RUs W H us vs → RUs W H (us.take n) (vs.take n)
  | _, _, 0, h => .nil
  | [], _, _ + 1, h => by rw [RUs] at h; subst h; exact .nil
  | _ :: us, _, n + 1, h => by rw [RUs] at h; obtain ⟨v, r, e, q, z⟩ := h; subst e; exact .cons q (z.take n)
theorem RUs.rev : ∀ {us : List U} {vs : List V}, RUs W H us vs → RUs W H us.reverse vs.reverse
  | [], _, h => by rw [RUs] at h; subst h; exact .nil
  | _ :: us, _, h => by rw [RUs] at h; obtain ⟨v, r, e, q, z⟩ := h; subst e; rw [List.reverse_cons, List.reverse_cons]; exact z.rev.app (.one q)
theorem RUs.set : ∀ {us : List U} {vs : List V} {u : U} {v : V} (n : Nat), RUs W H us vs → RU W H u v → RUs W H (us.set n u) (vs.set n v)
  | [], _, _, _, _, h, _ => by rw [RUs] at h; subst h; exact .nil
  | _ :: us, _, _, _, 0, h, k => by rw [RUs] at h; obtain ⟨v, r, e, q, z⟩ := h; subst e; exact .cons k z
  | _ :: us, _, _, _, n + 1, h, k => by rw [RUs] at h; obtain ⟨v, r, e, q, z⟩ := h; subst e; exact .cons q (z.set n k)
theorem RUs.rep {u : U} {v : V} (h : RU W H u v) : ∀ n : Nat, RUs W H (List.replicate n u) (List.replicate n v)
  | 0 => .nil
  | n + 1 => .cons h (RUs.rep h n)
theorem RUs.ints : ∀ {ns : List Int} {vs : List V}, RUs W H (ns.map U.int) vs → vs = ns.map V.int
  | [], _, h => by rw [List.map_nil, RUs] at h; exact h
  | _ :: ns, _, h => by rw [List.map_cons, RUs] at h; obtain ⟨v, r, e, q, z⟩ := h; rw [RU] at q; rw [e, q, z.ints]; rfl
theorem RUs.ofInts : ∀ {ns : List Int}, RUs W H (ns.map U.int) (ns.map V.int)
  | [] => .nil
  | _ :: ns => .cons (by rw [RU]) .ofInts
end
inductive Res (α : Type) where
  | ok (a : α) (ω : Om) | err (c : Str) (pl : Option Int) (ω : Om) | stk
noncomputable def Res.bnd {α β : Type} (r : Res α) (k : α → Om → Res β) : Res β := match r with
  | .ok a ω => k a ω
  | .err c p ω => .err c p ω
  | .stk => .stk
@[simp] theorem Res.bnd_ok {α β : Type} {a : α} {ω : Om} {k : α → Om → Res β} : (Res.ok a ω).bnd k = k a ω := rfl
@[simp] theorem Res.bnd_err {α β : Type} {c : Str} {p : Option Int} {ω : Om} {k : α → Om → Res β} : (Res.err c p ω : Res α).bnd k = .err c p ω := rfl
@[simp] theorem Res.bnd_stk {α β : Type} {k : α → Om → Res β} : (Res.stk : Res α).bnd k = .stk := rfl
noncomputable def Res.of {α : Type} (o : Option α) (ω : Om) : Res α := match o with
  | some a => .ok a ω
  | none => .stk
@[simp] theorem Res.of_some {α : Type} {a : α} {ω : Om} : Res.of (some a) ω = .ok a ω := rfl
@[simp] theorem Res.of_none {α : Type} {ω : Om} : (Res.of (none : Option α) ω) = .stk := rfl
noncomputable abbrev En := List (Option U)
inductive Fl where
  | nx (ρ : En) (ω : Om) | rt (u : U) (ω : Om) | bk (ρ : En) (ω : Om) | ct (ρ : En) (ω : Om) | err (c : Str) (pl : Option Int) (ω : Om) | stk
structure Md where
  B : List Nat
  M : List Nat
structure Ext (W : Wd) (Hc H Hc' H' : Hp) : Prop where
  same : ∀ b o, b ∉ W.L → H b = some o → H' b = some o
  sc : Same Hc Hc'
  sub : Same Hc' H'
  new : ∀ b, Hc b = none → H b ≠ none → Hc' b = none
  frz : ∀ b, H b ≠ none → H' b ≠ none
theorem Ext.refl {W : Wd} {Hc H : Hp} (s : Same Hc H) : Ext W Hc H Hc H := ⟨fun ψ ψ ψ h => h, fun ψ ψ h => h, s, fun ψ h ψ => h, fun ψ h => h⟩
theorem Ext.trans {W : Wd} {Hc H Hc1 H1 Hc2 H2 : Hp} (a : Ext W Hc H Hc1 H1) (b : Ext W Hc1 H1 Hc2 H2) : Ext W Hc H Hc2 H2 :=
  ⟨fun c o n h => b.same c o n (a.same c o n h), fun c o h => b.sc c o (a.sc c o h), b.sub, fun c h k => b.new c (a.new c h k) (a.frz c k), fun c h => b.frz c (a.frz c h)⟩
structure PlOk (W : Wd) (ω : Om) (Hc H : Hp) : Prop where
  pl : W.pl ω H
  out : ∀ b ∈ W.L, Hc b = none ∧ H b ≠ none
noncomputable def XR (Hc : Hp) (pl : Option Int) (od : Option Addr) : Prop := match pl with
  | none => od = none
  | some n => ∃ d, od = some d ∧ Hc d = some (.xd [("place", .int n)])
noncomputable def Aft {α : Type} (W : Wd) (E : XK) (Hc H : Hp) (r : Res α) (k : α → Om → Hp → Hp → Prop) : Prop := match r with
  | .ok a ω => ∀ Hc' H', Ext W Hc H Hc' H' → PlOk W ω Hc' H' → k a ω Hc' H'
  | .err c pl ω => ∀ C od Hc' H', Ext W Hc H Hc' H' → PlOk W ω Hc' H' → W.mg c = some (.ref C) → XR Hc' pl od → E (.ref C) od H'
  | .stk => False
theorem Aft.ext {α : Type} {W : Wd} {E : XK} {Hc H Hc1 H1 : Hp} {r : Res α} {k : α → Om → Hp → Hp → Prop} (e : Ext W Hc H Hc1 H1) (h : Aft W E Hc H r k) : Aft W E Hc1 H1 r k := by
  cases r with
  | ok a ω => exact fun Hc' H' e' p => h Hc' H' (e.trans e') p
  | err c pl ω => exact fun C od Hc' H' e' p => h C od Hc' H' (e.trans e') p
  | stk => exact h
theorem Aft.imp {α : Type} {W : Wd} {E : XK} {Hc H : Hp} {r : Res α} {k k' : α → Om → Hp → Hp → Prop} (h : Aft W E Hc H r k) (i : ∀ a ω Hc' H', Ext W Hc H Hc' H' → PlOk W ω Hc' H' → k a ω Hc' H' → k' a ω Hc' H') : Aft W E Hc H r k' := by
  cases r with
  | ok a ω => exact fun Hc' H' e p => i a ω Hc' H' e p (h Hc' H' e p)
  | err c pl ω => exact h
  | stk => exact h
theorem Aft.bnd {α β : Type} {W : Wd} {E : XK} {Hc H : Hp} {r : Res α} {g : α → Om → Res β} {k : β → Om → Hp → Hp → Prop} (h : Aft W E Hc H (r.bnd g) k) : Aft W E Hc H r fun a ω Hc' H' => Aft W E Hc' H' (g a ω) k := by
  cases r with
  | ok a ω => exact fun Hc' H' e p => Aft.ext e h
  | err c pl ω => exact h
  | stk => exact h
noncomputable def RB (W : Wd) (Hc H : Hp) (u : U) (v : V) : Prop := RU W Hc u v ∨ ∃ us a vs, u = .lst us ∧ v = .ref a ∧ a ∉ W.L ∧ H a = some (.lst vs) ∧ RUs W Hc us vs
theorem RB.ext {W : Wd} {Hc H Hc' H' : Hp} {u : U} {v : V} (h : RB W Hc H u v) (e : Ext W Hc H Hc' H') : RB W Hc' H' u v := by
  rcases h with h | ⟨us, a, vs, e1, e2, n, q, r⟩
  · exact .inl (h.mono e.sc)
  · exact .inr ⟨us, a, vs, e1, e2, n, e.same _ _ n q, r.mono e.sc⟩
structure Sr (W : Wd) (m : Md) (ρ : En) (ω : Om) (σ : St) (H0 Hc H : Hp) (ow : Nat → Addr) : Prop where
  sub : Same Hc H
  s0 : ∀ b o, b ∉ W.L → H0 b = some o → H b = some o
  p0 : ∀ b ∈ W.L, H0 b ≠ none
  len : ρ.length = σ.length
  pl : PlOk W ω Hc H
  cl : ∀ i u, i ∉ m.B → i ∉ m.M → ρ[i]? = some (some u) → ∃ v, σ[i]? = some (some v) ∧ RU W Hc u v
  bo : ∀ i u, i ∈ m.B → i ∉ m.M → ρ[i]? = some (some u) → ∃ v, σ[i]? = some (some v) ∧ (RU W Hc u v ∨ ∃ us a vs, u = .lst us ∧ v = .ref a ∧ a ∉ W.L ∧ H0 a = some (.lst vs) ∧ RUs W Hc us vs)
  mu : ∀ i u, i ∈ m.M → ρ[i]? = some (some u) → ∃ us vs, u = .lst us ∧ σ[i]? = some (some (.ref (ow i))) ∧ H (ow i) = some (.lst vs) ∧ Hc (ow i) = none ∧ H0 (ow i) = none ∧ RUs W Hc us vs
  di : ∀ i j u w, i ∈ m.M → j ∈ m.M → i ≠ j → ρ[i]? = some (some u) → ρ[j]? = some (some w) → ow i ≠ ow j
section
variable {W : Wd} {m : Md} {ρ : En} {ω ω' : Om} {σ : St} {H0 Hc H Hc' H' : Hp} {ow : Nat → Addr}
theorem Sr.nl (S : Sr W m ρ ω σ H0 Hc H ow) {i : Nat} (h : H0 (ow i) = none) : ow i ∉ W.L := fun z => S.p0 _ z h
theorem Sr.ext (S : Sr W m ρ ω σ H0 Hc H ow) (e : Ext W Hc H Hc' H') (p : PlOk W ω' Hc' H') : Sr W m ρ ω' σ H0 Hc' H' ow := by
  refine ⟨e.sub, fun b o n h => e.same b o n (S.s0 b o n h), S.p0, S.len, p, fun i u n1 n2 h => ?_, fun i u n1 n2 h => ?_, fun i u n h => ?_, S.di⟩
  · obtain ⟨v, q, r⟩ := S.cl i u n1 n2 h; exact ⟨v, q, r.mono e.sc⟩
  · obtain ⟨v, q, r⟩ := S.bo i u n1 n2 h
    refine ⟨v, q, ?_⟩
    rcases r with r | ⟨us, a, vs, z1, z2, z3, z4, z5⟩
    · exact .inl (r.mono e.sc)
    · exact .inr ⟨us, a, vs, z1, z2, z3, z4, z5.mono e.sc⟩
  · obtain ⟨us, vs, z1, z2, z3, z4, z5, z6⟩ := S.mu i u n h
    exact ⟨us, vs, z1, z2, e.same _ _ (S.nl z5) z3, e.new _ z4 (by rw [z3]; simp), z5, z6.mono e.sc⟩
theorem Sr.get (S : Sr W m ρ ω σ H0 Hc H ow) {i : Nat} {u : U} (h : ρ[i]? = some (some u)) : ∃ v, σ[i]? = some (some v) ∧ RB W Hc H u v := by
  by_cases n2 : i ∈ m.M
  · obtain ⟨us, vs, z1, z2, z3, z4, z5, z6⟩ := S.mu i u n2 h
    exact ⟨_, z2, .inr ⟨us, _, vs, z1, rfl, S.nl z5, z3, z6⟩⟩
  · by_cases n1 : i ∈ m.B
    · obtain ⟨v, q, r⟩ := S.bo i u n1 n2 h
      refine ⟨v, q, ?_⟩
      rcases r with r | ⟨us, a, vs, z1, z2, z3, z4, z5⟩
      · exact .inl r
      · exact .inr ⟨us, a, vs, z1, z2, z3, S.s0 _ _ z3 z4, z5⟩
    · obtain ⟨v, q, r⟩ := S.cl i u n1 n2 h
      exact ⟨v, q, .inl r⟩
end
theorem Ext.laid {W : Wd} {Hc H : Hp} {p : Addr} {o : HO} (s : Same Hc H) (n : H p = none) : Ext W Hc H (upd Hc p o) (upd H p o) ∧ Ext W Hc H Hc (upd H p o) := by
  have nc : Hc p = none := s.free n
  refine ⟨⟨fun b u ψ h => by rw [upd_ne (ne_of_none h n)]; exact h, fun b u h => by rw [upd_ne (ne_of_none h nc)]; exact h, fun b u h => ?_, fun b h k => ?_, fun b h => ?_⟩, ⟨fun b u ψ h => by rw [upd_ne (ne_of_none h n)]; exact h, fun b u h => h, fun b u h => by rw [upd_ne (ne_of_none h nc)]; exact s b u h, fun b h k => h, fun b h => ?_⟩⟩
  · by_cases e : b = p
    · subst e; rw [upd_same] at h ⊢; exact h
    · rw [upd_ne e] at h ⊢; exact s b u h
  · rw [upd_ne (fun z => k (by rw [z]; exact n))]; exact h
  · by_cases e : b = p
    · subst e; rw [upd_same]; simp
    · rw [upd_ne e]; exact h
  · by_cases e : b = p
    · subst e; rw [upd_same]; simp
    · rw [upd_ne e]; exact h
theorem PlOk.same {W : Wd} {ω : Om} {Hc H Hc' H' : Hp} (P : PlOk W ω Hc H) (e : Ext W Hc H Hc' H') (s : Same H H') : PlOk W ω Hc' H' :=
  ⟨W.st _ _ _ P.pl fun b o h ψ => s b o h, fun b hb => ⟨e.new b (P.out b hb).1 (P.out b hb).2, e.frz b (P.out b hb).2⟩⟩
theorem Same.laid {H : Hp} {p : Addr} {o : HO} (n : H p = none) : Same H (upd H p o) := fun b u h => by rw [upd_ne (ne_of_none h n)]; exact h
noncomputable abbrev Ef := En → Om → Res U
noncomputable abbrev Tf := En → Om → Res Bool
noncomputable abbrev Af := En → Om → Res (List U)
noncomputable abbrev Sf := En → Om → Fl
noncomputable def DE (W : Wd) (m : Md) (E : XK) (t : TE) (f : Ef) : Prop := ∀ H0 ρ ω σ Hc H ow, Sr W m ρ ω σ H0 Hc H ow → ∀ Q : VK, Aft W E Hc H (f ρ ω) (fun u ψ Hc' H' => ∀ v, RU W Hc' u v → Q v H') → t σ H Q
noncomputable def DB (W : Wd) (m : Md) (E : XK) (t : TE) (f : Ef) : Prop := ∀ H0 ρ ω σ Hc H ow, Sr W m ρ ω σ H0 Hc H ow → ∀ Q : VK, Aft W E Hc H (f ρ ω) (fun u ψ Hc' H' => ∀ v, RB W Hc' H' u v → Q v H') → t σ H Q
noncomputable def DF (W : Wd) (m : Md) (E : XK) (t : TE) (f : Ef) : Prop := ∀ H0 ρ ω σ Hc H ow, Sr W m ρ ω σ H0 Hc H ow → ∀ Q : VK, Aft W E Hc H (f ρ ω) (fun u ψ Hc' H' => ∀ us a vs, u = .lst us → Hc' a = none → H a = none → H' a = some (.lst vs) → RUs W Hc' us vs → Q (.ref a) H') → t σ H Q
noncomputable def DT (W : Wd) (m : Md) (E : XK) (t : TT) (f : Tf) : Prop := ∀ H0 ρ ω σ Hc H ow, Sr W m ρ ω σ H0 Hc H ow → ∀ Q : Bool → Hp → Prop, Aft W E Hc H (f ρ ω) (fun b ψ ψ H' => Q b H') → t σ H Q
noncomputable def RBs (W : Wd) (Hc H : Hp) : List Bool → List U → List V → Prop
  | b :: bs, u :: us, v :: vs => (if b = true then RB W Hc H u v else RU W Hc u v) ∧ RBs W Hc H bs us vs
  | [], [], [] => True
  | _, _, _ => False
noncomputable def DA (W : Wd) (m : Md) (E : XK) (bs : List Bool) (t : TA) (f : Af) : Prop := ∀ H0 ρ ω σ Hc H ow, Sr W m ρ ω σ H0 Hc H ow → ∀ Q : List V → Hp → Prop, Aft W E Hc H (f ρ ω) (fun us ψ Hc' H' => ∀ vs, RBs W Hc' H' bs us vs → Q vs H') → t σ H Q
noncomputable def Cont (W : Wd) (m : Md) (E : XK) (Hc0 H0 : Hp) (D : Ends) (r : Fl) : Prop := match r with
  | .nx ρ' ω' => ∀ σ' Hc' H' ow', Sr W m ρ' ω' σ' H0 Hc' H' ow' → Ext W Hc0 H0 Hc' H' → D.nx σ' H'
  | .bk ρ' ω' => ∀ σ' Hc' H' ow', Sr W m ρ' ω' σ' H0 Hc' H' ow' → Ext W Hc0 H0 Hc' H' → D.bk σ' H'
  | .ct ρ' ω' => ∀ σ' Hc' H' ow', Sr W m ρ' ω' σ' H0 Hc' H' ow' → Ext W Hc0 H0 Hc' H' → D.ct σ' H'
  | .rt u ω' => ∀ v Hc' H', Ext W Hc0 H0 Hc' H' → PlOk W ω' Hc' H' → RU W Hc' u v → D.rt v H'
  | .err c pl ω' => ∀ C od Hc' H', Ext W Hc0 H0 Hc' H' → PlOk W ω' Hc' H' → W.mg c = some (.ref C) → XR Hc' pl od → E (.ref C) od H'
  | .stk => False
noncomputable def DS (W : Wd) (m : Md) (E : XK) (t : TS) (g : Sf) : Prop := ∀ H0 Hc0 ρ ω σ Hc H ow, Sr W m ρ ω σ H0 Hc H ow → Ext W Hc0 H0 Hc H → ∀ D : Ends, Cont W m E Hc0 H0 D (g ρ ω) → t D σ H
section
variable {W : Wd} {Hc H : Hp} {u : U} {v : V}
theorem RB.int {i : Int} (h : RB W Hc H (.int i) v) : v = .int i := by rcases h with h | ⟨_, _, _, e, _⟩; · rw [RU] at h; exact h
                                                                       · cases e
theorem RB.bl {i : Bool} (h : RB W Hc H (.bl i) v) : v = .bl i := by rcases h with h | ⟨_, _, _, e, _⟩; · rw [RU] at h; exact h
                                                                     · cases e
theorem RB.non (h : RB W Hc H .non v) : v = .non := by rcases h with h | ⟨_, _, _, e, _⟩; · rw [RU] at h; exact h
                                                       · cases e
theorem RB.str {i : Str} (h : RB W Hc H (.str i) v) : v = .str i := by rcases h with h | ⟨_, _, _, e, _⟩; · rw [RU] at h; exact h
                                                                       · cases e
theorem RB.ty {i : String} (h : RB W Hc H (.ty i) v) : v = .ty i := by rcases h with h | ⟨_, _, _, e, _⟩; · rw [RU] at h; exact h
                                                                       · cases e
theorem RB.tup {us : List U} (h : RB W Hc H (.tup us) v) : ∃ a vs, v = .ref a ∧ Hc a = some (.tup vs) ∧ RUs W Hc us vs := by
  rcases h with h | ⟨_, _, _, e, _⟩
  · rw [RU] at h; exact h
  · cases e
theorem RB.lst {us : List U} (h : RB W Hc H (.lst us) v) (s : Same Hc H) : ∃ a vs, v = .ref a ∧ H a = some (.lst vs) ∧ RUs W Hc us vs := by
  rcases h with h | ⟨us', a, vs, e, e2, _, q, r⟩
  · rw [RU] at h; obtain ⟨a, vs, e, q, r⟩ := h; exact ⟨a, vs, e, s _ _ q, r⟩
  · cases e; exact ⟨a, vs, e2, q, r⟩
theorem RB.scr {ns : List Int} (h : RB W Hc H (.scr ns) v) : ∃ a, v = .ref a ∧ SqL W.K Hc a (ns.map V.int) := by
  rcases h with h | ⟨_, _, _, e, _⟩
  · rw [RU] at h; exact h
  · cases e
theorem RB.nm {x : Str} (h : RB W Hc H (.nm x) v) : ∃ a, v = .ref a ∧ W.mg x = some (.ref a) := by
  rcases h with h | ⟨_, _, _, e, _⟩
  · rw [RU] at h; exact h
  · cases e
theorem RB.pile (h : RB W Hc H .pile v) : v = .ref W.pa := by
  rcases h with h | ⟨_, _, _, e, _⟩
  · rw [RU] at h; exact h
  · cases e
theorem RU.int {i : Int} : RU W H (.int i) (.int i) := by rw [RU]
theorem RU.bl {i : Bool} : RU W H (.bl i) (.bl i) := by rw [RU]
theorem RU.non : RU W H .non .non := by rw [RU]
theorem RU.str {i : Str} : RU W H (.str i) (.str i) := by rw [RU]
theorem RU.ty {i : String} : RU W H (.ty i) (.ty i) := by rw [RU]
theorem RU.tup {us : List U} {a : Addr} {vs : List V} (h : H a = some (.tup vs)) (r : RUs W H us vs) : RU W H (.tup us) (.ref a) := by rw [RU]; exact ⟨a, vs, rfl, h, r⟩
theorem RU.lst {us : List U} {a : Addr} {vs : List V} (h : H a = some (.lst vs)) (r : RUs W H us vs) : RU W H (.lst us) (.ref a) := by rw [RU]; exact ⟨a, vs, rfl, h, r⟩
end
theorem Ext.own {W : Wd} {Hc H Hc' H' : Hp} {a : Addr} {o : HO} (e : Ext W Hc H Hc' H') (n1 : Hc' a = none) (n2 : H a = none) (h : H' a = some o) : Ext W Hc H (upd Hc' a o) H' := by
  refine ⟨e.same, fun b u q => ?_, fun b u q => ?_, fun b q k => ?_, e.frz⟩
  · rw [upd_ne (ne_of_none (e.sc b u q) n1)]; exact e.sc b u q
  · by_cases z : b = a
    · subst z; rw [upd_same] at q; cases q; exact h
    · rw [upd_ne z] at q; exact e.sub b u q
  · rw [upd_ne (fun z => k (by rw [z]; exact n2))]; exact e.new b q k
theorem PlOk.own {W : Wd} {ω : Om} {Hc H : Hp} {a : Addr} {o : HO} (p : PlOk W ω Hc H) (n : a ∉ W.L) : PlOk W ω (upd Hc a o) H := ⟨p.pl, fun b hb => ⟨by rw [upd_ne (fun z : b = a => n (by rw [← z]; exact hb))]; exact (p.out b hb).1, (p.out b hb).2⟩⟩
theorem Ext.frz' {W : Wd} {Hc H Hc' H' : Hp} {a : Addr} (e : Ext W Hc H Hc' H') (h : H' a = none) : H a = none := by
  cases q : H a with
  | none => rfl
  | some o => exact absurd h (e.frz a (by rw [q]; simp))
theorem Same.own {Hc' : Hp} {a : Addr} {o : HO} (n1 : Hc' a = none) : Same Hc' (upd Hc' a o) := Same.laid n1
section
variable {W : Wd} {m : Md} {E : XK} {ta tb tc : TE} {fa fb fc : Ef} {tt tt' : TT} {ft ft' : Tf} {i : Nat} {r : R2} {g : U → U → Option U} {bs : List Bool} {tr : TA} {fr : Af}
theorem DE.b (h : DE W m E ta fa) : DB W m E ta fa := fun H0 ρ ω σ Hc H ow S Q k => h H0 ρ ω σ Hc H ow S Q (k.imp fun u ψ Hc' H' ψ ψ q v r => q v (.inl r))
theorem DF.e (h : DF W m E ta fa) : DE W m E ta fa := by
  intro H0 ρ ω σ Hc H ow S Q k
  refine h H0 ρ ω σ Hc H ow S Q ?_
  revert k
  cases fa ρ ω with
  | ok u ω' =>
    intro k Hc' H' e p us a vs hu n1 n2 ha rr
    subst hu
    have nl : a ∉ W.L := fun z => (S.pl.out a z).2 n2
    exact k (upd Hc' a (.lst vs)) H' (e.own n1 n2 ha) (p.own nl) (.ref a) (.lst upd_same (rr.mono (Same.own n1)))
  | err c pl ω' => exact fun k => k
  | stk => exact fun k => k
theorem DF.b (h : DF W m E ta fa) : DB W m E ta fa := h.e.b
noncomputable def eVar (i : Nat) : Ef := fun ρ ω => match ρ[i]? with
  | some (some u) => .ok u ω
  | _ => .stk
theorem de_var (h1 : i ∉ m.B) (h2 : i ∉ m.M) : DE W m E (tVar i) (eVar i) := by
  intro H0 ρ ω σ Hc H ow S Q h
  unfold eVar at h
  split at h
  · rename_i u e
    obtain ⟨v, q, r⟩ := S.cl i u h1 h2 e
    exact ⟨v, q, h Hc H (Ext.refl S.sub) S.pl v r⟩
  · exact h.elim
theorem db_var : DB W m E (tVar i) (eVar i) := by
  intro H0 ρ ω σ Hc H ow S Q h
  unfold eVar at h
  split at h
  · rename_i u e
    obtain ⟨v, q, r⟩ := S.get e
    exact ⟨v, q, h Hc H (Ext.refl S.sub) S.pl v r⟩
  · exact h.elim
noncomputable def eC (u : U) : Ef := fun ψ ω => .ok u ω
theorem de_c {u : U} {v : V} (h : ∀ H, RU W H u v) : DE W m E (tC v) (eC u) := fun H0 ρ ω σ Hc H ow S Q k => k Hc H (Ext.refl S.sub) S.pl v (h Hc)
noncomputable def eOp (g : U → U → Option U) (fa fb : Ef) : Ef := fun ρ ω => (fa ρ ω).bnd fun a ω1 => (fb ρ ω1).bnd fun b ω2 => .of (g a b) ω2
noncomputable def OpU (W : Wd) (r : R2) (g : U → U → Option U) : Prop := ∀ Hc H ω u1 u2 x y, Same Hc H → PlOk W ω Hc H → RB W Hc H u1 x → RB W Hc H u2 y → ∀ u, g u1 u2 = some u → ∀ Q : VK, (∀ v Hc' H', Ext W Hc H Hc' H' → PlOk W ω Hc' H' → RU W Hc' u v → Q v H') → r x y H Q
theorem de_op (o : OpU W r g) (ha : DB W m E ta fa) (hb : DB W m E tb fb) : DE W m E (tOp r ta tb) (eOp g fa fb) := by
  intro H0 ρ ω σ Hc H ow S Q h
  refine ha H0 ρ ω σ Hc H ow S _ ((Aft.bnd h).imp fun a ω1 Hc1 H1 e1 p1 h1 x rx => ?_)
  refine hb H0 ρ ω1 σ Hc1 H1 ow (S.ext e1 p1) _ ((Aft.bnd h1).imp fun b ω2 Hc2 H2 e2 p2 h2 y ry => ?_)
  revert h2
  cases hg : g a b with
  | none => exact fun h2 => h2.elim
  | some u => exact fun h2 => o Hc2 H2 ω2 a b x y e2.sub p2 (rx.ext e2) ry u hg Q fun v Hc' H' e p rv => h2 Hc' H' e p v rv
noncomputable def eUn (g : U → Option U) (fa : Ef) : Ef := fun ρ ω => (fa ρ ω).bnd fun a ω1 => .of (g a) ω1
theorem de_un {q : V → Hp → VK → Prop} {g : U → Option U} (o : ∀ Hc H ω u1 x, Same Hc H → PlOk W ω Hc H → RB W Hc H u1 x → ∀ u, g u1 = some u → ∀ Q : VK, (∀ v Hc' H', Ext W Hc H Hc' H' → PlOk W ω Hc' H' → RU W Hc' u v → Q v H') → q x H Q) (ha : DB W m E ta fa) : DE W m E (tUn q ta) (eUn g fa) := by
  intro H0 ρ ω σ Hc H ow S Q h
  refine ha H0 ρ ω σ Hc H ow S _ ((Aft.bnd h).imp fun a ω1 Hc1 H1 e1 p1 h1 x rx => ?_)
  revert h1
  cases hg : g a with
  | none => exact fun h2 => h2.elim
  | some u => exact fun h2 => o Hc1 H1 ω1 a x e1.sub p1 rx u hg Q fun v Hc' H' e p rv => h2 Hc' H' e p v rv
noncomputable def uNeg : U → Option U
  | .int a => some (.int (-a))
  | _ => none
theorem de_neg (ha : DB W m E ta fa) : DE W m E (tUn (rU fun i => .int (-i)) ta) (eUn uNeg fa) := de_un (fun Hc H ω u1 x s p rx u hg Q k => by
  unfold uNeg at hg
  split at hg
  · cases hg; have := rx.int; subst this; exact ⟨_, rfl, k _ Hc H (Ext.refl s) p .int⟩
  · cases hg) ha
theorem OpU.I0 {g : U → U → Option U} {q : Int → Int → V} {f : Int → Int → U} (hq : ∀ H a b, RU W H (f a b) (q a b)) (hg : ∀ a b u, g a b = some u → ∃ i j, a = .int i ∧ b = .int j ∧ u = f i j) : OpU W (rI0 q) g := by
  intro Hc H ω u1 u2 x y s p rx ry u e Q k
  obtain ⟨i, j, rfl, rfl, rfl⟩ := hg _ _ _ e
  have := rx.int; subst this; have := ry.int; subst this
  exact ⟨i, j, rfl, rfl, k _ Hc H (Ext.refl s) p (hq _ _ _)⟩
theorem OpU.IC {g : U → U → Option U} {C : Int → Int → Prop} {q : Int → Int → V} {f : Int → Int → U} (hq : ∀ H a b, RU W H (f a b) (q a b)) (hg : ∀ a b u, g a b = some u → ∃ i j, a = .int i ∧ b = .int j ∧ C i j ∧ u = f i j) : OpU W (rI C q) g := by
  intro Hc H ω u1 u2 x y s p rx ry u e Q k
  obtain ⟨i, j, rfl, rfl, c, rfl⟩ := hg _ _ _ e
  have := rx.int; subst this; have := ry.int; subst this
  exact ⟨i, j, rfl, rfl, c, k _ Hc H (Ext.refl s) p (hq _ _ _)⟩
noncomputable def uSub : U → U → Option U
  | .int a, .int b => some (.int (a - b))
  | _, _ => none
theorem ou_sub : OpU W (rI0 fun i j => .int (i - j)) uSub := .I0 (fun ψ ψ ψ => .int) fun a b u h => by
  unfold uSub at h; split at h <;> cases h; exact ⟨_, _, rfl, rfl, rfl⟩
noncomputable def uLt : U → U → Option U
  | .int a, .int b => some (.bl (decide (a < b)))
  | _, _ => none
noncomputable def uLe : U → U → Option U
  | .int a, .int b => some (.bl (decide (a ≤ b)))
  | _, _ => none
noncomputable def uGt : U → U → Option U
  | .int a, .int b => some (.bl (decide (b < a)))
  | _, _ => none
noncomputable def uGe : U → U → Option U
  | .int a, .int b => some (.bl (decide (b ≤ a)))
  | _, _ => none
theorem ou_lt : OpU W (rI0 fun i j => .bl (decide (i < j))) uLt := .I0 (fun ψ ψ ψ => .bl) fun a b u h => by
  unfold uLt at h; split at h <;> cases h; exact ⟨_, _, rfl, rfl, rfl⟩
theorem ou_le : OpU W (rI0 fun i j => .bl (decide (i ≤ j))) uLe := .I0 (fun ψ ψ ψ => .bl) fun a b u h => by
  unfold uLe at h; split at h <;> cases h; exact ⟨_, _, rfl, rfl, rfl⟩
theorem ou_gt : OpU W (rI0 fun i j => .bl (decide (j < i))) uGt := .I0 (fun ψ ψ ψ => .bl) fun a b u h => by
  unfold uGt at h; split at h <;> cases h; exact ⟨_, _, rfl, rfl, rfl⟩
theorem ou_ge : OpU W (rI0 fun i j => .bl (decide (j ≤ i))) uGe := .I0 (fun ψ ψ ψ => .bl) fun a b u h => by
  unfold uGe at h; split at h <;> cases h; exact ⟨_, _, rfl, rfl, rfl⟩
open Classical in
noncomputable def uDiv : U → U → Option U
  | .int a, .int b => if CDivB a b then some (.int (a / b)) else none
  | _, _ => none
theorem ou_div : OpU W (rI CDivB fun i j => .int (i / j)) uDiv := .IC (fun ψ ψ ψ => .int) fun a b u h => by
  unfold uDiv at h; split at h
  · split at h <;> cases h; exact ⟨_, _, rfl, rfl, by assumption, rfl⟩
  · cases h
open Classical in
noncomputable def uMod : U → U → Option U
  | .int a, .int b => if 0 < b then some (.int (a % b)) else none
  | _, _ => none
theorem ou_mod : OpU W (rI (fun ψ j => 0 < j) fun i j => .int (i % j)) uMod := .IC (fun ψ ψ ψ => .int) fun a b u h => by
  unfold uMod at h; split at h
  · split at h <;> cases h; exact ⟨_, _, rfl, rfl, by assumption, rfl⟩
  · cases h
open Classical in
noncomputable def uPow : U → U → Option U
  | .int a, .int b => if CPow a b then some (.int (a ^ b.toNat)) else none
  | _, _ => none
theorem ou_pow : OpU W (rI CPow fun i j => .int (i ^ j.toNat)) uPow := .IC (fun ψ ψ ψ => .int) fun a b u h => by
  unfold uPow at h; split at h
  · split at h <;> cases h; exact ⟨_, _, rfl, rfl, by assumption, rfl⟩
  · cases h
open Classical in
noncomputable def uMul : U → U → Option U
  | .int a, .int b => if CMulB a b then some (.int (a * b)) else none
  | _, _ => none
theorem ou_mul : OpU W (rI CMulB fun i j => .int (i * j)) uMul := .IC (fun ψ ψ ψ => .int) fun a b u h => by
  unfold uMul at h; split at h
  · split at h <;> cases h; exact ⟨_, _, rfl, rfl, by assumption, rfl⟩
  · cases h
theorem laid_e {ω : Om} {Hc H : Hp} {p : Addr} {o : HO} (s : Same Hc H) (P : PlOk W ω Hc H) (n : H p = none) : Ext W Hc H (upd Hc p o) (upd H p o) ∧ PlOk W ω (upd Hc p o) (upd H p o) :=
  ⟨(Ext.laid s n).1, P.same (Ext.laid s n).1 (Same.laid n)⟩
theorem laid_f {ω : Om} {Hc H : Hp} {p : Addr} {o : HO} (s : Same Hc H) (P : PlOk W ω Hc H) (n : H p = none) : Ext W Hc H Hc (upd H p o) ∧ PlOk W ω Hc (upd H p o) :=
  ⟨(Ext.laid s n).2, P.same (Ext.laid s n).2 (Same.laid n)⟩
noncomputable def rCatE : R2 := fun x y H Q => ∃ a b ys, x = .ref a ∧ y = .ref b ∧ H a = some (.tup []) ∧ H b = some (.tup ys) ∧ Q (.ref b) H
theorem op_catE {X : Cx} : OpR X (binaryOp .Add) rCatE := by
  intro pins s σ H x y v u Q I rx ry h
  obtain ⟨a, b, ys, rfl, rfl, ha, hb, q⟩ := h
  cases rx
  cases ry
  obtain ⟨its, r1, p1, _⟩ := I.tuple (SqT.of (K := X.K) ha)
  obtain ⟨jts, r2, p2, _⟩ := I.tuple (SqT.of (K := X.K) hb)
  have e1 : its = [] := r1.nil_iff.mpr rfl
  obtain ⟨⟨c1, d1, t1, l1⟩, g1, hc1, n1, hd1⟩ := id p1
  obtain ⟨⟨c2, d2, t2, l2⟩, g2, hc2, n2, hd2⟩ := id p2
  simp only at hc1 hd1 hc2 hd2
  subst hc1 hd1 hc2 hd2
  exact concat_meets ⟨_, g1, rfl⟩ ⟨_, g2, rfl⟩ noFill_tuple_add seq_tuple_add PySem.F.slot_tuple_add PySem.F.entry_tuple_add (PySem.F.args_tuple_add_2 _ _) (addT0 a b its.toArray jts.toArray n1 n2 d1 d2 l1 l2 (by simp [e1])) ⟨g1, g2, ⟨.ref b, H, I, rfl, q⟩⟩
noncomputable def rAddU (K : PySem.W.Frag) : R2 := fun x y H Q => rI0 (fun i j => .int (i + j)) x y H Q ∨ rCat x y H Q ∨ rCatT K x y H Q ∨ rCatE x y H Q
theorem op_addU {X : Cx} {K : PySem.W.Frag} (h : X.K = K) : OpR X (binaryOp .Add) (rAddU K) := h ▸ op_add.or (op_cat.or (op_catT.or op_catE))
open Classical in
noncomputable def uAdd : U → U → Option U
  | .int a, .int b => some (.int (a + b))
  | .lst a, .lst b => if a.length + b.length ≤ sizeLine then some (.lst (a ++ b)) else none
  | .tup a, .tup b => if a.length + b.length ≤ sizeLine then some (.tup (a ++ b)) else none
  | _, _ => none
theorem cat_q {ω : Om} {Hc H : Hp} {us ws : List U} {x y : V} {Q : VK} (s : Same Hc H) (p : PlOk W ω Hc H) (rx : RB W Hc H (.lst us) x) (ry : RB W Hc H (.lst ws) y) (hl : us.length + ws.length ≤ sizeLine)
    (k : ∀ a vs, H a = none → RUs W Hc (us ++ ws) vs → Q (.ref a) (upd H a (.lst vs))) : rCat x y H Q := by
  obtain ⟨a, vs, rfl, h1, r1⟩ := rx.lst s
  obtain ⟨b, zs, rfl, h2, r2⟩ := ry.lst s
  exact ⟨a, b, vs, zs, rfl, rfl, h1, h2, by rw [← r1.len, ← r2.len]; exact hl, fun q n => k q _ n (r1.app r2)⟩
theorem ou_add : OpU W (rAddU W.K) uAdd := by
  intro Hc H ω u1 u2 x y s p rx ry u e Q k
  unfold uAdd at e; split at e
  · cases e
    have := rx.int; subst this; have := ry.int; subst this
    exact .inl ⟨_, _, rfl, rfl, k _ Hc H (Ext.refl s) p .int⟩
  · split at e <;> cases e
    exact .inr (.inl (cat_q s p rx ry (by assumption) fun a vs n rr => k _ _ _ (laid_e s p n).1 (laid_e s p n).2 (.lst upd_same (rr.mono (Same.laid (s.free n))))))
  · split at e <;> cases e
    obtain ⟨a, vs, rfl, h1, r1⟩ := rx.tup
    obtain ⟨b, zs, rfl, h2, r2⟩ := ry.tup
    by_cases z : vs = []
    · subst z
      have l := r1.len
      have l0 : (_ : List U) = [] := List.length_eq_zero_iff.mp l
      exact .inr (.inr (.inr ⟨a, b, zs, rfl, rfl, s _ _ h1, s _ _ h2, k _ Hc H (Ext.refl s) p (.tup h2 (by rw [l0]; exact r2))⟩))
    · refine .inr (.inr (.inl ⟨a, b, vs, zs, rfl, rfl, .of (s _ _ h1), .of (s _ _ h2), z, by rw [← r1.len, ← r2.len]; assumption, fun z2 => ?_, fun ψ q n => ?_⟩))
      · subst z2
        have l0 : (_ : List U) = [] := List.length_eq_zero_iff.mp r2.len
        exact k _ Hc H (Ext.refl s) p (.tup h1 (by rw [l0, List.append_nil]; exact r1))
      · exact k _ _ _ (laid_e s p n).1 (laid_e s p n).2 (.tup upd_same ((r1.app r2).mono (Same.laid (s.free n))))
  · cases e
noncomputable def rRepU : R2 := fun x y H Q => ∃ a k v, x = .ref a ∧ y = .int k ∧ H a = some (.tup [v]) ∧ -10000 ≤ k ∧ k ≤ 10000 ∧ (k = 1 → Q (.ref a) H) ∧ (k ≠ 1 → ∀ p, H p = none → Q (.ref p) (upd H p (.tup (List.replicate k.toNat v))))
theorem op_repU0 {X : Cx} : OpR X (binaryOp .Mult) rRepU := by
  intro pins s σ H x y v u Q I rx ry h
  obtain ⟨a, k, w, rfl, rfl, ha, k0, k1, qa, qb⟩ := h
  cases rx
  obtain ⟨t, rfl⟩ := ry
  obtain ⟨its, r1, p1, _⟩ := I.tuple (SqT.of (K := X.K) ha)
  obtain ⟨u, rfl, ru⟩ := Vals.one r1
  obtain ⟨⟨c1, d1, t1, l1⟩, g1, hc1, n1, hd1⟩ := id p1
  simp only at hc1 hd1
  subst hc1 hd1
  have c1 : (decide (k < -2 ^ 63) || decide (k ≥ 2 ^ 63)) = false := by rw [decide_eq_false (by lia), decide_eq_false (by lia)]; rfl
  refine wpAny_binaryOp_repeat_ref (T := "tuple") (U := "int") (by decide) ⟨_, g1, rfl⟩ (fun s' => typeIs_int s' k t) noFill_tuple_mul F.fills_int_mul F.slot_int_rmul repeat_tuple F.slot_int_index.lookup
    (call_meets F.slot_int_rmul (typeIs_int s k t) F.entry_int_rmul (F.args_int_rmul_2 _ _) (rmulT k t a #[u] n1 d1 l1) ⟨g1, rfl, ⟨_, g1, rfl⟩, ?_⟩)
  by_cases e1 : k = 1
  · exact call_meets F.slot_tuple_mul ⟨_, g1, rfl⟩ F.entry_tuple_mul (F.args_tuple_mul_2 _ _) (mulT1 k t a u n1 d1 l1 e1) ⟨g1, ⟨.ref a, H, I, rfl, qa e1⟩⟩
  · have c2 : ((#[u] : Array Value).isEmpty || k == 1) = false := by simp [e1]
    by_cases e2 : k ≤ 0
    · have z : k.toNat = 0 := by lia
      have qb' := qb e1 _ (I.hok.fresh (Nat.le_refl _))
      rw [z] at qb'
      exact call_meets F.slot_tuple_mul ⟨_, g1, rfl⟩ F.entry_tuple_mul (F.args_tuple_mul_2 _ _) (mulT0 k t a u n1 d1 l1 c1 c2 (by simp [e2])) ⟨g1, ⟨.ref s.heap.objs.size, _, I.laid (t' := s.toks) (o := .tup []) (fun b ob q => Heap.get?_push_of_some _ q) (Nat.le_refl _) ⟨Nat.zero_le _, [], .nil, IsTup.new _ _⟩, rfl, qb'⟩⟩
    · have lk : k.toNat ≤ sizeLine := Nat.le_trans (show k.toNat ≤ 10000 by lia) (by decide)
      refine call_meets F.slot_tuple_mul ⟨_, g1, rfl⟩ F.entry_tuple_mul (F.args_tuple_mul_2 _ _) (mulT2 k t a u n1 d1 l1 c1 c2 (by simp; lia) (by simp; lia) ?_ ?_) ⟨g1, ?_⟩
      · unfold Builtin.Tuple.tupleTooMany
        refine decide_eq_false ?_
        have z : (10000 : Int) ≤ (sizeLine : Int) := by decide
        simp
        lia
      · rw [fold_one]; simpa using lk
      · rw [fold_one, show (#[] : Array Value) ++ (List.replicate k.toNat u).toArray = (List.replicate k.toNat u).toArray by simp]
        exact ⟨.ref s.heap.objs.size, _, I.laid (t' := s.toks) (o := .tup (List.replicate k.toNat w)) (fun b ob q => Heap.get?_push_of_some _ q) (Nat.le_refl _) ⟨by simpa using lk, _, vals_rep ru _, IsTup.new _ _⟩, rfl, qb e1 _ (I.hok.fresh (Nat.le_refl _))⟩
noncomputable def rRepX : R2 := fun x y H Q => rRepU x y H Q ∨ rRep x y H Q
theorem op_repX {X : Cx} : OpR X (binaryOp .Mult) rRepX := op_repU0.or op_rep
theorem flat_one {α : Type} (x : α) (n : Nat) : (List.replicate n [x]).flatten = List.replicate n x := by
  induction n with
  | zero => rfl
  | succ n ih => rw [List.replicate_succ, List.flatten_cons, ih]; rfl
open Classical in
noncomputable def uRep : U → U → Option U
  | .tup [x], .int k => if -10000 ≤ k ∧ k ≤ 10000 then some (.tup (List.replicate k.toNat x)) else none
  | .lst [x], .int k => if -10000 ≤ k ∧ k ≤ 10000 then some (.lst (List.replicate k.toNat x)) else none
  | _, _ => none
theorem rep_q {ω : Om} {Hc H : Hp} {u : U} {k : Int} {x y : V} {Q : VK} (s : Same Hc H) (rx : RB W Hc H (.lst [u]) x) (ry : RB W Hc H (.int k) y) (hk : -10000 ≤ k ∧ k ≤ 10000)
    (kk : ∀ a vs, H a = none → RUs W Hc (List.replicate k.toNat u) vs → Q (.ref a) (upd H a (.lst vs))) : rRep x y H Q := by
  obtain ⟨a, vs, rfl, h1, r1⟩ := rx.lst s
  have := ry.int; subst this
  rw [RUs] at r1
  obtain ⟨v, r, rfl, r1, r2⟩ := r1
  rw [RUs] at r2; subst r2
  have z : (10000 : Nat) ≤ sizeLine := by decide
  exact ⟨a, k, [v], rfl, rfl, h1, by lia, by lia, by simp; lia, fun q n => by rw [flat_one]; exact kk q _ n (RUs.rep r1 _)⟩
theorem ou_rep : OpU W rRepX uRep := by
  intro Hc H ω u1 u2 x y s p rx ry u e Q k
  unfold uRep at e; split at e
  · split at e <;> cases e
    rename_i hk
    obtain ⟨a, vs, rfl, h1, r1⟩ := rx.tup
    have := ry.int; subst this
    have r0 := r1
    rw [RUs] at r1
    obtain ⟨v, r, rfl, r1, r2⟩ := r1
    rw [RUs] at r2; subst r2
    refine .inl ⟨a, _, v, rfl, rfl, s _ _ h1, hk.1, hk.2, fun z => ?_, fun z q n => k _ _ _ (laid_e s p n).1 (laid_e s p n).2 (.tup upd_same ((RUs.rep r1 _).mono (Same.laid (s.free n))))⟩
    subst z
    exact k _ Hc H (Ext.refl s) p (.tup h1 r0)
  · split at e <;> cases e
    exact .inr (rep_q (ω := ω) s rx ry (by assumption) fun a vs n rr => k _ _ _ (laid_e s p n).1 (laid_e s p n).2 (.lst upd_same (rr.mono (Same.laid (s.free n)))))
  · cases e
end
section
variable {W : Wd} {m : Md} {E : XK} {ta tb tc : TE} {fa fb fc : Ef} {tt tt' : TT} {ft ft' : Tf} {i : Nat} {r : R2} {g : U → U → Option U} {bs : List Bool} {tr : TA} {fr : Af}
theorem RUs.atI {H : Hp} {us : List U} {vs : List V} {k : Int} {u : U} (r : RUs W H us vs) (h : L2.atI us k = some u) : ∃ v, L2.atI vs k = some v ∧ RU W H u v := by
  unfold L2.atI at h ⊢
  rw [← r.len]
  cases e : ixN us.length k with
  | none => rw [e] at h; cases h
  | some j => rw [e] at h; exact r.at (i := 0) h
noncomputable def uIx : U → U → Option U
  | .lst us, .int k => atI us k
  | .tup us, .int k => atI us k
  | _, _ => none
theorem ou_ix : OpU W (rIxA W.K) uIx := by
  intro Hc H ω u1 u2 x y s p rx ry u e Q k
  unfold uIx at e; split at e
  · obtain ⟨a, vs, rfl, h1, r1⟩ := rx.lst s
    have := ry.int; subst this
    obtain ⟨v, hv, rv⟩ := r1.atI e
    exact .inl ⟨a, vs, _, v, rfl, rfl, .of h1, hv, k v Hc H (Ext.refl s) p rv⟩
  · obtain ⟨a, vs, rfl, h1, r1⟩ := rx.tup
    have := ry.int; subst this
    obtain ⟨v, hv, rv⟩ := r1.atI e
    exact .inr ⟨a, vs, _, v, rfl, rfl, .of (s _ _ h1), hv, k v Hc H (Ext.refl s) p rv⟩
  · cases e
noncomputable abbrev Pf := En → Om → Res (Option Int)
noncomputable def DP (W : Wd) (m : Md) (E : XK) (t : TO) (f : Pf) : Prop := ∀ H0 ρ ω σ Hc H ow, Sr W m ρ ω σ H0 Hc H ow → ∀ Q : Option Int → Hp → Prop, Aft W E Hc H (f ρ ω) (fun o ψ ψ H' => Q o H') → t σ H Q
noncomputable def pNo : Pf := fun ψ ω => .ok none ω
theorem dp_no : DP W m E tNoPart pNo := fun H0 ρ ω σ Hc H ow S Q k => k Hc H (Ext.refl S.sub) S.pl
noncomputable def asI : U → Option (Option Int)
  | .int i => some (some i)
  | _ => none
noncomputable def pSome (fa : Ef) : Pf := fun ρ ω => (fa ρ ω).bnd fun u ω1 => .of (asI u) ω1
theorem dp_some (ha : DB W m E ta fa) : DP W m E (tPart ta) (pSome fa) := by
  intro H0 ρ ω σ Hc H ow S Q h
  refine ha H0 ρ ω σ Hc H ow S _ ((Aft.bnd h).imp fun a ω1 Hc1 H1 e1 p1 h1 x rx => ?_)
  revert h1
  cases a with
  | int i => intro h1; have := rx.int; subst this; exact ⟨i, rfl, h1 Hc1 H1 (Ext.refl e1.sub) p1⟩
  | _ => exact fun h1 => h1.elim
noncomputable def cutG {α : Type} (xs : List α) (lo hi : Option Int) : List α := (xs.drop (HT.sIx xs.length 0 lo)).take (HT.sIx xs.length xs.length hi - HT.sIx xs.length 0 lo)
noncomputable def rSlU (K : PySem.W.Frag) : V → Option Int → Option Int → Hp → VK → Prop := fun x lo hi H Q => rSlL K x lo hi H Q ∨ rSlT K x lo hi H Q ∨ rSlW K x lo hi H Q
theorem sl_u {X : Cx} {K : PySem.W.Frag} (h : X.K = K) : SlR X (rSlU K) := h ▸ sl_list.or (sl_tup.or sl_wholeT)
noncomputable def uSl : U → Option Int → Option Int → Option U
  | .lst us, lo, hi => some (.lst (cutG us lo hi))
  | .tup us, lo, hi => some (.tup (cutG us lo hi))
  | _, _, _ => none
noncomputable def uSlL : U → Option Int → Option Int → Option U
  | .lst us, lo, hi => some (.lst (cutG us lo hi))
  | _, _, _ => none
noncomputable def eSl (g : U → Option Int → Option Int → Option U) (fa : Ef) (fl fh : Pf) : Ef := fun ρ ω => (fa ρ ω).bnd fun a ω1 => (fl ρ ω1).bnd fun l ω2 => (fh ρ ω2).bnd fun h ω3 => .of (g a l h) ω3
theorem cut_r {H : Hp} {us : List U} {vs : List V} {lo hi : Option Int} (r : RUs W H us vs) : RUs W H (cutG us lo hi) (cutV vs lo hi) := by
  unfold cutG cutV
  rw [← r.len]
  exact (r.drop _).take _
theorem de_sl {tl th : TO} {fl fh : Pf} (ha : DB W m E ta fa) (hl : DP W m E tl fl) (hh : DP W m E th fh) : DE W m E (tSl (rSlU W.K) ta tl th) (eSl uSl fa fl fh) := by
  intro H0 ρ ω σ Hc H ow S Q h
  refine ha H0 ρ ω σ Hc H ow S _ ((Aft.bnd h).imp fun a ω1 Hc1 H1 e1 p1 h1 x rx => ?_)
  have S1 := S.ext e1 p1
  refine hl H0 ρ ω1 σ Hc1 H1 ow S1 _ ((Aft.bnd h1).imp fun l ω2 Hc2 H2 e2 p2 h2 => ?_)
  refine hh H0 ρ ω2 σ Hc2 H2 ow (S1.ext e2 p2) _ ((Aft.bnd h2).imp fun hi ω3 Hc3 H3 e3 p3 h3 => ?_)
  have rx3 := (rx.ext e2).ext e3
  have s := e3.sub
  revert h3
  cases a with
  | lst us =>
    intro h3
    obtain ⟨a, vs, rfl, q1, r1⟩ := rx3.lst s
    exact .inl ⟨a, vs, rfl, .of q1, fun p n => h3 _ _ (laid_e s p3 n).1 (laid_e s p3 n).2 _ (.lst upd_same ((cut_r r1).mono (Same.laid (s.free n))))⟩
  | tup us =>
    intro h3
    obtain ⟨a, vs, rfl, q1, r1⟩ := rx3.tup
    by_cases z : HT.sIx vs.length 0 l = 0 ∧ HT.sIx vs.length vs.length hi = vs.length
    · refine .inr (.inr ⟨a, vs, rfl, .of (s _ _ q1), z, h3 Hc3 H3 (Ext.refl s) p3 _ (.tup q1 ?_)⟩)
      have e : cutV vs l hi = vs := by unfold cutV; rw [z.1, z.2]; simp
      have r2 := cut_r (lo := l) (hi := hi) r1
      rw [e] at r2
      exact r2
    · exact .inr (.inl ⟨a, vs, rfl, .of (s _ _ q1), z, fun p n => h3 _ _ (laid_e s p3 n).1 (laid_e s p3 n).2 _ (.tup upd_same ((cut_r r1).mono (Same.laid (s.free n))))⟩)
  | _ => exact fun h3 => h3.elim
noncomputable def rRevU (K : PySem.W.Frag) : V → Option Int → Hp → VK → Prop := fun x st H Q => rRev K x st H Q ∨ rRevT K x st H Q
noncomputable def tRevU (K : PySem.W.Frag) (te : TE) (ts : TO) : TE := fun σ H Q => te σ H fun x H1 => ts σ H1 fun st H2 => rRevU K x st H2 Q
theorem pe_revU {X : Cx} {K : PySem.W.Frag} {e se : Expr} {te : TE} {ts : TO} {p2 pos : Pos} (hK : X.K = K) (he : PE X e te) (hs : PO X (some se) ts) : PE X (.Subscript e (.Slice none none (some se) p2) pos) (tRevU K te ts) := by
  subst hK
  intro pins s σ H Q I h
  refine Subscript_ (thn (he pins s σ H _ I h) fun v s1 ⟨x, H1, I1, r1, q1⟩ => ?_)
  refine wpAny_Slice ?_
  rw [evalPart_none]
  refine wpAny_pure (wpAny_pure ?_)
  refine thn (hs pins s1 σ H1 _ I1 q1) fun vs s3 ⟨st, H3, I3, ps, q3⟩ => ?_
  rcases q3 with ⟨a, xs, rfl, rfl, hx, q⟩ | ⟨a, xs, rfl, rfl, hx, q⟩
  · cases r1
    have I4 : Inv X pins σ H3 { s3 with heap := s3.heap.push { cls := .type "slice", data := .fields #[.none, .none, vs] } } := I3.kept (t' := s3.toks) fun b ob q => Heap.get?_push_of_some _ q
    obtain ⟨its, r, ht, hz⟩ := I4.list hx
    show wpAny (model X.prog X.w) X.A (subscriptTail e (.Slice none none (some se) p2) (.ref a) (.ref s3.heap.objs.size)) (EP X pins σ Q) X.xe { s3 with heap := s3.heap.push { cls := .type "slice", data := .fields #[.none, .none, vs] } }
    refine tail_any (T := "list") (ops := [.ref a, .ref s3.heap.objs.size]) ht.isList.typeIs slot_list_getitem.lookup ?_ (by with_unfolding_all rfl)
    refine wpAny_getItem_list_slice ht.isList (Heap.IsSliceOf.new ..) .none .none ps (by decide) ?_ (by rw [List.size_toArray, ← r.length]; exact hz)
    rw [pick_back]
    refine ⟨.ref _, _, I4.laid (t' := s3.toks) (o := .lst xs.reverse) (fun b ob q => Heap.get?_push_of_some _ q) (Nat.le_refl _) ?_, rfl, q _ (I4.hok.fresh (Nat.le_refl _))⟩
    exact ⟨by rw [List.length_reverse]; exact hz, _, 0, r.reverse, Heap.get?_push_size _ rfl⟩
  · cases r1
    have I4 : Inv X pins σ H3 { s3 with heap := s3.heap.push { cls := .type "slice", data := .fields #[.none, .none, vs] } } := I3.kept (t' := s3.toks) fun b ob q => Heap.get?_push_of_some _ q
    obtain ⟨its, r, ht, hz⟩ := I4.tuple hx
    show wpAny (model X.prog X.w) X.A (subscriptTail e (.Slice none none (some se) p2) (.ref a) (.ref s3.heap.objs.size)) (EP X pins σ Q) X.xe { s3 with heap := s3.heap.push { cls := .type "slice", data := .fields #[.none, .none, vs] } }
    refine tail_any (T := "tuple") (ops := [.ref a, .ref s3.heap.objs.size]) ht.typeIs PyProof.Rows.slot_tuple_getitem.lookup ?_ (by with_unfolding_all rfl)
    refine getT_back ht (Heap.IsSliceOf.new ..) ps (by rw [← r.length]; exact hz) ?_
    refine ⟨.ref _, _, I4.laid (t' := s3.toks) (o := .tup xs.reverse) (fun b ob q => Heap.get?_push_of_some _ q) (Nat.le_refl _) ?_, rfl, q _ (I4.hok.fresh (Nat.le_refl _))⟩
    exact ⟨by rw [List.length_reverse]; exact hz, _, r.reverse, IsTup.new _ _⟩
noncomputable def uRev : U → Option Int → Option U
  | .lst us, some k => if k = -1 then some (.lst us.reverse) else none
  | .tup us, some k => if k = -1 then some (.tup us.reverse) else none
  | _, _ => none
noncomputable def eRev (fa : Ef) (fs : Pf) : Ef := fun ρ ω => (fa ρ ω).bnd fun a ω1 => (fs ρ ω1).bnd fun l ω2 => .of (uRev a l) ω2
theorem de_rev {ts : TO} {fs : Pf} (ha : DB W m E ta fa) (hl : DP W m E ts fs) : DE W m E (tRevU W.K ta ts) (eRev fa fs) := by
  intro H0 ρ ω σ Hc H ow S Q h
  refine ha H0 ρ ω σ Hc H ow S _ ((Aft.bnd h).imp fun a ω1 Hc1 H1 e1 p1 h1 x rx => ?_)
  refine hl H0 ρ ω1 σ Hc1 H1 ow (S.ext e1 p1) _ ((Aft.bnd h1).imp fun l ω2 Hc2 H2 e2 p2 h2 => ?_)
  have rx2 := rx.ext e2
  have s := e2.sub
  revert h2
  cases hg : uRev a l with
  | none => exact fun h => h.elim
  | some u =>
    intro h3
    unfold uRev at hg; split at hg
    · split at hg <;> cases hg
      rename_i hk; subst hk
      obtain ⟨a, vs, rfl, q1, r1⟩ := rx2.lst s
      exact .inl ⟨a, vs, rfl, rfl, .of q1, fun p n => h3 _ _ (laid_e s p2 n).1 (laid_e s p2 n).2 _ (.lst upd_same (r1.rev.mono (Same.laid (s.free n))))⟩
    · split at hg <;> cases hg
      rename_i hk; subst hk
      obtain ⟨a, vs, rfl, q1, r1⟩ := rx2.tup
      exact .inr ⟨a, vs, rfl, rfl, .of (s _ _ q1), fun p n => h3 _ _ (laid_e s p2 n).1 (laid_e s p2 n).2 _ (.tup upd_same (r1.rev.mono (Same.laid (s.free n))))⟩
    · cases hg
mutual
noncomputable def U.toD : U → Option D
  | .non => some .non
  | .bl b => some (.bl b)
  | .int i => some (.int i)
  | .str x => some (.str x)
  | .tup xs => (U.toDs xs).map D.tup
  | _ => none
noncomputable def U.toDs : List U → Option (List D)
  | [] => some []
  | u :: us => (U.toD u).bind fun d => (U.toDs us).map fun ds => d :: ds
end
mutual
theorem toD_r {H : Hp} : ∀ {u : U} {v : V} {d : D}, u.toD = some d → RU W H u v → DV W.K H d v
  | .non, _, _, e, h => by rw [U.toD] at e; cases e; rw [RU] at h; rw [DV]; exact h
  | .bl _, _, _, e, h => by rw [U.toD] at e; cases e; rw [RU] at h; rw [DV]; exact h
  | .int _, _, _, e, h => by rw [U.toD] at e; cases e; rw [RU] at h; rw [DV]; exact h
  | .str _, _, _, e, h => by rw [U.toD] at e; cases e; rw [RU] at h; rw [DV]; exact h
  | .tup xs, _, d, e, h => by
    rw [U.toD] at e
    cases q : U.toDs xs with
    | none => rw [q] at e; cases e
    | some ds =>
      rw [q] at e; cases e
      rw [RU] at h
      obtain ⟨a, vs, e1, h1, r1⟩ := h
      rw [DV]
      exact ⟨a, vs, e1, .of h1, toDs_r q r1⟩
  | .ty _, _, _, e, h => by rw [U.toD] at e; cases e; all_goals (intros; contradiction)
  | .nm _, _, _, e, h => by rw [U.toD] at e; cases e; all_goals (intros; contradiction)
  | .exc _ _, _, _, e, h => by rw [U.toD] at e; cases e; all_goals (intros; contradiction)
  | .pile, _, _, e, h => by rw [U.toD] at e; cases e; all_goals (intros; contradiction)
  | .lst _, _, _, e, h => by rw [U.toD] at e; cases e; all_goals (intros; contradiction)
  | .scr _, _, _, e, h => by rw [U.toD] at e; cases e; all_goals (intros; contradiction)
  | .dic _ _, _, _, e, h => by rw [U.toD] at e; cases e; all_goals (intros; contradiction)
theorem toDs_r {H : Hp} : ∀ {us : List U} {vs : List V} {ds : List D}, U.toDs us = some ds → RUs W H us vs → DVs W.K H ds vs
  | [], _, _, e, h => by rw [U.toDs] at e; cases e; rw [RUs] at h; rw [DVs]; exact h
  | u :: us, _, ds, e, h => by
    rw [U.toDs] at e
    cases q : U.toD u with
    | none => rw [q] at e; cases e
    | some d =>
      cases q2 : U.toDs us with
      | none => rw [q, q2] at e; cases e
      | some ds2 =>
        rw [q, q2] at e; cases e
        rw [RUs] at h
        obtain ⟨v, r, e1, h1, r1⟩ := h
        rw [DVs]
        exact ⟨v, r, e1, toD_r q h1, toDs_r q2 r1⟩
end
noncomputable def uEqs (a b : List U) : Option Bool := (U.toDs a).bind fun d => (U.toDs b).bind fun e => if D.depths d ≤ 40 then some (D.eqs d e) else none
noncomputable def uEqI (a : Int) : U → Option Bool
  | .int b => some (decide (a = b))
  | .non => some false
  | .str _ => some false
  | _ => none
noncomputable def uEqK (a : Bool) : U → Option Bool
  | .bl b => some (decide (a = b))
  | .non => some false
  | .str _ => some false
  | _ => none
noncomputable def uEqS (a : Str) : U → Option Bool
  | .str b => some (decide (a = b))
  | .non => some false
  | .int _ => some false
  | .bl _ => some false
  | _ => none
noncomputable def uEqN : U → Option Bool
  | .non => some true
  | .int _ => some false
  | .bl _ => some false
  | .str _ => some false
  | _ => none
noncomputable def uEqT (a : List U) : U → Option Bool
  | .tup b => uEqs a b
  | _ => none
noncomputable def uEqL (a : List U) : U → Option Bool
  | .lst b => uEqs a b
  | _ => none
noncomputable def uEqB : U → U → Option Bool
  | .tup a => uEqT a
  | .lst a => uEqL a
  | .int a => uEqI a
  | .bl a => uEqK a
  | .str a => uEqS a
  | .non => uEqN
  | _ => fun ψ => none
noncomputable def uEq (a b : U) : Option U := (uEqB a b).map U.bl
noncomputable def uNe (a b : U) : Option U := (uEqB a b).map fun k => U.bl (!k)
theorem uEqs_q {Hc H : Hp} {a b : List U} {k : Bool} {vs ws : List V} (s : Same Hc H) (h : uEqs a b = some k) (r1 : RUs W Hc a vs) (r2 : RUs W Hc b ws) : ∃ d e, DVs W.K H d vs ∧ DVs W.K H e ws ∧ D.depths d ≤ 40 ∧ k = D.eqs d e := by
  unfold uEqs at h
  cases q : U.toDs a with
  | none => rw [q] at h; cases h
  | some d =>
    cases q2 : U.toDs b with
    | none => rw [q, q2] at h; cases h
    | some e =>
      rw [q, q2] at h
      simp only [Option.bind_some] at h
      split at h
      · cases h; exact ⟨d, e, toDs_r q (r1.mono s), toDs_r q2 (r2.mono s), by assumption, rfl⟩
      · cases h
theorem noS {α : Type} {a : α} {G : Prop} (h : (none : Option α) = some a) : G := nomatch h
theorem eqB_q {ω : Om} {Hc H : Hp} {u1 u2 : U} {k : Bool} {x y : V} {Q : VK} (s : Same Hc H) (rx : RB W Hc H u1 x) (ry : RB W Hc H u2 y) (h : uEqB u1 u2 = some k) :
    (Q (.bl k) H → rEqA W.K x y H Q) ∧ (Q (.bl (!k)) H → rNeA W.K x y H Q) := by
  have no : ∀ {v : V}, y = v → scal x v = true → k = decide (x = v) → (Q (.bl k) H → rEqA W.K x y H Q) ∧ (Q (.bl (!k)) H → rNeA W.K x y H Q) := fun e z d => by
    subst e; rw [d]; exact ⟨fun q => .inl ⟨z, q⟩, fun q => .inl ⟨z, q⟩⟩
  cases u1 with
  | tup a1 =>
    cases u2 with
    | tup b1 =>
      obtain ⟨a, vs, rfl, h1, r1⟩ := rx.tup
      obtain ⟨b, ws, rfl, h2, r2⟩ := ry.tup
      obtain ⟨d, e, q1, q2, q3, rfl⟩ := uEqs_q s h r1 r2
      have d1 : DV W.K H (.tup d) (.ref a) := by rw [DV]; exact ⟨a, vs, rfl, .of (s _ _ h1), q1⟩
      have d2 : DV W.K H (.tup e) (.ref b) := by rw [DV]; exact ⟨b, ws, rfl, .of (s _ _ h2), q2⟩
      exact ⟨fun q => .inr (.inl ⟨d, e, d1, d2, q3, q⟩), fun q => .inr (.inl ⟨d, e, d1, d2, q3, q⟩)⟩
    | _ => exact noS h
  | lst a1 =>
    cases u2 with
    | lst b1 =>
      obtain ⟨a, vs, rfl, h1, r1⟩ := rx.lst s
      obtain ⟨b, ws, rfl, h2, r2⟩ := ry.lst s
      obtain ⟨d, e, q1, q2, q3, rfl⟩ := uEqs_q s h r1 r2
      exact ⟨fun q => .inr (.inr ⟨a, b, vs, ws, d, e, rfl, rfl, .of h1, .of h2, q1, q2, q3, q⟩), fun q => .inr (.inr ⟨a, b, vs, ws, d, e, rfl, rfl, .of h1, .of h2, q1, q2, q3, q⟩)⟩
    | _ => exact noS h
  | int a =>
    have := rx.int; subst this
    cases u2 with
    | int b => cases h; exact no ry.int rfl (by simp)
    | non => cases h; exact no ry.non rfl rfl
    | str b => cases h; exact no ry.str rfl rfl
    | _ => exact noS h
  | bl a =>
    have := rx.bl; subst this
    cases u2 with
    | bl b => cases h; exact no ry.bl rfl (by simp)
    | non => cases h; exact no ry.non rfl rfl
    | str b => cases h; exact no ry.str rfl rfl
    | _ => exact noS h
  | str a =>
    have := rx.str; subst this
    cases u2 with
    | str b => cases h; exact no ry.str rfl (by simp)
    | non => cases h; exact no ry.non rfl rfl
    | int b => cases h; exact no ry.int rfl rfl
    | bl b => cases h; exact no ry.bl rfl rfl
    | _ => exact noS h
  | non =>
    have := rx.non; subst this
    cases u2 with
    | non => cases h; exact no ry.non rfl rfl
    | int b => cases h; exact no ry.int rfl rfl
    | bl b => cases h; exact no ry.bl rfl rfl
    | str b => cases h; exact no ry.str rfl rfl
    | _ => exact noS h
  | _ => exact noS h
theorem ou_eq : OpU W (rEqA W.K) uEq := by
  intro Hc H ω u1 u2 x y s p rx ry u e Q k
  unfold uEq at e
  cases q : uEqB u1 u2 with
  | none => rw [q] at e; cases e
  | some b => rw [q] at e; cases e; exact (eqB_q (ω := ω) s rx ry q).1 (k _ Hc H (Ext.refl s) p .bl)
theorem ou_ne : OpU W (rNeA W.K) uNe := by
  intro Hc H ω u1 u2 x y s p rx ry u e Q k
  unfold uNe at e
  cases q : uEqB u1 u2 with
  | none => rw [q] at e; cases e
  | some b => rw [q] at e; cases e; exact (eqB_q (ω := ω) s rx ry q).2 (k _ Hc H (Ext.refl s) p .bl)
theorem op_eqK {X : Cx} {K : PySem.W.Frag} (h : X.K = K) (hu : X.A.units + 64 < cLine) : OpR X (compareOp .Eq) (rEqA K) := h ▸ op_eqA hu
theorem op_neK {X : Cx} {K : PySem.W.Frag} (h : X.K = K) (hu : X.A.units + 64 < cLine) : OpR X (compareOp .NotEq) (rNeA K) := h ▸ op_neA hu
noncomputable def isNon : U → Bool
  | .non => true
  | _ => false
noncomputable def uIs (neg : Bool) : U → U → Option U
  | a, .non => some (.bl (if neg then !isNon a else isNon a))
  | _, _ => none
theorem non_iff {Hc H : Hp} {u : U} {x : V} (r : RB W Hc H u x) : decide (x = .non) = isNon u := by
  rcases r with r | ⟨us, a, vs, rfl, rfl, _⟩
  · cases u with
    | non => rw [RU] at r; subst r; rfl
    | bl b => rw [RU] at r; subst r; rfl
    | int b => rw [RU] at r; subst r; rfl
    | str b => rw [RU] at r; subst r; rfl
    | ty b => rw [RU] at r; subst r; rfl
    | nm b => rw [RU] at r; obtain ⟨a, rfl, _⟩ := r; rfl
    | exc c pl => cases pl with
      | none => rw [RU] at r; obtain ⟨a, C, rfl, _⟩ := r; rfl
      | some n => rw [RU] at r; obtain ⟨a, C, d, rfl, _⟩ := r; rfl
    | pile => rw [RU] at r; subst r; rfl
    | tup b => rw [RU] at r; obtain ⟨a, vs, rfl, _⟩ := r; rfl
    | lst b => rw [RU] at r; obtain ⟨a, vs, rfl, _⟩ := r; rfl
    | scr b => rw [RU] at r; obtain ⟨a, rfl, _⟩ := r; rfl
    | dic b c => rw [RU] at r; obtain ⟨a, kvs, rfl, _⟩ := r; rfl
  · rfl
theorem ou_isnot : OpU W (fun x y H Q => y = .non ∧ Q (.bl (!decide (x = .non))) H) (uIs true) := by
  intro Hc H ω u1 u2 x y s p rx ry u e Q k
  unfold uIs at e; split at e
  · cases e; exact ⟨ry.non, by rw [non_iff rx]; exact k _ Hc H (Ext.refl s) p .bl⟩
  · cases e
end
section
variable {W : Wd} {m : Md} {E : XK} {ta tb tc : TE} {fa fb fc : Ef} {tt tt' : TT} {ft ft' : Tf} {i : Nat} {r r' : R2} {g g' : U → U → Option U} {bs : List Bool} {tr : TA} {fr : Af}
noncomputable def asB : U → Option Bool
  | .bl b => some b
  | _ => none
noncomputable def tfB (fa : Ef) : Tf := fun ρ ω => (fa ρ ω).bnd fun u ω1 => .of (asB u) ω1
theorem dt_b (ha : DB W m E ta fa) : DT W m E (tB ta) (tfB fa) := by
  intro H0 ρ ω σ Hc H ow S Q h
  refine ha H0 ρ ω σ Hc H ow S _ ((Aft.bnd h).imp fun a ω1 Hc1 H1 e1 p1 h1 x rx => ?_)
  revert h1
  cases a with
  | bl b => intro h1; have := rx.bl; subst this; exact ⟨b, rfl, h1 Hc1 H1 (Ext.refl e1.sub) p1⟩
  | _ => exact fun h1 => h1.elim
theorem dt_t (ha : DB W m E ta fa) : DT W m E (tTest ta) (tfB fa) := dt_b ha
noncomputable def tfAnd (ft ft' : Tf) : Tf := fun ρ ω => (ft ρ ω).bnd fun b ω1 => if b = true then ft' ρ ω1 else .ok false ω1
noncomputable def tfOr (ft ft' : Tf) : Tf := fun ρ ω => (ft ρ ω).bnd fun b ω1 => if b = true then .ok true ω1 else ft' ρ ω1
noncomputable def tfNot (ft : Tf) : Tf := fun ρ ω => (ft ρ ω).bnd fun b ω1 => .ok (!b) ω1
noncomputable def tfTrue : Tf := fun ψ ω => .ok true ω
theorem dt_true : DT W m E tTrue tfTrue := fun H0 ρ ω σ Hc H ow S Q k => k Hc H (Ext.refl S.sub) S.pl
theorem dt_and (h1 : DT W m E tt ft) (h2 : DT W m E tt' ft') : DT W m E (tAnd tt tt') (tfAnd ft ft') := by
  intro H0 ρ ω σ Hc H ow S Q h
  refine h1 H0 ρ ω σ Hc H ow S _ ((Aft.bnd h).imp fun b ω1 Hc1 H1 e1 p1 k => ?_)
  cases b with
  | true => exact h2 H0 ρ ω1 σ Hc1 H1 ow (S.ext e1 p1) Q k
  | false => exact k Hc1 H1 (Ext.refl e1.sub) p1
theorem dt_or (h1 : DT W m E tt ft) (h2 : DT W m E tt' ft') : DT W m E (tOr tt tt') (tfOr ft ft') := by
  intro H0 ρ ω σ Hc H ow S Q h
  refine h1 H0 ρ ω σ Hc H ow S _ ((Aft.bnd h).imp fun b ω1 Hc1 H1 e1 p1 k => ?_)
  cases b with
  | false => exact h2 H0 ρ ω1 σ Hc1 H1 ow (S.ext e1 p1) Q k
  | true => exact k Hc1 H1 (Ext.refl e1.sub) p1
theorem dt_not (h1 : DT W m E tt ft) : DT W m E (tNot tt) (tfNot ft) := by
  intro H0 ρ ω σ Hc H ow S Q h
  exact h1 H0 ρ ω σ Hc H ow S _ ((Aft.bnd h).imp fun b ω1 Hc1 H1 e1 p1 k => k Hc1 H1 (Ext.refl e1.sub) p1)
theorem RBs.ext {Hc H Hc' H' : Hp} (e : Ext W Hc H Hc' H') : ∀ {bs : List Bool} {us : List U} {vs : List V}, RBs W Hc H bs us vs → RBs W Hc' H' bs us vs
  | [], [], [], _ => trivial
  | b :: bs, u :: us, v :: vs, h => by
    unfold RBs at h ⊢
    refine ⟨?_, RBs.ext e h.2⟩
    have h1 := h.1
    cases b with
    | true => exact RB.ext h1 e
    | false => exact RU.mono e.sc h1
  | [], _ :: _, _, h => by unfold RBs at h; exact h.elim
  | [], [], _ :: _, h => by unfold RBs at h; exact h.elim
  | _ :: _, [], _, h => by unfold RBs at h; exact h.elim
  | _ :: _, _ :: _, [], h => by unfold RBs at h; exact h.elim
noncomputable def aNil : Af := fun ψ ω => .ok [] ω
noncomputable def aCons (fa : Ef) (fr : Af) : Af := fun ρ ω => (fa ρ ω).bnd fun u ω1 => (fr ρ ω1).bnd fun us ω2 => .ok (u :: us) ω2
theorem da_nil : DA W m E [] tNil aNil := fun H0 ρ ω σ Hc H ow S Q k => k Hc H (Ext.refl S.sub) S.pl [] trivial
theorem da_b (ha : DB W m E ta fa) (hr : DA W m E bs tr fr) : DA W m E (true :: bs) (tCons ta tr) (aCons fa fr) := by
  intro H0 ρ ω σ Hc H ow S Q h
  refine ha H0 ρ ω σ Hc H ow S _ ((Aft.bnd h).imp fun u ω1 Hc1 H1 e1 p1 h1 x rx => ?_)
  refine hr H0 ρ ω1 σ Hc1 H1 ow (S.ext e1 p1) _ ((Aft.bnd h1).imp fun us ω2 Hc2 H2 e2 p2 h2 xs rs => ?_)
  exact h2 Hc2 H2 (Ext.refl e2.sub) p2 _ ⟨rx.ext e2, rs⟩
theorem da_e (ha : DE W m E ta fa) (hr : DA W m E bs tr fr) : DA W m E (false :: bs) (tCons ta tr) (aCons fa fr) := by
  intro H0 ρ ω σ Hc H ow S Q h
  refine ha H0 ρ ω σ Hc H ow S _ ((Aft.bnd h).imp fun u ω1 Hc1 H1 e1 p1 h1 x rx => ?_)
  refine hr H0 ρ ω1 σ Hc1 H1 ow (S.ext e1 p1) _ ((Aft.bnd h1).imp fun us ω2 Hc2 H2 e2 p2 h2 xs rs => ?_)
  exact h2 Hc2 H2 (Ext.refl e2.sub) p2 _ ⟨rx.mono e2.sc, rs⟩
noncomputable def offs : List Bool → Bool
  | [] => true
  | b :: bs => !b && offs bs
theorem RBs.off {Hc H : Hp} : ∀ {bs : List Bool} {us : List U} {vs : List V}, offs bs = true → RBs W Hc H bs us vs → RUs W Hc us vs
  | [], [], [], _, _ => .nil
  | b :: bs, u :: us, v :: vs, o, h => by
    unfold RBs at h
    unfold offs at o
    simp only [Bool.and_eq_true, Bool.not_eq_true'] at o
    have h1 := h.1
    rw [o.1] at h1
    exact .cons h1 (RBs.off o.2 h.2)
  | [], _ :: _, _, _, h => by unfold RBs at h; exact h.elim
  | [], [], _ :: _, _, h => by unfold RBs at h; exact h.elim
  | _ :: _, [], _, _, h => by unfold RBs at h; exact h.elim
  | _ :: _, _ :: _, [], _, h => by unfold RBs at h; exact h.elim
open Classical in
noncomputable def mkT (us : List U) : Option U := if us.length ≤ sizeLine then some (.tup us) else none
open Classical in
noncomputable def mkL (us : List U) : Option U := if us.length ≤ sizeLine then some (.lst us) else none
open Classical in
noncomputable def eTup (fr : Af) : Ef := fun ρ ω => (fr ρ ω).bnd fun us ω1 => .of (mkT us) ω1
open Classical in
noncomputable def eLst (fr : Af) : Ef := fun ρ ω => (fr ρ ω).bnd fun us ω1 => .of (mkL us) ω1
theorem de_tup (ho : offs bs = true) (hr : DA W m E bs tr fr) : DE W m E (tTup tr) (eTup fr) := by
  intro H0 ρ ω σ Hc H ow S Q h
  refine hr H0 ρ ω σ Hc H ow S _ ((Aft.bnd h).imp fun us ω1 Hc1 H1 e1 p1 h1 xs rs => ?_)
  have rr := rs.off ho
  revert h1
  unfold mkT
  split
  · rename_i hl
    intro h1
    exact ⟨by rw [← rr.len]; exact hl, fun p n => h1 _ _ (laid_e e1.sub p1 n).1 (laid_e e1.sub p1 n).2 _ (.tup upd_same (rr.mono (Same.laid (e1.sub.free n))))⟩
  · exact fun h1 => h1.elim
theorem df_lst (ho : offs bs = true) (hr : DA W m E bs tr fr) : DF W m E (tLst tr) (eLst fr) := by
  intro H0 ρ ω σ Hc H ow S Q h
  refine hr H0 ρ ω σ Hc H ow S _ ((Aft.bnd h).imp fun us ω1 Hc1 H1 e1 p1 h1 xs rs => ?_)
  have rr := rs.off ho
  revert h1
  unfold mkL
  split
  · rename_i hl
    intro h1
    exact ⟨by rw [← rr.len]; exact hl, fun p n => h1 _ _ (laid_f e1.sub p1 n).1 (laid_f e1.sub p1 n).2 _ _ _ rfl (e1.sub.free n) (e1.frz' n) upd_same rr⟩
  · exact fun h1 => h1.elim
noncomputable def CallU (W : Wd) (bs : List Bool) (r : List V → Hp → VK → Prop) (g : List U → Option U) : Prop := ∀ Hc H ω us vs, Same Hc H → PlOk W ω Hc H → RBs W Hc H bs us vs → ∀ u, g us = some u → ∀ Q : VK, (∀ v Hc' H', Ext W Hc H Hc' H' → PlOk W ω Hc' H' → RU W Hc' u v → Q v H') → r vs H Q
noncomputable def eB (g : List U → Option U) (fr : Af) : Ef := fun ρ ω => (fr ρ ω).bnd fun us ω1 => .of (g us) ω1
theorem de_cb {q : List V → Hp → VK → Prop} {g : List U → Option U} (o : CallU W bs q g) (hr : DA W m E bs tr fr) : DE W m E (tCB q tr) (eB g fr) := by
  intro H0 ρ ω σ Hc H ow S Q h
  refine hr H0 ρ ω σ Hc H ow S _ ((Aft.bnd h).imp fun us ω1 Hc1 H1 e1 p1 h1 xs rs => ?_)
  revert h1
  cases hg : g us with
  | none => exact fun h1 => h1.elim
  | some u => exact fun h1 => o Hc1 H1 ω1 us xs e1.sub p1 rs u hg Q fun v Hc' H' e p rv => h1 Hc' H' e p v rv
theorem RBs.one {Hc H : Hp} {u : U} {vs : List V} (h : RBs W Hc H [true] [u] vs) : ∃ v, vs = [v] ∧ RB W Hc H u v := by
  match vs, h with
  | [], h => unfold RBs at h; exact h.elim
  | [v], h => unfold RBs at h; exact ⟨v, rfl, h.1⟩
  | v :: w :: r, h => unfold RBs at h; have h2 := h.2; unfold RBs at h2; exact h2.elim
theorem RBs.two {Hc H : Hp} {u u' : U} {vs : List V} (h : RBs W Hc H [true, true] [u, u'] vs) : ∃ v v', vs = [v, v'] ∧ RB W Hc H u v ∧ RB W Hc H u' v' := by
  match vs, h with
  | [], h => unfold RBs at h; exact h.elim
  | v :: r, h =>
    unfold RBs at h
    obtain ⟨v', e, q⟩ := RBs.one h.2
    exact ⟨v, v', by rw [e], h.1, q⟩
noncomputable def uLen : List U → Option U
  | [.lst us] => some (.int us.length)
  | [.tup us] => some (.int us.length)
  | [.scr ns] => some (.int ns.length)
  | _ => none
theorem cu_len : CallU W [true] (rLen W.K) uLen := by
  intro Hc H ω us vs s p rs u e Q k
  unfold uLen at e; split at e
  · cases e; obtain ⟨v, rfl, rv⟩ := rs.one; obtain ⟨a, vs, rfl, h1, r1⟩ := rv.lst s
    exact ⟨a, vs, rfl, .inl (.of h1), by rw [← r1.len]; exact k _ Hc H (Ext.refl s) p .int⟩
  · cases e; obtain ⟨v, rfl, rv⟩ := rs.one; obtain ⟨a, vs, rfl, h1, r1⟩ := rv.tup
    exact ⟨a, vs, rfl, .inr (.of (s _ _ h1)), by rw [← r1.len]; exact k _ Hc H (Ext.refl s) p .int⟩
  · cases e; obtain ⟨v, rfl, rv⟩ := rs.one; obtain ⟨a, rfl, h1⟩ := rv.scr
    exact ⟨a, _, rfl, .inl (s.seq h1), by rw [List.length_map]; exact k _ Hc H (Ext.refl s) p .int⟩
  · cases e
noncomputable def uTuple : List U → Option U
  | [.lst us] => some (.tup us)
  | [.tup us] => some (.tup us)
  | _ => none
theorem cu_tuple : CallU W [true] (rTupOf W.K) uTuple := by
  intro Hc H ω us vs s p rs u e Q k
  unfold uTuple at e; split at e
  · cases e; obtain ⟨v, rfl, rv⟩ := rs.one; obtain ⟨a, vs, rfl, h1, r1⟩ := rv.lst s
    exact ⟨a, vs, rfl, .inl ⟨.of h1, fun l n => k _ _ _ (laid_e s p n).1 (laid_e s p n).2 (.tup upd_same (r1.mono (Same.laid (s.free n))))⟩⟩
  · cases e; obtain ⟨v, rfl, rv⟩ := rs.one; obtain ⟨a, vs, rfl, h1, r1⟩ := rv.tup
    exact ⟨a, vs, rfl, .inr ⟨.of (s _ _ h1), k _ Hc H (Ext.refl s) p (.tup h1 r1)⟩⟩
  · cases e
noncomputable def asInts : List U → Option (List Int)
  | [] => some []
  | .int i :: us => (asInts us).map (i :: ·)
  | _ => none
theorem asInts_map : ∀ ns : List Int, asInts (ns.map U.int) = some ns
  | [] => rfl
  | n :: ns => by rw [List.map_cons, asInts, asInts_map ns]; rfl
theorem asInts_of : ∀ {us : List U} {ns : List Int}, asInts us = some ns → us = ns.map U.int
  | [], ns, h => by cases h; rfl
  | u :: us, ns, h => by
    unfold asInts at h
    split at h
    · rename_i e; cases e
    · rename_i i us' e
      cases e
      cases q : asInts us with
      | none => rw [q] at h; exact noS h
      | some ms => rw [q] at h; cases h; rw [List.map_cons, ← asInts_of q]
    · cases h
noncomputable def uMax2 : List U → Option U
  | [.int a, .int b] => some (.int (max a b))
  | _ => none
theorem cu_max2 : CallU W [true, true] rMax uMax2 := by
  intro Hc H ω us vs s p rs u e Q k
  unfold uMax2 at e; split at e
  · cases e; obtain ⟨v, v', rfl, r1, r2⟩ := rs.two
    have := r1.int; subst this; have := r2.int; subst this
    refine ⟨_, _, rfl, ?_⟩
    rename_i a b
    have z : (if b > a then b else a) = max a b := by split <;> lia
    rw [z]; exact k _ Hc H (Ext.refl s) p .int
  · cases e
noncomputable def uMin2 : List U → Option U
  | [.int a, .int b] => some (.int (min a b))
  | _ => none
theorem cu_min2 : CallU W [true, true] rMin uMin2 := by
  intro Hc H ω us vs s p rs u e Q k
  unfold uMin2 at e; split at e
  · cases e; obtain ⟨v, v', rfl, r1, r2⟩ := rs.two
    have := r1.int; subst this; have := r2.int; subst this
    refine ⟨_, _, rfl, ?_⟩
    rename_i a b
    have z : (if b < a then b else a) = min a b := by split <;> lia
    rw [z]; exact k _ Hc H (Ext.refl s) p .int
  · cases e
noncomputable def rAbs : List V → Hp → VK → Prop := fun xs H Q => ∃ i, xs = [.int i] ∧ Q (.int (if i < 0 then -i else i)) H
theorem call_absU {X : Cx} : CallR X (.builtin "abs") rAbs := call_abs
noncomputable def uAbs : List U → Option U
  | [.int a] => some (.int (if a < 0 then -a else a))
  | _ => none
theorem cu_abs : CallU W [true] rAbs uAbs := by
  intro Hc H ω us vs s p rs u e Q k
  unfold uAbs at e; split at e
  · cases e; obtain ⟨v, rfl, r1⟩ := rs.one
    have := r1.int; subst this
    exact ⟨_, rfl, k _ Hc H (Ext.refl s) p .int⟩
  · cases e
noncomputable abbrev Ff := List U → Om → Res U
noncomputable def spU (K : PySem.W.Frag) (mg : L2.SV) (wk : Wd → Prop) (n : Nat) (bs : List Bool) (F : Ff) : Sp := fun vs H Q E => ∃ (W : Wd) (us : List U) (ω : Om) (Hc : Hp), W.K = K ∧ W.mg = mg ∧ wk W ∧ vs.length = n ∧ Same Hc H ∧ PlOk W ω Hc H ∧ RBs W Hc H bs us vs ∧
  Aft W E Hc H (F us ω) (fun u ψ Hc' H' => ∀ v, RU W Hc' u v → Q v H')
noncomputable def eCall (F : Ff) (fr : Af) : Ef := fun ρ ω => (fr ρ ω).bnd F
theorem RBs.len {Hc H : Hp} : ∀ {bs : List Bool} {us : List U} {vs : List V}, RBs W Hc H bs us vs → vs.length = bs.length ∧ us.length = bs.length
  | [], [], [], _ => ⟨rfl, rfl⟩
  | b :: bs, u :: us, v :: vs, h => by unfold RBs at h; simp [(RBs.len h.2).1, (RBs.len h.2).2]
  | [], _ :: _, _, h => by unfold RBs at h; exact h.elim
  | [], [], _ :: _, h => by unfold RBs at h; exact h.elim
  | _ :: _, [], _, h => by unfold RBs at h; exact h.elim
  | _ :: _, _ :: _, [], h => by unfold RBs at h; exact h.elim
theorem de_call {K : PySem.W.Frag} {mg : L2.SV} {wk : Wd → Prop} {F : Ff} (hK : W.K = K) (hm : W.mg = mg) (hw : wk W) (hr : DA W m E bs tr fr) : DE W m E (tCall (spU K mg wk bs.length bs F) [] E tr) (eCall F fr) := by
  intro H0 ρ ω σ Hc H ow S Q h
  refine rd_call (hr H0 ρ ω σ Hc H ow S _ ((Aft.bnd h).imp fun us ω1 Hc1 H1 e1 p1 h1 xs rs => ?_))
  exact ⟨W, us, ω1, Hc1, hK, hm, hw, rs.len.1, e1.sub, p1, rs, h1⟩
end
section
variable {W : Wd} {m : Md} {ρ : En} {ω ω' : Om} {σ : St} {H0 Hc0 Hc H Hc' H' : Hp} {ow : Nat → Addr} {i : Nat} {u : U} {v : V}
theorem set_at {α : Type} {xs : List (Option α)} {i j : Nat} {a u : α} (h : (xs.set i (some a))[j]? = some (some u)) : (j = i ∧ u = a ∧ i < xs.length) ∨ (j ≠ i ∧ xs[j]? = some (some u)) := by
  rw [List.getElem?_set] at h
  by_cases e : i = j
  · subst e
    rw [if_pos rfl] at h
    by_cases l : i < xs.length
    · rw [if_pos l] at h; cases h; exact .inl ⟨rfl, rfl, l⟩
    · rw [if_neg l] at h; cases h
  · rw [if_neg e] at h; exact .inr ⟨fun z => e z.symm, h⟩
theorem at_set {α : Type} {xs : List (Option α)} {i : Nat} {a : α} (h : i < xs.length) : (xs.set i (some a))[i]? = some (some a) := by
  rw [List.getElem?_set, if_pos rfl, if_pos h]
theorem at_set_ne {α : Type} {xs : List (Option α)} {i j : Nat} {a : Option α} (h : j ≠ i) : (xs.set i a)[j]? = xs[j]? := by
  rw [List.getElem?_set, if_neg fun z => h z.symm]
theorem Sr.set (S : Sr W m ρ ω σ H0 Hc H ow) (h1 : i ∉ m.B) (h2 : i ∉ m.M) (r : RU W Hc u v) : Sr W m (ρ.set i (some u)) ω (σ.set i (some v)) H0 Hc H ow := by
  refine ⟨S.sub, S.s0, S.p0, by simp [S.len], S.pl, fun j w n1 n2 h => ?_, fun j w n1 n2 h => ?_, fun j w n h => ?_, fun j k a b n1 n2 ne hj hk => ?_⟩
  · rcases set_at h with ⟨rfl, rfl, l⟩ | ⟨e, h⟩
    · exact ⟨v, at_set (by rw [← S.len]; exact l), r⟩
    · rw [at_set_ne e]; exact S.cl j w n1 n2 h
  · rcases set_at h with ⟨rfl, rfl, l⟩ | ⟨e, h⟩
    · exact absurd n1 h1
    · rw [at_set_ne e]; exact S.bo j w n1 n2 h
  · rcases set_at h with ⟨rfl, rfl, l⟩ | ⟨e, h⟩
    · exact absurd n h2
    · rw [at_set_ne e]; exact S.mu j w n h
  · rcases set_at hj with ⟨rfl, rfl, l⟩ | ⟨e, hj⟩
    · exact absurd n1 h2
    · rcases set_at hk with ⟨rfl, rfl, l⟩ | ⟨e, hk⟩
      · exact absurd n2 h2
      · exact S.di j k a b n1 n2 ne hj hk
theorem Sr.drop (S : Sr W m ρ ω σ H0 Hc H ow) (x : Option V) : Sr W m (ρ.set i none) ω (σ.set i x) H0 Hc H ow := by
  have key : ∀ {j : Nat} {w : U}, (ρ.set i none)[j]? = some (some w) → j ≠ i ∧ ρ[j]? = some (some w) := fun {j w} h => by
    rw [List.getElem?_set] at h
    by_cases e : i = j
    · rw [if_pos e] at h; split at h <;> cases h
    · rw [if_neg e] at h; exact ⟨fun z => e z.symm, h⟩
  refine ⟨S.sub, S.s0, S.p0, by simp [S.len], S.pl, fun j w n1 n2 h => ?_, fun j w n1 n2 h => ?_, fun j w n h => ?_, fun j k a b n1 n2 ne hj hk => S.di j k a b n1 n2 ne (key hj).2 (key hk).2⟩
  · obtain ⟨e, h⟩ := key h; rw [at_set_ne e]; exact S.cl j w n1 n2 h
  · obtain ⟨e, h⟩ := key h; rw [at_set_ne e]; exact S.bo j w n1 n2 h
  · obtain ⟨e, h⟩ := key h; rw [at_set_ne e]; exact S.mu j w n h
theorem Sr.own {a : Addr} {us : List U} {vs : List V} (S : Sr W m ρ ω σ H0 Hc H ow) (hi : i ∈ m.M) (hb : i ∉ m.B) (n1 : Hc a = none) (n0 : H0 a = none) (ha : H a = some (.lst vs)) (r : RUs W Hc us vs) (ap : ∀ j w, j ∈ m.M → j ≠ i → ρ[j]? = some (some w) → ow j ≠ a) :
    Sr W m (ρ.set i (some (.lst us))) ω (σ.set i (some (.ref a))) H0 Hc H (fun j => if j = i then a else ow j) := by
  refine ⟨S.sub, S.s0, S.p0, by simp [S.len], S.pl, fun j w n1 n2 h => ?_, fun j w n1 n2 h => ?_, fun j w n h => ?_, fun j k x y m1 m2 ne hj hk => ?_⟩
  · rcases set_at h with ⟨rfl, rfl, l⟩ | ⟨e, h⟩
    · exact absurd hi n2
    · rw [at_set_ne e]; exact S.cl j w n1 n2 h
  · rcases set_at h with ⟨rfl, rfl, l⟩ | ⟨e, h⟩
    · exact absurd hi n2
    · rw [at_set_ne e]; exact S.bo j w n1 n2 h
  · rcases set_at h with ⟨rfl, rfl, l⟩ | ⟨e, h⟩
    · refine ⟨us, vs, rfl, ?_, ?_, ?_, ?_, r⟩
      · rw [if_pos rfl]; exact at_set (by rw [← S.len]; exact l)
      · rw [if_pos rfl]; exact ha
      · rw [if_pos rfl]; exact n1
      · rw [if_pos rfl]; exact n0
    · obtain ⟨us', vs', z1, z2, z3, z4, z5, z6⟩ := S.mu j w n h
      refine ⟨us', vs', z1, ?_, ?_, ?_, ?_, z6⟩
      · rw [at_set_ne e, if_neg e]; exact z2
      · rw [if_neg e]; exact z3
      · rw [if_neg e]; exact z4
      · rw [if_neg e]; exact z5
  · rcases set_at hj with ⟨rfl, rfl, l⟩ | ⟨e, hj1⟩
    · rcases set_at hk with ⟨rfl, rfl, l⟩ | ⟨e', hk⟩
      · exact absurd rfl ne
      · rw [if_pos rfl, if_neg e']; exact fun z => ap k y m2 e' hk z.symm
    · clear hj
      rcases set_at hk with ⟨e1, e2, l⟩ | ⟨e', hk⟩
      · rw [e1, if_pos rfl, if_neg e]; exact ap j x m1 e (by assumption)
      · rw [if_neg e, if_neg e']; exact S.di j k x y m1 m2 ne hj1 hk
theorem Sr.mut {us us' : List U} {vs' : List V} (S : Sr W m ρ ω σ H0 Hc H ow) (hi : i ∈ m.M) (e : ρ[i]? = some (some (.lst us))) (r : RUs W Hc us' vs') : Sr W m (ρ.set i (some (.lst us'))) ω σ H0 Hc (upd H (ow i) (.lst vs')) ow := by
  obtain ⟨us0, vs0, z1, z2, z3, z4, z5, z6⟩ := S.mu i _ hi e
  have nl := S.nl z5
  have li : i < ρ.length := (List.getElem?_eq_some_iff.mp e).1
  refine ⟨fun b o h => ?_, fun b o n h => ?_, S.p0, by simp [S.len], ⟨W.st _ _ _ S.pl.pl fun b o h hb => ?_, fun b hb => ⟨(S.pl.out b hb).1, ?_⟩⟩, fun j w n1 n2 h => ?_, fun j w n1 n2 h => ?_, fun j w n h => ?_, fun j k x y m1 m2 ne hj hk => ?_⟩
  · rw [upd_ne (fun z => by rw [z, z4] at h; cases h)]; exact S.sub b o h
  · rw [upd_ne (fun z => by rw [z, z5] at h; cases h)]; exact S.s0 b o n h
  · refine (upd_ne fun z => ?_).trans h
    rcases hb with hb | ⟨x, y, hb⟩
    · exact nl (z ▸ hb)
    · rw [z, z3] at h; cases h; cases hb
  · by_cases z : b = ow i
    · rw [z, upd_same]; simp
    · rw [upd_ne z]; exact (S.pl.out b hb).2
  · rcases set_at h with ⟨rfl, rfl, l⟩ | ⟨e', h⟩
    · exact absurd hi n2
    · exact S.cl j w n1 n2 h
  · rcases set_at h with ⟨rfl, rfl, l⟩ | ⟨e', h⟩
    · exact absurd hi n2
    · exact S.bo j w n1 n2 h
  · rcases set_at h with ⟨rfl, rfl, l⟩ | ⟨e', h⟩
    · exact ⟨us', vs', rfl, z2, upd_same, z4, z5, r⟩
    · obtain ⟨us1, vs1, y1, y2, y3, y4, y5, y6⟩ := S.mu j w n h
      exact ⟨us1, vs1, y1, y2, by rw [upd_ne (S.di j i w _ n hi e' h e)]; exact y3, y4, y5, y6⟩
  · rcases set_at hj with ⟨rfl, rfl, l⟩ | ⟨e1, hj1⟩
    · rcases set_at hk with ⟨rfl, rfl, l⟩ | ⟨e2, hk⟩
      · exact absurd rfl ne
      · exact S.di j k _ y m1 m2 ne e hk
    · rcases set_at hk with ⟨e3, e4, l⟩ | ⟨e2, hk⟩
      · rw [e3]; exact S.di j i x _ m1 hi e1 hj1 e
      · exact S.di j k x y m1 m2 ne hj1 hk
theorem Sr.mutE {us : List U} {vs' : List V} (S : Sr W m ρ ω σ H0 Hc H ow) (hi : i ∈ m.M) (e : ρ[i]? = some (some (.lst us))) (x : Ext W Hc0 H0 Hc H) : Ext W Hc0 H0 Hc (upd H (ow i) (.lst vs')) := by
  obtain ⟨us0, vs0, z1, z2, z3, z4, z5, z6⟩ := S.mu i _ hi e
  refine ⟨fun b o n h => ?_, x.sc, fun b o h => ?_, x.new, fun b h => ?_⟩
  · rw [upd_ne (fun z => by rw [z, z5] at h; cases h)]; exact x.same b o n h
  · rw [upd_ne (fun z => by rw [z, z4] at h; cases h)]; exact x.sub b o h
  · by_cases z : b = ow i
    · rw [z, upd_same]; simp
    · rw [upd_ne z]; exact x.frz b h
theorem Sr.freeze (M' : List Nat) (hM : ∀ i ∈ M', i ∈ m.M) (hB : ∀ i ∈ m.M, i ∉ m.B) (S : Sr W m ρ ω σ H0 Hc H ow) (x : Ext W Hc0 H0 Hc H) : ∃ Hc', Sr W ⟨m.B, M'⟩ ρ ω σ H0 Hc' H ow ∧ Ext W Hc0 H0 Hc' H := by
  classical
  let P : Addr → Prop := fun b => ∃ i w, i ∈ m.M ∧ i ∉ M' ∧ ρ[i]? = some (some w) ∧ ow i = b
  have hP : ∀ b, P b → Hc b = none ∧ H0 b = none ∧ b ∉ W.L := fun b ⟨i, w, h1, h2, h3, h4⟩ => by
    obtain ⟨us0, vs0, z1, z2, z3, z4, z5, z6⟩ := S.mu i _ h1 h3
    rw [← h4]; exact ⟨z4, z5, S.nl z5⟩
  have sc : Same Hc (fun b => if P b then H b else Hc b) := fun b o h => by
    have : ¬ P b := fun p => by rw [(hP b p).1] at h; cases h
    show (if P b then H b else Hc b) = _
    rw [if_neg this]; exact h
  refine ⟨fun b => if P b then H b else Hc b, ⟨fun b o h => ?_, S.s0, S.p0, S.len, ⟨S.pl.pl, fun b hb => ⟨?_, (S.pl.out b hb).2⟩⟩, fun j w n1 n2 h => ?_, fun j w n1 n2 h => ?_, fun j w n h => ?_, fun j k a b m1 m2 ne hj hk => S.di j k a b (hM j m1) (hM k m2) ne hj hk⟩, ⟨x.same, fun b o h => sc b o (x.sc b o h), fun b o h => ?_, fun b h1 h2 => ?_, x.frz⟩⟩
  · by_cases p : P b
    · simpa [p] using h
    · simp only [p, if_false] at h; exact S.sub b o h
  · have : ¬ P b := fun p => (hP b p).2.2 hb
    show (if P b then H b else Hc b) = none
    rw [if_neg this]; exact (S.pl.out b hb).1
  · by_cases q : j ∈ m.M
    · obtain ⟨us0, vs0, z1, z2, z3, z4, z5, z6⟩ := S.mu j _ q h
      refine ⟨_, z2, ?_⟩
      subst z1
      exact .lst (by show (if P (ow j) then H (ow j) else Hc (ow j)) = _; rw [if_pos ⟨j, _, q, n2, h, rfl⟩]; exact z3) (z6.mono sc)
    · obtain ⟨v, q1, q2⟩ := S.cl j w n1 q h
      exact ⟨v, q1, q2.mono sc⟩
  · have q : j ∉ m.M := fun z => hB j z n1
    obtain ⟨v, q1, q2⟩ := S.bo j w n1 q h
    refine ⟨v, q1, ?_⟩
    rcases q2 with q2 | ⟨us, a, vs, y1, y2, y3, y4, y5⟩
    · exact .inl (q2.mono sc)
    · exact .inr ⟨us, a, vs, y1, y2, y3, y4, y5.mono sc⟩
  · obtain ⟨us0, vs0, z1, z2, z3, z4, z5, z6⟩ := S.mu j _ (hM j n) h
    refine ⟨us0, vs0, z1, z2, z3, ?_, z5, z6.mono sc⟩
    have : ¬ P (ow j) := fun ⟨k, w', h1, h2, h3, h4⟩ => by
      have ne : k ≠ j := fun z => h2 (z ▸ n)
      exact S.di k j w' w h1 (hM j n) ne h3 h h4
    show (if P (ow j) then H (ow j) else Hc (ow j)) = none
    rw [if_neg this]; exact z4
  · by_cases p : P b
    · simpa [p] using h
    · simp only [p, if_false] at h; exact x.sub b o h
  · have : ¬ P b := fun p => h2 (hP b p).2.1
    show (if P b then H b else Hc b) = none
    rw [if_neg this]; exact x.new b h1 h2
end
section
variable {W : Wd} {m : Md} {E : XK} {ta tb tc te : TE} {fa fb fc fe : Ef} {tt : TT} {ft : Tf} {i : Nat} {r : R2} {g : U → U → Option U} {bs : List Bool} {tr : TA} {fr : Af} {t1 t2 ts : TS} {g1 g2 gs : Sf}
noncomputable def Fl.of {α : Type} (r : Res α) (k : α → Om → Fl) : Fl := match r with
  | .ok a ω => k a ω
  | .err c p ω => .err c p ω
  | .stk => .stk
@[simp] theorem Fl.of_ok {α : Type} {a : α} {ω : Om} {k : α → Om → Fl} : Fl.of (.ok a ω) k = k a ω := rfl
@[simp] theorem Fl.of_err {α : Type} {c : Str} {p : Option Int} {ω : Om} {k : α → Om → Fl} : Fl.of (.err c p ω : Res α) k = .err c p ω := rfl
@[simp] theorem Fl.of_stk {α : Type} {k : α → Om → Fl} : Fl.of (.stk : Res α) k = .stk := rfl
theorem Cont.of {α : Type} {Hc0 H0 Hc H : Hp} {D : Ends} {r : Res α} {k : α → Om → Fl} (x : Ext W Hc0 H0 Hc H) (h : Cont W m E Hc0 H0 D (Fl.of r k)) : Aft W E Hc H r fun a ω ψ ψ => Cont W m E Hc0 H0 D (k a ω) := by
  cases r with
  | ok a ω => exact fun Hc' H' e p => h
  | err c pl ω => exact fun C od Hc' H' e p hm hx => h C od Hc' H' (x.trans e) p hm hx
  | stk => exact h
noncomputable def sSeq (g1 g2 : Sf) : Sf := fun ρ ω => match g1 ρ ω with
  | .nx ρ' ω' => g2 ρ' ω'
  | o => o
theorem ds_seq (h1 : DS W m E t1 g1) (h2 : DS W m E t2 g2) : DS W m E (tSeq t1 t2) (sSeq g1 g2) := by
  intro H0 Hc0 ρ ω σ Hc H ow S x D h
  refine h1 H0 Hc0 ρ ω σ Hc H ow S x { D with nx := t2 D } ?_
  unfold sSeq at h
  revert h
  cases g1 ρ ω with
  | nx ρ' ω' => exact fun h σ' Hc' H' ow' S' x' => h2 H0 Hc0 ρ' ω' σ' Hc' H' ow' S' x' D h
  | _ => exact fun h => h
noncomputable def sNext : Sf := fun ρ ω => .nx ρ ω
theorem ds_next : DS W m E tNext sNext := fun H0 Hc0 ρ ω σ Hc H ow S x D h => h σ Hc H ow S x
noncomputable def sIf (ft : Tf) (g1 g2 : Sf) : Sf := fun ρ ω => Fl.of (ft ρ ω) fun b ω1 => if b = true then g1 ρ ω1 else g2 ρ ω1
theorem ds_if (hc : DT W m E tt ft) (h1 : DS W m E t1 g1) (h2 : DS W m E t2 g2) : DS W m E (tIfS tt t1 t2) (sIf ft g1 g2) := by
  intro H0 Hc0 ρ ω σ Hc H ow S x D h
  refine hc H0 ρ ω σ Hc H ow S _ ((Cont.of x h).imp fun b ω1 Hc1 H1 e1 p1 k => ?_)
  cases b with
  | true => exact h1 H0 Hc0 ρ ω1 σ Hc1 H1 ow (S.ext e1 p1) (x.trans e1) D k
  | false => exact h2 H0 Hc0 ρ ω1 σ Hc1 H1 ow (S.ext e1 p1) (x.trans e1) D k
noncomputable def sSet (i : Nat) (fa : Ef) : Sf := fun ρ ω => Fl.of (fa ρ ω) fun u ω1 => .nx (ρ.set i (some u)) ω1
theorem ds_set (h1 : i ∉ m.B) (h2 : i ∉ m.M) (ha : DE W m E ta fa) : DS W m E (tAsg ta (gName i)) (sSet i fa) := by
  intro H0 Hc0 ρ ω σ Hc H ow S x D h
  refine ha H0 ρ ω σ Hc H ow S _ ((Cont.of x h).imp fun u ω1 Hc1 H1 e1 p1 k v rv => ?_)
  exact k _ Hc1 H1 ow ((S.ext e1 p1).set h1 h2 rv) (x.trans e1)
theorem ds_own (h1 : i ∉ m.B) (h2 : i ∈ m.M) (ha : DF W m E ta fa) : DS W m E (tAsg ta (gName i)) (sSet i fa) := by
  intro H0 Hc0 ρ ω σ Hc H ow S x D h
  refine ha H0 ρ ω σ Hc H ow S _ ((Cont.of x h).imp fun u ω1 Hc1 H1 e1 p1 k us a vs hu n1 n2 ha rr => ?_)
  subst hu
  have S1 := S.ext e1 p1
  have n0 : H0 a = none := by
    cases q : H0 a with
    | none => rfl
    | some o =>
      by_cases l : a ∈ W.L
      · exact absurd n2 (S.pl.out a l).2
      · rw [S.s0 a o l q] at n2; cases n2
  refine k _ Hc1 H1 _ (S1.own h2 h1 n1 n0 ha rr fun j w hj ψ hw z => ?_) (x.trans e1)
  obtain ⟨us0, vs0, z1, z2, z3, z4, z5, z6⟩ := S.mu j _ hj hw
  rw [z, n2] at z3; cases z3
noncomputable def sRet (fa : Ef) : Sf := fun ρ ω => Fl.of (fa ρ ω) fun u ω1 => .rt u ω1
theorem ds_ret (hB : ∀ i ∈ m.M, i ∉ m.B) (ha : DE W ⟨m.B, []⟩ E ta fa) : DS W m E (tRet ta) (sRet fa) := by
  intro H0 Hc0 ρ ω σ Hc H ow S x D h
  obtain ⟨Hf, Sf', xf⟩ := S.freeze [] (fun ψ z => absurd z (by simp)) hB x
  refine ha H0 ρ ω σ Hf H ow Sf' _ ((Cont.of xf h).imp fun u ω1 Hc1 H1 e1 p1 k v rv => ?_)
  exact k v Hc1 H1 (xf.trans e1) p1 rv
noncomputable def sAug (i : Nat) (g : U → U → Option U) (fa : Ef) : Sf := fun ρ ω => match ρ[i]? with
  | some (some a) => Fl.of (fa ρ ω) fun b ω1 => match g a b with
    | some c => .nx (ρ.set i (some c)) ω1
    | none => .stk
  | _ => .stk
theorem ds_aug (h1 : i ∉ m.B) (h2 : i ∉ m.M) (o : OpU W r g) (ha : DB W m E ta fa) : DS W m E (tAug i ta r) (sAug i g fa) := by
  intro H0 Hc0 ρ ω σ Hc H ow S x D h
  unfold sAug at h
  split at h
  · rename_i a e
    obtain ⟨va, q, ra⟩ := S.get e
    refine ⟨va, q, ha H0 ρ ω σ Hc H ow S _ ((Cont.of x h).imp fun b ω1 Hc1 H1 e1 p1 k y ry => ?_)⟩
    revert k
    cases hg : g a b with
    | none => exact fun k => k.elim
    | some c => exact fun k => o Hc1 H1 ω1 a b va y e1.sub p1 (ra.ext e1) ry c hg _ fun v Hc' H' e p rv => k _ Hc' H' ow (((S.ext e1 p1).ext e p).set h1 h2 rv) ((x.trans e1).trans e)
  · exact h.elim
open Classical in
noncomputable def sApp (i : Nat) (fa : Ef) : Sf := fun ρ ω => match ρ[i]? with
  | some (some (.lst us)) => Fl.of (fa ρ ω) fun u ω1 => if us.length < sizeLine then .nx (ρ.set i (some (.lst (us ++ [u])))) ω1 else .stk
  | _ => .stk
theorem ds_app {K : PySem.W.Frag} (h2 : i ∈ m.M) (ha : DE W m E ta fa) : DS W m E (tDrop (tBM K "list" rAppend (tVar i) (tCons ta tNil))) (sApp i fa) := by
  intro H0 Hc0 ρ ω σ Hc H ow S x D h
  unfold sApp at h
  split at h
  · rename_i us e
    obtain ⟨us0, vs0, z1, z2, z3, z4, z5, z6⟩ := S.mu i _ h2 e
    cases z1
    refine ⟨_, z2, .inl ⟨rfl, vs0, .of z3⟩, ha H0 ρ ω σ Hc H ow S _ ((Cont.of x h).imp fun u ω1 Hc1 H1 e1 p1 k v rv => ?_)⟩
    revert k
    split
    · intro k
      have S1 := S.ext e1 p1
      refine ⟨ow i, vs0, v, rfl, rfl, e1.same _ _ (S.nl z5) z3, by rw [← z6.len]; assumption, ?_⟩
      exact k _ Hc1 _ ow (S1.mut h2 e ((z6.mono e1.sc).app (.one rv))) (S1.mutE h2 e (x.trans e1))
    · exact fun k => k.elim
  · exact h.elim
noncomputable def sRevM (i : Nat) : Sf := fun ρ ω => match ρ[i]? with
  | some (some (.lst us)) => .nx (ρ.set i (some (.lst us.reverse))) ω
  | _ => .stk
theorem ds_revM {K : PySem.W.Frag} (h2 : i ∈ m.M) : DS W m E (tDrop (tBM0 K "list" rReverse (tVar i))) (sRevM i) := by
  intro H0 Hc0 ρ ω σ Hc H ow S x D h
  unfold sRevM at h
  split at h
  · rename_i us e
    obtain ⟨us0, vs0, z1, z2, z3, z4, z5, z6⟩ := S.mu i _ h2 e
    cases z1
    exact ⟨_, z2, .inl ⟨rfl, vs0, .of z3⟩, ow i, vs0, rfl, rfl, z3, h _ Hc _ ow (S.mut h2 e z6.rev) (S.mutE h2 e x)⟩
  · exact h.elim
noncomputable def DG (W : Wd) (m : Md) (g : TG) (a : U → En → Option En) : Prop := ∀ H0 ρ ω σ Hc H ow u v ρ', Sr W m ρ ω σ H0 Hc H ow → RU W Hc u v → a u ρ = some ρ' → ∀ Q : St → Hp → Prop, (∀ σ', Sr W m ρ' ω σ' H0 Hc H ow → Q σ' H) → g v σ H Q
noncomputable def DGs (W : Wd) (m : Md) (g : TGs) (a : List U → En → Option En) : Prop := ∀ H0 ρ ω σ Hc H ow us vs ρ', Sr W m ρ ω σ H0 Hc H ow → RUs W Hc us vs → a us ρ = some ρ' → ∀ Q : St → Hp → Prop, (∀ σ', Sr W m ρ' ω σ' H0 Hc H ow → Q σ' H) → g vs σ H Q
noncomputable def aName (i : Nat) : U → En → Option En := fun u ρ => some (ρ.set i (some u))
theorem dg_name (h1 : i ∉ m.B) (h2 : i ∉ m.M) : DG W m (gName i) (aName i) := fun H0 ρ ω σ Hc H ow u v ρ' S r e Q k => by
  cases e
  exact k _ (S.set h1 h2 r)
noncomputable def aNilT : List U → En → Option En := fun us ρ => match us with
  | [] => some ρ
  | _ => none
noncomputable def aConsT (a : U → En → Option En) (b : List U → En → Option En) : List U → En → Option En := fun us ρ => match us with
  | u :: r => (a u ρ).bind (b r)
  | _ => none
theorem dgs_nil : DGs W m gNil aNilT := fun H0 ρ ω σ Hc H ow us vs ρ' S r e Q k => by
  unfold aNilT at e
  split at e
  · cases e; rw [RUs] at r; exact ⟨r, k _ S⟩
  · cases e
theorem dgs_cons {g : TG} {gg : TGs} {a : U → En → Option En} {b : List U → En → Option En} (h1 : DG W m g a) (h2 : DGs W m gg b) : DGs W m (gCons g gg) (aConsT a b) := fun H0 ρ ω σ Hc H ow us vs ρ' S r e Q k => by
  unfold aConsT at e
  split at e
  · rename_i u rest
    rw [RUs] at r
    obtain ⟨v, vr, rfl, r1, r2⟩ := r
    cases q : a u ρ with
    | none => rw [q] at e; exact noS e
    | some ρ1 =>
      rw [q] at e
      exact ⟨v, vr, rfl, h1 H0 ρ ω σ Hc H ow u v ρ1 S r1 q _ fun σ1 S1 => h2 H0 ρ1 ω σ1 Hc H ow rest vr ρ' S1 r2 e Q k⟩
  · cases e
noncomputable def aTup (n : Nat) (b : List U → En → Option En) : U → En → Option En := fun u ρ => match u with
  | .tup us => if us.length = n then b us ρ else none
  | _ => none
theorem dg_tup {n : Nat} {K : PySem.W.Frag} {gg : TGs} {b : List U → En → Option En} (h2 : DGs W m gg b) : DG W m (gTup K n gg) (aTup n b) := fun H0 ρ ω σ Hc H ow u v ρ' S r e Q k => by
  unfold aTup at e
  split at e
  · split at e
    · rw [RU] at r
      obtain ⟨a, vs, rfl, h1, r1⟩ := r
      exact ⟨a, vs, rfl, .of (S.sub _ _ h1), by rw [← r1.len]; assumption, h2 H0 ρ ω σ Hc H ow _ vs ρ' S r1 e Q k⟩
    · cases e
  · cases e
noncomputable def sAsg (a : U → En → Option En) (fa : Ef) : Sf := fun ρ ω => Fl.of (fa ρ ω) fun u ω1 => match a u ρ with
  | some ρ' => .nx ρ' ω1
  | none => .stk
end
noncomputable def ItR (W : Wd) (Hb Hc : Hp) (J : It) (us : List U) : Prop := ∀ Hc2 H2, Same Hc Hc2 → Same Hc2 H2 → (∀ b o, b ∉ W.L → Hb b = some o → H2 b = some o) →
  (∀ i u, us[i]? = some u → J.go i H2 ∧ ∀ x H3, J.yld i H2 x H3 → ∃ Hc3, Ext W Hc2 H2 Hc3 H3 ∧ Same H2 H3 ∧ RU W Hc3 u x) ∧ J.stop us.length H2
noncomputable def DI (W : Wd) (m : Md) (E : XK) (c : Bool) (t : TI) (f : Af) : Prop := ∀ H0 ρ ω σ Hc H ow, Sr W m ρ ω σ H0 Hc H ow → ∀ R : It → Hp → Prop, Aft W E Hc H (f ρ ω) (fun us ψ Hc' H' => ∀ J, ItR W (if c = true then H' else H0) Hc' J us → R J H') → t σ H R
section
variable {W : Wd} {m : Md} {E : XK} {c : Bool} {ta tb tc te : TE} {fa fb fc fe : Ef} {i : Nat} {bs : List Bool} {tr : TA} {fr : Af}
noncomputable def iSeq (K : PySem.W.Frag) (tl : TE) : TI := fun σ H R => tl σ H fun x H1 => ∃ a, x = .ref a ∧ (((∃ xs, SqL K H1 a xs) ∧ R (Itl K a) H1) ∨ ((∃ xs, SqT K H1 a xs) ∧ R (Itt K a) H1))
theorem pi_seq {X : Cx} {K : PySem.W.Frag} {l tg : Expr} {tl : TE} (hK : X.K = K) (hl : PE X l tl) : PI X tg l (iSeq K tl) := by
  subst hK
  intro pins s σ H R I h
  refine thn (hl pins s σ H _ I h) fun v s1 ⟨x, H1, I1, r1, q1⟩ => ?_
  obtain ⟨a, e, q1⟩ := q1
  subst e
  cases r1
  rcases q1 with ⟨⟨xs, hq⟩, q⟩ | ⟨⟨xs, hq⟩, q⟩
  · obtain ⟨its, rv, p, hz⟩ := I1.list hq
    refine wpAny_pyIter_list p.isList ?_
    refine ⟨s1.heap.objs.size, [s1.heap.objs.size], _, _, H1, rfl, I1.kept (t' := s1.toks) fun b o e => Heap.get?_push_of_some _ e, turn_list a _, ⟨_, Heap.get?_push_size _ rfl, rfl, rfl⟩, fun b hb => ?_, q⟩
    have e : b = s1.heap.objs.size := by simpa using hb
    subst e
    exact I1.fpOk (Nat.le_refl _) (I1.hok.fresh (Nat.le_refl _))
  · obtain ⟨its, rv, p, hz⟩ := I1.tuple hq
    refine wpAny_pyIter_tuple (show s1.heap.IsTuple a its.toArray from p) ?_
    refine ⟨s1.heap.objs.size, [s1.heap.objs.size], _, _, H1, rfl, I1.kept (t' := s1.toks) fun b o e => Heap.get?_push_of_some _ e, turn_tuple a _, ⟨_, Heap.get?_push_size _ rfl, rfl, rfl⟩, fun b hb => ?_, q⟩
    have e : b = s1.heap.objs.size := by simpa using hb
    subst e
    exact I1.fpOk (Nat.le_refl _) (I1.hok.fresh (Nat.le_refl _))
noncomputable def asSeq : U → Option (List U)
  | .lst us => some us
  | .tup us => some us
  | _ => none
noncomputable def iOf (fa : Ef) : Af := fun ρ ω => (fa ρ ω).bnd fun u ω1 => .of (asSeq u) ω1
theorem itl_r {Hb Hc : Hp} {a : Addr} {us : List U} {vs : List V} (r : RUs W Hc us vs) (k : ∀ Hc2 H2, Same Hc Hc2 → Same Hc2 H2 → (∀ b o, b ∉ W.L → Hb b = some o → H2 b = some o) → H2 a = some (.lst vs)) : ItR W Hb Hc (Itl W.K a) us := by
  intro Hc2 H2 s1 s2 s3
  have ha := k Hc2 H2 s1 s2 s3
  have one : ∀ xs, SqL W.K H2 a xs → SqL W.K H2 a vs → True := fun ψ ψ ψ => trivial
  refine ⟨fun i u hu => ?_, vs, .of ha, by rw [r.len]; exact Nat.le_refl _⟩
  obtain ⟨v, hv, rv⟩ := r.at (i := 0) hu
  refine ⟨⟨vs, v, .of ha, hv⟩, fun x H3 y => ?_⟩
  obtain ⟨rfl, y⟩ := y
  have e : vs[i]? = some x := y vs (.of ha)
  rw [hv] at e; cases e
  exact ⟨Hc2, Ext.refl s2, fun ψ ψ h => h, rv.mono s1⟩
theorem itt_r {Hb Hc : Hp} {a : Addr} {us : List U} {vs : List V} (r : RUs W Hc us vs) (h : Hc a = some (.tup vs)) : ItR W Hb Hc (Itt W.K a) us := by
  intro Hc2 H2 s1 s2 s3
  have ha := s2 _ _ (s1 _ _ h)
  refine ⟨fun i u hu => ?_, vs, .of ha, by rw [r.len]; exact Nat.le_refl _⟩
  obtain ⟨v, hv, rv⟩ := r.at (i := 0) hu
  refine ⟨⟨vs, v, .of ha, hv⟩, fun x H3 y => ?_⟩
  obtain ⟨rfl, y⟩ := y
  have e : vs[i]? = some x := y vs (.of ha)
  rw [hv] at e; cases e
  exact ⟨Hc2, Ext.refl s2, fun ψ ψ h => h, rv.mono s1⟩
theorem di_e (ha : DE W m E ta fa) : DI W m E c (iSeq W.K ta) (iOf fa) := by
  intro H0 ρ ω σ Hc H ow S R h
  refine ha H0 ρ ω σ Hc H ow S _ ((Aft.bnd h).imp fun u ω1 Hc1 H1 e1 p1 h1 v rv => ?_)
  revert h1
  cases u with
  | lst us =>
    intro h1
    rw [RU] at rv
    obtain ⟨a, vs, rfl, q, r⟩ := rv
    exact ⟨a, rfl, .inl ⟨⟨vs, .of (e1.sub _ _ q)⟩, h1 Hc1 H1 (Ext.refl e1.sub) p1 _ (itl_r r fun Hc2 H2 s1 s2 ψ => s2 _ _ (s1 _ _ q))⟩⟩
  | tup us =>
    intro h1
    rw [RU] at rv
    obtain ⟨a, vs, rfl, q, r⟩ := rv
    exact ⟨a, rfl, .inr ⟨⟨vs, .of (e1.sub _ _ q)⟩, h1 Hc1 H1 (Ext.refl e1.sub) p1 _ (itt_r r q)⟩⟩
  | _ => exact fun h1 => h1.elim
theorem di_v (h2 : i ∉ m.M) : DI W m E c (iSeq W.K (tVar i)) (iOf (eVar i)) := by
  intro H0 ρ ω σ Hc H ow S R h
  unfold iOf eVar at h
  split at h
  · rename_i u e
    by_cases hb : i ∈ m.B
    · obtain ⟨v, q, rv⟩ := S.bo i u hb h2 e
      refine ⟨v, q, ?_⟩
      rcases rv with rv | ⟨us', a, vs, rfl, rfl, nl, q, r⟩
      · revert h
        cases u with
        | lst us =>
          intro h1
          rw [RU] at rv
          obtain ⟨a, vs, rfl, q, r⟩ := rv
          exact ⟨a, rfl, .inl ⟨⟨vs, .of (S.sub _ _ q)⟩, h1 Hc H (Ext.refl S.sub) S.pl _ (itl_r r fun Hc2 H2 s1 s2 ψ => s2 _ _ (s1 _ _ q))⟩⟩
        | tup us =>
          intro h1
          rw [RU] at rv
          obtain ⟨a, vs, rfl, q, r⟩ := rv
          exact ⟨a, rfl, .inr ⟨⟨vs, .of (S.sub _ _ q)⟩, h1 Hc H (Ext.refl S.sub) S.pl _ (itt_r r q)⟩⟩
        | _ => exact fun h1 => h1.elim
      · refine ⟨a, rfl, .inl ⟨⟨vs, .of (S.s0 _ _ nl q)⟩, h Hc H (Ext.refl S.sub) S.pl _ (itl_r r fun Hc2 H2 s1 s2 s3 => ?_)⟩⟩
        cases c with
        | true => exact s3 _ _ nl (S.s0 _ _ nl q)
        | false => exact s3 _ _ nl q
    · have d : DE W m E (tVar i) (eVar i) := de_var hb h2
      refine di_e (c := c) d H0 ρ ω σ Hc H ow S R ?_
      unfold iOf eVar
      rw [e]
      exact h
  · exact h.elim
noncomputable def rngU (lo : Int) (n : Nat) : List U := (List.range n).map fun i : Nat => U.int (lo + (i : Int))
theorem itr_r {Hb Hc : Hp} {lo : Int} {n : Nat} : ItR W Hb Hc (Itr lo n) (rngU lo n) := by
  intro Hc2 H2 s1 s2 s3
  refine ⟨fun i u hu => ?_, by show n ≤ (rngU lo n).length; simp [rngU]⟩
  unfold rngU at hu
  rw [List.getElem?_map] at hu
  have li : i < n := by
    by_cases l : i < n
    · exact l
    · rw [List.getElem?_eq_none (by simpa using l)] at hu; cases hu
  rw [List.getElem?_range li] at hu
  cases hu
  refine ⟨li, fun x H3 y => ?_⟩
  obtain ⟨rfl, rfl⟩ := y
  exact ⟨Hc2, Ext.refl s2, fun ψ ψ h => h, .int⟩
noncomputable def InR (j : Int) : Prop := -(2 ^ 62) ≤ j ∧ j < 2 ^ 62
open Classical in
noncomputable def uR1 : List U → Option (List U)
  | [.int j] => if InR j then some (rngU 0 j.toNat) else none
  | _ => none
open Classical in
noncomputable def uR2 : List U → Option (List U)
  | [.int i, .int j] => if InR i ∧ InR j then some (rngU i (j - i).toNat) else none
  | _ => none
noncomputable def iArgs (g : List U → Option (List U)) (fr : Af) : Af := fun ρ ω => (fr ρ ω).bnd fun us ω1 => .of (g us) ω1
theorem di_r1 (hr : DA W m E [true] tr fr) : DI W m E c (iRng1 tr) (iArgs uR1 fr) := by
  intro H0 ρ ω σ Hc H ow S R h
  refine hr H0 ρ ω σ Hc H ow S _ ((Aft.bnd h).imp fun us ω1 Hc1 H1 e1 p1 h1 vs rs => ?_)
  revert h1
  cases hg : uR1 us with
  | none => exact fun h1 => h1.elim
  | some ws =>
    intro h1
    unfold uR1 at hg
    split at hg
    · split at hg <;> cases hg
      rename_i j hj
      obtain ⟨v, rfl, rv⟩ := rs.one
      have := rv.int; subst this
      exact ⟨j, rfl, hj.1, hj.2, h1 Hc1 H1 (Ext.refl e1.sub) p1 _ itr_r⟩
    · cases hg
theorem di_r2 (hr : DA W m E [true, true] tr fr) : DI W m E c (iRng2 tr) (iArgs uR2 fr) := by
  intro H0 ρ ω σ Hc H ow S R h
  refine hr H0 ρ ω σ Hc H ow S _ ((Aft.bnd h).imp fun us ω1 Hc1 H1 e1 p1 h1 vs rs => ?_)
  revert h1
  cases hg : uR2 us with
  | none => exact fun h1 => h1.elim
  | some ws =>
    intro h1
    unfold uR2 at hg
    split at hg
    · split at hg <;> cases hg
      rename_i i j hj
      obtain ⟨v, v', rfl, rv, rv'⟩ := rs.two
      have := rv.int; subst this
      have := rv'.int; subst this
      exact ⟨i, j, rfl, ⟨hj.1.1, hj.1.2, hj.2.1, hj.2.2⟩, h1 Hc1 H1 (Ext.refl e1.sub) p1 _ itr_r⟩
    · cases hg
end
theorem Ext.again {W : Wd} {Hc0 H0 Hc H : Hp} (x : Ext W Hc0 H0 Hc H) : Ext W Hc H0 Hc H := ⟨x.same, fun ψ ψ h => h, x.sub, fun ψ h ψ => h, x.frz⟩
theorem Ext.comp {W : Wd} {Hc0 H0 Hc H Hc' H' : Hp} (x : Ext W Hc0 H0 Hc H) (y : Ext W Hc H0 Hc' H') : Ext W Hc0 H0 Hc' H' := ⟨y.same, x.sc.trans y.sc, y.sub, fun b h k => y.new b (x.new b h k) k, y.frz⟩
noncomputable def forU (st : U → En → Om → Fl) : List U → En → Om → Fl
  | [], ρ, ω => .nx ρ ω
  | x :: xs, ρ, ω => match st x ρ ω with
    | .nx ρ' ω' => forU st xs ρ' ω'
    | .ct ρ' ω' => forU st xs ρ' ω'
    | .bk ρ' ω' => .nx ρ' ω'
    | o => o
noncomputable def stepU (a : U → En → Option En) (b : Sf) : U → En → Om → Fl := fun x ρ ω => match a x ρ with
  | some ρ' => b ρ' ω
  | none => .stk
noncomputable def sFor (fi : Af) (a : U → En → Option En) (b : Sf) : Sf := fun ρ ω => Fl.of (fi ρ ω) fun us ω1 => forU (stepU a b) us ρ ω1
section
variable {W : Wd} {m : Md} {E : XK} {wi : TI} {fi : Af} {g : TG} {a : U → En → Option En} {tb : TS} {b : Sf}
theorem drop_cons {α : Type} {xs : List α} {i : Nat} {x : α} (h : xs[i]? = some x) : xs.drop i = x :: xs.drop (i + 1) := by
  obtain ⟨l, e⟩ := List.getElem?_eq_some_iff.mp h
  rw [List.drop_eq_getElem_cons l, e]
theorem ds_for (hi : DI W m E false wi fi) (hg : DG W m g a) (hb : DS W m E tb b) : DS W m E (tFor wi g tb) (sFor fi a b) := by
  intro H0 Hc0 ρ ω σ Hc H ow S x D h
  refine hi H0 ρ ω σ Hc H ow S _ ((Cont.of x h).imp fun us ω1 Hc1 H1 e1 p1 k J hJ => ?_)
  have S1 := S.ext e1 p1
  refine ⟨fun i n σ H => n = us.length - i ∧ i ≤ us.length ∧ ∃ ρ ω Hc ow, Sr W m ρ ω σ H0 Hc H ow ∧ Ext W Hc0 H0 Hc H ∧ Same Hc1 Hc ∧ Cont W m E Hc0 H0 D (forU (stepU a b) (us.drop i) ρ ω), ⟨us.length, by simp, Nat.zero_le _, ρ, ω1, Hc1, ow, S1, x.trans e1, fun ψ ψ h => h, k⟩, ?_⟩
  rintro i n σ2 H2 ⟨rfl, hle, ρ2, ω2, Hc2, ow2, S2, x2, sc, k2⟩
  have J2 := hJ Hc2 H2 sc S2.sub S2.s0
  by_cases lt : i < us.length
  · have hx : us[i]? = some us[i] := by simp [lt]
    obtain ⟨go, yl⟩ := J2.1 i _ hx
    rw [drop_cons hx] at k2
    refine .inr ⟨go, fun σ' H' => i + 1 ≤ us.length ∧ ∃ ρ ω Hc ow, Sr W m ρ ω σ' H0 Hc H' ow ∧ Ext W Hc0 H0 Hc H' ∧ Same Hc1 Hc ∧ Cont W m E Hc0 H0 D (forU (stepU a b) (us.drop (i + 1)) ρ ω), fun σ' H' hq => ⟨_, by omega, rfl, hq.1, hq.2⟩, fun y H3 hy => ?_⟩
    obtain ⟨Hc3, e3, s3, ry⟩ := yl y H3 hy
    have p3 : PlOk W ω2 Hc3 H3 := S2.pl.same e3 s3
    have S3 := S2.ext e3 p3
    have x3 := x2.trans e3
    unfold forU stepU at k2
    cases q : a us[i] ρ2 with
    | none => simp only [q] at k2; exact k2.elim
    | some ρ' =>
      simp only [q] at k2
      refine hg H0 ρ2 ω2 σ2 Hc3 H3 ow2 _ y ρ' S3 ry q _ fun σ' S' => ?_
      refine hb H0 Hc3 ρ' ω2 σ' Hc3 H3 ow2 S' x3.again _ ?_
      revert k2
      cases b ρ' ω2 with
      | nx ρ4 ω4 => exact fun k2 σ4 Hc4 H4 ow4 S4 x4 => ⟨lt, ρ4, ω4, Hc4, ow4, S4, x3.comp x4, (sc.trans e3.sc).trans x4.sc, k2⟩
      | ct ρ4 ω4 => exact fun k2 σ4 Hc4 H4 ow4 S4 x4 => ⟨lt, ρ4, ω4, Hc4, ow4, S4, x3.comp x4, (sc.trans e3.sc).trans x4.sc, k2⟩
      | bk ρ4 ω4 => exact fun k2 σ4 Hc4 H4 ow4 S4 x4 => k2 σ4 Hc4 H4 ow4 S4 (x3.comp x4)
      | rt u ω4 => exact fun k2 v Hc4 H4 x4 => k2 v Hc4 H4 (x3.comp x4)
      | err c pl ω4 => exact fun k2 C od Hc4 H4 x4 => k2 C od Hc4 H4 (x3.comp x4)
      | stk => exact fun k2 => k2
  · have e : i = us.length := by omega
    subst e
    rw [List.drop_length] at k2
    exact .inl ⟨J2.2, k2 σ2 Hc2 H2 ow2 S2 x2⟩
noncomputable def wh (c : Tf) (b : Sf) : Nat → En → Om → Option Fl
  | 0, _, _ => none
  | n + 1, ρ, ω => match c ρ ω with
    | .ok true ω1 => match b ρ ω1 with
      | .nx ρ' ω' => wh c b n ρ' ω'
      | .ct ρ' ω' => wh c b n ρ' ω'
      | .bk ρ' ω' => some (.nx ρ' ω')
      | o => some o
    | .ok false ω1 => some (.nx ρ ω1)
    | .err e p ω1 => some (.err e p ω1)
    | .stk => some .stk
open Classical in
noncomputable def sWh (c : Tf) (b : Sf) : Sf := fun ρ ω => if h : ∃ r n, wh c b n ρ ω = some r then h.choose else .stk
theorem wh_mono {c : Tf} {b : Sf} {r : Fl} : ∀ {n : Nat} {ρ : En} {ω : Om} (k : Nat), wh c b n ρ ω = some r → wh c b (n + k) ρ ω = some r
  | 0, _, _, _, h => by cases h
  | n + 1, ρ, ω, k, h => by
    rw [show n + 1 + k = (n + k) + 1 by omega]
    unfold wh at h ⊢
    cases q : c ρ ω with
    | ok t ω1 =>
      cases t with
      | false => simp only [q] at h ⊢; exact h
      | true =>
        simp only [q] at h ⊢
        cases q2 : b ρ ω1 with
        | nx ρ' ω' => simp only [q2] at h ⊢; exact wh_mono k h
        | ct ρ' ω' => simp only [q2] at h ⊢; exact wh_mono k h
        | _ => simp only [q2] at h ⊢; exact h
    | err e p ω1 => simp only [q] at h ⊢; exact h
    | stk => simp only [q] at h ⊢; exact h
theorem wh_uniq {c : Tf} {b : Sf} {r r' : Fl} {n n' : Nat} {ρ : En} {ω : Om} (h : wh c b n ρ ω = some r) (h' : wh c b n' ρ ω = some r') : r = r' := by
  have z1 := wh_mono n' h
  have z2 := wh_mono n h'
  rw [Nat.add_comm] at z2
  rw [z1] at z2
  exact Option.some.inj z2
theorem sWh_of {c : Tf} {b : Sf} {r : Fl} {n : Nat} {ρ : En} {ω : Om} (h : wh c b n ρ ω = some r) : sWh c b ρ ω = r := by
  have ex : ∃ r n, wh c b n ρ ω = some r := ⟨r, n, h⟩
  unfold sWh
  rw [dif_pos ex]
  obtain ⟨n', z⟩ := ex.choose_spec
  exact wh_uniq z h
theorem sWh_end {c : Tf} {b : Sf} {ρ : En} {ω ω1 : Om} (h : c ρ ω = .ok false ω1) : sWh c b ρ ω = .nx ρ ω1 := sWh_of (n := 1) (by unfold wh; simp only [h])
theorem sWh_none {c : Tf} {b : Sf} {ρ : En} {ω : Om} (h : ¬ ∃ r n, wh c b n ρ ω = some r) : sWh c b ρ ω = .stk := by unfold sWh; rw [dif_neg h]
theorem sWh_step {c : Tf} {b : Sf} {ρ ρ' : En} {ω ω1 ω' : Om} (h : c ρ ω = .ok true ω1) (h2 : b ρ ω1 = .nx ρ' ω') : sWh c b ρ ω = sWh c b ρ' ω' := by
  by_cases ex : ∃ r n, wh c b n ρ' ω' = some r
  · obtain ⟨r, n, z⟩ := ex
    rw [sWh_of z]
    exact sWh_of (n := n + 1) (by unfold wh; simp only [h, h2]; exact z)
  · rw [sWh_none ex]
    refine sWh_none fun ⟨r, n, z⟩ => ex ?_
    cases n with
    | zero => cases z
    | succ n => unfold wh at z; simp only [h, h2] at z; exact ⟨r, n, z⟩
theorem ds_while {tc : TT} {c : Tf} (hc : DT W m E tc c) (hb : DS W m E tb b) : DS W m E (tWhile tc tb) (sWh c b) := by
  intro H0 Hc0 ρ ω σ Hc H ow S x D h
  by_cases ex : ∃ r n, wh c b n ρ ω = some r
  · obtain ⟨r, n, hr⟩ := ex
    rw [sWh_of hr] at h
    refine ⟨fun n σ H => ∃ ρ ω Hc ow, Sr W m ρ ω σ H0 Hc H ow ∧ Ext W Hc0 H0 Hc H ∧ wh c b n ρ ω = some r, ⟨n, ρ, ω, Hc, ow, S, x, hr⟩, ?_⟩
    rintro n σ2 H2 ⟨ρ2, ω2, Hc2, ow2, S2, x2, w2⟩
    cases n with
    | zero => cases w2
    | succ n =>
      unfold wh at w2
      refine hc H0 ρ2 ω2 σ2 Hc2 H2 ow2 S2 _ ?_
      cases q : c ρ2 ω2 with
      | stk => simp only [q] at w2; cases w2; exact h
      | err e p ω1 => simp only [q] at w2; cases w2; exact fun C od Hc' H' e p hm hx => h C od Hc' H' (x2.trans e) p hm hx
      | ok t ω1 =>
        intro Hc3 H3 e3 p3
        have S3 := S2.ext e3 p3
        have x3 := x2.trans e3
        cases t with
        | false =>
          simp only [q] at w2; cases w2
          rw [if_neg Bool.false_ne_true]
          exact h σ2 Hc3 H3 ow2 S3 x3
        | true =>
          simp only [q] at w2
          rw [if_pos rfl]
          refine ⟨fun σ' H' => ∃ ρ ω Hc ow, Sr W m ρ ω σ' H0 Hc H' ow ∧ Ext W Hc0 H0 Hc H' ∧ wh c b n ρ ω = some r, fun σ' H' hq => ⟨n, Nat.lt_succ_self n, hq⟩, ?_⟩
          refine hb H0 Hc0 ρ2 ω1 σ2 Hc3 H3 ow2 S3 x3 _ ?_
          cases q2 : b ρ2 ω1 with
          | nx ρ4 ω4 => simp only [q2] at w2; exact fun σ4 Hc4 H4 ow4 S4 x4 => ⟨ρ4, ω4, Hc4, ow4, S4, x4, w2⟩
          | ct ρ4 ω4 => simp only [q2] at w2; exact fun σ4 Hc4 H4 ow4 S4 x4 => ⟨ρ4, ω4, Hc4, ow4, S4, x4, w2⟩
          | bk ρ4 ω4 => simp only [q2] at w2; cases w2; exact h
          | rt u ω4 => simp only [q2] at w2; cases w2; exact h
          | err e p ω4 => simp only [q2] at w2; cases w2; exact h
          | stk => simp only [q2] at w2; cases w2; exact h
  · rw [sWh_none ex] at h; exact h.elim
end
noncomputable def blkU (k : Nat) (js : List Nat) (ρ : En) : En := List.replicate k none ++ js.map fun j => (ρ[j]?).getD none
noncomputable def cmpU (st : U → Om → Res (Option U)) : List U → Om → Res (List U)
  | [], ω => .ok [] ω
  | x :: xs, ω => (st x ω).bnd fun o ω1 => (cmpU st xs ω1).bnd fun r ω2 => .ok (o.toList ++ r) ω2
noncomputable def cstU (a : U → En → Option En) (ft : Tf) (fe : Ef) (ρ : En) : U → Om → Res (Option U) := fun x ω => match a x ρ with
  | some ρ' => (ft ρ' ω).bnd fun b ω1 => if b = true then (fe ρ' ω1).bnd fun u ω2 => .ok (some u) ω2 else .ok none ω1
  | none => .stk
noncomputable def asOk {α β : Type} (r : Res α) (k : α → Om → Res β) : Res β := match r with
  | .ok a ω => k a ω
  | _ => .stk
@[simp] theorem asOk_ok {α β : Type} {a : α} {ω : Om} {k : α → Om → Res β} : asOk (.ok a ω) k = k a ω := rfl
open Classical in
noncomputable def eComp (fi : Af) (k : Nat) (js : List Nat) (a : U → En → Option En) (ft : Tf) (fe : Ef) : Ef := fun ρ ω => (fi ρ ω).bnd fun us ω1 =>
  if us.length ≤ sizeLine then asOk (cmpU (cstU a ft fe (blkU k js ρ)) us ω1) fun r ω2 => .ok (.lst r) ω2 else .stk
section
variable {W : Wd} {m mb : Md} {E : XK} {wi : TI} {fi : Af} {k : Nat} {js : List Nat} {g : TG} {a : U → En → Option En} {tc : TT} {ft : Tf} {te : TE} {fe : Ef}
theorem blk_at {ρ : En} {i : Nat} {u : U} (h : (blkU k js ρ)[i]? = some (some u)) : ∃ p j, i = k + p ∧ js[p]? = some j ∧ ρ[j]? = some (some u) := by
  unfold blkU at h
  by_cases l : i < k
  · rw [List.getElem?_append_left (by simpa using l), List.getElem?_replicate] at h
    split at h <;> cases h
  · rw [List.getElem?_append_right (by simpa using l), List.length_replicate, List.getElem?_map] at h
    refine ⟨i - k, ?_⟩
    cases q : js[i - k]? with
    | none => rw [q] at h; exact noS h
    | some j =>
      rw [q] at h
      refine ⟨j, by lia, rfl, ?_⟩
      cases q2 : ρ[j]? with
      | none => rw [show (some j).map (fun j => (ρ[j]?).getD none) = some ((ρ[j]?).getD none) from rfl, q2] at h; cases h
      | some w =>
        rw [show (some j).map (fun j => (ρ[j]?).getD none) = some ((ρ[j]?).getD none) from rfl, q2] at h
        cases h; rfl
theorem blkV_at {σ : St} {p j : Nat} {v : V} (h : js[p]? = some j) (hv : σ[j]? = some (some v)) : (blk k js σ)[k + p]? = some (some v) := by
  unfold blk
  rw [List.getElem?_append_right (by simp), List.length_replicate, Nat.add_sub_cancel_left, List.getElem?_map, h]
  show some ((σ[j]?).getD none) = _
  rw [hv]; rfl
theorem Sr.blk {ρ : En} {ω ω' : Om} {σ : St} {H0 Hc1 H1 Hc H : Hp} {ow : Nat → Addr} (S : Sr W m ρ ω σ H0 Hc1 H1 ow) (hB : ∀ p j, js[p]? = some j → (j ∈ m.B ∨ j ∈ m.M) → k + p ∈ mb.B) (hM : mb.M = []) (e : Ext W Hc1 H1 Hc H) (p : PlOk W ω' Hc H) :
    Sr W mb (blkU k js ρ) ω' (blk k js σ) H1 Hc H ow := by
  refine ⟨e.sub, e.same, fun b hb => (S.pl.out b hb).2, by unfold blkU L2.blk; simp, p, fun i u n1 n2 h => ?_, fun i u n1 n2 h => ?_, fun i u n h => (by rw [hM] at n; cases n), fun i j u w n => (by rw [hM] at n; cases n)⟩
  · obtain ⟨q, j, rfl, hj, hu⟩ := blk_at h
    obtain ⟨v, hv, rv⟩ := S.cl j u (fun z => n1 (hB q j hj (.inl z))) (fun z => n1 (hB q j hj (.inr z))) hu
    exact ⟨v, blkV_at hj hv, rv.mono e.sc⟩
  · obtain ⟨q, j, rfl, hj, hu⟩ := blk_at h
    obtain ⟨v, hv, rv⟩ := S.get hu
    refine ⟨v, blkV_at hj hv, ?_⟩
    rcases rv with rv | ⟨us, b, vs, e1, e2, nl, q1, q2⟩
    · exact .inl (rv.mono e.sc)
    · exact .inr ⟨us, b, vs, e1, e2, nl, q1, q2.mono e.sc⟩
@[reducible] def cmpI (W : Wd) (st : U → Om → Res (Option U)) (us tot : List U) (ωf : Om) (Hc1 H1 : Hp) : Nat → Nat → List V → Hp → Prop := fun i n ys H => n = us.length - i ∧ i ≤ us.length ∧ ∃ ω Hc acc rest, Ext W Hc1 H1 Hc H ∧ PlOk W ω Hc H ∧ RUs W Hc acc ys ∧ acc.length ≤ i ∧ cmpU st (us.drop i) ω = .ok rest ωf ∧ acc ++ rest = tot
theorem df_comp (hi : DI W m E true wi fi) (hg : DG W mb g a) (ht : DT W mb E0 tc ft) (he : DE W mb E0 te fe) (hB : ∀ p j, js[p]? = some j → (j ∈ m.B ∨ j ∈ m.M) → k + p ∈ mb.B) (hM : mb.M = []) :
    DF W m E (tComp wi k js g tc te) (eComp fi k js a ft fe) := by
  intro H0 ρ ω σ Hc H ow S Q h
  refine hi H0 ρ ω σ Hc H ow S _ ((Aft.bnd h).imp fun us ω1 Hc1 H1 e1 p1 h1 J hJ => ?_)
  have S1 := S.ext e1 p1
  rw [if_pos rfl] at hJ
  by_cases hl : us.length ≤ sizeLine
  · rw [if_pos hl] at h1
    cases hr : cmpU (cstU a ft fe (blkU k js ρ)) us ω1 with
    | stk => rw [hr] at h1; exact h1.elim
    | err _ _ _ => rw [hr] at h1; exact h1.elim
    | ok tot ωf =>
      rw [hr] at h1
      refine ⟨cmpI W (cstU a ft fe (blkU k js ρ)) us tot ωf Hc1 H1,
        ⟨us.length, by simp, Nat.zero_le _, ω1, Hc1, [], tot, Ext.refl e1.sub, p1, .nil, Nat.zero_le _, hr, rfl⟩, ?_⟩
      rintro i n ys H2 ⟨rfl, hle, ω2, Hc2, acc, rest, e2, p2, r2, l2, w2, tt⟩
      have J2 := hJ Hc2 H2 e2.sc e2.sub e2.same
      by_cases lt : i < us.length
      · have hx : us[i]? = some us[i] := by simp [lt]
        obtain ⟨go, yl⟩ := J2.1 i _ hx
        rw [drop_cons hx] at w2
        refine .inr ⟨go, by rw [← r2.len]; lia, fun y H3 hy => ?_⟩
        obtain ⟨Hc3, e3, s3, ry⟩ := yl y H3 hy
        have p3 : PlOk W ω2 Hc3 H3 := p2.same e3 s3
        have Sb := S1.blk (mb := mb) hB hM (e2.trans e3) p3
        unfold cmpU at w2
        cases q : a us[i] (blkU k js ρ) with
        | none => rw [show cstU a ft fe (blkU k js ρ) us[i] ω2 = .stk by unfold cstU; rw [q]] at w2; cases w2
        | some ρ' =>
          rw [show cstU a ft fe (blkU k js ρ) us[i] ω2 = (ft ρ' ω2).bnd fun b ω1 => if b = true then (fe ρ' ω1).bnd fun u ω2 => .ok (some u) ω2 else .ok none ω1 by unfold cstU; rw [q]] at w2
          refine hg H1 _ ω2 _ Hc3 H3 ow _ y ρ' Sb ry q _ fun σ' S' => ?_
          cases q2 : ft ρ' ω2 with
          | stk => rw [q2] at w2; cases w2
          | err _ _ _ => rw [q2] at w2; cases w2
          | ok b ω4 =>
            rw [q2] at w2
            refine ht H1 ρ' ω2 σ' Hc3 H3 ow S' _ ?_
            rw [q2]
            intro Hc4 H4 e4 p4
            have S4 := S'.ext e4 p4
            cases b with
            | false =>
              rw [if_neg Bool.false_ne_true]
              simp only [Res.bnd_ok, Bool.false_eq_true, if_false] at w2
              cases q5 : cmpU (cstU a ft fe (blkU k js ρ)) (us.drop (i + 1)) ω4 with
              | stk => rw [q5] at w2; cases w2
              | err _ _ _ => rw [q5] at w2; cases w2
              | ok r5 ω5 =>
                rw [q5] at w2
                simp only [Res.bnd_ok, Option.toList_none, List.nil_append] at w2
                cases w2
                exact ⟨_, by lia, rfl, lt, ω4, Hc4, acc, _, (e2.trans e3).trans e4, p4, (r2.mono e3.sc).mono e4.sc, by lia, q5, tt⟩
            | true =>
              rw [if_pos rfl]
              simp only [Res.bnd_ok, if_true] at w2
              cases q6 : fe ρ' ω4 with
              | stk => rw [q6] at w2; cases w2
              | err _ _ _ => rw [q6] at w2; cases w2
              | ok u ω6 =>
                rw [q6] at w2
                simp only [Res.bnd_ok] at w2
                refine he H1 ρ' ω4 σ' Hc4 H4 ow S4 _ ?_
                rw [q6]
                intro Hc6 H6 e6 p6 v rv
                cases q5 : cmpU (cstU a ft fe (blkU k js ρ)) (us.drop (i + 1)) ω6 with
                | stk => rw [q5] at w2; cases w2
                | err _ _ _ => rw [q5] at w2; cases w2
                | ok r5 ω5 =>
                  rw [q5] at w2
                  simp only [Res.bnd_ok, Option.toList_some] at w2
                  cases w2
                  exact ⟨_, by lia, rfl, lt, ω6, Hc6, acc ++ [u], _, ((e2.trans e3).trans e4).trans e6, p6, (((r2.mono e3.sc).mono e4.sc).mono e6.sc).app (.one rv), by simp; lia, q5, by rw [List.append_assoc]; exact tt⟩
      · have e : i = us.length := by lia
        subst e
        rw [List.drop_length] at w2
        unfold cmpU at w2
        cases w2
        rw [List.append_nil] at tt
        subst tt
        refine .inl ⟨J2.2, by rw [← r2.len]; lia, fun p n => ?_⟩
        exact h1 Hc2 _ (e2.trans (laid_f e2.sub p2 n).1) (laid_f e2.sub p2 n).2 _ _ _ rfl (e2.sub.free n) ((e1.trans e2).frz' n) upd_same r2
  · rw [if_neg hl] at h1; exact h1.elim
end
noncomputable def ContK (W : Wd) (E : XK) (Hc0 H0 : Hp) (D : Ends) (r : Fl) : Prop := match r with
  | .nx _ ω' => ∀ σ' Hc' H', Ext W Hc0 H0 Hc' H' → PlOk W ω' Hc' H' → D.nx σ' H'
  | .bk _ _ => False
  | .ct _ _ => False
  | .rt u ω' => ∀ v Hc' H', Ext W Hc0 H0 Hc' H' → PlOk W ω' Hc' H' → RU W Hc' u v → D.rt v H'
  | .err c pl ω' => ∀ C od Hc' H', Ext W Hc0 H0 Hc' H' → PlOk W ω' Hc' H' → W.mg c = some (.ref C) → XR Hc' pl od → E (.ref C) od H'
  | .stk => False
noncomputable def DK (W : Wd) (m : Md) (E : XK) (t : TS) (g : Sf) : Prop := ∀ H0 Hc0 ρ ω σ Hc H ow, Sr W m ρ ω σ H0 Hc H ow → Ext W Hc0 H0 Hc H → ∀ D : Ends, ContK W E Hc0 H0 D (g ρ ω) → t D σ H
section
variable {W : Wd} {m : Md} {E : XK} {t1 t2 t : TS} {g1 g2 gs : Sf} {tt : TT} {ft : Tf}
theorem dk_one (h : DS W m E t gs) : DK W m E t gs := by
  intro H0 Hc0 ρ ω σ Hc H ow S x D k
  refine h H0 Hc0 ρ ω σ Hc H ow S x D ?_
  revert k
  cases gs ρ ω with
  | nx ρ' ω' => exact fun k σ' Hc' H' ow' S' x' => k σ' Hc' H' x' S'.pl
  | bk ρ' ω' => exact fun k => k.elim
  | ct ρ' ω' => exact fun k => k.elim
  | _ => exact fun k => k
theorem dk_seq (h1 : DS W m E t1 g1) (h2 : DK W m E t2 g2) : DK W m E (tSeq t1 t2) (sSeq g1 g2) := by
  intro H0 Hc0 ρ ω σ Hc H ow S x D h
  refine h1 H0 Hc0 ρ ω σ Hc H ow S x { D with nx := t2 D } ?_
  unfold sSeq at h
  revert h
  cases g1 ρ ω with
  | nx ρ' ω' => exact fun h σ' Hc' H' ow' S' x' => h2 H0 Hc0 ρ' ω' σ' Hc' H' ow' S' x' D h
  | bk ρ' ω' => exact fun k => k.elim
  | ct ρ' ω' => exact fun k => k.elim
  | _ => exact fun h => h
end
noncomputable def runU (n : Nat) (g : Sf) : Ff := fun us ω => match g (us.map some ++ List.replicate (n - us.length) none) ω with
  | .nx _ ω' => .ok .non ω'
  | .rt u ω' => .ok u ω'
  | .err c p ω' => .err c p ω'
  | _ => .stk
theorem RBs.at {W : Wd} {Hc H : Hp} : ∀ {bs : List Bool} {us : List U} {vs : List V} {i : Nat} {u : U}, RBs W Hc H bs us vs → us[i]? = some u → ∃ v b, vs[i]? = some v ∧ bs[i]? = some b ∧ if b = true then RB W Hc H u v else RU W Hc u v
  | [], [], [], _, _, _, e => by simp at e
  | b :: bs, u :: us, v :: vs, 0, w, h, e => by unfold RBs at h; simp at e; subst e; exact ⟨v, b, rfl, rfl, h.1⟩
  | b :: bs, u :: us, v :: vs, i + 1, w, h, e => by
    unfold RBs at h
    obtain ⟨v', b', q1, q2, q3⟩ := RBs.at h.2 (show us[i]? = some w by simpa using e)
    exact ⟨v', b', by simpa using q1, by simpa using q2, q3⟩
  | [], _ :: _, _, _, _, h, _ => by unfold RBs at h; exact h.elim
  | [], [], _ :: _, _, _, h, _ => by unfold RBs at h; exact h.elim
  | _ :: _, [], _, _, _, h, _ => by unfold RBs at h; exact h.elim
  | _ :: _, _ :: _, [], _, _, h, _ => by unfold RBs at h; exact h.elim
theorem Sr.start {W : Wd} {m : Md} {ω : Om} {Hc H : Hp} {bs : List Bool} {us : List U} {vs : List V} {N : List Str} (s : Same Hc H) (p : PlOk W ω Hc H) (r : RBs W Hc H bs us vs) (hB : ∀ i, bs[i]? = some true → i ∈ m.B) (hM : ∀ i ∈ m.M, bs.length ≤ i) (hn : vs.length ≤ N.length) :
    Sr W m (us.map some ++ List.replicate (N.length - us.length) none) ω (L2.start N vs) H Hc H (fun ψ => 0) := by
  have l1 := r.len.1
  have l2 := r.len.2
  have key : ∀ {i : Nat} {u : U}, (us.map some ++ List.replicate (N.length - us.length) none)[i]? = some (some u) → us[i]? = some u := fun {i u} h => by
    by_cases l : i < us.length
    · rw [List.getElem?_append_left (by simpa using l), List.getElem?_map] at h
      cases q : us[i]? with
      | none => rw [q] at h; exact noS h
      | some w => rw [q] at h; cases h; rfl
    · rw [List.getElem?_append_right (by simpa using l), List.getElem?_replicate] at h
      split at h <;> cases h
  have kv : ∀ {i : Nat} {v : V}, vs[i]? = some v → (L2.start N vs)[i]? = some (some v) := fun {i v} h => by
    have l : i < vs.length := (List.getElem?_eq_some_iff.mp h).1
    unfold L2.start
    rw [List.getElem?_append_left (by simpa using l), List.getElem?_map, h]; rfl
  refine ⟨s, fun ψ ψ ψ h => h, fun b hb => (p.out b hb).2, by unfold L2.start; simp; lia, p, fun i u n1 n2 h => ?_, fun i u n1 n2 h => ?_, fun i u n h => ?_, fun i j u w n m' ne h => ?_⟩
  · obtain ⟨v, b, q1, q2, q3⟩ := r.at (key h)
    cases b with
    | true => exact absurd (hB i q2) n1
    | false => exact ⟨v, kv q1, q3⟩
  · obtain ⟨v, b, q1, q2, q3⟩ := r.at (key h)
    refine ⟨v, kv q1, ?_⟩
    cases b with
    | true => exact q3
    | false => exact .inl q3
  · have z := (List.getElem?_eq_some_iff.mp (key h)).1
    have := hM i n
    lia
  · have z := (List.getElem?_eq_some_iff.mp (key h)).1
    have := hM i n
    lia
section
variable {P : Program} {w : World} {K : PySem.W.Frag} {mg : L2.SV} {base : Heap}
theorem Fun.okU {x qual : Str} {st : Stmt} {f : Addr} {fd : FuncData} {N ps : List Str} {k : Nat} {wk : Wd → Prop} {bs : List Bool} {m : Md} {g : Sf} (F : Fun K x qual st f fd) (S : FnScope N ps (defScope st)) (hl : bs.length = ps.length) (hB : ∀ i, bs[i]? = some true → i ∈ m.B) (hM : ∀ i ∈ m.M, bs.length ≤ i) (hN : ps.length ≤ N.length)
    (hbody : ∀ (cdv : Value) (A : Around) (outer : List Env) (s : Shared) (H : Hp) (E : XK) (W : Wd), W.K = K → W.mg = mg → wk W → Room k (A.deeper (envOfC qual (defScope st) s.heap.objs.size f cdv)) → A.handled = none →
      ∃ t, PSs (cxOf (CX1 P w) P w K mg base N qual (defScope st) f cdv A outer s H E) (defBody st) t ∧ DK W m E t g) : FnOk P w K mg base (CX1 P w) (k + 1) f fd ps (spU K mg wk bs.length bs (runU N.length g)) := by
  refine F.okX S (fun vs H Q E h => ?_) fun cdv A outer s H vs Q E hr hA hsp => ?_
  · obtain ⟨W, us, ω, Hc, _, _, _, hl', _⟩ := h
    rw [hl', hl]
  · obtain ⟨W, us, ω, Hc, hK, hm, hw, hl', sub, pl, rbs, aft⟩ := hsp
    obtain ⟨t, ht, dk⟩ := hbody cdv A outer s H E W hK hm hw hr hA
    refine ⟨t, ht, dk H Hc _ ω _ Hc H _ (Sr.start (N := N) sub pl rbs hB hM (by rw [hl', hl]; exact hN)) (Ext.refl sub) _ ?_⟩
    unfold runU at aft
    revert aft
    cases g (us.map some ++ List.replicate (N.length - us.length) none) ω with
    | nx ρ' ω' => exact fun h σ' Hc' H' e p => h Hc' H' e p _ .non
    | rt u ω' => exact fun h v Hc' H' e p r => h Hc' H' e p v r
    | err c pl ω' => exact fun h => h
    | bk _ _ => exact fun h => h
    | ct _ _ => exact fun h => h
    | stk => exact fun h => h
end
noncomputable abbrev FC (ι : Type) := ι → Cx
section
variable {W : Wd} {m : Md} {E : XK} {te : TE} {fe : Ef}
noncomputable def sRaise (c : Str) (fe : Ef) : Sf := fun ρ ω => Fl.of (fe ρ ω) fun ψ ω1 => .err c none ω1
theorem ds_raise {C : Addr} {c : Str} (hm : W.mg c = some (.ref C)) (he : DB W m E te fe) : DS W m E (tRaise E C te) (sRaise c fe) := by
  intro H0 Hc0 ρ ω σ Hc H ow S x D h
  refine he H0 ρ ω σ Hc H ow S _ ((Cont.of x h).imp fun u ω1 Hc1 H1 e1 p1 k v rv => ?_)
  exact k C none Hc1 H1 (x.trans e1) p1 hm rfl
end
structure Ctx {ι : Type} (X : L2.FC ι) (W : Wd) (E : XK) : Prop where
  hK : ∀ x, (X x).K = W.K
  hm : ∀ x, (X x).mg = W.mg
  calm : ∀ x, (X x).calm = true
  hu : ∀ x, (X x).A.units + 64 < cLine
  ps : ∀ x, Passes (CX1 (X x).prog (X x).w) (X x) E
section
variable {ι : Type} (X : L2.FC ι) (W : Wd) (m : Md) (E : XK)
noncomputable def QE (e : Expr) (f : Ef) : Prop := ∃ t, (∀ x, PE (X x) e t) ∧ DE W m E t f
noncomputable def QB (e : Expr) (f : Ef) : Prop := ∃ t, (∀ x, PE (X x) e t) ∧ DB W m E t f
noncomputable def QF (e : Expr) (f : Ef) : Prop := ∃ t, (∀ x, PE (X x) e t) ∧ DF W m E t f
noncomputable def QT (e : Expr) (f : Tf) : Prop := ∃ t, (∀ x, PT (X x) e t) ∧ DT W m E t f
noncomputable def QW (e : Expr) (f : Tf) : Prop := ∃ t, (∀ x, PW (X x) e t) ∧ DT W m E t f
noncomputable def QTs (es : List Expr) (f : Tf) : Prop := ∃ t, (∀ x, PTs (X x) es t) ∧ DT W m E t f
noncomputable def QA (bs : List Bool) (es : List Expr) (f : Af) : Prop := ∃ t, (∀ x, PA (X x) es t) ∧ DA W m E bs t f
noncomputable def QP (e : Option Expr) (f : Pf) : Prop := ∃ t, (∀ x, PO (X x) e t) ∧ DP W m E t f
noncomputable def QI (c : Bool) (tg e : Expr) (f : Af) : Prop := ∃ t, (∀ x, PI (X x) tg e t) ∧ DI W m E c t f
noncomputable def QG (e : Expr) (a : U → En → Option En) : Prop := ∃ t, (∀ x, PG (X x) e t) ∧ DG W m t a
noncomputable def QGs (es : List Expr) (a : List U → En → Option En) : Prop := ∃ t, (∀ x, PGs (X x) es t) ∧ DGs W m t a
noncomputable def QS (s : Stmt) (g : Sf) : Prop := ∃ t, (∀ x, PS (X x) s t) ∧ DS W m E t g
noncomputable def QSs (s : List Stmt) (g : Sf) : Prop := ∃ t, (∀ x, PSs (X x) s t) ∧ DS W m E t g
noncomputable def QK (s : List Stmt) (g : Sf) : Prop := ∃ t, (∀ x, PSs (X x) s t) ∧ DK W m E t g
end
section
variable {ι : Type} {X : L2.FC ι} {W : Wd} {m : Md} {E : XK} {a b c e : Expr} {fa fb fc f : Ef} {ft ft' : Tf} {fr : Af} {bs : List Bool} {es : List Expr} {pos p p2 : Pos} {i : Nat} {x : Str}
theorem QE.tb (h : QE X W m E e f) : QB X W m E e f := let ⟨t, p, d⟩ := h; ⟨t, p, d.b⟩
theorem QF.te (h : QF X W m E e f) : QE X W m E e f := let ⟨t, p, d⟩ := h; ⟨t, p, d.e⟩
theorem QF.tb (h : QF X W m E e f) : QB X W m E e f := h.te.tb
theorem qe_var (i : Nat) (h1 : i ∉ m.B := by decide) (h2 : i ∉ m.M := by decide) (hN : ∀ y, (X y).N[i]? = some x := by intro ψ; rfl) (hv : ∀ y, Vis (X y).env.scope x := by intro ψ; first | exact Or.inl rfl | exact Or.inr (Or.inl rfl) | exact Or.inr (Or.inr rfl)) (hd : (x == ("__debug__" : Str)) = false := by decide)
    (hcd : (x == ("__classdict__" : Str)) = false := by decide) : QE X W m E (.Name x pos) (eVar i) := ⟨_, fun y => pe_var (hN y) (hv y) hd hcd, de_var h1 h2⟩
theorem qb_var (i : Nat) (hN : ∀ y, (X y).N[i]? = some x := by intro ψ; rfl) (hv : ∀ y, Vis (X y).env.scope x := by intro ψ; first | exact Or.inl rfl | exact Or.inr (Or.inl rfl) | exact Or.inr (Or.inr rfl)) (hd : (x == ("__debug__" : Str)) = false := by decide)
    (hcd : (x == ("__classdict__" : Str)) = false := by decide) : QB X W m E (.Name x pos) (eVar i) := ⟨_, fun y => pe_var (hN y) (hv y) hd hcd, db_var⟩
theorem qe_int {k : Int} {j} : QE X W m E (.Constant (.int k) j pos) (eC (.int k)) := ⟨_, fun ψ => pe_int, de_c fun ψ => .int⟩
theorem qe_bl {k : Bool} {j} : QE X W m E (.Constant (.bool k) j pos) (eC (.bl k)) := ⟨_, fun ψ => pe_bl, de_c fun ψ => .bl⟩
theorem qe_non {j} : QE X W m E (.Constant .none j pos) (eC .non) := ⟨_, fun ψ => pe_non, de_c fun ψ => .non⟩
theorem qe_str {k : Str} {j} : QE X W m E (.Constant (.str k) j pos) (eC (.str k)) := ⟨_, fun ψ => pe_str, de_c fun ψ => .str⟩
theorem qe_ty {n : String} (hm : ∀ y, (X y).mg x = none) (hv : bootBuiltins x = some (.type n)) (hg : ∀ y, Gl (X y) x := by intro ψ; rfl) (hn : x ≠ "__name__" := by decide) (hd : (x == ("__debug__" : Str)) = false := by decide) : QE X W m E (.Name x pos) (eC (.ty n)) :=
  ⟨_, fun y => pe_bltn (v := .ty n) (hg y) (hm y) hv rfl hn hd, de_c fun ψ => .ty⟩
theorem qe_bop {op : Operator} {r : R2} {g : U → U → Option U} (o : ∀ y, OpR (X y) (binaryOp op) r) (u : OpU W r g) (ha : QB X W m E a fa) (hb : QB X W m E b fb) : QE X W m E (.BinOp a op b pos) (eOp g fa fb) :=
  let ⟨_, pa, da⟩ := ha; let ⟨_, pb, db⟩ := hb; ⟨_, fun y => pe_op (o y) (pa y) (pb y), de_op u da db⟩
theorem qe_add (cx : Ctx X W E) (ha : QB X W m E a fa) (hb : QB X W m E b fb) : QE X W m E (.BinOp a .Add b pos) (eOp uAdd fa fb) := qe_bop (fun y => op_addU (cx.hK y)) ou_add ha hb
theorem qe_sub (ha : QB X W m E a fa) (hb : QB X W m E b fb) : QE X W m E (.BinOp a .Sub b pos) (eOp uSub fa fb) := qe_bop (fun ψ => op_sub) ou_sub ha hb
theorem qe_mul (ha : QB X W m E a fa) (hb : QB X W m E b fb) : QE X W m E (.BinOp a .Mult b pos) (eOp uMul fa fb) := qe_bop (fun ψ => op_mulB) ou_mul ha hb
theorem qe_rep (ha : QB X W m E a fa) (hb : QB X W m E b fb) : QE X W m E (.BinOp a .Mult b pos) (eOp uRep fa fb) := qe_bop (fun ψ => op_repX) ou_rep ha hb
theorem qe_div (ha : QB X W m E a fa) (hb : QB X W m E b fb) : QE X W m E (.BinOp a .FloorDiv b pos) (eOp uDiv fa fb) := qe_bop (fun ψ => op_fdivB) ou_div ha hb
theorem qe_mod (ha : QB X W m E a fa) (hb : QB X W m E b fb) : QE X W m E (.BinOp a .Mod b pos) (eOp uMod fa fb) := qe_bop (fun ψ => op_mod) ou_mod ha hb
theorem qe_pow (ha : QB X W m E a fa) (hb : QB X W m E b fb) : QE X W m E (.BinOp a .Pow b pos) (eOp uPow fa fb) := qe_bop (fun ψ => op_pow) ou_pow ha hb
theorem qe_neg (ha : QB X W m E a fa) : QE X W m E (.UnaryOp .USub a pos) (eUn uNeg fa) := let ⟨_, pa, da⟩ := ha; ⟨_, fun y => pe_un un_neg (pa y), de_neg da⟩
theorem qe_cmp {op : CmpOp} {r : R2} {g : U → U → Option U} (o : ∀ y, OpR (X y) (compareOp op) r) (u : OpU W r g) (hm : behindInMarks op b = false) (ha : QB X W m E a fa) (hb : QB X W m E b fb) : QE X W m E (.Compare a [op] [b] pos) (eOp g fa fb) :=
  let ⟨_, pa, da⟩ := ha; let ⟨_, pb, db⟩ := hb; ⟨_, fun y => pe_cmpR (o y) (pa y) (pb y) hm, de_op u da db⟩
theorem qt_cmp {op : CmpOp} {r : R2} {g : U → U → Option U} (o : ∀ y, OpR (X y) (compareOp op) r) (u : OpU W r g) (hm : behindInMarks op b = false) (ha : QB X W m E a fa) (hb : QB X W m E b fb) : QT X W m E (.Compare a [op] [b] pos) (tfB (eOp g fa fb)) :=
  let ⟨_, pa, da⟩ := ha; let ⟨_, pb, db⟩ := hb; ⟨_, fun y => pt_cmpR (o y) (pa y) (pb y) hm, dt_t (de_op u da db).b⟩
theorem qe_le (ha : QB X W m E a fa) (hb : QB X W m E b fb) : QE X W m E (.Compare a [.LtE] [b] pos) (eOp uLe fa fb) := qe_cmp (fun ψ => op_le) ou_le (nomark _) ha hb
theorem qe_eq (cx : Ctx X W E) (ha : QB X W m E a fa) (hb : QB X W m E b fb) : QE X W m E (.Compare a [.Eq] [b] pos) (eOp uEq fa fb) := qe_cmp (fun y => op_eqK (cx.hK y) (cx.hu y)) ou_eq (nomark _) ha hb
theorem qt_lt (ha : QB X W m E a fa) (hb : QB X W m E b fb) : QT X W m E (.Compare a [.Lt] [b] pos) (tfB (eOp uLt fa fb)) := qt_cmp (fun ψ => op_lt) ou_lt (nomark _) ha hb
theorem qt_gt (ha : QB X W m E a fa) (hb : QB X W m E b fb) : QT X W m E (.Compare a [.Gt] [b] pos) (tfB (eOp uGt fa fb)) := qt_cmp (fun ψ => op_gt) ou_gt (nomark _) ha hb
theorem qt_ge (ha : QB X W m E a fa) (hb : QB X W m E b fb) : QT X W m E (.Compare a [.GtE] [b] pos) (tfB (eOp uGe fa fb)) := qt_cmp (fun ψ => op_ge) ou_ge (nomark _) ha hb
theorem qt_ne (cx : Ctx X W E) (ha : QB X W m E a fa) (hb : QB X W m E b fb) : QT X W m E (.Compare a [.NotEq] [b] pos) (tfB (eOp uNe fa fb)) := qt_cmp (fun y => op_neK (cx.hK y) (cx.hu y)) ou_ne (nomark _) ha hb
theorem qt_isnot (ha : QB X W m E a fa) (hb : QB X W m E b fb) : QT X W m E (.Compare a [.IsNot] [b] pos) (tfB (eOp (uIs true) fa fb)) := qt_cmp (fun ψ => op_notN) ou_isnot (nomark _) ha hb
theorem qt_val (ha : QB X W m E a fa) (he : ∀ y whole, isTrue a (X y).env whole = (do let v ← whole; standAt a.pos; holding [v] (truthy v)) := by intro ψ ψ; rfl) : QT X W m E a (tfB fa) := let ⟨_, pa, da⟩ := ha; ⟨_, fun y => pt_val (pa y) (he y), dt_b da⟩
theorem qt_not (ha : QT X W m E a ft) : QT X W m E (.UnaryOp .Not a pos) (tfNot ft) := let ⟨_, pa, da⟩ := ha; ⟨_, fun y => pt_not (pa y), dt_not da⟩
theorem QW.t (ha : QW X W m E a ft) : QT X W m E a ft := let ⟨_, pa, da⟩ := ha; ⟨_, fun y => (pa y).pt, da⟩
theorem qw_and1 (ha : QT X W m E a ft) : QW X W m E (.BoolOp .And [a] pos) ft := let ⟨_, pa, da⟩ := ha; ⟨_, fun y => pw_and1 (pa y), da⟩
theorem qw_or1 (ha : QT X W m E a ft) : QW X W m E (.BoolOp .Or [a] pos) ft := let ⟨_, pa, da⟩ := ha; ⟨_, fun y => pw_or1 (pa y), da⟩
theorem qw_and (ha : QT X W m E a ft) (hb : QW X W m E (.BoolOp .And (b :: es) pos) ft') : QW X W m E (.BoolOp .And (a :: b :: es) pos) (tfAnd ft ft') := let ⟨_, pa, da⟩ := ha; let ⟨_, pb, db⟩ := hb; ⟨_, fun y => pw_and (pa y) (pb y), dt_and da db⟩
theorem qw_or (ha : QT X W m E a ft) (hb : QW X W m E (.BoolOp .Or (b :: es) pos) ft') : QW X W m E (.BoolOp .Or (a :: b :: es) pos) (tfOr ft ft') := let ⟨_, pa, da⟩ := ha; let ⟨_, pb, db⟩ := hb; ⟨_, fun y => pw_or (pa y) (pb y), dt_or da db⟩
theorem qe_one {op} (ha : QE X W m E a fa) : QE X W m E (.BoolOp op [a] pos) fa := let ⟨_, pa, da⟩ := ha; ⟨_, fun y => pe_one (pa y), da⟩
theorem qe_ix (cx : Ctx X W E) (ha : QB X W m E a fa) (hb : QB X W m E b fb) (hs : PlainIx b := by exact fun ψ ψ => rfl) : QE X W m E (.Subscript a b pos) (eOp uIx fa fb) := let ⟨_, pa, da⟩ := ha; let ⟨_, pb, db⟩ := hb; ⟨_, fun y => pe_ix (ix_anyK (cx.hK y)) (pa y) (pb y) hs, de_op ou_ix da db⟩
theorem qp_none : QP X W m E none pNo := ⟨_, fun ψ => po_none, dp_no⟩
theorem qp_some (ha : QB X W m E a fa) : QP X W m E (some a) (pSome fa) := let ⟨_, pa, da⟩ := ha; ⟨_, fun y => po_some (pa y), dp_some da⟩
theorem qe_sl {lo hi : Option Expr} {fl fh : Pf} (cx : Ctx X W E) (ha : QB X W m E a fa) (hl : QP X W m E lo fl) (hh : QP X W m E hi fh) : QE X W m E (.Subscript a (.Slice lo hi none p2) pos) (eSl uSl fa fl fh) :=
  let ⟨_, pa, da⟩ := ha; let ⟨_, pl, dl⟩ := hl; let ⟨_, ph, dh⟩ := hh; ⟨_, fun y => pe_slice (sl_u (cx.hK y)) (pa y) (pl y) (ph y), de_sl da dl dh⟩
theorem qe_rev {st : Expr} {fs : Pf} (cx : Ctx X W E) (ha : QB X W m E a fa) (hs : QP X W m E (some st) fs) : QE X W m E (.Subscript a (.Slice none none (some st) p2) pos) (eRev fa fs) :=
  let ⟨_, pa, da⟩ := ha; let ⟨_, ps, ds⟩ := hs; ⟨_, fun y => pe_revU (cx.hK y) (pa y) (ps y), de_rev da ds⟩
theorem qa_nil : QA X W m E [] [] aNil := ⟨_, fun ψ => pa_nil, da_nil⟩
theorem qa_b (ha : QB X W m E a fa) (hr : QA X W m E bs es fr) (hs : ∀ y, starEach (a :: es) (X y).env = (false, eval a (X y).env) :: starEach es (X y).env := by intro ψ; rfl) : QA X W m E (true :: bs) (a :: es) (aCons fa fr) := let ⟨_, pa, da⟩ := ha; let ⟨_, pr, dr⟩ := hr; ⟨_, fun y => pa_cons (pa y) (pr y) (hs y), da_b da dr⟩
theorem qa_e (ha : QE X W m E a fa) (hr : QA X W m E bs es fr) (hs : ∀ y, starEach (a :: es) (X y).env = (false, eval a (X y).env) :: starEach es (X y).env := by intro ψ; rfl) : QA X W m E (false :: bs) (a :: es) (aCons fa fr) := let ⟨_, pa, da⟩ := ha; let ⟨_, pr, dr⟩ := hr; ⟨_, fun y => pa_cons (pa y) (pr y) (hs y), da_e da dr⟩
theorem qe_tup {x1} (ha : QA X W m E bs es fr) (ho : offs bs = true := by rfl) : QE X W m E (.Tuple es x1 pos) (eTup fr) := let ⟨_, pa, da⟩ := ha; ⟨_, fun y => pe_tup (pa y), de_tup ho da⟩
theorem qf_lst (ha : QA X W m E bs es fr) (ho : offs bs = true := by rfl) : QF X W m E (.List es pos) (eLst fr) := let ⟨_, pa, da⟩ := ha; ⟨_, fun y => pe_lst (pa y), df_lst ho da⟩
theorem qe_cb {id : String} {r : List V → Hp → VK → Prop} {g : List U → Option U} (o : ∀ y, CallR (X y) (.builtin id) r) (u : CallU W bs r g) (hm : ∀ y, (X y).mg x = none) (hv : bootBuiltins x = some (.builtin id)) (ha : QA X W m E bs (a :: es) fr) (hg : ∀ y, Gl (X y) x := by intro ψ; rfl) (hn : x ≠ "__name__" := by decide) (hd : (x == ("__debug__" : Str)) = false := by decide)
    (hs : ∀ y, starEach (a :: es) (X y).env = (false, eval a (X y).env) :: starEach es (X y).env := by intro ψ; rfl) (hp : ∀ y, (backTo pos (starEach es (X y).env)).any (·.1) = false := by intro ψ; rfl) : QE X W m E (.Call (.Name x p) (a :: es) [] pos) (eB g fr) :=
  let ⟨_, pa, da⟩ := ha; ⟨_, fun y => pe_callB (o y) (hg y) (hm y) hv (pa y) hn hd (hs y) (hp y), de_cb u da⟩
theorem qe_ct {T : String} {r : List V → Hp → VK → Prop} {g : List U → Option U} (o : ∀ y, CallR (X y) (.type T) r) (u : CallU W bs r g) (hm : ∀ y, (X y).mg x = none) (hv : bootBuiltins x = some (.type T)) (ha : QA X W m E bs (a :: es) fr) (hg : ∀ y, Gl (X y) x := by intro ψ; rfl) (hn : x ≠ "__name__" := by decide) (hd : (x == ("__debug__" : Str)) = false := by decide)
    (hs : ∀ y, starEach (a :: es) (X y).env = (false, eval a (X y).env) :: starEach es (X y).env := by intro ψ; rfl) (hp : ∀ y, (backTo pos (starEach es (X y).env)).any (·.1) = false := by intro ψ; rfl) : QE X W m E (.Call (.Name x p) (a :: es) [] pos) (eB g fr) :=
  let ⟨_, pa, da⟩ := ha; ⟨_, fun y => pe_callTy (o y) (hg y) (hm y) hv (pa y) hn hd (hs y) (hp y), de_cb u da⟩
structure Bl (mg : L2.SV) : Prop where
  len : mg "len" = none
  range : mg "range" = none
  sum : mg "sum" = none
  tuple : mg "tuple" = none
  list : mg "list" = none
  max : mg "max" = none
  min : mg "min" = none
  isinstance : mg "isinstance" = none
  int : mg "int" = none
  bool : mg "bool" = none
  abs : mg "abs" = none
  zip : mg "zip" = none
  enumerate : mg "enumerate" = none
  any : mg "any" = none
  all : mg "all" = none
  sorted : mg "sorted" = none
  set : mg "set" = none
  dict : mg "dict" = none
  reversed : mg "reversed" = none
  ValueError : mg "ValueError" = none
variable {B : Bl W.mg}
theorem qe_len (cx : Ctx X W E) (B : Bl W.mg) (ha : QB X W m E a fa) (hg : ∀ y, Gl (X y) "len" := by intro ψ; rfl) (hs : ∀ y, starEach [a] (X y).env = (false, eval a (X y).env) :: starEach [] (X y).env := by intro ψ; rfl) (hp : ∀ y, (backTo pos (starEach [] (X y).env)).any (·.1) = false := by intro ψ; rfl) : QE X W m E (.Call (.Name "len" p) [a] [] pos) (eB uLen (aCons fa aNil)) :=
  qe_cb (fun y => call_lenK (cx.hK y)) cu_len (fun y => (congrFun (cx.hm y) _).trans B.len) boot_len (qa_b ha qa_nil hs) hg (by decide) (by decide) hs hp
theorem qe_tuple (cx : Ctx X W E) (B : Bl W.mg) (ha : QB X W m E a fa) (hg : ∀ y, Gl (X y) "tuple" := by intro ψ; rfl) (hs : ∀ y, starEach [a] (X y).env = (false, eval a (X y).env) :: starEach [] (X y).env := by intro ψ; rfl) (hp : ∀ y, (backTo pos (starEach [] (X y).env)).any (·.1) = false := by intro ψ; rfl) : QE X W m E (.Call (.Name "tuple" p) [a] [] pos) (eB uTuple (aCons fa aNil)) :=
  qe_ct (fun y => call_tupK (cx.hK y)) cu_tuple (fun y => (congrFun (cx.hm y) _).trans B.tuple) boot_tuple (qa_b ha qa_nil hs) hg (by decide) (by decide) hs hp
theorem qe_abs (cx : Ctx X W E) (B : Bl W.mg) (ha : QB X W m E a fa) (hg : ∀ y, Gl (X y) "abs" := by intro ψ; rfl) (hs : ∀ y, starEach [a] (X y).env = (false, eval a (X y).env) :: starEach [] (X y).env := by intro ψ; rfl) (hp : ∀ y, (backTo pos (starEach [] (X y).env)).any (·.1) = false := by intro ψ; rfl) : QE X W m E (.Call (.Name "abs" p) [a] [] pos) (eB uAbs (aCons fa aNil)) :=
  qe_cb (fun ψ => call_absU) cu_abs (fun y => (congrFun (cx.hm y) _).trans B.abs) boot_abs (qa_b ha qa_nil hs) hg (by decide) (by decide) hs hp
theorem qe_max2 (cx : Ctx X W E) (B : Bl W.mg) (ha : QA X W m E [true, true] [a, b] fr) (hg : ∀ y, Gl (X y) "max" := by intro ψ; rfl) (hs : ∀ y, starEach [a, b] (X y).env = (false, eval a (X y).env) :: starEach [b] (X y).env := by intro ψ; rfl) (hp : ∀ y, (backTo pos (starEach [b] (X y).env)).any (·.1) = false := by intro ψ; rfl) : QE X W m E (.Call (.Name "max" p) [a, b] [] pos) (eB uMax2 fr) :=
  qe_cb (fun y => call_maxA (cx.calm y)) cu_max2 (fun y => (congrFun (cx.hm y) _).trans B.max) boot_max ha hg (by decide) (by decide) hs hp
theorem qe_min2 (cx : Ctx X W E) (B : Bl W.mg) (ha : QA X W m E [true, true] [a, b] fr) (hg : ∀ y, Gl (X y) "min" := by intro ψ; rfl) (hs : ∀ y, starEach [a, b] (X y).env = (false, eval a (X y).env) :: starEach [b] (X y).env := by intro ψ; rfl) (hp : ∀ y, (backTo pos (starEach [b] (X y).env)).any (·.1) = false := by intro ψ; rfl) : QE X W m E (.Call (.Name "min" p) [a, b] [] pos) (eB uMin2 fr) :=
  qe_cb (fun y => call_minA (cx.calm y)) cu_min2 (fun y => (congrFun (cx.hm y) _).trans B.min) boot_min ha hg (by decide) (by decide) hs hp
theorem qe_call {k : Nat} {f' : Addr} {fd : FuncData} {ps : List Str} {wk : Wd → Prop} {F : Ff} (cx : Ctx X W E) (C : ∀ y, Fn (X y).prog (X y).w (X y).K (X y).mg (X y).base (CX1 (X y).prog (X y).w) k x f' fd ps (spU W.K W.mg wk bs.length bs F)) (hr : ∀ y, Room k (X y).A) (hw : wk W) (ha : QA X W m E bs (a :: es) fr) (hg : ∀ y, Gl (X y) x := by intro ψ; rfl)
    (hd : (x == ("__debug__" : Str)) = false := by decide) (hs : ∀ y, starEach (a :: es) (X y).env = (false, eval a (X y).env) :: starEach es (X y).env := by intro ψ; rfl) (hp : ∀ y, (backTo pos (starEach es (X y).env)).any (·.1) = false := by intro ψ; rfl) : QE X W m E (.Call (.Name x p) (a :: es) [] pos) (eCall F fr) :=
  let ⟨_, pa, da⟩ := ha; ⟨_, fun y => pe_call (C y).F (hr y) (hg y) (C y).hm (C y).kp (C y).hb .nil (cx.ps y) (pa y) hd (hs y) (hp y), de_call rfl rfl hw da⟩
theorem qi_e {c : Bool} {tg : Expr} (cx : Ctx X W E) (ha : QE X W m E a fa) : QI X W m E c tg a (iOf fa) := let ⟨_, pa, da⟩ := ha; ⟨_, fun y => pi_seq (cx.hK y) (pa y), di_e da⟩
theorem qi_v {c : Bool} {tg : Expr} (i : Nat) (cx : Ctx X W E) (h2 : i ∉ m.M := by decide) (hN : ∀ y, (X y).N[i]? = some x := by intro ψ; rfl) (hv : ∀ y, Vis (X y).env.scope x := by intro ψ; first | exact Or.inl rfl | exact Or.inr (Or.inl rfl) | exact Or.inr (Or.inr rfl)) (hd : (x == ("__debug__" : Str)) = false := by decide)
    (hcd : (x == ("__classdict__" : Str)) = false := by decide) : QI X W m E c tg (.Name x pos) (iOf (eVar i)) := ⟨_, fun y => pi_seq (cx.hK y) (pe_var (hN y) (hv y) hd hcd), di_v h2⟩
theorem qi_r1 {c : Bool} {tg : Expr} (cx : Ctx X W E) (B : Bl W.mg) (ha : QA X W m E [true] [a] fr) (hg : ∀ y, Gl (X y) "range" := by intro ψ; rfl) (hs : ∀ y, starEach [a] (X y).env = [(false, eval a (X y).env)] := by intro ψ; rfl) : QI X W m E c tg (.Call (.Name "range" p) [a] [] pos) (iArgs uR1 fr) :=
  let ⟨_, pa, da⟩ := ha; ⟨_, fun y => pi_range1 (hg y) ((congrFun (cx.hm y) _).trans B.range) (pa y) (hs y), di_r1 da⟩
theorem qi_r2 {c : Bool} {tg : Expr} (cx : Ctx X W E) (B : Bl W.mg) (ha : QA X W m E [true, true] [a, b] fr) (hg : ∀ y, Gl (X y) "range" := by intro ψ; rfl) (hs : ∀ y, starEach [a, b] (X y).env = [(false, eval a (X y).env), (false, eval b (X y).env)] := by intro ψ; rfl) (hs2 : ∀ y, starEach [b] (X y).env = [(false, eval b (X y).env)] := by intro ψ; rfl) :
    QI X W m E c tg (.Call (.Name "range" p) [a, b] [] pos) (iArgs uR2 fr) := let ⟨_, pa, da⟩ := ha; ⟨_, fun y => pi_range2 (hg y) ((congrFun (cx.hm y) _).trans B.range) (pa y) (hs y) (hs2 y), di_r2 da⟩
theorem qg_name (i : Nat) (hN : ∀ y, (X y).N.Nodup) (h1 : i ∉ m.B := by decide) (h2 : i ∉ m.M := by decide) (hi : ∀ y, (X y).N[i]? = some x := by intro ψ; rfl) (hx : ∀ y, Loc (X y).env.scope x := by intro ψ; first | exact Or.inl rfl | exact Or.inr rfl) (hf : ∀ y, (X y).fn x = true ∨ (X y).env.scope.names.lookup x = some .local := by intro ψ; first | exact .inl rfl | exact .inr rfl) :
    QG X W m (.Name x pos) (aName i) := ⟨_, fun y => pg_name (hN y) (hi y) (hx y) (hf y), dg_name h1 h2⟩
theorem qgs_nil : QGs X W m [] aNilT := ⟨_, fun ψ => pgs_nil, dgs_nil⟩
theorem qgs_cons {u : U → En → Option En} {v : List U → En → Option En} (h1 : QG X W m a u) (h2 : QGs X W m es v) (hs : ∀ y, (assignEach (a :: es) (X y).env).map (·.2) = assign a (X y).env :: (assignEach es (X y).env).map (·.2) := by intro ψ; rfl) : QGs X W m (a :: es) (aConsT u v) :=
  let ⟨_, p1, d1⟩ := h1; let ⟨_, p2, d2⟩ := h2; ⟨_, fun y => pgs_cons (p1 y) (p2 y) (hs y), dgs_cons d1 d2⟩
theorem qg_tup {n k : Nat} {v : List U → En → Option En} (cx : Ctx X W E) (h2 : QGs X W m es v) (hn : ∀ y, (assignEach es (X y).env).length = n := by intro ψ; rfl) (hst : ∀ y, (assignEach es (X y).env).findIdx? (·.1) = none := by intro ψ; rfl) : QG X W m (.Tuple es k pos) (aTup n v) :=
  let ⟨_, p2, d2⟩ := h2; ⟨_, fun y => pg_tupK (cx.hK y) (cx.calm y) (p2 y) (hn y) (hst y), dg_tup d2⟩
variable {s : Stmt} {ss sb : List Stmt} {g g1 g2 : Sf}
theorem qss_nil : QSs X W m E [] sNext := ⟨_, fun ψ => pss_nil, ds_next⟩
theorem qss_one (h : QS X W m E s g) : QSs X W m E [s] g := let ⟨_, p, d⟩ := h; ⟨_, fun y => pss_one (p y), d⟩
theorem qss_cons (h1 : QS X W m E s g1) (h2 : QSs X W m E ss g2) : QSs X W m E (s :: ss) (sSeq g1 g2) := let ⟨_, p, d⟩ := h1; let ⟨_, p2, d2⟩ := h2; ⟨_, fun y => pss_cons (p y) (p2 y), ds_seq d d2⟩
theorem qk_one (h : QS X W m E s g) : QK X W m E [s] g := let ⟨_, p, d⟩ := h; ⟨_, fun y => pss_one (p y), dk_one d⟩
theorem qk_cons (h1 : QS X W m E s g1) (h2 : QK X W m E ss g2) : QK X W m E (s :: ss) (sSeq g1 g2) := let ⟨_, p, d⟩ := h1; let ⟨_, p2, d2⟩ := h2; ⟨_, fun y => pss_cons (p y) (p2 y), dk_seq d d2⟩
theorem qs_ret (ha : QE X W ⟨m.B, []⟩ E a fa) (hB : ∀ i ∈ m.M, i ∉ m.B := by decide) : QS X W m E (.Return (some a) pos) (sRet fa) := let ⟨_, pa, da⟩ := ha; ⟨_, fun y => ps_ret (pa y), ds_ret hB da⟩
theorem qs_if (hc : QT X W m E c ft) (h1 : QSs X W m E ss g1) (h2 : QSs X W m E sb g2) : QS X W m E (.If c ss sb pos) (sIf ft g1 g2) := let ⟨_, pc, dc⟩ := hc; let ⟨_, p1, d1⟩ := h1; let ⟨_, p2, d2⟩ := h2; ⟨_, fun y => ps_if (pc y) (p1 y) (p2 y), ds_if dc d1 d2⟩
theorem qs_set (i : Nat) (hN : ∀ y, (X y).N.Nodup) (ha : QE X W m E a fa) (hs : ∀ y, swapsWith a (some (.Name x p)) pos.line (X y).env = pure false := by intro ψ; rfl) (h1 : i ∉ m.B := by decide) (h2 : i ∉ m.M := by decide) (hi : ∀ y, (X y).N[i]? = some x := by intro ψ; rfl) (hx : ∀ y, Loc (X y).env.scope x := by intro ψ; first | exact Or.inl rfl | exact Or.inr rfl)
    (hf : ∀ y, (X y).fn x = true ∨ (X y).env.scope.names.lookup x = some .local := by intro ψ; first | exact .inl rfl | exact .inr rfl) : QS X W m E (.Assign [.Name x p] a pos) (sSet i fa) := let ⟨_, pa, da⟩ := ha; ⟨_, fun y => ps_set (hN y) (hi y) (hx y) (pa y) (hs y) (hf y), ds_set h1 h2 da⟩
theorem qs_own (i : Nat) (hN : ∀ y, (X y).N.Nodup) (ha : QF X W m E a fa) (hs : ∀ y, swapsWith a (some (.Name x p)) pos.line (X y).env = pure false := by intro ψ; rfl) (h1 : i ∉ m.B := by decide) (h2 : i ∈ m.M := by decide) (hi : ∀ y, (X y).N[i]? = some x := by intro ψ; rfl) (hx : ∀ y, Loc (X y).env.scope x := by intro ψ; first | exact Or.inl rfl | exact Or.inr rfl)
    (hf : ∀ y, (X y).fn x = true ∨ (X y).env.scope.names.lookup x = some .local := by intro ψ; first | exact .inl rfl | exact .inr rfl) : QS X W m E (.Assign [.Name x p] a pos) (sSet i fa) := let ⟨_, pa, da⟩ := ha; ⟨_, fun y => ps_set (hN y) (hi y) (hx y) (pa y) (hs y) (hf y), ds_own h1 h2 da⟩
theorem qs_aug {op : Operator} {r : R2} {u : U → U → Option U} (i : Nat) (hN : ∀ y, (X y).N.Nodup) (o : ∀ y, OpR (X y) (inplaceOp op) r) (ou : OpU W r u) (ha : QB X W m E a fa) (h1 : i ∉ m.B := by decide) (h2 : i ∉ m.M := by decide) (hi : ∀ y, (X y).N[i]? = some x := by intro ψ; rfl) (hx : ∀ y, Loc (X y).env.scope x := by intro ψ; first | exact Or.inl rfl | exact Or.inr rfl)
    (hf : ∀ y, (X y).fn x = true ∨ (X y).env.scope.names.lookup x = some .local := by intro ψ; first | exact .inl rfl | exact .inr rfl) : QS X W m E (.AugAssign (.Name x p) op a pos) (sAug i u fa) := let ⟨_, pa, da⟩ := ha; ⟨_, fun y => ps_aug (hN y) (hi y) (hx y) (pa y) (o y) (hf y), ds_aug h1 h2 ou da⟩
noncomputable def uAddI : U → U → Option U
  | .int a, .int b => some (.int (a + b))
  | _, _ => none
theorem ou_addI : OpU W (rI0 fun i j => .int (i + j)) uAddI := .I0 (fun ψ ψ ψ => .int) fun a b u h => by
  unfold uAddI at h; split at h <;> cases h; exact ⟨_, _, rfl, rfl, rfl⟩
theorem ps_bmK {Y : Cx} {K : PySem.W.Frag} {s : Stmt} {T : String} {r : V → List V → Hp → VK → Prop} {to : TE} {t : TA} (h : Y.K = K) (q : PS Y s (tDrop (tBM Y.K T r to t))) : PS Y s (tDrop (tBM K T r to t)) := h ▸ q
theorem ps_bm0K {Y : Cx} {K : PySem.W.Frag} {s : Stmt} {T : String} {r : V → List V → Hp → VK → Prop} {to : TE} (h : Y.K = K) (q : PS Y s (tDrop (tBM0 Y.K T r to))) : PS Y s (tDrop (tBM0 K T r to)) := h ▸ q
theorem qs_app {apos cpos : Pos} (i : Nat) (cx : Ctx X W E) (ha : QE X W m E a fa) (h2 : i ∈ m.M := by decide) (hN : ∀ y, (X y).N[i]? = some x := by intro ψ; rfl) (hv : ∀ y, Vis (X y).env.scope x := by intro ψ; first | exact Or.inl rfl | exact Or.inr (Or.inl rfl) | exact Or.inr (Or.inr rfl)) (hd : (x == ("__debug__" : Str)) = false := by decide) (hcd : (x == ("__classdict__" : Str)) = false := by decide)
    (hline : (apos.endLine == cpos.line) = true := by rfl) (hst : ∀ y, starEach [a] (X y).env = (false, eval a (X y).env) :: starEach [] (X y).env := by intro ψ; rfl) (hp : ∀ y, (backTo cpos (starEach [] (X y).env)).any (·.1) = false := by intro ψ; rfl)
    (hbase : ∀ y, attributeBase (.Name x p) "append" (X y).env (eval (.Name x p) (X y).env) = eval (.Name x p) (X y).env := by intro ψ; rfl)
    (hfew : ∀ y, ((backTo cpos (starEach [a] (X y).env)).all (fun x => !x.1) && (backToKw cpos (keywordEach [] (X y).env)).all (fun x => x.1.isSome) && decide (([a] : List Expr).length + ([] : List Keyword).length + (if ([] : List Keyword).isEmpty then 0 else 1) < 30)) = true := by intro ψ; rfl)
    (hs : ∀ y, swapsWith (.Call (.Attribute (.Name x p) "append" apos) [a] [] cpos) none pos.line (X y).env = pure false := by intro ψ; rfl) : QS X W m E (.Expr (.Call (.Attribute (.Name x p) "append" apos) [a] [] cpos) pos) (sApp i fa) :=
  let ⟨_, pa, da⟩ := ha; ⟨_, fun y => ps_bmK (cx.hK y) (ps_expr (pe_bm PySem.F.plainAttrs_list PySem.F.slot_list_append PySem.F.type_list_append mt_append (pe_var (hN y) (hv y) hd hcd) (pa_cons (pa y) pa_nil (hst y)) (hbase y) (hfew y) hline (hst y) (hp y)) (hs y)), ds_app h2 da⟩
theorem qs_for {tg iter : Expr} {fi : Af} {u : U → En → Option En} (cx : Ctx X W E) (pw : ∀ y, PassesOwn (model (X y).prog (X y).w) (X y).A (X y).env (X y).xe) (hi : QI X W m E false tg iter fi) (hg : QG X W m tg u) (hb : QSs X W m E ss g) (hs : ∀ y v, foldedSetIterable iter (X y).env v = pure v := by intro ψ ψ; rfl) : QS X W m E (.For tg iter ss [] pos) (sFor fi u g) :=
  let ⟨_, pi, di⟩ := hi; let ⟨_, pg, dg⟩ := hg; let ⟨_, pb, db⟩ := hb; ⟨_, fun y => ps_for (pw y) (cx.calm y) (pi y) (pg y) (pb y) (hs y), ds_for di dg db⟩
theorem qs_while (pw : ∀ y, PassesOwn (model (X y).prog (X y).w) (X y).A (X y).env (X y).xe) (hc : QT X W m E c ft) (hb : QSs X W m E ss g) : QS X W m E (.While c ss [] pos) (sWh ft g) := let ⟨_, pc, dc⟩ := hc; let ⟨_, pb, db⟩ := hb; ⟨_, fun y => ps_while (pw y) (pc y) (pb y), ds_while dc db⟩
end
noncomputable def okJ (m mb : Md) (k : Nat) (js : List Nat) : Bool := (List.range js.length).all fun p => !(m.B.contains (js.getD p 0) || m.M.contains (js.getD p 0)) || mb.B.contains (k + p)
theorem okJ_of {m mb : Md} {k : Nat} {js : List Nat} (h : okJ m mb k js = true) : ∀ p j, js[p]? = some j → (j ∈ m.B ∨ j ∈ m.M) → k + p ∈ mb.B := fun p j hj hm => by
  have lt : p < js.length := (List.getElem?_eq_some_iff.mp hj).1
  have z := List.all_eq_true.mp h p (List.mem_range.mpr lt)
  have e : js.getD p 0 = j := by rw [List.getD_eq_getElem?_getD, hj]; rfl
  rw [e] at z
  have q : (m.B.contains j || m.M.contains j) = true := by
    rcases hm with hm | hm
    · simp [hm]
    · simp [hm]
  rw [q] at z
  simpa using z
noncomputable abbrev BlkA := Addr × List (Addr × Obj) × List Addr × Shared × Hp
noncomputable abbrev blkX (X : Cx) (N : List Str) (scope : Scope) (cl : List (Str × Addr)) : BlkA → Cx := fun b => cxComp X N scope cl b.1 b.2.1 b.2.2.1 b.2.2.2.1 b.2.2.2.2
section
variable {X : Unit → Cx} {W : Wd} {m mb : Md} {E : XK} {elt tg iter : Expr} {ifs : List Expr} {scope : Scope} {pos : Pos} {cl : List (Str × Addr)} {bs caps : List Str} {js : List Nat} {fi : Af} {u : U → En → Option En} {ft : Tf} {fe : Ef}
theorem Ctx.blk (cx : Ctx X W E) : Ctx (blkX (X ()) (bs ++ caps) scope cl) W E0 := ⟨fun ψ => cx.hK (), fun ψ => cx.hm (), fun ψ => cx.calm (), fun ψ => cx.hu (), fun ψ ψ ψ ψ ψ ψ ψ ψ h => by obtain ⟨_, _, _, _, _, _, _, _, _, _, q⟩ := h; exact q.elim⟩
theorem qts_nil {ι : Type} {Y : L2.FC ι} : QTs Y W m E [] tfTrue := ⟨_, fun ψ => pts_nil, dt_true⟩
theorem qts_one {ι : Type} {Y : L2.FC ι} {c : Expr} (h : QT Y W m E c ft) : QTs Y W m E [c] ft := let ⟨_, p, d⟩ := h; ⟨_, fun y => pts_one (p y), d⟩
theorem qf_comp (mb : Md) (cx : Ctx X W E) (c : CompOk (X ()) scope cl js caps) (hi : QI X W m E true tg iter fi) (hg : QG (blkX (X ()) (bs ++ caps) scope cl) W mb tg u) (ht : QTs (blkX (X ()) (bs ++ caps) scope cl) W mb E0 ifs ft) (he : QE (blkX (X ()) (bs ++ caps) scope cl) W mb E0 elt fe)
    (hB : okJ m mb bs.length js = true := by rfl) (hM : mb.M = [] := by rfl) (hs : ∀ x, foldedSetIterable iter (X ()).env x = pure x := by intro ψ; rfl) : QF X W m E (.ListComp elt [⟨tg, iter, ifs, 0⟩] scope pos) (eComp fi bs.length js u ft fe) :=
  let ⟨_, pi, di⟩ := hi; let ⟨_, pg, dg⟩ := hg; let ⟨_, pt, dt⟩ := ht; let ⟨_, pe, de⟩ := he
  ⟨_, fun y => pe_comp (cx.calm y) c (pi y) (fun C pins fp s2 H2 => pg (C, pins, fp, s2, H2)) (fun C pins fp s2 H2 => pt (C, pins, fp, s2, H2)) (fun C pins fp s2 H2 => pe (C, pins, fp, s2, H2)) hs, df_comp di dg dt de (okJ_of hB) hM⟩
theorem qs_setC {y : Str} {py spos : Pos} (own : Bool) (i : Nat) (mb : Md) (cx : Ctx X W E) (hN : (X ()).N.Nodup) (c : CompOk (X ()) scope cl js caps) (hi : QI X W m E true tg iter fi) (hg : QG (blkX (X ()) (bs ++ caps) scope cl) W mb tg u) (ht : QTs (blkX (X ()) (bs ++ caps) scope cl) W mb E0 ifs ft) (he : QE (blkX (X ()) (bs ++ caps) scope cl) W mb E0 elt fe)
    (hB : okJ m mb bs.length js = true := by rfl) (hM : mb.M = [] := by rfl) (hs : ∀ x, foldedSetIterable iter (X ()).env x = pure x := by intro ψ; rfl) (hsw : swapsWith (.ListComp elt [⟨tg, iter, ifs, 0⟩] scope pos) (some (.Name y py)) spos.line (X ()).env = pure true := by rfl)
    (hy : (X ()).N[i]? = some y := by rfl) (hl : (X ()).env.scope.names.lookup y = some .local := by rfl) (h1 : i ∉ m.B := by decide) (h2 : (own = true → i ∈ m.M) ∧ (own = false → i ∉ m.M) := by decide) : QS X W m E (.Assign [.Name y py] (.ListComp elt [⟨tg, iter, ifs, 0⟩] scope pos) spos) (sSet i (eComp fi bs.length js u ft fe)) :=
  let ⟨_, pi, di⟩ := hi; let ⟨_, pg, dg⟩ := hg; let ⟨_, pt, dt⟩ := ht; let ⟨_, pe, de⟩ := he
  ⟨_, fun ψ => ps_setC hsw hN hy hl (cx.calm ()) c (pi ()) (fun C pins fp s2 H2 => pg (C, pins, fp, s2, H2)) (fun C pins fp s2 H2 => pt (C, pins, fp, s2, H2)) (fun C pins fp s2 H2 => pe (C, pins, fp, s2, H2)) hs, by
    cases own with
    | true => exact ds_own h1 (h2.1 rfl) (df_comp di dg dt de (okJ_of hB) hM)
    | false => exact ds_set h1 (h2.2 rfl) (df_comp di dg dt de (okJ_of hB) hM).e⟩
end
section
variable {P : Program} {w : World} {K : PySem.W.Frag} {mg : L2.SV} {base : Heap} {N : List Str} {qual : Str} {scope : Scope} {f : Addr} {cd : Value} {A : Around} {outer : List Env} {s : Shared} {H : Hp} {E : XK} {W : Wd} {m : Md} {k : Nat}
noncomputable abbrev defX (P : Program) (w : World) (K : PySem.W.Frag) (mg : L2.SV) (base : Heap) (N : List Str) (qual : Str) (scope : Scope) (f : Addr) (cd : Value) (A : Around) (outer : List Env) (s : Shared) (H : Hp) (E : XK) : Unit → Cx := fun ψ => cxOf (CX1 P w) P w K mg base N qual scope f cd A outer s H E
theorem ctx_def (hK : W.K = K) (hm : W.mg = mg) (hr : Room k (A.deeper (envOfC qual scope s.heap.objs.size f cd))) : Ctx (defX P w K mg base N qual scope f cd A outer s H E) W E := ⟨fun ψ => hK.symm, fun ψ => hm.symm, fun ψ => rfl, fun ψ => hr.units, fun ψ => passes1 fun ψ ψ ψ h => h⟩
theorem pw_def : ∀ y, PassesOwn (model (defX P w K mg base N qual scope f cd A outer s H E y).prog (defX P w K mg base N qual scope f cd A outer s H E y).w) (defX P w K mg base N qual scope f cd A outer s H E y).A (defX P w K mg base N qual scope f cd A outer s H E y).env (defX P w K mg base N qual scope f cd A outer s H E y).xe := fun ψ => PassesOwn.leaving
noncomputable def okB (bs : List Bool) (m : Md) : Bool := ((List.range bs.length).all fun i => !(bs.getD i false) || m.B.contains i) && m.M.all fun i => decide (bs.length ≤ i)
theorem Fun.okQ {x qual : Str} {st : Stmt} {f : Addr} {fd : FuncData} {N ps : List Str} {k : Nat} {wk : Wd → Prop} {bs : List Bool} {m : Md} {g : Sf} (F : Fun K x qual st f fd) (S : FnScope N ps (defScope st)) (hl : bs.length = ps.length) (hB : okB bs m = true) (hN : ps.length ≤ N.length)
    (hbody : ∀ (cdv : Value) (A : Around) (outer : List Env) (s : Shared) (H : Hp) (E : XK) (W : Wd), W.K = K → W.mg = mg → wk W → Room k (A.deeper (envOfC qual (defScope st) s.heap.objs.size f cdv)) → A.handled = none →
      QK (defX P w K mg base N qual (defScope st) f cdv A outer s H E) W m E (defBody st) g) : FnOk P w K mg base (CX1 P w) (k + 1) f fd ps (spU K mg wk bs.length bs (runU N.length g)) := by
  unfold okB at hB
  rw [Bool.and_eq_true] at hB
  refine F.okU S hl (fun i h => ?_) (fun i h => by simpa using List.all_eq_true.mp hB.2 i h) hN fun cdv A outer s H E W hK hm hw hr hA => ?_
  · have lt : i < bs.length := (List.getElem?_eq_some_iff.mp h).1
    have z := List.all_eq_true.mp hB.1 i (List.mem_range.mpr lt)
    rw [List.getD_eq_getElem?_getD, h] at z
    simpa using z
  · obtain ⟨t, p, d⟩ := hbody cdv A outer s H E W hK hm hw hr hA
    exact ⟨t, p (), d⟩
theorem QK.out {X : Cx} {ss : List Stmt} {g : Sf} (h : QK (fun _ : Unit => X) W m E ss g) : ∃ t, PSs X ss t ∧ DK W m E t g := let ⟨t, p, d⟩ := h; ⟨t, p (), d⟩
noncomputable def XOk (K : PySem.W.Frag) (mg : L2.SV) (x : Str) : Prop := ∃ C : Addr, mg x = some (.ref C) ∧ PySem.W.excIn K C [.type "ValueError", .type "Exception", .type "BaseException", .type "object"] "ValueError.__new__" = true
theorem qs_raise {x : Str} {e0 : Expr} {fe : Ef} {np cpos pos : Pos} (hA : A.handled = none) (hmg : W.mg = mg) (hX : XOk K mg x) (he : QB (fun _ : Unit => (cxOf (CX1 P w) P w K mg base N qual scope f cd A outer s H E).nox) W m E e0 fe)
    (hg : Gl (cxOf (CX1 P w) P w K mg base N qual scope f cd A outer s H E) x := by rfl) (hd : (x == ("__debug__" : Str)) = false := by decide) (hs : starEach [e0] (envOfC qual scope s.heap.objs.size f cd) = [(false, eval e0 (envOfC qual scope s.heap.objs.size f cd))] := by rfl) :
    QS (defX P w K mg base N qual scope f cd A outer s H E) W m E (.Raise (some (.Call (.Name x np) [e0] [] cpos)) none pos) (sRaise x fe) :=
  let ⟨_, hm, hC⟩ := hX; let ⟨_, pe, de⟩ := he; ⟨_, fun ψ => ps_raise hA PySem.F.excBase_ValueError hC hm hg (pe ()) hd hs, ds_raise (by rw [hmg]; exact hm) de⟩
end
section
variable {ι : Type} {X : L2.FC ι} {W : Wd} {m : Md} {E : XK} {a : Expr} {fa : Ef} {pos p : Pos} {s : Stmt} {x : Str}
theorem qs_reverse {apos cpos : Pos} (i : Nat) (cx : Ctx X W E) (h2 : i ∈ m.M := by decide) (hN : ∀ y, (X y).N[i]? = some x := by intro ψ; rfl) (hv : ∀ y, Vis (X y).env.scope x := by intro ψ; first | exact Or.inl rfl | exact Or.inr (Or.inl rfl) | exact Or.inr (Or.inr rfl)) (hd : (x == ("__debug__" : Str)) = false := by decide) (hcd : (x == ("__classdict__" : Str)) = false := by decide)
    (hline : (apos.endLine == cpos.line) = true := by rfl) (hbase : ∀ y, attributeBase (.Name x p) "reverse" (X y).env (eval (.Name x p) (X y).env) = eval (.Name x p) (X y).env := by intro ψ; rfl)
    (hs : ∀ y, swapsWith (.Call (.Attribute (.Name x p) "reverse" apos) [] [] cpos) none pos.line (X y).env = pure false := by intro ψ; rfl) : QS X W m E (.Expr (.Call (.Attribute (.Name x p) "reverse" apos) [] [] cpos) pos) (sRevM i) :=
  ⟨_, fun y => ps_bm0K (cx.hK y) (ps_expr (pe_bm0 PySem.F.plainAttrs_list PySem.F.slot_list_reverse PySem.F.type_list_reverse mt_reverse (pe_var (hN y) (hv y) hd hcd) (hbase y) hline) (hs y)), ds_revM h2⟩
end
section
variable {X : Cx}
noncomputable def SqU (K : PySem.W.Frag) (H : Hp) (p : Addr) (vs : List V) : Prop := SqL K H p vs ∨ SqT K H p vs
theorem seq_iter {pins : List (Addr × Obj)} {σ : St} {H : Hp} {s : Shared} {p : Addr} {vs : List V} (hc : X.calm = true) (I : Inv X pins σ H s) (h : SqU X.K H p vs) :
    ∃ its : List Value, Vals vs its ∧ ∀ (Q : L2.VSP) (E : L2.VSP), (∀ (g : Heap) (St : Nat → Heap → Prop), Walks X.prog X.w X.A.in1 s.heap.objs.size [s.heap.objs.size, p] [s.heap.objs.size] its.length (fun i v => its[i]? = some v) St → St 0 g → (∀ b ∈ [s.heap.objs.size, p], b < g.objs.size) →
      (∀ h' tk, (∀ b o, b ∉ [s.heap.objs.size] → g.get? b = some o → h'.get? b = some o) → Inv X pins σ H { s with heap := h', toks := tk }) → Q (.ref s.heap.objs.size) { s with heap := g }) → wpAny (model X.prog X.w) X.A.in1 (pyIter (.ref p)) Q E s := by
  have hh : X.A.in1.handled = none := I.ok.hd hc
  rcases h with h | h
  · obtain ⟨its, rv, pl, hz⟩ := I.list h
    have lt : p < s.heap.objs.size := by obtain ⟨o, e, _⟩ := pl.isList; exact Heap.lt_size e
    refine ⟨its, rv, fun Q E k => wpAny_pyIter_list pl.isList ?_⟩
    have e : (fun (i : Nat) (v : Value) => its.toArray[i]? = some v) = (fun i v => its[i]? = some v) := by funext i v; simp
    have Wk := Walks.list (prog := X.prog) (w := X.w) (A := X.A.in1) hh s.heap.objs.size p (Nat.ne_of_lt lt) its.toArray
    rw [e] at Wk
    refine k _ _ Wk ⟨⟨_, Heap.get?_push_size _ rfl, rfl, rfl⟩, pl.isList.push _⟩ (fun b hb => ?_) fun h' tk hk => I.kept (t' := tk) fun b o e => hk b o (fun hm => ?_) (Heap.get?_push_of_some _ e)
    · rw [Heap.size_push]
      rcases List.mem_cons.mp hb with z | z
      · rw [z]; exact Nat.lt_succ_self _
      · rw [List.mem_singleton.mp z]; exact Nat.lt_succ_of_lt lt
    · rw [List.mem_singleton.mp hm] at e
      exact Nat.lt_irrefl _ (Heap.lt_size e)
  · obtain ⟨its, rv, pl, hz⟩ := I.tuple h
    have pt : s.heap.IsTuple p its.toArray := pl
    have lt : p < s.heap.objs.size := by obtain ⟨o, e, _⟩ := pl; exact Heap.lt_size e
    refine ⟨its, rv, fun Q E k => wpAny_pyIter_tuple pt ?_⟩
    have e : (fun (i : Nat) (v : Value) => its.toArray[i]? = some v) = (fun i v => its[i]? = some v) := by funext i v; simp
    have Wk := Walks.tuple (prog := X.prog) (w := X.w) (A := X.A.in1) hh s.heap.objs.size p (Nat.ne_of_lt lt) its.toArray
    rw [e] at Wk
    refine k _ _ Wk ⟨⟨_, Heap.get?_push_size _ rfl, rfl, rfl⟩, pt.at fun o e => Heap.get?_push_of_some _ e⟩ (fun b hb => ?_) fun h' tk hk => I.kept (t' := tk) fun b o e => hk b o (fun hm => ?_) (Heap.get?_push_of_some _ e)
    · rw [Heap.size_push]
      rcases List.mem_cons.mp hb with z | z
      · rw [z]; exact Nat.lt_succ_self _
      · rw [List.mem_singleton.mp z]; exact Nat.lt_succ_of_lt lt
    · rw [List.mem_singleton.mp hm] at e
      exact Nat.lt_irrefl _ (Heap.lt_size e)
theorem vals_int_at {ns : List Int} {its : List Value} (r : Vals (ns.map V.int) its) {i : Nat} {v : Value} (h : its[i]? = some v) : ∃ t, v = .int (ns.getD i 0) t := by
  have l := r.length
  rw [List.length_map] at l
  have li : i < its.length := (List.getElem?_eq_some_iff.mp h).1
  have e : (ns.map V.int)[i]? = some (.int (ns.getD i 0)) := by
    have : i < ns.length := by lia
    simp [List.getD, this]
  obtain ⟨u, hu, ru⟩ := r.get e
  rw [h] at hu; cases hu
  exact ru
theorem preSum_take (ns : List Int) : ∀ k, k ≤ ns.length → preSum (fun i => ns.getD i 0) k = (ns.take k).sum
  | 0, _ => by simp [preSum]
  | k + 1, h => by
    have hk : k < ns.length := h
    rw [preSum, preSum_take ns k (by lia), List.take_succ_eq_append_getElem hk, List.sum_append]
    simp [List.getD, hk]
theorem preSum_getD (ns : List Int) : preSum (fun i => ns.getD i 0) ns.length = ns.sum := by rw [preSum_take ns _ (Nat.le_refl _), List.take_length]
noncomputable def rSumU (K : PySem.W.Frag) : List V → Hp → VK → Prop := fun xs H Q => ∃ (p : Addr) (ns : List Int), xs = [.ref p] ∧ SqU K H p (ns.map V.int) ∧ Q (.int ns.sum) H
theorem call_sumU {K : PySem.W.Frag} (hK : X.K = K) (hc : X.calm = true) : CallR X (.builtin "sum") (rSumU K) := by
  subst hK
  intro pins s σ H xs us Q I r h
  obtain ⟨p, ns, rfl, hq, q⟩ := h
  obtain ⟨u, rfl, ru⟩ := vals1 r
  cases ru
  obtain ⟨its, rv, k⟩ := seq_iter hc I hq
  refine call_sum_walkG (k _ _ fun g St W st lt keep => ⟨_, _, _, _, _, St, fun i => ns.getD i 0, rfl, W, st, lt, fun i v h => vals_int_at rv h, fun h' tk t' hk => ?_⟩)
  have l := rv.length
  rw [List.length_map] at l
  rw [← l, preSum_getD]
  exact ⟨.int _, H, keep h' tk hk, ⟨_, rfl⟩, q⟩
end
section
variable {W : Wd} {m : Md} {E : XK}
theorem RB.seq {Hc H : Hp} {us : List U} {v : V} {u : U} (s : Same Hc H) (h : u = .lst us ∨ u = .tup us) (r : RB W Hc H u v) : ∃ a vs, v = .ref a ∧ SqU W.K H a vs ∧ RUs W Hc us vs := by
  rcases h with rfl | rfl
  · obtain ⟨a, vs, rfl, h1, r1⟩ := r.lst s; exact ⟨a, vs, rfl, .inl (.of h1), r1⟩
  · obtain ⟨a, vs, rfl, h1, r1⟩ := r.tup; exact ⟨a, vs, rfl, .inr (.of (s _ _ h1)), r1⟩
noncomputable def seqInts : U → Option (List Int)
  | .lst us => asInts us
  | .tup us => asInts us
  | _ => none
theorem seqInts_r {Hc H : Hp} {u : U} {v : V} {ns : List Int} (s : Same Hc H) (h : seqInts u = some ns) (r : RB W Hc H u v) : ∃ a, v = .ref a ∧ SqU W.K H a (ns.map V.int) := by
  unfold seqInts at h
  split at h
  · obtain ⟨a, vs, rfl, q, rr⟩ := r.seq s (.inl rfl)
    rw [asInts_of h] at rr
    have e := rr.ints; subst e
    exact ⟨a, rfl, q⟩
  · obtain ⟨a, vs, rfl, q, rr⟩ := r.seq s (.inr rfl)
    rw [asInts_of h] at rr
    have e := rr.ints; subst e
    exact ⟨a, rfl, q⟩
  · cases h
noncomputable def uSumU : List U → Option U
  | [u] => (seqInts u).map fun ns => .int ns.sum
  | _ => none
theorem cu_sumU : CallU W [true] (rSumU W.K) uSumU := by
  intro Hc H ω us vs s p rs u e Q k
  unfold uSumU at e; split at e
  · rename_i w
    obtain ⟨v, rfl, rv⟩ := rs.one
    cases q : seqInts w with
    | none => rw [q] at e; exact noS e
    | some ns =>
      rw [q] at e; cases e
      obtain ⟨a, rfl, sq⟩ := seqInts_r s q rv
      exact ⟨a, ns, rfl, sq, k _ Hc H (Ext.refl s) p .int⟩
  · cases e
variable {ι : Type} {X : L2.FC ι} {a : Expr} {fa : Ef} {pos p : Pos}
theorem qe_sumU (cx : Ctx X W E) (B : Bl W.mg) (ha : QB X W m E a fa) (hg : ∀ y, Gl (X y) "sum" := by intro ψ; rfl) (hs : ∀ y, starEach [a] (X y).env = (false, eval a (X y).env) :: starEach [] (X y).env := by intro ψ; rfl) (hp : ∀ y, (backTo pos (starEach [] (X y).env)).any (·.1) = false := by intro ψ; rfl) : QE X W m E (.Call (.Name "sum" p) [a] [] pos) (eB uSumU (aCons fa aNil)) :=
  qe_cb (fun y => call_sumU (cx.hK y) (cx.calm y)) cu_sumU (fun y => (congrFun (cx.hm y) _).trans B.sum) boot_sum (qa_b ha qa_nil hs) hg (by decide) (by decide) hs hp
structure Kt (K : PySem.W.Frag) : Prop where
  ib : PySem.W.kitOne K (.type "int") (.type "bool") = some false
  bi : PySem.W.kitOne K (.type "bool") (.type "int") = some true
noncomputable def isTy : U → String → Option U
  | .int _, n => if n = "int" then some (.bl true) else if n = "bool" then some (.bl false) else none
  | .bl _, n => if n = "bool" then some (.bl true) else if n = "int" then some (.bl true) else none
  | .tup _, n => if n = "tuple" then some (.bl true) else none
  | .lst _, n => if n = "list" then some (.bl true) else none
  | _, _ => none
noncomputable def tyU : U → Option String
  | .ty n => some n
  | _ => none
noncomputable def uIsT : List U → Option U
  | [a, b] => (tyU b).bind (isTy a)
  | _ => none
theorem uIsT_of {us : List U} {u : U} (e : uIsT us = some u) : ∃ a n, us = [a, .ty n] ∧ isTy a n = some u := by
  rcases us with _ | ⟨a, _ | ⟨b, _ | ⟨c, t⟩⟩⟩
  · exact noS e
  · exact noS e
  · cases b with
    | ty n => exact ⟨a, n, rfl, e⟩
    | _ => exact noS e
  · exact noS e
theorem kit_same {K : PySem.W.Frag} {n : String} : PySem.W.kitOne K (.type n) (.type n) = some true := by simp [PySem.W.kitOne]
theorem cu_isT (kt : Kt W.K) : CallU W [true, true] (rIsA W.K) uIsT := by
  intro Hc H ω us vs s p rs u e Q k
  obtain ⟨a, n, rfl, e⟩ := uIsT_of e
  obtain ⟨v, v', rfl, r1, r2⟩ := rs.two
  have := r2.ty; subst this
  cases a with
  | int x =>
    have := r1.int; subst this
    by_cases c1 : n = "int"
    · subst c1; cases e; exact ris_ty (.int _) kit_same (k _ Hc H (Ext.refl s) p .bl)
    · replace e : (if n = "int" then some (U.bl true) else if n = "bool" then some (U.bl false) else none) = some u := e
      rw [if_neg c1] at e
      by_cases c2 : n = "bool"
      · subst c2; cases e; exact ris_ty (.int _) kt.ib (k _ Hc H (Ext.refl s) p .bl)
      · rw [if_neg c2] at e; cases e
  | bl x =>
    have := r1.bl; subst this
    by_cases c1 : n = "bool"
    · subst c1; cases e; exact ris_ty (.bl _) kit_same (k _ Hc H (Ext.refl s) p .bl)
    · replace e : (if n = "bool" then some (U.bl true) else if n = "int" then some (U.bl true) else none) = some u := e
      rw [if_neg c1] at e
      by_cases c2 : n = "int"
      · subst c2; cases e; exact ris_ty (.bl _) kt.bi (k _ Hc H (Ext.refl s) p .bl)
      · rw [if_neg c2] at e; cases e
  | tup x =>
    obtain ⟨a, vs, rfl, h1, _⟩ := r1.tup
    by_cases c1 : n = "tuple"
    · subst c1; cases e; exact ris_ty (.tup (s _ _ h1)) kit_same (k _ Hc H (Ext.refl s) p .bl)
    · replace e : (if n = "tuple" then some (U.bl true) else none) = some u := e
      rw [if_neg c1] at e; cases e
  | lst x =>
    obtain ⟨a, vs, rfl, h1, _⟩ := r1.lst s
    by_cases c1 : n = "list"
    · subst c1; cases e; exact ris_ty (.lst h1) kit_same (k _ Hc H (Ext.refl s) p .bl)
    · replace e : (if n = "list" then some (U.bl true) else none) = some u := e
      rw [if_neg c1] at e; cases e
  | _ => exact noS e
variable {b : Expr} {fr : Af}
theorem qe_isT (cx : Ctx X W E) (B : Bl W.mg) (kt : Kt W.K) (ha : QA X W m E [true, true] [a, b] fr) (hg : ∀ y, Gl (X y) "isinstance" := by intro ψ; rfl) (hs : ∀ y, starEach [a, b] (X y).env = (false, eval a (X y).env) :: starEach [b] (X y).env := by intro ψ; rfl) (hp : ∀ y, (backTo pos (starEach [b] (X y).env)).any (·.1) = false := by intro ψ; rfl) : QE X W m E (.Call (.Name "isinstance" p) [a, b] [] pos) (eB uIsT fr) :=
  qe_cb (fun y => call_isK (cx.hK y)) (cu_isT kt) (fun y => (congrFun (cx.hm y) _).trans B.isinstance) boot_isinstance ha hg (by decide) (by decide) hs hp
end
theorem line_big : 1000000 ≤ sizeLine := by decide
theorem atI_cast {α : Type} (xs : List α) (n : Nat) : atI xs (n : Int) = xs[n]? := by
  unfold atI ixN
  rw [if_pos (Int.natCast_nonneg n)]
  by_cases h : n < xs.length
  · rw [if_pos (by lia)]; simp
  · rw [if_neg (by lia)]; simp [h]
theorem atI_zero {α : Type} (xs : List α) : atI xs (0 : Int) = xs[0]? := atI_cast xs 0
theorem atI_one {α : Type} (xs : List α) : atI xs (1 : Int) = xs[1]? := atI_cast xs 1
theorem atI_in {α : Type} {xs : List α} {k : Int} (h0 : 0 ≤ k) (h1 : k < xs.length) : atI xs k = some (xs[k.toNat]'(by lia)) := by
  obtain ⟨n, rfl⟩ := Int.eq_ofNat_of_zero_le h0
  rw [atI_cast]
  have : n < xs.length := by lia
  simp [this]
theorem atI_end {α : Type} (xs : List α) (x : α) : atI (xs ++ [x]) (-1 : Int) = some x := by
  unfold atI ixN
  have h2 : -(((xs ++ [x]).length : Nat) : Int) ≤ -1 := by simp; lia
  rw [if_neg (by lia), if_pos h2]
  have e : (-1 + ((xs ++ [x]).length : Int)).toNat = xs.length := by simp; lia
  rw [e]; simp
theorem atI_map {α β : Type} {f : α → β} {xs : List α} {k : Int} : atI (xs.map f) k = (atI xs k).map f := by
  unfold atI
  rw [List.length_map]
  cases ixN xs.length k with
  | none => rfl
  | some j => simp
theorem uIx_l {us : List U} {k : Int} : uIx (.lst us) (.int k) = atI us k := rfl
theorem uIx_t {us : List U} {k : Int} : uIx (.tup us) (.int k) = atI us k := rfl
theorem uDiv_s {a b : Int} (h0 : 0 < b) (h1 : b < 18446744073709551616) : uDiv (.int a) (.int b) = some (.int (a / b)) := by
  unfold uDiv
  have e : (18446744073709551616 : Nat) ≤ 2 ^ 9000 := by
    rw [show (18446744073709551616 : Nat) = 2 ^ 64 by decide]; exact Nat.pow_le_pow_right (by decide) (by decide)
  simp only
  rw [if_pos ⟨h0, by lia⟩]
theorem big_le {k : Nat} (h : k ≤ 9000) {a : Int} (h1 : a < 2 ^ k) (h2 : -(2 ^ k) < a) : a.natAbs < 2 ^ 9000 := by
  have e : (2 : Nat) ^ k ≤ 2 ^ 9000 := Nat.pow_le_pow_right (by decide) h
  have z : ((2 ^ k : Nat) : Int) = (2 : Int) ^ k := by push_cast; rfl
  lia
theorem uDiv_b {a b : Int} (k : Nat) (hk : k ≤ 9000) (h0 : 0 < b) (h1 : b < 2 ^ k) : uDiv (.int a) (.int b) = some (.int (a / b)) := by
  unfold uDiv
  simp only
  rw [if_pos ⟨h0, big_le hk h1 (by have := two_pow_nn k; lia)⟩]
theorem uMod_s {a b : Int} (h0 : 0 < b) : uMod (.int a) (.int b) = some (.int (a % b)) := by unfold uMod; simp only; rw [if_pos h0]
theorem uMul_l {a b : Int} (h1 : -18446744073709551616 < a) (h2 : a < 18446744073709551616) : uMul (.int a) (.int b) = some (.int (a * b)) := by
  unfold uMul; simp only; rw [if_pos (.inl ⟨by lia, by lia⟩)]
theorem uMul_r {a b : Int} (h1 : -18446744073709551616 < b) (h2 : b < 18446744073709551616) : uMul (.int a) (.int b) = some (.int (a * b)) := by
  unfold uMul; simp only; rw [if_pos (.inr (.inl ⟨by lia, by lia⟩))]
theorem uMul_b {a b : Int} (k : Nat) (hk : k ≤ 9000) (h1 : a < 2 ^ k) (h2 : -(2 ^ k) < a) (h3 : b < 2 ^ k) (h4 : -(2 ^ k) < b) : uMul (.int a) (.int b) = some (.int (a * b)) := by
  unfold uMul; simp only; rw [if_pos (.inr (.inr ⟨big_le hk h1 h2, big_le hk h3 h4⟩))]
theorem uPow_s {a b : Int} (h0 : 0 ≤ b) (h1 : b ≤ 1000000) (h2 : -18446744073709551616 < a) (h3 : a < 18446744073709551616) : uPow (.int a) (.int b) = some (.int (a ^ b.toNat)) := by
  unfold uPow; simp only; rw [if_pos ⟨h0, h1, by lia⟩]
theorem uAdd_i {a b : Int} : uAdd (.int a) (.int b) = some (.int (a + b)) := rfl
theorem uAdd_l {a b : List U} (h : a.length + b.length ≤ 1000000) : uAdd (.lst a) (.lst b) = some (.lst (a ++ b)) := by unfold uAdd; simp only; rw [if_pos (Nat.le_trans h line_big)]
theorem uAdd_t {a b : List U} (h : a.length + b.length ≤ 1000000) : uAdd (.tup a) (.tup b) = some (.tup (a ++ b)) := by unfold uAdd; simp only; rw [if_pos (Nat.le_trans h line_big)]
theorem mkT_s {us : List U} (h : us.length ≤ 1000000) : mkT us = some (.tup us) := by unfold mkT; rw [if_pos (Nat.le_trans h line_big)]
theorem mkL_s {us : List U} (h : us.length ≤ 1000000) : mkL us = some (.lst us) := by unfold mkL; rw [if_pos (Nat.le_trans h line_big)]
theorem ite_lt {α : Type} {n : Nat} {a b : α} (h : n < 1000000) : (if n < sizeLine then a else b) = a := by rw [if_pos (Nat.lt_of_lt_of_le h line_big)]
theorem ite_le {α : Type} {n : Nat} {a b : α} (h : n ≤ 1000000) : (if n ≤ sizeLine then a else b) = a := by rw [if_pos (Nat.le_trans h line_big)]
theorem uR1_s {j : Int} (h0 : -4611686018427387904 ≤ j) (h1 : j < 4611686018427387904) : uR1 [.int j] = some (rngU 0 j.toNat) := by unfold uR1; simp only; rw [if_pos ⟨by lia, by lia⟩]
theorem uR2_s {i j : Int} (h0 : -4611686018427387904 ≤ i) (h1 : i < 4611686018427387904) (h2 : -4611686018427387904 ≤ j) (h3 : j < 4611686018427387904) : uR2 [.int i, .int j] = some (rngU i (j - i).toNat) := by unfold uR2; simp only; rw [if_pos ⟨⟨by lia, by lia⟩, ⟨by lia, by lia⟩⟩]
theorem rngU_len {lo : Int} {n : Nat} : (rngU lo n).length = n := by simp [rngU]
theorem rngU_at {lo : Int} {n i : Nat} {x : U} (h : (rngU lo n)[i]? = some x) : i < n ∧ x = .int (lo + i) := by
  unfold rngU at h
  rw [List.getElem?_map] at h
  by_cases l : i < n
  · rw [List.getElem?_range l] at h; cases h; exact ⟨l, rfl⟩
  · rw [List.getElem?_eq_none (by simpa using l)] at h; cases h
section
variable {i j n : Nat} {fa fb fc fi : Ef} {ft ft' : Tf} {fr : Af} {ρ : En} {ω : Om} {u : U} {us : List U} {g g1 g2 : Sf} {h h' : U → U → Option U} {q : List U → Option U} {q1 : U → Option U} {x : Str} {a : U → En → Option En} {b : List U → En → Option En} {fl fh : Pf} {F : Ff}
theorem sNext_ap : sNext ρ ω = .nx ρ ω := rfl
theorem sIf_ap : sIf ft g1 g2 ρ ω = Fl.of (ft ρ ω) fun b ω1 => if b = true then g1 ρ ω1 else g2 ρ ω1 := rfl
theorem sSet_ap : sSet i fa ρ ω = Fl.of (fa ρ ω) fun u ω1 => .nx (ρ.set i (some u)) ω1 := rfl
theorem sRet_ap : sRet fa ρ ω = Fl.of (fa ρ ω) fun u ω1 => .rt u ω1 := rfl
theorem sAug_ap : sAug i h fa ρ ω = match ρ[i]? with
  | some (some a) => Fl.of (fa ρ ω) fun b ω1 => match h a b with
    | some c => .nx (ρ.set i (some c)) ω1
    | none => .stk
  | _ => .stk := rfl
theorem sApp_ap : sApp i fa ρ ω = match ρ[i]? with
  | some (some (.lst us)) => Fl.of (fa ρ ω) fun u ω1 => if us.length < sizeLine then .nx (ρ.set i (some (.lst (us ++ [u])))) ω1 else .stk
  | _ => .stk := rfl
theorem sRevM_ap : sRevM i ρ ω = match ρ[i]? with
  | some (some (.lst us)) => .nx (ρ.set i (some (.lst us.reverse))) ω
  | _ => .stk := rfl
theorem sAsg_ap : sAsg a fa ρ ω = Fl.of (fa ρ ω) fun u ω1 => match a u ρ with
  | some ρ' => .nx ρ' ω1
  | none => .stk := rfl
theorem sFor_ap : sFor fr a g ρ ω = Fl.of (fr ρ ω) fun us ω1 => forU (stepU a g) us ρ ω1 := rfl
theorem stepU_ap : stepU a g u ρ ω = match a u ρ with
  | some ρ' => g ρ' ω
  | none => .stk := rfl
theorem sRaise_ap : sRaise x fa ρ ω = Fl.of (fa ρ ω) fun ψ ω1 => .err x none ω1 := rfl
theorem aName_ap : aName i u ρ = some (ρ.set i (some u)) := rfl
theorem aTup_ap : aTup n b (.tup us) ρ = if us.length = n then b us ρ else none := rfl
theorem aNilT_ap : aNilT [] ρ = some ρ := rfl
theorem aConsT_ap : aConsT a b (u :: us) ρ = (a u ρ).bind (b us) := rfl
theorem eVar_ap : eVar i ρ ω = match ρ[i]? with
  | some (some u) => .ok u ω
  | _ => .stk := rfl
theorem eC_ap : eC u ρ ω = .ok u ω := rfl
theorem eOp_ap : eOp h fa fb ρ ω = (fa ρ ω).bnd fun a ω1 => (fb ρ ω1).bnd fun b ω2 => .of (h a b) ω2 := rfl
theorem eUn_ap : eUn q1 fa ρ ω = (fa ρ ω).bnd fun a ω1 => .of (q1 a) ω1 := rfl
theorem eTup_ap : eTup fr ρ ω = (fr ρ ω).bnd fun us ω1 => .of (mkT us) ω1 := rfl
theorem eLst_ap : eLst fr ρ ω = (fr ρ ω).bnd fun us ω1 => .of (mkL us) ω1 := rfl
theorem eB_ap : eB q fr ρ ω = (fr ρ ω).bnd fun us ω1 => .of (q us) ω1 := rfl
theorem eCall_ap : eCall F fr ρ ω = (fr ρ ω).bnd F := rfl
theorem eSl_ap {g : U → Option Int → Option Int → Option U} : eSl g fa fl fh ρ ω = (fa ρ ω).bnd fun a ω1 => (fl ρ ω1).bnd fun l ω2 => (fh ρ ω2).bnd fun h ω3 => .of (g a l h) ω3 := rfl
theorem eRev_ap : eRev fa fl ρ ω = (fa ρ ω).bnd fun a ω1 => (fl ρ ω1).bnd fun l ω2 => .of (uRev a l) ω2 := rfl
theorem eComp_ap {k : Nat} {js : List Nat} : eComp fr k js a ft fa ρ ω = (fr ρ ω).bnd fun us ω1 => if us.length ≤ sizeLine then asOk (cmpU (cstU a ft fa (blkU k js ρ)) us ω1) fun r ω2 => .ok (.lst r) ω2 else .stk := rfl
theorem cstU_ap : cstU a ft fa ρ u ω = match a u ρ with
  | some ρ' => (ft ρ' ω).bnd fun b ω1 => if b = true then (fa ρ' ω1).bnd fun u ω2 => .ok (some u) ω2 else .ok none ω1
  | none => .stk := rfl
theorem tfB_ap : tfB fa ρ ω = (fa ρ ω).bnd fun u ω1 => .of (asB u) ω1 := rfl
theorem tfAnd_ap : tfAnd ft ft' ρ ω = (ft ρ ω).bnd fun b ω1 => if b = true then ft' ρ ω1 else .ok false ω1 := rfl
theorem tfOr_ap : tfOr ft ft' ρ ω = (ft ρ ω).bnd fun b ω1 => if b = true then .ok true ω1 else ft' ρ ω1 := rfl
theorem tfNot_ap : tfNot ft ρ ω = (ft ρ ω).bnd fun b ω1 => .ok (!b) ω1 := rfl
theorem tfTrue_ap : tfTrue ρ ω = .ok true ω := rfl
theorem aNil_ap : aNil ρ ω = .ok [] ω := rfl
theorem aCons_ap : aCons fa fr ρ ω = (fa ρ ω).bnd fun u ω1 => (fr ρ ω1).bnd fun us ω2 => .ok (u :: us) ω2 := rfl
theorem pNo_ap : pNo ρ ω = .ok none ω := rfl
theorem pSome_ap : pSome fa ρ ω = (fa ρ ω).bnd fun u ω1 => .of (asI u) ω1 := rfl
theorem iOf_ap : iOf fa ρ ω = (fa ρ ω).bnd fun u ω1 => .of (asSeq u) ω1 := rfl
theorem iArgs_ap {q : List U → Option (List U)} : iArgs q fr ρ ω = (fr ρ ω).bnd fun us ω1 => .of (q us) ω1 := rfl
end
theorem forU_inv {st : U → En → Om → Fl} {K : Fl → Prop} {ρ : En} {ω : Om} {xs : List U} (P : Nat → En → Om → Prop) (h0 : P 0 ρ ω) (hs : ∀ i x ρ ω, xs[i]? = some x → P i ρ ω → ∃ ρ' ω', st x ρ ω = .nx ρ' ω' ∧ P (i + 1) ρ' ω') (hd : ∀ ρ ω, P xs.length ρ ω → K (.nx ρ ω)) : K (forU st xs ρ ω) := by
  have key : ∀ (ys : List U) (i : Nat) (ρ : En) (ω : Om), xs.drop i = ys → P i ρ ω → i ≤ xs.length → K (forU st ys ρ ω) := by
    intro ys
    induction ys with
    | nil =>
      intro i ρ ω e p l
      have : i = xs.length := by
        have := congrArg List.length e; simp at this; lia
      subst this
      exact hd ρ ω p
    | cons y ys ih =>
      intro i ρ ω e p l
      have hi : xs[i]? = some y := by
        have := congrArg (fun z => z[0]?) e
        simpa using this
      obtain ⟨ρ', ω', e1, p1⟩ := hs i y ρ ω hi p
      unfold forU
      rw [e1]
      have lt : i < xs.length := (List.getElem?_eq_some_iff.mp hi).1
      refine ih (i + 1) ρ' ω' ?_ p1 lt
      rw [drop_cons hi] at e
      exact (List.cons.inj e).2
  exact key xs 0 ρ ω rfl h0 (Nat.zero_le _)
noncomputable def thenF (g : Sf) (r : Fl) : Fl := match r with
  | .nx ρ' ω' => g ρ' ω'
  | o => o
theorem sSeq_then {g1 g2 : Sf} {ρ : En} {ω : Om} : sSeq g1 g2 ρ ω = thenF g2 (g1 ρ ω) := rfl
@[simp] theorem thenF_nx {g : Sf} {ρ : En} {ω : Om} : thenF g (.nx ρ ω) = g ρ ω := rfl
@[simp] theorem thenF_rt {g : Sf} {u : U} {ω : Om} : thenF g (.rt u ω) = .rt u ω := rfl
@[simp] theorem thenF_err {g : Sf} {c : Str} {p : Option Int} {ω : Om} : thenF g (.err c p ω) = .err c p ω := rfl
noncomputable def endF (r : Fl) : Res U := match r with
  | .nx _ ω' => .ok .non ω'
  | .rt u ω' => .ok u ω'
  | .err c p ω' => .err c p ω'
  | _ => .stk
theorem runU_end {n : Nat} {g : Sf} {us : List U} {ω : Om} : runU n g us ω = endF (g (us.map some ++ List.replicate (n - us.length) none) ω) := rfl
@[simp] theorem endF_rt {u : U} {ω : Om} : endF (.rt u ω) = .ok u ω := rfl
@[simp] theorem endF_nx {ρ : En} {ω : Om} : endF (.nx ρ ω) = .ok .non ω := rfl
@[simp] theorem endF_err {c : Str} {p : Option Int} {ω : Om} : endF (.err c p ω) = .err c p ω := rfl
theorem cmpU_ints {st : U → Om → Res (Option U)} {f : Int → Option U} {ω : Om} : ∀ {ns : List Int}, (∀ x ∈ ns, st (.int x) ω = .ok (f x) ω) → cmpU st (ns.map U.int) ω = .ok (ns.filterMap f) ω
  | [], _ => rfl
  | x :: xs, h => by
    rw [List.map_cons, cmpU, h x (by simp), Res.bnd_ok, cmpU_ints fun y hy => h y (List.mem_cons_of_mem _ hy), Res.bnd_ok]
    cases e : f x with
    | none => rw [List.filterMap_cons_none e]; rfl
    | some u => rw [List.filterMap_cons_some e]; rfl
theorem toDs_ints : ∀ ns : List Int, U.toDs (ns.map U.int) = some (ns.map D.int)
  | [] => by rw [List.map_nil, U.toDs]; rfl
  | n :: ns => by rw [List.map_cons, U.toDs, U.toD, toDs_ints ns]; rfl
theorem uEqs_ints (a b : List Int) : uEqs (a.map U.int) (b.map U.int) = some (decide (a = b)) := by
  unfold uEqs
  rw [toDs_ints, toDs_ints]
  simp [depths_ints, eqs_ints]
theorem uEq_ii {a b : Int} : uEq (.int a) (.int b) = some (.bl (decide (a = b))) := rfl
theorem uNe_ii {a b : Int} : uNe (.int a) (.int b) = some (.bl (!decide (a = b))) := rfl
theorem uNe_tt {a b : List Int} : uNe (.tup (a.map U.int)) (.tup (b.map U.int)) = some (.bl (!decide (a = b))) := by show (uEqs _ _).map (fun k => U.bl (!k)) = _; rw [uEqs_ints]; rfl
theorem uNe_ll {a b : List Int} : uNe (.lst (a.map U.int)) (.lst (b.map U.int)) = some (.bl (!decide (a = b))) := by show (uEqs _ _).map (fun k => U.bl (!k)) = _; rw [uEqs_ints]; rfl
theorem uNe_l0 {a : List Int} : uNe (.lst (a.map U.int)) (.lst []) = some (.bl (!decide (a = []))) := uNe_ll (b := [])
theorem seqInts_t {ns : List Int} : seqInts (.tup (ns.map U.int)) = some ns := asInts_map ns
theorem seqInts_l {ns : List Int} : seqInts (.lst (ns.map U.int)) = some ns := asInts_map ns
theorem fn1_to0 {P : Program} {w : World} {K : PySem.W.Frag} {mg : L2.SV} {base : Heap} {k : Nat} {f : Addr} {fd : FuncData} {ps : List Str} {sp : Sp} (F : FnOk P w K mg base (CX1 P w) k f fd ps sp) : FnOk P w K mg base CX0 k f fd ps (fun vs H Q ψ => sp vs H Q E0) :=
  ⟨fun vs H Q E h => F.len vs H Q E0 h, fun A outer s H args us vs Q E hr he hb hv hs => codeAny_mono (F.run A outer s H args us vs Q E0 hr he hb hv hs) fun r s' q => by
    cases r with
    | error e => obtain ⟨_, _, _, _, _, _, _, _, _, _, z⟩ := q; exact z.elim
    | ok fl => cases fl <;> exact q⟩
noncomputable def spLaw (K : PySem.W.Frag) : Sp := fun vs H Q ψ => ∃ sc, ∃ ns : List Int, vs = [.ref sc] ∧ SqL K H sc (ns.map V.int) ∧ ns.length ≤ 63 ∧ ∀ H', Q (.bl true) H'
noncomputable def wd0 (K : PySem.W.Frag) (mg : L2.SV) : Wd := ⟨K, mg, 0, [], fun ψ ψ => True, fun ψ ψ ψ ψ ψ => trivial⟩
noncomputable def Itd (hi : Int) (n : Nat) : It := ⟨fun i ψ => i < n, fun i H x H' => H' = H ∧ x = .int (hi - i), fun i ψ => n ≤ i⟩
theorem turn_down {P : Program} {w : World} {K : PySem.W.Frag} {tg : Expr} (it : Addr) (hi : Int) (n : Nat) : Turn P w K tg (Itd hi n) [it] it (fun i h => IsRangeIter h it (hi + (i : Nat) * (-1)) ((n : Int) - (i : Nat)) (-1)) where
  mem := by simp
  obj := fun i h st b hb => by
    have e : b = it := by simpa using hb
    subst e
    exact ⟨_, st, fun v z => by
      have z' : Data.fields _ = Data.cell v := z
      cases z'⟩
  keep := fun i h h' st k => k it (by simp) _ st
  item := by
    intro X hP hw hK hc i pins s σ H E I hf st hg
    subst hP hw hK
    obtain ⟨f0, f1, f2, f3, f4, f5⟩ := hf it (by simp)
    have W := Walks.range (prog := X.prog) (w := X.w) (I.ok.hd hc) it hi (-1) n
    refine W.item i s _ _ hg st fun v h' tk hv st' kk => ?_
    obtain ⟨t, rfl⟩ := hv
    have I1 : Inv X pins σ H { s with heap := h', toks := tk } := I.turned (fun b o hb e => kk b o (by simpa using hb) e) f0 f1 f3 f4 f5
    refine ⟨_, rfl, go_of (s := { s with heap := h', toks := tk }) (n := "range_iterator") st' rfl rfl (by decide) ⟨.int (hi - i), H, I1, ⟨t, ?_⟩, ⟨rfl, rfl⟩, st', fun b hb => (hf b hb).1⟩⟩
    congr 1
    lia
  done := by
    intro X hP hw hK hc i pins s σ H E I hf st hg
    subst hP hw hK
    obtain ⟨f0, f1, f2, f3, f4, f5⟩ := hf it (by simp)
    exact wpAny_pyNext_range_end (I.ok.hd hc) st (by have : n ≤ i := hg; lia) fun h' eb => ⟨rfl, I.turned (t' := s.toks) (fun b o hb e => eb b o hb e) f0 f1 f3 f4 f5⟩
  self := fun ψ ψ ψ ψ ψ st h => wpAny_pyIter_rangeiter st h
theorem rangeSize_down (a b : Int) : Builtin.Range.rangeSize a b (-1) = if a > b then a - b else 0 := by
  unfold Builtin.Range.rangeSize
  rw [if_neg (by decide)]
  split
  · rw [show (-(-1) : Int) = 1 by decide, Int.ediv_one]; lia
  · rfl
theorem small_down {a b : Int} (ha : -(2 ^ 62) ≤ a) (ha' : a < 2 ^ 62) (hb : -(2 ^ 62) ≤ b) (hb' : b < 2 ^ 62) : Builtin.Range.small a b (-1) = true := by
  unfold Builtin.Range.small
  rw [rangeSize_down]
  simp only [Builtin.Range.rangeFitsLong, Bool.and_eq_true, Bool.or_eq_true, decide_eq_true_eq, beq_iff_eq, show ¬ ((-1 : Int) > 0) by decide, if_false]
  split <;> simp <;> lia
noncomputable def iRng3 (ta : TA) : TI := fun σ H R => ta σ H fun vs H1 => ∃ i j : Int, vs = [.int i, .int j, .int (-1)] ∧ (-(2 ^ 62) ≤ i ∧ i < 2 ^ 62 ∧ -(2 ^ 62) ≤ j ∧ j < 2 ^ 62) ∧ R (Itd i (i - j).toNat) H1
theorem pi_range3 {X : Cx} {tg a b c : Expr} {ta : TA} {p pos : Pos} (hg : Gl X "range") (hm : X.mg "range" = none) (ha : PA X [a, b, c] ta) (hs : starEach [a, b, c] X.env = [(false, eval a X.env), (false, eval b X.env), (false, eval c X.env)]) (hs2 : starEach [b, c] X.env = [(false, eval b X.env), (false, eval c X.env)]) :
    PI X tg (.Call (.Name "range" p) [a, b, c] [] pos) (iRng3 ta) := by
  intro pins s σ H R I h
  refine Call_ (ld_blt I hg hm boot_range (PyProof.Rows.callWith_type1 (thn (ha pos pins s σ H _ I h) fun us s1 ⟨vs, H1, I1, r1, q1⟩ => ?_) (by rw [hs, hs2]) (by rw [hs2]; rfl)))
  obtain ⟨i, j, e, ⟨q1, q2, q3, q4⟩, q⟩ := q1
  subst e
  cases r1 with
  | cons r rr =>
    cases rr with
    | cons r' rr =>
      cases rr with
      | cons r'' rr =>
        cases rr
        obtain ⟨t, rfl⟩ := r
        obtain ⟨t', rfl⟩ := r'
        obtain ⟨t'', rfl⟩ := r''
        refine call_range_3 (by decide) ?_ (Or.inl (PyProof.noPylong_small (by decide)))
        refine wpAny_pyIter_range (IsRange.new ..) (small_down q1 q2 q3 q4) ?_
        have I2 : Inv X pins σ H1 { s1 with heap := s1.heap.push { cls := .type "range", data := .fields #[.int i t, .int j t', .int (-1) t''] }, toks := s1.toks } := I1.kept fun b o e => Heap.get?_push_of_some _ e
        refine ⟨(s1.heap.push { cls := .type "range", data := .fields #[.int i t, .int j t', .int (-1) t''] }).objs.size, [(s1.heap.push { cls := .type "range", data := .fields #[.int i t, .int j t', .int (-1) t''] }).objs.size], _, _, H1, rfl,
          I2.kept (t' := s1.toks) fun b o e => Heap.get?_push_of_some _ e, turn_down _ i (i - j).toNat, ?_, fun b hb => ?_, q⟩
        · have e1 : i + ((0 : Nat) : Int) * (-1) = i := by simp
          have e2 : (((i - j).toNat : Nat) : Int) - ((0 : Nat) : Int) = Builtin.Range.rangeSize i j (-1) := by rw [rangeSize_down]; split <;> lia
          show IsRangeIter _ _ (i + ((0 : Nat) : Int) * (-1)) ((((i - j).toNat : Nat) : Int) - ((0 : Nat) : Int)) (-1)
          rw [e1, e2]
          exact Heap.get?_push_size _ rfl
        · have e : b = (s1.heap.push { cls := .type "range", data := .fields #[.int i t, .int j t', .int (-1) t''] }).objs.size := by simpa using hb
          subst e
          exact I2.fpOk (Nat.le_refl _) (I2.hok.fresh (Nat.le_refl _))
noncomputable def dnU (hi : Int) (n : Nat) : List U := (List.range n).map fun i : Nat => U.int (hi - (i : Int))
section
variable {W : Wd} {m : Md} {E : XK} {c : Bool} {tr : TA} {fr : Af}
theorem itd_r {Hb Hc : Hp} {hi : Int} {n : Nat} : ItR W Hb Hc (Itd hi n) (dnU hi n) := by
  intro Hc2 H2 s1 s2 s3
  refine ⟨fun i u hu => ?_, by show n ≤ (dnU hi n).length; simp [dnU]⟩
  unfold dnU at hu
  rw [List.getElem?_map] at hu
  have li : i < n := by
    by_cases l : i < n
    · exact l
    · rw [List.getElem?_eq_none (by simpa using l)] at hu; cases hu
  rw [List.getElem?_range li] at hu
  cases hu
  refine ⟨li, fun x H3 y => ?_⟩
  obtain ⟨rfl, rfl⟩ := y
  exact ⟨Hc2, Ext.refl s2, fun ψ ψ h => h, .int⟩
open Classical in
noncomputable def uR3 : List U → Option (List U)
  | [.int i, .int j, .int k] => if InR i ∧ InR j ∧ k = -1 then some (dnU i (i - j).toNat) else none
  | _ => none
theorem uR3_s {i j : Int} (h0 : -4611686018427387904 ≤ i) (h1 : i < 4611686018427387904) (h2 : -4611686018427387904 ≤ j) (h3 : j < 4611686018427387904) : uR3 [.int i, .int j, .int (-1)] = some (dnU i (i - j).toNat) := by
  unfold uR3; simp only; rw [if_pos ⟨⟨by lia, by lia⟩, ⟨by lia, by lia⟩, rfl⟩]
theorem dnU_len {hi : Int} {n : Nat} : (dnU hi n).length = n := by simp [dnU]
theorem RBs.three {Hc H : Hp} {u u' u'' : U} {vs : List V} (h : RBs W Hc H [true, true, true] [u, u', u''] vs) : ∃ v v' v'', vs = [v, v', v''] ∧ RB W Hc H u v ∧ RB W Hc H u' v' ∧ RB W Hc H u'' v'' := by
  match vs, h with
  | [], h => unfold RBs at h; exact h.elim
  | v :: r, h =>
    unfold RBs at h
    obtain ⟨v', v'', e, q, q'⟩ := RBs.two h.2
    exact ⟨v, v', v'', by rw [e], h.1, q, q'⟩
theorem di_r3 (hr : DA W m E [true, true, true] tr fr) : DI W m E c (iRng3 tr) (iArgs uR3 fr) := by
  intro H0 ρ ω σ Hc H ow S R h
  refine hr H0 ρ ω σ Hc H ow S _ ((Aft.bnd h).imp fun us ω1 Hc1 H1 e1 p1 h1 vs rs => ?_)
  revert h1
  cases hg : uR3 us with
  | none => exact fun h1 => h1.elim
  | some ws =>
    intro h1
    unfold uR3 at hg
    split at hg
    · split at hg <;> cases hg
      rename_i i j k hj
      obtain ⟨rfl⟩ := hj.2.2
      obtain ⟨v, v', v'', rfl, rv, rv', rv''⟩ := rs.three
      have := rv.int; subst this
      have := rv'.int; subst this
      have := rv''.int; subst this
      exact ⟨i, j, rfl, ⟨hj.1.1, hj.1.2, hj.2.1.1, hj.2.1.2⟩, h1 Hc1 H1 (Ext.refl e1.sub) p1 _ itd_r⟩
    · cases hg
variable {ι : Type} {X : L2.FC ι} {a b d : Expr} {pos p : Pos}
theorem qi_r3 {tg : Expr} (cx : Ctx X W E) (B : Bl W.mg) (ha : QA X W m E [true, true, true] [a, b, d] fr) (hg : ∀ y, Gl (X y) "range" := by intro ψ; rfl) (hs : ∀ y, starEach [a, b, d] (X y).env = [(false, eval a (X y).env), (false, eval b (X y).env), (false, eval d (X y).env)] := by intro ψ; rfl) (hs2 : ∀ y, starEach [b, d] (X y).env = [(false, eval b (X y).env), (false, eval d (X y).env)] := by intro ψ; rfl) :
    QI X W m E c tg (.Call (.Name "range" p) [a, b, d] [] pos) (iArgs uR3 fr) := let ⟨_, pa, da⟩ := ha; ⟨_, fun y => pi_range3 (hg y) ((congrFun (cx.hm y) _).trans B.range) (pa y) (hs y) (hs2 y), di_r3 da⟩
end
end L2
set_option maxHeartbeats 1000000
namespace L2
open PySem PySem.Spec PyProof.Rows
section
variable {W : Wd} {m : Md} {E : XK}
end
section
variable {ι : Type} {X : L2.FC ι} {W : Wd} {m : Md} {E : XK} {a b c e : Expr} {fa fb fc f : Ef} {fr : Af} {bs : List Bool} {es : List Expr} {pos p p2 : Pos} {i : Nat} {x : Str}
end
section
variable {X : Cx}
end
section
variable {W : Wd} {m : Md} {E : XK} {tr : TA} {fr : Af}
end
section
variable {ι : Type} {X : L2.FC ι} {W : Wd} {m : Md} {E : XK} {a b : Expr} {fr : Af} {pos p p2 pos2 : Pos}
end
structure PlW (W : Wd) : Prop where
  mem : W.pa ∈ W.L
  out : ∀ ω H, W.pl ω H → ∃ sc, H W.pa = some (.lst (.ref sc :: ω.rs.map V.int)) ∧ SqL W.K H sc (ω.cs.map V.int)
  inn : ∀ ω H sc rs, W.pl ω H → H W.pa = some (.lst (.ref sc :: ω.rs.map V.int)) → W.pl ⟨ω.cs, rs⟩ (upd H W.pa (.lst (.ref sc :: rs.map V.int)))
open Classical in
noncomputable def Hr (L : List Addr) (H : Hp) : Hp := fun b => if b ∈ L then H b else none
theorem Hr_same {L : List Addr} {H : Hp} : Same (Hr L H) H := fun b o h => by
  unfold Hr at h
  by_cases c : b ∈ L
  · rw [if_pos c] at h; exact h
  · rw [if_neg c] at h; cases h
noncomputable def wdP (K : PySem.W.Frag) (mg : L2.SV) (pa : Addr) (L : List Addr) : Wd where
  K := K
  mg := mg
  pa := pa
  L := L
  pl := fun ω H => pa ∈ L ∧ ∃ sc, H pa = some (.lst (.ref sc :: ω.rs.map V.int)) ∧ SqL K (Hr L H) sc (ω.cs.map V.int)
  st := fun ω H H' h k => by
    obtain ⟨m, sc, e, q⟩ := h
    refine ⟨m, sc, k _ _ e (.inl m), Same.seq (fun b o hb => ?_) q⟩
    unfold Hr at hb ⊢
    by_cases c : b ∈ L
    · rw [if_pos c] at hb ⊢; exact k _ _ hb (.inl c)
    · rw [if_neg c] at hb; cases hb
theorem wdP_ok {K : PySem.W.Frag} {mg : L2.SV} {pa : Addr} {L : List Addr} (h : pa ∈ L) : PlW (wdP K mg pa L) := by
  refine ⟨h, fun ω H p => ?_, fun ω H sc rs p e => ?_⟩
  · obtain ⟨_, sc, e, q⟩ := p
    exact ⟨sc, e, Hr_same.seq q⟩
  · obtain ⟨m, sc', e', q⟩ := p
    have e0 : H pa = some (.lst (.ref sc :: ω.rs.map V.int)) := e
    rw [e'] at e0
    have z : sc' = sc := by injection e0 with z1; injection z1 with z2; injection z2 with z3; injection z3
    subst z
    refine ⟨m, sc', upd_same, ?_⟩
    rcases q with q | q
    · refine .inl ?_
      have key : ∀ o, Hr L H sc' = some o → (∃ xs : List Int, o = .lst (xs.map V.int)) ∨ (∃ ob u, o = .frz ob u) → Hr L (upd H pa (.lst (.ref sc' :: rs.map V.int))) sc' = some o := fun o ho hk => by
        have hh := Hr_same _ _ ho
        have ne : sc' ≠ pa := fun z => by
          rw [z, e'] at hh; injection hh with hh
          rcases hk with ⟨xs, rfl⟩ | ⟨ob, u, rfl⟩
          · injection hh with hh
            cases xs with
            | nil => cases hh
            | cons x xs => rw [List.map_cons] at hh; injection hh with h1 h2; cases h1
          · cases hh
        unfold Hr at ho ⊢
        by_cases c : sc' ∈ L
        · rw [if_pos c] at ho ⊢; rw [upd_ne ne]; exact ho
        · rw [if_neg c] at ho; cases ho
      rcases q with q | ⟨o, q⟩
      · exact .inl (key _ q (.inl ⟨_, rfl⟩))
      · exact .inr ⟨o, key _ q (.inr ⟨_, _, rfl⟩)⟩
    · exact .inr q
noncomputable def ePl (i k : Nat) : Ef := fun ρ ω => match ρ[i]? with
  | some (some .pile) => .of ((ω.rs[k]?).map U.int) ω
  | _ => .stk
noncomputable def ePlLen (i : Nat) : Ef := fun ρ ω => match ρ[i]? with
  | some (some .pile) => .ok (.int ω.cs.length) ω
  | _ => .stk
noncomputable def ePlAt (i k : Nat) : Ef := fun ρ ω => match ρ[i]? with
  | some (some .pile) => match ω.rs[k]? with
    | some n => .of ((atI ω.cs n).map U.int) ω
    | none => .stk
  | _ => .stk
noncomputable def sPl (i k : Nat) (fa : Ef) : Sf := fun ρ ω => Fl.of (fa ρ ω) fun u ω1 => match ρ[i]? with
  | some (some .pile) => match u with
    | .int n => if k < ω1.rs.length then .nx ρ ⟨ω1.cs, ω1.rs.set k n⟩ else .stk
    | _ => .stk
  | _ => .stk
section
variable {W : Wd} {m : Md} {E : XK} {i k : Nat} {ta tb : TE} {fa : Ef} {ρ : En} {ω : Om} {σ : St} {H0 Hc0 Hc H : Hp} {ow : Nat → Addr}
theorem Sr.pile (S : Sr W m ρ ω σ H0 Hc H ow) (h : ρ[i]? = some (some .pile)) : σ[i]? = some (some (.ref W.pa)) := by
  obtain ⟨v, q, r⟩ := S.get h
  rw [q, r.pile]
theorem atI_succ {α : Type} {x : α} {xs : List α} {k : Nat} {y : α} (h : xs[k]? = some y) : atI (x :: xs) ((k + 1 : Nat) : Int) = some y := by
  rw [atI_cast]; simpa using h
theorem de_pl (w : PlW W) : DE W m E (tOp (rIxA W.K) (tVar i) (tC (.int ((k + 1 : Nat) : Int)))) (ePl i k) := by
  intro H0 ρ ω σ Hc H ow S Q h
  unfold ePl at h
  split at h
  · rename_i e
    cases q : ω.rs[k]? with
    | none => rw [q] at h; exact h.elim
    | some n =>
      rw [q] at h
      obtain ⟨sc, h1, h2⟩ := w.out _ _ S.pl.pl
      refine ⟨_, S.pile e, .inl ⟨W.pa, _, _, .int n, rfl, rfl, .of h1, atI_succ (by rw [List.getElem?_map, q]; rfl), ?_⟩⟩
      exact h Hc H (Ext.refl S.sub) S.pl _ .int
  · exact h.elim
theorem de_plLen (w : PlW W) : DE W m E (tCB (rLen W.K) (tCons (tOp (rIxA W.K) (tVar i) (tC (.int 0))) tNil)) (ePlLen i) := by
  intro H0 ρ ω σ Hc H ow S Q h
  unfold ePlLen at h
  split at h
  · rename_i e
    obtain ⟨sc, h1, h2⟩ := w.out _ _ S.pl.pl
    refine ⟨_, S.pile e, .inl ⟨W.pa, _, _, .ref sc, rfl, rfl, .of h1, by rw [atI_zero]; rfl, ?_⟩⟩
    refine ⟨sc, _, rfl, .inl h2, ?_⟩
    rw [List.length_map]
    exact h Hc H (Ext.refl S.sub) S.pl _ .int
  · exact h.elim
theorem atI_V {ns : List Int} {k n : Int} (h : atI ns k = some n) : atI (ns.map V.int) k = some (.int n) := by
  rw [atI_map, h]; rfl
theorem de_plAt (w : PlW W) : DE W m E (tOp (rIxA W.K) (tOp (rIxA W.K) (tVar i) (tC (.int 0))) (tOp (rIxA W.K) (tVar i) (tC (.int ((k + 1 : Nat) : Int))))) (ePlAt i k) := by
  intro H0 ρ ω σ Hc H ow S Q h
  unfold ePlAt at h
  split at h
  · rename_i e
    split at h
    · rename_i n q
      cases q2 : atI ω.cs n with
      | none => rw [q2] at h; exact h.elim
      | some c =>
        rw [q2] at h
        obtain ⟨sc, h1, h2⟩ := w.out _ _ S.pl.pl
        refine ⟨_, S.pile e, .inl ⟨W.pa, _, _, .ref sc, rfl, rfl, .of h1, by rw [atI_zero]; rfl, ?_⟩⟩
        refine ⟨_, S.pile e, .inl ⟨W.pa, _, _, .int n, rfl, rfl, .of h1, atI_succ (by rw [List.getElem?_map, q]; rfl), ?_⟩⟩
        refine .inl ⟨sc, _, _, .int c, rfl, rfl, h2, atI_V q2, ?_⟩
        exact h Hc H (Ext.refl S.sub) S.pl _ .int
    · exact h.elim
  · exact h.elim
theorem Sr.plset {rs : List Int} {sc : Addr} (w : PlW W) (S : Sr W m ρ ω σ H0 Hc H ow) (h : H W.pa = some (.lst (.ref sc :: ω.rs.map V.int))) : Sr W m ρ ⟨ω.cs, rs⟩ σ H0 Hc (upd H W.pa (.lst (.ref sc :: rs.map V.int))) ow := by
  have nc : Hc W.pa = none := (S.pl.out _ w.mem).1
  refine ⟨fun b o hb => ?_, fun b o n hb => ?_, S.p0, S.len, ⟨w.inn _ _ _ _ S.pl.pl h, fun b hb => ⟨(S.pl.out b hb).1, ?_⟩⟩, S.cl, S.bo, fun j u n hj => ?_, S.di⟩
  · rw [upd_ne (fun z => by rw [z, nc] at hb; cases hb)]; exact S.sub b o hb
  · rw [upd_ne (fun z => n (by rw [z]; exact w.mem))]; exact S.s0 b o n hb
  · by_cases z : b = W.pa
    · rw [z, upd_same]; simp
    · rw [upd_ne z]; exact (S.pl.out b hb).2
  · obtain ⟨us, vs, z1, z2, z3, z4, z5, z6⟩ := S.mu j u n hj
    exact ⟨us, vs, z1, z2, by rw [upd_ne (fun z => S.nl z5 (by rw [z]; exact w.mem))]; exact z3, z4, z5, z6⟩
theorem Ext.plset {o : HO} (w : PlW W) (nc : Hc W.pa = none) (x : Ext W Hc0 H0 Hc H) : Ext W Hc0 H0 Hc (upd H W.pa o) := by
  refine ⟨fun b u n hb => ?_, x.sc, fun b u hb => ?_, x.new, fun b hb => ?_⟩
  · rw [upd_ne (fun z => n (by rw [z]; exact w.mem))]; exact x.same b u n hb
  · rw [upd_ne (fun z => by rw [z, nc] at hb; cases hb)]; exact x.sub b u hb
  · by_cases z : b = W.pa
    · rw [z, upd_same]; simp
    · rw [upd_ne z]; exact x.frz b hb
theorem ds_pl (w : PlW W) (ha : DE W m E ta fa) : DS W m E (tAsg ta (gSub (tVar i) (tC (.int ((k + 1 : Nat) : Int))) rSetL)) (sPl i k fa) := by
  intro H0 Hc0 ρ ω σ Hc H ow S x D h
  refine ha H0 ρ ω σ Hc H ow S _ ((Cont.of x h).imp fun u ω1 Hc1 H1 e1 p1 k1 v rv => ?_)
  have S1 := S.ext e1 p1
  have x1 := x.trans e1
  revert k1
  split
  · rename_i e
    split
    · rename_i n
      split
      · rename_i lt
        intro k1
        rw [RU] at rv; subst rv
        obtain ⟨sc, h1, h2⟩ := w.out _ _ p1.pl
        refine ⟨_, S1.pile e, W.pa, _, _, k + 1, rfl, rfl, h1, ?_, ?_⟩
        · unfold ixN; rw [if_pos (by lia), if_pos (by simp; lia)]; simp
        · have e2 : ((V.ref sc :: ω1.rs.map V.int).set (k + 1) (V.int n)) = V.ref sc :: (ω1.rs.set k n).map V.int := by simp [List.map_set]
          rw [e2]
          exact k1 _ Hc1 _ ow (S1.plset w h1) (Ext.plset w (p1.out _ w.mem).1 x1)
      · exact fun k1 => k1.elim
    · exact fun k1 => k1.elim
  · exact fun k1 => k1.elim
end
section
variable {ι : Type} {X : L2.FC ι} {W : Wd} {m : Md} {E : XK} {a b : Expr} {fa : Ef} {fr : Af} {pos p p2 p3 p4 p5 pos2 pos3 tp : Pos} {x : Str} {j j2 : Nat}
theorem qe_pl (i k : Nat) {kk : Int} (w : PlW W) (cx : Ctx X W E) (hk : kk = ((k + 1 : Nat) : Int) := by rfl) (hN : ∀ y, (X y).N[i]? = some x := by intro ψ; rfl) (hv : ∀ y, Vis (X y).env.scope x := by intro ψ; first | exact Or.inl rfl | exact Or.inr (Or.inl rfl) | exact Or.inr (Or.inr rfl)) (hd : (x == ("__debug__" : Str)) = false := by decide) (hcd : (x == ("__classdict__" : Str)) = false := by decide)
    (hs : PlainIx (.Constant (.int kk) j p2) := by exact fun ψ ψ => rfl) : QE X W m E (.Subscript (.Name x p) (.Constant (.int kk) j p2) pos) (ePl i k) := by
  subst hk
  exact ⟨_, fun y => pe_ix (ix_anyK (cx.hK y)) (pe_var (hN y) (hv y) hd hcd) pe_int hs, de_pl w⟩
theorem qe_plLen (i : Nat) (w : PlW W) (cx : Ctx X W E) (B : Bl W.mg) (hN : ∀ y, (X y).N[i]? = some x := by intro ψ; rfl) (hv : ∀ y, Vis (X y).env.scope x := by intro ψ; first | exact Or.inl rfl | exact Or.inr (Or.inl rfl) | exact Or.inr (Or.inr rfl)) (hd : (x == ("__debug__" : Str)) = false := by decide) (hcd : (x == ("__classdict__" : Str)) = false := by decide)
    (hi : PlainIx (.Constant (.int 0) j p2) := by exact fun ψ ψ => rfl) (hg : ∀ y, Gl (X y) "len" := by intro ψ; rfl) (hs : ∀ y, starEach [.Subscript (.Name x p) (.Constant (.int 0) j p2) pos2] (X y).env = (false, eval (.Subscript (.Name x p) (.Constant (.int 0) j p2) pos2) (X y).env) :: starEach [] (X y).env := by intro ψ; rfl) (hp : ∀ y, (backTo pos (starEach [] (X y).env)).any (·.1) = false := by intro ψ; rfl) :
    QE X W m E (.Call (.Name "len" p3) [.Subscript (.Name x p) (.Constant (.int 0) j p2) pos2] [] pos) (ePlLen i) :=
  ⟨_, fun y => pe_callB (call_lenK (cx.hK y)) (hg y) ((congrFun (cx.hm y) _).trans B.len) boot_len (pa_cons (pe_ix (ix_anyK (cx.hK y)) (pe_var (hN y) (hv y) hd hcd) pe_int hi) pa_nil (hs y)) (by decide) (by decide) (hs y) (hp y), de_plLen w⟩
theorem qe_plAt (i k : Nat) {kk : Int} (w : PlW W) (cx : Ctx X W E) (hk : kk = ((k + 1 : Nat) : Int) := by rfl) (hN : ∀ y, (X y).N[i]? = some x := by intro ψ; rfl) (hv : ∀ y, Vis (X y).env.scope x := by intro ψ; first | exact Or.inl rfl | exact Or.inr (Or.inl rfl) | exact Or.inr (Or.inr rfl)) (hd : (x == ("__debug__" : Str)) = false := by decide) (hcd : (x == ("__classdict__" : Str)) = false := by decide)
    (hi : PlainIx (.Constant (.int 0) j p2) := by exact fun ψ ψ => rfl) (hi2 : PlainIx (.Constant (.int kk) j2 p5) := by exact fun ψ ψ => rfl) (hi3 : PlainIx (.Subscript (.Name x p4) (.Constant (.int kk) j2 p5) pos3) := by exact fun ψ ψ => rfl) :
    QE X W m E (.Subscript (.Subscript (.Name x p) (.Constant (.int 0) j p2) pos2) (.Subscript (.Name x p4) (.Constant (.int kk) j2 p5) pos3) pos) (ePlAt i k) := by
  subst hk
  exact ⟨_, fun y => pe_ix (ix_anyK (cx.hK y)) (pe_ix (ix_anyK (cx.hK y)) (pe_var (hN y) (hv y) hd hcd) pe_int hi) (pe_ix (ix_anyK (cx.hK y)) (pe_var (hN y) (hv y) hd hcd) pe_int hi2) hi3, de_plAt w⟩
theorem qs_pl (i k : Nat) {kk : Int} (w : PlW W) (ha : QE X W m E a fa) (hk : kk = ((k + 1 : Nat) : Int) := by rfl) (hN : ∀ y, (X y).N[i]? = some x := by intro ψ; rfl) (hv : ∀ y, Vis (X y).env.scope x := by intro ψ; first | exact Or.inl rfl | exact Or.inr (Or.inl rfl) | exact Or.inr (Or.inr rfl)) (hd : (x == ("__debug__" : Str)) = false := by decide) (hcd : (x == ("__classdict__" : Str)) = false := by decide)
    (hs : ∀ y, swapsWithSole [.Subscript (.Name x p) (.Constant (.int kk) j p2) tp] a pos.line (X y).env = pure false := by intro ψ; rfl) (hw : ∀ y, swappedStores [.Subscript (.Name x p) (.Constant (.int kk) j p2) tp] a (X y).env = pure none := by intro ψ; rfl) (h1 : ∀ y, (assignEach [.Subscript (.Name x p) (.Constant (.int kk) j p2) tp] (X y).env).map (·.2) = [assign (.Subscript (.Name x p) (.Constant (.int kk) j p2) tp) (X y).env] := by intro ψ; rfl)
    (hq : ∀ y v, assign (.Subscript (.Name x p) (.Constant (.int kk) j p2) tp) (X y).env v = (do
      let ov ← holding [v] (eval (.Name x p) (X y).env)
      let iv ← holding [v, ov] (eval (.Constant (.int kk) j p2) (X y).env)
      standAt tp
      holding [v, ov, iv] (setItem ov iv v)
      release [v, ov, iv] []) := by intro ψ ψ; rfl) : QS X W m E (.Assign [.Subscript (.Name x p) (.Constant (.int kk) j p2) tp] a pos) (sPl i k fa) := by
  subst hk
  exact let ⟨_, pa, da⟩ := ha; ⟨_, fun y => ps_asg (pa y) (pg_sub (pe_var (hN y) (hv y) hd hcd) pe_int set_list (hq y)) (hs y) (hw y) (h1 y), ds_pl w da⟩
end
section
variable {P : Program} {w : World} {K : PySem.W.Frag} {mg : L2.SV} {base : Heap}
end
section
variable {i k : Nat} {fa : Ef} {ρ : En} {ω : Om}
theorem ePl_ap : ePl i k ρ ω = match ρ[i]? with
  | some (some .pile) => .of ((ω.rs[k]?).map U.int) ω
  | _ => .stk := rfl
theorem ePlLen_ap : ePlLen i ρ ω = match ρ[i]? with
  | some (some .pile) => .ok (.int ω.cs.length) ω
  | _ => .stk := rfl
theorem ePlAt_ap : ePlAt i k ρ ω = match ρ[i]? with
  | some (some .pile) => match ω.rs[k]? with
    | some n => .of ((atI ω.cs n).map U.int) ω
    | none => .stk
  | _ => .stk := rfl
theorem sPl_ap : sPl i k fa ρ ω = Fl.of (fa ρ ω) fun u ω1 => match ρ[i]? with
  | some (some .pile) => match u with
    | .int n => if k < ω1.rs.length then .nx ρ ⟨ω1.cs, ω1.rs.set k n⟩ else .stk
    | _ => .stk
  | _ => .stk := rfl
end
end L2
set_option maxHeartbeats 1000000
namespace L2
open PySem PySem.Spec PyProof.Rows
section
variable {W : Wd} {m : Md} {E : XK} {tr : TA} {fr : Af}
end
section
variable {ι : Type} {X : L2.FC ι} {W : Wd} {m : Md} {E : XK} {a b : Expr} {fr : Af} {pos p p2 pos2 : Pos}
end
section
variable {W : Wd} {m : Md} {E : XK} {i j : Nat} {ta : TE} {fa : Ef}
end
section
variable {ι : Type} {X : L2.FC ι} {W : Wd} {m : Md} {E : XK} {a : Expr} {fa : Ef} {pos p p2 : Pos} {x x2 : Str}
end
noncomputable def ins (x : Int) : List Int → List Int
  | [] => [x]
  | y :: ys => if x ≤ y then x :: y :: ys else y :: ins x ys
section
variable {W : Wd} {m : Md} {E : XK}
end
section
variable {ι : Type} {X : L2.FC ι} {W : Wd} {m : Md} {E : XK} {a : Expr} {fa : Ef} {pos p : Pos}
end
section
open PySem.SeqAt
open PySem.AutoSeq1 (wpAny_loadPart')
open PySem.MeetsSeq PySem.MeetsSeq2 PySem.MeetsSeq3
end
section
variable {ι : Type} {X : L2.FC ι} {W : Wd} {m : Md} {E : XK} {a b : Expr} {fa fb : Ef} {pos : Pos}
end
section
variable {ι : Type} {X : L2.FC ι} {W : Wd} {m : Md} {E : XK} {es : List Expr} {pos : Pos}
end
noncomputable abbrev TY := Ends → XK → St → Hp → Prop
noncomputable def excG (e C : Addr) (od : Option Addr) : HO := .ext fun h => ∃ o, h.get? e = some o ∧ o.cls = .ref C ∧ o.dict = od ∧ PySem.W.notCls o = true
section
variable {X : Cx} {xn cn n : Str} {i j : Nat} {call c : Expr} {b0 : Stmt} {a b suite body : List Stmt} {p1 p2 p3 p4 pos : Pos} {tc : St → Hp → VK → XK → Prop} {ts : TS} {ty ta tb : TY} {tt : TT}
end
noncomputable def ContY (W : Wd) (m : Md) (E : XK) (Hc0 H0 Hc H : Hp) (D : Ends) (r : Fl) : Prop := match r with
  | .err c pl ω' => ∀ C od Hc' H', Ext W Hc H Hc' H' → PlOk W ω' Hc' H' → W.mg c = some (.ref C) → XR Hc' pl od → E (.ref C) od H'
  | .nx ρ' ω' => Cont W m E Hc0 H0 D (.nx ρ' ω')
  | .bk ρ' ω' => Cont W m E Hc0 H0 D (.bk ρ' ω')
  | .ct ρ' ω' => Cont W m E Hc0 H0 D (.ct ρ' ω')
  | .rt u ω' => Cont W m E Hc0 H0 D (.rt u ω')
  | .stk => False
section
variable {W : Wd} {m : Md} {E : XK} {tc : St → Hp → VK → XK → Prop} {fa : Ef} {ts : TS} {ty t1 t2 : TY} {gb gh g1 g2 : Sf} {tt : TT} {ft : Tf} {i j : Nat} {tr : TA} {fr : Af} {bs : List Bool}
theorem ContY.ext {Hc0 H0 Hc H Hc1 H1 : Hp} {D : Ends} {r : Fl} (e : Ext W Hc H Hc1 H1) (h : ContY W m E Hc0 H0 Hc H D r) : ContY W m E Hc0 H0 Hc1 H1 D r := by
  cases r with
  | err c pl ω => exact fun C od Hc' H' e' => h C od Hc' H' (e.trans e')
  | _ => exact h
end
section
variable {prog : Program} {w : World} {A : Around} {E : L2.VSP} {s : Shared} {K : PySem.W.Frag} {x C : Addr} {ox : Obj} {od : Option Obj}
end
noncomputable def ExIn (H : Hp) (e C : Addr) : Prop := ∃ od, H e = some (excG e C od) ∧ ∀ d, od = some d → H d ≠ none
section
variable {X : Cx}
end
noncomputable def tbl {α : Type} [DecidableEq α] : List (Str × α × Bool) → Str → α → Option Bool
  | [], _, _ => none
  | (c', b', r) :: l, c, b => if c' = c ∧ b' = b then some r else tbl l c b
noncomputable def XN (K : PySem.W.Frag) (mg : L2.SV) : List (Str × Str × Bool) → Prop
  | [] => True
  | (c, b, r) :: l => (∃ C B, mg c = some (.ref C) ∧ mg b = some (.ref B) ∧ ExcK K C ∧ PySem.W.kitOne K (.ref C) (.ref B) = some r) ∧ XN K mg l
noncomputable def XT (K : PySem.W.Frag) (mg : L2.SV) : List (Str × String × Bool) → Prop
  | [] => True
  | (c, b, r) :: l => (∃ C, mg c = some (.ref C) ∧ ExcK K C ∧ PySem.W.kitOne K (.ref C) (.type b) = some r) ∧ XT K mg l
theorem XN.of {K : PySem.W.Frag} {mg : L2.SV} : ∀ {l : List (Str × Str × Bool)} {c b : Str} {r : Bool}, XN K mg l → tbl l c b = some r → ∃ C B, mg c = some (.ref C) ∧ mg b = some (.ref B) ∧ ExcK K C ∧ PySem.W.kitOne K (.ref C) (.ref B) = some r
  | [], _, _, _, _, e => by cases e
  | (c', b', r') :: l, c, b, r, h, e => by
    unfold tbl at e
    split at e
    · rename_i z; cases e; obtain ⟨rfl, rfl⟩ := z; exact h.1
    · exact XN.of h.2 e
theorem XT.of {K : PySem.W.Frag} {mg : L2.SV} : ∀ {l : List (Str × String × Bool)} {c : Str} {b : String} {r : Bool}, XT K mg l → tbl l c b = some r → ∃ C, mg c = some (.ref C) ∧ ExcK K C ∧ PySem.W.kitOne K (.ref C) (.type b) = some r
  | [], _, _, _, _, e => by cases e
  | (c', b', r') :: l, c, b, r, h, e => by
    unfold tbl at e
    split at e
    · rename_i z; cases e; obtain ⟨rfl, rfl⟩ := z; exact h.1
    · exact XT.of h.2 e
section
variable {W : Wd} {m : Md} {E : XK} {tn : List (Str × Str × Bool)} {tt : List (Str × String × Bool)}
theorem RB.exc {Hc H : Hp} {c : Str} {pl : Option Int} {v : V} (s : Same Hc H) (h : RB W Hc H (.exc c pl) v) : ∃ e C, v = .ref e ∧ W.mg c = some (.ref C) ∧ ExIn H e C := by
  rcases h with h | ⟨_, _, _, e, _⟩
  · cases pl with
    | none => rw [RU] at h; obtain ⟨a, C, rfl, hm, q⟩ := h; exact ⟨a, C, rfl, hm, none, s _ _ q, fun d z => by cases z⟩
    | some n => rw [RU] at h; obtain ⟨a, C, d, rfl, hm, q, q2⟩ := h; exact ⟨a, C, rfl, hm, some d, s _ _ q, fun d' z => by cases z; rw [s _ _ q2]; simp⟩
  · cases e
end
structure Ctw {ι : Type} (X : L2.FC ι) (W : Wd) : Prop where
  hK : ∀ x, (X x).K = W.K
  hm : ∀ x, (X x).mg = W.mg
section
variable {ι : Type} {X : L2.FC ι} {W : Wd} {m : Md} {E : XK} {a b c e : Expr} {fa fb fc f : Ef} {fr : Af} {bs : List Bool} {es : List Expr} {pos p p2 : Pos} {i : Nat} {x : Str}
theorem Ctx.w (cx : Ctx X W E) : Ctw X W := ⟨cx.hK, cx.hm⟩
theorem Ctx.nox (cx : Ctx X W E) : Ctx (fun y => (X y).nox) W E0 := ⟨cx.hK, cx.hm, cx.calm, cx.hu, fun ψ ψ ψ ψ ψ ψ ψ ψ h => by obtain ⟨_, _, _, _, _, _, _, _, _, _, q⟩ := h; exact q.elim⟩
end
section
variable {ι : Type} {X : L2.FC ι} {W : Wd} {m : Md} {E : XK} {a b : Expr} {fa fb : Ef} {pos p : Pos} {x : Str}
end
section
variable {X : Cx} {W : Wd} {m : Md} {E : XK} {a c call : Expr} {fa f : Ef} {fr : Af} {ft : Tf} {bs : List Bool} {es : List Expr} {pos p p1 p2 p3 p4 : Pos} {i j : Nat} {x xn cn n : Str} {sa sb body suite : List Stmt} {b0 : Stmt} {ga gb gh : Sf}
end
noncomputable def XC (K : PySem.W.Frag) (mg : L2.SV) (B : Addr) : List Str → Prop
  | [] => True
  | c :: l => (∃ C, mg c = some (.ref C) ∧ PySem.W.exmOne K (.ref C) (.ref B) = some true) ∧ XC K mg B l
theorem XC.of {K : PySem.W.Frag} {mg : L2.SV} {B : Addr} : ∀ {l : List Str}, XC K mg B l → ∀ c ∈ l, ∀ C, mg c = some (.ref C) → PySem.W.exmOne K (.ref C) (.ref B) = some true
  | [], _, c, hc, _, _ => by cases hc
  | d :: l, h, c, hc, C, hm => by
    rcases List.mem_cons.mp hc with rfl | hc
    · obtain ⟨C', hm', k⟩ := h.1
      rw [hm] at hm'; cases hm'; exact k
    · exact XC.of h.2 c hc C hm
section
variable {P : Program} {w : World} {K : PySem.W.Frag} {mg : L2.SV} {base : Heap} {N : List Str} {qual : Str} {scope : Scope} {f : Addr} {cd : Value} {A : Around} {outer : List Env} {s : Shared} {H : Hp} {E : XK} {W : Wd} {m : Md}
end
section
variable {gb gh ga g : Sf} {j : Nat} {cs : List Str} {ρ : En} {ω : Om} {ft : Tf} {F : Ff} {fr : Af}
end
theorem atI_ints {ns : List Int} {k : Int} (h0 : 0 ≤ k) (h1 : k < ns.length) : atI (ns.map U.int) k = some (.int (ns.getD k.toNat 0)) := by
  obtain ⟨n, rfl⟩ : ∃ n : Nat, k = n := ⟨k.toNat, by lia⟩
  have l : n < ns.length := by lia
  rw [atI_cast, List.getElem?_map, List.getElem?_eq_getElem l]
  simp [List.getD, l]
section
variable {a b c d e f g h i j : Int} {k : Int}
theorem atI_i2 (h0 : 0 ≤ k) (h1 : k < 2) : atI [U.int a, .int b] k = some (.int (([a, b] : List Int).getD k.toNat 0)) := atI_ints (ns := [a, b]) h0 h1
theorem atI_i3 (h0 : 0 ≤ k) (h1 : k < 3) : atI [U.int a, .int b, .int c] k = some (.int (([a, b, c] : List Int).getD k.toNat 0)) := atI_ints (ns := [a, b, c]) h0 h1
theorem atI_i4 (h0 : 0 ≤ k) (h1 : k < 4) : atI [U.int a, .int b, .int c, .int d] k = some (.int (([a, b, c, d] : List Int).getD k.toNat 0)) := atI_ints (ns := [a, b, c, d]) h0 h1
theorem atI_i5 (h0 : 0 ≤ k) (h1 : k < 5) : atI [U.int a, .int b, .int c, .int d, .int e] k = some (.int (([a, b, c, d, e] : List Int).getD k.toNat 0)) := atI_ints (ns := [a, b, c, d, e]) h0 h1
theorem atI_i6 (h0 : 0 ≤ k) (h1 : k < 6) : atI [U.int a, .int b, .int c, .int d, .int e, .int f] k = some (.int (([a, b, c, d, e, f] : List Int).getD k.toNat 0)) := atI_ints (ns := [a, b, c, d, e, f]) h0 h1
theorem atI_i7 (h0 : 0 ≤ k) (h1 : k < 7) : atI [U.int a, .int b, .int c, .int d, .int e, .int f, .int g] k = some (.int (([a, b, c, d, e, f, g] : List Int).getD k.toNat 0)) := atI_ints (ns := [a, b, c, d, e, f, g]) h0 h1
theorem atI_i8 (h0 : 0 ≤ k) (h1 : k < 8) : atI [U.int a, .int b, .int c, .int d, .int e, .int f, .int g, .int h] k = some (.int (([a, b, c, d, e, f, g, h] : List Int).getD k.toNat 0)) := atI_ints (ns := [a, b, c, d, e, f, g, h]) h0 h1
theorem atI_i10 (h0 : 0 ≤ k) (h1 : k < 10) : atI [U.int a, .int b, .int c, .int d, .int e, .int f, .int g, .int h, .int i, .int j] k = some (.int (([a, b, c, d, e, f, g, h, i, j] : List Int).getD k.toNat 0)) := atI_ints (ns := [a, b, c, d, e, f, g, h, i, j]) h0 h1
end
theorem getD_of {P : Int → Prop} {ns : List Int} {n : Nat} (h : ∀ x ∈ ns, P x) (l : n < ns.length) : P (ns.getD n 0) := by
  rw [show ns.getD n 0 = ns[n] by simp [List.getD, l]]
  exact h _ (List.getElem_mem l)
theorem cutFrom' {us : List U} {k : Int} (h0 : 0 ≤ k) : cutG us (some k) none = us.drop k.toNat := by
  obtain ⟨t, rfl⟩ : ∃ n : Nat, k = n := ⟨k.toNat, by lia⟩
  unfold cutG
  have e1 : HT.sIx us.length 0 (some (t : Int)) = min t us.length := HT.sIx_nat _ _ _
  have e2 : HT.sIx us.length us.length none = us.length := rfl
  rw [e1, e2, Int.toNat_natCast, List.take_of_length_le (by simp)]
  by_cases h : t ≤ us.length
  · rw [Nat.min_eq_left h]
  · rw [Nat.min_eq_right (by lia), List.drop_length, List.drop_eq_nil_of_le (by lia)]
theorem cmpU_gen {α : Type} {st : U → Om → Res (Option U)} {g : α → U} {f : α → Option U} {ω : Om} : ∀ {ns : List α}, (∀ x ∈ ns, st (g x) ω = .ok (f x) ω) → cmpU st (ns.map g) ω = .ok (ns.filterMap f) ω
  | [], _ => rfl
  | x :: xs, h => by
    rw [List.map_cons, cmpU, h x (by simp), Res.bnd_ok, cmpU_gen fun y hy => h y (List.mem_cons_of_mem _ hy), Res.bnd_ok]
    cases e : f x with
    | none => simp [e]
    | some u => simp [e]
theorem uRep_t1 {x : U} {k : Int} (h0 : -10000 ≤ k) (h1 : k ≤ 10000) : uRep (.tup [x]) (.int k) = some (.tup (List.replicate k.toNat x)) := by
  show (if -10000 ≤ k ∧ k ≤ 10000 then some (U.tup (List.replicate k.toNat x)) else none) = _
  rw [if_pos ⟨h0, h1⟩]
theorem uRep_l1 {x : U} {k : Int} (h0 : -10000 ≤ k) (h1 : k ≤ 10000) : uRep (.lst [x]) (.int k) = some (.lst (List.replicate k.toNat x)) := by
  show (if -10000 ≤ k ∧ k ≤ 10000 then some (U.lst (List.replicate k.toNat x)) else none) = _
  rw [if_pos ⟨h0, h1⟩]
section
variable {prog : Program} {w : World} {A : Around} {E : L2.VSP} {h : Heap} {g : Array GenState} {d : Drawn} {t : Nat} {os : OsState}
variable {nm q : Str} {C N : Addr} {bs bm bmB : List Value} {hdct : Bool} {sn : List Str} {sub : List Value} {ab : Bool} {col : Option Bool} {dd : Option Addr} {k0 k1 k2 k3 k5 : Option Value} {B newId initId : String}
end
section
variable {M : Model} {A : Around} {E : L2.VSP} {env : Env}
variable {nm q : Str} {C N : Addr} {bs bm : List Value} {hdct : Bool} {sn : List Str} {sub : List Value} {ab : Bool} {col : Option Bool} {dd : Option Addr} {k0 k1 k2 k3 k5 : Option Value} {newId : String}
end
section
variable {prog : Program} {w : World} {A : Around} {E : L2.VSP} {s : Shared} {env : Env}
variable {nm q : Str} {C N : Addr} {bs bm bmB : List Value} {hdct : Bool} {sn : List Str} {sub : List Value} {ab : Bool} {col : Option Bool} {dd : Option Addr} {k0 k1 k2 k3 k5 : Option Value} {B newId initId : String}
end
section
variable {X : Cx} {e : Expr} {te : TE} {a : Str} {j : Nat} {p5 p6 pc : Pos}
end
structure NdK (K : PySem.W.Frag) (mg : L2.SV) (C S f : Addr) : Prop where
  mS : mg "ScaleError" = some (.ref S)
  lk : ∃ nm qn N bs sn sub ab col dd k0 k1 k2 k3 k5, K.lookup C = some (excClassObj nm qn C N bs [.ref S, .type "ValueError", .type "Exception", .type "BaseException", .type "object"] true sn sub ab col dd k0 k1 k2 k3 k5 "ValueError.__new__")
  ex : PySem.W.excIn K S [.type "ValueError", .type "Exception", .type "BaseException", .type "object"] "ValueError.__new__" = true
  init : PySem.W.findIn K (.ref C) "__init__" = some (some (.ref f))
  fn : PySem.W.isFn K (.ref f) = true
  sa : PySem.W.findIn K (.ref C) "__setattr__" = some (some (.builtin "object.__setattr__"))
  np : PySem.W.findIn K (.ref C) "place" = some none
  rd : PySem.W.readsIn K S (.type "type") = true
  sg : PySem.W.specialIn K (.ref S) "__getattribute__" = some (some (.builtin "type.__getattribute__"))
  fi : PySem.W.findCls K (.ref S) (.type "type") "__init__" = some (.val (.builtin "ValueError.__init__"))
theorem NdK.elim {K : PySem.W.Frag} {mg : L2.SV} {C S f : Addr} {G : Prop} (n : NdK K mg C S f) (k : ∀ nm qn N bs sn sub ab col dd k0 k1 k2 k3 k5, K.lookup C = some (excClassObj nm qn C N bs [.ref S, .type "ValueError", .type "Exception", .type "BaseException", .type "object"] true sn sub ab col dd k0 k1 k2 k3 k5 "ValueError.__new__") → G) : G := by
  obtain ⟨nm, qn, N, bs, sn, sub, ab, col, dd, k0, k1, k2, k3, k5, lk⟩ := n.lk
  exact k _ _ _ _ _ _ _ _ _ _ _ _ _ _ lk
section
variable {X : Cx} {C S f : Addr} {a : Str} {j : Nat} {p1 p2 p3 p4 p5 p6 apos cpos pos : Pos}
end
section
variable {prog : Program} {w : World} {A : Around} {R : Result → Shared → Prop} {s : Shared} {K : PySem.W.Frag} {x C : Addr}
end
section
variable {X : Cx} {C S f : Addr} {p1 p2 pa pos : Pos}
end
section
variable {P : Program} {w : World} {K : PySem.W.Frag} {mg : L2.SV} {base : Heap}
end
section
variable {P : Program} {w : World} {K : PySem.W.Frag} {mg : L2.SV} {base : Heap} {N : List Str} {qual : Str} {scope : Scope} {f : Addr} {cd : Value} {A : Around} {outer : List Env} {s : Shared} {H : Hp} {E : XK}
end
section
variable {W : Wd} {m : Md} {E : XK} {te : TE} {fe : Ef}
end
section
variable {P : Program} {w : World} {K : PySem.W.Frag} {mg : L2.SV} {base : Heap} {N : List Str} {qual : Str} {scope : Scope} {f : Addr} {cd : Value} {A : Around} {outer : List Env} {s : Shared} {H : Hp} {E : XK} {W : Wd} {m : Md}
end
section
variable {prog : Program} {w : World} {A : Around} {E : L2.VSP} {s : Shared} {K : PySem.W.Frag} {x C : Addr} {ox : Obj} {od : Obj}
end
section
variable {ι : Type} {X : L2.FC ι} {W : Wd} {m : Md} {E : XK} {a : Expr} {fa : Ef} {ta : TE} {pos : Pos}
end
section
variable {W : Wd} {m : Md} {E : XK} {i j : Nat} {ta : TE} {fa : Ef} {ρ : En} {ω : Om} {σ : St} {H0 Hc0 Hc H : Hp} {ow : Nat → Addr}
end
section
variable {ι : Type} {X : L2.FC ι} {W : Wd} {m : Md} {E : XK} {a b : Expr} {fa : Ef} {pos p p2 p3 p4 p5 pos2 pos3 tp : Pos} {x y' : Str} {j0 : Nat}
end
section
variable {ι : Type} {X : L2.FC ι} {W : Wd} {m : Md} {E : XK} {p p2 apos cpos : Pos} {x : Str} {j0 : Nat} {i : Nat}
end
section
variable {ι : Type} {X : L2.FC ι} {W : Wd} {m : Md} {E : XK} {a : Expr} {fa : Ef} {ta : TE} {pos p2 : Pos} {lo hi : Option Expr} {fl fh : Pf} {tl th : TO}
end
section
variable {P : Program} {w : World} {K : PySem.W.Frag} {mg : L2.SV} {base : Heap}
end
noncomputable def zipU (us ws : List U) : List U := List.zipWith (fun a b => U.tup [a, b]) us ws
noncomputable def uZip : List U → Option (List U)
  | [.tup us, .lst ws] => if us.length ≤ ws.length then some (zipU us ws) else none
  | _ => none
theorem uZip_s {us ws : List U} (h : us.length ≤ ws.length) : uZip [.tup us, .lst ws] = some (zipU us ws) := by unfold uZip; simp only; rw [if_pos h]
section
variable {W : Wd} {m : Md} {E : XK} {tr : TA} {fr : Af}
theorem itz_r {Hb Hc : Hp} {a b : Addr} {us ws : List U} {vs xs : List V} (hl : us.length ≤ ws.length) (r1 : RUs W Hc us vs) (r2 : RUs W Hc ws xs) (h1 : Hc a = some (.tup vs)) (k : ∀ Hc2 H2, Same Hc Hc2 → Same Hc2 H2 → (∀ b o, b ∉ W.L → Hb b = some o → H2 b = some o) → H2 b = some (.lst xs)) : ItR W Hb Hc (Itz W.K a b) (zipU us ws) := by
  intro Hc2 H2 s1 s2 s3
  have ha := s2 _ _ (s1 _ _ h1)
  have hb := k Hc2 H2 s1 s2 s3
  refine ⟨fun i u hu => ?_, vs, .of ha, by unfold zipU; rw [List.length_zipWith, ← r1.len]; lia⟩
  unfold zipU at hu
  rw [List.getElem?_zipWith] at hu
  cases q1 : us[i]? with
  | none => rw [q1] at hu; exact noS hu
  | some x =>
    cases q2 : ws[i]? with
    | none => rw [q1, q2] at hu; cases hu
    | some y =>
      rw [q1, q2] at hu; cases hu
      obtain ⟨v, hv, rv⟩ := r1.at (i := 0) q1
      obtain ⟨v', hv', rv'⟩ := r2.at (i := 0) q2
      refine ⟨⟨vs, xs, v, v', .of ha, .of hb, hv, hv'⟩, fun z H3 hz => ?_⟩
      obtain ⟨p, x', y', hn, rfl, e1, e2, rfl⟩ := hz
      have e1 := e1 vs (.of ha)
      have e2 := e2 xs (.of hb)
      rw [hv] at e1; cases e1
      rw [hv'] at e2; cases e2
      exact ⟨upd Hc2 p (.tup [v, v']), (Ext.laid s2 hn).1, Same.laid hn, .tup upd_same (.cons ((rv.mono s1).mono (Same.laid (s2.free hn))) (.one ((rv'.mono s1).mono (Same.laid (s2.free hn)))))⟩
theorem di_zip (hr : DA W m E [true, true] tr fr) : DI W m E true (iZip W.K tr) (iArgs uZip fr) := by
  intro H0 ρ ω σ Hc H ow S R h
  refine hr H0 ρ ω σ Hc H ow S _ ((Aft.bnd h).imp fun us ω1 Hc1 H1 e1 p1 h1 vs rs => ?_)
  revert h1
  cases hg : uZip us with
  | none => exact fun h1 => h1.elim
  | some ws =>
    intro h1
    unfold uZip at hg
    split at hg
    · split at hg
      · rename_i hl
        cases hg
        obtain ⟨v, v', rfl, rv, rv'⟩ := rs.two
        obtain ⟨a, vs, rfl, q, r⟩ := rv.tup
        rcases rv' with rv' | ⟨us', b, xs, e, rfl, nl, q', r'⟩
        · rw [RU] at rv'
          obtain ⟨b, xs, rfl, q', r'⟩ := rv'
          exact ⟨a, b, rfl, ⟨vs, .of (e1.sub _ _ q)⟩, ⟨xs, .of (e1.sub _ _ q')⟩, h1 Hc1 H1 (Ext.refl e1.sub) p1 _ (itz_r hl r r' q fun Hc2 H2 s1 s2 ψ => s2 _ _ (s1 _ _ q'))⟩
        · cases e
          exact ⟨a, b, rfl, ⟨vs, .of (e1.sub _ _ q)⟩, ⟨xs, .of q'⟩, h1 Hc1 H1 (Ext.refl e1.sub) p1 _ (itz_r hl r r' q fun Hc2 H2 s1 s2 s3 => s3 _ _ nl q')⟩
      · cases hg
    · cases hg
end
section
variable {ι : Type} {X : L2.FC ι} {W : Wd} {m : Md} {E : XK} {a b : Expr} {fr : Af} {p pos tp : Pos} {es : List Expr} {x1 : Nat}
theorem pi_zipK {Y : Cx} {K : PySem.W.Frag} {tg e : Expr} {ta : TA} (h : Y.K = K) (q : PI Y tg e (iZip Y.K ta)) : PI Y tg e (iZip K ta) := h ▸ q
theorem qi_zip (cx : Ctx X W E) (B : Bl W.mg) (ha : QA X W m E [true, true] [a, b] fr) (hg : ∀ y, Gl (X y) "zip" := by intro ψ; rfl) (hs : ∀ y, starEach [a, b] (X y).env = [(false, eval a (X y).env), (false, eval b (X y).env)] := by intro ψ; rfl) (hs2 : ∀ y, starEach [b] (X y).env = [(false, eval b (X y).env)] := by intro ψ; rfl) : QI X W m E true (.Tuple es x1 tp) (.Call (.Name "zip" p) [a, b] [] pos) (iArgs uZip fr) :=
  let ⟨_, pa, da⟩ := ha; ⟨_, fun y => pi_zipK (cx.hK y) (pi_zip (hg y) ((congrFun (cx.hm y) _).trans B.zip) (pa y) (hs y) (hs2 y)), di_zip da⟩
end
section
variable {W : Wd} {m : Md} {E : XK} {ta : TE} {fa : Ef} {i : Nat}
end
section
variable {ι : Type} {X : L2.FC ι} {W : Wd} {m : Md} {E : XK} {a : Expr} {fa : Ef} {pos p : Pos} {s : Stmt} {x : Str}
end
section
variable {a b : Int} {k : Bool} {us ws : List U} {ns : List Int} {lo hi : Option Int} {u : U} {ρ : En} {n : Nat} {js : List Nat} {x : Str} {p : Option Int}
theorem asB_r : asB (.bl k) = some k := rfl
theorem asI_r : asI (.int a) = some (some a) := rfl
theorem asSeq_l : asSeq (.lst us) = some us := rfl
theorem asSeq_t : asSeq (.tup us) = some us := rfl
theorem uSub_r : uSub (.int a) (.int b) = some (.int (a - b)) := rfl
theorem uNeg_r : uNeg (.int a) = some (.int (-a)) := rfl
theorem uLt_r : uLt (.int a) (.int b) = some (.bl (decide (a < b))) := rfl
theorem uLe_r : uLe (.int a) (.int b) = some (.bl (decide (a ≤ b))) := rfl
theorem uGt_r : uGt (.int a) (.int b) = some (.bl (decide (b < a))) := rfl
theorem uGe_r : uGe (.int a) (.int b) = some (.bl (decide (b ≤ a))) := rfl
theorem uIs_r : uIs k u .non = some (.bl (if k then !isNon u else isNon u)) := by cases u <;> rfl
theorem isNon_n : isNon .non = true := rfl
theorem isNon_i : isNon (.int a) = false := rfl
theorem isNon_b : isNon (.bl k) = false := rfl
theorem isNon_t : isNon (.tup us) = false := rfl
theorem isNon_l : isNon (.lst us) = false := rfl
theorem isNon_s : isNon (.str x) = false := rfl
theorem isNon_x : isNon (.exc x p) = false := rfl
theorem uLen_l : uLen [.lst us] = some (.int us.length) := rfl
theorem uLen_t : uLen [.tup us] = some (.int us.length) := rfl
theorem uLen_s : uLen [.scr ns] = some (.int ns.length) := rfl
theorem uTuple_l : uTuple [.lst us] = some (.tup us) := rfl
theorem uTuple_t : uTuple [.tup us] = some (.tup us) := rfl
theorem uMax2_r : uMax2 [.int a, .int b] = some (.int (max a b)) := rfl
theorem uMin2_r : uMin2 [.int a, .int b] = some (.int (min a b)) := rfl
theorem uAbs_r : uAbs [.int a] = some (.int (if a < 0 then -a else a)) := rfl
theorem uIsT_ii : uIsT [.int a, .ty "int"] = some (.bl true) := rfl
theorem uIsT_ib : uIsT [.int a, .ty "bool"] = some (.bl false) := rfl
theorem uIsT_bb : uIsT [.bl k, .ty "bool"] = some (.bl true) := rfl
theorem uIsT_bi : uIsT [.bl k, .ty "int"] = some (.bl true) := rfl
theorem uIsT_tt : uIsT [.tup us, .ty "tuple"] = some (.bl true) := rfl
theorem uIsT_ll : uIsT [.lst us, .ty "list"] = some (.bl true) := rfl
theorem uAddI_r : uAddI (.int a) (.int b) = some (.int (a + b)) := rfl
theorem blkU_r : blkU n js ρ = List.replicate n none ++ js.map fun j => (ρ[j]?).getD none := rfl
theorem uSl_l : uSl (.lst us) lo hi = some (.lst (cutG us lo hi)) := rfl
theorem uSl_t : uSl (.tup us) lo hi = some (.tup (cutG us lo hi)) := rfl
theorem uSlL_l : uSlL (.lst us) lo hi = some (.lst (cutG us lo hi)) := rfl
end
section
variable {P : Program} {w : World} {K : PySem.W.Frag} {mg : L2.SV} {base : Heap}
end
section
variable {prog : Program} {w : World} {A : Around} {E : L2.VSP} {s : Shared}
end
section
variable {M : Model} {A : Around} {E : L2.VSP} {s : Shared} {env : Env}
end
section
variable {X : Cx}
end
section
variable {W : Wd} {m : Md} {E : XK} {c : Bool} {tr : TA} {fr : Af} {te : TE} {fe : Ef}
end
section
variable {ι : Type} {X : L2.FC ι} {W : Wd} {m : Md} {E : XK} {a b : Expr} {fr : Af} {fe : Ef} {p pos kp : Pos}
end
section
variable {κ : Type} [DecidableEq κ]
noncomputable def valV (kvs : List (κ × V)) (k : κ) : Option V := (kvs.find? fun kv => decide (kv.1 = k)).map (·.2)
noncomputable def putK (kvs : List (κ × V)) (k : κ) (v : V) : List (κ × V) :=
  if (kvs.any fun kv => decide (kv.1 = k)) = true then kvs.map (fun kv => if kv.1 = k then (kv.1, v) else kv) else kvs ++ [(k, v)]
noncomputable def dropK (kvs : List (κ × V)) (k : κ) : List (κ × V) := kvs.filter fun kv => decide (kv.1 ≠ k)
theorem valV_pos {p : κ × V} {r : List (κ × V)} {k : κ} (e : p.1 = k) : valV (p :: r) k = some p.2 := by simp [valV, List.find?_cons, e]
theorem valV_neg {p : κ × V} {r : List (κ × V)} {k : κ} (e : ¬ p.1 = k) : valV (p :: r) k = valV r k := by simp [valV, List.find?_cons, e]
theorem valV_any (k : κ) : ∀ kvs : List (κ × V), (kvs.any fun kv => decide (kv.1 = k)) = (valV kvs k).isSome
  | [] => rfl
  | p :: r => by
    rw [List.any_cons]
    by_cases e : p.1 = k
    · simp only [valV_pos e, decide_eq_true e, Bool.true_or, Option.isSome_some]
    · rw [valV_neg e, decide_eq_false e, Bool.false_or]; exact valV_any k r
theorem RelO.isSome_eq {o : Option V} {u : Option Value} (r : RelO o u) : o.isSome = u.isSome := by
  cases o with
  | none => cases u with
    | none => rfl
    | some _ => exact (show False from r).elim
  | some _ => cases u with
    | none => exact (show False from r).elim
    | some _ => rfl
theorem RelO.getD {o : Option V} {u : Option Value} {d : V} {d' : Value} (r : RelO o u) (rd : RelV d d') : RelV (o.getD d) (u.getD d') := by
  cases o with
  | none => cases u with
    | none => exact rd
    | some _ => exact (show False from r).elim
  | some _ => cases u with
    | none => exact (show False from r).elim
    | some _ => exact r
theorem KV.val {kvs : List (κ × V)} {vs : List (κ × Value)} (r : KV kvs vs) (k : κ) : RelO (valV kvs k) (valueAt vs k) := by
  unfold KV at r
  induction r with
  | nil => exact True.intro
  | @cons p q ps qs h t ih =>
    obtain ⟨h1, h2⟩ := h
    by_cases e : p.1 = k
    · have e' : q.1 = k := h1.symm.trans e
      have b : valueAt (q :: qs) k = some q.2 := by simp [valueAt, List.find?_cons, e']
      rw [valV_pos e, b]; exact h2
    · have e' : ¬ q.1 = k := fun z => e (h1.trans z)
      have b : valueAt (q :: qs) k = valueAt qs k := by simp [valueAt, List.find?_cons, e']
      rw [valV_neg e, b]; exact ih
theorem KV.any {kvs : List (κ × V)} {vs : List (κ × Value)} (r : KV kvs vs) (k : κ) : (kvs.any fun kv => decide (kv.1 = k)) = vs.any fun kv => decide (kv.1 = k) := by
  unfold KV at r
  induction r with
  | nil => rfl
  | cons h t ih => rw [List.any_cons, List.any_cons, ih, h.1]
theorem KV.repl {kvs : List (κ × V)} {vs : List (κ × Value)} (r : KV kvs vs) (k : κ) {y : V} {u : Value} (ry : RelV y u) :
    KV (kvs.map fun kv => if kv.1 = k then (kv.1, y) else kv) (vs.map fun kv => if kv.1 = k then (kv.1, u) else kv) := by
  unfold KV at r ⊢
  induction r with
  | nil => exact .nil
  | @cons p q ps qs h t ih =>
    rw [List.map_cons, List.map_cons]
    refine .cons ?_ ih
    obtain ⟨h1, h2⟩ := h
    by_cases e : p.1 = k
    · rw [if_pos e, if_pos (h1.symm.trans e)]; exact ⟨h1, ry⟩
    · rw [if_neg e, if_neg (fun z => e (h1.trans z))]; exact ⟨h1, h2⟩
theorem KV.put {kvs : List (κ × V)} {vs : List (κ × Value)} (r : KV kvs vs) (k : κ) {y : V} {u : Value} (ry : RelV y u) : KV (putK kvs k y) (stored vs k u) := by
  unfold putK stored
  rw [r.any k]
  by_cases e : (vs.any fun kv => decide (kv.1 = k)) = true
  · rw [if_pos e, if_pos e]; exact r.repl k ry
  · rw [if_neg e, if_neg e]; exact Paired.snoc r ⟨rfl, ry⟩
theorem KV.drop {kvs : List (κ × V)} {vs : List (κ × Value)} (r : KV kvs vs) (k : κ) : KV (dropK kvs k) (without vs k) := by
  unfold KV at r ⊢
  unfold dropK without
  induction r with
  | nil => exact .nil
  | @cons p q ps qs h t ih =>
    obtain ⟨h1, h2⟩ := h
    rw [List.filter_cons, List.filter_cons]
    by_cases e : p.1 = k
    · have a : ¬ decide (p.1 ≠ k) = true := by simp [e]
      have b : ¬ decide (q.1 ≠ k) = true := by simp [h1.symm.trans e]
      rw [if_neg a, if_neg b]; exact ih
    · have e' : ¬ q.1 = k := fun z => e (h1.trans z)
      have a : decide (p.1 ≠ k) = true := by simp [e]
      have b : decide (q.1 ≠ k) = true := by simp [e']
      rw [if_pos a, if_pos b]; exact .cons ⟨h1, h2⟩ ih
theorem KV.length {kvs : List (κ × V)} {vs : List (κ × Value)} (r : KV kvs vs) : kvs.length = vs.length := Paired.length r
end
noncomputable abbrev KT (H : Hp) : List (List Key × V) → List (List Key × Addr × Value) → Prop := Paired fun p q => p.1 = q.1 ∧ H q.2.1 = some (.tup (p.1.map kV)) ∧ RelV p.2 q.2.2
theorem KT.val {H : Hp} {kvs : List (List Key × V)} {xs : List (List Key × Addr × Value)} (r : KT H kvs xs) (k : List Key) : RelO (valV kvs k) ((atKey xs k).map (·.2)) := by
  induction r with
  | nil => exact True.intro
  | @cons p q ps qs h t ih =>
    obtain ⟨h1, _, h2⟩ := h
    by_cases e : p.1 = k
    · have e' : q.1 = k := h1.symm.trans e
      have b : atKey (q :: qs) k = some q.2 := by simp [atKey, List.find?_cons, e']
      rw [valV_pos e, b]; exact h2
    · have e' : ¬ q.1 = k := fun z => e (h1.trans z)
      have b : atKey (q :: qs) k = atKey qs k := by simp [atKey, List.find?_cons, e']
      rw [valV_neg e, b]; exact ih
theorem KT.repl {H : Hp} {kvs : List (List Key × V)} {xs : List (List Key × Addr × Value)} (r : KT H kvs xs) (k : List Key) {y : V} {u : Value} (ry : RelV y u) :
    KT H (kvs.map fun kv => if kv.1 = k then (kv.1, y) else kv) (xs.map (putAt k u)) := by
  induction r with
  | nil => exact .nil
  | @cons p q ps qs h t ih =>
    rw [List.map_cons, List.map_cons]
    refine .cons ?_ ih
    obtain ⟨h1, h2, h3⟩ := h
    unfold putAt
    by_cases e : p.1 = k
    · rw [if_pos e, if_pos (h1.symm.trans e)]; exact ⟨h1, h2, ry⟩
    · rw [if_neg e, if_neg (fun z => e (h1.trans z))]; exact ⟨h1, h2, h3⟩
theorem KT.put {H : Hp} {kvs : List (List Key × V)} {xs : List (List Key × Addr × Value)} (r : KT H kvs xs) (k : List Key) {b : Addr} {y : V} {u : Value} (hb : H b = some (.tup (k.map kV))) (ry : RelV y u) :
    KT H (putK kvs k y) (storedH xs k b u) := by
  have e : (kvs.any fun kv => decide (kv.1 = k)) = (atKey xs k).isSome := by
    rw [valV_any, (r.val k).isSome_eq, Option.isSome_map]
  unfold putK storedH
  rw [e]
  by_cases q : (atKey xs k).isSome = true
  · rw [if_pos q, if_pos q]; exact r.repl k ry
  · rw [if_neg q, if_neg q]; exact Paired.snoc r ⟨rfl, hb, ry⟩
theorem KT.keeps {H H' : Hp} {kvs : List (List Key × V)} {xs : List (List Key × Addr × Value)} (r : KT H kvs xs) (ht : ∀ b ys, H b = some (.tup ys) → H' b = some (.tup ys)) : KT H' kvs xs :=
  Paired.mapP r fun ψ ψ z => ⟨z.1, ht _ _ z.2.1, z.2.2⟩
section
variable {P : Program} {w : World} {H : Hp} {h : Heap} {a : Addr}
end
section
variable {X : Cx} {pins : List (Addr × Obj)} {σ : St} {H : Hp} {s : Shared} {a : Addr} {y v : V} {u r : Value} {o : Option V} {A : Around} {E : L2.VSP}
end
section
variable {X : Cx} {pins : List (Addr × Obj)} {σ : St} {H : Hp} {s : Shared} {a : Addr} {kvs : List (Key × V)} {k : Key} {u : Value} {A : Around} {E : L2.VSP}
end
section
variable {X : Cx} {o i e value : Expr} {pos pos' tpos : Pos} {td ty tv : TE}
end
section
variable {X : Cx} {pos : Pos}
end
noncomputable def look : List Int → List Int → Int → Int → Option Int
  | x :: y :: cs, p :: rs, a, b => if x = a ∧ y = b then some p else look cs rs a b
  | _, _, _, _ => none
mutual
noncomputable def noP : U → Bool
  | .tup us => noPs us
  | .lst us => noPs us
  | .dic _ _ => false
  | .pile => false
  | _ => true
noncomputable def noPs : List U → Bool
  | [] => true
  | u :: us => noP u && noPs us
end
section
variable {W : Wd} {m : Md} {E : XK} {t : TS} {g : Sf} {i j k : Nat}
variable {ρ : En} {ω : Om} {σ : St} {H0 Hc H : Hp} {ow : Nat → Addr}
end
section
variable {ι : Type} {X : L2.FC ι} {W : Wd} {m : Md} {E : XK} {xi xj xk : Str} {p p2 p3 pos tp : Pos} {ss : List Stmt} {g : Sf} {i j k : Nat}
variable (X) in
end
section
variable {i j k : Nat} {g : Sf} {ρ : En} {ω : Om}
end
noncomputable def Up (xs : Array Nat) : Prop := xs.toList.Pairwise (· < ·)
theorem Up.lt {xs : Array Nat} (h : Up xs) {i j : Nat} (hij : i < j) (hj : j < xs.size) : xs[i]'(by omega) < xs[j] := by
  have := List.pairwise_iff_getElem.mp h i j (by simp; omega) (by simpa using hj) hij
  simpa using this
noncomputable def NL (t : SetTable) (j : Nat) : Prop := (t.place[SetTable.below t.place j]? == some j) = false
theorem NL.of {t : SetTable} {j : Nat} (h : ∀ i, t.slot j ≠ .live i) : NL t j := by
  unfold NL
  cases c : (t.place[SetTable.below t.place j]? == some j) with
  | false => rfl
  | true => exact absurd (by unfold SetTable.slot; simp only [c, if_true]) (h (SetTable.below t.place j))
theorem Up.range (n : Nat) : Up (Array.range n) := by unfold Up; simpa using List.pairwise_lt_range
noncomputable def SetI (prog : Program) (w : World) (h : Heap) (a : Addr) (ns : List Int) : Prop :=
  ∃ (o : Obj) (es : Array (Int × Value)) (ep : Nat) (t : SetTable) (ms : List Int), h.get? a = some o ∧ o.ExactSet ∧ o.data = .set es ep t ∧ ElemsOf (intKind prog w) es.toList ∧ IntsAre (es.toList.map (·.2)) ms ∧ ms.Perm ns ∧
    es.size < scanBound ∧ t.fits es.size = true ∧ Up t.place ∧ (t.led = true ∨ w.params.followText "set-order" = true)
theorem IntsAre.mem : ∀ {vs : List Value} {ns : List Int}, IntsAre vs ns → ∀ k, k ∈ ns ↔ ∃ v ∈ vs, ∃ t, v = .int k t
  | _, _, .nil, k => by simp
  | _, _, .cons n t h, k => by
    rw [List.mem_cons, IntsAre.mem h k]
    constructor
    · rintro (rfl | ⟨v, hv, t', e⟩)
      · exact ⟨_, by simp, t, rfl⟩
      · exact ⟨v, by simp [hv], t', e⟩
    · rintro ⟨v, hv, t', e⟩
      rcases List.mem_cons.mp hv with c | c
      · subst c; cases e; exact .inl rfl
      · exact .inr ⟨v, c, t', e⟩
theorem IntsAre.snoc {x : Int} {t : Tok} : ∀ {vs : List Value} {ns : List Int}, IntsAre vs ns → IntsAre (vs ++ [.int x t]) (ns ++ [x])
  | _, _, .nil => .cons x t .nil
  | _, _, .cons n t' h => .cons n t' (IntsAre.snoc h)
section
variable {prog : Program} {w : World} {A : Around} {E : L2.VSP} {s : Shared}
end
end L2
set_option maxHeartbeats 4000000
namespace L2
open PySem PySem.Spec PyProof.Rows
section
variable {prog : Program} {w : World} {A : Around} {R : Result → Shared → Prop} {I : Addr} {fp wr : List Addr} {G : Array GenState → Array GenState → Prop} {n : Nat} {P : Nat → Value → Prop} {St : Nat → Shared → Prop}
theorem SetI.at {h h' : Heap} {a : Addr} {ns : List Int} (hS : SetI prog w h a ns) (k : ∀ o, h.get? a = some o → h'.get? a = some o) : SetI prog w h' a ns := by
  obtain ⟨o, es, ep, t, ms, ho, rest⟩ := hS
  exact ⟨o, es, ep, t, ms, k _ ho, rest⟩
end
section
variable {prog : Program} {w : World} {A : Around} {E : L2.VSP} {s : Shared}
end
noncomputable def ItO (h : Heap) (I S : Addr) (first : Value) (i n ep : Nat) : Prop := ∃ o, h.get? I = some o ∧ o.cls = .type "set_iterator" ∧ o.data = .fields #[first, .int i 0, .ref S, .int n 0, .int ep 0]
noncomputable def SO (h : Heap) (S : Addr) (es : Array (Int × Value)) (ep : Nat) (t : SetTable) : Prop := ∃ o, h.get? S = some o ∧ o.data = .set es ep t
theorem ItO.at {h h' : Heap} {I S : Addr} {first : Value} {i n ep : Nat} (x : ItO h I S first i n ep) (k : ∀ o, h.get? I = some o → h'.get? I = some o) : ItO h' I S first i n ep :=
  let ⟨o, e, r⟩ := x; ⟨o, k o e, r⟩
theorem SO.at {h h' : Heap} {S : Addr} {es : Array (Int × Value)} {ep : Nat} {t : SetTable} (x : SO h S es ep t) (k : ∀ o, h.get? S = some o → h'.get? S = some o) : SO h' S es ep t :=
  let ⟨o, e, r⟩ := x; ⟨o, k o e, r⟩
theorem ItO.typeIs {s : Shared} {I S : Addr} {first : Value} {i n ep : Nat} (x : ItO s.heap I S first i n ep) : s.TypeIs (.ref I) "set_iterator" := let ⟨o, e, r, _⟩ := x; ⟨o, e, r⟩
section
variable {prog : Program} {w : World} {A : Around} {E : L2.VSP} {s : Shared}
end
section
variable {prog : Program} {w : World} {A : Around} {E : L2.VSP} {s : Shared}
end
structure Wk (prog : Program) (w : World) (A : Around) (I : Addr) (fp : List Addr) (ord : List Value) (St : Nat → Heap → Prop) : Prop where
  frame : ∀ i h h', St i h → (∀ b ∈ fp, ∀ o, h.get? b = some o → h'.get? b = some o) → St i h'
  item : ∀ i (s : Shared) (Q : Option Value → Shared → Prop) (E : L2.VSP) (v : Value), ord[i]? = some v → St i s.heap →
    (∀ h', St (i + 1) h' → (∀ b o, b ≠ I → s.heap.get? b = some o → h'.get? b = some o) → Q (some v) { s with heap := h' }) → wpAny (model prog w) A (pyNext (.ref I)) Q E s
  done : ∀ (s : Shared) (Q : Option Value → Shared → Prop) (E : L2.VSP), St ord.length s.heap →
    (∀ h', (∀ b o, b ≠ I → s.heap.get? b = some o → h'.get? b = some o) → Q none { s with heap := h' }) → wpAny (model prog w) A (pyNext (.ref I)) Q E s
section
variable {prog : Program} {w : World} {A : Around} {es : Array (Int × Value)} {ep : Nat} {t : SetTable} {I S : Addr}
end
section
variable {prog : Program} {w : World} {A : Around} {E : L2.VSP} {s : Shared}
end
section
variable {prog : Program} {w : World} {A : Around} {R : Result → Shared → Prop} {I : Addr} {fp : List Addr} {ord : List Value} {St : Nat → Heap → Prop}
end
section
variable {prog : Program} {w : World} {A : Around} {E : L2.VSP} {s : Shared}
end
noncomputable def dd (ns : List Int) : List Int := ns.foldl step_dedup []
section
variable {X : Cx} {a : Expr} {t : TA} {pos pos2 p p2 : Pos}
end
section
variable {W : Wd} {m : Md} {E : XK}
end
section
variable {ι : Type} {X : L2.FC ι} {W : Wd} {m : Md} {E : XK} {a : Expr} {fa : Ef} {pos pos2 p p2 : Pos}
end
noncomputable def lamFd (qual : Str) (params : Arguments) (body : Expr) (scope : Scope) (cl : List (Str × Addr)) (ct pm cd : Value) : FuncData :=
  { name := "<lambda>", qualname := qual, params, body := .expr body, scope, globals := mainGlobals, closure := cl, closureTuple := ct, code := cd, builtins := builtinsNs, defaults := .none, kwdefaults := .none, annotations := none, pyModule := pm, doc := .none }
noncomputable def lamObj (fd : FuncData) : Obj := { cls := .type "function", data := .func fd }
noncomputable def isO (a : Addr) (o : Obj) : HO := .ext fun h => h.get? a = some o
section
variable {prog : Program} {w : World} {A : Around} {R : Result → Shared → Prop} {s : Shared}
theorem codeAny_expr {e : Expr} {env : Env} (h : wpAny (model prog w) (A.deeper env) (eval e env) (fun v s' => R (.ok (.ret v)) s') (fun ψ ψ => False) s) : codeAny (model prog w) A (.expr e env) R s := by
  refine codeAny_of_tree ?_
  show wpAny _ (A.deeper env) (do point; ret (← (eval e env).onRaise (leaving env))) _ _ s
  refine wpAny_bind (wpAny_point (wpAny_bind (wpAny_onRaise (wpAny_mono h (fun v s' h' => ?_) fun ψ ψ h' => h'.elim))))
  exact wpAny_pure h'
theorem codeAny_call_expr {a : Addr} {args : Args} {o : Obj} {fd : FuncData} {body : Expr} (hroom : A.depth < recursionLimit) (ho : s.heap.get? a = some o)
    (hd' : o.data = .func fd) (hco : fd.scope.isCoroutine = false) (hgen : fd.scope.isGenerator = false) (hbody : fd.body = .expr body) (hcd : s.heap.CodeRec fd.code fd.qualname)
    (h : wpAny (model prog w) A.in1 (bindArgs fd args) (fun binds s₁ =>
      wpAny (model prog w) A.in1 (newFunctionEnv fd.scope fd.globals fd.closure binds (fd.qualname ++ ".<locals>.") (some a) fd.code none fd.builtins)
        (fun env s₂ => s₂.heap.NoLimit ∧ codeAny (model prog w) A (.expr body env) R s₂) (fun e s' => R (.error e) s') s₁) (fun e s' => R (.error e) s') s) :
    codeAny (model prog w) A (.call (.ref a) args) R s := by
  refine codeAny_of_tree ?_
  show wpAny _ A.in1 (callAny (.ref a) args) _ _ s
  simp only [callAny]
  refine wpAny_bind (wpAny_load ho ?_)
  obtain ⟨c, oc, vs, tq, hc, hoc, hdc, hq⟩ := hcd
  simp only [hd', callFunction, hco, hgen, hbody, hc]
  rw [hc] at h
  refine wpAny_bind (m := field (.ref c) 1) (wpAny_field hoc hdc hq (wpAny_bind (wpAny_pure ?_)))
  exact wpAny_bind (wpAny_mono h (fun binds s₁ h₁ => wpAny_bind (wpAny_mono h₁ (fun env s₂ h₂ => wpAny_bind (wpAny_enterFrame h₂.1 hroom
    (wpAny_pure (And.intro rfl h₂.2)))) fun ψ ψ h' => h')) fun ψ ψ h' => h')
end
noncomputable def envL (qual : Str) (scope : Scope) (cl : List (Str × Addr)) (L a : Addr) (cd : Value) : Env :=
  { scope := scope, locals := L, globals := mainGlobals, cells := cl, qual := qual ++ ".<locals>.", func := some a, code := cd, frame := some L, builtins := builtinsNs }
noncomputable def cxLam (P : Program) (w : World) (K : PySem.W.Frag) (mg : L2.SV) (base : Heap) (N : List Str) (qual : Str) (scope : Scope) (cl : List (Str × Addr)) (f : Addr) (cd : Value) (A : Around) (outer : List Env) (s : Shared) (H : Hp) : Cx where
  prog := P
  w := w
  K := K
  mg := mg
  base := base
  A := A.deeper (envL qual scope cl s.heap.objs.size f cd)
  N := N
  s₀ := s
  H₀ := H
  env := envL qual scope cl s.heap.objs.size f cd
  outer := outer
  stack := envL qual scope cl s.heap.objs.size f cd :: outer
  ex := []
  calm := true
  fn := fun ψ => false
  pn := []
  xe := fun ψ ψ => False
structure LamSc (scope : Scope) (cl : List (Str × Addr)) (x : Str) (caps : List Str) : Prop where
  cell : ∀ y ∈ scope.names, y.2 ≠ .cell
  kind : scope.kind = .function
  co : scope.isCoroutine = false
  gen : scope.isGenerator = false
  par : scope.names.lookup x = some .local
  fr : ∀ y, scope.names.lookup y = some .free → ∃ c, cl.lookup y = some c
  cap : ∀ y ∈ caps, scope.names.lookup y = some .free
  inj : ∀ y z c, cl.lookup y = some c → cl.lookup z = some c → y = z
noncomputable def untr (T : List Addr) (H : Hp) : Hp := fun b => if b ∈ T then none else H b
noncomputable def retr (T : List Addr) (H H' : Hp) : Hp := fun b => if b ∈ T then H b else H' b
theorem untr_in {T : List Addr} {H : Hp} {b : Addr} (h : b ∈ T) : untr T H b = none := by unfold untr; rw [if_pos h]
theorem untr_out {T : List Addr} {H : Hp} {b : Addr} (h : b ∉ T) : untr T H b = H b := by unfold untr; rw [if_neg h]
theorem retr_in {T : List Addr} {H H' : Hp} {b : Addr} (h : b ∈ T) : retr T H H' b = H b := by unfold retr; rw [if_pos h]
theorem retr_out {T : List Addr} {H H' : Hp} {b : Addr} (h : b ∉ T) : retr T H H' b = H' b := by unfold retr; rw [if_neg h]
theorem HOk.untr {P : Program} {w : World} {T : List Addr} {H : Hp} {h : Heap} (ok : HOk P w H h) (x : ∀ b ∈ T, ∃ φ, H b = some (.ext φ)) : HOk P w (untr T H) h := by
  have ne : ∀ b o, H b = some o → (∀ φ, o ≠ .ext φ) → L2.untr T H b = some o := fun b o e n => by
    rw [untr_out]; exact e
    intro hb; obtain ⟨φ, z⟩ := x b hb; rw [e] at z; cases z; exact n φ rfl
  intro b u e
  by_cases hb : b ∈ T
  · rw [untr_in hb] at e; cases e
  · rw [untr_out hb] at e
    exact (ok b u e).stay (fun ψ ψ ψ q => q) (fun c q => ne c _ q fun φ => nofun) fun c xs q => ne c _ q fun φ => nofun
theorem HOk.retr {P : Program} {w : World} {T : List Addr} {H H' : Hp} {h : Heap} (ok : HOk P w H' h) (n : ∀ b ∈ T, H' b = none) (x : ∀ b ∈ T, ∃ φ, H b = some (.ext φ) ∧ ∀ G : Hp, ObjOk P w G h b (.ext φ)) : HOk P w (retr T H H') h := by
  have ne : ∀ b o, H' b = some o → L2.retr T H H' b = some o := fun b o e => by
    rw [retr_out]; exact e
    intro hb; rw [n b hb] at e; cases e
  intro b u e
  by_cases hb : b ∈ T
  · rw [retr_in hb] at e
    obtain ⟨φ, z, q⟩ := x b hb
    rw [e] at z; cases z
    exact q _
  · rw [retr_out hb] at e
    exact (ok b u e).stay (fun ψ ψ ψ q => q) (fun c q => ne c _ q) fun c xs q => ne c _ q
theorem Un.retr {fs T : List Addr} {H H' : Hp} {h h' : Heap} (u : Un fs [] (untr T H) H' h h') (x : ∀ b ∈ T, ∃ φ, H b = some (.ext φ)) : Un fs [] H (retr T H H') h h' := by
  have un : ∀ b, H b = none → untr T H b = none := fun b n => by by_cases hb : b ∈ T; exact untr_in hb; rw [untr_out hb]; exact n
  have ou : ∀ b o, H b = some o → (∀ φ, o ≠ .ext φ) → b ∉ T := fun b o e n hb => by obtain ⟨φ, z⟩ := x b hb; rw [e] at z; cases z; exact n φ rfl
  refine ⟨fun b o e n => u.keep b o e (un b n), fun b o e n => u.slot b o e (un b n), fun b o e n hx => ?_, u.there, fun b xs e => ?_, fun b o v e => ?_, fun b ps e => ?_⟩
  · by_cases hb : b ∈ T
    · rw [retr_in hb]; exact n
    · rw [retr_out hb]; exact u.free b o e (un b n) hx
  · have nb := ou b _ e fun φ => nofun
    rw [retr_out nb]; exact u.tups b xs (by rw [untr_out nb]; exact e)
  · have nb := ou b _ e fun φ => nofun
    rw [retr_out nb]; exact u.frzs b o v (by rw [untr_out nb]; exact e)
  · have nb := ou b _ e fun φ => nofun
    rw [retr_out nb]; exact u.tbls b ps (by rw [untr_out nb]; exact e)
section
variable {P : Program} {w : World} {K : PySem.W.Frag} {mg : L2.SV} {base : Heap} {qual x : Str} {scope : Scope} {cl : List (Str × Addr)} {g : Addr} {cd : Value} {A : Around} {outer : List Env} {s s1 : Shared} {H : Hp} {caps : List Str}
theorem inv_lam {h' : Heap} {tk : Nat} {u0 : Value} {v0 : V} {vs : List V} (S : LamSc scope cl x caps) (hd : A.handled = none) (e0 : Env0 P w K mg base A outer s H)
    (hc : ∀ y c, cl.lookup y = some c → H c = none ∧ ∃ v, s.heap.IsCell c v) (r0 : RelV v0 u0) (hl : vs.length = caps.length)
    (hv : ∀ (i : Nat) (y : Str) (v : V), caps[i]? = some y → vs[i]? = some v → ∃ c u, cl.lookup y = some c ∧ s.heap.IsCell c (some u) ∧ RelV v u)
    (hns : h'.Ns s.heap.objs.size (fun y => [(x, u0)].reverse.lookup y)) (hk : ∀ b o, s.heap.get? b = some o → h'.get? b = some o) :
    Inv (cxLam P w K mg base (x :: caps) qual scope cl g cd A outer s H) [] (some v0 :: vs.map some) H { s with heap := h', toks := tk } := by
  have noA : ∀ b : Addr, b ∉ (cxLam P w K mg base (x :: caps) qual scope cl g cd A outer s H).ex := fun b z => absurd (show b ∈ ([] : List Addr) from z) (by simp)
  have cellK : ∀ {c : Addr} {v : Option Value}, s.heap.IsCell c v → h'.IsCell c v := fun {c v} ⟨o, ho, hd⟩ => ⟨o, hk _ _ ho, hd⟩
  refine ⟨⟨e0.mod, S.kind, rfl, rfl, Nat.le_refl _, fun y z c h1 h2 => S.inj y z c h1 h2, fun y hy => ?_, fun y c h ψ => absurd (show false = true from h) Bool.false_ne_true, fun ψ => hd, Around.frames_deeper e0.frames, .inr ⟨rfl, rfl⟩, fun b z => absurd z (noA b), e0.bs, e0.bsz, fun b ψ ψ => noA b, fun b z => absurd z (noA b), e0.funs, e0.frf⟩,
    rfl, e0.bare, Un.kept hk, ⟨_, hns, fun i y v h1 h2 h3 => ?_⟩, fun y c h => ?_, e0.hok.fresh (Nat.le_refl _), fun y c h => (hc y c h).1, fun p hp => absurd (show p ∈ ([] : List (Addr × Obj)) from hp) (by simp), e0.hok.kept hk, ?_⟩
  · have hy : scope.names.lookup y = some .cell ∨ scope.names.lookup y = some .free := hy
    rcases hy with hy | hy
    · exact absurd rfl (S.cell _ (PySem.mem_of_lookup hy))
    · exact S.fr y hy
  · cases i with
    | zero =>
      have h1 : (x :: caps)[0]? = some y := h1
      have e1 : x = y := by simpa using h1
      have e2 : v0 = v := by simpa using h2
      subst e1; subst e2
      exact ⟨u0, r0, .inl ⟨S.par, by simp⟩⟩
    | succ i =>
      have h1 : (x :: caps)[i + 1]? = some y := h1
      have h1' : caps[i]? = some y := by simpa using h1
      have h2' : vs[i]? = some v := by
        have : (vs.map some)[i]? = some (some v) := by simpa using h2
        rw [List.getElem?_map] at this
        cases q : vs[i]? with
        | none => rw [q] at this; cases this
        | some z => rw [q] at this; cases this; rfl
      obtain ⟨c, u, k1, k2, k3⟩ := hv i y v h1' h2'
      exact ⟨u, k3, .inr ⟨.inr (S.cap y (List.mem_of_getElem? h1')), c, k1, cellK k2⟩⟩
  · obtain ⟨_, v, k⟩ := hc y c h
    exact ⟨v, cellK k⟩
  · show (some v0 :: vs.map some).length = (x :: caps).length
    simp [hl]
noncomputable def spLam (P : Program) (w : World) (K : PySem.W.Frag) (mg : L2.SV) (base : Heap) (k : Nat) (g : Addr) (fd : FuncData) (x : Str) (caps : List Str) (body : Expr) : Sp := fun vs H Q ψ => ∃ (v : V) (ws : List V), vs = [v] ∧ ws.length = caps.length ∧
  H g = some (isO g (lamObj fd)) ∧ (∃ (c : Addr) (oc : Obj) (u : HO) (fs : Array Value) (t : Tok), fd.code = .ref c ∧ H c = some (.frz oc u) ∧ oc.data = .fields fs ∧ fs[1]? = some (.str fd.qualname t)) ∧
  (∀ c ∈ fd.closure.map (·.2), ∃ (o : Obj) (u : Option Value), H c = some (isO c o) ∧ o.data = .cell u) ∧
  (∀ (i : Nat) (y : Str) (z : V), caps[i]? = some y → ws[i]? = some z → ∃ c o u, fd.closure.lookup y = some c ∧ H c = some (isO c o) ∧ o.data = .cell (some u) ∧ RelV z u) ∧
  ∀ (A : Around) (outer : List Env) (s : Shared), Room k (A.deeper (envL fd.qualname fd.scope fd.closure s.heap.objs.size g fd.code)) →
    ∃ t, PE (cxLam P w K mg base (x :: caps) fd.qualname fd.scope fd.closure g fd.code A outer s (untr (fd.closure.map (·.2)) H)) body t ∧
      t (some v :: ws.map some) (untr (fd.closure.map (·.2)) H) (fun v' H' => (∀ c ∈ fd.closure.map (·.2), H' c = none) → Q v' (retr (fd.closure.map (·.2)) H H'))
theorem lam_fn {k : Nat} {params : Arguments} {body : Expr} {ct pm : Value} (S : LamSc scope cl x caps) :
    FnOk P w K mg base (CX1 P w) (k + 1) g (lamFd qual params body scope cl ct pm cd) [x] (spLam P w K mg base k g (lamFd qual params body scope cl ct pm cd) x caps body) := by
  refine ⟨fun vs H Q E ⟨v, _, e, _⟩ => by rw [e]; rfl, fun A outer s H args us vs Q E hr e0 hb r hsp => ?_⟩
  obtain ⟨v, ws, rfl, hl, hg, ⟨c, oc, uc, fs, tq, hcd, hc, hdf, hq⟩, hcl, hcap, hbody⟩ := hsp
  have hcl : ∀ b ∈ cl.map (·.2), ∃ (o : Obj) (u : Option Value), H b = some (isO b o) ∧ o.data = .cell u := hcl
  have hx : ∀ b ∈ cl.map (·.2), ∃ φ, H b = some (.ext φ) := fun b hb => let ⟨_, u, e, _⟩ := hcl b hb; ⟨_, e⟩
  have un : ∀ b, H b = none → untr (cl.map (·.2)) H b = none := fun b n => by by_cases hb : b ∈ cl.map (·.2); exact untr_in hb; rw [untr_out hb]; exact n
  have e1 : Env0 P w K mg base A outer s (untr (cl.map (·.2)) H) := ⟨e0.frames, e0.mod, fun b o e => ⟨(e0.bs b o e).1, un b (e0.bs b o e).2⟩, e0.bsz, e0.funs, fun b hb => un b (e0.frf b hb), e0.hok.untr hx, e0.bare⟩
  have lim : s.heap.NoLimit := e0.mod.nolimit.keeps fun b o e => (e0.bs b o e).1
  have inT : ∀ y c, cl.lookup y = some c → c ∈ cl.map (·.2) := fun y c e => List.mem_map.mpr ⟨_, PySem.mem_of_lookup e, rfl⟩
  have cellAt : ∀ c o, H c = some (isO c o) → s.heap.get? c = some o := fun c u e => (e0.hok c _ e).1
  have ho : s.heap.get? g = some (lamObj (lamFd qual params body scope cl ct pm cd)) := (e0.hok g _ hg).1
  have hoc : s.heap.get? c = some oc := (e0.hok c _ hc).1
  cases r with
  | @cons _ u0 _ us' r0 rt =>
    cases rt with
    | nil =>
      refine codeAny_call_expr hr.depth ho rfl S.co S.gen rfl ⟨c, oc, fs, tq, hcd, hoc, hdf, hq⟩ (hb _ _ _ _ ?_)
      refine wpAny_newFunctionEnv S.cell (fun y hy => ?_) (fun h' hns hsb => ?_) S.kind
      · have e : y = (x, u0) := by simpa using hy
        subst e
        exact S.par
      have hk : ∀ b o, s.heap.get? b = some o → h'.get? b = some o := fun b o e => (hsb.2 b (Nat.ne_of_lt (Heap.lt_size e))).trans (Heap.get?_push_of_some _ e)
      refine ⟨lim.keeps hk, codeAny_expr ?_⟩
      obtain ⟨t, ht, hq⟩ := hbody A outer s (hr.deeper _)
      have I := inv_lam (P := P) (w := w) (K := K) (mg := mg) (base := base) (qual := qual) (g := g) (cd := cd) (outer := outer) (tk := s.toks + [(x, u0)].length) (vs := ws) S hr.hd e1 (fun y c e => ⟨untr_in (inT y c e), let ⟨o, u, k, d⟩ := hcl c (inT y c e); ⟨_, o, cellAt c o k, d⟩⟩) r0 hl
        (fun i y z h1 h2 => let ⟨c, o, u, k1, k2, k3, k4⟩ := hcap i y z h1 h2; ⟨c, u, k1, ⟨o, cellAt c o k2, k3⟩, k4⟩) hns hk
      refine wpAny_mono (ht [] _ _ _ _ I hq) (fun u s' ⟨v', H', J, rv, q⟩ => ?_) fun ψ ψ z => False.elim z
      have jn : ∀ c ∈ cl.map (·.2), H' c = none := fun c hc => by
        obtain ⟨o, u, e, _⟩ := hcl c hc
        have ho := cellAt c o e
        exact J.base.free c o ho (untr_in hc) (by exact fun z => nomatch z)
      have jb : Un (frs outer) [] (untr (cl.map (·.2)) H) H' s.heap s'.heap := J.base
      refine ⟨v', retr (cl.map (·.2)) H H', J.os, J.bare, Un.retr jb hx, HOk.retr J.hok jn fun c hc => ?_, rv, q jn⟩
      obtain ⟨o, u, e, hdat⟩ := hcl c hc
      have ho := cellAt c o e
      have nf : c ∉ frs outer := fun z => by rw [e0.frf c z] at e; cases e
      have ho' := J.base.keep c o ho (untr_in hc) nf (by exact fun z => nomatch z)
      exact ⟨_, e, fun G => ⟨ho', ⟨o, ho'⟩, fun h1 h2 k hh => hh o k⟩⟩
end
noncomputable def lamP (L : List Addr) (g : Addr) (fd : FuncData) (cs : List (Addr × Obj)) (H : Hp) : Prop :=
  H g = some (isO g (lamObj fd)) ∧ (∃ (c : Addr) (oc : Obj) (u : HO) (fs : Array Value) (t : Tok), c ∉ L ∧ fd.code = .ref c ∧ H c = some (.frz oc u) ∧ oc.data = .fields fs ∧ fs[1]? = some (.str fd.qualname t)) ∧ ∀ p ∈ cs, H p.1 = some (isO p.1 p.2)
section
variable {P : Program} {w : World} {K : PySem.W.Frag} {mg : L2.SV} {base : Heap} {qual x : Str} {scope : Scope} {cl : List (Str × Addr)} {g : Addr} {cd ct pm : Value} {caps : List Str} {W : Wd} {cs : List (Addr × Obj)} {cu : List Int} {fb : Ef} {params : Arguments} {body : Expr}
end
noncomputable def CodB (base : Heap) (c Pl : Addr) : Prop := ∃ o vs file tf flags tg inF text tt, base.get? c = some o ∧ o.cls = .type "code" ∧ o.data = .fields vs ∧ vs[11]? = some (.ref Pl) ∧ vs.getD 18 .none = .str file tf ∧
  vs.getD 7 .none = .int flags tg ∧ vs.getD 9 .none = .bool inF ∧ vs.getD 10 .none = .int text tt ∧ c ≠ Pl
noncomputable def BmB (base : Heap) (mg : L2.SV) : Prop := ∃ bm o, mg "__builtins__" = some (.ref bm) ∧ bm ≠ builtinsNs ∧ base.get? bm = some o ∧ o.cls = .type "module" ∧ o.dict = some builtinsNs ∧ o.data = .plain
noncomputable def TabO (L : List Addr) (Pl : Addr) (lpos : Pos) (q : Str) (H : Hp) : Prop := ∃ ps : Array Value, H Pl = some (.tbl ps) ∧ (ps = #[] ∨ ∃ (c : Addr) (oc : Obj) (u : HO) (fs : Array Value) (t : Tok), ps = #[rawInt lpos.line, rawInt lpos.col, .ref c] ∧ c ∉ L ∧ H c = some (.frz oc u) ∧ oc.data = .fields fs ∧ fs[1]? = some (.str q t))
theorem Inv.tabbed {X : Cx} {pins : List (Addr × Obj)} {σ : St} {H H' : Hp} {s : Shared} {Pl : Addr} {ps more : Array Value} {h3 : Heap} {tk : Nat} (I : Inv X pins σ H s) (hP : H Pl = some (.tbl ps)) (k3 : ∀ b o, b ≠ Pl → s.heap.get? b = some o → h3.get? b = some o)
    (hP3 : ∃ o', h3.get? Pl = some o') (p1 : ∀ b o, b ≠ Pl → H b = some o → H' b = some o) (p2 : H' Pl = some (.tbl (ps ++ more))) (p3 : ∀ b o, s.heap.get? b = some o → H b = none → H' b = none)
    (p4 : ∀ b u, H' b = some u → (H b = some u ∧ b ≠ Pl) ∨ ObjOk X.prog X.w H' h3 b u) : Inv X pins σ H' { s with heap := h3, toks := tk } := by
  have neP : ∀ b, H b = none → b ≠ Pl := fun b n z => by rw [z, hP] at n; cases n
  have nT : ∀ b o, H b = some o → (∀ q, o ≠ .tbl q) → b ≠ Pl := fun b o e n z => by rw [z, hP] at e; cases e; exact n _ rfl
  refine I.un ⟨fun b o e n ψ ψ => k3 b o (neP b n) e, fun b o e n ψ ψ => ⟨o.slots, k3 b o (neP b n) e⟩, fun b o e n ψ => p3 b o e n, fun b o e ψ => ?_, fun b xs e => p1 b _ (nT b _ e fun q => nofun) e, fun b o u e => p1 b _ (nT b _ e fun q => nofun) e, fun b q e => ?_⟩ fun b u e => ?_
  · by_cases hb : b = Pl
    · subst hb; exact hP3
    · exact ⟨o, k3 b o hb e⟩
  · by_cases hb : b = Pl
    · subst hb; rw [hP] at e; cases e; exact ⟨more, p2⟩
    · exact ⟨#[], by rw [p1 b _ hb e]; simp⟩
  · rcases p4 b u e with ⟨e1, nb⟩ | q
    · refine (I.hok b u e1).stay (fun c v hc q => k3 c v ?_ q) (fun c q => p1 c _ (nT c _ q fun q => nofun) q) fun c xs q => p1 c _ (nT c _ q fun q => nofun) q
      rcases hc with z | z
      · rw [z]; exact nb
      · exact nT c _ z fun q => nofun
    · exact q
theorem functionCode_found {M : Model} {A : Around} {E : L2.VSP} {s : Shared} {env : Env} {c P : Addr} {ps : Array Value} {pos : Pos} {firstLine : Nat} {name qualname : Str} {p : Arguments} {scope : Scope} {body : FuncBody} {v : Value}
    {Q : L2.VSP} (hc : env.code = .ref c) (hok : s.heap.IsCode c P ps) (hf : codeAmong pos ps.toList = some v) (hQ : Q v s) : wpAny M A (functionCode env pos firstLine name qualname p scope body) Q E s := by
  obtain ⟨o, vs, file, tf, flags, tg, inF, text, tt, op, ho, hd, h11, h2, h7, h9, h10, hop, hpd, htr, hne⟩ := id hok
  unfold functionCode codeAt
  rw [hc, if_neg (show ¬ ((Value.ref c == Value.none) = true) from Bool.false_ne_true)]
  refine wpAny_bind (wpAny_fieldsOf ho hd ?_)
  rw [h11]
  refine wpAny_bind (wpAny_fieldsOf hop hpd ?_)
  rw [hf]
  exact wpAny_pure hQ
section
variable {X : Cx} {pins : List (Addr × Obj)} {σ : St} {H : Hp} {s : Shared} {W : Wd} {c Pl : Addr} {lpos : Pos} {params : Arguments} {body : Expr} {scope : Scope} {cl : List (Str × Addr)}
theorem lam_eval {Q : L2.VSP} (I : Inv X pins σ H s) (hcd : X.env.code = .ref c) (ck : CodB X.base c Pl) (bk : BmB X.base X.mg) (hcl : closureFor scope X.env = pure cl) (hdf : defaultsOf params X.env = ([], [])) (hkw : params.kwonlyargs = [])
    {L : List Addr} (hL : ∀ b ∈ L, H b ≠ none) (ht : TabO L Pl lpos (X.env.qual ++ "<lambda>") H)
    (h : ∀ (g : Addr) (H' : Hp) (s' : Shared) (ct pm : Value) (cc : Addr), s.heap.objs.size ≤ g → H g = none → H' g = some (isO g (lamObj (lamFd (X.env.qual ++ "<lambda>") params body scope cl ct pm (.ref cc)))) →
      (∃ (oc : Obj) (u : HO) (fs : Array Value) (t : Tok), cc ∉ L ∧ H' cc = some (.frz oc u) ∧ oc.data = .fields fs ∧ fs[1]? = some (.str (X.env.qual ++ "<lambda>") t)) →
      TabO L Pl lpos (X.env.qual ++ "<lambda>") H' → (∀ b o, b ≠ Pl → H b = some o → H' b = some o) → Inv X pins σ H' s' → Q (.ref g) s') :
    wpAny (model X.prog X.w) X.A (eval (.Lambda params body scope lpos) X.env) Q X.xe s := by
  rw [arm_eval_Lambda, hdf]
  refine wpAny_bind (wpAny_pure (wpAny_bind (wpAny_holding (wpAny_pure ?_))))
  simp only [makeFunction, hkw, List.zip_nil_left, List.filterMap_nil, List.isEmpty_nil, if_true, pure_bind, hcl]
  obtain ⟨oc, vs, file, tf, flags, tg, inF, text, tt, kc, kcl, kd, k11, k18, k7, k9, k10, kne⟩ := ck
  obtain ⟨bm, ob, mb, nb, kb, bcl, bdi, bda⟩ := bk
  obtain ⟨ps, hP, hps⟩ := ht
  have sP : s.heap.get? Pl = some { cls := .none, data := .fields ps } := I.hok Pl _ hP
  have sC : s.heap.get? c = some oc := I.bk _ _ kc
  have ltP := Heap.lt_size sP
  have neP : ∀ b o, s.heap.get? b = some o → H b = none → b ≠ Pl := fun b o ψ n z => by rw [z, hP] at n; cases n
  have h11 : vs.getD 11 .none = .ref Pl := by rw [Array.getD_eq_getD_getElem?, k11]; rfl
  suffices tail : ∀ (ct : Value) (h1 : Heap), (∀ b o, s.heap.get? b = some o → h1.get? b = some o) → s.heap.objs.size ≤ h1.objs.size → wpAny (model X.prog X.w) X.A (do
      let cd ← functionCode X.env lpos lpos.line "<lambda>" (X.env.qual ++ "<lambda>") params scope (FuncBody.expr body)
      let b ← builtinsFor X.env.globals X.env.builtins
      let n ← nsGet X.env.globals "__name__"
      newObj (Value.type "function") (Data.func { name := "<lambda>", qualname := X.env.qual ++ "<lambda>", params := params, body := FuncBody.expr body, scope := scope, globals := X.env.globals, closure := cl, defaults := Value.none, kwdefaults := Value.none, pyModule := n.getD Value.none, code := cd, closureTuple := ct, builtins := b })) Q X.xe { s with heap := h1 } by
    split
    · exact tail .none s.heap (fun ψ ψ e => e) (Nat.le_refl _)
    · exact wpAny_bind (wpAny_newTextTuple (tail _ _ (fun ψ ψ e => Heap.get?_push_of_some _ e) (by rw [Heap.size_push]; omega)))
  intro ct h1 hk1 hz1
  have isC : ∀ {ps : Array Value}, h1.get? Pl = some { cls := .none, data := .fields ps } → TriplesOk ps.toList → h1.IsCode c Pl ps := fun {ps} e tr => ⟨oc, vs, file, tf, flags, tg, inF, text, tt, _, hk1 _ _ sC, kd, h11, k18, k7, k9, k10, e, rfl, tr, kne⟩
  refine wpAny_bind (thn (Q := fun (cd : Value) (s2 : Shared) => ∃ (h2 : Heap) (tk : Nat) (cc : Addr) (ps' : Array Value), cd = .ref cc ∧ s2 = { s with heap := h2, toks := tk } ∧ (∀ b o, b ≠ Pl → s.heap.get? b = some o → h2.get? b = some o) ∧ s.heap.objs.size ≤ h2.objs.size ∧ h2.get? Pl = some { cls := .none, data := .fields ps' } ∧
    ((ps' = ps ∧ ∃ (oc : Obj) (u : HO) (fs : Array Value) (t : Tok), ps = #[rawInt lpos.line, rawInt lpos.col, .ref cc] ∧ cc ∉ L ∧ H cc = some (.frz oc u) ∧ oc.data = .fields fs ∧ fs[1]? = some (.str (X.env.qual ++ "<lambda>") t)) ∨
     (ps = #[] ∧ ps' = #[rawInt lpos.line, rawInt lpos.col, .ref cc] ∧ s.heap.objs.size ≤ cc ∧ ∃ (o : Obj) (fs : Array Value) (t : Tok), h2.get? cc = some o ∧ o.data = .fields fs ∧ fs[1]? = some (.str (X.env.qual ++ "<lambda>") t)))) ?_ ?_)
  · rcases hps with e | ⟨c', oc', u', fs', t', e, z⟩
    · subst e
      refine wpAny_functionCodeX hcd (isC (hk1 _ _ sP) trivial) ⟨⟨oc, vs, hk1 _ _ sC, kcl, kd, k11⟩, hk1 _ _ sP⟩ rfl fun c' h' tk hx hge hlt hok' hrec htab ψ => ?_
      obtain ⟨c2, o2, fs2, t2, e2, g2, d2, f2⟩ := hrec
      cases e2
      refine ⟨h', tk, c', _, rfl, rfl, fun b o n e => hx b o n (hk1 b o e), ?_, htab.2, .inr ⟨rfl, by simp, Nat.le_trans hz1 hge, o2, fs2, t2, g2, d2, f2⟩⟩
      exact Nat.le_of_lt (Nat.lt_of_le_of_lt (Nat.le_trans hz1 hge) hlt)
    · subst e
      refine functionCode_found hcd (isC (hk1 _ _ sP) (TriplesOk_snoc _ _ _ [] trivial)) (v := .ref c') (by simp [codeAmong, rawInt]) ?_
      exact ⟨h1, s.toks, c', _, rfl, rfl, fun b o ψ e => hk1 b o e, hz1, hk1 _ _ sP, .inl ⟨rfl, oc', u', fs', t', rfl, z⟩⟩
  rintro cd s2 ⟨h2, tk, cc, ps', rfl, rfl, hk2, hz2, hP2, alt⟩
  have glN : s.heap.Ns mainGlobals X.mg := I.mod.glob.keeps I.bk
  have neG : mainGlobals ≠ Pl := fun z => by
    obtain ⟨o, es, ep, e1, e2, _⟩ := glN
    rw [z, sP] at e1; cases e1; cases e2
  have glN2 : h2.Ns mainGlobals X.mg := by
    obtain ⟨o, es, ep, e1, e2⟩ := glN
    exact ⟨o, es, ep, hk2 _ _ neG e1, e2⟩
  have sB : s.heap.get? bm = some ob := I.bk _ _ kb
  have neB : bm ≠ Pl := fun z => by
    rw [z, sP] at sB; cases sB; cases bda
  rw [I.ok.glob]
  refine wpAny_bind (wpAny_builtinsFor glN2 mb nb (hk2 _ _ neB sB) bcl bdi bda ?_)
  refine wpAny_bind (wpAny_nsGet glN2 ?_)
  refine wpAny_newObj_type ?_ (by size_fits)
  have gfr : ∀ b o, s.heap.get? b = some o → b ≠ h2.objs.size := fun b o e => Nat.ne_of_lt (Nat.lt_of_lt_of_le (Heap.lt_size e) hz2)
  have k3 : ∀ (x : Obj) b o, b ≠ Pl → s.heap.get? b = some o → (h2.push x).get? b = some o := fun x b o n e => Heap.get?_push_of_some _ (hk2 b o n e)
  have Hg : H h2.objs.size = none := I.hok.fresh hz2
  have gP : h2.objs.size ≠ Pl := Ne.symm (gfr _ _ sP)
  rcases alt with ⟨e1, oc1, u1, fs1, t1, e2, e3, e4, e5, e6⟩ | ⟨e1, e2, e3, o1, fs1, t1, e4, e5, e6⟩
  · subst e1
    have ncP : cc ≠ Pl := fun z => by rw [z, hP] at e4; cases e4
    have p1 : ∀ b o, b ≠ Pl → H b = some o → upd H h2.objs.size (isO h2.objs.size (lamObj (lamFd (X.env.qual ++ "<lambda>") params body scope cl ct ((X.mg "__name__").getD .none) (.ref cc)))) b = some o := fun b o ψ e => by rw [upd_ne (ne_of_none e Hg)]; exact e
    refine h h2.objs.size (upd H h2.objs.size (isO h2.objs.size (lamObj (lamFd (X.env.qual ++ "<lambda>") params body scope cl ct ((X.mg "__name__").getD .none) (.ref cc))))) _ ct ((X.mg "__name__").getD .none) cc hz2 Hg upd_same ⟨oc1, u1, fs1, t1, e3, p1 cc _ ncP e4, e5, e6⟩
      ⟨ps', by rw [upd_ne (ne_of_none hP Hg)]; exact hP, .inr ⟨cc, oc1, u1, fs1, t1, e2, e3, p1 cc _ ncP e4, e5, e6⟩⟩ p1 (I.tabbed (more := #[]) hP (k3 _) ⟨_, Heap.get?_push_of_some _ hP2⟩ p1 (by rw [upd_ne (ne_of_none hP Hg), hP]; simp) (fun b o e n => by rw [upd_ne (gfr b o e)]; exact n) fun b u e => ?_)
    by_cases hb : b = h2.objs.size
    · subst hb
      rw [upd_same] at e; cases e
      refine .inr ⟨Heap.get?_push_size _ rfl, ⟨_, Heap.get?_push_size _ rfl⟩, fun g1 g2 q hh => hh _ q⟩
    · rw [upd_ne hb] at e
      by_cases hb2 : b = Pl
      · subst hb2
        rw [hP] at e; cases e
        exact .inr (Heap.get?_push_of_some _ hP2)
      · exact .inl ⟨e, hb2⟩
  · subst e1; subst e2
    have ncg : cc ≠ h2.objs.size := Nat.ne_of_lt (Heap.lt_size e4)
    have ncP : cc ≠ Pl := Nat.ne_of_gt (Nat.lt_of_lt_of_le ltP e3)
    have Hcc : H cc = none := I.hok.fresh e3
    have gPl : Pl ≠ h2.objs.size := Ne.symm gP
    have q1 : ∀ b, b ≠ Pl → b ≠ cc → b ≠ h2.objs.size → upd (upd (upd H Pl (.tbl #[rawInt lpos.line, rawInt lpos.col, .ref cc])) cc (.frz o1 (.ext fun ψ => True))) h2.objs.size (isO h2.objs.size (lamObj (lamFd (X.env.qual ++ "<lambda>") params body scope cl ct ((X.mg "__name__").getD .none) (.ref cc)))) b = H b := fun b n1 n2 n3 => by rw [upd_ne n3, upd_ne n2, upd_ne n1]
    have q2 : upd (upd (upd H Pl (.tbl #[rawInt lpos.line, rawInt lpos.col, .ref cc])) cc (.frz o1 (.ext fun ψ => True))) h2.objs.size (isO h2.objs.size (lamObj (lamFd (X.env.qual ++ "<lambda>") params body scope cl ct ((X.mg "__name__").getD .none) (.ref cc)))) cc = some (.frz o1 (.ext fun ψ => True)) := by rw [upd_ne ncg, upd_same]
    have q3 : upd (upd (upd H Pl (.tbl #[rawInt lpos.line, rawInt lpos.col, .ref cc])) cc (.frz o1 (.ext fun ψ => True))) h2.objs.size (isO h2.objs.size (lamObj (lamFd (X.env.qual ++ "<lambda>") params body scope cl ct ((X.mg "__name__").getD .none) (.ref cc)))) Pl = some (.tbl #[rawInt lpos.line, rawInt lpos.col, .ref cc]) := by rw [upd_ne gPl, upd_ne (Ne.symm ncP), upd_same]
    have p1 : ∀ b o, b ≠ Pl → H b = some o → upd (upd (upd H Pl (.tbl #[rawInt lpos.line, rawInt lpos.col, .ref cc])) cc (.frz o1 (.ext fun ψ => True))) h2.objs.size (isO h2.objs.size (lamObj (lamFd (X.env.qual ++ "<lambda>") params body scope cl ct ((X.mg "__name__").getD .none) (.ref cc)))) b = some o := fun b o n e => by rw [q1 b n (ne_of_none e Hcc) (ne_of_none e Hg)]; exact e
    have ncL : cc ∉ L := fun z => hL cc z Hcc
    refine h h2.objs.size _ _ ct ((X.mg "__name__").getD .none) cc hz2 Hg upd_same ⟨o1, _, fs1, t1, ncL, q2, e5, e6⟩
      ⟨_, q3, .inr ⟨cc, o1, _, fs1, t1, rfl, ncL, q2, e5, e6⟩⟩ p1 (I.tabbed (more := #[rawInt lpos.line, rawInt lpos.col, .ref cc]) hP (k3 _) ⟨_, Heap.get?_push_of_some _ hP2⟩ p1 (by rw [q3]; simp) (fun b o e n => by rw [q1 b (neP b o e n) (Nat.ne_of_lt (Nat.lt_of_lt_of_le (Heap.lt_size e) e3)) (gfr b o e)]; exact n) fun b u e => ?_)
    by_cases hb : b = h2.objs.size
    · subst hb
      rw [upd_same] at e; cases e
      exact .inr ⟨Heap.get?_push_size _ rfl, ⟨_, Heap.get?_push_size _ rfl⟩, fun g1 g2 q hh => hh _ q⟩
    · by_cases hb2 : b = cc
      · subst hb2
        rw [q2] at e; cases e
        exact .inr ⟨Heap.get?_push_of_some _ e4, trivial, ⟨_, Heap.get?_push_of_some _ e4⟩, fun ψ ψ ψ ψ => trivial⟩
      · by_cases hb3 : b = Pl
        · subst hb3
          rw [q3] at e; cases e
          exact .inr (Heap.get?_push_of_some _ hP2)
        · rw [q1 b hb3 hb2 hb] at e
          exact .inl ⟨e, hb3⟩
end
noncomputable def LamWk (P : Program) (w : World) (K : PySem.W.Frag) (mg : L2.SV) (base : Heap) (k : Nat) (p : Ff) (W : Wd) : Prop := ∃ (fd : FuncData) (x : Str), FnOk P w K mg base (CX1 P w) k W.pa fd [x] (spU K mg (fun W' => W' = W) 1 [true] p) ∧ Binds K fd [x] [] ∧ ∀ ω H, W.pl ω H → H W.pa = some (isO W.pa (lamObj fd))
noncomputable def eCallP (i : Nat) (p : Ff) (fr : Af) : Ef := fun ρ ω => match ρ[i]? with
  | some (some .pile) => (fr ρ ω).bnd p
  | _ => .stk
theorem eCallP_ap {i : Nat} {p : Ff} {fr : Af} {ρ : En} {ω : Om} (h : ρ[i]? = some (some .pile)) : eCallP i p fr ρ ω = (fr ρ ω).bnd p := by unfold eCallP; rw [h]
section
variable {X : Cx} {W : Wd} {m : Md} {E : XK} {a : Expr} {fr : Af} {pos pp : Pos} {x : Str}
theorem qe_callP {k : Nat} {p : Ff} (i : Nat) (cx : Ctx (fun _ : Unit => X) W E) (hW : LamWk X.prog X.w X.K X.mg X.base k p W) (hr : Room k X.A) (ha : QA (fun _ : Unit => X) W m E [true] [a] fr) (hN : X.N[i]? = some x := by rfl) (hv : Vis X.env.scope x := by first | exact Or.inl rfl | exact Or.inr (Or.inl rfl) | exact Or.inr (Or.inr rfl))
    (hd : (x == ("__debug__" : Str)) = false := by decide) (hcd : (x == ("__classdict__" : Str)) = false := by decide) (he : starEach [a] X.env = (false, eval a X.env) :: starEach [] X.env := by rfl) (hpl : (backTo pos (starEach [] X.env)).any (·.1) = false := by rfl) :
    QE (fun _ : Unit => X) W m E (.Call (.Name x pp) [a] [] pos) (eCallP i p fr) := by
  obtain ⟨fd, x', F, hb, hpa⟩ := hW
  obtain ⟨ta, pa, da⟩ := ha
  refine ⟨fun σ H Q => σ[i]? = some (some (.ref W.pa)) ∧ H W.pa = some (isO W.pa (lamObj fd)) ∧ ta σ H (fun vs H1 => H1 W.pa = some (isO W.pa (lamObj fd)) ∧ spU X.K X.mg (fun W' => W' = W) 1 [true] p (vs ++ []) H1 Q E), fun _ pins s σ H Q I ⟨h0, h1, h2⟩ => ?_, fun H0 ρ ω σ Hc H ow S Q h => ?_⟩
  · have hx : PE X (.Name x pp) (tVar i) := pe_var hN hv hd hcd
    refine wpAny_Call_Name_kw (thn (hx pins s σ H (fun v H1 => v = .ref W.pa ∧ H1 = H) I ⟨_, h0, rfl, rfl⟩) fun u s1 ⟨v, H1, I1, r1, e1, e2⟩ => ?_)
    subst e1 e2
    cases r1
    have inK : ∀ {H : Hp} {s : Shared} {σ : St}, Inv X pins σ H s → H W.pa = some (isO W.pa (lamObj fd)) → PySem.W.Frag.In [(W.pa, lamObj fd)] s.heap := fun {H s σ} I e b o hl => by
      have e' : s.heap.get? W.pa = some (lamObj fd) := (I.hok _ _ e).1
      by_cases hb : b = W.pa
      · subst hb
        simp at hl
        rw [← hl]; exact e'
      · have : (b == W.pa) = false := by simpa using hb
        simp [List.lookup, this] at hl
    refine PySem.W.callWith_K (K := [(W.pa, lamObj fd)]) (h₀ := s1.heap) (inK I1 h1) ?_ (thn (pa () pos pins s1 σ H1 _ I1 h2) fun us s2 ⟨vs, H2, I2, r, q1, q2⟩ => ⟨inK I2 q1, run_fn F hr hb .nil (cx.ps ()) I2 r q2⟩) he hpl
    simp [PySem.W.keepIn, lamObj]
  · unfold eCallP at h
    cases q : ρ[i]? with
    | none => rw [q] at h; exact h.elim
    | some o => cases o with
      | none => rw [q] at h; exact h.elim
      | some u =>
        cases u with
        | pile =>
          rw [q] at h
          simp only at h
          obtain ⟨v, e1, rb⟩ := S.get q
          have ev : v = .ref W.pa := by
            rcases rb with r | ⟨_, _, _, z, _⟩
            · rw [RU] at r; exact r
            · cases z
          subst ev
          refine ⟨e1, hpa _ _ S.pl.pl, da H0 ρ ω σ Hc H ow S _ ((Aft.bnd h).imp fun us ω1 Hc1 H1 e1 p1 h1 xs rs => ⟨hpa _ _ p1.pl, ?_⟩)⟩
          rw [List.append_nil]
          exact ⟨W, us, ω1, Hc1, (cx.hK ()).symm, (cx.hm ()).symm, rfl, rs.len.1, e1.sub, p1, rs, h1⟩
        | _ => rw [q] at h; exact h.elim
end
structure TabW (W : Wd) (Pl : Addr) (lpos : Pos) (q : Str) : Prop where
  mem : Pl ∈ W.L
  tab : ∀ ω H, W.pl ω H → TabO W.L Pl lpos q H
  put : ∀ ω H H', W.pl ω H → TabO W.L Pl lpos q H' → (∀ b o, b ≠ Pl → H b = some o → H' b = some o) → W.pl ω H'
noncomputable def onlyI (r : Res U) : Res U := match r with
  | .ok (.int n) ω => .ok (.int n) ω
  | _ => .stk
theorem cells_of {cl : List (Str × Addr)} {R : Str × Addr → Obj → Prop} : (∀ p ∈ cl, ∃ o, R p o) → ∃ cs : List (Addr × Obj), cl.map (·.2) = cs.map (·.1) ∧ (∀ p ∈ cl, ∃ o, (p.2, o) ∈ cs ∧ R p o) ∧ ∀ q ∈ cs, ∃ p ∈ cl, q.1 = p.2 ∧ R p q.2 := by
  induction cl with
  | nil => exact fun ψ => ⟨[], rfl, fun p hp => absurd hp (by simp), fun q hq => absurd hq (by simp)⟩
  | cons p cl ih =>
    intro h
    obtain ⟨o, ho⟩ := h p (by simp)
    obtain ⟨cs, e, a, b⟩ := ih fun q hq => h q (by simp [hq])
    refine ⟨(p.2, o) :: cs, by simp [e], fun q hq => ?_, fun q hq => ?_⟩
    · rcases List.mem_cons.mp hq with z | z
      · subst z; exact ⟨o, by simp, ho⟩
      · obtain ⟨o', h1, h2⟩ := a q z; exact ⟨o', by simp [h1], h2⟩
    · rcases List.mem_cons.mp hq with z | z
      · subst z; exact ⟨p, by simp, rfl, ho⟩
      · obtain ⟨p', h1, h2⟩ := b q z; exact ⟨p', by simp [h1], h2⟩
noncomputable def plus (cs : List (Addr × Obj)) (H : Hp) : Hp := fun b => match cs.lookup b with
  | some o => some (isO b o)
  | none => H b
theorem mem_lk {b : Addr} {o : Obj} : ∀ {cs : List (Addr × Obj)}, cs.lookup b = some o → (b, o) ∈ cs
  | [], h => by simp at h
  | (a, o') :: cs, h => by
    rw [List.lookup] at h
    split at h
    · rename_i e
      have e' : b = a := by simpa using e
      cases h; subst e'; simp
    · exact List.mem_cons_of_mem _ (mem_lk h)
theorem plus_out {cs : List (Addr × Obj)} {H : Hp} {b : Addr} (h : b ∉ cs.map (·.1)) : plus cs H b = H b := by
  unfold plus
  cases q : cs.lookup b with
  | none => rfl
  | some o => exact absurd (List.mem_map.mpr ⟨_, mem_lk q, rfl⟩) h
theorem plus_in {cs : List (Addr × Obj)} {H : Hp} {h : Heap} {b : Addr} {o : Obj} (k : ∀ q ∈ cs, h.get? q.1 = some q.2) (m : (b, o) ∈ cs) : plus cs H b = some (isO b o) := by
  unfold plus
  cases q : cs.lookup b with
  | none =>
    exfalso
    clear k
    induction cs with
    | nil => simp at m
    | cons p cs ih =>
      rcases List.mem_cons.mp m with z | z
      · subst z; simp [List.lookup] at q
      · rw [List.lookup] at q
        split at q
        · cases q
        · exact ih z q
  | some o' =>
    have e1 := k _ (mem_lk q)
    have e2 := k _ m
    dsimp only at e1 e2
    rw [e1] at e2; cases e2
    rfl
theorem rb_of {W : Wd} {Hc H : Hp} {u : U} {v : V} (b : Bool) (h : RU W Hc u v) : if b = true then RB W Hc H u v else RU W Hc u v := by
  cases b with
  | true => exact .inl h
  | false => exact h
section
variable {b1 b2 b3 : Bool} {X : Cx} {W : Wd} {m : Md} {E : XK} {a b body : Expr} {fa fb fl : Ef} {pos pp lpos : Pos} {x xl : Str} {scope : Scope} {cl : List (Str × Addr)} {caps : List Str} {js : List Nat} {params : Arguments} {c Pl f : Addr} {fdl : FuncData} {psl : List Str} {F : Ff → Ff}
end
inductive TabsAt (mg : L2.SV) (h : Heap) : List Str → List (Addr × Addr) → Prop
  | nil : TabsAt mg h [] []
  | cons {x : Str} {xs : List Str} {c P : Addr} {ts : List (Addr × Addr)} {a : Addr} {o : Obj} {fd : FuncData} (h1 : mg x = some (.ref a)) (h2 : h.get? a = some o) (h3 : o.data = .func fd) (h4 : fd.code = .ref c) (h5 : h.IsCode c P #[]) (h6 : h.TableAt c P #[]) (r : TabsAt mg h xs ts) : TabsAt mg h (x :: xs) ((c, P) :: ts)
theorem TabsAt.mem {mg : L2.SV} {h : Heap} : ∀ {xs : List Str} {ts : List (Addr × Addr)}, TabsAt mg h xs ts → ∀ t ∈ ts, h.IsCode t.1 t.2 #[] ∧ h.TableAt t.1 t.2 #[]
  | _, _, .nil, t, ht => by simp at ht
  | _, _, .cons _ _ _ _ h5 h6 r, t, ht => by
    rcases List.mem_cons.mp ht with e | e
    · subst e; exact ⟨h5, h6⟩
    · exact r.mem t e
noncomputable def spT (ts : List (Addr × Addr)) (sp : Sp) : Sp := fun vs H Q E => sp vs H Q E ∧ ∀ t ∈ ts, H t.2 = some (.tbl #[])
noncomputable def noTab (K : PySem.W.Frag) : Bool := K.all fun p => match p.2 with
  | ⟨.none, _, .fields _, _⟩ => false
  | _ => true
theorem noTab_of {b : Addr} {o : Obj} : ∀ {K : PySem.W.Frag}, noTab K = true → K.lookup b = some o → ∀ ps, o ≠ { cls := .none, data := .fields ps }
  | [], _, e, _ => by simp at e
  | (a, o') :: K, h, e, ps => by
    unfold noTab at h
    rw [List.all_cons, Bool.and_eq_true] at h
    rw [List.lookup] at e
    split at e
    · cases e
      intro z
      rw [z] at h
      exact Bool.noConfusion h.1
    · exact noTab_of (K := K) h.2 e ps
theorem law_callT {P : Program} {w : World} {K : PySem.W.Frag} {mg mb : L2.SV} {CX : CXT} {k : Nat} {fa a : Addr} {fd : FuncData} {x : Str} {sp : Sp} {s₁ : Shared} {vs : List Value} {ns : List Int} {xs : List Str} {ts : List (Addr × Addr)}
    (KX : K.In s₁.heap) (nt : noTab K = true) (hns : s₁.heap.Ns mainGlobals mg) (hb : s₁.heap.Ns builtinsNs mb) (hbb : ∀ x : Str, x ≠ "__name__" → mb x = bootBuiltins x) (hlim : s₁.heap.NoLimit) (hg : s₁.gens = #[]) (hT : TabsAt mg s₁.heap xs ts) (hB : BmB s₁.heap mg)
    (ha : s₁.heap.get? a = some { cls := .type "list", data := .seq vs.toArray }) (hi : IntsAre vs ns) (hl : ns.length ≤ sizeLine) (hr : Room k callerA)
    (F : ∀ base : Heap, K.In base → base.Ns mainGlobals mg → BmB base mg → (∀ t ∈ ts, CodB base t.1 t.2) → FnOk P w K mg base CX k fa fd [x] (spT ts sp)) (hbind : ∀ (s : Shared) (u : Value), BindsTo s fd ⟨[u], []⟩ [(x, u)])
    (hsp : ∀ H : Hp, SqL K H a (ns.map V.int) → sp [.ref a] H (fun v ψ => v = .bl true) fun ψ ψ ψ => False)
    (hCX : ∀ H e s', CX [] H s₁ (fun ψ ψ ψ => False) e s' → False) :
    codeAny (model P w) callerA (.call (.ref fa) ⟨[.ref a], []⟩) (fun r s' => r = .ok (.ret (.bool true)) ∧ OldK s₁.heap s'.heap ∧ s'.os = s₁.os ∧ AllBare s'.gens) s₁ := by
  have rv := vals_ints hi
  have lenV := hi.length
  have tabs : ∀ b ∈ ts.map (·.2), s₁.heap.get? b = some { cls := .none, data := .fields #[] } ∧ isCodeTable s₁.heap b := fun b hb => by
    obtain ⟨t, ht, rfl⟩ := List.mem_map.mp hb
    have := (hT.mem t ht).2
    exact ⟨this.2, this.isCodeTable⟩
  have naT : a ∉ ts.map (·.2) := fun z => by have := (tabs a z).1; rw [ha] at this; cases this
  have core : ∀ H : Hp, (∀ t ∈ ts, H t.2 = some (.tbl #[])) → (∀ b, b ∉ ts.map (·.2) → H b = none ∨ (b = a ∧ H b = some (.frz { cls := .type "list", data := .seq vs.toArray } (.lst (ns.map V.int))))) → SqL K H a (ns.map V.int) → HOk P w H s₁.heap → (H a ≠ none → K.lookup a = none) →
      codeAny (model P w) callerA (.call (.ref fa) ⟨[.ref a], []⟩) (fun r s' => r = .ok (.ret (.bool true)) ∧ OldK s₁.heap s'.heap ∧ s'.os = s₁.os ∧ AllBare s'.gens) s₁ := by
    intro H hTb hO hS hok hK
    have base_of : ∀ {b : Addr} {o : Obj}, s₁.heap.get? b = some o → H b = none → (hidT s₁.heap H).get? b = some o := fun e n => hidT_get e n
    have none_of : ∀ {b : Addr} {o : Obj}, s₁.heap.get? b = some o → o ≠ { cls := .none, data := .fields #[] } → b ≠ a → H b = none := fun {b o} e n1 n2 => by
      rcases hO b (fun z => by have := (tabs b z).1; rw [e] at this; exact n1 (Option.some.inj this)) with z | ⟨z, _⟩
      · exact z
      · exact absurd z n2
    have noA : ∀ {b : Addr} {o : Obj} {es : Array DictEntry} {ep : Nat}, s₁.heap.get? b = some o → o.data = .dict es ep → H b = none := fun {b o es ep} e d => by
      refine none_of e (fun z => by rw [z] at d; cases d) fun z => ?_
      subst z
      rw [ha] at e; cases e
      cases (show Data.seq vs.toArray _ = Data.dict es ep from d)
    have nsK : ∀ {b : Addr} {m : L2.SV}, s₁.heap.Ns b m → (hidT s₁.heap H).Ns b m := fun {b m} ⟨o, es, ep, e, d, r⟩ => ⟨o, es, ep, base_of e (noA e d), d, r⟩
    have hKb : K.In (hidT s₁.heap H) := fun b o e => base_of (KX b o e) (by
      by_cases z : b = a
      · subst z
        cases q : H b with
        | none => rfl
        | some u => rw [hK (by rw [q]; simp)] at e; cases e
      · exact none_of (KX b o e) (noTab_of nt e #[]) z)
    have hM : Mod K mg (hidT s₁.heap H) := ⟨hKb, nsK hns, ⟨mb, nsK hb, hbb⟩, let ⟨mc, h1, h2⟩ := hlim; ⟨mc, nsK h1, h2⟩⟩
    have e0 : Env0 P w K mg (hidT s₁.heap H) callerA [] s₁ H := ⟨rfl, hM, fun b o e => of_hidT e, Nat.le_of_eq (hidT_size _ _), trivial, fun b hb => absurd (show b ∈ ([] : List Addr) from hb) (by simp), hok, .of_eq hg⟩
    have bB : BmB (hidT s₁.heap H) mg := by
      obtain ⟨bm, o, h1, h2, h3, h4, h5, h6⟩ := hB
      refine ⟨bm, o, h1, h2, base_of h3 (none_of h3 (fun z => by rw [z] at h6; cases h6) fun z => ?_), h4, h5, h6⟩
      subst z
      rw [ha] at h3; cases h3; cases h6
    have cB : ∀ t ∈ ts, CodB (hidT s₁.heap H) t.1 t.2 := fun t ht => by
      obtain ⟨⟨o, vs', file, tf, flags, tg, inF, text, tt, op, ho, hd, h11, h18, h7, h9, h10, hop, hpd, htr, hne⟩, ⟨o2, vs2, g1, g2, g3, g4⟩, _⟩ := hT.mem t ht
      rw [ho] at g1
      cases g1
      rw [hd] at g3
      cases g3
      refine ⟨o, vs', file, tf, flags, tg, inF, text, tt, base_of ho (none_of ho (fun z => by rw [z] at g2; cases g2) fun z => ?_), g2, hd, g4, h18, h7, h9, h10, hne⟩
      rw [z, ha] at ho
      have ho' := Option.some.inj ho
      rw [← ho'] at g2
      have g2' : "list" = "code" := by injection g2
      exact absurd g2' (by decide)
    refine codeAny_mono ((F _ hKb (nsK hns) bB cB).run callerA [] s₁ H ⟨[.ref a], []⟩ [.ref a] [.ref a] _ _ hr e0 (hbind s₁ (.ref a)) (.cons rfl .nil) ⟨hsp H hS, hTb⟩) fun r s' h => ?_
    cases r with
    | error e => exact (hCX H e s' h).elim
    | ok fl =>
      cases fl with
      | next => exact False.elim h
      | brk => exact False.elim h
      | cont => exact False.elim h
      | ret u =>
        obtain ⟨v, H', os, bare, un, hok', r', q⟩ := h
        have q' : v = .bl true := q
        subst q'
        obtain rfl : u = Value.bool true := r'
        refine ⟨rfl, ⟨fun b o e => ?_, fun b o e => un.there b o e (by simp)⟩, os, bare⟩
        by_cases hb : b ∈ ts.map (·.2)
        · obtain ⟨t, ht, rfl⟩ := List.mem_map.mp hb
          obtain ⟨e1, e2⟩ := tabs _ hb
          rw [e] at e1; cases e1
          obtain ⟨more, hm⟩ := un.tbls _ _ (hTb t ht)
          exact .inr (.inl ⟨e2, rfl, #[], more, rfl, hok' _ _ hm⟩)
        · rcases hO b hb with z | ⟨_, z⟩
          · exact .inl (un.keep b o e z (by intro z; exact absurd (show b ∈ ([] : List Addr) from z) (by simp)) (by simp))
          · have z2 := un.frzs b _ _ z
            obtain ⟨e1, _⟩ := hok b _ z
            obtain ⟨e2, _⟩ := hok' b _ z2
            rw [e] at e1; cases e1
            exact .inl e2
  cases hk : K.lookup a with
  | some o =>
    have e := KX a o hk
    rw [ha] at e
    cases e
    refine core (fun b => if b ∈ ts.map (·.2) then some (.tbl #[]) else none) (fun t ht => if_pos (List.mem_map.mpr ⟨t, ht, rfl⟩)) (fun b hb => .inl (if_neg hb)) (.inr ⟨_, vs.toArray, _, hk, rfl, rfl, rfl, by rw [List.size_toArray, lenV]; exact hl, by simpa using rv⟩) (fun b u z => ?_) fun z => absurd (if_neg naT) z
    by_cases hb : b ∈ ts.map (·.2)
    · have z' := (if_pos hb).symm.trans z
      cases z'
      exact (tabs b hb).1
    · have z' := (if_neg hb).symm.trans z
      cases z'
  | none =>
    refine core (fun b => if b ∈ ts.map (·.2) then some (.tbl #[]) else if b = a then some (.frz { cls := .type "list", data := .seq vs.toArray } (.lst (ns.map V.int))) else none) (fun t ht => if_pos (List.mem_map.mpr ⟨t, ht, rfl⟩)) (fun b hb => ?_) (.inl (.inr ⟨{ cls := .type "list", data := .seq vs.toArray }, (if_neg naT).trans (if_pos rfl)⟩)) (fun b u z => ?_) fun ψ => hk
    · by_cases hb2 : b = a
      · exact .inr ⟨hb2, (if_neg hb).trans (if_pos hb2)⟩
      · exact .inl ((if_neg hb).trans (if_neg hb2))
    · by_cases hb : b ∈ ts.map (·.2)
      · have z' := (if_pos hb).symm.trans z
        cases z'
        exact (tabs b hb).1
      · have z := (if_neg hb).symm.trans z
        by_cases hb2 : b = a
        · have z' := (if_pos hb2).symm.trans z
          cases z'
          subst hb2
          exact ⟨ha, by rw [List.length_map]; exact hl, vs, _, rv, ha⟩
        · have z' := (if_neg hb2).symm.trans z
          cases z'
theorem tabsAt_of {q : Program} {loose : List Str} {mean : ExcName → Option Value} {mg mb : L2.SV} {h : Heap} (T : Top q loose mean mg mb h) : ∀ {xs : List Str}, (xs.all fun x => (recsOf q).any fun d => d.name == x) = true → ∃ ts, TabsAt mg h xs ts
  | [], _ => ⟨[], .nil⟩
  | x :: xs, e => by
    rw [List.all_cons, Bool.and_eq_true] at e
    obtain ⟨ts, r⟩ := tabsAt_of T (xs := xs) e.2
    obtain ⟨d, hd, e1⟩ := List.any_eq_true.mp e.1
    have e1 : d.name = x := by simpa using e1
    subst e1
    obtain ⟨a, o, fd, c, P, h1, h2, h3, h4, h5, h6⟩ := T.tab d hd
    exact ⟨(c, P) :: ts, .cons h1 h2 h3 h4 h5 h6 r⟩
theorem walk_ofT {l : PySem.W.OpenLaw} {n k : Nat} {q : Program} {loose : List Str} {XP : (Str → Option Value) → Heap → Prop} {YP : World → Heap → Prop} {d : DefRec} {K : Params → PySem.W.Frag} {CX : CXT} {sp : PySem.W.Frag → Sp} {x : Str} (xs : List Str)
    (hn : l.most = some n) (hn2 : n ≤ sizeLine) (hdf : d.params.defaults = []) (hr : Room k callerA) (hx : (xs.all fun x => (recsOf q).any fun d => d.name == x) = true) (nt : ∀ P, noTab (K P) = true)
    (hY : ∀ (w : World) (h : Heap), YP w h → (K w.params).In h)
    (F : ∀ (w : World) (mg : L2.SV) (fa : Addr) (h : Heap) (ts : List (Addr × Addr)), (K w.params).In h → h.Ns mainGlobals mg → mg d.name = some (.ref fa) → TabsAt mg h xs ts →
      ∃ fd : FuncData, (∀ (s : Shared) (u : Value), BindsTo s fd ⟨[u], []⟩ [(x, u)]) ∧
        ∀ base : Heap, (K w.params).In base → base.Ns mainGlobals mg → BmB base mg → (∀ t ∈ ts, CodB base t.1 t.2) → FnOk l.prog w (K w.params) mg base CX k fa fd [x] (spT ts (sp (K w.params))))
    (hsp : ∀ (K : PySem.W.Frag) (H : Hp) (a : Addr) (ns : List Int), ns.length ≤ n → SqL K H a (ns.map V.int) → sp K [.ref a] H (fun v ψ => v = .bl true) fun ψ ψ ψ => False)
    (hCX : ∀ (H : Hp) (s : Shared) (e : Value) (s' : Shared), CX [] H s (fun ψ ψ ψ => False) e s' → False) :
    PySem.W.WalkO q loose XP YP l.row.toRowW d [] (fun f vs => PySem.call f vs) := by
  refine Att.attach_call hn hdf fun w s₀ s₁ mg mb fa o pm cd doc a vs ns G Y ho hd hcd hmg hobj hints hlen hg => ?_
  have KX := hY w _ Y
  obtain ⟨ts, hT⟩ := tabsAt_of G.T hx
  obtain ⟨fd, hb, hF⟩ := F w mg fa _ ts KX G.T.g hmg hT
  exact law_callT KX (nt _) G.T.g G.T.b G.T.builtins G.T.nolimit hg hT G.T.bmain hobj hints (Nat.le_trans hlen hn2) hr hF hb (fun H hS => hsp _ H a ns hlen hS) fun H e s' => hCX H s₁ e s'
section
variable {P : Program} {w : World} {K : PySem.W.Frag} {mg : L2.SV} {base : Heap}
theorem Fun.okQC {x qual : Str} {st : Stmt} {f : Addr} {fd : FuncData} {N ps : List Str} {k : Nat} {wk : Wd → Prop} {bs : List Bool} {m : Md} {g : Sf} {c : Addr} (F : Fun K x qual st f fd) (hfc : fd.code = .ref c) (S : FnScope N ps (defScope st)) (hl : bs.length = ps.length) (hB : okB bs m = true) (hN : ps.length ≤ N.length)
    (hbody : ∀ (A : Around) (outer : List Env) (s : Shared) (H : Hp) (E : XK) (W : Wd), W.K = K → W.mg = mg → wk W → Room k (A.deeper (envOfC qual (defScope st) s.heap.objs.size f (.ref c))) → A.handled = none →
      QK (defX P w K mg base N qual (defScope st) f (.ref c) A outer s H E) W m E (defBody st) g) : FnOk P w K mg base (CX1 P w) (k + 1) f fd ps (spU K mg wk bs.length bs (runU N.length g)) := by
  obtain ⟨oc, od, kV, doc, pm, an, cdv, ct, osl, rfl, lk, hcd⟩ := F.ex
  have ec : cdv = .ref c := hfc
  subst ec
  unfold okB at hB
  rw [Bool.and_eq_true] at hB
  have hB1 : ∀ i, bs[i]? = some true → i ∈ m.B := fun i h => by
    have lt : i < bs.length := (List.getElem?_eq_some_iff.mp h).1
    have z := List.all_eq_true.mp hB.1 i (List.mem_range.mpr lt)
    rw [List.getD_eq_getElem?_getD, h] at z
    simpa using z
  have hM1 : ∀ i ∈ m.M, bs.length ≤ i := fun i h => by simpa using List.all_eq_true.mp hB.2 i h
  refine fn_of lk hcd S (fun vs H Q E h => ?_) fun A outer s H vs Q E hr hsp => ?_
  · obtain ⟨W, us, ω, Hc, _, _, _, hl', _⟩ := h
    rw [hl', hl]
  · obtain ⟨W, us, ω, Hc, hK, hm, hw, hl', sub, pl, rbs, aft⟩ := hsp
    obtain ⟨t, ht, dk⟩ := hbody A outer s H E W hK hm hw hr hr.hd
    refine ⟨t, ht (), dk H Hc _ ω _ Hc H _ (Sr.start (N := N) sub pl rbs hB1 hM1 (by rw [hl', hl]; exact hN)) (Ext.refl sub) _ ?_⟩
    unfold runU at aft
    revert aft
    cases g (us.map some ++ List.replicate (N.length - us.length) none) ω with
    | nx ρ' ω' => exact fun h σ' Hc' H' e p => h Hc' H' e p _ .non
    | rt u ω' => exact fun h v Hc' H' e p r => h Hc' H' e p v r
    | err c pl ω' => exact fun h => h
    | bk _ _ => exact fun h => h
    | ct _ _ => exact fun h => h
    | stk => exact fun h => h
end
theorem TabO.st {L : List Addr} {P : Addr} {pos : Pos} {q : Str} {H H' : Hp} (h : TabO L P pos q H) (k : ∀ b o, H b = some o → (b = P ∨ b ∉ L ∧ ∃ x y, o = .frz x y) → H' b = some o) : TabO L P pos q H' := by
  obtain ⟨ps, e, r⟩ := h
  refine ⟨ps, k _ _ e (.inl rfl), ?_⟩
  rcases r with r | ⟨c, oc, u, fs, t, e1, e2, e3, e4⟩
  · exact .inl r
  · exact .inr ⟨c, oc, u, fs, t, e1, e2, k _ _ e3 (.inr ⟨e2, _, _, rfl⟩), e4⟩
noncomputable def tbA (tb : List (Addr × Pos × Str)) : List Addr := tb.map fun t => t.1
theorem tbA_mem {tb : List (Addr × Pos × Str)} {t : Addr × Pos × Str} (h : t ∈ tb) : t.1 ∈ tbA tb := List.mem_map.mpr ⟨t, h, rfl⟩
noncomputable def wdT (K : PySem.W.Frag) (mg : L2.SV) (tb : List (Addr × Pos × Str)) : Wd where
  K := K
  mg := mg
  pa := 0
  L := tbA tb
  pl := fun ψ H => ∀ t ∈ tb, TabO (tbA tb) t.1 t.2.1 t.2.2 H
  st := fun ψ H H' h k t ht => (h t ht).st fun b o e z => k b o e (z.imp (fun z => by rw [z]; exact tbA_mem ht) fun z => z.2)
theorem wdT_tab {K : PySem.W.Frag} {mg : L2.SV} {tb : List (Addr × Pos × Str)} (nd : (tbA tb).Nodup) {t : Addr × Pos × Str} (ht : t ∈ tb) : TabW (wdT K mg tb) t.1 t.2.1 t.2.2 := by
  have mm : t.1 ∈ tbA tb := tbA_mem ht
  refine ⟨mm, fun ω H h => h t ht, fun ω H H' h h' k t' ht' => ?_⟩
  by_cases e : t'.1 = t.1
  · have et : t' = t := by
      obtain ⟨i, hi, ei⟩ := List.mem_iff_getElem.mp ht'
      obtain ⟨j, hj, ej⟩ := List.mem_iff_getElem.mp ht
      have := (List.getElem_inj (i := i) (j := j) (h₀ := by unfold tbA; simpa using hi) (h₁ := by unfold tbA; simpa using hj) nd).mp (by simp [tbA, ei, ej, e])
      subst this
      rw [← ei, ← ej]
    rw [et]; exact h'
  · refine (h t' ht').st fun b o eb z => k b o ?_ eb
    rcases z with z | ⟨z, _⟩
    · rw [z]; exact e
    · exact fun w => z (w ▸ mm)
section
variable {ι : Type} {X : L2.FC ι} {W : Wd} {m : Md} {E : XK} {p p2 apos cpos : Pos} {x : Str} {j0 : Nat} {i : Nat} {ta : TE} {fa : Ef} {a : Expr}
end
noncomputable abbrev Cx.in1 (X : Cx) : Cx := { X with A := X.A.in1, xe := fun ψ ψ => False }
section
variable {X : Cx} {pins : List (Addr × Obj)} {σ : St} {H : Hp} {s : Shared}
theorem Inv.in1 (I : Inv X pins σ H s) : Inv X.in1 pins σ H s :=
  ⟨⟨I.ok.mod, I.ok.kind, I.ok.glob, I.ok.blt, I.ok.above, I.ok.inj, I.ok.has, I.ok.cab, I.ok.hd, I.ok.frames, I.ok.stk, I.ok.exf, I.ok.bs, I.ok.bsz, I.ok.noex, I.ok.exfs, I.ok.funs, I.ok.frf⟩, I.os, I.bare, I.base, I.loc, I.cell, I.free, I.freeC, I.pin, I.hok, I.len⟩
end
section
variable {X : Cx} {pins : List (Addr × Obj)} {σ : St} {l it sl q : Addr} {xs : List V} {kf : Nat → Int} {G : Hp → Prop} {R : Result → Shared → Prop}
end
section
variable {X : Cx} {pins : List (Addr × Obj)} {σ : St} {H : Hp} {s : Shared} {l q : Addr} {xs : List V} {kf : Nat → Int} {G : Hp → Prop} {Q : L2.VSP} {E : L2.VSP}
end
section
variable {M : Model} {A : Around} {E : L2.VSP} {s : Shared} {env : Env}
end
section
variable {X : Cx} {W : Wd} {m : Md} {E : XK} {a : Expr} {fa : Ef} {pos p p2 kp : Pos} {kx : Str}
end
theorem ClOf.mem {cells : List (Str × Addr)} : ∀ {cl : List (Str × Addr)}, ClOf cells cl → ∀ p ∈ cl, cells.lookup p.1 = some p.2
  | _, .nil, p, h => by simp at h
  | _, .cons q t, p, h => by
    rcases List.mem_cons.mp h with e | e
    · subst e; exact q
    · exact t.mem p e
theorem Caps.at_ {X : Cx} {sc : Scope} {cl : List (Str × Addr)} : ∀ {js : List Nat} {ys : List Str} {i j : Nat} {y : Str}, Caps X sc cl js ys → ys[i]? = some y → js[i]? = some j → X.N[j]? = some y ∧ (X.env.kindOf y = some .cell ∨ X.env.kindOf y = some .free)
  | _, _, _, _, _, .nil, e, _ => by simp at e
  | _, _, 0, j, y, .cons hN hk _ _ _, e, e2 => by simp at e e2; subst e; subst e2; exact ⟨hN, hk⟩
  | _, _, i + 1, j, y, .cons _ _ _ _ r, e, e2 => Caps.at_ (i := i) r (by simpa using e) (by simpa using e2)
theorem Caps.sc {X : Cx} {sc : Scope} {cl : List (Str × Addr)} : ∀ {js : List Nat} {ys : List Str} {y : Str}, Caps X sc cl js ys → y ∈ ys → sc.names.lookup y = some .cell ∨ sc.names.lookup y = some .free
  | _, _, _, .nil, e => by simp at e
  | _, _, y, .cons _ _ _ hv r, e => by
    rcases List.mem_cons.mp e with z | z
    · subst z; exact hv
    · exact r.sc z
section
variable {P : Program} {w : World} {K : PySem.W.Frag} {mg : L2.SV} {base : Heap} {N : List Str} {qual : Str} {scope : Scope} {cl : List (Str × Addr)} {f : Addr} {cd : Value} {A : Around} {outer : List Env} {s : Shared} {H : Hp} {W : Wd} {k : Nat}
noncomputable abbrev lamX (P : Program) (w : World) (K : PySem.W.Frag) (mg : L2.SV) (base : Heap) (N : List Str) (qual : Str) (scope : Scope) (cl : List (Str × Addr)) (f : Addr) (cd : Value) (A : Around) (outer : List Env) (s : Shared) (H : Hp) : Unit → Cx := fun ψ => cxLam P w K mg base N qual scope cl f cd A outer s H
theorem ctx_lam (hK : W.K = K) (hm : W.mg = mg) (hr : Room k (A.deeper (envL qual scope cl s.heap.objs.size f cd))) : Ctx (lamX P w K mg base N qual scope cl f cd A outer s H) W E0 :=
  ⟨fun ψ => hK.symm, fun ψ => hm.symm, fun ψ => rfl, fun ψ => hr.units, fun ψ ψ ψ ψ ψ ψ ψ ψ hq => by obtain ⟨_, _, _, _, _, _, _, _, _, _, z⟩ := hq; exact z.elim⟩
end
section
variable {b1 b2 b3 : Bool} {P : Program} {w : World} {K : PySem.W.Frag} {mg : L2.SV} {base : Heap} {W : Wd} {m : Md} {E : XK} {a b body : Expr} {fa fb fl : Ef} {pos pp lpos : Pos} {x xl qual : Str} {scope sc0 : Scope} {cl : List (Str × Addr)} {caps N : List Str} {js : List Nat} {params : Arguments} {c Pl f f0 : Addr} {fdl : FuncData} {psl : List Str} {F : Ff → Ff} {A : Around} {outer : List Env} {s : Shared} {H : Hp}
end
noncomputable def tab11 (o : Obj) : Option Addr := match o.data with
  | .fields vs => (match (vs[11]? : Option Value) with
    | some (Value.ref P) => some P
    | _ => none)
  | _ => none
theorem tab_is {K : PySem.W.Frag} {h : Heap} {mg : L2.SV} {x : Str} {a f c cc P Tb : Addr} {oc : Value} {od : Option Addr} {sl : Array (Option Value)} {fd fd0 : FuncData} {o ob : Obj} (X : K.In h) (m : mg x = some (.ref f)) (l : K.lookup f = some ⟨oc, od, .func fd0, sl⟩) (hc0 : fd0.code = .ref cc)
    (t : K.lookup cc = some ob) (p : tab11 ob = some Tb) (h1 : mg x = some (.ref a)) (h2 : h.get? a = some o) (h3 : o.data = .func fd) (h4 : fd.code = .ref c) (h6 : h.TableAt c P #[]) : c = cc ∧ P = Tb := by
  rw [m] at h1
  cases h1
  rw [X _ _ l] at h2
  cases h2
  have e : fd0 = fd := by injection h3
  subst e
  rw [hc0] at h4
  cases h4
  obtain ⟨⟨o2, vs, g1, g2, g3, g4⟩, _⟩ := h6
  rw [X _ _ t] at g1
  cases g1
  unfold tab11 at p
  rw [g3] at p
  simp only [g4] at p
  cases p
  exact ⟨rfl, rfl⟩
end L2
set_option maxHeartbeats 1000000
namespace L2
open PySem PySem.Spec PyProof.Rows
noncomputable def Itzl (K : PySem.W.Frag) (a b : Addr) : It :=
  ⟨fun i H => ∃ xs ys x y, SqL K H a xs ∧ SqL K H b ys ∧ xs[i]? = some x ∧ ys[i]? = some y, fun i H v H' => ∃ p x y, H p = none ∧ v = .ref p ∧ (∀ xs, SqL K H a xs → xs[i]? = some x) ∧ (∀ ys, SqL K H b ys → ys[i]? = some y) ∧ H' = upd H p (.tup [x, y]),
    fun i H => ∃ xs ys, SqL K H a xs ∧ SqL K H b ys ∧ (xs.length ≤ i ∨ ys.length ≤ i)⟩
theorem turn_zipL {P : Program} {w : World} {K : PySem.W.Frag} {es : List Expr} {x1 : Nat} {pos : Pos} (a b zp tI tO ia ib : Addr) (D : ZipApart zp tI tO ia ib a b) :
    Turn P w K (.Tuple es x1 pos) (Itzl K a b) [zp, tO, ia, ib, tI] zp (fun i h => (IsZip h zp tI tO .none ∧ IsPair h tI (.ref ia) (.ref ib) ∧ ∃ u v, IsPair h tO u v) ∧ h.IsListIter ia a i ∧ h.IsListIter ib b i) where
  mem := by simp
  obj := fun i h st c hc => by
    obtain ⟨⟨Z, P1, u, v, P2⟩, ⟨o1, g1, _, d1⟩, ⟨o2, g2, _, d2⟩⟩ := st
    simp only [List.mem_cons, List.not_mem_nil, or_false] at hc
    rcases hc with rfl | rfl | rfl | rfl | rfl
    · exact ⟨_, Z, fun v z => by cases z⟩
    · exact ⟨_, P2, fun v z => by cases z⟩
    · exact ⟨o1, g1, fun v z => by rw [d1] at z; cases z⟩
    · exact ⟨o2, g2, fun v z => by rw [d2] at z; cases z⟩
    · exact ⟨_, P1, fun v z => by cases z⟩
  keep := fun i h h' st k => by
    obtain ⟨⟨Z, P1, u, v, P2⟩, ⟨o1, g1, r1⟩, ⟨o2, g2, r2⟩⟩ := st
    exact ⟨⟨k zp (by simp) _ Z, k tI (by simp) _ P1, u, v, k tO (by simp) _ P2⟩, ⟨o1, k ia (by simp) o1 g1, r1⟩, ⟨o2, k ib (by simp) o2 g2, r2⟩⟩
  item := by
    intro X hP hw hK hc i pins s σ H E I hf st hg
    subst hP hw hK
    obtain ⟨xs, ys, x, y, hq, hr, hx, hy⟩ := hg
    obtain ⟨its, rv, p, hz⟩ := I.list hq
    obtain ⟨jts, rw', pl, hz2⟩ := I.list hr
    obtain ⟨u, hu, ru⟩ := rv.get hx
    obtain ⟨v, hv, rv2⟩ := rw'.get hy
    obtain ⟨⟨Z, P1, a1, b1, P2⟩, J1, J2⟩ := st
    refine wpAny_pyNext_zip_item D Z P1 P2 J1 J2 p.isList pl.isList (x := u) (y := v) (by simpa using hu) (by simpa using hv) fun g Z1 Q2 L1 L2 t1 ψ k1 => ?_
    refine ⟨_, rfl, wpAny_letOwnedTupleGo_zip (s := { s with heap := g }) Z1 fun g2 Z2 S2 => ?_⟩
    have lt : zp < s.heap.objs.size := Heap.lt_size Z
    have k2 : ∀ c o, c ∉ [zp, tO, ia, ib, tI] → s.heap.get? c = some o → g2.get? c = some o := fun c o hb e => (S2.2 c fun z => hb (by simp [z])).trans (k1 c o (fun z => hb (by simp [z])) (fun z => hb (by simp [z])) (fun z => hb (by simp [z])) (fun z => hb (by simp [z])) e)
    obtain ⟨hn, I2⟩ := I.adoptT (h' := g2) (t' := s.toks) (fp := [zp, tO, ia, ib, tI]) (vs := [x, y]) (us := [u, v]) (n := 0) k2 hf ⟨_, (S2.2 _ (Nat.ne_of_gt lt)).trans t1, rfl, _, rfl⟩ (.cons ru (.cons rv2 .nil)) (by show 2 ≤ sizeLine; decide)
    refine ⟨.ref _, _, I2, rfl, ⟨_, x, y, hn, rfl, fun zs hy => by rw [I.list_inj hy hq]; exact hx, fun zs hy' => by rw [I.list_inj hy' hr]; exact hy, rfl⟩, ⟨⟨Z2, ?_, u, v, (S2.2 _ D.TOz).trans Q2⟩, ?_, ?_⟩, fun c hb => ?_⟩
    · exact (S2.2 _ D.TIz).trans (k1 tI _ D.TIz D.TITO D.TIi1 D.TIi2 P1)
    · obtain ⟨o, go, r⟩ := L1; exact ⟨o, (S2.2 ia D.i1z).trans go, r⟩
    · obtain ⟨o, go, r⟩ := L2; exact ⟨o, (S2.2 ib D.i2z).trans go, r⟩
    · have ltb : c ≠ s.heap.objs.size := by
        obtain ⟨o1, q1, _⟩ := J1
        obtain ⟨o2, q2, _⟩ := J2
        simp only [List.mem_cons, List.not_mem_nil, or_false] at hb
        rcases hb with rfl | rfl | rfl | rfl | rfl
        · exact Nat.ne_of_lt lt
        · exact Nat.ne_of_lt (Heap.lt_size P2)
        · exact Nat.ne_of_lt (Heap.lt_size q1)
        · exact Nat.ne_of_lt (Heap.lt_size q2)
        · exact Nat.ne_of_lt (Heap.lt_size P1)
      rw [upd_ne ltb]; exact (hf c hb).1
  done := by
    intro X hP hw hK hc i pins s σ H E I hf st hg
    subst hP hw hK
    obtain ⟨xs, ys, hq, hr, hx⟩ := hg
    obtain ⟨its, rv, p, hz⟩ := I.list hq
    obtain ⟨jts, rw', pl, hz2⟩ := I.list hr
    obtain ⟨⟨Z, P1, a1, b1, P2⟩, J1, J2⟩ := st
    have hl := rv.length
    have hl2 := rw'.length
    refine wpAny_pyNext_zip_end (I.ok.hd hc) D Z P1 P2 J1 J2 p.isList pl.isList (by
      rcases hx with hx | hx
      · left; simp; lia
      · right; simp; lia) fun g eb => ⟨rfl, I.turnedL (t' := s.toks) (fp := [zp, tO, ia, ib, tI]) (fun c o hb e => eb c o (fun z => hb (by simp [z])) (fun z => hb (by simp [z])) (fun z => hb (by simp [z])) (fun z => hb (by simp [z])) e) hf⟩
  self := fun ψ ψ ψ ψ ψ st h => wpAny_pyIter_zip st.1.1 h
noncomputable def iZipL (K : PySem.W.Frag) (ta : TA) : TI := fun σ H R => ta σ H fun vs H1 => ∃ a b, vs = [.ref a, .ref b] ∧ (∃ xs, SqL K H1 a xs) ∧ (∃ ys, SqL K H1 b ys) ∧ R (Itzl K a b) H1
section
variable {X : Cx}
theorem pi_zipL {a b : Expr} {ta : TA} {p pos tp : Pos} {es : List Expr} {x1 : Nat} (hg : Gl X "zip") (hm : X.mg "zip" = none) (ha : PA X [a, b] ta) (hs : starEach [a, b] X.env = [(false, eval a X.env), (false, eval b X.env)] := by rfl) (hs2 : starEach [b] X.env = [(false, eval b X.env)] := by rfl) :
    PI X (.Tuple es x1 tp) (.Call (.Name "zip" p) [a, b] [] pos) (iZipL X.K ta) := by
  intro pins s σ H R I h
  refine Call_ (ld_blt I hg hm boot_zip (PyProof.Rows.callWith_type1 (thn (ha pos pins s σ H _ I h) fun us s1 ⟨vs, H1, I1, r1, q1⟩ => ?_) (by rw [hs, hs2]) (by rw [hs2]; rfl)))
  obtain ⟨t, l, e, ⟨xs, hq⟩, ⟨ys, hr⟩, q⟩ := q1
  subst e
  cases r1 with
  | cons r rr =>
    cases rr with
    | cons r' rr =>
      cases rr
      cases r
      cases r'
      obtain ⟨its, rv, pt, hz⟩ := I1.list hq
      obtain ⟨jts, rw', pl, hz2⟩ := I1.list hr
      refine call_zip_2 pt.isList pl.isList fun g Z P1 P2 J1 J2 ψ k => wpAny_pyIter_zip (s := { s1 with heap := g }) Z ?_
      have lt1 : t < s1.heap.objs.size := by obtain ⟨o, e, _⟩ := pt.isList; exact Heap.lt_size e
      have lt2 : l < s1.heap.objs.size := by obtain ⟨o, e, _⟩ := pl.isList; exact Heap.lt_size e
      refine ⟨s1.heap.objs.size + 4, [s1.heap.objs.size + 4, s1.heap.objs.size + 3, s1.heap.objs.size, s1.heap.objs.size + 1, s1.heap.objs.size + 2], _, _, H1, rfl, I1.kept (t' := s1.toks) fun b o e => k b o e,
        turn_zipL t l _ (s1.heap.objs.size + 2) _ _ _ ?_, ⟨⟨Z, P1, _, _, P2⟩, J1, J2⟩, fun c hb => ?_, q⟩
      · constructor <;> first | lia | (simp only [Addr] at *; lia)
      · have le : s1.heap.objs.size ≤ c := by
          simp only [List.mem_cons, List.not_mem_nil, or_false] at hb
          rcases hb with rfl | rfl | rfl | rfl | rfl <;> first | exact Nat.le_refl _ | exact Nat.le_add_right _ _
        exact I1.fpOk le (I1.hok.fresh le)
end
noncomputable def uZipL : List U → Option (List U)
  | [.lst us, .lst ws] => some (zipU us ws)
  | _ => none
theorem uZipL_s {us ws : List U} : uZipL [.lst us, .lst ws] = some (zipU us ws) := rfl
section
variable {W : Wd} {m : Md} {E : XK} {tr : TA} {fr : Af}
theorem itzl_r {Hb Hc : Hp} {a b : Addr} {us ws : List U} {vs xs : List V} (r1 : RUs W Hc us vs) (r2 : RUs W Hc ws xs) (k1 : ∀ Hc2 H2, Same Hc Hc2 → Same Hc2 H2 → (∀ b o, b ∉ W.L → Hb b = some o → H2 b = some o) → H2 a = some (.lst vs)) (k : ∀ Hc2 H2, Same Hc Hc2 → Same Hc2 H2 → (∀ b o, b ∉ W.L → Hb b = some o → H2 b = some o) → H2 b = some (.lst xs)) : ItR W Hb Hc (Itzl W.K a b) (zipU us ws) := by
  intro Hc2 H2 s1 s2 s3
  have ha := k1 Hc2 H2 s1 s2 s3
  have hb := k Hc2 H2 s1 s2 s3
  refine ⟨fun i u hu => ?_, vs, xs, .of ha, .of hb, by unfold zipU; rw [List.length_zipWith, ← r1.len, ← r2.len]; omega⟩
  unfold zipU at hu
  rw [List.getElem?_zipWith] at hu
  cases q1 : us[i]? with
  | none => rw [q1] at hu; exact noS hu
  | some x =>
    cases q2 : ws[i]? with
    | none => rw [q1, q2] at hu; cases hu
    | some y =>
      rw [q1, q2] at hu; cases hu
      obtain ⟨v, hv, rv⟩ := r1.at (i := 0) q1
      obtain ⟨v', hv', rv'⟩ := r2.at (i := 0) q2
      refine ⟨⟨vs, xs, v, v', .of ha, .of hb, hv, hv'⟩, fun z H3 hz => ?_⟩
      obtain ⟨p, x', y', hn, rfl, e1, e2, rfl⟩ := hz
      have e1 := e1 vs (.of ha)
      have e2 := e2 xs (.of hb)
      rw [hv] at e1; cases e1
      rw [hv'] at e2; cases e2
      exact ⟨upd Hc2 p (.tup [v, v']), (Ext.laid s2 hn).1, Same.laid hn, .tup upd_same (.cons ((rv.mono s1).mono (Same.laid (s2.free hn))) (.one ((rv'.mono s1).mono (Same.laid (s2.free hn)))))⟩
theorem keep_l {us : List U} {v : V} {Hc1 H1 : Hp} (sub : Same Hc1 H1) (rv : RB W Hc1 H1 (.lst us) v) : ∃ a vs, v = .ref a ∧ H1 a = some (.lst vs) ∧ RUs W Hc1 us vs ∧ ∀ Hc2 H2, Same Hc1 Hc2 → Same Hc2 H2 → (∀ b o, b ∉ W.L → H1 b = some o → H2 b = some o) → H2 a = some (.lst vs) := by
  rcases rv with rv | ⟨us', b, xs, e, rfl, nl, q', r'⟩
  · rw [RU] at rv
    obtain ⟨b, xs, rfl, q', r'⟩ := rv
    exact ⟨b, xs, rfl, sub _ _ q', r', fun Hc2 H2 s1 s2 ψ => s2 _ _ (s1 _ _ q')⟩
  · cases e
    exact ⟨b, xs, rfl, q', r', fun Hc2 H2 s1 s2 s3 => s3 _ _ nl q'⟩
theorem di_zipL (hr : DA W m E [true, true] tr fr) : DI W m E true (iZipL W.K tr) (iArgs uZipL fr) := by
  intro H0 ρ ω σ Hc H ow S R h
  refine hr H0 ρ ω σ Hc H ow S _ ((Aft.bnd h).imp fun us ω1 Hc1 H1 e1 p1 h1 vs rs => ?_)
  revert h1
  cases hg : uZipL us with
  | none => exact fun h1 => h1.elim
  | some ws =>
    intro h1
    unfold uZipL at hg
    split at hg
    · cases hg
      obtain ⟨v, v', rfl, rv, rv'⟩ := rs.two
      obtain ⟨a, vs, rfl, q, r, k1⟩ := keep_l e1.sub rv
      obtain ⟨b, xs, rfl, q', r', k2⟩ := keep_l e1.sub rv'
      exact ⟨a, b, rfl, ⟨vs, .of q⟩, ⟨xs, .of q'⟩, h1 Hc1 H1 (Ext.refl e1.sub) p1 _ (itzl_r r r' k1 k2)⟩
    · cases hg
end
section
variable {ι : Type} {X : L2.FC ι} {W : Wd} {m : Md} {E : XK} {a b : Expr} {fr : Af} {p pos tp : Pos} {es : List Expr} {x1 : Nat}
theorem pi_zipLK {Y : Cx} {K : PySem.W.Frag} {tg e : Expr} {ta : TA} (h : Y.K = K) (q : PI Y tg e (iZipL Y.K ta)) : PI Y tg e (iZipL K ta) := h ▸ q
theorem qi_zipL (cx : Ctx X W E) (B : Bl W.mg) (ha : QA X W m E [true, true] [a, b] fr) (hg : ∀ y, Gl (X y) "zip" := by intro ψ; rfl) (hs : ∀ y, starEach [a, b] (X y).env = [(false, eval a (X y).env), (false, eval b (X y).env)] := by intro ψ; rfl) (hs2 : ∀ y, starEach [b] (X y).env = [(false, eval b (X y).env)] := by intro ψ; rfl) : QI X W m E true (.Tuple es x1 tp) (.Call (.Name "zip" p) [a, b] [] pos) (iArgs uZipL fr) :=
  let ⟨_, pa, da⟩ := ha; ⟨_, fun y => pi_zipLK (cx.hK y) (pi_zipL (hg y) ((congrFun (cx.hm y) _).trans B.zip) (pa y) (hs y) (hs2 y)), di_zipL da⟩
end
inductive CapV where
  | i (n : Int) | l (a : Addr) (ns : List Int)
noncomputable def CapV.u : CapV → U
  | .i n => .int n
  | .l _ ns => .lst (ns.map U.int)
noncomputable def CapV.v : CapV → V
  | .i n => .int n
  | .l a _ => .ref a
noncomputable def lamW2 (W : Wd) (g : Addr) (fd : FuncData) (cs : List (Addr × Obj)) (ls : List (Addr × List Int)) : Wd where
  K := W.K
  mg := W.mg
  pa := g
  L := g :: (cs.map (·.1) ++ (ls.map (·.1) ++ W.L))
  pl := fun ω H => W.pl ω H ∧ lamP W.L g fd cs H ∧ ∀ q ∈ ls, H q.1 = some (.lst (q.2.map V.int))
  st := fun ω H H' ⟨a, ⟨b, ⟨c, oc, u, fs, t, e1, e2, e3, e4⟩, d⟩, f⟩ k => ⟨W.st ω H H' a fun b o e z => k b o e (z.imp (fun z => by simp [z]) id), ⟨k g _ b (.inl (by simp)), ⟨c, oc, u, fs, t, e1, e2, k c _ e3 (.inr ⟨_, _, rfl⟩), e4⟩, fun p hp => k p.1 _ (d p hp) (.inl (by
    refine List.mem_cons_of_mem _ (List.mem_append_left _ (List.mem_map.mpr ⟨p, hp, rfl⟩))))⟩, fun q hq => k q.1 _ (f q hq) (.inl (by
    refine List.mem_cons_of_mem _ (List.mem_append_right _ (List.mem_append_left _ (List.mem_map.mpr ⟨q, hq, rfl⟩)))))⟩
noncomputable def lamF2 (fb : Ef) (cv : List U) : Ff := fun us ω => match us with
  | [.int i] => (match fb (some (.int i) :: cv.map some) ω with
    | .ok (.bl b) ω' => .ok (.bl b) ω'
    | _ => .stk)
  | _ => .stk
section
variable {P : Program} {w : World} {K : PySem.W.Frag} {mg : L2.SV} {base : Heap} {qual x : Str} {scope : Scope} {cl : List (Str × Addr)} {g : Addr} {cd ct pm : Value} {caps : List Str} {W : Wd} {cs : List (Addr × Obj)} {ls : List (Addr × List Int)} {cap : List CapV} {fb : Ef} {params : Arguments} {body : Expr}
theorem lam_ok2 {k : Nat} (S : LamSc scope cl x caps) (hK : W.K = K) (hm : W.mg = mg)
    (hb : ∀ (A : Around) (outer : List Env) (s : Shared) (H : Hp), Room k (A.deeper (envL qual scope cl s.heap.objs.size g cd)) → QE (fun _ : Unit => cxLam P w K mg base (x :: caps) qual scope cl g cd A outer s H) W ⟨[], []⟩ E0 body fb)
    (hl : cap.length = caps.length) (hcs : cl.map (·.2) = cs.map (·.1)) (hcap : ∀ (i : Nat) (y : Str) (z : CapV), caps[i]? = some y → cap[i]? = some z → ∃ c o u, cl.lookup y = some c ∧ (c, o) ∈ cs ∧ o.data = .cell (some u) ∧ RelV z.v u)
    (hco : ∀ p ∈ cs, ∃ u, p.2.data = .cell u) (hls : ∀ a ns, CapV.l a ns ∈ cap → (a, ns) ∈ ls) (hlL : ∀ a ∈ ls.map (·.1), a ∉ W.L)
    (hg : g ∉ W.L) (hgT : g ∉ cs.map (·.1)) (hcL : ∀ c ∈ cs.map (·.1), c ∉ W.L) :
    FnOk P w K mg base (CX1 P w) (k + 1) g (lamFd qual params body scope cl ct pm cd) [x] (spU K mg (fun W' => W' = lamW2 W g (lamFd qual params body scope cl ct pm cd) cs ls) 1 [true] (lamF2 fb (cap.map CapV.u))) := by
  refine (lam_fn S).imp fun vs H Q E ⟨W', us, ω, Hc, _, _, hW, hlen, sub, pl, rb, aft⟩ => ?_
  subst hW
  obtain ⟨v, rfl⟩ : ∃ v, vs = [v] := by
    match vs, hlen with
    | [v], _ => exact ⟨v, rfl⟩
  match us, rb with
  | [u], rb =>
    have rb : RB _ Hc H u v := rb.1
    cases u with
    | int i =>
      have ev : v = .int i := by
        rcases rb with r | ⟨_, _, _, z, _⟩
        · rw [RU] at r; exact r
        · cases z
      subst ev
      have hT : ∀ c, c ∈ cl.map (·.2) → ∃ u, (c, u) ∈ cs := fun c hc => by
        rw [hcs] at hc
        obtain ⟨⟨a, u⟩, h1, rfl⟩ := List.mem_map.mp hc
        exact ⟨u, h1⟩
      have hTm : ∀ c, c ∈ cl.map (·.2) → c ∈ cs.map (·.1) := fun c hc => by rw [← hcs]; exact hc
      obtain ⟨pw, ⟨pg, ⟨c', oc, uc, fs, tq, nc, e1, e2, e3, e4⟩, pcs⟩, pls⟩ := pl.pl
      have cel : ∀ c ∈ cl.map (·.2), ∃ (o : Obj) (u : Option Value), H c = some (isO c o) ∧ o.data = .cell u := fun c hc => let ⟨o, h⟩ := hT c hc; let ⟨u, d⟩ := hco _ h; ⟨o, u, pcs _ h, d⟩
      have hLL : ∀ b, b ∈ W.L → b ∈ (lamW2 W g (lamFd qual params body scope cl ct pm cd) cs ls).L := fun b hb => List.mem_cons_of_mem _ (List.mem_append_right _ (List.mem_append_right _ hb))
      have hLc : ∀ b, b ∈ cl.map (·.2) → b ∈ (lamW2 W g (lamFd qual params body scope cl ct pm cd) cs ls).L := fun b hb => List.mem_cons_of_mem _ (List.mem_append_left _ (hTm b hb))
      have nT : ∀ b, b ∈ W.L → b ∉ cl.map (·.2) := fun b hb hc => hcL b (hTm b hc) hb
      have ncT : c' ∉ cl.map (·.2) := fun hc => by obtain ⟨o, u, h, _⟩ := cel c' hc; rw [e2] at h; cases h
      have ngT : g ∉ cl.map (·.2) := fun hc => hgT (hTm g hc)
      have nlT : ∀ q ∈ ls, q.1 ∉ cl.map (·.2) := fun q hq hc => by obtain ⟨o, u, h, _⟩ := cel _ hc; rw [pls q hq] at h; cases h
      refine ⟨.int i, cap.map CapV.v, rfl, by rw [List.length_map]; exact hl, pg, ⟨c', oc, uc, fs, tq, e1, e2, e3, e4⟩, cel, fun j y z h1 h2 => ?_, fun A outer s hr => ?_⟩
      · rw [List.getElem?_map] at h2
        cases q : cap[j]? with
        | none => rw [q] at h2; cases h2
        | some n =>
          rw [q] at h2
          cases h2
          obtain ⟨c, o, u, k1, k2, k3, k4⟩ := hcap j y n h1 q
          exact ⟨c, o, u, k1, pcs _ k2, k3, k4⟩
      · obtain ⟨t, pt, dt⟩ := hb A outer s (untr (cl.map (·.2)) H) hr
        refine ⟨t, pt (), ?_⟩
        have SR : Sr W ⟨[], []⟩ (some (.int i) :: (cap.map CapV.u).map some) ω (some (.int i) :: (cap.map CapV.v).map some) (untr (cl.map (·.2)) H) (fun b => if b ∈ ls.map (·.1) then H b else none) (untr (cl.map (·.2)) H) (fun ψ => 0) := by
          refine ⟨fun b o e => ?_, fun b o ψ e => e, fun b hb => ?_, by simp, ⟨W.st ω H _ pw fun b o e z => ?_, fun b hb => ⟨if_neg (fun z => hlL b z hb), ?_⟩⟩, fun n u ψ ψ e => ?_, fun n u z => absurd z (by simp), fun n u z => absurd z (by simp), fun n ψ u ψ z => absurd z (by simp)⟩
          · by_cases hb : b ∈ ls.map (·.1)
            · rw [if_pos hb] at e
              obtain ⟨q, hq, rfl⟩ := List.mem_map.mp hb
              rw [untr_out (nlT q hq)]; exact e
            · rw [if_neg hb] at e; cases e
          · rw [untr_out (nT b hb)]; exact (pl.out b (hLL b hb)).2
          · rw [untr_out]; exact e
            intro hc
            rcases z with z | ⟨x, y, z⟩
            · exact nT b z hc
            · obtain ⟨o', u, h, _⟩ := cel b hc; rw [e, z] at h; cases h
          · rw [untr_out (nT b hb)]; exact (pl.out b (hLL b hb)).2
          · cases n with
            | zero =>
              have : U.int i = u := by simpa using e
              subst this
              exact ⟨.int i, by simp, by rw [RU]⟩
            | succ n =>
              have e' : ((cap.map CapV.u).map some)[n]? = some (some u) := by simpa using e
              rw [List.getElem?_map, List.getElem?_map] at e'
              cases q : cap[n]? with
              | none => rw [q] at e'; cases e'
              | some z =>
                rw [q] at e'
                cases e'
                refine ⟨z.v, by simp [q], ?_⟩
                cases z with
                | i j => show RU _ _ (.int j) (.int j); rw [RU]
                | l a ns =>
                  have ml := hls a ns (List.mem_of_getElem? q)
                  show RU _ _ (.lst (ns.map U.int)) (.ref a)
                  rw [RU]
                  refine ⟨a, ns.map V.int, rfl, ?_, RUs.ofInts⟩
                  show (if a ∈ ls.map (·.1) then H a else none) = _
                  rw [if_pos (List.mem_map.mpr ⟨_, ml, rfl⟩)]
                  exact pls _ ml
        refine dt _ _ ω _ _ _ _ SR _ ?_
        have aft2 : Aft (lamW2 W g (lamFd qual params body scope cl ct pm cd) cs ls) E Hc H (match fb (some (.int i) :: (cap.map CapV.u).map some) ω with
            | .ok (.bl b) ω' => .ok (.bl b) ω'
            | _ => .stk) (fun u ψ Hc' H' => ∀ v, RU (lamW2 W g (lamFd qual params body scope cl ct pm cd) cs ls) Hc' u v → Q v H') := aft
        clear aft
        revert aft2
        cases fb (some (.int i) :: (cap.map CapV.u).map some) ω with
        | stk => exact fun h => h
        | err c p ω' => exact fun h => h.elim
        | ok u ω' =>
          cases u with
          | bl b =>
            intro h Hc' H' ex pk v rv jn
            rw [RU] at rv
            have jn : ∀ c ∈ cl.map (·.2), H' c = none := jn
            have sm : ∀ b o, b ∉ (lamW2 W g (lamFd qual params body scope cl ct pm cd) cs ls).L → H b = some o → retr (cl.map (·.2)) H H' b = some o := fun b o nb e => by
              have n1 : b ∉ cl.map (·.2) := fun z => nb (hLc b z)
              rw [retr_out n1]
              exact ex.same b o (fun z => nb (hLL b z)) (by rw [untr_out n1]; exact e)
            have fz : ∀ b, H b ≠ none → retr (cl.map (·.2)) H H' b ≠ none := fun b e => by
              by_cases hc : b ∈ cl.map (·.2)
              · rw [retr_in hc]; exact e
              · rw [retr_out hc]; exact ex.frz b (by rw [untr_out hc]; exact e)
            refine h Hc (retr (cl.map (·.2)) H H') ⟨sm, fun ψ ψ e => e, fun b o e => ?_, fun b e1 e2 => e1, fz⟩ ⟨⟨W.st ω' H' _ pk.pl fun b o e ψ => ?_, ⟨?_, ⟨c', oc, uc, fs, tq, nc, e1, ?_, e3, e4⟩, fun p hp => ?_⟩, fun q hq => ?_⟩, fun b hb => ⟨(pl.out b hb).1, fz b (pl.out b hb).2⟩⟩ v (by rw [RU]; exact rv)
            · refine sm b o (fun z => ?_) (sub b o e)
              rw [(pl.out b z).1] at e; cases e
            · rw [retr_out]; exact e
              intro hc; rw [jn b hc] at e; cases e
            · rw [retr_out ngT]; exact ex.same g _ hg (by rw [untr_out ngT]; exact pg)
            · rw [retr_out ncT]; exact ex.same c' _ nc (by rw [untr_out ncT]; exact e2)
            · have : p.1 ∈ cl.map (·.2) := by rw [hcs]; exact List.mem_map.mpr ⟨p, hp, rfl⟩
              rw [retr_in this]; exact pcs p hp
            · rw [retr_out (nlT q hq)]; exact ex.same _ _ (hlL _ (List.mem_map.mpr ⟨q, hq, rfl⟩)) (by rw [untr_out (nlT q hq)]; exact pls q hq)
          | _ => exact fun h => h.elim
    | _ => exact aft.elim
end
noncomputable def asIs : List U → Option (List Int)
  | [] => some []
  | .int n :: us => (asIs us).map (n :: ·)
  | _ => none
theorem asIs_ints : ∀ (ns : List Int), asIs (ns.map U.int) = some ns
  | [] => rfl
  | n :: ns => by rw [List.map_cons, asIs, asIs_ints ns]; rfl
theorem asIs_eq : ∀ {us : List U} {ns : List Int}, asIs us = some ns → us = ns.map U.int
  | [], _, h => by cases h; rfl
  | u :: us, ns, h => by
    unfold asIs at h
    split at h
    · rename_i e; cases e
    · rename_i n us' e
      cases e
      cases q : asIs us with
      | none => rw [q] at h; cases h
      | some r => rw [q] at h; cases h; rw [asIs_eq q]; rfl
    · cases h
noncomputable def capU (ρ : En) : List Nat → Option (List U)
  | [] => some []
  | j :: js => match ρ[j]? with
    | some (some (.int i)) => (capU ρ js).map (.int i :: ·)
    | some (some (.lst us)) => (asIs us).bind fun ns => (capU ρ js).map (.lst (ns.map U.int) :: ·)
    | _ => none
theorem capV_of {W : Wd} {m : Md} {ρ : En} {ω : Om} {σ : St} {H0 Hc H : Hp} {ow : Nat → Addr} (S : Sr W m ρ ω σ H0 Hc H ow) : ∀ {js : List Nat} {cu : List U}, capU ρ js = some cu → ∃ cap : List CapV, cap.map CapV.u = cu ∧ cap.length = js.length ∧ ∀ (i j : Nat) (z : CapV), js[i]? = some j → cap[i]? = some z → σ[j]? = some (some z.v) ∧ ∀ a ns, z = .l a ns → a ∉ W.L ∧ H a = some (.lst (ns.map V.int))
  | [], _, h => by cases h; exact ⟨[], rfl, rfl, fun i j n e => by simp at e⟩
  | j :: js, cu, h => by
    unfold capU at h
    split at h
    · rename_i k e
      cases q : capU ρ js with
      | none => rw [q] at h; cases h
      | some r =>
        rw [q] at h
        cases h
        obtain ⟨cap, h1, h2, h3⟩ := capV_of S q
        obtain ⟨v, ev, rb⟩ := S.get e
        have evv : v = .int k := by
          rcases rb with r | ⟨_, _, _, z, _⟩
          · rw [RU] at r; exact r
          · cases z
        subst evv
        refine ⟨.i k :: cap, by simp [h1, CapV.u], by simp [h2], fun i j' z e1 e2 => ?_⟩
        cases i with
        | zero => simp at e1 e2; subst e1; subst e2; exact ⟨ev, fun a ns z => by cases z⟩
        | succ i => exact h3 i j' z (by simpa using e1) (by simpa using e2)
    · rename_i us e
      cases qa : asIs us with
      | none => rw [qa] at h; cases h
      | some ns =>
        rw [qa] at h
        have h : (capU ρ js).map (U.lst (ns.map U.int) :: ·) = some cu := h
        cases q : capU ρ js with
        | none => rw [q] at h; cases h
        | some r =>
          rw [q] at h
          cases h
          obtain ⟨cap, h1, h2, h3⟩ := capV_of S q
          obtain ⟨v, ev, rb⟩ := S.get e
          have eu := asIs_eq qa
          subst eu
          obtain ⟨a, e1, e2, e3⟩ : ∃ a, v = .ref a ∧ a ∉ W.L ∧ H a = some (.lst (ns.map V.int)) := by
            rcases rb with r | ⟨us, a, vs, z1, z2, z3, z4, z5⟩
            · rw [RU] at r
              obtain ⟨a, vs, e1, e2, e3⟩ := r
              refine ⟨a, e1, fun z => ?_, ?_⟩
              · rw [(S.pl.out a z).1] at e2; cases e2
              · rw [← e3.ints]; exact S.sub a _ e2
            · cases z1
              exact ⟨a, z2, z3, by rw [← z5.ints]; exact z4⟩
          subst e1
          refine ⟨.l a ns :: cap, by simp [h1, CapV.u], by simp [h2], fun i j' z d1 d2 => ?_⟩
          cases i with
          | zero => simp at d1 d2; subst d1; subst d2; exact ⟨ev, fun a' ns' z => by cases z; exact ⟨e2, e3⟩⟩
          | succ i => exact h3 i j' z (by simpa using d1) (by simpa using d2)
    · cases h
noncomputable def lsOf : List CapV → List (Addr × List Int)
  | [] => []
  | .i _ :: cs => lsOf cs
  | .l a ns :: cs => (a, ns) :: lsOf cs
theorem lsOf_in : ∀ {cap : List CapV} {a : Addr} {ns : List Int}, CapV.l a ns ∈ cap → (a, ns) ∈ lsOf cap
  | .i _ :: cs, a, ns, h => by
    rcases List.mem_cons.mp h with z | z
    · cases z
    · exact (show (a, ns) ∈ lsOf cs from lsOf_in z)
  | .l b ms :: cs, a, ns, h => by
    rcases List.mem_cons.mp h with z | z
    · cases z; simp [lsOf]
    · simp [lsOf, lsOf_in z]
theorem lsOf_out : ∀ {cap : List CapV} {q : Addr × List Int}, q ∈ lsOf cap → CapV.l q.1 q.2 ∈ cap
  | .i _ :: cs, q, h => List.mem_cons_of_mem _ (lsOf_out (by simpa [lsOf] using h))
  | .l b ms :: cs, q, h => by
    rcases List.mem_cons.mp (show q ∈ (b, ms) :: lsOf cs from h) with z | z
    · subst z; simp
    · exact List.mem_cons_of_mem _ (lsOf_out z)
noncomputable def eLeast2 (F : Ff → Ff) (fa fb fl : Ef) (js : List Nat) : Ef := fun ρ ω => (fa ρ ω).bnd fun ua ω1 => (fb ρ ω1).bnd fun ub ω2 => match ua, ub, capU ρ js with
  | .int i, .int j, some cu => onlyI (F (lamF2 fl cu) [.int i, .int j, .pile] ω2)
  | _, _, _ => .stk
section
variable {b1 b2 b3 : Bool} {X : Cx} {W : Wd} {m : Md} {E : XK} {a b body : Expr} {fa fb fl : Ef} {pos pp lpos : Pos} {x xl : Str} {scope : Scope} {cl : List (Str × Addr)} {caps : List Str} {js : List Nat} {params : Arguments} {c Pl f : Addr} {fdl : FuncData} {psl : List Str} {F : Ff → Ff}
theorem qe_least2 {k kl : Nat} (cx : Ctx (fun _ : Unit => X) W E)
    (C : ∀ p : Ff, FnOk X.prog X.w X.K X.mg X.base (CX1 X.prog X.w) kl f fdl psl (spU X.K X.mg (LamWk X.prog X.w X.K X.mg X.base (k + 1) p) 3 [b1, b2, b3] (F p)))
    (hmg : X.mg xl = some (.ref f)) (hkp : PySem.W.keepIn X.K (.ref f) = true) (hbi : Binds X.K fdl psl []) (hr : Room kl X.A)
    (ha : QE (fun _ : Unit => X) W m E a fa) (hb : QE (fun _ : Unit => X) W m E b fb)
    (hbody : ∀ (g : Addr) (cd : Value) (A : Around) (outer : List Env) (s : Shared) (H : Hp), Room k (A.deeper (envL (X.env.qual ++ "<lambda>") scope cl s.heap.objs.size g cd)) → QE (fun _ : Unit => cxLam X.prog X.w X.K X.mg X.base (x :: caps) (X.env.qual ++ "<lambda>") scope cl g cd A outer s H) W ⟨[], []⟩ E0 body fl)
    (S0 : (∀ y z c, cl.lookup y = some c → cl.lookup z = some c → y = z) → LamSc scope cl x caps) (hcl : closureFor scope X.env = pure cl) (hsub : ∀ p ∈ cl, X.env.cells.lookup p.1 = some p.2 ∧ X.fn p.1 = true) (hall : ∀ p ∈ cl, p.1 ∈ caps) (hnc : caps.Nodup)
    (hlk : ∀ y ∈ caps, ∃ c, cl.lookup y = some c)
    (hjs : js.length = caps.length) (hcap : ∀ (i j : Nat) (y : Str), caps[i]? = some y → js[i]? = some j → X.N[j]? = some y ∧ j ∉ m.M ∧ (X.env.kindOf y = some .cell ∨ X.env.kindOf y = some .free))
    (hbp : ∀ (ct pm cd : Value) (us : List Value), us.length = 1 → bindArgs (lamFd (X.env.qual ++ "<lambda>") params body scope cl ct pm cd) ⟨us, []⟩ = pure ([x].zip us))
    (hcd : X.env.code = .ref c) (ck : CodB X.base c Pl) (bk : BmB X.base X.mg) (tw : TabW W Pl lpos (X.env.qual ++ "<lambda>")) (hdf : defaultsOf params X.env = ([], [])) (hkw : params.kwonlyargs = [])
    (hg : Gl X xl := by rfl) (hdb : (xl == ("__debug__" : Str)) = false := by decide)
    (h1 : starEach [a, b, .Lambda params body scope lpos] X.env = (false, eval a X.env) :: starEach [b, .Lambda params body scope lpos] X.env := by rfl) (h2 : starEach [b, .Lambda params body scope lpos] X.env = (false, eval b X.env) :: starEach [.Lambda params body scope lpos] X.env := by rfl)
    (h3 : starEach [.Lambda params body scope lpos] X.env = (false, eval (.Lambda params body scope lpos) X.env) :: starEach [] X.env := by rfl) (hpl : (backTo pos (starEach [b, .Lambda params body scope lpos] X.env)).any (·.1) = false := by rfl) :
    QE (fun _ : Unit => X) W m E (.Call (.Name xl pp) [a, b, .Lambda params body scope lpos] [] pos) (eLeast2 F fa fb fl js) := by
  obtain ⟨ta, pa, da⟩ := ha
  obtain ⟨tb, pb, db⟩ := hb
  refine ⟨fun σ H Q => ∀ pins s, Inv X pins σ H s → wpAny (model X.prog X.w) X.A (eval (.Call (.Name xl pp) [a, b, .Lambda params body scope lpos] [] pos) X.env) (EP X pins σ Q) X.xe s, fun ψ pins s σ H Q I h => h pins s I, fun H0 ρ ω σ Hc H ow SR Q hA pins s I => ?_⟩
  have S := S0 fun y z c' h1 h2 => I.ok.inj y z c' (hsub _ (PySem.mem_of_lookup h1)).1 (hsub _ (PySem.mem_of_lookup h2)).1
  refine wpAny_Call_Name_kw (ld_glob I hg hmg ?_ hdb)
  have pl : PE X (.Lambda params body scope lpos) (fun σ H Q => ∀ pins s, Inv X pins σ H s → wpAny (model X.prog X.w) X.A (eval (.Lambda params body scope lpos) X.env) (EP X pins σ Q) X.xe s) := fun pins s σ H Q I h => h pins s I
  have pargs := pa_cons (pa ()) (pa_cons (pb ()) (pa_cons pl pa_nil h3) h2) h1
  refine PySem.W.callWith_K (h₀ := X.base) I.ok.mod.kin hkp (thn (pargs pos pins s σ H (fun vs H3 => ∀ pins s us, Inv X pins σ H3 s → Vals vs us → wpAny (model X.prog X.w) X.A (call (.ref f) us) (EP X pins σ Q) X.xe s) I ?_) fun us s3 ⟨vs, H3, I3, r, q⟩ => ⟨I3.kIn, q pins s3 us I3 r⟩) h1 hpl
  show ta σ H _
  refine da H0 ρ ω σ Hc H ow SR _ ((Aft.bnd hA).imp fun ua ω1 Hc1 H1 ex1 p1 hA1 va rua => ?_)
  refine db H0 ρ ω1 σ Hc1 H1 ow (SR.ext ex1 p1) _ ((Aft.bnd hA1).imp fun ub ω2 Hc2 H2 ex2 p2 hA2 vb rub => ?_)
  have SR2 := (SR.ext ex1 p1).ext ex2 p2
  cases ua with
  | int i =>
    cases ub with
    | int j =>
      cases hcu : capU ρ js with
      | none => rw [hcu] at hA2; exact hA2.elim
      | some cu =>
        rw [hcu] at hA2
        have eva : va = .int i := by rw [RU] at rua; exact rua
        have evb : vb = .int j := by rw [RU] at rub; exact rub
        subst eva; subst evb
        obtain ⟨cap, ecu, lcu, gcu⟩ := capV_of SR2 hcu
        subst ecu
        have lsH : ∀ q ∈ lsOf cap, q.1 ∉ W.L ∧ H2 q.1 = some (.lst (q.2.map V.int)) := fun q hq => by
          obtain ⟨n, hn, en⟩ := List.mem_iff_getElem.mp (lsOf_out hq)
          have hjn : n < js.length := by rw [← lcu]; exact hn
          exact (gcu n _ _ (List.getElem?_eq_getElem hjn) (List.getElem?_eq_getElem hn)).2 q.1 q.2 en
        intro pins' s' I'
        refine lam_eval I' hcd ck bk hcl hdf hkw (L := W.L) (fun b hb => (p2.out b hb).2) (tw.tab _ _ p2.pl) fun g H' s'' ct pm cc hgz hgn hgo hcc htab hmono I'' => ⟨.ref g, H', I'', rfl, ?_⟩
        intro pins s us I r
        obtain ⟨ocf, ucf, fcf, tcf, ncL, hcc, dcf, fcq⟩ := hcc
        have cellsH : ∀ p ∈ cl, ∃ o : Obj, s.heap.get? p.2 = some o ∧ ∃ (n : Nat) (k : CapV) (u : Value), caps[n]? = some p.1 ∧ cap[n]? = some k ∧ o.data = .cell (some u) ∧ RelV k.v u := fun p hp => by
          obtain ⟨n, hn, en⟩ := List.mem_iff_getElem.mp (hall p hp)
          have en' : caps[n]? = some p.1 := by rw [List.getElem?_eq_getElem hn, en]
          have hjn : n < js.length := by rw [hjs]; exact hn
          have hkn : n < cap.length := by rw [lcu]; exact hjn
          have ej : js[n]? = some js[n] := List.getElem?_eq_getElem hjn
          have ek : cap[n]? = some cap[n] := List.getElem?_eq_getElem hkn
          obtain ⟨hN, nM, hk⟩ := hcap n _ p.1 en' ej
          have ev := (gcu n _ _ ej ek).1
          obtain ⟨mm, _, hl⟩ := I.loc
          have vis : Vis X.env.scope p.1 := by
            rcases hk with h | h
            · exact .inr (.inl h)
            · exact .inr (.inr h)
          obtain ⟨u, ru, lk⟩ := hl _ p.1 _ hN ev vis
          rcases lk with ⟨z, _⟩ | ⟨_, c', e1, ⟨o, ho, hd⟩⟩
          · rcases hk with h | h <;> rw [h] at z <;> cases z
          · rw [(hsub p hp).1] at e1
            cases e1
            exact ⟨o, ho, n, _, u, en', ek, hd, ru⟩
        obtain ⟨cs, ecs, csA, csB⟩ := cells_of cellsH
        have csG : ∀ q ∈ cs, s.heap.get? q.1 = some q.2 := fun q hq => by obtain ⟨p, _, e, h, _⟩ := csB q hq; rw [e]; exact h
        have csN : ∀ b ∈ cs.map (·.1), H' b = none ∧ X.s₀.heap.objs.size ≤ b ∧ b ≠ X.env.locals := fun b hb => by
          obtain ⟨q, hq, rfl⟩ := List.mem_map.mp hb
          obtain ⟨p, hp, e, _⟩ := csB q hq
          rw [e]
          exact ⟨I.freeC p.1 p.2 (hsub p hp).1, I.ok.cab p.1 p.2 (hsub p hp).2 (hsub p hp).1, I.cne p.1 p.2 (hsub p hp).1⟩
        have inP : ∀ b o, (b, o) ∈ cs → plus cs H' b = some (isO b o) := fun b o h => plus_in csG h
        have ouP : ∀ b o, H' b = some o → b ∉ cs.map (·.1) := fun b o e hb => by rw [(csN b hb).1] at e; cases e
        have stP : ∀ b o, H' b = some o → plus cs H' b = some o := fun b o e => by rw [plus_out (ouP b o e)]; exact e
        have noP : ∀ b, b ∉ cs.map (·.1) → H' b = none → plus cs H' b = none := fun b h e => by rw [plus_out h]; exact e
        have inT : ∀ b ∈ cs.map (·.1), ∃ o, (b, o) ∈ cs := fun b hb => by obtain ⟨⟨q, o⟩, hq, rfl⟩ := List.mem_map.mp hb; exact ⟨o, hq⟩
        have gT : g ∉ cs.map (·.1) := ouP g _ hgo
        have ccT : cc ∉ cs.map (·.1) := ouP cc _ hcc
        have PlT : Pl ∉ cs.map (·.1) := by obtain ⟨ps, e, _⟩ := htab; exact ouP Pl _ e
        have LT : ∀ b ∈ W.L, b ∉ cs.map (·.1) := fun b hb => by
          by_cases z : b = Pl
          · subst z; exact PlT
          · cases q : H2 b with
            | none => exact absurd q (p2.out b hb).2
            | some o => exact ouP b o (hmono b o z q)
        have e0 : Env0 X.prog X.w X.K X.mg X.base X.A X.stack s (plus cs H') := by
          have e := I.env0
          refine ⟨e.frames, e.mod, fun b o h => ⟨(e.bs b o h).1, noP b (fun z => ?_) (e.bs b o h).2⟩, e.bsz, e.funs, fun b hb => noP b (fun z => ?_) (e.frf b hb), fun b u h => ?_, e.bare⟩
          · have := (csN b z).2.1
            exact absurd (Nat.lt_of_lt_of_le (Heap.lt_size (I.ok.bs b o h).1) this) (Nat.lt_irrefl _)
          · rcases List.mem_cons.mp (I.stkSub b hb) with h | h
            · exact (csN b z).2.2 h
            · obtain ⟨_, o, ho, _⟩ := I.ok.funs.mem h
              exact absurd (Nat.lt_of_lt_of_le (Heap.lt_size ho) (csN b z).2.1) (Nat.lt_irrefl _)
          · by_cases hb : b ∈ cs.map (·.1)
            · obtain ⟨o, ho⟩ := inT b hb
              rw [inP b o ho] at h; cases h
              have := csG _ ho
              exact ⟨this, ⟨_, this⟩, fun g1 g2 q hh => hh _ q⟩
            · rw [plus_out hb] at h
              exact (e.hok b u h).stay (fun ψ ψ ψ q => q) (fun c q => stP c _ q) fun c xs q => stP c _ q
        have plW : W.pl ω2 (plus cs H') := W.st ω2 H' _ (tw.put _ _ _ p2.pl htab hmono) fun b o e ψ => stP b o e
        have subP : Same (fun ψ => none) (plus cs H') := fun b o e => by cases e
        have lsP : ∀ q ∈ lsOf cap, plus cs H' q.1 = some (.lst (q.2.map V.int)) := fun q hq => stP _ _ (hmono _ _ (fun z => (lsH q hq).1 (z ▸ tw.mem)) (lsH q hq).2)
        have plP : PlOk (lamW2 W g (lamFd (X.env.qual ++ "<lambda>") params body scope cl ct pm (.ref cc)) cs (lsOf cap)) ω2 (fun ψ => none) (plus cs H') := by
          refine ⟨⟨plW, ⟨stP g _ hgo, ⟨cc, ocf, ucf, fcf, tcf, ncL, rfl, stP cc _ hcc, dcf, fcq⟩, fun p hp => inP p.1 p.2 hp⟩, lsP⟩, fun b hb => ⟨rfl, ?_⟩⟩
          rcases List.mem_cons.mp hb with z | z
          · subst z; rw [stP b _ hgo]; simp
          · rcases List.mem_append.mp z with z | z
            · obtain ⟨o, ho⟩ := inT b z
              rw [inP b o ho]; simp
            · rcases List.mem_append.mp z with z | z
              · obtain ⟨q, hq, rfl⟩ := List.mem_map.mp z
                rw [lsP q hq]; simp
              · by_cases zp : b = Pl
                · obtain ⟨ps, e, _⟩ := htab
                  rw [zp, stP Pl _ e]; simp
                · cases q : H2 b with
                  | none => exact absurd q (p2.out b z).2
                  | some o => rw [stP b o (hmono b o zp q)]; simp
        have hgL : g ∉ W.L := fun z => (p2.out g z).2 hgn
        have LW : LamWk X.prog X.w X.K X.mg X.base (k + 1) (lamF2 fl (cap.map CapV.u)) (lamW2 W g (lamFd (X.env.qual ++ "<lambda>") params body scope cl ct pm (.ref cc)) cs (lsOf cap)) := by
          refine ⟨_, x, lam_ok2 S (cx.hK ()).symm (cx.hm ()).symm (fun A outer s H hr => hbody g _ A outer s H hr) (by rw [lcu, hjs]) ecs (fun n y k hy hk => ?_) (fun q hq => ?_) (fun a ns h => lsOf_in h) (fun a ha => by obtain ⟨q, hq, rfl⟩ := List.mem_map.mp ha; exact (lsH q hq).1) hgL gT (fun c hc hL => LT c hL hc), Binds.all (hbp ct pm (.ref cc)), fun ω H ⟨_, ⟨e, _⟩, _⟩ => e⟩
          · obtain ⟨c', hc'⟩ := hlk y (List.mem_of_getElem? hy)
            have hm' := PySem.mem_of_lookup hc'
            obtain ⟨o, ho, _, n', k', u, e1, e2, e3, e4⟩ := csA _ hm'
            have en : n' = n := by
              have l1 : n' < caps.length := (List.getElem?_eq_some_iff.mp e1).1
              have l2 : n < caps.length := (List.getElem?_eq_some_iff.mp hy).1
              have g1 : caps[n'] = y := (List.getElem?_eq_some_iff.mp e1).2
              have g2 : caps[n] = y := (List.getElem?_eq_some_iff.mp hy).2
              exact (List.getElem_inj hnc).mp (g1.trans g2.symm)
            subst en
            rw [hk] at e2; cases e2
            exact ⟨c', o, u, hc', ho, e3, e4⟩
          · obtain ⟨p, _, _, _, _, _, u, _, _, e3, _⟩ := csB q hq
            exact ⟨_, e3⟩
        have hl : us.length = psl.length := by
          rw [← r.length]
          exact (C (lamF2 fl (cap.map CapV.u))).len [.int i, .int j, .ref g] (plus cs H') (fun ψ ψ => True) (fun ψ ψ ψ => True) ⟨lamW2 W g (lamFd (X.env.qual ++ "<lambda>") params body scope cl ct pm (.ref cc)) cs (lsOf cap), [.int i, .int j, .pile], ω2, (fun ψ => none), (cx.hK ()).symm, (cx.hm ()).symm, LW, rfl, subP, plP, ⟨rb_of b1 (by rw [RU]), rb_of b2 (by rw [RU]), rb_of b3 (by rw [RU]; rfl), trivial⟩, by
            have hA3 : Aft W E Hc2 H2 (onlyI (F (lamF2 fl (cap.map CapV.u)) [.int i, .int j, .pile] ω2)) _ := hA2
            revert hA3
            cases F (lamF2 fl (cap.map CapV.u)) [.int i, .int j, .pile] ω2 with
            | ok u ω3 => exact fun ψ ψ ψ ψ ψ ψ ψ => trivial
            | err c p ω3 => exact fun ψ ψ ψ ψ ψ ψ ψ ψ ψ => trivial
            | stk => exact fun h => h.elim⟩
        refine wpAny_call (codeAny_mono ((C (lamF2 fl (cap.map CapV.u))).run X.A X.stack s (plus cs H') ⟨us, []⟩ us [.int i, .int j, .ref g] (fun v H3 => (∀ b o, (b, o) ∈ cs → H3 b = some (isO b o)) ∧ Q v (untr (cs.map (·.1)) H3)) (fun ψ ψ ψ => False) hr e0 ?_ r
          ⟨lamW2 W g (lamFd (X.env.qual ++ "<lambda>") params body scope cl ct pm (.ref cc)) cs (lsOf cap), [.int i, .int j, .pile], ω2, (fun ψ => none), (cx.hK ()).symm, (cx.hm ()).symm, LW, rfl, subP, plP, ⟨rb_of b1 (by rw [RU]), rb_of b2 (by rw [RU]), rb_of b3 (by rw [RU]; rfl), trivial⟩, ?_⟩) fun rr s4 hq => ?_)
        · have := hbi s us I.kIn (by simpa using hl)
          rwa [List.append_nil] at this
        · revert hA2
          show Aft W E Hc2 H2 (onlyI (F (lamF2 fl (cap.map CapV.u)) [.int i, .int j, .pile] ω2)) _ → _
          cases F (lamF2 fl (cap.map CapV.u)) [.int i, .int j, .pile] ω2 with
          | stk => exact fun h => h.elim
          | err c p ω3 => exact fun h => h.elim
          | ok u ω3 =>
            cases u with
            | int n =>
              intro h Hc3 H3 e3 p3 v rv
              obtain ⟨q1, ⟨q2, q3, q4⟩, q5⟩ := p3.pl
              refine ⟨fun b o hb => q4 _ hb, ?_⟩
              have pb : ∀ b o, b ∉ W.L → H2 b = some o → plus cs H' b = some o ∧ b ∉ cs.map (·.1) ∧ b ≠ g := fun b o nb e => by
                have e' := hmono b o (fun z => nb (z ▸ tw.mem)) e
                exact ⟨stP b o e', ouP b o e', fun z => by rw [z, hgn] at e; cases e⟩
              have pn : ∀ b, H2 b ≠ none → plus cs H' b ≠ none ∧ b ∉ cs.map (·.1) := fun b e => by
                by_cases zp : b = Pl
                · obtain ⟨ps, e, _⟩ := htab
                  rw [zp]; exact ⟨by rw [stP Pl _ e]; simp, PlT⟩
                · cases q : H2 b with
                  | none => exact absurd q e
                  | some o => have e' := hmono b o zp q; exact ⟨by rw [stP b o e']; simp, ouP b o e'⟩
              have sm : ∀ b o, b ∉ W.L → H2 b = some o → untr (cs.map (·.1)) H3 b = some o := fun b o nb e => by
                obtain ⟨k1, k2, k3⟩ := pb b o nb e
                rw [untr_out k2]
                by_cases hb : b ∈ (lsOf cap).map (·.1)
                · obtain ⟨q, hq, rfl⟩ := List.mem_map.mp hb
                  rw [q5 q hq, ← (lsH q hq).2]; exact e
                · refine e3.same b o (fun z => ?_) k1
                  rcases List.mem_cons.mp z with z | z
                  · exact k3 z
                  · rcases List.mem_append.mp z with z | z
                    · exact k2 z
                    · rcases List.mem_append.mp z with z | z
                      · exact hb z
                      · exact nb z
              refine h Hc2 (untr (cs.map (·.1)) H3) ⟨sm, fun ψ ψ e => e, fun b o e => sm b o (fun z => ?_) (ex2.sub b o e), fun b z1 z2 => z1, fun b z => ?_⟩ ⟨W.st ω3 H3 _ q1 fun b o e z => ?_, fun b hb => ⟨(p2.out b hb).1, ?_⟩⟩ v (by rw [RU] at rv ⊢; exact rv)
              · rw [(p2.out b z).1] at e; cases e
              · rw [untr_out (pn b z).2]; exact e3.frz b (pn b z).1
              · rw [untr_out]; exact e
                intro hb
                rcases z with z | ⟨y1, y2, z⟩
                · exact LT b z hb
                · obtain ⟨o', ho'⟩ := inT b hb
                  have := q4 _ ho'
                  dsimp only at this
                  rw [e, z] at this; cases this
              · rw [untr_out (LT b hb)]; exact (p3.out b (List.mem_cons_of_mem _ (List.mem_append_right _ (List.mem_append_right _ hb)))).2
            | _ => exact fun h => h.elim
        · cases rr with
          | error e =>
            obtain ⟨_, _, _, _, _, _, _, _, _, _, z⟩ := hq
            exact z.elim
          | ok fl' =>
            cases fl' with
            | next => exact False.elim hq
            | brk => exact False.elim hq
            | cont => exact False.elim hq
            | ret u =>
              obtain ⟨v, H3, os, bare, un, hok, rv, hcs, hQ⟩ := hq
              refine I.after ⟨v, untr (cs.map (·.1)) H3, os, bare, ⟨fun b o e n nf nx => ?_, fun b o e n nf nx => ?_, fun b o e n nx => ?_, un.there, fun b xs e => ?_, fun b o u e => ?_, fun b ps e => ?_⟩, hok.untr fun b hb => ?_, rv, hQ⟩
              · by_cases hb : b ∈ cs.map (·.1)
                · obtain ⟨o', ho'⟩ := inT b hb
                  have g1 := csG _ ho'
                  dsimp only at g1
                  rw [e] at g1; cases g1
                  exact (hok b _ (hcs b o ho')).1
                · exact un.keep b o e (noP b hb n) nf nx
              · refine un.slot b o e (noP b (fun hb => ?_) n) nf nx
                have := e0.frf b nf
                obtain ⟨o', ho'⟩ := inT b hb
                rw [inP b o' ho'] at this; cases this
              · by_cases hb : b ∈ cs.map (·.1)
                · exact untr_in hb
                · rw [untr_out hb]; exact un.free b o e (noP b hb n) nx
              · rw [untr_out (ouP b _ e)]; exact un.tups b xs (stP b _ e)
              · rw [untr_out (ouP b _ e)]; exact un.frzs b o u (stP b _ e)
              · rw [untr_out (ouP b _ e)]; exact un.tbls b ps (stP b _ e)
              · obtain ⟨o, ho⟩ := inT b hb
                exact ⟨_, hcs b o ho⟩
    | _ => exact hA2.elim
  | _ => exact hA2.elim
end
section
variable {b1 b2 b3 : Bool} {P : Program} {w : World} {K : PySem.W.Frag} {mg : L2.SV} {base : Heap} {W : Wd} {m : Md} {E : XK} {a b body : Expr} {fa fb fl : Ef} {pos pp lpos : Pos} {x xl qual : Str} {scope sc0 : Scope} {cl : List (Str × Addr)} {caps N : List Str} {js : List Nat} {params : Arguments} {c Pl f f0 : Addr} {fdl : FuncData} {psl : List Str} {F : Ff → Ff} {A : Around} {outer : List Env} {s : Shared} {H : Hp}
theorem qe_lam2 {k kl : Nat} (cx : Ctx (defX P w K mg base N qual sc0 f0 (.ref c) A outer s H E) W E)
    (C : ∀ p : Ff, Fn P w K mg base (CX1 P w) kl xl f fdl psl (spU K mg (LamWk P w K mg base (k + 1) p) 3 [b1, b2, b3] (F p))) (hr : Room kl (cxOf (CX1 P w) P w K mg base N qual sc0 f0 (.ref c) A outer s H E).A)
    (ha : QE (defX P w K mg base N qual sc0 f0 (.ref c) A outer s H E) W m E a fa) (hb : QE (defX P w K mg base N qual sc0 f0 (.ref c) A outer s H E) W m E b fb)
    (hbody : ∀ (g : Addr) (cd : Value) (A' : Around) (outer' : List Env) (s' : Shared) (H' : Hp), Room k (A'.deeper (envL (qual ++ ".<locals>." ++ "<lambda>") scope cl s'.heap.objs.size g cd)) → QE (lamX P w K mg base (x :: caps) (qual ++ ".<locals>." ++ "<lambda>") scope cl g cd A' outer' s' H') W ⟨[], []⟩ E0 body fl)
    (clos : closureFor scope (envOfC qual sc0 s.heap.objs.size f0 (.ref c)) = pure cl) (h1 : (scope.names.all fun y => y.2 != .cell) = true) (h2 : scope.kind = .function) (h3 : scope.isCoroutine = false) (h4 : scope.isGenerator = false) (h5 : scope.names.lookup x = some .local)
    (h6 : (scope.names.all fun y => y.2 != .free || (cl.lookup y.1).isSome) = true) (d : ClOf (envOfC qual sc0 s.heap.objs.size f0 (.ref c)).cells cl) (cap : Caps (cxOf (CX1 P w) P w K mg base N qual sc0 f0 (.ref c) A outer s H E) scope cl js caps)
    (h7 : (cl.all fun p => caps.contains p.1) = true) (h8 : caps.Nodup) (h9 : (js.all fun j => !m.M.contains j) = true)
    (hbp : ∀ (ct pm cd : Value) (us : List Value), us.length = 1 → bindArgs (lamFd (qual ++ ".<locals>." ++ "<lambda>") params body scope cl ct pm cd) ⟨us, []⟩ = pure ([x].zip us))
    (ck : CodB base c Pl) (bk : BmB base mg) (tw : TabW W Pl lpos (qual ++ ".<locals>." ++ "<lambda>")) (hdf : defaultsOf params (envOfC qual sc0 s.heap.objs.size f0 (.ref c)) = ([], [])) (hkw : params.kwonlyargs = [])
    (hg : Gl (cxOf (CX1 P w) P w K mg base N qual sc0 f0 (.ref c) A outer s H E) xl := by rfl) (hdb : (xl == ("__debug__" : Str)) = false := by decide)
    (s1 : starEach [a, b, .Lambda params body scope lpos] (envOfC qual sc0 s.heap.objs.size f0 (.ref c)) = (false, eval a (envOfC qual sc0 s.heap.objs.size f0 (.ref c))) :: starEach [b, .Lambda params body scope lpos] (envOfC qual sc0 s.heap.objs.size f0 (.ref c)) := by rfl) (s2 : starEach [b, .Lambda params body scope lpos] (envOfC qual sc0 s.heap.objs.size f0 (.ref c)) = (false, eval b (envOfC qual sc0 s.heap.objs.size f0 (.ref c))) :: starEach [.Lambda params body scope lpos] (envOfC qual sc0 s.heap.objs.size f0 (.ref c)) := by rfl)
    (s3 : starEach [.Lambda params body scope lpos] (envOfC qual sc0 s.heap.objs.size f0 (.ref c)) = (false, eval (.Lambda params body scope lpos) (envOfC qual sc0 s.heap.objs.size f0 (.ref c))) :: starEach [] (envOfC qual sc0 s.heap.objs.size f0 (.ref c)) := by rfl) (hpl : (backTo pos (starEach [b, .Lambda params body scope lpos] (envOfC qual sc0 s.heap.objs.size f0 (.ref c)))).any (·.1) = false := by rfl) :
    QE (defX P w K mg base N qual sc0 f0 (.ref c) A outer s H E) W m E (.Call (.Name xl pp) [a, b, .Lambda params body scope lpos] [] pos) (eLeast2 F fa fb fl js) := by
  have nocell : ∀ y ∈ scope.names, y.2 ≠ .cell := fun y hy => by have z := List.all_eq_true.mp h1 y hy; simpa using z
  have fre : ∀ y, scope.names.lookup y = some .free → ∃ c, cl.lookup y = some c := fun y hy => by
    have z := List.all_eq_true.mp h6 _ (PySem.mem_of_lookup hy)
    exact Option.isSome_iff_exists.mp (by simpa using z)
  have capF : ∀ y ∈ caps, scope.names.lookup y = some .free := fun y hy => by
    rcases cap.sc hy with e | e
    · exact absurd rfl (nocell _ (PySem.mem_of_lookup e))
    · exact e
  have C' := C (fun ψ ψ => .stk)
  exact qe_least2 (X := cxOf (CX1 P w) P w K mg base N qual sc0 f0 (.ref c) A outer s H E) (k := k) (kl := kl) (x := x) (caps := caps) (cl := cl) cx (fun p => (C p).F) C'.hm C'.kp C'.hb hr ha hb hbody (fun inj => ⟨nocell, h2, h3, h4, h5, fre, capF, inj⟩) clos (fun p hp => ⟨d.mem p hp, rfl⟩)
    (fun p hp => by have z := List.all_eq_true.mp h7 p hp; simpa using z) h8 (fun y hy => fre y (capF y hy)) cap.len (fun i j y e1 e2 => ⟨(cap.at_ e1 e2).1, by have z := List.all_eq_true.mp h9 j (List.mem_of_getElem? e2); simpa using z, (cap.at_ e1 e2).2⟩) hbp rfl ck bk tw hdf hkw hg hdb s1 s2 s3 hpl
end
section
variable {ι : Type} {X : L2.FC ι} {W : Wd} {m : Md} {E : XK} {a b : Expr} {fa fb : Ef} {pos : Pos}
end
theorem turn_long {P : Program} {w : World} {K : PySem.W.Frag} {tg : Expr} (it : Addr) (lo : Int) (n : Nat) : Turn P w K tg (Itr lo n) [it] it (fun i h => IsLongIter h it (lo + (i : Nat) * 1) ((n : Int) - (i : Nat)) 1) where
  mem := by simp
  obj := fun i h st b hb => by
    have e : b = it := by simpa using hb
    subst e
    exact ⟨_, st, fun v z => by
      have z' : Data.fields _ = Data.cell v := z
      cases z'⟩
  keep := fun i h h' st k => k it (by simp) _ st
  item := by
    intro X hP hw hK hc i pins s σ H E I hf st hg
    subst hP hw hK
    obtain ⟨f0, f1, f2, f3, f4, f5⟩ := hf it (by simp)
    have W := Walks.longrange (prog := X.prog) (w := X.w) (I.ok.hd hc) it lo 1 n
    refine W.item i s _ _ hg st fun v h' tk hv st' kk => ?_
    obtain ⟨t, rfl⟩ := hv
    have I1 : Inv X pins σ H { s with heap := h', toks := tk } := I.turned (fun b o hb e => kk b o (by simpa using hb) e) f0 f1 f3 f4 f5
    refine ⟨_, rfl, go_of (s := { s with heap := h', toks := tk }) (n := "longrange_iterator") st' rfl rfl (by decide) ⟨.int (lo + i), H, I1, ⟨t, ?_⟩, ⟨rfl, rfl⟩, st', fun b hb => (hf b hb).1⟩⟩
    rw [Int.mul_one]
  done := by
    intro X hP hw hK hc i pins s σ H E I hf st hg
    subst hP hw hK
    obtain ⟨f0, f1, f2, f3, f4, f5⟩ := hf it (by simp)
    exact wpAny_pyNext_long_end (I.ok.hd hc) st (by have : n ≤ i := hg; omega) fun h' eb => ⟨rfl, I.turned (t' := s.toks) (fun b o hb e => eb b o hb e) f0 f1 f3 f4 f5⟩
  self := fun ψ ψ ψ ψ ψ st h => wpAny_pyIter_longiter st h
section
variable {X : Cx} {tg : Expr}
theorem range_itG {pins : List (Addr × Obj)} {σ : St} {H : Hp} {s : Shared} {R : It → Hp → Prop} {E : L2.VSP} {lo hi : Int} {t u v : Tok} {tk : Nat} (I : Inv X pins σ H s)
    (q : R (Itr lo (hi - lo).toNat) H) : wpAny (model X.prog X.w) X.A (pyIter (.ref s.heap.objs.size)) (PIE X pins σ tg R) E { s with heap := s.heap.push { cls := .type "range", data := .fields #[.int lo t, .int hi u, .int 1 v] }, toks := tk } := by
  have I1 : Inv X pins σ H { s with heap := s.heap.push { cls := .type "range", data := .fields #[.int lo t, .int hi u, .int 1 v] }, toks := tk } := I.kept fun b o e => Heap.get?_push_of_some _ e
  have e1 : lo + ((0 : Nat) : Int) * 1 = lo := by simp
  have e2 : (((hi - lo).toNat : Nat) : Int) - ((0 : Nat) : Int) = Builtin.Range.rangeSize lo hi 1 := by rw [rangeSize_one]; split <;> omega
  have fp : ∀ b, b ∈ [(s.heap.push { cls := .type "range", data := .fields #[.int lo t, .int hi u, .int 1 v] }).objs.size] → _ := fun b hb => by
    have e : b = (s.heap.push { cls := .type "range", data := .fields #[.int lo t, .int hi u, .int 1 v] }).objs.size := by simpa using hb
    subst e
    exact I1.fpOk (Nat.le_refl _) (I1.hok.fresh (Nat.le_refl _))
  cases hs : Builtin.Range.small lo hi 1 with
  | true =>
    refine wpAny_pyIter_range (IsRange.new ..) hs ?_
    refine ⟨(s.heap.push { cls := .type "range", data := .fields #[.int lo t, .int hi u, .int 1 v] }).objs.size, [(s.heap.push { cls := .type "range", data := .fields #[.int lo t, .int hi u, .int 1 v] }).objs.size], _, _, H, rfl,
      I1.kept (t' := tk) fun b o e => Heap.get?_push_of_some _ e, turn_range _ lo (hi - lo).toNat, ?_, fp, q⟩
    show IsRangeIter _ _ (lo + ((0 : Nat) : Int) * 1) ((((hi - lo).toNat : Nat) : Int) - ((0 : Nat) : Int)) 1
    rw [e1, e2]
    exact Heap.get?_push_size _ rfl
  | false =>
    refine wpAny_pyIter_longrange (IsRange.new ..) hs ?_
    refine ⟨(s.heap.push { cls := .type "range", data := .fields #[.int lo t, .int hi u, .int 1 v] }).objs.size, [(s.heap.push { cls := .type "range", data := .fields #[.int lo t, .int hi u, .int 1 v] }).objs.size], _, _, H, rfl,
      I1.kept (t' := tk) fun b o e => Heap.get?_push_of_some _ e, turn_long _ lo (hi - lo).toNat, ?_, fp, q⟩
    show IsLongIter _ _ (lo + ((0 : Nat) : Int) * 1) ((((hi - lo).toNat : Nat) : Int) - ((0 : Nat) : Int)) 1
    rw [e1, e2]
    exact Heap.get?_push_size _ rfl
noncomputable def iRngG (ta : TA) : TI := fun σ H R => ta σ H fun vs H1 => ∃ i j : Int, vs = [.int i, .int j] ∧ R (Itr i (j - i).toNat) H1
theorem pi_rangeG {a b : Expr} {ta : TA} {p pos : Pos} (hg : Gl X "range") (hm : X.mg "range" = none) (ha : PA X [a, b] ta) (hs : starEach [a, b] X.env = [(false, eval a X.env), (false, eval b X.env)] := by rfl) (hs2 : starEach [b] X.env = [(false, eval b X.env)] := by rfl) :
    PI X tg (.Call (.Name "range" p) [a, b] [] pos) (iRngG ta) := by
  intro pins s σ H R I h
  refine Call_ (ld_blt I hg hm boot_range (PyProof.Rows.callWith_type1 (thn (ha pos pins s σ H _ I h) fun us s1 ⟨vs, H1, I1, r1, q1⟩ => ?_) (by rw [hs, hs2]) (by rw [hs2]; rfl)))
  obtain ⟨i, j, e, q⟩ := q1
  subst e
  cases r1 with
  | cons r rr =>
    cases rr with
    | cons r' rr =>
      cases rr
      obtain ⟨t, rfl⟩ := r
      obtain ⟨t', rfl⟩ := r'
      exact call_range_2 (range_itG I1 q)
end
noncomputable def uRG : List U → Option (List U)
  | [.int i, .int j] => some (rngU i (j - i).toNat)
  | _ => none
theorem uRG_s {i j : Int} : uRG [.int i, .int j] = some (rngU i (j - i).toNat) := rfl
section
variable {ι : Type} {X : L2.FC ι} {W : Wd} {m : Md} {E : XK} {a b : Expr} {tr : TA} {fr : Af} {p pos : Pos} {c : Bool}
theorem di_rG (hr : DA W m E [true, true] tr fr) : DI W m E c (iRngG tr) (iArgs uRG fr) := by
  intro H0 ρ ω σ Hc H ow S R h
  refine hr H0 ρ ω σ Hc H ow S _ ((Aft.bnd h).imp fun us ω1 Hc1 H1 e1 p1 h1 vs rs => ?_)
  revert h1
  cases hg : uRG us with
  | none => exact fun h1 => h1.elim
  | some ws =>
    intro h1
    unfold uRG at hg
    split at hg
    · cases hg
      rename_i i j
      obtain ⟨v, v', rfl, rv, rv'⟩ := rs.two
      have := rv.int; subst this
      have := rv'.int; subst this
      exact ⟨i, j, rfl, h1 Hc1 H1 (Ext.refl e1.sub) p1 _ itr_r⟩
    · cases hg
theorem qi_rG {tg : Expr} (cx : Ctx X W E) (B : Bl W.mg) (ha : QA X W m E [true, true] [a, b] fr) (hg : ∀ y, Gl (X y) "range" := by intro ψ; rfl) (hs : ∀ y, starEach [a, b] (X y).env = [(false, eval a (X y).env), (false, eval b (X y).env)] := by intro ψ; rfl) (hs2 : ∀ y, starEach [b] (X y).env = [(false, eval b (X y).env)] := by intro ψ; rfl) :
    QI X W m E c tg (.Call (.Name "range" p) [a, b] [] pos) (iArgs uRG fr) := let ⟨_, pa, da⟩ := ha; ⟨_, fun y => pi_rangeG (hg y) ((congrFun (cx.hm y) _).trans B.range) (pa y) (hs y) (hs2 y), di_rG da⟩
end
noncomputable def wdPT (K : PySem.W.Frag) (mg : L2.SV) (pa : Addr) (L : List Addr) (tb : List (Addr × Pos × Str)) : Wd where
  K := K
  mg := mg
  pa := pa
  L := L ++ tbA tb
  pl := fun ω H => (wdP K mg pa L).pl ω H ∧ ∀ t ∈ tb, TabO (L ++ tbA tb) t.1 t.2.1 t.2.2 H
  st := fun ω H H' ⟨a, b⟩ k => ⟨(wdP K mg pa L).st ω H H' a fun c o e z => k c o e (z.imp (fun z => List.mem_append_left _ z) id), fun t ht => (b t ht).st fun c o e z => k c o e (z.imp (fun z => by rw [z]; exact List.mem_append_right _ (tbA_mem ht)) fun z => z.2)⟩
theorem wdPT_ok {K : PySem.W.Frag} {mg : L2.SV} {pa : Addr} {L : List Addr} {tb : List (Addr × Pos × Str)} (h : pa ∈ L) : PlW (wdPT K mg pa L tb) := by
  have o := wdP_ok (K := K) (mg := mg) h
  refine ⟨List.mem_append_left _ h, fun ω H p => o.out ω H p.1, fun ω H sc rs p e => ⟨o.inn ω H sc rs p.1 e, fun t ht => ?_⟩⟩
  have e : H pa = some (.lst (.ref sc :: ω.rs.map V.int)) := e
  obtain ⟨ps, e1, _⟩ := p.2 t ht
  refine (p.2 t ht).st fun b o eb z => ?_
  have ne : b ≠ pa := fun w => by
    rcases z with z | ⟨_, x, y, z⟩
    · rw [← z, w, e] at e1; cases e1
    · rw [w, e, z] at eb; cases eb
  show upd H pa _ b = _
  rw [upd_ne ne]; exact eb
theorem wdPT_tab {K : PySem.W.Frag} {mg : L2.SV} {pa : Addr} {L : List Addr} {tb : List (Addr × Pos × Str)} (nd : (tbA tb).Nodup) (dj : ∀ b ∈ L, b ∉ tbA tb) {t : Addr × Pos × Str} (ht : t ∈ tb) : TabW (wdPT K mg pa L tb) t.1 t.2.1 t.2.2 := by
  have mm : t.1 ∈ tbA tb := tbA_mem ht
  refine ⟨List.mem_append_right _ mm, fun ω H h => h.2 t ht, fun ω H H' h h' k => ⟨(wdP K mg pa L).st ω H H' h.1 fun b o e z => k b o (fun w => ?_) e, fun t' ht' => ?_⟩⟩
  · rcases z with z | ⟨x, y, z⟩
    · exact dj b z (w ▸ mm)
    · obtain ⟨ps, e1, _⟩ := h.2 t ht
      rw [← w, e, z] at e1; cases e1
  · by_cases e : t'.1 = t.1
    · have et : t' = t := by
        obtain ⟨i, hi, ei⟩ := List.mem_iff_getElem.mp ht'
        obtain ⟨j, hj, ej⟩ := List.mem_iff_getElem.mp ht
        have := (List.getElem_inj (i := i) (j := j) (h₀ := by unfold tbA; simpa using hi) (h₁ := by unfold tbA; simpa using hj) nd).mp (by simp [tbA, ei, ej, e])
        subst this
        rw [← ei, ← ej]
      rw [et]; exact h'
    · refine (h.2 t' ht').st fun b o eb z => k b o ?_ eb
      rcases z with z | ⟨z, _⟩
      · rw [z]; exact e
      · exact fun w => z (w ▸ List.mem_append_right _ mm)
section
variable {P : Program} {w : World} {K : PySem.W.Frag} {mg : L2.SV} {base : Heap}
theorem Fun.okPT {ts : List (Addr × Addr)} {tb : List (Addr × Pos × Str)} {x qual : Str} {st s1 : Stmt} {rest : List Stmt} {f : Addr} {fd : FuncData} {N : List Str} {sn : Str} {k : Nat} {m : Md} {g : Sf} {Fp : Ff} {cells : List Int} (F : Fun K x qual st f fd) (S : FnScope N [sn] (defScope st)) (hb : defBody st = s1 :: rest) (hN : 2 ≤ N.length) (h1M : 1 ∉ m.M) (ht : tbA tb = ts.map (·.2)) (nd : (tbA tb).Nodup)
    (hpr : ∀ (cdv : Value) (A : Around) (outer : List Env) (s : Shared) (H : Hp) (E : XK), Room k (A.deeper (envOfC qual (defScope st) s.heap.objs.size f cdv)) → A.handled = none →
      QS (defX P w K mg base N qual (defScope st) f cdv A outer s H E) (wd0 K mg) ⟨[], []⟩ E s1 (sSet 1 (eCall Fp (aCons (eVar 0) aNil))))
    (hbody : ∀ (cdv : Value) (A : Around) (outer : List Env) (s : Shared) (H : Hp) (E : XK) (W : Wd), W.K = K → W.mg = mg → PlW W → (∀ t ∈ tb, TabW W t.1 t.2.1 t.2.2) → Room k (A.deeper (envOfC qual (defScope st) s.heap.objs.size f cdv)) → A.handled = none →
      QK (defX P w K mg base N qual (defScope st) f cdv A outer s H E) W m E rest g)
    (hFp : ∀ ns ω, Fp [.scr ns] ω = .ok (.lst (.scr ns :: cells.map U.int)) ω)
    (hlaw : ∀ ns : List Int, ns.length ≤ 63 → ∃ ω', endF (g (none :: some .pile :: List.replicate (N.length - 2) none) ⟨ns, cells⟩) = .ok (.bl true) ω') :
    FnOk P w K mg base (CX1 P w) (k + 1) f fd [sn] (spT ts (spLaw K)) := by
  refine F.okX S (fun vs H Q E h => ?_) fun cdv A outer s H vs Q E hr hA hsp => ?_
  · obtain ⟨⟨sc, ns, rfl, _⟩, _⟩ := h
    rfl
  · obtain ⟨⟨sc, ns, rfl, hs, hl, kq⟩, hT⟩ := hsp
    have inT : ∀ b ∈ tbA tb, H b = some (.tbl #[]) := fun b hb => by
      rw [ht] at hb
      obtain ⟨t, h1, rfl⟩ := List.mem_map.mp hb
      exact hT t h1
    obtain ⟨t1, p1, d1⟩ := hpr cdv A outer s H E hr hA
    have rs0 : RBs (wd0 K mg) H H [false] [.scr ns] [.ref sc] := ⟨by rw [RU]; exact ⟨sc, rfl, hs⟩, trivial⟩
    have S0 := Sr.start (m := ⟨[], []⟩) (N := N) (ω := ⟨[], []⟩) (fun ψ ψ h => h : Same H H) ⟨trivial, fun b hb => absurd hb (by simp [wd0])⟩ rs0 (fun i h => by
      match i, h with
      | 0, h => cases h
      | i + 1, h => simp at h) (fun i h => by simp at h) (by simp; lia)
    refine ⟨tSeq t1 (fun D σ H' => ∃ t, PSs (cxOf (CX1 P w) P w K mg base N qual (defScope st) f cdv A outer s H E) rest t ∧ t D σ H'), ?_, ?_⟩
    · rw [hb]
      exact pss_cons (p1 ()) fun pins s σ H D I ⟨t, p, h⟩ => p pins s σ H D I h
    · refine d1 H H _ ⟨[], []⟩ _ H H _ S0 (Ext.refl fun ψ ψ h => h) _ ?_
      have e0 : sSet 1 (eCall Fp (aCons (eVar 0) aNil)) ([U.scr ns].map some ++ List.replicate (N.length - [U.scr ns].length) none) ⟨[], []⟩ = .nx (some (.scr ns) :: some (.lst (.scr ns :: cells.map U.int)) :: List.replicate (N.length - 2) none) ⟨[], []⟩ := by
        obtain ⟨n, hn⟩ : ∃ n, N.length = n + 2 := ⟨N.length - 2, by lia⟩
        rw [hn]
        show Fl.of ((Res.ok [U.scr ns] ⟨[], []⟩).bnd Fp) _ = _
        rw [Res.bnd_ok, hFp]
        simp [Fl.of, List.replicate_succ]
      rw [e0]
      intro σ' Hc' H' ow' S1 x1
      obtain ⟨v, q1, r1⟩ := S1.cl 1 _ (by simp) (by simp) rfl
      rw [RU] at r1
      obtain ⟨a, vs, rfl, ha, r2⟩ := r1
      rw [RUs] at r2
      obtain ⟨v2, vr, rfl, r3, r4⟩ := r2
      rw [RU] at r3
      obtain ⟨sc', rfl, hsc⟩ := r3
      have := r4.ints; subst this
      have ha' := S1.sub _ _ ha
      have hsc' : SqL K H' sc' (ns.map V.int) := S1.sub.seq hsc
      obtain ⟨L, aL, okL, hq, lstL⟩ : ∃ L : List Addr, a ∈ L ∧ (∀ b ∈ L, H' b ≠ none) ∧ SqL K (Hr L H') sc' (ns.map V.int) ∧ ∀ b ∈ L, H' b ≠ some (.tbl #[]) := by
        have two : ∀ o, H' sc' = some o → o ≠ .tbl #[] → (∀ b ∈ [a, sc'], H' b ≠ none) ∧ Hr [a, sc'] H' sc' = some o ∧ ∀ b ∈ [a, sc'], H' b ≠ some (.tbl #[]) := fun o ho hn => by
          refine ⟨fun b hb => ?_, ?_, fun b hb => ?_⟩
          · rcases List.mem_cons.mp hb with h | h
            · rw [h, ha']; simp
            · rw [List.mem_singleton.mp h, ho]; simp
          · unfold Hr; rw [if_pos (by simp)]; exact ho
          · rcases List.mem_cons.mp hb with h | h
            · rw [h, ha']; simp
            · rw [List.mem_singleton.mp h, ho]; simpa using hn
        rcases hsc' with (q | ⟨o, q⟩) | q
        · obtain ⟨z1, z2, z3⟩ := two _ q (by simp)
          exact ⟨[a, sc'], by simp, z1, .inl (.inl z2), z3⟩
        · obtain ⟨z1, z2, z3⟩ := two _ q (by simp)
          exact ⟨[a, sc'], by simp, z1, .inl (.inr ⟨o, z2⟩), z3⟩
        · exact ⟨[a], by simp, fun b hb => by rw [List.mem_singleton.mp hb, ha']; simp, .inr q, fun b hb => by rw [List.mem_singleton.mp hb, ha']; simp⟩
      have inT' : ∀ b ∈ tbA tb, H' b = some (.tbl #[]) := fun b hb => x1.same b _ (by simp [wd0]) (inT b hb)
      have dj : ∀ b ∈ L, b ∉ tbA tb := fun b hb hb2 => lstL b hb (inT' b hb2)
      have pw := wdPT_ok (K := K) (mg := mg) (tb := tb) aL
      obtain ⟨t2, p2, d2⟩ := hbody cdv A outer s H E (wdPT K mg a L tb) rfl rfl pw (fun t h => wdPT_tab nd dj h) hr hA
      have hpl : (wdPT K mg a L tb).pl ⟨ns, cells⟩ H' := by
        exact ⟨⟨aL, sc', ha', hq⟩, fun t h => ⟨#[], inT' _ (tbA_mem h), .inl rfl⟩⟩
      have okL2 : ∀ b ∈ L ++ tbA tb, H' b ≠ none := fun b hb => by
        rcases List.mem_append.mp hb with z | z
        · exact okL b z
        · rw [inT' b z]; simp
      have len' : σ'.length = N.length := by
        have := S1.len
        rw [← this]; simp; lia
      obtain ⟨ω', hw⟩ := hlaw ns hl
      have cl0 : ∀ (j : Nat) (u : U), (none :: some U.pile :: List.replicate (N.length - 2) none : En)[j]? = some (some u) → j = 1 ∧ u = .pile := fun j u hj => by
        match j, hj with
        | 0, hj => simp at hj
        | 1, hj => simp at hj; exact ⟨rfl, hj.symm⟩
        | j + 2, hj =>
          simp only [List.getElem?_cons_succ] at hj
          rw [List.getElem?_replicate] at hj
          split at hj <;> cases hj
      refine ⟨t2, p2 (), d2 H' (fun ψ => none) (none :: some .pile :: List.replicate (N.length - 2) none) ⟨ns, cells⟩ σ' (fun ψ => none) H' (fun ψ => 0) ?_ ?_ _ ?_⟩
      · refine ⟨fun b o h => (by cases h), fun b o ψ h => h, fun b hb => okL2 b hb, by rw [len']; simp; lia, ⟨hpl, fun b hb => ⟨rfl, okL2 b hb⟩⟩, fun j u ψ ψ hj => ?_, fun j u ψ ψ hj => ?_, fun j u hm hj => ?_, fun i j u u' hi hj ne h1 h2 => ?_⟩
        · obtain ⟨rfl, rfl⟩ := cl0 j u hj
          exact ⟨_, q1, by rw [RU]; rfl⟩
        · obtain ⟨rfl, rfl⟩ := cl0 j u hj
          exact ⟨_, q1, .inl (by rw [RU]; rfl)⟩
        · obtain ⟨rfl, rfl⟩ := cl0 j u hj
          exact absurd hm h1M
        · obtain ⟨rfl, rfl⟩ := cl0 i u h1
          exact absurd hi h1M
      · exact Ext.refl fun b o h => (by cases h)
      · revert hw
        cases g (none :: some .pile :: List.replicate (N.length - 2) none) ⟨ns, cells⟩ with
        | rt u ω2 =>
          intro hw v Hc2 H2 ψ ψ rv
          have : u = .bl true := by simp at hw; exact hw.1
          subst this
          rw [RU] at rv; subst rv
          exact kq H2
        | nx ρ2 ω2 => intro hw; simp at hw
        | err c p ω2 => intro hw; simp at hw
        | bk ρ2 ω2 => intro hw; cases hw
        | ct ρ2 ω2 => intro hw; cases hw
        | stk => intro hw; cases hw
theorem law_endPT {ts : List (Addr × Addr)} {k : Nat} {f : Addr} {fd : FuncData} {ps : List Str} (G : FnOk P w K mg base (CX1 P w) k f fd ps (spT ts (spLaw K))) : FnOk P w K mg base CX0 k f fd ps (spT ts (spLaw K)) := (fn1_to0 G).imp fun ψ ψ ψ ψ q => q
end
end L2
namespace My
open PySem L2 PyProof.Rows
set_option maxHeartbeats 4000000
section EvBlock
open L2
noncomputable def prd : List Int → Int
  | [] => 1
  | x :: xs => x * prd xs
noncomputable def evp (c : Nat) (t : Int) : List Int := List.replicate (c - (t % (c : Int)).toNat) (t / (c : Int)) ++ List.replicate (t % (c : Int)).toNat (t / (c : Int) + 1)
noncomputable def gp (c : Nat) (t : Int) : Int := prd (evp c t)
noncomputable def BB : Nat → Int
  | 0 => 1
  | n + 1 => BB n * 4398046511104
theorem BB_pos : ∀ n, 0 < BB n
  | 0 => by decide
  | n + 1 => by have := BB_pos n; unfold BB; omega
theorem BB_le {a b : Nat} (h : a ≤ b) : BB a ≤ BB b := by
  induction h with
  | refl => exact Int.le_refl _
  | step h ih => rename_i m; have := BB_pos m; show BB a ≤ BB m * 4398046511104; omega
theorem BB_is : BB 130 < 2 ^ 6000 := by decide +kernel
theorem BB_add {a b : Nat} {x y : Int} (x0 : 0 ≤ x) (x1 : x ≤ BB a) (y0 : 0 ≤ y) (y1 : y ≤ BB b) : x * y ≤ BB (a + b) := by
  have e : ∀ b, BB (a + b) = BB a * BB b := fun b => by
    induction b with
    | zero => simp [BB]
    | succ b ih => show BB (a + b) * 4398046511104 = BB a * (BB b * 4398046511104); rw [ih, Int.mul_assoc]
  rw [e]
  exact Int.mul_le_mul x1 y1 y0 (Int.le_of_lt (BB_pos a))
theorem uMul_BB {a b : Int} {m : Nat} (hm : m ≤ 130) (a0 : 0 ≤ a) (a1 : a ≤ BB m) (b0 : 0 ≤ b) (b1 : b ≤ BB m) : uMul (.int a) (.int b) = some (.int (a * b)) := by
  have n : (0 : Int) < 2 ^ 6000 := Int.lt_trans (BB_pos 130) BB_is
  have le := BB_le hm
  exact uMul_b 6000 (by decide) (Int.lt_of_le_of_lt (Int.le_trans a1 le) BB_is) (Int.lt_of_lt_of_le (by omega) a0) (Int.lt_of_le_of_lt (Int.le_trans b1 le) BB_is) (Int.lt_of_lt_of_le (by omega) b0)
noncomputable def FB (n : Int) : Nat → Int → Int → Int → List Int → Prop
  | 0, low, left, pr, row => row = [left] ∧ low ≤ left ∧ n ≤ pr * left
  | m + 1, low, left, pr, row => ∃ b rest, row = b :: rest ∧ low ≤ b ∧ b ≤ left ∧ (low < b → pr * (b - 1) * gp (m + 1) (left - (b - 1)) < n) ∧ FB n m b (left - b) (pr * b) rest
noncomputable def un : List Int → List Int
  | [] => []
  | x :: xs => match un xs with
    | [] => [x]
    | y :: ys => if x = y then y :: ys else x :: y :: ys
noncomputable def qs : Int → List Int → List Int
  | _, [] => []
  | w, y :: ys => y / w :: qs y ys
end EvBlock
end My
set_option maxHeartbeats 1000000
namespace L2
noncomputable def chs : Nat → Nat → Nat
  | _, 0 => 1
  | 0, _ + 1 => 0
  | n + 1, k + 1 => chs n k + chs n (k + 1)
theorem chs_z (n : Nat) : chs n 0 = 1 := by cases n <;> rfl
theorem chs_id : ∀ (n k : Nat), (chs n (k + 1) : Int) * ((k : Int) + 1) = chs n k * ((n : Int) - k)
  | 0, 0 => by simp [chs]
  | 0, k + 1 => by simp [chs]
  | n + 1, 0 => by
    have h := chs_id n 0
    rw [chs_z] at h
    rw [show chs (n + 1) (0 + 1) = chs n 0 + chs n (0 + 1) from rfl, chs_z, chs_z]
    push_cast at h ⊢
    omega
  | n + 1, k + 1 => by
    have h1 := chs_id n k
    have h2 := chs_id n (k + 1)
    rw [chs, show chs (n + 1) (k + 1) = chs n k + chs n (k + 1) from rfl]
    push_cast at h1 h2 ⊢
    grind
theorem chs_next (n k : Nat) : (chs n k : Int) * ((n : Int) - k) / ((k : Int) + 1) = chs n (k + 1) := by
  rw [← chs_id]; exact Int.mul_ediv_cancel _ (by omega)
noncomputable def dlt (f : Nat → Int) : Nat → Int := fun x => f (x + 1) - f x
noncomputable def Vn : Nat → (Nat → Int) → Prop
  | 0, f => ∀ x, f x = 0
  | m + 1, f => Vn m (dlt f)
theorem Vn_zero : ∀ (m : Nat), Vn m fun ψ => 0
  | 0 => fun ψ => rfl
  | m + 1 => by
    have : dlt (fun ψ => 0) = fun ψ => 0 := by funext x; simp [dlt]
    unfold Vn; rw [this]; exact Vn_zero m
theorem Vn_add : ∀ {m : Nat} {f g : Nat → Int}, Vn m f → Vn m g → Vn m fun x => f x + g x
  | 0, f, g, h1, h2 => fun x => by simp [h1 x, h2 x]
  | m + 1, f, g, h1, h2 => by
    have : dlt (fun x => f x + g x) = fun x => dlt f x + dlt g x := by funext x; simp only [dlt]; omega
    unfold Vn; rw [this]; exact Vn_add (f := dlt f) (g := dlt g) h1 h2
theorem Vn_comp : ∀ {m : Nat} {f : Nat → Int} (d b : Nat), Vn m f → Vn m fun x => f (d + x * b)
  | 0, f, d, b, h => fun x => h _
  | m + 1, f, d, b, h => by
    have st : ∀ c, Vn m fun x => f (d + x * b + c) - f (d + x * b) := fun c => by
      induction c with
      | zero => simpa using Vn_zero m
      | succ c ih =>
        have h2 := Vn_comp (f := dlt f) (d + c) b h
        have := Vn_add ih h2
        have e : (fun x => f (d + x * b + (c + 1)) - f (d + x * b)) = fun x => f (d + x * b + c) - f (d + x * b) + dlt f (d + c + x * b) := by
          funext x
          simp only [dlt]
          rw [show d + c + x * b + 1 = d + x * b + (c + 1) by omega, show d + c + x * b = d + x * b + c by omega]
          omega
        rw [e]; exact this
    unfold Vn
    have e : dlt (fun x => f (d + x * b)) = fun x => f (d + x * b + b) - f (d + x * b) := by
      funext x
      simp only [dlt]
      rw [Nat.add_mul, Nat.one_mul, Nat.add_assoc]
    rw [e]; exact st b
noncomputable def sm (f : Nat → Int) : Nat → Int
  | 0 => 0
  | n + 1 => sm f n + f n
noncomputable def nx (f : Nat → Int) (d b : Nat) : Nat → Int := fun x => sm (fun i => f (d + i * b)) (x + 1)
theorem Vn_nx {m : Nat} {f : Nat → Int} {d b : Nat} (h : Vn m f) : Vn (m + 1) (nx f d b) := by
  unfold Vn
  have e : dlt (nx f d b) = fun x => f ((d + b) + x * b) := by
    funext x
    show sm _ (x + 1 + 1) - sm _ (x + 1) = _
    rw [show ∀ g : Nat → Int, sm g (x + 1 + 1) = sm g (x + 1) + g (x + 1) from fun g => rfl]
    rw [Nat.add_mul, Nat.one_mul, show d + b + x * b = d + (x * b + b) by omega]
    omega
  rw [e]; exact Vn_comp _ _ h
noncomputable def nwt : Nat → (Nat → Int) → Nat → Nat → Int
  | 0, _, _, _ => 0
  | m + 1, f, n, k => f 0 * chs n k + nwt m (dlt f) n (k + 1)
theorem nwt_pas : ∀ (m : Nat) (f : Nat → Int) (n k : Nat), nwt m f (n + 1) (k + 1) = nwt m f n (k + 1) + nwt m f n k
  | 0, _, _, _ => rfl
  | m + 1, f, n, k => by
    rw [nwt, nwt, nwt, nwt_pas m, chs]
    push_cast
    rw [Int.mul_add]; omega
theorem nwt_nil : ∀ (m : Nat) (f : Nat → Int) (k : Nat), nwt m f 0 (k + 1) = 0
  | 0, _, _ => rfl
  | m + 1, f, k => by rw [nwt, nwt_nil m]; simp [chs]
theorem newton : ∀ (n m : Nat) (f : Nat → Int), Vn m f → nwt m f n 0 = f n
  | n, 0, f, h => by rw [nwt, h n]
  | 0, m + 1, f, _ => by rw [nwt, nwt_nil]; simp [chs]
  | n + 1, m + 1, f, h => by
    have h1 := newton n (m + 1) f h
    have h2 := newton n m (dlt f) h
    rw [nwt] at h1 ⊢
    rw [nwt_pas, h2]
    rw [chs_z] at h1 ⊢
    simp only [dlt] at h1 ⊢
    omega
noncomputable def tabl (m : Nat) (f : Nat → Int) : List Int := (List.range m).map f
theorem tabl_len (m : Nat) (f : Nat → Int) : (tabl m f).length = m := by simp [tabl]
theorem tabl_snoc (m : Nat) (f : Nat → Int) : tabl (m + 1) f = tabl m f ++ [f m] := by simp [tabl, List.range_succ]
theorem tabl_cons (m : Nat) (f : Nat → Int) : tabl (m + 1) f = f 0 :: tabl m fun x => f (x + 1) := by
  simp [tabl, List.range_succ_eq_map, List.map_map, Function.comp_def]
theorem tabl_dl (m : Nat) (f : Nat → Int) : List.zipWith (fun a b => b - a) (tabl (m + 1) f) ((tabl (m + 1) f).drop 1) = tabl m (dlt f) := by
  rw [tabl_cons, List.drop_succ_cons, List.drop_zero]
  induction m generalizing f with
  | zero => rfl
  | succ m ih =>
    rw [tabl_cons, List.zipWith_cons_cons, ih fun x => f (x + 1), tabl_cons]
    rfl
noncomputable def Wp : List Nat → Nat
  | [] => 1
  | b :: rb => Wp rb * b
noncomputable def wys : List Nat → Nat → List (List Nat)
  | [], n => [[n]]
  | b :: rb, n => (List.range (n / Wp (b :: rb) + 1)).flatMap fun m => (wys rb (n - m * Wp (b :: rb))).map (· ++ [m])
noncomputable def Tw (N : Nat) : List Nat → Nat → Int
  | [] => fun ψ => 1
  | b :: rb => nx (Tw N rb) (N / Wp rb % b) b
theorem Tw_vn (N : Nat) : ∀ rb : List Nat, Vn (rb.length + 1) (Tw N rb)
  | [] => fun x => by simp [dlt, Tw]
  | b :: rb => Vn_nx (Tw_vn N rb)
theorem Wp_pos : ∀ {rb : List Nat}, (∀ b ∈ rb, 0 < b) → 0 < Wp rb
  | [], _ => by simp [Wp]
  | b :: rb, h => Nat.mul_pos (Wp_pos fun x hx => h x (by simp [hx])) (h b (by simp))
theorem len_fm {α : Type} (L : Nat → List α) : ∀ n : Nat, (((List.range n).flatMap L).length : Int) = sm (fun i => ((L i).length : Int)) n
  | 0 => rfl
  | n + 1 => by rw [List.range_succ, List.flatMap_append, List.length_append, sm, ← len_fm L n]; simp
theorem sm_nn {f : Nat → Int} (h : ∀ i, 0 ≤ f i) : ∀ n, 0 ≤ sm f n
  | 0 => by simp [sm]
  | n + 1 => by have := sm_nn h n; have := h n; rw [sm]; omega
theorem sm_mono {f : Nat → Int} (h : ∀ i, 0 ≤ f i) : ∀ {a b : Nat}, a ≤ b → sm f a ≤ sm f b
  | a, 0, e => by
    have : a = 0 := by omega
    subst this; exact Int.le_refl _
  | a, b + 1, e => by
    by_cases c : a = b + 1
    · subst c; exact Int.le_refl _
    · have := sm_mono h (show a ≤ b by omega)
      have := h b
      rw [sm]; omega
theorem sm_rev (h : Nat → Int) (x : Nat) : ∀ i, i ≤ x + 1 → sm (fun m => h (x - m)) i = sm h (x + 1) - sm h (x + 1 - i)
  | 0, _ => by simp [sm]
  | i + 1, e => by
    have ih := sm_rev h x i (by omega)
    have e1 : x + 1 - i = (x - i) + 1 := by omega
    have e2 : sm h (x - i + 1) = sm h (x - i) + h (x - i) := rfl
    rw [e1, e2] at ih
    rw [show sm (fun m => h (x - m)) (i + 1) = sm (fun m => h (x - m)) i + h (x - i) from rfl, ih, show x + 1 - (i + 1) = x - i by omega]
    omega
theorem sm_congr {f g : Nat → Int} : ∀ {n : Nat}, (∀ i, i < n → f i = g i) → sm f n = sm g n
  | 0, _ => rfl
  | n + 1, h => by rw [sm, sm, sm_congr fun i hi => h i (by omega), h n (by omega)]
theorem get_fm {α : Type} (L : Nat → List α) (a i : Nat) : ∀ n : Nat, i < n → sm (fun i => ((L i).length : Int)) i ≤ a → (a : Int) < sm (fun i => ((L i).length : Int)) (i + 1) → ((List.range n).flatMap L)[a]? = (L i)[(a - sm (fun i => ((L i).length : Int)) i).toNat]?
  | 0, h, _, _ => by omega
  | n + 1, h, h1, h2 => by
    rw [List.range_succ, List.flatMap_append]
    have e := len_fm L n
    by_cases c : i = n
    · subst c
      rw [List.getElem?_append_right (by omega)]
      simp only [List.flatMap_cons, List.flatMap_nil, List.append_nil]
      congr 1
      omega
    · have m := sm_mono (f := fun i => ((L i).length : Int)) (fun ψ => by omega) (show i + 1 ≤ n by omega)
      rw [List.getElem?_append_left (by omega)]
      exact get_fm L a i n (by omega) h1 h2
section
variable {N b : Nat} {rb : List Nat}
theorem rest_is (h0 : 0 < Wp rb) (x : Nat) : x * Wp (b :: rb) + N % Wp (b :: rb) = (N / Wp rb % b + x * b) * Wp rb + N % Wp rb := by
  have e : N % (Wp rb * b) = N % Wp rb + Wp rb * (N / Wp rb % b) := Nat.mod_mul
  show x * (Wp rb * b) + N % (Wp rb * b) = _
  rw [e, Nat.add_mul, Nat.mul_comm (N / Wp rb % b), Nat.mul_assoc x b, Nat.mul_comm b]
  omega
theorem rest_sub (h0 : 0 < Wp rb) {x m : Nat} (h : m ≤ x) : x * Wp (b :: rb) + N % Wp (b :: rb) - m * Wp (b :: rb) = (N / Wp rb % b + (x - m) * b) * Wp rb + N % Wp rb := by
  rw [← rest_is h0, Nat.sub_mul]
  have := Nat.mul_le_mul_right (Wp (b :: rb)) h
  omega
theorem most_is {W : Nat} (h0 : 0 < W) (x : Nat) : (x * W + N % W) / W = x := by
  rw [Nat.mul_comm, Nat.mul_add_div h0, Nat.div_eq_of_lt (Nat.mod_lt _ h0)]; rfl
end
theorem Tw_cnt {N : Nat} : ∀ {rb : List Nat}, (∀ b ∈ rb, 0 < b) → ∀ x, ((wys rb (x * Wp rb + N % Wp rb)).length : Int) = Tw N rb x
  | [], _, x => rfl
  | b :: rb, h, x => by
    have h' : ∀ b ∈ rb, 0 < b := fun y hy => h y (by simp [hy])
    have p := Wp_pos h
    rw [wys, most_is p, len_fm]
    show _ = sm _ _
    have := sm_rev (fun i => Tw N rb (N / Wp rb % b + i * b)) x (x + 1) (Nat.le_refl _)
    rw [Nat.sub_self, sm, Int.sub_zero] at this
    rw [← this]
    refine sm_congr fun i hi => ?_
    rw [List.length_map, rest_sub (Wp_pos h') (by omega), Tw_cnt h']
theorem un_step {N b r x a : Nat} {rb : List Nat} (h : ∀ y ∈ b :: rb, 0 < y) (hr : r ≤ x) (h1 : Tw N (b :: rb) x - Tw N (b :: rb) r ≤ a) (h2 : (a : Int) < Tw N (b :: rb) x) (h3 : 0 < r → (a : Int) < Tw N (b :: rb) x - Tw N (b :: rb) (r - 1)) :
    (wys (b :: rb) (x * Wp (b :: rb) + N % Wp (b :: rb)))[a]? = ((wys rb (r * Wp (b :: rb) + N % Wp (b :: rb))).map (· ++ [x - r]))[(a - (Tw N (b :: rb) x - Tw N (b :: rb) r)).toNat]? ∧ (a : Int) - (Tw N (b :: rb) x - Tw N (b :: rb) r) < ((wys rb (r * Wp (b :: rb) + N % Wp (b :: rb))).length : Int) := by
  have h' : ∀ b ∈ rb, 0 < b := fun y hy => h y (by simp [hy])
  have p := Wp_pos h
  have q := Wp_pos h'
  have ln : ∀ i, i ≤ x → ((wys rb (x * Wp (b :: rb) + N % Wp (b :: rb) - i * Wp (b :: rb))).length : Int) = Tw N rb (N / Wp rb % b + (x - i) * b) := fun i hi => by rw [rest_sub q hi, Tw_cnt h']
  have P : ∀ i, i ≤ x + 1 → sm (fun i => (((wys rb (x * Wp (b :: rb) + N % Wp (b :: rb) - i * Wp (b :: rb))).map (· ++ [i])).length : Int)) i = sm (fun i => Tw N rb (N / Wp rb % b + i * b)) (x + 1) - sm (fun i => Tw N rb (N / Wp rb % b + i * b)) (x + 1 - i) := fun i hi => by
    rw [← sm_rev _ _ _ hi]
    exact sm_congr fun j hj => by rw [List.length_map, ln j (by omega)]
  have Tx : ∀ y, Tw N (b :: rb) y = sm (fun i => Tw N rb (N / Wp rb % b + i * b)) (y + 1) := fun y => rfl
  have P1 := P (x - r) (by omega)
  have P2 := P (x - r + 1) (by omega)
  rw [show x + 1 - (x - r) = r + 1 by omega, ← Tx, ← Tx] at P1
  rw [show x + 1 - (x - r + 1) = r by omega, ← Tx] at P2
  have lt : (a : Int) < Tw N (b :: rb) x - sm (fun i => Tw N rb (N / Wp rb % b + i * b)) r := by
    cases r with
    | zero => simpa [sm] using h2
    | succ r => exact h3 (by omega)
  have es : x * Wp (b :: rb) + N % Wp (b :: rb) - (x - r) * Wp (b :: rb) = r * Wp (b :: rb) + N % Wp (b :: rb) := by
    rw [rest_sub q (by omega), rest_is q, show x - (x - r) = r by omega]
  constructor
  · rw [wys, most_is p, get_fm _ a (x - r) (x + 1) (by omega) (by rw [P1]; exact h1) (by rw [P2]; exact lt), P1, es]
  · have := ln (x - r) (by omega)
    rw [es] at this
    rw [this, show x - (x - r) = r by omega, Tx r, sm]
    omega
noncomputable def WS : List Nat → List Nat
  | [] => [1]
  | b :: rb => WS rb ++ [Wp (b :: rb)]
noncomputable def TB (N : Nat) : List Nat → List (List Int)
  | [] => [tabl 1 (Tw N [])]
  | b :: rb => TB N rb ++ [tabl (rb.length + 2) (Tw N (b :: rb))]
theorem WS_len : ∀ rb, (WS rb).length = rb.length + 1
  | [] => rfl
  | b :: rb => by simp [WS, WS_len rb]
theorem TB_len (N : Nat) : ∀ rb, (TB N rb).length = rb.length + 1
  | [] => rfl
  | b :: rb => by simp [TB, TB_len N rb]
theorem WS_at : ∀ (pre rb : List Nat), (WS (pre ++ rb))[rb.length]? = some (Wp rb)
  | [], [] => rfl
  | [], b :: rb => by
    show (WS rb ++ [Wp (b :: rb)])[_]? = _
    rw [List.getElem?_append_right (by rw [WS_len]; simp), WS_len]; simp
  | b :: pre, rb => by
    show (WS (pre ++ rb) ++ _)[_]? = _
    rw [List.getElem?_append_left (by rw [WS_len]; simp; omega), WS_at pre rb]
theorem TB_at (N : Nat) : ∀ (pre rb : List Nat), (TB N (pre ++ rb))[rb.length]? = some (tabl (rb.length + 1) (Tw N rb))
  | [], [] => rfl
  | [], b :: rb => by
    show (TB N rb ++ [tabl (rb.length + 2) (Tw N (b :: rb))])[_]? = _
    rw [List.getElem?_append_right (by rw [TB_len]; simp), TB_len]; simp
  | b :: pre, rb => by
    show (TB N (pre ++ rb) ++ _)[_]? = _
    rw [List.getElem?_append_left (by rw [TB_len]; simp; omega), TB_at N pre rb]
theorem fm_le {α : Type} {L : Nat → List α} {c : Nat} : ∀ {n : Nat}, (∀ i, i < n → (L i).length ≤ c) → ((List.range n).flatMap L).length ≤ n * c
  | 0, _ => by simp
  | n + 1, h => by
    rw [List.range_succ, List.flatMap_append, List.length_append, Nat.add_mul]
    have h1 := fm_le (n := n) fun i hi => h i (by omega)
    have h2 := h n (by omega)
    rw [List.flatMap_cons, List.flatMap_nil, List.append_nil, Nat.one_mul]; omega
theorem wys_row : ∀ {rb : List Nat} {n : Nat} {r : List Nat}, r ∈ wys rb n → r.length = rb.length + 1
  | [], n, r, h => by simp [wys] at h; subst h; rfl
  | b :: rb, n, r, h => by
    rw [wys, List.mem_flatMap] at h
    obtain ⟨m, _, h⟩ := h
    obtain ⟨q, hq, rfl⟩ := List.mem_map.mp h
    simp [wys_row hq]
end L2
namespace My
open PySem L2 PyProof.Rows
set_option maxHeartbeats 4000000
section EvBlock
open L2
noncomputable def NN : Nat → (Nat → Int) → Prop
  | 0, f => ∀ x, 0 ≤ f x
  | m + 1, f => (∀ x, 0 ≤ f x) ∧ NN m (dlt f)
theorem NN_0 : ∀ {m : Nat} {f : Nat → Int}, NN m f → ∀ x, 0 ≤ f x
  | 0, _, h => h
  | _ + 1, _, h => h.1
theorem NN_zero : ∀ (m : Nat), NN m fun ψ => 0
  | 0 => fun ψ => Int.le_refl _
  | m + 1 => by
    have : dlt (fun ψ => 0) = fun ψ => 0 := by funext x; simp [dlt]
    refine ⟨fun ψ => Int.le_refl _, ?_⟩; rw [this]; exact NN_zero m
theorem NN_add : ∀ {m : Nat} {f g : Nat → Int}, NN m f → NN m g → NN m fun x => f x + g x
  | 0, f, g, h1, h2 => fun x => Int.add_nonneg (h1 x) (h2 x)
  | m + 1, f, g, h1, h2 => by
    have : dlt (fun x => f x + g x) = fun x => dlt f x + dlt g x := by funext x; simp only [dlt]; omega
    refine ⟨fun x => Int.add_nonneg (h1.1 x) (h2.1 x), ?_⟩; rw [this]; exact NN_add h1.2 h2.2
theorem NN_comp : ∀ {m : Nat} {f : Nat → Int} (d b : Nat), NN m f → NN m fun x => f (d + x * b)
  | 0, f, d, b, h => fun x => h _
  | m + 1, f, d, b, h => by
    have st : ∀ c, NN m fun x => f (d + x * b + c) - f (d + x * b) := fun c => by
      induction c with
      | zero => simpa using NN_zero m
      | succ c ih =>
        have h2 := NN_comp (f := dlt f) (d + c) b h.2
        have := NN_add ih h2
        have e : (fun x => f (d + x * b + (c + 1)) - f (d + x * b)) = fun x => f (d + x * b + c) - f (d + x * b) + dlt f (d + c + x * b) := by
          funext x
          simp only [dlt]
          rw [show d + c + x * b + 1 = d + x * b + (c + 1) by omega, show d + c + x * b = d + x * b + c by omega]
          omega
        rw [e]; exact this
    have e : dlt (fun x => f (d + x * b)) = fun x => f (d + x * b + b) - f (d + x * b) := by
      funext x
      simp only [dlt]
      rw [Nat.add_mul, Nat.one_mul, Nat.add_assoc]
    refine ⟨fun x => h.1 _, ?_⟩
    rw [e]; exact st b
theorem NN_nx {m : Nat} {f : Nat → Int} {d b : Nat} (h : NN m f) : NN (m + 1) (nx f d b) := by
  have e : dlt (nx f d b) = fun x => f ((d + b) + x * b) := by
    funext x
    show sm _ (x + 1 + 1) - sm _ (x + 1) = _
    rw [show ∀ g : Nat → Int, sm g (x + 1 + 1) = sm g (x + 1) + g (x + 1) from fun g => rfl]
    rw [Nat.add_mul, Nat.one_mul, show d + b + x * b = d + (x * b + b) by omega]
    omega
  refine ⟨fun x => sm_nn (fun i => NN_0 h _) _, ?_⟩
  rw [e]; exact NN_comp _ _ h
theorem NN_one : ∀ m, NN m fun ψ => 1
  | 0 => fun ψ => Int.zero_le_ofNat 1
  | m + 1 => by
    have : dlt (fun ψ => 1) = fun ψ => 0 := by funext x; simp [dlt]
    refine ⟨fun ψ => Int.zero_le_ofNat 1, ?_⟩; rw [this]; exact NN_zero m
theorem NN_low : ∀ {m : Nat} {f : Nat → Int}, NN (m + 1) f → NN m f
  | 0, f, h => h.1
  | m + 1, f, h => ⟨h.1, NN_low h.2⟩
theorem Tw_NN (N : Nat) : ∀ (rb : List Nat) (m : Nat), NN m (Tw N rb)
  | [], m => NN_one m
  | b :: rb, m => NN_low (NN_nx (Tw_NN N rb m))
theorem chs_lt : ∀ {n k : Nat}, n < k → chs n k = 0
  | 0, k + 1, _ => rfl
  | n + 1, k + 1, h => by rw [chs, chs_lt (show n < k by omega), chs_lt (show n < k + 1 by omega)]
theorem chs_BB {n : Nat} (hn : (n : Int) ≤ BB 5) : ∀ k, (chs n k : Int) ≤ BB (5 * k)
  | 0 => by rw [chs_z]; simp [BB]
  | k + 1 => by
    have ih := chs_BB hn k
    by_cases c : n < k + 1
    · rw [chs_lt c]; exact Int.le_of_lt (BB_pos _)
    · have id := chs_id n k
      have h1 : (chs n (k + 1) : Int) ≤ chs n (k + 1) * ((k : Int) + 1) := by
        have := Int.mul_le_mul_of_nonneg_left (show (1 : Int) ≤ (k : Int) + 1 by omega) (show (0 : Int) ≤ chs n (k + 1) by omega)
        omega
      have h2 : (chs n k : Int) * ((n : Int) - k) ≤ chs n k * (n : Int) := Int.mul_le_mul_of_nonneg_left (by omega) (by omega)
      have h3 := BB_add (a := 5 * k) (b := 5) (show (0 : Int) ≤ chs n k by omega) ih (show (0 : Int) ≤ n by omega) hn
      rw [show 5 * (k + 1) = 5 * k + 5 by omega]
      omega
theorem wys_pow : ∀ (rb : List Nat) (n : Nat), (wys rb n).length ≤ (n + 1) ^ rb.length
  | [], n => by simp [wys]
  | b :: rb, n => by
    rw [wys, List.length_cons, Nat.pow_succ, Nat.mul_comm]
    refine Nat.le_trans (fm_le (c := (n + 1) ^ rb.length) fun i hi => ?_) (Nat.mul_le_mul_right _ ?_)
    · rw [List.length_map]
      exact Nat.le_trans (wys_pow rb _) (Nat.pow_le_pow_left (by omega) _)
    · have := Nat.div_le_self n (Wp (b :: rb)); omega
theorem pow_BB {a c : Nat} (h : (a : Int) ≤ BB c) : ∀ k, ((a ^ k : Nat) : Int) ≤ BB (c * k)
  | 0 => by simp [BB]
  | k + 1 => by
    have := BB_add (a := c * k) (b := c) (show (0 : Int) ≤ ((a ^ k : Nat) : Int) by omega) (pow_BB h k) (show (0 : Int) ≤ (a : Int) by omega) h
    rw [Nat.pow_succ, Nat.mul_add, Nat.mul_one]
    push_cast at this ⊢
    exact this
theorem fm_split {α : Type} (L : Nat → List α) (a : Nat) : ∀ n, a < ((List.range n).flatMap L).length → ∃ i a1 : Nat, i < n ∧ a1 < (L i).length ∧ (a : Int) = sm (fun i => ((L i).length : Int)) i + a1
  | 0, h => by simp at h
  | n + 1, h => by
    have e := len_fm L n
    have e1 := len_fm L (n + 1)
    rw [show sm (fun i => ((L i).length : Int)) (n + 1) = sm (fun i => ((L i).length : Int)) n + ((L n).length : Int) from rfl] at e1
    by_cases c : a < ((List.range n).flatMap L).length
    · obtain ⟨i, a1, h1, h2, h3⟩ := fm_split L a n c
      exact ⟨i, a1, by omega, h2, h3⟩
    · exact ⟨n, a - ((List.range n).flatMap L).length, by omega, by omega, by omega⟩
noncomputable def pfx (b : Nat) (rb : List Nat) (n i : Nat) : Int := sm (fun j => ((wys rb (n - j * Wp (b :: rb))).length : Int)) i
theorem pos_split {b : Nat} {rb : List Nat} (h : ∀ y ∈ b :: rb, 0 < y) {n a : Nat} (ha : a < (wys (b :: rb) n).length) : ∃ (m a1 : Nat) (v : List Nat), m * Wp (b :: rb) ≤ n ∧ (wys rb (n - m * Wp (b :: rb)))[a1]? = some v ∧ (a : Int) = pfx b rb n m + a1 ∧ (wys (b :: rb) n)[a]? = some (v ++ [m]) := by
  have p := Wp_pos h
  rw [wys] at ha
  obtain ⟨m, a1, h1, h2, h3⟩ := fm_split _ a _ ha
  have hp : sm (fun i => (((wys rb (n - i * Wp (b :: rb))).map (· ++ [i])).length : Int)) m = pfx b rb n m := sm_congr fun i ψ => by rw [List.length_map]
  have hs : sm (fun i => (((wys rb (n - i * Wp (b :: rb))).map (· ++ [i])).length : Int)) (m + 1) = sm (fun i => (((wys rb (n - i * Wp (b :: rb))).map (· ++ [i])).length : Int)) m + (((wys rb (n - m * Wp (b :: rb))).map (· ++ [m])).length : Int) := rfl
  have g := get_fm (fun m => (wys rb (n - m * Wp (b :: rb))).map (· ++ [m])) a m _ h1 (by omega) (by omega)
  have h2' : a1 < (wys rb (n - m * Wp (b :: rb))).length := by simpa using h2
  refine ⟨m, a1, (wys rb (n - m * Wp (b :: rb)))[a1], ?_, List.getElem?_eq_getElem h2', by omega, ?_⟩
  · exact (Nat.le_div_iff_mul_le p).mp (by omega)
  · rw [wys, g, show ((a : Int) - sm (fun i => (((wys rb (n - i * Wp (b :: rb))).map (· ++ [i])).length : Int)) m).toNat = a1 by omega, List.getElem?_map, List.getElem?_eq_getElem h2']
    rfl
theorem wys_ne : ∀ (rb : List Nat) (n : Nat), 0 < (wys rb n).length ∧ (wys rb n)[0]? = some (n :: List.replicate rb.length 0)
  | [], n => ⟨by simp [wys], rfl⟩
  | b :: rb, n => by
    obtain ⟨h1, h2⟩ := wys_ne rb n
    have e : wys (b :: rb) n = (wys rb n).map (· ++ [0]) ++ ((List.range (n / Wp (b :: rb))).flatMap fun m => (wys rb (n - (m + 1) * Wp (b :: rb))).map (· ++ [m + 1])) := by
      rw [wys, List.range_succ_eq_map, List.flatMap_cons, List.flatMap_map]
      simp
    have l : 0 < ((wys rb n).map (· ++ [0])).length := by simpa using h1
    rw [e]
    refine ⟨by rw [List.length_append]; omega, ?_⟩
    rw [List.getElem?_append_left l, List.getElem?_map, h2]
    simp [List.replicate_succ', ]
theorem wys_mem_le : ∀ {rb : List Nat} {n : Nat} {v : List Nat}, v ∈ wys rb n → ∀ y ∈ v, y ≤ n
  | [], n, v, h, y, hy => by simp [wys] at h; subst h; simp at hy; omega
  | b :: rb, n, v, h, y, hy => by
    rw [wys, List.mem_flatMap] at h
    obtain ⟨m, hm, h⟩ := h
    obtain ⟨q, hq, rfl⟩ := List.mem_map.mp h
    have hm' := List.mem_range.mp hm
    rcases List.mem_append.mp hy with z | z
    · have := wys_mem_le hq y z; omega
    · simp at z; subst z
      have := Nat.div_le_self n (Wp (b :: rb)); omega
noncomputable def dotN : List Nat → List Nat → Nat
  | x :: xs, y :: ys => x * y + dotN xs ys
  | _, _ => 0
theorem dotN_snoc : ∀ {xs ys : List Nat} {x y : Nat}, xs.length = ys.length → dotN (xs ++ [x]) (ys ++ [y]) = dotN xs ys + x * y
  | [], [], x, y, _ => by simp [dotN]
  | a :: xs, c :: ys, x, y, h => by
    simp only [List.cons_append, dotN]
    rw [dotN_snoc (by simpa using h)]; omega
theorem wys_dot : ∀ {rb : List Nat}, (∀ y ∈ rb, 0 < y) → ∀ {n : Nat} {v : List Nat}, v ∈ wys rb n → dotN (WS rb) v = n
  | [], _, n, v, h => by simp [wys] at h; subst h; simp [WS, dotN]
  | b :: rb, hb, n, v, h => by
    rw [wys, List.mem_flatMap] at h
    obtain ⟨m, hm, h⟩ := h
    obtain ⟨q, hq, rfl⟩ := List.mem_map.mp h
    have hm' := List.mem_range.mp hm
    have h1 : m * Wp (b :: rb) ≤ n := (Nat.le_div_iff_mul_le (Wp_pos hb)).mp (by omega)
    rw [WS, dotN_snoc (by rw [WS_len, wys_row hq]), wys_dot (fun y hy => hb y (by simp [hy])) hq, Nat.mul_comm (Wp (b :: rb)) m]
    omega
noncomputable def dg : List Nat → Nat → List Nat
  | [], _ => []
  | b :: rb, n => dg rb n ++ [n / Wp rb % b]
theorem dg_mod : ∀ (rb : List Nat) (n c : Nat), dg rb (n % (Wp rb * c)) = dg rb n
  | [], _, _ => rfl
  | b :: rb, n, c => by
    show dg rb (n % (Wp rb * b * c)) ++ [n % (Wp rb * b * c) / Wp rb % b] = _
    rw [Nat.mul_assoc, dg_mod rb n (b * c), Nat.mod_mul_right_div_self, Nat.mod_mul_right_mod]
    rfl
theorem wys_last : ∀ {rb : List Nat}, (∀ y ∈ rb, 0 < y) → ∀ n : Nat, (wys rb n)[(wys rb n).length - 1]? = some (dg rb n ++ [n / Wp rb])
  | [], _, n => by simp [wys, dg, Wp]
  | b :: rb, h, n => by
    have ih := wys_last (rb := rb) (fun y hy => h y (List.mem_cons_of_mem _ hy)) (n - n / Wp (b :: rb) * Wp (b :: rb))
    have ne := (wys_ne rb (n - n / Wp (b :: rb) * Wp (b :: rb))).1
    have e : n - n / Wp (b :: rb) * Wp (b :: rb) = n % Wp (b :: rb) := by
      have := Nat.div_add_mod n (Wp (b :: rb)); rw [Nat.mul_comm] at this; omega
    rw [wys, List.range_succ, List.flatMap_append, List.flatMap_cons, List.flatMap_nil, List.append_nil, List.length_append, List.getElem?_append_right (by rw [List.length_map]; omega), List.length_map]
    rw [show ∀ A B : Nat, 0 < B → A + B - 1 - A = B - 1 from fun A B h => by omega]
    · rw [List.getElem?_map, ih, e]
      show some _ = _
      rw [show Wp (b :: rb) = Wp rb * b from rfl, dg_mod, Nat.mod_mul_right_div_self]
      rfl
    · exact ne
open L2
theorem next_at {b : Nat} {rb : List Nat} (h : ∀ y ∈ b :: rb, 0 < y) {n a : Nat} {v : List Nat} (hv : (wys (b :: rb) n)[a]? = some v) : ∃ (m a1 : Nat) (v' : List Nat), v = v' ++ [m] ∧ m * Wp (b :: rb) ≤ n ∧ (wys rb (n - m * Wp (b :: rb)))[a1]? = some v' ∧
    (∀ w, (wys rb (n - m * Wp (b :: rb)))[a1 + 1]? = some w → (wys (b :: rb) n)[a + 1]? = some (w ++ [m])) ∧
    ((wys rb (n - m * Wp (b :: rb)))[a1 + 1]? = none → (Wp (b :: rb) ≤ n - m * Wp (b :: rb) → (wys (b :: rb) n)[a + 1]? = some ((n - m * Wp (b :: rb) - Wp (b :: rb)) :: List.replicate rb.length 0 ++ [m + 1])) ∧ (¬ Wp (b :: rb) ≤ n - m * Wp (b :: rb) → (wys (b :: rb) n)[a + 1]? = none)) := by
  have p := Wp_pos h
  obtain ⟨m, a1, v', m1, m2, m3, m4⟩ := pos_split h (List.getElem?_eq_some_iff.mp hv).1
  rw [m4] at hv; cases hv
  have la := (List.getElem?_eq_some_iff.mp m2).1
  have st : ∀ i, pfx b rb n (i + 1) = pfx b rb n i + ((wys rb (n - i * Wp (b :: rb))).length : Int) := fun i => rfl
  have hp : ∀ i, sm (fun i => (((wys rb (n - i * Wp (b :: rb))).map (· ++ [i])).length : Int)) i = pfx b rb n i := fun i => sm_congr fun i ψ => by rw [List.length_map]
  have tot : ((wys (b :: rb) n).length : Int) = pfx b rb n (n / Wp (b :: rb) + 1) := by rw [wys, len_fm, hp]
  have mq : m ≤ n / Wp (b :: rb) := (Nat.le_div_iff_mul_le p).mpr m1
  refine ⟨m, a1, v', rfl, m1, m2, fun w hw => ?_, fun hn => ⟨fun hW => ?_, fun hW => ?_⟩⟩
  · have lw := (List.getElem?_eq_some_iff.mp hw).1
    have s1 := st m
    rw [wys, get_fm (fun m => (wys rb (n - m * Wp (b :: rb))).map (· ++ [m])) (a + 1) m (n / Wp (b :: rb) + 1) (by omega) (by rw [hp]; omega) (by rw [hp]; omega), hp]
    rw [show (((a + 1 : Nat) : Int) - pfx b rb n m).toNat = a1 + 1 by omega, List.getElem?_map, hw]
    rfl
  · have lw : (wys rb (n - m * Wp (b :: rb))).length ≤ a1 + 1 := List.getElem?_eq_none_iff.mp hn
    have s1 := st m
    have s2 := st (m + 1)
    have m2' : (m + 1) * Wp (b :: rb) ≤ n := by rw [Nat.add_mul, Nat.one_mul]; omega
    have mq' : m + 1 ≤ n / Wp (b :: rb) := (Nat.le_div_iff_mul_le p).mpr m2'
    have ne := wys_ne rb (n - (m + 1) * Wp (b :: rb))
    rw [wys, get_fm (fun m => (wys rb (n - m * Wp (b :: rb))).map (· ++ [m])) (a + 1) (m + 1) (n / Wp (b :: rb) + 1) (by omega) (by rw [hp]; omega) (by rw [hp]; omega), hp]
    rw [show (((a + 1 : Nat) : Int) - pfx b rb n (m + 1)).toNat = 0 by omega, List.getElem?_map, ne.2]
    rw [show n - (m + 1) * Wp (b :: rb) = n - m * Wp (b :: rb) - Wp (b :: rb) by rw [Nat.add_mul, Nat.one_mul, Nat.sub_sub]]
    rfl
  · have lw : (wys rb (n - m * Wp (b :: rb))).length ≤ a1 + 1 := List.getElem?_eq_none_iff.mp hn
    have s1 := st m
    have mm : m = n / Wp (b :: rb) := by
      rcases Nat.lt_or_ge m (n / Wp (b :: rb)) with z | z
      · have := (Nat.le_div_iff_mul_le p).mp (show m + 1 ≤ n / Wp (b :: rb) from z)
        rw [Nat.add_mul, Nat.one_mul] at this
        omega
      · omega
    rw [← mm] at tot
    exact List.getElem?_eq_none_iff.mpr (by omega)
noncomputable def top (i : Nat) : Stmt := PySem.Challenge.pw_mixedscales_k56_whole_ways_one_by_one.main.body.getD i (.Pass ⟨0, 0, 0, 0⟩)
noncomputable def wkT (_ : Wd) : Prop := True
structure Tx (K : PySem.W.Frag) (mg : L2.SV) : Prop where
  t : True
  x_TooGreat : XOk K mg "TooGreat"
noncomputable def wkL (T_q0 : Addr) (W : Wd) : Prop := TabW W T_q0 ⟨48, 31, 48, 84⟩ (("fewer_than_most" : Str) ++ ".<locals>." ++ "<lambda>")
section
variable {P : Program} {w : World} {K : PySem.W.Frag} {mg : L2.SV} {base : Heap} {T_q0 : Addr}
noncomputable abbrev s_q6 : Stmt := top 4
noncomputable abbrev N_q6 : List Str := ["low", "high", "holds", "least", "known", "middle"]
noncomputable abbrev p_q6 : List Str := ["low", "high", "holds"]
theorem sc_q6 : FnScope N_q6 p_q6 (defScope s_q6) := ⟨rfl, rfl, rfl, by decide +kernel, rfl, by decide +kernel, by decide +kernel⟩
noncomputable abbrev b_q6 : List Bool := [false, false, false]
noncomputable def B_q6_0 (p : Ff) : Sf := (sSeq (sSet 5 (eOp uDiv (eOp uAdd (eVar 3) (eVar 4)) (eC (.int 2))))
      (sIf (tfB (eCallP 2 p (aCons (eVar 5) aNil))) (sSet 4 (eVar 5)) (sSet 3 (eOp uAdd (eVar 5) (eC (.int 1))))))
noncomputable def g_q6 (p : Ff) : Sf := (sSeq (sSet 3 (eVar 0))
      (sSeq (sSet 4 (eVar 1))
      (sSeq (sWh (tfB (eOp uLt (eVar 3) (eVar 4))) (B_q6_0 p))
      (sRet (eVar 4)))))
noncomputable def F_q6 (p : Ff) : Ff := runU N_q6.length (g_q6 p)
theorem ok_q6 {p : Ff} {f : Addr} {fd : FuncData} (F : Fun K "least_that" "least_that" s_q6 f fd) (B : Bl mg) (kt : Kt K) (T : Tx K mg)  : FnOk P w K mg base (CX1 P w) 3 f fd p_q6 (spU K mg (LamWk P w K mg base 2 p) b_q6.length b_q6 (F_q6 p)) := by
  have nd := sc_q6.nd
  refine F.okQ (N := N_q6) (ps := p_q6) (bs := b_q6) (wk := (LamWk P w K mg base 2 p)) (m := ⟨[], []⟩) (g := (g_q6 p)) sc_q6 rfl rfl (by decide) fun cdv A outer s H E W hK hm hw hr hA => ?_
  subst hK; subst hm
  have cx := ctx_def (W := W) (P := P) (w := w) (base := base) (N := N_q6) (outer := outer) (H := H) (E := E) rfl rfl hr
  exact (qk_cons (qs_set 3 (fun ψ => nd) (qe_var 0))
      (qk_cons (qs_set 4 (fun ψ => nd) (qe_var 1))
      (qk_cons (qs_while pw_def (qt_lt (qb_var 3) (qb_var 4)) (qss_cons (qs_set 5 (fun ψ => nd) (qe_div (QE.tb (qe_add cx (qb_var 3) (qb_var 4))) (QE.tb qe_int)) (hs := fun ψ => sw_binop))
      (qss_one (qs_if (qt_val (QE.tb (qe_callP 2 cx hw (hr.mono (by decide)) (qa_b (qb_var 5) qa_nil)))) (qss_one (qs_set 4 (fun ψ => nd) (qe_var 5))) (qss_one (qs_set 3 (fun ψ => nd) (qe_add cx (qb_var 5) (QE.tb qe_int)) (hs := fun ψ => sw_binop)))))))
      (qk_one (qs_ret (qe_var 4))))))
noncomputable abbrev s_paid : Stmt := top 6
noncomputable abbrev N_paid : List Str := ["scale", "number", "row", "left", "base"]
noncomputable abbrev p_paid : List Str := ["scale", "number"]
theorem sc_paid : FnScope N_paid p_paid (defScope s_paid) := ⟨rfl, rfl, rfl, by decide +kernel, rfl, by decide +kernel, by decide +kernel⟩
noncomputable abbrev b_paid : List Bool := [true, false]
noncomputable def B_paid_0 : Sf := (sSeq (sApp 2 (eOp uMod (eVar 3) (eVar 4)))
      (sSet 3 (eOp uDiv (eVar 3) (eVar 4))))
noncomputable def g_paid : Sf := (sSeq (sSet 2 (eLst aNil))
      (sSeq (sSet 3 (eVar 1))
      (sSeq (sFor (iOf (eOp uIx (eVar 0) (eC (.int 0)))) (aName 4) B_paid_0)
      (sSeq (sApp 2 (eVar 3))
      (sRet (eTup (aCons (eB uTuple (aCons (eVar 2) aNil)) (aCons (eB uSumU (aCons (eVar 2) aNil)) aNil))))))))
noncomputable def F_paid : Ff := runU N_paid.length g_paid
theorem ok_paid {f : Addr} {fd : FuncData} (F : Fun K "paid" "paid" s_paid f fd) (B : Bl mg) (kt : Kt K) (T : Tx K mg)  : FnOk P w K mg base (CX1 P w) 1 f fd p_paid (spU K mg wkT b_paid.length b_paid F_paid) := by
  have nd := sc_paid.nd
  refine F.okQ (N := N_paid) (ps := p_paid) (bs := b_paid) (wk := wkT) (m := ⟨[0], [2]⟩) (g := g_paid) sc_paid rfl rfl (by decide) fun cdv A outer s H E W hK hm hw hr hA => ?_
  subst hK; subst hm
  have cx := ctx_def (W := W) (P := P) (w := w) (base := base) (N := N_paid) (outer := outer) (H := H) (E := E) rfl rfl hr
  exact (qk_cons (qs_own 2 (fun ψ => nd) (qf_lst qa_nil) (hs := fun ψ => sw_list))
      (qk_cons (qs_set 3 (fun ψ => nd) (qe_var 1))
      (qk_cons (qs_for cx pw_def (qi_e cx (qe_ix cx (qb_var 0) (QE.tb qe_int))) (qg_name 4 (fun ψ => nd)) (qss_cons (qs_app 2 cx (qe_mod (qb_var 3) (qb_var 4)))
      (qss_one (qs_set 3 (fun ψ => nd) (qe_div (qb_var 3) (qb_var 4)) (hs := fun ψ => sw_binop)))))
      (qk_cons (qs_app 2 cx (qe_var 3))
      (qk_one (qs_ret (qe_tup (qa_e (qe_tuple cx B (qb_var 2)) (qa_e (qe_sumU cx B (qb_var 2)) qa_nil)))))))))
noncomputable abbrev s_q13 : Stmt := top 13
noncomputable abbrev N_q13 : List Str := ["table", "at", "value", "choices", "steps", "many"]
noncomputable abbrev p_q13 : List Str := ["table", "at"]
theorem sc_q13 : FnScope N_q13 p_q13 (defScope s_q13) := ⟨rfl, rfl, rfl, by decide +kernel, rfl, by decide +kernel, by decide +kernel⟩
noncomputable abbrev b_q13 : List Bool := [false, true]
noncomputable def B_q13_0 : Sf := (sSeq (sAug 2 uAddI (eOp uMul (eOp uIx (eVar 4) (eC (.int 0))) (eVar 3)))
      (sSeq (sSet 3 (eOp uDiv (eOp uMul (eVar 3) (eOp uSub (eVar 1) (eVar 5))) (eOp uAdd (eVar 5) (eC (.int 1)))))
      (sSet 4 (eComp (iArgs uZipL (aCons (eVar 4) (aCons (eSl uSl (eVar 4) (pSome (eC (.int 1))) pNo) aNil))) 2 [] (aTup 2 (aConsT (aName 0) (aConsT (aName 1) aNilT))) tfTrue (eOp uSub (eVar 1) (eVar 0))))))
noncomputable def g_q13 : Sf := (sSeq (sSet 2 (eC (.int 0)))
      (sSeq (sSet 3 (eC (.int 1)))
      (sSeq (sSet 4 (eVar 0))
      (sSeq (sFor (iArgs uR1 (aCons (eB uLen (aCons (eVar 0) aNil)) aNil)) (aName 5) B_q13_0)
      (sRet (eVar 2))))))
noncomputable def F_q13 : Ff := runU N_q13.length g_q13
theorem ok_q13 {f : Addr} {fd : FuncData} (F : Fun K "value_at" "value_at" s_q13 f fd) (B : Bl mg) (kt : Kt K) (T : Tx K mg)  : FnOk P w K mg base (CX1 P w) 1 f fd p_q13 (spU K mg wkT b_q13.length b_q13 F_q13) := by
  have nd := sc_q13.nd
  refine F.okQ (N := N_q13) (ps := p_q13) (bs := b_q13) (wk := wkT) (m := ⟨[1], []⟩) (g := g_q13) sc_q13 rfl rfl (by decide) fun cdv A outer s H E W hK hm hw hr hA => ?_
  subst hK; subst hm
  have cx := ctx_def (W := W) (P := P) (w := w) (base := base) (N := N_q13) (outer := outer) (H := H) (E := E) rfl rfl hr
  exact (qk_cons (qs_set 2 (fun ψ => nd) qe_int)
      (qk_cons (qs_set 3 (fun ψ => nd) qe_int)
      (qk_cons (qs_set 4 (fun ψ => nd) (qe_var 0))
      (qk_cons (qs_for cx pw_def (qi_r1 cx B (qa_b (QE.tb (qe_len cx B (qb_var 0))) qa_nil)) (qg_name 5 (fun ψ => nd)) (qss_cons (qs_aug 2 (fun ψ => nd) (fun ψ => iop_add) ou_addI (QE.tb (qe_mul (QE.tb (qe_ix cx (qb_var 4) (QE.tb qe_int))) (qb_var 3))))
      (qss_cons (qs_set 3 (fun ψ => nd) (qe_div (QE.tb (qe_mul (qb_var 3) (QE.tb (qe_sub (qb_var 1) (qb_var 5))))) (QE.tb (qe_add cx (qb_var 5) (QE.tb qe_int)))) (hs := fun ψ => sw_binop))
      (qss_one (qs_setC (bs := ["before", "after"]) false 4 ⟨[], []⟩ cx nd (comp_ok rfl (by rfl) rfl (by rfl) (by rfl) .nil .nil) (qi_zipL cx B (qa_b (qb_var 4) (qa_b (QE.tb (qe_sl cx (qb_var 4) (qp_some (QE.tb qe_int)) qp_none)) qa_nil))) (qg_tup (n := 2) cx.blk (qgs_cons (qg_name 0 (fun ψ => (show (["before", "after"] : List Str).Nodup by decide +kernel))) (qgs_cons (qg_name 1 (fun ψ => (show (["before", "after"] : List Str).Nodup by decide +kernel))) qgs_nil))) qts_nil (qe_sub (qb_var 1) (qb_var 0)))))))
      (qk_one (qs_ret (qe_var 2)))))))
noncomputable abbrev s_q7 : Stmt := top 12
noncomputable abbrev N_q7 : List Str := ["table", "digit", "base", "sums", "whole", "pieces"]
noncomputable abbrev p_q7 : List Str := ["table", "digit", "base"]
theorem sc_q7 : FnScope N_q7 p_q7 (defScope s_q7) := ⟨rfl, rfl, rfl, by decide +kernel, rfl, by decide +kernel, by decide +kernel⟩
noncomputable abbrev b_q7 : List Bool := [false, true, true]
noncomputable def B_q7_0 : Sf := (sSeq (sAug 4 uAddI (eCall F_q13 (aCons (eVar 0) (aCons (eOp uAdd (eVar 1) (eOp uMul (eVar 5) (eVar 2))) aNil))))
      (sApp 3 (eVar 4)))
noncomputable def g_q7 : Sf := (sSeq (sSet 3 (eLst aNil))
      (sSeq (sSet 4 (eC (.int 0)))
      (sSeq (sFor (iArgs uR1 (aCons (eOp uAdd (eB uLen (aCons (eVar 0) aNil)) (eC (.int 1))) aNil)) (aName 5) B_q7_0)
      (sRet (eVar 3)))))
noncomputable def F_q7 : Ff := runU N_q7.length g_q7
theorem ok_q7 {f : Addr} {fd : FuncData} (F : Fun K "next_table" "next_table" s_q7 f fd) (B : Bl mg) (kt : Kt K) (T : Tx K mg) {a_q13 : Addr} {d_q13 : FuncData} (c_q13 : Fn P w K mg base (CX1 P w) 1 "value_at" a_q13 d_q13 p_q13 (spU K mg wkT b_q13.length b_q13 F_q13)) : FnOk P w K mg base (CX1 P w) 2 f fd p_q7 (spU K mg wkT b_q7.length b_q7 F_q7) := by
  have nd := sc_q7.nd
  refine F.okQ (N := N_q7) (ps := p_q7) (bs := b_q7) (wk := wkT) (m := ⟨[1, 2], [3]⟩) (g := g_q7) sc_q7 rfl rfl (by decide) fun cdv A outer s H E W hK hm hw hr hA => ?_
  subst hK; subst hm
  have cx := ctx_def (W := W) (P := P) (w := w) (base := base) (N := N_q7) (outer := outer) (H := H) (E := E) rfl rfl hr
  have hw_q13 : wkT W := trivial
  exact (qk_cons (qs_own 3 (fun ψ => nd) (qf_lst qa_nil) (hs := fun ψ => sw_list))
      (qk_cons (qs_set 4 (fun ψ => nd) qe_int)
      (qk_cons (qs_for cx pw_def (qi_r1 cx B (qa_b (QE.tb (qe_add cx (QE.tb (qe_len cx B (qb_var 0))) (QE.tb qe_int))) qa_nil)) (qg_name 5 (fun ψ => nd)) (qss_cons (qs_aug 4 (fun ψ => nd) (fun ψ => iop_add) ou_addI (QE.tb (qe_call cx (fun ψ => c_q13) (fun ψ => hr.mono (by decide)) hw_q13 (qa_e (qe_var 0) (qa_b (QE.tb (qe_add cx (qb_var 1) (QE.tb (qe_mul (qb_var 5) (qb_var 2))))) qa_nil)))))
      (qss_one (qs_app 3 cx (qe_var 4)))))
      (qk_one (qs_ret (qe_var 3))))))
noncomputable abbrev s_q8 : Stmt := top 11
noncomputable abbrev N_q8 : List Str := ["scale", "number", "tables", "left", "base"]
noncomputable abbrev p_q8 : List Str := ["scale", "number"]
theorem sc_q8 : FnScope N_q8 p_q8 (defScope s_q8) := ⟨rfl, rfl, rfl, by decide +kernel, rfl, by decide +kernel, by decide +kernel⟩
noncomputable abbrev b_q8 : List Bool := [true, false]
noncomputable def B_q8_0 : Sf := (sSeq (sApp 2 (eCall F_q7 (aCons (eOp uIx (eVar 2) (eUn uNeg (eC (.int 1)))) (aCons (eOp uMod (eVar 3) (eVar 4)) (aCons (eVar 4) aNil)))))
      (sSet 3 (eOp uDiv (eVar 3) (eVar 4))))
noncomputable def g_q8 : Sf := (sSeq (sSet 2 (eLst (aCons (eLst (aCons (eC (.int 1)) aNil)) aNil)))
      (sSeq (sSet 3 (eVar 1))
      (sSeq (sFor (iOf (eOp uIx (eVar 0) (eC (.int 0)))) (aName 4) B_q8_0)
      (sRet (eVar 2)))))
noncomputable def F_q8 : Ff := runU N_q8.length g_q8
theorem ok_q8 {f : Addr} {fd : FuncData} (F : Fun K "way_tables" "way_tables" s_q8 f fd) (B : Bl mg) (kt : Kt K) (T : Tx K mg) {a_q7 : Addr} {d_q7 : FuncData} (c_q7 : Fn P w K mg base (CX1 P w) 2 "next_table" a_q7 d_q7 p_q7 (spU K mg wkT b_q7.length b_q7 F_q7)) : FnOk P w K mg base (CX1 P w) 3 f fd p_q8 (spU K mg wkT b_q8.length b_q8 F_q8) := by
  have nd := sc_q8.nd
  refine F.okQ (N := N_q8) (ps := p_q8) (bs := b_q8) (wk := wkT) (m := ⟨[0], [2]⟩) (g := g_q8) sc_q8 rfl rfl (by decide) fun cdv A outer s H E W hK hm hw hr hA => ?_
  subst hK; subst hm
  have cx := ctx_def (W := W) (P := P) (w := w) (base := base) (N := N_q8) (outer := outer) (H := H) (E := E) rfl rfl hr
  have hw_q7 : wkT W := trivial
  exact (qk_cons (qs_own 2 (fun ψ => nd) (qf_lst (qa_e (QF.te (qf_lst (qa_e qe_int qa_nil))) qa_nil)) (hs := fun ψ => sw_list))
      (qk_cons (qs_set 3 (fun ψ => nd) (qe_var 1))
      (qk_cons (qs_for cx pw_def (qi_e cx (qe_ix cx (qb_var 0) (QE.tb qe_int))) (qg_name 4 (fun ψ => nd)) (qss_cons (qs_app 2 cx (qe_call cx (fun ψ => c_q7) (fun ψ => hr.mono (by decide)) hw_q7 (qa_e (qe_ix cx (qb_var 2) (QE.tb (qe_neg (QE.tb qe_int)))) (qa_b (QE.tb (qe_mod (qb_var 3) (qb_var 4))) (qa_b (qb_var 4) qa_nil)))))
      (qss_one (qs_set 3 (fun ψ => nd) (qe_div (qb_var 3) (qb_var 4)) (hs := fun ψ => sw_binop)))))
      (qk_one (qs_ret (qe_var 2))))))
noncomputable abbrev s_q12 : Stmt := top 10
noncomputable abbrev N_q12 : List Str := ["scale", "worths", "base"]
noncomputable abbrev p_q12 : List Str := ["scale"]
theorem sc_q12 : FnScope N_q12 p_q12 (defScope s_q12) := ⟨rfl, rfl, rfl, by decide +kernel, rfl, by decide +kernel, by decide +kernel⟩
noncomputable abbrev b_q12 : List Bool := [true]
noncomputable def B_q12_0 : Sf := (sApp 1 (eOp uMul (eOp uIx (eVar 1) (eUn uNeg (eC (.int 1)))) (eVar 2)))
noncomputable def g_q12 : Sf := (sSeq (sSet 1 (eLst (aCons (eC (.int 1)) aNil)))
      (sSeq (sFor (iOf (eOp uIx (eVar 0) (eC (.int 0)))) (aName 2) B_q12_0)
      (sRet (eVar 1))))
noncomputable def F_q12 : Ff := runU N_q12.length g_q12
theorem ok_q12 {f : Addr} {fd : FuncData} (F : Fun K "worths_of" "worths_of" s_q12 f fd) (B : Bl mg) (kt : Kt K) (T : Tx K mg)  : FnOk P w K mg base (CX1 P w) 1 f fd p_q12 (spU K mg wkT b_q12.length b_q12 F_q12) := by
  have nd := sc_q12.nd
  refine F.okQ (N := N_q12) (ps := p_q12) (bs := b_q12) (wk := wkT) (m := ⟨[0], [1]⟩) (g := g_q12) sc_q12 rfl rfl (by decide) fun cdv A outer s H E W hK hm hw hr hA => ?_
  subst hK; subst hm
  have cx := ctx_def (W := W) (P := P) (w := w) (base := base) (N := N_q12) (outer := outer) (H := H) (E := E) rfl rfl hr
  exact (qk_cons (qs_own 1 (fun ψ => nd) (qf_lst (qa_e qe_int qa_nil)) (hs := fun ψ => sw_list))
      (qk_cons (qs_for cx pw_def (qi_e cx (qe_ix cx (qb_var 0) (QE.tb qe_int))) (qg_name 2 (fun ψ => nd)) (qss_one (qs_app 1 cx (qe_mul (QE.tb (qe_ix cx (qb_var 1) (QE.tb (qe_neg (QE.tb qe_int))))) (qb_var 2)))))
      (qk_one (qs_ret (qe_var 1)))))
noncomputable abbrev s_q11 : Stmt := top 7
noncomputable abbrev N_q11 : List Str := ["scale", "number"]
noncomputable abbrev p_q11 : List Str := ["scale", "number"]
theorem sc_q11 : FnScope N_q11 p_q11 (defScope s_q11) := ⟨rfl, rfl, rfl, by decide +kernel, rfl, by decide +kernel, by decide +kernel⟩
noncomputable abbrev b_q11 : List Bool := [true, false]
noncomputable def g_q11 : Sf := (sRet (eCall F_q13 (aCons (eOp uIx (eCall F_q8 (aCons (eVar 0) (aCons (eVar 1) aNil))) (eUn uNeg (eC (.int 1)))) (aCons (eOp uDiv (eVar 1) (eOp uIx (eCall F_q12 (aCons (eVar 0) aNil)) (eUn uNeg (eC (.int 1))))) aNil))))
noncomputable def F_q11 : Ff := runU N_q11.length g_q11
theorem ok_q11 {f : Addr} {fd : FuncData} (F : Fun K "ways_many" "ways_many" s_q11 f fd) (B : Bl mg) (kt : Kt K) (T : Tx K mg) {a_q13 : Addr} {d_q13 : FuncData} (c_q13 : Fn P w K mg base (CX1 P w) 1 "value_at" a_q13 d_q13 p_q13 (spU K mg wkT b_q13.length b_q13 F_q13)) {a_q8 : Addr} {d_q8 : FuncData} (c_q8 : Fn P w K mg base (CX1 P w) 3 "way_tables" a_q8 d_q8 p_q8 (spU K mg wkT b_q8.length b_q8 F_q8)) {a_q12 : Addr} {d_q12 : FuncData} (c_q12 : Fn P w K mg base (CX1 P w) 1 "worths_of" a_q12 d_q12 p_q12 (spU K mg wkT b_q12.length b_q12 F_q12)) : FnOk P w K mg base (CX1 P w) 4 f fd p_q11 (spU K mg wkT b_q11.length b_q11 F_q11) := by
  have nd := sc_q11.nd
  refine F.okQ (N := N_q11) (ps := p_q11) (bs := b_q11) (wk := wkT) (m := ⟨[0], []⟩) (g := g_q11) sc_q11 rfl rfl (by decide) fun cdv A outer s H E W hK hm hw hr hA => ?_
  subst hK; subst hm
  have cx := ctx_def (W := W) (P := P) (w := w) (base := base) (N := N_q11) (outer := outer) (H := H) (E := E) rfl rfl hr
  have hw_q13 : wkT W := trivial
  have hw_q8 : wkT W := trivial
  have hw_q12 : wkT W := trivial
  exact (qk_one (qs_ret (qe_call cx (fun ψ => c_q13) (fun ψ => hr.mono (by decide)) hw_q13 (qa_e (qe_ix cx (QE.tb (qe_call cx (fun ψ => c_q8) (fun ψ => hr.mono (by decide)) hw_q8 (qa_b (qb_var 0) (qa_e (qe_var 1) qa_nil)))) (QE.tb (qe_neg (QE.tb qe_int)))) (qa_b (QE.tb (qe_div (qb_var 1) (QE.tb (qe_ix cx (QE.tb (qe_call cx (fun ψ => c_q12) (fun ψ => hr.mono (by decide)) hw_q12 (qa_b (qb_var 0) qa_nil))) (QE.tb (qe_neg (QE.tb qe_int))))))) qa_nil)))))
noncomputable abbrev s_q0 : Stmt := top 9
noncomputable abbrev N_q0 : List Str := ["table", "most", "ahead", "every"]
noncomputable abbrev p_q0 : List Str := ["table", "most", "ahead"]
theorem sc_q0 : FnScope N_q0 p_q0 (defScope s_q0) := ⟨rfl, rfl, rfl, by decide +kernel, rfl, by decide +kernel, by decide +kernel⟩
noncomputable abbrev b_q0 : List Bool := [false, false, true]
noncomputable def g_q0 : Sf := (sSeq (sSet 3 (eCall F_q13 (aCons (eVar 0) (aCons (eVar 1) aNil))))
      (sRet (eLeast2 F_q6 (eC (.int 0)) (eVar 1) (eOp uLe (eOp uSub (eVar 2) (eCall F_q13 (aCons (eVar 3) (aCons (eVar 0) aNil)))) (eVar 1)) [2, 3, 0])))
noncomputable def F_q0 : Ff := runU N_q0.length g_q0
theorem ok_q0 {f : Addr} {fd : FuncData} (F : Fun K "fewer_than_most" "fewer_than_most" s_q0 f fd) (B : Bl mg) (kt : Kt K) (T : Tx K mg) {cc : Addr} (hfc : fd.code = .ref cc) (ck : CodB base cc T_q0) (bk : BmB base mg) {a_q13 : Addr} {d_q13 : FuncData} (c_q13 : Fn P w K mg base (CX1 P w) 1 "value_at" a_q13 d_q13 p_q13 (spU K mg wkT b_q13.length b_q13 F_q13)) {a_q6 : Addr} {d_q6 : FuncData} (c_q6 : ∀ p : Ff, Fn P w K mg base (CX1 P w) 3 "least_that" a_q6 d_q6 p_q6 (spU K mg (LamWk P w K mg base 2 p) b_q6.length b_q6 (F_q6 p))) : FnOk P w K mg base (CX1 P w) 4 f fd p_q0 (spU K mg (wkL T_q0) b_q0.length b_q0 F_q0) := by
  have nd := sc_q0.nd
  refine F.okQC (N := N_q0) (ps := p_q0) (bs := b_q0) (wk := (wkL T_q0)) (m := ⟨[2], []⟩) (g := g_q0) hfc sc_q0 rfl rfl (by decide) fun A outer s H E W hK hm hw hr hA => ?_
  subst hK; subst hm
  have cx := ctx_def (W := W) (P := P) (w := w) (base := base) (N := N_q0) (outer := outer) (H := H) (E := E) rfl rfl hr
  have hw_q13 : wkT W := trivial
  exact (qk_cons (qs_set 3 (fun ψ => nd) (qe_call cx (fun ψ => c_q13) (fun ψ => hr.mono (by decide)) hw_q13 (qa_e (qe_var 0) (qa_b (qb_var 1) qa_nil))))
      (qk_one (qs_ret (qe_lam2 (k := 1) (js := [2, 3, 0]) (x := "fewer") (caps := ["ahead", "every", "table"]) cx c_q6 (hr.mono (by decide)) qe_int (qe_var 1) (fun g_ cd_ A_ outer_ s_ H_ hr => have cx := ctx_lam (W := W) (P := P) (w := w) (base := base) (N := ["fewer", "ahead", "every", "table"]) (outer := outer_) (H := H_) rfl rfl hr; (qe_le (QE.tb (qe_sub (qb_var 2) (QE.tb (qe_call cx (fun ψ => c_q13) (fun ψ => hr.mono (by decide)) hw_q13 (qa_e (qe_var 3) (qa_b (qb_var 0) qa_nil)))))) (qb_var 1))) rfl (by rfl) rfl rfl rfl rfl (by rfl) (.cons rfl (.cons rfl (.cons rfl .nil))) (.cons (j := 2) rfl (by first | exact .inl rfl | exact .inr rfl) rfl (by first | exact .inl rfl | exact .inr rfl) (.cons (j := 3) rfl (by first | exact .inl rfl | exact .inr rfl) rfl (by first | exact .inl rfl | exact .inr rfl) (.cons (j := 0) rfl (by first | exact .inl rfl | exact .inr rfl) rfl (by first | exact .inl rfl | exact .inr rfl) .nil))) (by rfl) (by decide) (by rfl) (fun ψ ψ ψ us hl => match us, hl with | [_], _ => rfl) ck bk hw rfl rfl))))
noncomputable abbrev s_q14 : Stmt := top 8
noncomputable abbrev N_q14 : List Str := ["scale", "number", "place", "tables", "worths", "row", "left", "ahead", "piece", "table", "most", "fewer"]
noncomputable abbrev p_q14 : List Str := ["scale", "number", "place"]
theorem sc_q14 : FnScope N_q14 p_q14 (defScope s_q14) := ⟨rfl, rfl, rfl, by decide +kernel, rfl, by decide +kernel, by decide +kernel⟩
noncomputable abbrev b_q14 : List Bool := [true, false, false]
noncomputable def B_q14_0 : Sf := (sSeq (sSet 9 (eOp uIx (eVar 3) (eVar 8)))
      (sSeq (sSet 10 (eOp uDiv (eVar 6) (eOp uIx (eVar 4) (eVar 8))))
      (sSeq (sSet 11 (eCall F_q0 (aCons (eVar 9) (aCons (eVar 10) (aCons (eVar 7) aNil)))))
      (sSeq (sAug 7 uSub (eOp uSub (eCall F_q13 (aCons (eVar 9) (aCons (eVar 10) aNil))) (eCall F_q13 (aCons (eVar 9) (aCons (eVar 11) aNil)))))
      (sSeq (sAug 6 uSub (eOp uMul (eOp uSub (eVar 10) (eVar 11)) (eOp uIx (eVar 4) (eVar 8))))
      (sApp 5 (eOp uSub (eVar 10) (eVar 11))))))))
noncomputable def g_q14 : Sf := (sSeq (sIf (tfOr (tfB (eOp uLt (eVar 2) (eC (.int 0)))) (tfB (eOp uGe (eVar 2) (eCall F_q11 (aCons (eVar 0) (aCons (eVar 1) aNil)))))) (sRaise "TooGreat" (eC (.str "there is no such way"))) sNext)
      (sSeq (sSet 3 (eCall F_q8 (aCons (eVar 0) (aCons (eVar 1) aNil))))
      (sSeq (sSet 4 (eCall F_q12 (aCons (eVar 0) aNil)))
      (sSeq (sSet 5 (eLst aNil))
      (sSeq (sSet 6 (eVar 1))
      (sSeq (sSet 7 (eVar 2))
      (sSeq (sFor (iArgs uR3 (aCons (eOp uSub (eB uLen (aCons (eVar 4) aNil)) (eC (.int 1))) (aCons (eC (.int 0)) (aCons (eUn uNeg (eC (.int 1))) aNil)))) (aName 8) B_q14_0)
      (sSeq (sApp 5 (eVar 6))
      (sSeq (sRevM 5)
      (sRet (eB uTuple (aCons (eVar 5) aNil))))))))))))
noncomputable def F_q14 : Ff := runU N_q14.length g_q14
theorem ok_q14 {f : Addr} {fd : FuncData} (F : Fun K "way_at" "way_at" s_q14 f fd) (B : Bl mg) (kt : Kt K) (T : Tx K mg) {a_q8 : Addr} {d_q8 : FuncData} (c_q8 : Fn P w K mg base (CX1 P w) 3 "way_tables" a_q8 d_q8 p_q8 (spU K mg wkT b_q8.length b_q8 F_q8)) {a_q12 : Addr} {d_q12 : FuncData} (c_q12 : Fn P w K mg base (CX1 P w) 1 "worths_of" a_q12 d_q12 p_q12 (spU K mg wkT b_q12.length b_q12 F_q12)) {a_q0 : Addr} {d_q0 : FuncData} (c_q0 : Fn P w K mg base (CX1 P w) 4 "fewer_than_most" a_q0 d_q0 p_q0 (spU K mg (wkL T_q0) b_q0.length b_q0 F_q0)) {a_q11 : Addr} {d_q11 : FuncData} (c_q11 : Fn P w K mg base (CX1 P w) 4 "ways_many" a_q11 d_q11 p_q11 (spU K mg wkT b_q11.length b_q11 F_q11)) {a_q13 : Addr} {d_q13 : FuncData} (c_q13 : Fn P w K mg base (CX1 P w) 1 "value_at" a_q13 d_q13 p_q13 (spU K mg wkT b_q13.length b_q13 F_q13)) : FnOk P w K mg base (CX1 P w) 5 f fd p_q14 (spU K mg (wkL T_q0) b_q14.length b_q14 F_q14) := by
  have nd := sc_q14.nd
  refine F.okQ (N := N_q14) (ps := p_q14) (bs := b_q14) (wk := (wkL T_q0)) (m := ⟨[0], [5]⟩) (g := g_q14) sc_q14 rfl rfl (by decide) fun cdv A outer s H E W hK hm hw hr hA => ?_
  subst hK; subst hm
  have cx := ctx_def (W := W) (P := P) (w := w) (base := base) (N := N_q14) (outer := outer) (H := H) (E := E) rfl rfl hr
  have hw_q8 : wkT W := trivial
  have hw_q12 : wkT W := trivial
  have hw_q0 : (wkL T_q0) W := hw
  have hw_q11 : wkT W := trivial
  have hw_q13 : wkT W := trivial
  exact (qk_cons (qs_if (QW.t (qw_or (qt_lt (qb_var 2) (QE.tb qe_int)) (qw_or1 (qt_ge (qb_var 2) (QE.tb (qe_call cx (fun ψ => c_q11) (fun ψ => hr.mono (by decide)) hw_q11 (qa_b (qb_var 0) (qa_e (qe_var 1) qa_nil)))))))) (qss_one (qs_raise hA rfl T.x_TooGreat (QE.tb qe_str))) qss_nil)
      (qk_cons (qs_set 3 (fun ψ => nd) (qe_call cx (fun ψ => c_q8) (fun ψ => hr.mono (by decide)) hw_q8 (qa_b (qb_var 0) (qa_e (qe_var 1) qa_nil))))
      (qk_cons (qs_set 4 (fun ψ => nd) (qe_call cx (fun ψ => c_q12) (fun ψ => hr.mono (by decide)) hw_q12 (qa_b (qb_var 0) qa_nil)))
      (qk_cons (qs_own 5 (fun ψ => nd) (qf_lst qa_nil) (hs := fun ψ => sw_list))
      (qk_cons (qs_set 6 (fun ψ => nd) (qe_var 1))
      (qk_cons (qs_set 7 (fun ψ => nd) (qe_var 2))
      (qk_cons (qs_for cx pw_def (qi_r3 cx B (qa_b (QE.tb (qe_sub (QE.tb (qe_len cx B (qb_var 4))) (QE.tb qe_int))) (qa_b (QE.tb qe_int) (qa_b (QE.tb (qe_neg (QE.tb qe_int))) qa_nil)))) (qg_name 8 (fun ψ => nd)) (qss_cons (qs_set 9 (fun ψ => nd) (qe_ix cx (qb_var 3) (qb_var 8)) (hs := fun ψ => sw_sub))
      (qss_cons (qs_set 10 (fun ψ => nd) (qe_div (qb_var 6) (QE.tb (qe_ix cx (qb_var 4) (qb_var 8)))) (hs := fun ψ => sw_binop))
      (qss_cons (qs_set 11 (fun ψ => nd) (qe_call cx (fun ψ => c_q0) (fun ψ => hr.mono (by decide)) hw_q0 (qa_e (qe_var 9) (qa_e (qe_var 10) (qa_b (qb_var 7) qa_nil)))))
      (qss_cons (qs_aug 7 (fun ψ => nd) (fun ψ => iop_sub) ou_sub (QE.tb (qe_sub (QE.tb (qe_call cx (fun ψ => c_q13) (fun ψ => hr.mono (by decide)) hw_q13 (qa_e (qe_var 9) (qa_b (qb_var 10) qa_nil)))) (QE.tb (qe_call cx (fun ψ => c_q13) (fun ψ => hr.mono (by decide)) hw_q13 (qa_e (qe_var 9) (qa_b (qb_var 11) qa_nil)))))))
      (qss_cons (qs_aug 6 (fun ψ => nd) (fun ψ => iop_sub) ou_sub (QE.tb (qe_mul (QE.tb (qe_sub (qb_var 10) (qb_var 11))) (QE.tb (qe_ix cx (qb_var 4) (qb_var 8))))))
      (qss_one (qs_app 5 cx (qe_sub (qb_var 10) (qb_var 11))))))))))
      (qk_cons (qs_app 5 cx (qe_var 6))
      (qk_cons (qs_reverse 5 cx)
      (qk_one (qs_ret (qe_tuple cx B (qb_var 5)))))))))))))
noncomputable abbrev s_q10 : Stmt := top 15
noncomputable abbrev N_q10 : List Str := ["script"]
noncomputable abbrev p_q10 : List Str := ["script"]
theorem sc_q10 : FnScope N_q10 p_q10 (defScope s_q10) := ⟨rfl, rfl, rfl, by decide +kernel, rfl, by decide +kernel, by decide +kernel⟩
noncomputable abbrev b_q10 : List Bool := [false]
noncomputable def g_q10 : Sf := (sRet (eLst (aCons (eVar 0) (aCons (eC (.int 0)) (aCons (eC (.int 0)) (aCons (eC (.int 37199)) (aCons (eC (.int 0)) aNil)))))))
noncomputable def F_q10 : Ff := runU N_q10.length g_q10
theorem ok_q10 {f : Addr} {fd : FuncData} (F : Fun K "_law_pile" "_law_pile" s_q10 f fd) (B : Bl mg) (kt : Kt K) (T : Tx K mg)  : FnOk P w K mg base (CX1 P w) 1 f fd p_q10 (spU K mg wkT b_q10.length b_q10 F_q10) := by
  have nd := sc_q10.nd
  refine F.okQ (N := N_q10) (ps := p_q10) (bs := b_q10) (wk := wkT) (m := ⟨[], []⟩) (g := g_q10) sc_q10 rfl rfl (by decide) fun cdv A outer s H E W hK hm hw hr hA => ?_
  subst hK; subst hm
  have cx := ctx_def (W := W) (P := P) (w := w) (base := base) (N := N_q10) (outer := outer) (H := H) (E := E) rfl rfl hr
  exact (qk_one (qs_ret (QF.te (qf_lst (qa_e (qe_var 0) (qa_e qe_int (qa_e qe_int (qa_e qe_int (qa_e qe_int qa_nil)))))))))
noncomputable abbrev s_q9 : Stmt := top 16
noncomputable abbrev N_q9 : List Str := ["pile", "most", "found", "cell"]
noncomputable abbrev p_q9 : List Str := ["pile", "most"]
theorem sc_q9 : FnScope N_q9 p_q9 (defScope s_q9) := ⟨rfl, rfl, rfl, by decide +kernel, rfl, by decide +kernel, by decide +kernel⟩
noncomputable abbrev b_q9 : List Bool := [true, true]
noncomputable def g_q9 : Sf := (sSeq (sIf (tfB (eOp uGt (ePl 0 1) (eC (.int 0)))) (sSeq (sSet 2 (eOp uMod (ePl 0 1) (eVar 1)))
      (sSeq (sPl 0 1 (eOp uDiv (ePl 0 1) (eVar 1)))
      (sRet (eVar 2)))) sNext)
      (sSeq (sIf (tfB (eOp uLt (ePl 0 0) (ePlLen 0))) (sSeq (sSet 3 (ePlAt 0 0))
      (sSeq (sPl 0 0 (eOp uAdd (ePl 0 0) (eC (.int 1))))
      (sSeq (sPl 0 2 (eOp uMod (eOp uAdd (eOp uMul (ePl 0 2) (eC (.int 69069))) (eVar 3)) (eC (.int 2147483629))))
      (sSeq (sIf (tfB (eOp uGe (eB uAbs (aCons (eVar 3) aNil)) (eOp uPow (eC (.int 10)) (eC (.int 18))))) (sSeq (sPl 0 1 (eOp uDiv (eB uAbs (aCons (eVar 3) aNil)) (eVar 1)))
      (sRet (eOp uMod (eB uAbs (aCons (eVar 3) aNil)) (eVar 1)))) sNext)
      (sRet (eOp uMod (eVar 3) (eVar 1))))))) sNext)
      (sSeq (sPl 0 3 (eOp uAdd (ePl 0 3) (eC (.int 1))))
      (sSeq (sPl 0 2 (eOp uMod (eOp uAdd (eOp uAdd (eOp uMul (ePl 0 2) (ePl 0 2)) (eOp uMul (eC (.int 40014)) (ePl 0 3))) (eC (.int 977))) (eC (.int 2147483629))))
      (sRet (eOp uMod (eOp uDiv (ePl 0 2) (eC (.int 16))) (eVar 1)))))))
noncomputable def F_q9 : Ff := runU N_q9.length g_q9
theorem ok_q9 {f : Addr} {fd : FuncData} (F : Fun K "_law_next" "_law_next" s_q9 f fd) (B : Bl mg) (kt : Kt K) (T : Tx K mg)  : FnOk P w K mg base (CX1 P w) 1 f fd p_q9 (spU K mg PlW b_q9.length b_q9 F_q9) := by
  have nd := sc_q9.nd
  refine F.okQ (N := N_q9) (ps := p_q9) (bs := b_q9) (wk := PlW) (m := ⟨[0, 1], []⟩) (g := g_q9) sc_q9 rfl rfl (by decide) fun cdv A outer s H E W hK hm hw hr hA => ?_
  subst hK; subst hm
  have cx := ctx_def (W := W) (P := P) (w := w) (base := base) (N := N_q9) (outer := outer) (H := H) (E := E) rfl rfl hr
  exact (qk_cons (qs_if (qt_gt (QE.tb (qe_pl 0 1 hw cx)) (QE.tb qe_int)) (qss_cons (qs_set 2 (fun ψ => nd) (qe_mod (QE.tb (qe_pl 0 1 hw cx)) (qb_var 1)) (hs := fun ψ => sw_binop))
      (qss_cons (qs_pl 0 1 hw (qe_div (QE.tb (qe_pl 0 1 hw cx)) (qb_var 1)))
      (qss_one (qs_ret (qe_var 2))))) qss_nil)
      (qk_cons (qs_if (qt_lt (QE.tb (qe_pl 0 0 hw cx)) (QE.tb (qe_plLen 0 hw cx B))) (qss_cons (qs_set 3 (fun ψ => nd) (qe_plAt 0 0 hw cx) (hs := fun ψ => sw_sub))
      (qss_cons (qs_pl 0 0 hw (qe_add cx (QE.tb (qe_pl 0 0 hw cx)) (QE.tb qe_int)))
      (qss_cons (qs_pl 0 2 hw (qe_mod (QE.tb (qe_add cx (QE.tb (qe_mul (QE.tb (qe_pl 0 2 hw cx)) (QE.tb qe_int))) (qb_var 3))) (QE.tb qe_int)))
      (qss_cons (qs_if (qt_ge (QE.tb (qe_abs cx B (qb_var 3))) (QE.tb (qe_pow (QE.tb qe_int) (QE.tb qe_int)))) (qss_cons (qs_pl 0 1 hw (qe_div (QE.tb (qe_abs cx B (qb_var 3))) (qb_var 1)))
      (qss_one (qs_ret (qe_mod (QE.tb (qe_abs cx B (qb_var 3))) (qb_var 1))))) qss_nil)
      (qss_one (qs_ret (qe_mod (qb_var 3) (qb_var 1)))))))) qss_nil)
      (qk_cons (qs_pl 0 3 hw (qe_add cx (QE.tb (qe_pl 0 3 hw cx)) (QE.tb qe_int)))
      (qk_cons (qs_pl 0 2 hw (qe_mod (QE.tb (qe_add cx (QE.tb (qe_add cx (QE.tb (qe_mul (QE.tb (qe_pl 0 2 hw cx)) (QE.tb (qe_pl 0 2 hw cx)))) (QE.tb (qe_mul (QE.tb qe_int) (QE.tb (qe_pl 0 3 hw cx)))))) (QE.tb qe_int))) (QE.tb qe_int)))
      (qk_one (qs_ret (qe_mod (QE.tb (qe_div (QE.tb (qe_pl 0 2 hw cx)) (QE.tb qe_int))) (qb_var 1))))))))
noncomputable abbrev s_q5 : Stmt := top 17
noncomputable abbrev N_q5 : List Str := ["pile", "wide"]
noncomputable abbrev p_q5 : List Str := ["pile"]
theorem sc_q5 : FnScope N_q5 p_q5 (defScope s_q5) := ⟨rfl, rfl, rfl, by decide +kernel, rfl, by decide +kernel, by decide +kernel⟩
noncomputable abbrev b_q5 : List Bool := [true]
noncomputable def g_q5 : Sf := (sSeq (sSet 1 (eOp uIx (eLst (aCons (eC (.int 3)) (aCons (eC (.int 12)) (aCons (eOp uSub (eOp uPow (eC (.int 10)) (eC (.int 6))) (eC (.int 1))) aNil)))) (eCall F_q9 (aCons (eVar 0) (aCons (eC (.int 3)) aNil)))))
      (sRet (eB uTuple (aCons (eComp (iArgs uR1 (aCons (eCall F_q9 (aCons (eVar 0) (aCons (eC (.int 6)) aNil))) aNil)) 1 [0, 1] (aName 0) tfTrue (eOp uAdd (eC (.int 2)) (eCall F_q9 (aCons (eVar 1) (aCons (eVar 2) aNil))))) aNil))))
noncomputable def F_q5 : Ff := runU N_q5.length g_q5
theorem ok_q5 {f : Addr} {fd : FuncData} (F : Fun K "_law_bases" "_law_bases" s_q5 f fd) (B : Bl mg) (kt : Kt K) (T : Tx K mg) {a_q9 : Addr} {d_q9 : FuncData} (c_q9 : Fn P w K mg base (CX1 P w) 1 "_law_next" a_q9 d_q9 p_q9 (spU K mg PlW b_q9.length b_q9 F_q9)) : FnOk P w K mg base (CX1 P w) 2 f fd p_q5 (spU K mg PlW b_q5.length b_q5 F_q5) := by
  have nd := sc_q5.nd
  refine F.okQ (N := N_q5) (ps := p_q5) (bs := b_q5) (wk := PlW) (m := ⟨[0], []⟩) (g := g_q5) sc_q5 rfl rfl (by decide) fun cdv A outer s H E W hK hm hw hr hA => ?_
  subst hK; subst hm
  have cx := ctx_def (W := W) (P := P) (w := w) (base := base) (N := N_q5) (outer := outer) (H := H) (E := E) rfl rfl hr
  have hw_q9 : PlW W := hw
  exact (qk_cons (qs_set 1 (fun ψ => nd) (qe_ix cx (QF.tb (qf_lst (qa_e qe_int (qa_e qe_int (qa_e (qe_sub (QE.tb (qe_pow (QE.tb qe_int) (QE.tb qe_int))) (QE.tb qe_int)) qa_nil))))) (QE.tb (qe_call cx (fun ψ => c_q9) (fun ψ => hr.mono (by decide)) hw_q9 (qa_b (qb_var 0) (qa_b (QE.tb qe_int) qa_nil))))) (hs := fun ψ => sw_sub))
      (qk_one (qs_ret (qe_tuple cx B (QF.tb (qf_comp (bs := ["k"]) ⟨[1], []⟩ cx (comp_ok rfl (by rfl) rfl (by rfl) (by rfl) (.cons rfl (.cons rfl .nil)) (.cons (j := 0) rfl (by first | exact .inl rfl | exact .inr rfl) rfl (by first | exact .inl rfl | exact .inr rfl) (.cons (j := 1) rfl (by first | exact .inl rfl | exact .inr rfl) rfl (by first | exact .inl rfl | exact .inr rfl) .nil))) (qi_r1 cx B (qa_b (QE.tb (qe_call cx (fun ψ => c_q9) (fun ψ => hr.mono (by decide)) hw_q9 (qa_b (qb_var 0) (qa_b (QE.tb qe_int) qa_nil)))) qa_nil)) (qg_name 0 (fun ψ => (show (["k", "pile", "wide"] : List Str).Nodup by decide +kernel))) qts_nil (qe_add cx.blk (QE.tb qe_int) (QE.tb (qe_call cx.blk (fun ψ => c_q9) (fun ψ => hr.mono (by decide)) hw_q9 (qa_b (qb_var 1) (qa_b (qb_var 2) qa_nil)))))))))))
noncomputable abbrev s_q4 : Stmt := top 18
noncomputable abbrev N_q4 : List Str := ["bases", "found", "base"]
noncomputable abbrev p_q4 : List Str := ["bases"]
theorem sc_q4 : FnScope N_q4 p_q4 (defScope s_q4) := ⟨rfl, rfl, rfl, by decide +kernel, rfl, by decide +kernel, by decide +kernel⟩
noncomputable abbrev b_q4 : List Bool := [true]
noncomputable def B_q4_0 : Sf := (sApp 1 (eOp uMul (eOp uIx (eVar 1) (eUn uNeg (eC (.int 1)))) (eVar 2)))
noncomputable def g_q4 : Sf := (sSeq (sSet 1 (eLst (aCons (eC (.int 1)) aNil)))
      (sSeq (sFor (iOf (eVar 0)) (aName 2) B_q4_0)
      (sRet (eVar 1))))
noncomputable def F_q4 : Ff := runU N_q4.length g_q4
theorem ok_q4 {f : Addr} {fd : FuncData} (F : Fun K "_law_worths" "_law_worths" s_q4 f fd) (B : Bl mg) (kt : Kt K) (T : Tx K mg)  : FnOk P w K mg base (CX1 P w) 1 f fd p_q4 (spU K mg wkT b_q4.length b_q4 F_q4) := by
  have nd := sc_q4.nd
  refine F.okQ (N := N_q4) (ps := p_q4) (bs := b_q4) (wk := wkT) (m := ⟨[0], [1]⟩) (g := g_q4) sc_q4 rfl rfl (by decide) fun cdv A outer s H E W hK hm hw hr hA => ?_
  subst hK; subst hm
  have cx := ctx_def (W := W) (P := P) (w := w) (base := base) (N := N_q4) (outer := outer) (H := H) (E := E) rfl rfl hr
  exact (qk_cons (qs_own 1 (fun ψ => nd) (qf_lst (qa_e qe_int qa_nil)) (hs := fun ψ => sw_list))
      (qk_cons (qs_for cx pw_def (qi_v 0 cx) (qg_name 2 (fun ψ => nd)) (qss_one (qs_app 1 cx (qe_mul (QE.tb (qe_ix cx (qb_var 1) (QE.tb (qe_neg (QE.tb qe_int))))) (qb_var 2)))))
      (qk_one (qs_ret (qe_var 1)))))
noncomputable abbrev s_q1 : Stmt := top 19
noncomputable abbrev N_q1 : List Str := ["worths", "way", "left", "k"]
noncomputable abbrev p_q1 : List Str := ["worths", "way"]
theorem sc_q1 : FnScope N_q1 p_q1 (defScope s_q1) := ⟨rfl, rfl, rfl, by decide +kernel, rfl, by decide +kernel, by decide +kernel⟩
noncomputable abbrev b_q1 : List Bool := [true, true]
noncomputable def B_q1_0 : Sf := (sSeq (sSet 2 (eOp uAdd (eVar 2) (eOp uMul (eOp uIx (eVar 1) (eOp uSub (eVar 3) (eC (.int 1)))) (eOp uIx (eVar 0) (eOp uSub (eVar 3) (eC (.int 1)))))))
      (sIf (tfB (eOp uGe (eVar 2) (eOp uIx (eVar 0) (eVar 3)))) (sRet (eOp uAdd (eOp uAdd (eOp uAdd (eTup (aCons (eOp uSub (eVar 2) (eOp uIx (eVar 0) (eVar 3))) aNil)) (eOp uRep (eTup (aCons (eC (.int 0)) aNil)) (eOp uSub (eVar 3) (eC (.int 1))))) (eTup (aCons (eOp uAdd (eOp uIx (eVar 1) (eVar 3)) (eC (.int 1))) aNil))) (eSl uSl (eVar 1) (pSome (eOp uAdd (eVar 3) (eC (.int 1)))) pNo))) sNext))
noncomputable def g_q1 : Sf := (sSeq (sSet 2 (eC (.int 0)))
      (sSeq (sFor (iArgs uR2 (aCons (eC (.int 1)) (aCons (eB uLen (aCons (eVar 0) aNil)) aNil))) (aName 3) B_q1_0)
      (sRet (eC .non))))
noncomputable def F_q1 : Ff := runU N_q1.length g_q1
theorem ok_q1 {f : Addr} {fd : FuncData} (F : Fun K "_law_next_way" "_law_next_way" s_q1 f fd) (B : Bl mg) (kt : Kt K) (T : Tx K mg)  : FnOk P w K mg base (CX1 P w) 1 f fd p_q1 (spU K mg wkT b_q1.length b_q1 F_q1) := by
  have nd := sc_q1.nd
  refine F.okQ (N := N_q1) (ps := p_q1) (bs := b_q1) (wk := wkT) (m := ⟨[0, 1], []⟩) (g := g_q1) sc_q1 rfl rfl (by decide) fun cdv A outer s H E W hK hm hw hr hA => ?_
  subst hK; subst hm
  have cx := ctx_def (W := W) (P := P) (w := w) (base := base) (N := N_q1) (outer := outer) (H := H) (E := E) rfl rfl hr
  exact (qk_cons (qs_set 2 (fun ψ => nd) qe_int)
      (qk_cons (qs_for cx pw_def (qi_r2 cx B (qa_b (QE.tb qe_int) (qa_b (QE.tb (qe_len cx B (qb_var 0))) qa_nil))) (qg_name 3 (fun ψ => nd)) (qss_cons (qs_set 2 (fun ψ => nd) (qe_add cx (qb_var 2) (QE.tb (qe_mul (QE.tb (qe_ix cx (qb_var 1) (QE.tb (qe_sub (qb_var 3) (QE.tb qe_int))))) (QE.tb (qe_ix cx (qb_var 0) (QE.tb (qe_sub (qb_var 3) (QE.tb qe_int)))))))) (hs := fun ψ => sw_binop))
      (qss_one (qs_if (qt_ge (qb_var 2) (QE.tb (qe_ix cx (qb_var 0) (qb_var 3)))) (qss_one (qs_ret (qe_add cx (QE.tb (qe_add cx (QE.tb (qe_add cx (QE.tb (qe_tup (qa_e (qe_sub (qb_var 2) (QE.tb (qe_ix cx (qb_var 0) (qb_var 3)))) qa_nil))) (QE.tb (qe_rep (QE.tb (qe_tup (qa_e qe_int qa_nil))) (QE.tb (qe_sub (qb_var 3) (QE.tb qe_int))))))) (QE.tb (qe_tup (qa_e (qe_add cx (QE.tb (qe_ix cx (qb_var 1) (qb_var 3))) (QE.tb qe_int)) qa_nil))))) (QE.tb (qe_sl cx (qb_var 1) (qp_some (QE.tb (qe_add cx (qb_var 3) (QE.tb qe_int)))) qp_none))))) qss_nil))))
      (qk_one (qs_ret qe_non))))
noncomputable abbrev s_q2 : Stmt := top 20
noncomputable abbrev N_q2 : List Str := ["worths", "number", "found", "worth"]
noncomputable abbrev p_q2 : List Str := ["worths", "number"]
theorem sc_q2 : FnScope N_q2 p_q2 (defScope s_q2) := ⟨rfl, rfl, rfl, by decide +kernel, rfl, by decide +kernel, by decide +kernel⟩
noncomputable abbrev b_q2 : List Bool := [true, false]
noncomputable def B_q2_0 : Sf := (sSeq (sApp 2 (eOp uDiv (eVar 1) (eVar 3)))
      (sSet 1 (eOp uMod (eVar 1) (eVar 3))))
noncomputable def g_q2 : Sf := (sSeq (sSet 2 (eLst aNil))
      (sSeq (sFor (iOf (eRev (eVar 0) (pSome (eUn uNeg (eC (.int 1)))))) (aName 3) B_q2_0)
      (sRet (eB uTuple (aCons (eRev (eVar 2) (pSome (eUn uNeg (eC (.int 1))))) aNil)))))
noncomputable def F_q2 : Ff := runU N_q2.length g_q2
theorem ok_q2 {f : Addr} {fd : FuncData} (F : Fun K "_law_fewest" "_law_fewest" s_q2 f fd) (B : Bl mg) (kt : Kt K) (T : Tx K mg)  : FnOk P w K mg base (CX1 P w) 1 f fd p_q2 (spU K mg wkT b_q2.length b_q2 F_q2) := by
  have nd := sc_q2.nd
  refine F.okQ (N := N_q2) (ps := p_q2) (bs := b_q2) (wk := wkT) (m := ⟨[0], [2]⟩) (g := g_q2) sc_q2 rfl rfl (by decide) fun cdv A outer s H E W hK hm hw hr hA => ?_
  subst hK; subst hm
  have cx := ctx_def (W := W) (P := P) (w := w) (base := base) (N := N_q2) (outer := outer) (H := H) (E := E) rfl rfl hr
  exact (qk_cons (qs_own 2 (fun ψ => nd) (qf_lst qa_nil) (hs := fun ψ => sw_list))
      (qk_cons (qs_for cx pw_def (qi_e cx (qe_rev cx (qb_var 0) (qp_some (QE.tb (qe_neg (QE.tb qe_int)))))) (qg_name 3 (fun ψ => nd)) (qss_cons (qs_app 2 cx (qe_div (qb_var 1) (qb_var 3)))
      (qss_one (qs_set 1 (fun ψ => nd) (qe_mod (qb_var 1) (qb_var 3)) (hs := fun ψ => sw_binop)))))
      (qk_one (qs_ret (qe_tuple cx B (QE.tb (qe_rev cx (qb_var 2) (qp_some (QE.tb (qe_neg (QE.tb qe_int)))))))))))
noncomputable abbrev s_q3 : Stmt := top 21
noncomputable abbrev N_q3 : List Str := ["worths", "way", "number"]
noncomputable abbrev p_q3 : List Str := ["worths", "way", "number"]
theorem sc_q3 : FnScope N_q3 p_q3 (defScope s_q3) := ⟨rfl, rfl, rfl, by decide +kernel, rfl, by decide +kernel, by decide +kernel⟩
noncomputable abbrev b_q3 : List Bool := [false, false, true]
noncomputable def g_q3 : Sf := (sSeq (sIf (tfOr (tfNot (tfB (eB uIsT (aCons (eVar 1) (aCons (eC (.ty "tuple")) aNil))))) (tfB (eOp uNe (eB uLen (aCons (eVar 1) aNil)) (eB uLen (aCons (eVar 0) aNil))))) (sRet (eC (.bl false))) sNext)
      (sSeq (sIf (tfB (eOp uNe (eComp (iOf (eVar 1)) 1 [] (aName 0) (tfOr (tfB (eB uIsT (aCons (eVar 0) (aCons (eC (.ty "bool")) aNil)))) (tfOr (tfNot (tfB (eB uIsT (aCons (eVar 0) (aCons (eC (.ty "int")) aNil))))) (tfB (eOp uLt (eVar 0) (eC (.int 0)))))) (eVar 0)) (eLst aNil))) (sRet (eC (.bl false))) sNext)
      (sRet (eOp uEq (eB uSumU (aCons (eComp (iArgs uZip (aCons (eVar 1) (aCons (eVar 0) aNil))) 2 [] (aTup 2 (aConsT (aName 0) (aConsT (aName 1) aNilT))) tfTrue (eOp uMul (eVar 0) (eVar 1))) aNil)) (eVar 2)))))
noncomputable def F_q3 : Ff := runU N_q3.length g_q3
theorem ok_q3 {f : Addr} {fd : FuncData} (F : Fun K "_law_is_way" "_law_is_way" s_q3 f fd) (B : Bl mg) (kt : Kt K) (T : Tx K mg)  : FnOk P w K mg base (CX1 P w) 1 f fd p_q3 (spU K mg wkT b_q3.length b_q3 F_q3) := by
  have nd := sc_q3.nd
  refine F.okQ (N := N_q3) (ps := p_q3) (bs := b_q3) (wk := wkT) (m := ⟨[2], []⟩) (g := g_q3) sc_q3 rfl rfl (by decide) fun cdv A outer s H E W hK hm hw hr hA => ?_
  subst hK; subst hm
  have cx := ctx_def (W := W) (P := P) (w := w) (base := base) (N := N_q3) (outer := outer) (H := H) (E := E) rfl rfl hr
  exact (qk_cons (qs_if (QW.t (qw_or (qt_not (qt_val (QE.tb (qe_isT cx B kt (qa_b (qb_var 1) (qa_b (QE.tb (qe_ty (n := "tuple") (fun y => (congrFun (cx.hm y) _).trans B.tuple) boot_tuple)) qa_nil)))))) (qw_or1 (qt_ne cx (QE.tb (qe_len cx B (qb_var 1))) (QE.tb (qe_len cx B (qb_var 0))))))) (qss_one (qs_ret qe_bl)) qss_nil)
      (qk_cons (qs_if (qt_ne cx (QF.tb (qf_comp (bs := ["one"]) ⟨[], []⟩ cx (comp_ok rfl (by rfl) rfl (by rfl) (by rfl) .nil .nil) (qi_v 1 cx) (qg_name 0 (fun ψ => (show (["one"] : List Str).Nodup by decide +kernel))) (qts_one (QW.t (qw_or (qt_val (QE.tb (qe_isT cx.blk B kt (qa_b (qb_var 0) (qa_b (QE.tb (qe_ty (n := "bool") (fun y => (congrFun (cx.blk.hm y) _).trans B.bool) boot_bool)) qa_nil))))) (qw_or (qt_not (qt_val (QE.tb (qe_isT cx.blk B kt (qa_b (qb_var 0) (qa_b (QE.tb (qe_ty (n := "int") (fun y => (congrFun (cx.blk.hm y) _).trans B.int) boot_int)) qa_nil)))))) (qw_or1 (qt_lt (qb_var 0) (QE.tb qe_int))))))) (qe_var 0))) (QF.tb (qf_lst qa_nil))) (qss_one (qs_ret qe_bl)) qss_nil)
      (qk_one (qs_ret (qe_eq cx (QE.tb (qe_sumU cx B (QF.tb (qf_comp (bs := ["one", "worth"]) ⟨[], []⟩ cx (comp_ok rfl (by rfl) rfl (by rfl) (by rfl) .nil .nil) (qi_zip cx B (qa_b (qb_var 1) (qa_b (qb_var 0) qa_nil))) (qg_tup (n := 2) cx.blk (qgs_cons (qg_name 0 (fun ψ => (show (["one", "worth"] : List Str).Nodup by decide +kernel))) (qgs_cons (qg_name 1 (fun ψ => (show (["one", "worth"] : List Str).Nodup by decide +kernel))) qgs_nil))) qts_nil (qe_mul (qb_var 0) (qb_var 1)))))) (qb_var 2))))))
noncomputable abbrev s_law : Stmt := top 22
noncomputable abbrev N_law : List Str := ["script", "pile", "turn", "bases", "scale", "worths", "far", "again", "little", "some", "number", "many", "place", "way", "step", "further"]
noncomputable abbrev p_law : List Str := ["script"]
theorem sc_law : FnScope N_law p_law (defScope s_law) := ⟨rfl, rfl, rfl, by decide +kernel, rfl, by decide +kernel, by decide +kernel⟩
noncomputable def B_law_0 : Sf := (sSeq (sSet 15 (eCall F_q1 (aCons (eVar 5) (aCons (eVar 13) aNil))))
      (sSeq (sIf (tfOr (tfNot (tfB (eCall F_q3 (aCons (eVar 5) (aCons (eVar 13) (aCons (eVar 10) aNil)))))) (tfB (eOp uNe (eCall F_q14 (aCons (eVar 4) (aCons (eVar 10) (aCons (eVar 14) aNil)))) (eVar 15)))) (sRet (eC (.bl false))) sNext)
      (sSet 13 (eVar 15))))
noncomputable def B_law_1 : Sf := (sSet 6 (eOp uAdd (eOp uMul (eVar 6) (eOp uPow (eC (.int 10)) (eC (.int 9)))) (eCall F_q9 (aCons (eVar 1) (aCons (eOp uPow (eC (.int 10)) (eC (.int 9))) aNil)))))
noncomputable def B_law_2 : Sf := (sSeq (sSet 3 (eCall F_q5 (aCons (eVar 1) aNil)))
      (sSeq (sSet 4 (eTup (aCons (eVar 3) (aCons (eTup aNil) aNil))))
      (sSeq (sSet 5 (eCall F_q4 (aCons (eVar 3) aNil)))
      (sSeq (sSet 6 (eC (.int 0)))
      (sSeq (sFor (iArgs uR1 (aCons (eC (.int 5)) aNil)) (aName 7) B_law_1)
      (sSeq (sSet 8 (eCall F_q9 (aCons (eVar 1) (aCons (eC (.int 99)) aNil))))
      (sSeq (sSet 9 (eLst (aCons (eC (.int 0)) (aCons (eVar 8) (aCons (eOp uAdd (eOp uMul (eOp uIx (eVar 5) (eUn uNeg (eC (.int 1)))) (eCall F_q9 (aCons (eVar 1) (aCons (eC (.int 9)) aNil)))) (eVar 8)) (aCons (eVar 6) aNil))))))
      (sSeq (sSet 10 (eOp uIx (eVar 9) (eCall F_q9 (aCons (eVar 1) (aCons (eC (.int 4)) aNil)))))
      (sSeq (sSet 11 (eCall F_q11 (aCons (eVar 4) (aCons (eVar 10) aNil))))
      (sSeq (sIf (tfB (eOp uNe (eCall F_q14 (aCons (eVar 4) (aCons (eVar 10) (aCons (eC (.int 0)) aNil)))) (eOp uAdd (eTup (aCons (eVar 10) aNil)) (eOp uRep (eTup (aCons (eC (.int 0)) aNil)) (eB uLen (aCons (eVar 3) aNil)))))) (sRet (eC (.bl false))) sNext)
      (sSeq (sIf (tfB (eOp uNe (eCall F_q14 (aCons (eVar 4) (aCons (eVar 10) (aCons (eOp uSub (eVar 11) (eC (.int 1))) aNil)))) (eCall F_q2 (aCons (eVar 5) (aCons (eVar 10) aNil))))) (sRet (eC (.bl false))) sNext)
      (sSeq (sIf (tfB (eOp uNe (eCall F_paid (aCons (eVar 4) (aCons (eVar 10) aNil))) (eTup (aCons (eCall F_q2 (aCons (eVar 5) (aCons (eVar 10) aNil))) (aCons (eB uSumU (aCons (eCall F_q2 (aCons (eVar 5) (aCons (eVar 10) aNil))) aNil)) aNil))))) (sRet (eC (.bl false))) sNext)
      (sSeq (sSet 12 (eOp uIx (eLst (aCons (eC (.int 0)) (aCons (eB uMax2 (aCons (eC (.int 0)) (aCons (eOp uSub (eOp uSub (eVar 11) (eC (.int 1))) (eCall F_q9 (aCons (eVar 1) (aCons (eC (.int 40)) aNil)))) aNil))) (aCons (eOp uMod (eOp uDiv (eVar 6) (eC (.int 7))) (eVar 11)) aNil)))) (eCall F_q9 (aCons (eVar 1) (aCons (eC (.int 3)) aNil)))))
      (sSeq (sSet 13 (eCall F_q14 (aCons (eVar 4) (aCons (eVar 10) (aCons (eVar 12) aNil)))))
      (sSeq (sFor (iArgs uRG (aCons (eOp uAdd (eVar 12) (eC (.int 1))) (aCons (eB uMin2 (aCons (eVar 11) (aCons (eOp uAdd (eVar 12) (eC (.int 31))) aNil))) aNil))) (aName 14) B_law_0)
      (sIf (tfAnd (tfB (eOp uGe (eOp uAdd (eVar 12) (eC (.int 31))) (eVar 11))) (tfB (eOp (uIs true) (eCall F_q1 (aCons (eVar 5) (aCons (eVar 13) aNil))) (eC .non)))) (sRet (eC (.bl false))) sNext))))))))))))))))
noncomputable def g_law : Sf := (sSeq (sFor (iArgs uR1 (aCons (eC (.int 3)) aNil)) (aName 2) B_law_2)
      (sRet (eC (.bl true))))
noncomputable abbrev pcells : List Int := [0, 0, 37199, 0]
theorem ok_law {ts : List (Addr × Addr)} {tb : List (Addr × Pos × Str)} {f : Addr} {fd : FuncData} (F : Fun K "law" "law" s_law f fd) (B : Bl mg) (kt : Kt K) (T : Tx K mg) {a_q10 : Addr} {d_q10 : FuncData} (c_q10 : Fn P w K mg base (CX1 P w) 1 "_law_pile" a_q10 d_q10 p_q10 (spU K mg wkT b_q10.length b_q10 F_q10)) {a_q5 : Addr} {d_q5 : FuncData} (c_q5 : Fn P w K mg base (CX1 P w) 2 "_law_bases" a_q5 d_q5 p_q5 (spU K mg PlW b_q5.length b_q5 F_q5)) {a_q4 : Addr} {d_q4 : FuncData} (c_q4 : Fn P w K mg base (CX1 P w) 1 "_law_worths" a_q4 d_q4 p_q4 (spU K mg wkT b_q4.length b_q4 F_q4)) {a_q9 : Addr} {d_q9 : FuncData} (c_q9 : Fn P w K mg base (CX1 P w) 1 "_law_next" a_q9 d_q9 p_q9 (spU K mg PlW b_q9.length b_q9 F_q9)) {a_q11 : Addr} {d_q11 : FuncData} (c_q11 : Fn P w K mg base (CX1 P w) 4 "ways_many" a_q11 d_q11 p_q11 (spU K mg wkT b_q11.length b_q11 F_q11)) {a_q14 : Addr} {d_q14 : FuncData} (c_q14 : Fn P w K mg base (CX1 P w) 5 "way_at" a_q14 d_q14 p_q14 (spU K mg (wkL T_q0) b_q14.length b_q14 F_q14)) {a_q2 : Addr} {d_q2 : FuncData} (c_q2 : Fn P w K mg base (CX1 P w) 1 "_law_fewest" a_q2 d_q2 p_q2 (spU K mg wkT b_q2.length b_q2 F_q2)) {a_paid : Addr} {d_paid : FuncData} (c_paid : Fn P w K mg base (CX1 P w) 1 "paid" a_paid d_paid p_paid (spU K mg wkT b_paid.length b_paid F_paid)) {a_q1 : Addr} {d_q1 : FuncData} (c_q1 : Fn P w K mg base (CX1 P w) 1 "_law_next_way" a_q1 d_q1 p_q1 (spU K mg wkT b_q1.length b_q1 F_q1)) {a_q3 : Addr} {d_q3 : FuncData} (c_q3 : Fn P w K mg base (CX1 P w) 1 "_law_is_way" a_q3 d_q3 p_q3 (spU K mg wkT b_q3.length b_q3 F_q3)) (ht : tbA tb = ts.map (·.2)) (hnd : (tbA tb).Nodup) (hwk : ∀ W : Wd, (∀ t ∈ tb, TabW W t.1 t.2.1 t.2.2) → (wkL T_q0) W) (hFp : ∀ ns ω, F_q10 [.scr ns] ω = .ok (.lst (.scr ns :: pcells.map U.int)) ω) (hlaw : ∀ ns : List Int, ns.length ≤ 63 → ∃ ω', endF (g_law (none :: some .pile :: List.replicate (N_law.length - 2) none) ⟨ns, pcells⟩) = .ok (.bl true) ω') : FnOk P w K mg base (CX1 P w) 6 f fd p_law (spT ts (spLaw K)) := by
  have nd := sc_law.nd
  refine F.okPT (N := N_law) (m := ⟨[], []⟩) (g := g_law) (Fp := F_q10) (cells := pcells) sc_law rfl (by decide) (by decide) ht hnd (fun cdv A outer s H E hr hA => ?_) (fun cdv A outer s H E W hK hm hw hwt hr hA => ?_) hFp hlaw
  · have cx := ctx_def (W := wd0 K mg) (P := P) (w := w) (base := base) (N := N_law) (outer := outer) (H := H) (E := E) rfl rfl hr
    have hw_q10 : wkT (wd0 K mg) := trivial
    exact (qs_set 1 (fun ψ => nd) (qe_call cx (fun ψ => c_q10) (fun ψ => hr.mono (by decide)) hw_q10 (qa_e (qe_var 0) qa_nil)))
  · subst hK; subst hm
    have cx := ctx_def (W := W) (P := P) (w := w) (base := base) (N := N_law) (outer := outer) (H := H) (E := E) rfl rfl hr
    have hw_q10 : wkT W := trivial
    have hw_q5 : PlW W := hw
    have hw_q4 : wkT W := trivial
    have hw_q9 : PlW W := hw
    have hw_q11 : wkT W := trivial
    have hw_q14 : (wkL T_q0) W := hwk _ hwt
    have hw_q2 : wkT W := trivial
    have hw_paid : wkT W := trivial
    have hw_q1 : wkT W := trivial
    have hw_q3 : wkT W := trivial
    exact (qk_cons (qs_for cx pw_def (qi_r1 cx B (qa_b (QE.tb qe_int) qa_nil)) (qg_name 2 (fun ψ => nd)) (qss_cons (qs_set 3 (fun ψ => nd) (qe_call cx (fun ψ => c_q5) (fun ψ => hr.mono (by decide)) hw_q5 (qa_b (qb_var 1) qa_nil)))
      (qss_cons (qs_set 4 (fun ψ => nd) (qe_tup (qa_e (qe_var 3) (qa_e (qe_tup qa_nil) qa_nil))) (hs := fun ψ => sw_tuple))
      (qss_cons (qs_set 5 (fun ψ => nd) (qe_call cx (fun ψ => c_q4) (fun ψ => hr.mono (by decide)) hw_q4 (qa_b (qb_var 3) qa_nil)))
      (qss_cons (qs_set 6 (fun ψ => nd) qe_int)
      (qss_cons (qs_for cx pw_def (qi_r1 cx B (qa_b (QE.tb qe_int) qa_nil)) (qg_name 7 (fun ψ => nd)) (qss_one (qs_set 6 (fun ψ => nd) (qe_add cx (QE.tb (qe_mul (qb_var 6) (QE.tb (qe_pow (QE.tb qe_int) (QE.tb qe_int))))) (QE.tb (qe_call cx (fun ψ => c_q9) (fun ψ => hr.mono (by decide)) hw_q9 (qa_b (qb_var 1) (qa_b (QE.tb (qe_pow (QE.tb qe_int) (QE.tb qe_int))) qa_nil))))) (hs := fun ψ => sw_binop))))
      (qss_cons (qs_set 8 (fun ψ => nd) (qe_call cx (fun ψ => c_q9) (fun ψ => hr.mono (by decide)) hw_q9 (qa_b (qb_var 1) (qa_b (QE.tb qe_int) qa_nil))))
      (qss_cons (qs_set 9 (fun ψ => nd) (QF.te (qf_lst (qa_e qe_int (qa_e (qe_var 8) (qa_e (qe_add cx (QE.tb (qe_mul (QE.tb (qe_ix cx (qb_var 5) (QE.tb (qe_neg (QE.tb qe_int))))) (QE.tb (qe_call cx (fun ψ => c_q9) (fun ψ => hr.mono (by decide)) hw_q9 (qa_b (qb_var 1) (qa_b (QE.tb qe_int) qa_nil)))))) (qb_var 8)) (qa_e (qe_var 6) qa_nil)))))) (hs := fun ψ => sw_list))
      (qss_cons (qs_set 10 (fun ψ => nd) (qe_ix cx (qb_var 9) (QE.tb (qe_call cx (fun ψ => c_q9) (fun ψ => hr.mono (by decide)) hw_q9 (qa_b (qb_var 1) (qa_b (QE.tb qe_int) qa_nil))))) (hs := fun ψ => sw_sub))
      (qss_cons (qs_set 11 (fun ψ => nd) (qe_call cx (fun ψ => c_q11) (fun ψ => hr.mono (by decide)) hw_q11 (qa_b (qb_var 4) (qa_e (qe_var 10) qa_nil))))
      (qss_cons (qs_if (qt_ne cx (QE.tb (qe_call cx (fun ψ => c_q14) (fun ψ => hr.mono (by decide)) hw_q14 (qa_b (qb_var 4) (qa_e (qe_var 10) (qa_e qe_int qa_nil))))) (QE.tb (qe_add cx (QE.tb (qe_tup (qa_e (qe_var 10) qa_nil))) (QE.tb (qe_rep (QE.tb (qe_tup (qa_e qe_int qa_nil))) (QE.tb (qe_len cx B (qb_var 3)))))))) (qss_one (qs_ret qe_bl)) qss_nil)
      (qss_cons (qs_if (qt_ne cx (QE.tb (qe_call cx (fun ψ => c_q14) (fun ψ => hr.mono (by decide)) hw_q14 (qa_b (qb_var 4) (qa_e (qe_var 10) (qa_e (qe_sub (qb_var 11) (QE.tb qe_int)) qa_nil))))) (QE.tb (qe_call cx (fun ψ => c_q2) (fun ψ => hr.mono (by decide)) hw_q2 (qa_b (qb_var 5) (qa_e (qe_var 10) qa_nil))))) (qss_one (qs_ret qe_bl)) qss_nil)
      (qss_cons (qs_if (qt_ne cx (QE.tb (qe_call cx (fun ψ => c_paid) (fun ψ => hr.mono (by decide)) hw_paid (qa_b (qb_var 4) (qa_e (qe_var 10) qa_nil)))) (QE.tb (qe_tup (qa_e (qe_call cx (fun ψ => c_q2) (fun ψ => hr.mono (by decide)) hw_q2 (qa_b (qb_var 5) (qa_e (qe_var 10) qa_nil))) (qa_e (qe_sumU cx B (QE.tb (qe_call cx (fun ψ => c_q2) (fun ψ => hr.mono (by decide)) hw_q2 (qa_b (qb_var 5) (qa_e (qe_var 10) qa_nil))))) qa_nil))))) (qss_one (qs_ret qe_bl)) qss_nil)
      (qss_cons (qs_set 12 (fun ψ => nd) (qe_ix cx (QF.tb (qf_lst (qa_e qe_int (qa_e (qe_max2 cx B (qa_b (QE.tb qe_int) (qa_b (QE.tb (qe_sub (QE.tb (qe_sub (qb_var 11) (QE.tb qe_int))) (QE.tb (qe_call cx (fun ψ => c_q9) (fun ψ => hr.mono (by decide)) hw_q9 (qa_b (qb_var 1) (qa_b (QE.tb qe_int) qa_nil)))))) qa_nil))) (qa_e (qe_mod (QE.tb (qe_div (qb_var 6) (QE.tb qe_int))) (qb_var 11)) qa_nil))))) (QE.tb (qe_call cx (fun ψ => c_q9) (fun ψ => hr.mono (by decide)) hw_q9 (qa_b (qb_var 1) (qa_b (QE.tb qe_int) qa_nil))))) (hs := fun ψ => sw_sub))
      (qss_cons (qs_set 13 (fun ψ => nd) (qe_call cx (fun ψ => c_q14) (fun ψ => hr.mono (by decide)) hw_q14 (qa_b (qb_var 4) (qa_e (qe_var 10) (qa_e (qe_var 12) qa_nil)))))
      (qss_cons (qs_for cx pw_def (qi_rG cx B (qa_b (QE.tb (qe_add cx (qb_var 12) (QE.tb qe_int))) (qa_b (QE.tb (qe_min2 cx B (qa_b (qb_var 11) (qa_b (QE.tb (qe_add cx (qb_var 12) (QE.tb qe_int))) qa_nil)))) qa_nil))) (qg_name 14 (fun ψ => nd)) (qss_cons (qs_set 15 (fun ψ => nd) (qe_call cx (fun ψ => c_q1) (fun ψ => hr.mono (by decide)) hw_q1 (qa_b (qb_var 5) (qa_b (qb_var 13) qa_nil))))
      (qss_cons (qs_if (QW.t (qw_or (qt_not (qt_val (QE.tb (qe_call cx (fun ψ => c_q3) (fun ψ => hr.mono (by decide)) hw_q3 (qa_e (qe_var 5) (qa_e (qe_var 13) (qa_b (qb_var 10) qa_nil))))))) (qw_or1 (qt_ne cx (QE.tb (qe_call cx (fun ψ => c_q14) (fun ψ => hr.mono (by decide)) hw_q14 (qa_b (qb_var 4) (qa_e (qe_var 10) (qa_e (qe_var 14) qa_nil))))) (qb_var 15))))) (qss_one (qs_ret qe_bl)) qss_nil)
      (qss_one (qs_set 13 (fun ψ => nd) (qe_var 15))))))
      (qss_one (qs_if (QW.t (qw_and (qt_ge (QE.tb (qe_add cx (qb_var 12) (QE.tb qe_int))) (qb_var 11)) (qw_and1 (qt_isnot (QE.tb (qe_call cx (fun ψ => c_q1) (fun ψ => hr.mono (by decide)) hw_q1 (qa_b (qb_var 5) (qa_b (qb_var 13) qa_nil)))) (QE.tb qe_non))))) (qss_one (qs_ret qe_bl)) qss_nil))))))))))))))))))
      (qk_one (qs_ret qe_bl)))
end
end EvBlock
section EvBlock
local macro_rules | `(tactic| walk_at "ev") => do
    let js1 ← ("List.length_cons List.length_nil List.length_append List.length_map List.length_replicate List.length_reverse List.length_take List.length_drop rngU_len dnU_len List.length_range".splitOn " ").toArray.mapM fun s => `(Lean.Parser.Tactic.simpLemma| $(Lean.mkIdent s.toName):term)
    let ls ← ("sSeq_then thenF_nx thenF_rt thenF_err runU_end endF_rt endF_nx endF_err sNext_ap sIf_ap sSet_ap sRet_ap sAug_ap sApp_ap sRevM_ap sAsg_ap sFor_ap stepU_ap sRaise_ap aName_ap aTup_ap aNilT_ap aConsT_ap eVar_ap eC_ap eOp_ap eUn_ap eTup_ap eLst_ap eB_ap eCall_ap eSl_ap eRev_ap eComp_ap cstU_ap tfB_ap tfAnd_ap tfOr_ap tfNot_ap tfTrue_ap aNil_ap aCons_ap pNo_ap pSome_ap iOf_ap iArgs_ap asB_r asI_r asSeq_l asSeq_t asOk_ok Res.bnd_ok Res.bnd_err Res.bnd_stk Res.of_some Res.of_none Fl.of_ok Fl.of_err Fl.of_stk List.getElem?_cons_zero List.getElem?_cons_succ List.set_cons_zero List.set_cons_succ List.map_cons List.map_nil List.length_cons List.length_nil List.length_map List.cons_append List.nil_append List.replicate Nat.zero_add uIx_l uIx_t uAdd_i uSub_r uNeg_r uLt_r uLe_r uGt_r uGe_r uIs_r isNon_n isNon_i isNon_b isNon_t isNon_l isNon_s isNon_x uLen_l uLen_t uLen_s uTuple_l uTuple_t uMax2_r uMin2_r uAbs_r uIsT_ii uIsT_ib uIsT_bb uIsT_bi uIsT_tt uIsT_ll uEq_ii uNe_ii uAddI_r uDiv_s uMod_s uMul_r uMul_l uPow_s mkT_s mkL_s uAdd_l uAdd_t ite_lt ite_le uR1_s uR2_s uR3_s ePl_ap ePlLen_ap ePlAt_ap sPl_ap uZip_s uRep_t1 uRep_l1 atI_i2 atI_i3 atI_i4 atI_i5 atI_i6 atI_i7 atI_i8 atI_i10 uSl_l uSl_t uSlL_l atI_zero atI_one atI_end blkU_r Option.getD_some Option.getD_none Option.bind_some Option.bind_none Option.map_some decide_true decide_false Bool.not_true Bool.not_false if_true if_false Bool.false_eq_true Bool.true_eq_false decide_eq_true_eq Bool.not_eq_true' decide_eq_false_iff_not ne_eq not_true_eq_false not_false_eq_true Nat.reduceSub Nat.reduceAdd Nat.reduceLT Int.reduceEq Int.reduceLT Int.reduceLE Int.reduceAdd Int.reduceSub Int.reduceMul Int.reduceDiv Int.reduceMod reduceIte Int.reduceToNat Int.reducePow Int.reduceNeg".splitOn " ").toArray.mapM fun s => `(Lean.Parser.Tactic.simpLemma| $(Lean.mkIdent s.toName):term)
    `(tactic| try simp (disch := first | decide | lia | omega | (simp only [$js1,*]; first | lia | omega)) only [$ls,*])
theorem n60 {n : Nat} (h : n ≤ 10 ^ 60) : (n : Int) ≤ BB 5 := by
  have h1 : ((10 ^ 60 : Nat) : Int) ≤ BB 5 := by decide
  exact Int.le_trans (Int.ofNat_le.mpr h) h1
theorem uMul_nk {n k : Nat} (hn : n ≤ 10 ^ 60) (hk : k ≤ 8) : uMul (.int (chs n k : Int)) (.int ((n : Int) - (k : Int))) = some (.int ((chs n k : Int) * ((n : Int) - (k : Int)))) := by
  by_cases c : n < k
  · exact uMul_r (by omega) (by omega)
  · exact uMul_BB (m := 40) (by decide) (by omega) (Int.le_trans (chs_BB (n60 hn) k) (BB_le (by omega))) (by omega) (Int.le_trans (show (n : Int) - k ≤ n by omega) (Int.le_trans (n60 hn) (BB_le (by decide))))
theorem uMul_fc {n k : Nat} {z : Int} (hn : n ≤ 10 ^ 60) (hk : k ≤ 8) (z0 : 0 ≤ z) (z1 : z ≤ BB 20) : uMul (.int z) (.int (chs n k : Int)) = some (.int (z * (chs n k : Int))) :=
  uMul_BB (m := 40) (by decide) z0 (Int.le_trans z1 (BB_le (by decide))) (by omega) (Int.le_trans (chs_BB (n60 hn) k) (BB_le (by omega)))
theorem dl_le {f : Nat → Int} {m : Nat} (h : NN (m + 1) f) (hB : ∀ x, x < m + 1 → f x ≤ BB 20) : ∀ x, x < m → dlt f x ≤ BB 20 := fun x hx => by
  have h1 := h.1 x
  have h2 := hB (x + 1) (by omega)
  show f (x + 1) - f x ≤ _; omega
theorem steps_cmp (ts : List Int) (hl : ts.length ≤ 1000) (ω : Om) :
    (if (zipU (ts.map U.int) ((ts.map U.int).drop 1)).length ≤ sizeLine then asOk (cmpU (cstU (aTup 2 (aConsT (aName 0) (aConsT (aName 1) aNilT))) tfTrue (eOp uSub (eVar 1) (eVar 0)) [none, none]) (zipU (ts.map U.int) ((ts.map U.int).drop 1)) ω) fun r ω2 => Res.ok (U.lst r) ω2 else Res.stk) = Res.ok (U.lst ((List.zipWith (fun a b => b - a) ts (ts.drop 1)).map U.int)) ω := by
  have hz : ∀ xs ys : List Int, zipU (xs.map U.int) (ys.map U.int) = (xs.zip ys).map fun p => U.tup [.int p.1, .int p.2] := fun xs ys => by
    unfold zipU
    rw [List.zipWith_map, List.zip, List.map_zipWith]
  rw [← List.map_drop, hz]
  have lz : (ts.zip (ts.drop 1)).length ≤ 1000 := by rw [List.length_zip, List.length_drop]; omega
  rw [if_pos (Nat.le_trans (by rw [List.length_map]; exact Nat.le_trans lz (by decide : 1000 ≤ 1000000)) line_big)]
  rw [cmpU_gen (f := fun p : Int × Int => some (U.int (p.2 - p.1))) (fun p hp => by walk_at "ev")]
  rw [asOk_ok, List.filterMap_eq_map']
  congr 2
  rw [List.zip, List.map_zipWith, List.map_zipWith]
theorem va_loop (A : Option U) (n : Nat) (hn : n ≤ 10 ^ 60) : ∀ (m k : Nat) (f : Nat → Int) (v : Int) (y : Option U), m + k ≤ 8 → NN m f → (∀ x, x < m → f x ≤ BB 20) → ∃ c s y', ∀ ω, forU (stepU (aName 5) B_q13_0) (rngU (k : Int) m) [A, some (.int (n : Int)), some (.int v), some (.int (chs n k : Int)), some (.lst ((tabl m f).map U.int)), y] ω = .nx [A, some (.int (n : Int)), some (.int (v + nwt m f n k)), c, s, y'] ω
  | 0, k, f, v, y, _, _, _ => ⟨_, _, y, fun ω => by simp [rngU, nwt]; rfl⟩
  | m + 1, k, f, v, y, h, hN, hB => by
    obtain ⟨c, s, y', e⟩ := va_loop A n hn m (k + 1) (dlt f) (v + f 0 * (chs n k : Int)) (some (.int (k : Int))) (by omega) hN.2 (dl_le hN hB)
    refine ⟨c, s, y', fun ω => ?_⟩
    have e2 := uMul_nk hn (show k ≤ 8 by omega)
    have e1 : uMul (.int (f 0)) (.int (chs n k : Int)) = some (.int (f 0 * (chs n k : Int))) := uMul_fc hn (by omega) (hN.1 0) (hB 0 (by omega))
    have hc := chs_next n k
    have l1 : (tabl (m + 1) f).length = m + 1 := tabl_len _ _
    have ht : ((tabl (m + 1) f).map U.int)[0]? = some (.int (f 0)) := by rw [tabl_cons]; rfl
    have er : rngU (k : Int) (m + 1) = .int (k : Int) :: rngU ((k + 1 : Nat) : Int) m := by
      unfold rngU
      rw [List.range_succ_eq_map, List.map_cons, List.map_map]
      refine List.cons_eq_cons.mpr ⟨by simp, List.map_congr_left fun i ψ => ?_⟩
      show U.int ((k : Int) + ((i + 1 : Nat) : Int)) = _
      congr 1; omega
    have ec := steps_cmp (tabl (m + 1) f) (by omega) ω
    rw [tabl_dl] at ec
    rw [er, forU, B_q13_0]
    walk_at "ev"
    rw [ht]
    walk_at "ev"
    rw [e1]
    walk_at "ev"
    rw [e2]
    walk_at "ev"
    rw [hc]
    rw [cutFrom' (by decide), uZipL_s]
    walk_at "ev"
    rw [ec]
    walk_at "ev"
    rw [← B_q13_0, e]
    simp only [nwt, Int.add_assoc]
theorem F_va_eq {m n : Nat} {f : Nat → Int} (hf : Vn m f) (hN : NN m f) (hB : ∀ x, x < m → f x ≤ BB 20) (hn : n ≤ 10 ^ 60) (hm : m ≤ 8) (ω : Om) : F_q13 [.lst ((tabl m f).map U.int), .int (n : Int)] ω = .ok (.int (f n)) ω := by
  obtain ⟨c, s, y', e⟩ := va_loop (some (.lst ((tabl m f).map U.int))) n hn m 0 f 0 none (by omega) hN hB
  rw [chs_z, newton _ _ _ hf] at e
  have l1 : (tabl m f).length = m := tabl_len _ _
  unfold F_q13 g_q13
  walk_at "ev"
  rw [l1]
  have e' := e ω
  simp only [Int.natCast_zero, Int.cast_ofNat_Int, Int.zero_add] at e'
  rw [show ((m : Int)).toNat = m by omega, e']
  walk_at "ev"
theorem nt_loop {m d b : Nat} {f : Nat → Int} (hf : Vn m f) (hN : NN m f) (hB : ∀ x, x < m → f x ≤ BB 20) (hm : m ≤ 7) (hd : d + m * b ≤ 10 ^ 60) : ∀ (j i : Nat) (w : Int) (y : Option U), i + j = m + 1 → w = sm (fun i => f (d + i * b)) i → ∃ w' y', ∀ ω, forU (stepU (aName 5) B_q7_0) (rngU (i : Int) j) [some (.lst ((tabl m f).map U.int)), some (.int (d : Int)), some (.int (b : Int)), some (.lst ((tabl i (nx f d b)).map U.int)), some (.int w), y] ω = .nx [some (.lst ((tabl m f).map U.int)), some (.int (d : Int)), some (.int (b : Int)), some (.lst ((tabl (m + 1) (nx f d b)).map U.int)), w', y'] ω
  | 0, i, w, y, h, _ => ⟨some (.int w), y, fun ω => by rw [show i = m + 1 by omega]; rfl⟩
  | j + 1, i, w, y, h, hw => by
    obtain ⟨w', y', e⟩ := nt_loop hf hN hB hm hd j (i + 1) (nx f d b i) (some (.int (i : Int))) (by omega) rfl
    refine ⟨w', y', fun ω => ?_⟩
    have er : rngU (i : Int) (j + 1) = .int (i : Int) :: rngU ((i + 1 : Nat) : Int) j := by
      unfold rngU
      rw [List.range_succ_eq_map, List.map_cons, List.map_map]
      refine List.cons_eq_cons.mpr ⟨by simp, List.map_congr_left fun k ψ => ?_⟩
      show U.int ((i : Int) + ((k + 1 : Nat) : Int)) = _
      congr 1; omega
    have hib : i * b ≤ m * b := Nat.mul_le_mul_right _ (by omega)
    have ev := fun ω => F_va_eq hf hN hB (n := d + i * b) (by omega) (by omega) ω
    have ec : ((d + i * b : Nat) : Int) = (d : Int) + (i : Int) * (b : Int) := by push_cast; rfl
    rw [ec] at ev
    have l1 : (tabl i (nx f d b)).length = i := tabl_len _ _
    have hn : w + f (d + i * b) = nx f d b i := by rw [hw]; rfl
    have e1 : uMul (.int (i : Int)) (.int (b : Int)) = some (.int ((i : Int) * (b : Int))) := uMul_l (by omega) (by omega)
    have et : (tabl i (nx f d b)).map U.int ++ [U.int (nx f d b i)] = (tabl (i + 1) (nx f d b)).map U.int := by rw [tabl_snoc]; simp
    rw [er, forU, B_q7_0]
    walk_at "ev"
    rw [ev]
    walk_at "ev"
    rw [hn, et, ← B_q7_0, e]
theorem F_nt_eq {m d b : Nat} {f : Nat → Int} (hf : Vn m f) (hN : NN m f) (hB : ∀ x, x < m → f x ≤ BB 20) (hm : m ≤ 7) (hd : d + m * b ≤ 10 ^ 60) (ω : Om) : F_q7 [.lst ((tabl m f).map U.int), .int (d : Int), .int (b : Int)] ω = .ok (.lst ((tabl (m + 1) (nx f d b)).map U.int)) ω := by
  obtain ⟨w', y', e⟩ := nt_loop hf hN hB hm hd (m + 1) 0 0 none (by omega) rfl
  have l1 : (tabl m f).length = m := tabl_len _ _
  unfold F_q7 g_q7
  walk_at "ev"
  rw [l1, show ((m : Int) + 1).toNat = m + 1 by omega]
  have e' := e ω
  rw [show (tabl 0 (nx f d b)).map U.int = [] from rfl] at e'
  rw [show ((0 : Nat) : Int) = 0 from rfl] at e'
  rw [e']
  walk_at "ev"
noncomputable def tbU (ts : List (List Int)) : List U := ts.map fun t => U.lst (t.map U.int)
noncomputable def wsU (ws : List Nat) : List U := ws.map fun w : Nat => U.int (w : Int)
noncomputable abbrev scU (rb : List Nat) : U := .tup [.tup (wsU rb.reverse), .tup []]
theorem TB_last (N : Nat) (rb : List Nat) : ∃ pre, TB N rb = pre ++ [tabl (rb.length + 1) (Tw N rb)] := by
  cases rb with
  | nil => exact ⟨[], rfl⟩
  | cons b rb => exact ⟨_, rfl⟩
theorem WS_last (rb : List Nat) : ∃ pre, WS rb = pre ++ [Wp rb] := by
  cases rb with
  | nil => exact ⟨[], rfl⟩
  | cons b rb => exact ⟨_, rfl⟩
theorem Wp_le : ∀ {rb : List Nat}, (∀ b ∈ rb, 2 ≤ b ∧ b ≤ 1000000) → Wp rb ≤ 1000000 ^ rb.length
  | [], _ => by simp [Wp]
  | b :: rb, h => by
    rw [List.length_cons, Nat.pow_succ]
    exact Nat.mul_le_mul (Wp_le fun x hx => h x (by simp [hx])) (h b (by simp)).2
theorem Wp_b {rb : List Nat} (h : ∀ b ∈ rb, 2 ≤ b ∧ b ≤ 1000000) (hl : rb.length ≤ 5) : Wp rb ≤ 1000000000000000000000000000000 :=
  Nat.le_trans (Wp_le h) (Nat.le_trans (Nat.pow_le_pow_right (by decide) hl) (by decide))
theorem Tw_BB {N x : Nat} {rb : List Nat} (h : ∀ b ∈ rb, 2 ≤ b ∧ b ≤ 1000000) (hl : rb.length ≤ 5) (hx : x ≤ 8) : Tw N rb x ≤ BB 20 := by
  have hp : ∀ b ∈ rb, 0 < b := fun b hb => by have := h b hb; omega
  have w0 := Wp_pos hp
  have wb := Wp_b h hl
  have md := Nat.mod_lt N w0
  have hm : x * Wp rb ≤ 8 * Wp rb := Nat.mul_le_mul_right _ hx
  rw [← Tw_cnt hp]
  have h1 : ((x * Wp rb + N % Wp rb + 1 : Nat) : Int) ≤ BB 3 := by
    have : ((9000000000000000000000000000001 : Nat) : Int) ≤ BB 3 := by decide
    omega
  have h2 := pow_BB h1 rb.length
  have h3 := wys_pow rb (x * Wp rb + N % Wp rb)
  exact Int.le_trans (Int.ofNat_le.mpr h3) (Int.le_trans h2 (BB_le (by omega)))
theorem uDiv_W {N : Int} {rb : List Nat} (h : ∀ b ∈ rb, 2 ≤ b ∧ b ≤ 1000000) (hl : rb.length ≤ 5) : uDiv (.int N) (.int (Wp rb : Int)) = some (.int (N / (Wp rb : Int))) := by
  have w0 := Wp_pos fun b hb => (show 0 < b by have := h b hb; omega)
  have wb := Wp_b h hl
  refine uDiv_b 200 (by decide) (by omega) ?_
  have : ((1000000000000000000000000000000 : Nat) : Int) < 2 ^ 200 := by decide
  omega
theorem wt_loop (A B : Option U) (N : Nat) : ∀ (bs rb : List Nat) (y : Option U), (∀ b ∈ bs, 2 ≤ b ∧ b ≤ 1000000) → (∀ b ∈ rb, 2 ≤ b ∧ b ≤ 1000000) → rb.length + bs.length ≤ 5 → ∃ l y', ∀ ω, forU (stepU (aName 4) B_q8_0) (wsU bs) [A, B, some (.lst (tbU (TB N rb))), some (.int ((N / Wp rb : Nat) : Int)), y] ω = .nx [A, B, some (.lst (tbU (TB N (bs.reverse ++ rb)))), l, y'] ω
  | [], rb, y, _, _, _ => ⟨_, y, fun ω => rfl⟩
  | b :: bs, rb, y, hb, hr, hl => by
    obtain ⟨b2, b10⟩ := hb b (by simp)
    obtain ⟨l, y', e⟩ := wt_loop A B N bs (b :: rb) (some (.int (b : Int))) (fun x hx => hb x (by simp [hx])) (fun x hx => by
      rcases List.mem_cons.mp hx with z | z
      · subst z; exact ⟨b2, b10⟩
      · exact hr x z) (by simp at hl ⊢; omega)
    simp at hl
    refine ⟨l, y', fun ω => ?_⟩
    obtain ⟨pre, ep⟩ := TB_last N rb
    have dm : N / Wp rb % b < b := Nat.mod_lt _ (by omega)
    have hmb : (rb.length + 1) * b ≤ 5 * 1000000 := Nat.mul_le_mul (by omega) b10
    have en := fun ω => F_nt_eq (Tw_vn N rb) (Tw_NN N rb _) (fun x hx => Tw_BB hr (by omega) (by omega)) (d := N / Wp rb % b) (b := b) (by omega) (by omega) ω
    have ec : ((N / Wp rb % b : Nat) : Int) = ((N / Wp rb : Nat) : Int) % (b : Int) := by push_cast; rfl
    have ed : ((N / Wp (b :: rb) : Nat) : Int) = ((N / Wp rb : Nat) : Int) / (b : Int) := by
      show ((N / (Wp rb * b) : Nat) : Int) = _
      rw [← Nat.div_div_eq_div_mul]; push_cast; rfl
    rw [ec] at en
    have lt : (tbU (TB N rb)).length = rb.length + 1 := by unfold tbU; rw [List.length_map, TB_len]
    have et : tbU (TB N rb) ++ [U.lst ((tabl (rb.length + 1 + 1) (nx (Tw N rb) (N / Wp rb % b) b)).map U.int)] = tbU (TB N (b :: rb)) := by
      show _ = tbU (TB N rb ++ [_])
      unfold tbU; rw [List.map_append]; rfl
    have hlast : atI (tbU (TB N rb)) (-1) = some (.lst ((tabl (rb.length + 1) (Tw N rb)).map U.int)) := by
      rw [ep]; unfold tbU; rw [List.map_append]; exact atI_end _ _
    show forU _ (.int (b : Int) :: wsU bs) _ _ = _
    rw [forU, B_q8_0]
    walk_at "ev"
    rw [hlast]
    walk_at "ev"
    rw [en]
    walk_at "ev"
    rw [et, ← ed, ← B_q8_0, e]
    simp
theorem F_wt_eq {N : Nat} {rb : List Nat} (hb : ∀ b ∈ rb, 2 ≤ b ∧ b ≤ 1000000) (hl : rb.length ≤ 5) (ω : Om) : F_q8 [scU rb, .int (N : Int)] ω = .ok (.lst (tbU (TB N rb))) ω := by
  obtain ⟨l, y', e⟩ := wt_loop (some (scU rb)) (some (.int (N : Int))) N rb.reverse [] none (fun b h => hb b (by simpa using h)) (by simp) (by simpa using hl)
  rw [show N / Wp [] = N from Nat.div_one N, List.reverse_reverse, List.append_nil] at e
  have e' := e ω
  have z : tbU (TB N []) = [U.lst [U.int 1]] := rfl
  rw [z] at e'
  unfold F_q8 g_q8
  walk_at "ev"
  rw [e']
  walk_at "ev"
theorem WS_b {rb : List Nat} : atI (wsU (WS rb)) (-1) = some (.int (Wp rb : Int)) := by
  obtain ⟨pre, ep⟩ := WS_last rb
  rw [ep]; unfold wsU; rw [List.map_append]; exact atI_end _ _
theorem wo_loop (A : Option U) : ∀ (bs rb : List Nat) (y : Option U), (∀ b ∈ bs, 2 ≤ b ∧ b ≤ 1000000) → (∀ b ∈ rb, 2 ≤ b ∧ b ≤ 1000000) → rb.length + bs.length ≤ 5 → ∃ y', ∀ ω, forU (stepU (aName 2) B_q12_0) (wsU bs) [A, some (.lst (wsU (WS rb))), y] ω = .nx [A, some (.lst (wsU (WS (bs.reverse ++ rb)))), y'] ω
  | [], rb, y, _, _, _ => ⟨y, fun ω => rfl⟩
  | b :: bs, rb, y, hb, hr, hl => by
    obtain ⟨b2, b10⟩ := hb b (by simp)
    obtain ⟨y', e⟩ := wo_loop A bs (b :: rb) (some (.int (b : Int))) (fun x hx => hb x (by simp [hx])) (fun x hx => by
      rcases List.mem_cons.mp hx with z | z
      · subst z; exact ⟨b2, b10⟩
      · exact hr x z) (by simp at hl ⊢; omega)
    simp at hl
    refine ⟨y', fun ω => ?_⟩
    have wb := Wp_b hr (by omega)
    have hlast := WS_b (rb := rb)
    have lt : (wsU (WS rb)).length = rb.length + 1 := by unfold wsU; rw [List.length_map, WS_len]
    have e1 : uMul (.int (Wp rb : Int)) (.int (b : Int)) = some (.int ((Wp rb : Int) * (b : Int))) := uMul_r (by omega) (by omega)
    have et : wsU (WS rb) ++ [U.int ((Wp rb : Int) * (b : Int))] = wsU (WS (b :: rb)) := by
      show _ = wsU (WS rb ++ [_])
      unfold wsU; rw [List.map_append]; simp [Wp]
    show forU _ (.int (b : Int) :: wsU bs) _ _ = _
    rw [forU, B_q12_0]
    walk_at "ev"
    rw [hlast]
    walk_at "ev"
    rw [et, ← B_q12_0, e]
    simp
theorem F_wo_eq {rb : List Nat} (hb : ∀ b ∈ rb, 2 ≤ b ∧ b ≤ 1000000) (hl : rb.length ≤ 5) (ω : Om) : F_q12 [scU rb] ω = .ok (.lst (wsU (WS rb))) ω := by
  obtain ⟨y', e⟩ := wo_loop (some (scU rb)) rb.reverse [] none (fun b h => hb b (by simpa using h)) (by simp) (by simpa using hl)
  rw [List.reverse_reverse, List.append_nil] at e
  have e' := e ω
  have z : wsU (WS []) = [U.int 1] := rfl
  rw [z] at e'
  unfold F_q12 g_q12
  walk_at "ev"
  rw [e']
  walk_at "ev"
theorem F_wm_eq {N : Nat} {rb : List Nat} (hb : ∀ b ∈ rb, 2 ≤ b ∧ b ≤ 1000000) (hl : rb.length ≤ 5) (hN : N ≤ 10 ^ 60) (ω : Om) : F_q11 [scU rb, .int (N : Int)] ω = .ok (.int (Tw N rb (N / Wp rb))) ω := by
  have w0 := Wp_pos (rb := rb) fun b h => by have := hb b h; omega
  have wb := Wp_b hb hl
  have d1 : N / Wp rb ≤ N := Nat.div_le_self _ _
  have e1 := fun ω => F_wt_eq (N := N) hb hl ω
  have e2 := fun ω => F_wo_eq hb hl ω
  have e3 := fun ω => F_va_eq (Tw_vn N rb) (Tw_NN N rb _) (fun x hx => Tw_BB hb hl (by omega)) (n := N / Wp rb) (by omega) (by omega) ω
  rw [show ((N / Wp rb : Nat) : Int) = (N : Int) / (Wp rb : Int) by push_cast; rfl] at e3
  have hdv := uDiv_W (N := (N : Int)) hb hl
  have hlast := WS_b (rb := rb)
  have hlast2 : atI (tbU (TB N rb)) (-1) = some (.lst ((tabl (rb.length + 1) (Tw N rb)).map U.int)) := by
    obtain ⟨pre, ep⟩ := TB_last N rb
    rw [ep]; unfold tbU; rw [List.map_append]; exact atI_end _ _
  unfold F_q11 g_q11
  walk_at "ev"
  rw [e1]
  walk_at "ev"
  rw [hlast2]
  walk_at "ev"
  rw [e2]
  walk_at "ev"
  rw [hlast]
  walk_at "ev"
  rw [hdv]
  walk_at "ev"
  rw [e3]
  walk_at "ev"
theorem lt_loop {p : Ff} {P : Int → Bool} {lo hi : Int} (hp : ∀ ω m, lo ≤ m → m < hi → p [.int m] ω = .ok (.bl (P m)) ω) (A B : Option U) : ∀ (d : Nat) (l k : Int) (y : Option U), (k - l).toNat ≤ d → lo ≤ l → l ≤ k → k ≤ hi → (k < hi → P k = true) → (lo < l → P (l - 1) = false) →
    ∃ r y', (∀ ω, sWh (tfB (eOp uLt (eVar 3) (eVar 4))) (B_q6_0 p) [A, B, some .pile, some (.int l), some (.int k), y] ω = .nx [A, B, some .pile, some (.int r), some (.int r), y'] ω) ∧ lo ≤ r ∧ r ≤ hi ∧ (r < hi → P r = true) ∧ (lo < r → P (r - 1) = false)
  | 0, l, k, y, hd, h1, h2, h3, h4, h5 => by
    have e : l = k := by omega
    subst e
    refine ⟨l, y, fun ω => ?_, h1, h3, h4, h5⟩
    rw [sWh_end]
    walk_at "ev"
    rw [decide_eq_false (by omega)]
  | d + 1, l, k, y, hd, h1, h2, h3, h4, h5 => by
    by_cases c : l < k
    · have m1 : l ≤ (l + k) / 2 := by omega
      have m2 : (l + k) / 2 < k := by omega
      have ep := fun ω => hp ω ((l + k) / 2) (by omega) (by omega)
      cases hP : P ((l + k) / 2) with
      | true =>
        obtain ⟨r, y', e, g⟩ := lt_loop hp A B d l ((l + k) / 2) (some (.int ((l + k) / 2))) (by omega) h1 m1 (by omega) (fun ψ => hP) h5
        refine ⟨r, y', fun ω => ?_, g⟩
        rw [sWh_step (ω1 := ω) (ρ' := [A, B, some .pile, some (.int l), some (.int ((l + k) / 2)), some (.int ((l + k) / 2))]) (ω' := ω), e]
        · walk_at "ev"
          rw [decide_eq_true c]
        · unfold B_q6_0
          walk_at "ev"
          rw [eCallP_ap rfl]
          walk_at "ev"
          rw [ep, hP]
          walk_at "ev"
      | false =>
        obtain ⟨r, y', e, g⟩ := lt_loop hp A B d ((l + k) / 2 + 1) k (some (.int ((l + k) / 2))) (by omega) (by omega) (by omega) h3 h4 (fun ψ => by rw [show (l + k) / 2 + 1 - 1 = (l + k) / 2 by omega]; exact hP)
        refine ⟨r, y', fun ω => ?_, g⟩
        rw [sWh_step (ω1 := ω) (ρ' := [A, B, some .pile, some (.int ((l + k) / 2 + 1)), some (.int k), some (.int ((l + k) / 2))]) (ω' := ω), e]
        · walk_at "ev"
          rw [decide_eq_true c]
        · unfold B_q6_0
          walk_at "ev"
          rw [eCallP_ap rfl]
          walk_at "ev"
          rw [ep, hP]
          walk_at "ev"
    · have e : l = k := by omega
      subst e
      refine ⟨l, y, fun ω => ?_, h1, h3, h4, h5⟩
      rw [sWh_end]
      walk_at "ev"
      rw [decide_eq_false (by omega)]
theorem F_lt_eq {p : Ff} {P : Int → Bool} {lo hi : Int} (hp : ∀ ω m, lo ≤ m → m < hi → p [.int m] ω = .ok (.bl (P m)) ω) (h : lo ≤ hi) : ∃ r, (∀ ω, F_q6 p [.int lo, .int hi, .pile] ω = .ok (.int r) ω) ∧ lo ≤ r ∧ r ≤ hi ∧ (r < hi → P r = true) ∧ (lo < r → P (r - 1) = false) := by
  obtain ⟨r, y', e, g⟩ := lt_loop hp (some (.int lo)) (some (.int hi)) (hi - lo).toNat lo hi none (Nat.le_refl _) (Int.le_refl _) h (Int.le_refl _) (fun z => absurd z (by omega)) (fun z => absurd z (by omega))
  refine ⟨r, fun ω => ?_, g⟩
  unfold F_q6 g_q6
  walk_at "ev"
  rw [e]
  walk_at "ev"
theorem eLeast2_ap {F : Ff → Ff} {fa fb fl : Ef} {js : List Nat} {ρ : En} {ω : Om} {i j : Int} {cu : List U} (h1 : fa ρ ω = .ok (.int i) ω) (h2 : fb ρ ω = .ok (.int j) ω) (h3 : capU ρ js = some cu) : eLeast2 F fa fb fl js ρ ω = onlyI (F (lamF2 fl cu) [.int i, .int j, .pile] ω) := by
  unfold eLeast2
  rw [h1, Res.bnd_ok, h2, Res.bnd_ok, h3]
theorem F_ftm_eq {m n : Nat} {f : Nat → Int} {a : Int} (hf : Vn m f) (hNN : NN m f) (hB : ∀ x, x < m → f x ≤ BB 20) (hn : n ≤ 10 ^ 60) (hm : m ≤ 8) (ha : 0 ≤ a) : ∃ r : Nat, (∀ ω, F_q0 [.lst ((tabl m f).map U.int), .int (n : Int), .int a] ω = .ok (.int (r : Int)) ω) ∧ r ≤ n ∧ f n - f r ≤ a ∧ (0 < r → a < f n - f (r - 1)) := by
  have ev := fun (k : Nat) (hk : k ≤ 10 ^ 60) ω => F_va_eq hf hNN hB (n := k) hk hm ω
  have hp : ∀ ω (k : Int), 0 ≤ k → k < (n : Int) → lamF2 (eOp uLe (eOp uSub (eVar 2) (eCall F_q13 (aCons (eVar 3) (aCons (eVar 0) aNil)))) (eVar 1)) [.int a, .int (f n), .lst ((tabl m f).map U.int)] [.int k] ω = .ok (.bl (decide (f n - f k.toNat ≤ a))) ω := fun ω k k0 k1 => by
    have e := ev k.toNat (by omega) ω
    rw [show ((k.toNat : Nat) : Int) = k by omega] at e
    unfold lamF2
    walk_at "ev"
    rw [e]
    walk_at "ev"
  obtain ⟨r, e, r0, r1, r2, r3⟩ := F_lt_eq (P := fun k => decide (f n - f k.toNat ≤ a)) (lo := 0) (hi := (n : Int)) hp (by omega)
  obtain ⟨q, rfl⟩ : ∃ q : Nat, r = q := ⟨r.toNat, by omega⟩
  have en := ev n hn
  refine ⟨q, fun ω => ?_, by omega, ?_, fun h => ?_⟩
  · unfold F_q0 g_q0
    walk_at "ev"
    rw [en]
    walk_at "ev"
    rw [eLeast2_ap (i := 0) (j := (n : Int)) (cu := [.int a, .int (f n), .lst ((tabl m f).map U.int)]) (by walk_at "ev") (by walk_at "ev") (by simp [capU, asIs_ints]), e]
    rfl
  · by_cases c : q < n
    · have := r2 (by omega)
      simpa using this
    · have : q = n := by omega
      subst this
      omega
  · have := r3 (by omega)
    rw [show ((q : Int) - 1).toNat = q - 1 by omega] at this
    have := of_decide_eq_false this
    omega
theorem dnU_succ (m : Nat) : dnU ((m + 1 : Nat) : Int) (m + 1) = .int ((m + 1 : Nat) : Int) :: dnU (m : Int) m := by
  unfold dnU
  rw [List.range_succ_eq_map, List.map_cons, List.map_map]
  refine List.cons_eq_cons.mpr ⟨by simp, List.map_congr_left fun i ψ => ?_⟩
  show U.int (((m + 1 : Nat) : Int) - ((i + 1 : Nat) : Int)) = _
  have : ((m + 1 : Nat) : Int) - ((i + 1 : Nat) : Int) = (m : Int) - (i : Int) := by omega
  rw [this]
theorem wa_loop {N : Nat} (A B C : Option U) (full : List Nat) (hb : ∀ b ∈ full, 2 ≤ b ∧ b ≤ 1000000) (hl : full.length ≤ 5) : ∀ (rb pre : List Nat) (x a : Nat) (acc : List Nat) (y8 y9 y10 y11 : Option U), full = pre ++ rb → x * Wp rb + N % Wp rb ≤ 10 ^ 60 → a < (wys rb (x * Wp rb + N % Wp rb)).length → acc.length + rb.length ≤ 5 →
    ∃ (l : Nat) (ms : List Nat) (y7 z8 z9 z10 z11 : Option U), (∀ ω, forU (stepU (aName 8) B_q14_0) (dnU (rb.length : Int) rb.length) [A, B, C, some (.lst (tbU (TB N full))), some (.lst (wsU (WS full))), some (.lst (wsU acc)), some (.int ((x * Wp rb + N % Wp rb : Nat) : Int)), some (.int (a : Int)), y8, y9, y10, y11] ω = .nx [A, B, C, some (.lst (tbU (TB N full))), some (.lst (wsU (WS full))), some (.lst (wsU (acc ++ ms.reverse))), some (.int (l : Int)), y7, z8, z9, z10, z11] ω) ∧ (wys rb (x * Wp rb + N % Wp rb))[a]? = some (l :: ms)
  | [], pre, x, a, acc, y8, y9, y10, y11, hfull, hleft, ha, hacc => by
    refine ⟨x * Wp [] + N % Wp [], [], _, _, _, _, _, fun ω => by rw [List.reverse_nil, List.append_nil]; rfl, ?_⟩
    have : a = 0 := by simp [wys] at ha; exact ha
    subst this
    rfl
  | b :: rb, pre, x, a, acc, y8, y9, y10, y11, hfull, hleft, ha, hacc => by
    have hb' : ∀ y ∈ b :: rb, 2 ≤ y ∧ y ≤ 1000000 := fun y hy => hb y (by rw [hfull]; simp [List.mem_cons.mp hy])
    have hp : ∀ y ∈ b :: rb, 0 < y := fun y hy => by have := hb' y hy; omega
    have hp' : ∀ y ∈ rb, 0 < y := fun y hy => hp y (by simp [hy])
    have hlr : (b :: rb).length ≤ 5 := by rw [hfull, List.length_append] at hl; omega
    have w0 := Wp_pos hp
    have wb := Wp_b hb' hlr
    have xm : x ≤ 10 ^ 60 := by
      have := Nat.mul_le_mul_left x w0
      omega
    have cnt := Tw_cnt (N := N) hp x
    obtain ⟨r, er, r1, r2, r3⟩ := F_ftm_eq (n := x) (a := (a : Int)) (Tw_vn N (b :: rb)) (Tw_NN N (b :: rb) _) (fun z hz => Tw_BB hb' hlr (by omega)) (by omega) (by omega) (by omega)
    obtain ⟨u1, u2⟩ := un_step (N := N) hp r1 r2 (by omega) r3
    have rest := rest_is (N := N) (b := b) (Wp_pos hp') r
    have restle : r * Wp (b :: rb) ≤ x * Wp (b :: rb) := Nat.mul_le_mul_right _ r1
    rw [rest] at u1 u2
    obtain ⟨a', ea⟩ : ∃ a' : Nat, (a : Int) - (Tw N (b :: rb) x - Tw N (b :: rb) r) = a' := ⟨((a : Int) - (Tw N (b :: rb) x - Tw N (b :: rb) r)).toNat, by omega⟩
    rw [ea] at u1 u2
    obtain ⟨l, ms, y7, z8, z9, z10, z11, e, g⟩ := wa_loop A B C full hb hl rb (pre ++ [b]) (N / Wp rb % b + r * b) a' (acc ++ [x - r]) (some (.int ((rb.length + 1 : Nat) : Int))) (some (.lst ((tabl (rb.length + 1 + 1) (Tw N (b :: rb))).map U.int))) (some (.int (x : Int))) (some (.int (r : Int))) (by rw [hfull]; simp) (by rw [← rest]; omega) (by omega) (by simp at hacc ⊢; omega)
    refine ⟨l, ms ++ [x - r], y7, z8, z9, z10, z11, fun ω => ?_, ?_⟩
    · have t1 : atI (tbU (TB N full)) ((rb.length + 1 : Nat) : Int) = some (.lst ((tabl (rb.length + 1 + 1) (Tw N (b :: rb))).map U.int)) := by
        rw [atI_cast]; unfold tbU; rw [List.getElem?_map, hfull]
        have := TB_at N pre (b :: rb)
        rw [List.length_cons] at this
        rw [this]; rfl
      have t2 : atI (wsU (WS full)) ((rb.length + 1 : Nat) : Int) = some (.int (Wp (b :: rb) : Int)) := by
        rw [atI_cast]; unfold wsU; rw [List.getElem?_map, hfull]
        have := WS_at pre (b :: rb)
        rw [List.length_cons] at this
        rw [this]; rfl
      have e2 : ((x * Wp (b :: rb) + N % Wp (b :: rb) : Nat) : Int) / (Wp (b :: rb) : Int) = (x : Int) := by
        have := most_is (N := N) w0 x
        rw [← Int.natCast_ediv, this]
      have e3 := fun ω => F_va_eq (Tw_vn N (b :: rb)) (Tw_NN N (b :: rb) _) (fun z hz => Tw_BB hb' hlr (by omega)) (n := x) (by omega) (by omega) ω
      have e4 := fun ω => F_va_eq (Tw_vn N (b :: rb)) (Tw_NN N (b :: rb) _) (fun z hz => Tw_BB hb' hlr (by omega)) (n := r) (by omega) (by omega) ω
      have e5 : uMul (.int ((x : Int) - (r : Int))) (.int (Wp (b :: rb) : Int)) = some (.int (((x : Int) - (r : Int)) * (Wp (b :: rb) : Int))) := uMul_BB (m := 5) (by decide) (by omega) (Int.le_trans (show (x : Int) - r ≤ x by omega) (n60 xm)) (by omega) (n60 (Nat.le_trans wb (by decide)))
      have ed := uDiv_W (N := ((x * Wp (b :: rb) + N % Wp (b :: rb) : Nat) : Int)) hb' hlr
      have e6 : ((x * Wp (b :: rb) + N % Wp (b :: rb) : Nat) : Int) - ((x : Int) - (r : Int)) * (Wp (b :: rb) : Int) = (((N / Wp rb % b + r * b) * Wp rb + N % Wp rb : Nat) : Int) := by
        rw [← rest]
        push_cast
        rw [Int.sub_mul]
        omega
      have e7 : wsU acc ++ [U.int ((x : Int) - (r : Int))] = wsU (acc ++ [x - r]) := by
        unfold wsU
        rw [List.map_append]
        show _ = _ ++ [U.int ((x - r : Nat) : Int)]
        rw [show ((x - r : Nat) : Int) = (x : Int) - (r : Int) by omega]
      have l5 : (wsU acc).length = acc.length := by unfold wsU; rw [List.length_map]
      simp at hacc
      rw [List.length_cons] at er e3 e4
      rw [List.length_cons, dnU_succ, forU, B_q14_0]
      walk_at "ev"
      rw [t1]
      walk_at "ev"
      rw [t2]
      walk_at "ev"
      rw [ed]
      walk_at "ev"
      rw [e2, er]
      walk_at "ev"
      rw [e3]
      walk_at "ev"
      rw [e4]
      walk_at "ev"
      rw [t2]
      walk_at "ev"
      rw [e5]
      walk_at "ev"
      rw [ea, e6, e7, ← B_q14_0, e]
      simp
    · rw [u1, List.getElem?_map, show ((a' : Int)).toNat = a' by omega, g]
      rfl
theorem F_wa_eq {N a : Nat} {rb : List Nat} (hb : ∀ b ∈ rb, 2 ≤ b ∧ b ≤ 1000000) (hl : rb.length ≤ 5) (hN : N ≤ 10 ^ 60) (ha : a < (wys rb N).length) : ∃ row, (wys rb N)[a]? = some row ∧ ∀ ω, F_q14 [scU rb, .int (N : Int), .int (a : Int)] ω = .ok (.tup (wsU row)) ω := by
  have hp : ∀ y ∈ rb, 0 < y := fun y hy => by have := hb y hy; omega
  have eN : N / Wp rb * Wp rb + N % Wp rb = N := by rw [Nat.mul_comm]; exact Nat.div_add_mod N (Wp rb)
  have cnt := Tw_cnt (N := N) hp (N / Wp rb)
  rw [eN] at cnt
  obtain ⟨l, ms, y7, z8, z9, z10, z11, e, g⟩ := wa_loop (N := N) (some (scU rb)) (some (.int (N : Int))) (some (.int (a : Int))) rb hb hl rb [] (N / Wp rb) a [] none none none none rfl (by omega) (by rw [eN]; exact ha) (by simpa using hl)
  rw [eN] at e g
  have m1 := fun ω => F_wm_eq (N := N) hb hl hN ω
  have m2 := fun ω => F_wt_eq (N := N) hb hl ω
  have m3 := fun ω => F_wo_eq hb hl ω
  have lw : (wsU (WS rb)).length = rb.length + 1 := by unfold wsU; rw [List.length_map, WS_len]
  have lm : ms.length ≤ 10 := by
    have := wys_row (List.mem_of_getElem? g)
    simp at this; omega
  refine ⟨_, g, fun ω => ?_⟩
  have lr : (wsU ms.reverse).length ≤ 10 := by unfold wsU; rw [List.length_map, List.length_reverse]; exact lm
  have e' := e ω
  rw [List.nil_append, show wsU [] = [] from rfl] at e'
  have er : (wsU ms.reverse ++ [U.int (l : Int)]).reverse = wsU (l :: ms) := by
    unfold wsU; simp
  unfold F_q14 g_q14
  walk_at "ev"
  rw [if_neg (by omega)]
  walk_at "ev"
  rw [m1]
  walk_at "ev"
  rw [if_neg (by omega)]
  walk_at "ev"
  rw [m2]
  walk_at "ev"
  rw [m3]
  walk_at "ev"
  rw [lw, show ((rb.length + 1 : Nat) : Int) - 1 = (rb.length : Int) by omega, show ((rb.length : Int) - 0).toNat = rb.length by omega, e']
  walk_at "ev"
  rw [er]
theorem lp_loop (A : Option U) : ∀ (bs rb : List Nat) (y : Option U), (∀ b ∈ bs, 2 ≤ b ∧ b ≤ 1000000) → (∀ b ∈ rb, 2 ≤ b ∧ b ≤ 1000000) → rb.length + bs.length ≤ 5 → ∃ y', ∀ ω, forU (stepU (aName 2) B_q4_0) (wsU bs) [A, some (.lst (wsU (WS rb))), y] ω = .nx [A, some (.lst (wsU (WS (bs.reverse ++ rb)))), y'] ω
  | [], rb, y, _, _, _ => ⟨y, fun ω => rfl⟩
  | b :: bs, rb, y, hb, hr, hl => by
    obtain ⟨b2, b10⟩ := hb b (by simp)
    obtain ⟨y', e⟩ := lp_loop A bs (b :: rb) (some (.int (b : Int))) (fun x hx => hb x (by simp [hx])) (fun x hx => by
      rcases List.mem_cons.mp hx with z | z
      · subst z; exact ⟨b2, b10⟩
      · exact hr x z) (by simp at hl ⊢; omega)
    simp at hl
    refine ⟨y', fun ω => ?_⟩
    have wb := Wp_b hr (by omega)
    have hlast := WS_b (rb := rb)
    have lt : (wsU (WS rb)).length = rb.length + 1 := by unfold wsU; rw [List.length_map, WS_len]
    have e1 : uMul (.int (Wp rb : Int)) (.int (b : Int)) = some (.int ((Wp rb : Int) * (b : Int))) := uMul_r (by omega) (by omega)
    have et : wsU (WS rb) ++ [U.int ((Wp rb : Int) * (b : Int))] = wsU (WS (b :: rb)) := by
      show _ = wsU (WS rb ++ [_])
      unfold wsU; rw [List.map_append]; simp [Wp]
    show forU _ (.int (b : Int) :: wsU bs) _ _ = _
    rw [forU, B_q4_0]
    walk_at "ev"
    rw [hlast]
    walk_at "ev"
    rw [et, ← B_q4_0, e]
    simp
theorem F_ws_eq {rb : List Nat} (hb : ∀ b ∈ rb, 2 ≤ b ∧ b ≤ 1000000) (hl : rb.length ≤ 5) (ω : Om) : F_q4 [.tup (wsU rb.reverse)] ω = .ok (.lst (wsU (WS rb))) ω := by
  obtain ⟨y', e⟩ := lp_loop (some (.tup (wsU rb.reverse))) rb.reverse [] none (fun b h => hb b (by simpa using h)) (by simp) (by simpa using hl)
  rw [List.reverse_reverse, List.append_nil] at e
  have e' := e ω
  have z : wsU (WS []) = [U.int 1] := rfl
  rw [z] at e'
  unfold F_q4 g_q4
  walk_at "ev"
  rw [e']
  walk_at "ev"
theorem wsU_len (xs : List Nat) : (wsU xs).length = xs.length := by unfold wsU; rw [List.length_map]
theorem ws_ints (r : List Nat) : wsU r = (r.map fun w : Nat => (w : Int)).map U.int := by unfold wsU; rw [List.map_map]; rfl
theorem ws_sum (r : List Nat) : uSumU [.lst (wsU r)] = some (.int (r.map fun w : Nat => (w : Int)).sum) := by rw [ws_ints]; unfold uSumU; simp only; rw [seqInts_l]; rfl
theorem dg_len : ∀ (rb : List Nat) (n : Nat), (dg rb n).length = rb.length
  | [], _ => rfl
  | b :: rb, n => by rw [dg, List.length_append, dg_len rb n]; rfl
theorem pd_loop (A B : Option U) (N : Nat) : ∀ (bs rb : List Nat) (y : Option U), (∀ b ∈ bs, 2 ≤ b ∧ b ≤ 1000000) → rb.length + bs.length ≤ 5 → ∃ y', ∀ ω, forU (stepU (aName 4) B_paid_0) (wsU bs) [A, B, some (.lst (wsU (dg rb N))), some (.int ((N / Wp rb : Nat) : Int)), y] ω = .nx [A, B, some (.lst (wsU (dg (bs.reverse ++ rb) N))), some (.int ((N / Wp (bs.reverse ++ rb) : Nat) : Int)), y'] ω
  | [], rb, y, _, _ => ⟨y, fun ω => rfl⟩
  | b :: bs, rb, y, hb, hl => by
    obtain ⟨y', e⟩ := pd_loop A B N bs (b :: rb) (some (.int (b : Int))) (fun x hx => hb x (by simp [hx])) (by simp at hl ⊢; omega)
    obtain ⟨b2, b10⟩ := hb b (by simp)
    simp at hl
    refine ⟨y', fun ω => ?_⟩
    have ed : ((N / Wp (b :: rb) : Nat) : Int) = ((N / Wp rb : Nat) : Int) / (b : Int) := by
      show ((N / (Wp rb * b) : Nat) : Int) = _
      rw [← Nat.div_div_eq_div_mul]; push_cast; rfl
    have et : wsU (dg rb N) ++ [U.int (((N / Wp rb : Nat) : Int) % (b : Int))] = wsU (dg (b :: rb) N) := by
      rw [dg]; unfold wsU; rw [List.map_append]; simp
    have lt : (wsU (dg rb N)).length = rb.length := by rw [wsU_len, dg_len]
    show forU _ (.int (b : Int) :: wsU bs) _ _ = _
    rw [forU, B_paid_0]
    walk_at "ev"
    rw [et, ← ed, ← B_paid_0, e]
    simp
theorem rngU_snoc (k : Nat) : rngU 1 (k + 1) = rngU 1 k ++ [.int ((k + 1 : Nat) : Int)] := by
  unfold rngU
  rw [List.range_succ, List.map_append]
  refine congrArg _ ?_
  simp only [List.map_cons, List.map_nil]
  rw [show (1 : Int) + (k : Int) = ((k + 1 : Nat) : Int) by omega]
theorem nw_loop (full : List Nat) (hb : ∀ b ∈ full, 2 ≤ b ∧ b ≤ 1000000) (hl : full.length ≤ 5) (way : List Nat) : ∀ (rb pre v tail : List Nat) (n a : Nat) (y : Option U), full = pre ++ rb → way = v ++ tail → tail.length + rb.length ≤ 10 → (wys rb n)[a]? = some v → n ≤ 10 ^ 60 →
    (∀ w, (wys rb n)[a + 1]? = some w → ∀ ys ω, forU (stepU (aName 3) B_q1_0) (rngU 1 rb.length ++ ys) [some (.lst (wsU (WS full))), some (.tup (wsU way)), some (.int 0), y] ω = .rt (.tup (wsU (w ++ tail))) ω) ∧
    ((wys rb n)[a + 1]? = none → ∃ (y' : Option U) (u : List Nat) (x l : Nat), v = u ++ [x] ∧ l + x * Wp rb = n ∧ ∀ ys ω, forU (stepU (aName 3) B_q1_0) (rngU 1 rb.length ++ ys) [some (.lst (wsU (WS full))), some (.tup (wsU way)), some (.int 0), y] ω = forU (stepU (aName 3) B_q1_0) ys [some (.lst (wsU (WS full))), some (.tup (wsU way)), some (.int (l : Int)), y'] ω)
  | [], pre, v, tail, n, a, y, hfull, hway, ht, hv, hn => by
    have la := (List.getElem?_eq_some_iff.mp hv).1
    have a0 : a = 0 := by simp [wys] at la; exact la
    subst a0
    have ev : [n] = v := by simpa [wys] using hv
    refine ⟨fun w hw => by simp [wys] at hw, fun ψ => ⟨y, [], n, 0, ev.symm, by simp [Wp], fun ys ω => rfl⟩⟩
  | b :: rb, pre, v, tail, n, a, y, hfull, hway, ht, hv, hn => by
    have hb' : ∀ y ∈ b :: rb, 2 ≤ y ∧ y ≤ 1000000 := fun y hy => hb y (by rw [hfull]; simp [List.mem_cons.mp hy])
    have hb2 : ∀ y ∈ rb, 2 ≤ y ∧ y ≤ 1000000 := fun y hy => hb' y (List.mem_cons_of_mem _ hy)
    have hp : ∀ y ∈ b :: rb, 0 < y := fun y hy => by have := hb' y hy; omega
    have hlr : (b :: rb).length ≤ 5 := by rw [hfull, List.length_append] at hl; omega
    have hlr2 : rb.length ≤ 4 := by simp at hlr; omega
    have wb := Wp_b hb2 (by omega)
    obtain ⟨m, a1, v', ev, m1, m2, k1, k2⟩ := next_at hp hv
    subst ev
    have lv := wys_row (List.mem_of_getElem? m2)
    obtain ⟨i1, i2⟩ := nw_loop full hb hl way rb (pre ++ [b]) v' (m :: tail) (n - m * Wp (b :: rb)) a1 y (by rw [hfull]; simp) (by rw [hway]; simp) (by simp at ht ⊢; omega) m2 (by omega)
    rw [List.length_cons, rngU_snoc]
    cases hq : (wys rb (n - m * Wp (b :: rb)))[a1 + 1]? with
    | some w' =>
      have kw := k1 w' hq
      refine ⟨fun w hw ys ω => ?_, fun hnn => by rw [kw] at hnn; cases hnn⟩
      rw [kw] at hw; cases hw
      rw [List.append_assoc, i1 w' hq, List.append_assoc]; rfl
    | none =>
      obtain ⟨kA, kB⟩ := k2 hq
      obtain ⟨y', u, x, l, eu, el, i3⟩ := i2 hq
      subst eu
      have lu : u.length = rb.length := by simpa using lv
      have r0 : atI (wsU way) ((rb.length : Nat) : Int) = some (.int (x : Int)) := by
        rw [atI_cast, hway]; unfold wsU; rw [List.getElem?_map, List.append_assoc, List.append_assoc, List.getElem?_append_right (by omega), lu]; simp
      have r1 : atI (wsU way) ((rb.length + 1 : Nat) : Int) = some (.int (m : Int)) := by
        rw [atI_cast, hway]; unfold wsU; rw [List.getElem?_map, List.append_assoc, List.getElem?_append_right (by simp; omega), List.length_append, lu]; simp
      have t0 : atI (wsU (WS full)) ((rb.length : Nat) : Int) = some (.int (Wp rb : Int)) := by
        rw [atI_cast]; unfold wsU; rw [List.getElem?_map, hfull, show pre ++ b :: rb = (pre ++ [b]) ++ rb by simp, WS_at]; rfl
      have t1 : atI (wsU (WS full)) ((rb.length + 1 : Nat) : Int) = some (.int (Wp (b :: rb) : Int)) := by
        rw [atI_cast]; unfold wsU; rw [List.getElem?_map, hfull]
        have := WS_at pre (b :: rb)
        rw [List.length_cons] at this
        rw [this]; rfl
      have xl : x * Wp rb ≤ n := by omega
      have w0 := Wp_pos (rb := rb) fun y hy => hp y (List.mem_cons_of_mem _ hy)
      have xn : x ≤ n := Nat.le_trans (Nat.le_mul_of_pos_right x w0) xl
      have um : uMul (.int (x : Int)) (.int (Wp rb : Int)) = some (.int ((x : Int) * (Wp rb : Int))) := uMul_BB (m := 5) (by decide) (by omega) (n60 (by omega)) (by omega) (n60 (Nat.le_trans wb (by decide)))
      have es : (l : Int) + (x : Int) * (Wp rb : Int) = ((n - m * Wp (b :: rb) : Nat) : Int) := by rw [← el]; push_cast; rfl
      have dr : cutG (wsU way) (some (((rb.length + 1 : Nat) : Int) + 1)) none = wsU tail := by
        rw [cutFrom' (by omega), show (((rb.length + 1 : Nat) : Int) + 1).toNat = rb.length + 2 by omega, hway]
        unfold wsU
        rw [← List.map_drop, List.drop_append_of_le_length (by simp; omega), List.drop_eq_nil_of_le (by simp; omega)]
        rfl
      have k0 : ((rb.length + 1 : Nat) : Int) - 1 = ((rb.length : Nat) : Int) := by omega
      have lt : (wsU tail).length ≤ 10 := by rw [wsU_len]; omega
      by_cases hW : Wp (b :: rb) ≤ n - m * Wp (b :: rb)
      · have kw := kA hW
        refine ⟨fun w hw ys ω => ?_, fun hnn => by rw [kw] at hnn; cases hnn⟩
        rw [kw] at hw; cases hw
        have rp : uRep (.tup [.int 0]) (.int ((rb.length : Nat) : Int)) = some (.tup (List.replicate rb.length (U.int 0))) := uRep_t1 (by omega) (by omega)
        have fin : U.int (((n - m * Wp (b :: rb) : Nat) : Int) - (Wp (b :: rb) : Int)) :: List.replicate rb.length (U.int 0) ++ [U.int ((m : Int) + 1)] ++ wsU tail = wsU ((n - m * Wp (b :: rb) - Wp (b :: rb)) :: List.replicate rb.length 0 ++ [m + 1] ++ tail) := by
          unfold wsU
          simp only [List.map_append, List.map_cons, List.map_nil, List.map_replicate]
          rw [show ((n - m * Wp (b :: rb) - Wp (b :: rb) : Nat) : Int) = ((n - m * Wp (b :: rb) : Nat) : Int) - (Wp (b :: rb) : Int) by omega]
          rfl
        rw [List.append_assoc, i3, List.singleton_append, forU, B_q1_0]
        walk_at "ev"
        rw [k0, r0]
        walk_at "ev"
        rw [t0]
        walk_at "ev"
        rw [um]
        walk_at "ev"
        rw [es, t1]
        walk_at "ev"
        rw [if_pos (by omega), r1]
        walk_at "ev"
        rw [k0, dr, show (((rb.length : Nat) : Int)).toNat = rb.length by omega]
        walk_at "ev"
        exact congrArg (fun z => Fl.rt (U.tup z) ω) fin
      · have kw := kB hW
        refine ⟨fun w hw => (by rw [kw] at hw; cases hw), fun ψ => ⟨some (.int ((rb.length + 1 : Nat) : Int)), u ++ [x], m, n - m * Wp (b :: rb), rfl, by omega, fun ys ω => ?_⟩⟩
        rw [List.append_assoc, i3, List.singleton_append, forU, B_q1_0]
        walk_at "ev"
        rw [k0, r0]
        walk_at "ev"
        rw [t0]
        walk_at "ev"
        rw [um]
        walk_at "ev"
        rw [es, t1]
        walk_at "ev"
        rw [if_neg (by omega), ← B_q1_0]
noncomputable def nxU : Option (List Nat) → U
  | some w => .tup (wsU w)
  | none => .non
theorem F_nw_eq {N a : Nat} {rb v : List Nat} (hb : ∀ b ∈ rb, 2 ≤ b ∧ b ≤ 1000000) (hl : rb.length ≤ 5) (hN : N ≤ 10 ^ 60) (hv : (wys rb N)[a]? = some v) (ω : Om) : F_q1 [.lst (wsU (WS rb)), .tup (wsU v)] ω = .ok (nxU (wys rb N)[a + 1]?) ω := by
  obtain ⟨i1, i2⟩ := nw_loop rb hb hl v rb [] v [] N a none rfl (by simp) (by simp; omega) hv hN
  have lw : (wsU (WS rb)).length = rb.length + 1 := by rw [wsU_len, WS_len]
  unfold F_q1 g_q1
  walk_at "ev"
  rw [lw, show (((rb.length + 1 : Nat) : Int) - 1).toNat = rb.length by omega]
  cases hq : (wys rb N)[a + 1]? with
  | some w =>
    have e := i1 w hq [] ω
    rw [List.append_nil, List.append_nil] at e
    rw [e]
    walk_at "ev"
    rfl
  | none =>
    obtain ⟨y', u, x, l, _, _, e⟩ := i2 hq
    have e := e [] ω
    rw [List.append_nil] at e
    rw [e]
    walk_at "ev"
    rfl
theorem fw_loop (A : Option U) : ∀ (rb : List Nat) (n : Nat) (acc : List U) (y : Option U), (∀ b ∈ rb, 2 ≤ b ∧ b ≤ 1000000) → rb.length ≤ 5 → acc.length + rb.length ≤ 10 → ∃ z1 y', ∀ ω, forU (stepU (aName 3) B_q2_0) (wsU (WS rb).reverse) [A, some (.int (n : Int)), some (.lst acc), y] ω = .nx [A, z1, some (.lst (acc ++ wsU (dg rb n ++ [n / Wp rb]).reverse)), y'] ω
  | [], n, acc, y, _, _, hacc => by
    refine ⟨some (.int ((n : Int) % 1)), some (.int 1), fun ω => ?_⟩
    show forU _ [.int 1] _ _ = _
    rw [forU, B_q2_0]
    walk_at "ev"
    simp [forU, dg, Wp, wsU]
  | b :: rb, n, acc, y, hb, hl, hacc => by
    have hb2 : ∀ y ∈ rb, 2 ≤ y ∧ y ≤ 1000000 := fun y hy => hb y (List.mem_cons_of_mem _ hy)
    have hp : ∀ y ∈ b :: rb, 0 < y := fun y hy => by have := hb y hy; omega
    have w0 := Wp_pos hp
    simp only [List.length_cons] at hacc
    obtain ⟨z1, y', e⟩ := fw_loop A rb (n % Wp (b :: rb)) (acc ++ [U.int ((n / Wp (b :: rb) : Nat) : Int)]) (some (.int (Wp (b :: rb) : Int))) hb2 (by simp at hl; omega) (by simp; omega)
    refine ⟨z1, y', fun ω => ?_⟩
    have ed := uDiv_W (N := (n : Int)) hb hl
    have c1 : (n : Int) / (Wp (b :: rb) : Int) = ((n / Wp (b :: rb) : Nat) : Int) := by push_cast; rfl
    have c2 : (n : Int) % (Wp (b :: rb) : Int) = ((n % Wp (b :: rb) : Nat) : Int) := by push_cast; rfl
    have er : wsU (WS (b :: rb)).reverse = .int (Wp (b :: rb) : Int) :: wsU (WS rb).reverse := by
      show wsU (WS rb ++ [Wp (b :: rb)]).reverse = _
      rw [List.reverse_append]; rfl
    rw [er, forU, B_q2_0]
    walk_at "ev"
    rw [ed]
    walk_at "ev"
    rw [c1, c2, ← B_q2_0, e]
    rw [show Wp (b :: rb) = Wp rb * b from rfl, dg_mod, Nat.mod_mul_right_div_self, dg]
    unfold wsU
    simp
theorem F_fw_eq {rb : List Nat} {n : Nat} (hb : ∀ b ∈ rb, 2 ≤ b ∧ b ≤ 1000000) (hl : rb.length ≤ 5) (ω : Om) : F_q2 [.lst (wsU (WS rb)), .int (n : Int)] ω = .ok (.tup (wsU (dg rb n ++ [n / Wp rb]))) ω := by
  obtain ⟨z1, y', e⟩ := fw_loop (some (.lst (wsU (WS rb)))) rb n [] none hb hl (by simp; omega)
  have e' := e ω
  rw [List.nil_append] at e'
  have rv : ∀ u : List Nat, uRev (.lst (wsU u)) (some (-1)) = some (.lst (wsU u.reverse)) := fun u => by
    show some (U.lst (List.reverse _)) = _
    unfold wsU; rw [List.map_reverse]
  have r1 := rv (WS rb)
  have r2 := rv (dg rb n ++ [n / Wp rb]).reverse
  rw [List.reverse_reverse] at r2
  have l1 : (wsU (WS rb).reverse).length = rb.length + 1 := by rw [wsU_len, List.length_reverse, WS_len]
  have l2 : (wsU (dg rb n ++ [n / Wp rb])).length = rb.length + 1 := by rw [wsU_len, List.length_append, dg_len]; rfl
  unfold F_q2 g_q2
  walk_at "ev"
  rw [r1]
  walk_at "ev"
  rw [e']
  walk_at "ev"
  rw [r2]
  walk_at "ev"
theorem dotZ : ∀ (xs ys : List Nat), ((ys.zip xs).map fun p : Nat × Nat => (p.1 : Int) * (p.2 : Int)).sum = ((dotN xs ys : Nat) : Int)
  | [], _ => by simp [dotN]
  | _ :: _, [] => by simp [dotN]
  | x :: xs, y :: ys => by
    rw [List.zip_cons_cons, List.map_cons, List.sum_cons, dotZ xs ys, dotN]
    push_cast
    rw [Int.mul_comm]
theorem WS_mem_le : ∀ {rb : List Nat}, (∀ b ∈ rb, 2 ≤ b ∧ b ≤ 1000000) → rb.length ≤ 5 → ∀ y ∈ WS rb, y ≤ 1000000000000000000000000000000
  | [], _, _, y, hy => by simp [WS] at hy; omega
  | b :: rb, hb, hl, y, hy => by
    rcases List.mem_append.mp (show y ∈ WS rb ++ [Wp (b :: rb)] from hy) with z | z
    · exact WS_mem_le (fun x hx => hb x (List.mem_cons_of_mem _ hx)) (by simp at hl; omega) y z
    · simp at z; subst z; exact Wp_b hb hl
theorem sum_l (xs : List Int) : uSumU [.lst (xs.map U.int)] = some (.int xs.sum) := by unfold uSumU; simp only; rw [seqInts_l]; rfl
theorem nn_e : uNe (.lst []) (.lst []) = some (.bl false) := (uNe_l0 (a := [])).trans rfl
theorem F_iw_eq {N : Nat} {rb v : List Nat} (hb : ∀ b ∈ rb, 2 ≤ b ∧ b ≤ 1000000) (hl : rb.length ≤ 5) (hN : N ≤ 10 ^ 60) (hv : v ∈ wys rb N) (ω : Om) : F_q3 [.lst (wsU (WS rb)), .tup (wsU v), .int (N : Int)] ω = .ok (.bl true) ω := by
  have hp : ∀ y ∈ rb, 0 < y := fun y hy => by have := hb y hy; omega
  have lv := wys_row hv
  have lw : (wsU (WS rb)).length = rb.length + 1 := by rw [wsU_len, WS_len]
  have lv2 : (wsU v).length = rb.length + 1 := by rw [wsU_len, lv]
  have n2 := nn_e
  have c1 : cmpU (cstU (aName 0) (tfOr (tfB (eB uIsT (aCons (eVar 0) (aCons (eC (.ty "bool")) aNil)))) (tfOr (tfNot (tfB (eB uIsT (aCons (eVar 0) (aCons (eC (.ty "int")) aNil))))) (tfB (eOp uLt (eVar 0) (eC (.int 0)))))) (eVar 0) [none]) (wsU v) ω = .ok [] ω := by
    rw [ws_ints, cmpU_ints (f := fun ψ => none) (fun x hx => by
      obtain ⟨y, _, rfl⟩ := List.mem_map.mp hx
      walk_at "ev"
      rw [if_neg (by omega)])]
    simp
  have c2 : cmpU (cstU (aTup 2 (aConsT (aName 0) (aConsT (aName 1) aNilT))) tfTrue (eOp uMul (eVar 0) (eVar 1)) [none, none]) (zipU (wsU v) (wsU (WS rb))) ω = .ok (((v.zip (WS rb)).map fun p : Nat × Nat => (p.1 : Int) * (p.2 : Int)).map U.int) ω := by
    have hz : zipU (wsU v) (wsU (WS rb)) = (v.zip (WS rb)).map fun p : Nat × Nat => U.tup [.int (p.1 : Int), .int (p.2 : Int)] := by
      unfold zipU wsU
      rw [List.zipWith_map, List.zip, List.map_zipWith]
    rw [hz, cmpU_gen (f := fun p : Nat × Nat => some (U.int ((p.1 : Int) * (p.2 : Int)))) (fun p hp => by
      have m1 := wys_mem_le hv p.1 (List.of_mem_zip hp).1
      have m2 := WS_mem_le hb hl p.2 (List.of_mem_zip hp).2
      have um : uMul (.int (p.1 : Int)) (.int (p.2 : Int)) = some (.int ((p.1 : Int) * (p.2 : Int))) := uMul_BB (m := 5) (by decide) (by omega) (n60 (by omega)) (by omega) (n60 (Nat.le_trans m2 (by decide)))
      walk_at "ev"
      rw [um]
      walk_at "ev")]
    rw [List.filterMap_eq_map', List.map_map]
    rfl
  have sm := sum_l ((v.zip (WS rb)).map fun p : Nat × Nat => (p.1 : Int) * (p.2 : Int))
  rw [dotZ, wys_dot hp hv] at sm
  have lz : ((v.zip (WS rb)).map fun p : Nat × Nat => (p.1 : Int) * (p.2 : Int)).length ≤ 100 := by rw [List.length_map, List.length_zip]; omega
  generalize ((v.zip (WS rb)).map fun p : Nat × Nat => (p.1 : Int) * (p.2 : Int)) = xs at c2 sm lz
  have lzu : (zipU (wsU v) (wsU (WS rb))).length ≤ 100 := by unfold zipU; rw [List.length_zipWith]; omega
  unfold F_q3 g_q3
  walk_at "ev"
  rw [if_neg (by omega)]
  walk_at "ev"
  rw [c1]
  walk_at "ev"
  rw [n2]
  walk_at "ev"
  rw [c2]
  walk_at "ev"
  rw [sm]
  walk_at "ev"
  trace_state
structure Gd (ω : Om) : Prop where
  ex : ∃ p1 p2 p3 p4, ω.rs = [p1, p2, p3, p4] ∧ 0 ≤ p1 ∧ 0 ≤ p3 ∧ p3 < 2147483629
theorem next_ex {ω : Om} (h : Gd ω) {most : Int} (h0 : 0 < most) (h1 : most < 2 ^ 200) : ∃ (r : Int) (ω' : Om), F_q9 [.pile, .int most] ω = .ok (.int r) ω' ∧ Gd ω' ∧ 0 ≤ r ∧ r < most := by
  obtain ⟨cs, rs⟩ := ω
  obtain ⟨p1, p2, p3, p4, e, a1, a2, a3⟩ := h.ex
  simp only at e
  subst e
  have md : ∀ x : Int, 0 ≤ x % most ∧ x % most < most := fun x => ⟨Int.emod_nonneg _ (by lia), Int.emod_lt_of_pos _ h0⟩
  unfold F_q9 g_q9
  by_cases c1 : p2 > 0
  · refine ⟨p2 % most, ⟨cs, [p1, p2 / most, p3, p4]⟩, ?_, ⟨p1, p2 / most, p3, p4, rfl, a1, a2, a3⟩, (md p2).1, (md p2).2⟩
    walk_at "ev"
    rw [if_pos c1]
    walk_at "ev"
    rw [uDiv_b 200 (by decide) h0 h1]
    walk_at "ev"
    try rfl
  · by_cases c2 : p1 < (cs.length : Int)
    · obtain ⟨c, hc⟩ : ∃ c, atI cs p1 = some c := ⟨cs[p1.toNat]'(by lia), by rw [atI_in a1 c2]⟩
      have b1 := Int.emod_nonneg (p3 * 69069 + c) (show (2147483629 : Int) ≠ 0 by decide)
      have b2 := Int.emod_lt_of_pos (p3 * 69069 + c) (show (0 : Int) < 2147483629 by decide)
      by_cases c3 : 1000000000000000000 ≤ (if c < 0 then -c else c)
      · refine ⟨(if c < 0 then -c else c) % most, ⟨cs, [p1 + 1, (if c < 0 then -c else c) / most, (p3 * 69069 + c) % 2147483629, p4]⟩, ?_, ⟨_, _, _, _, rfl, by lia, b1, b2⟩, (md _).1, (md _).2⟩
        walk_at "ev"
        rw [if_neg c1]
        walk_at "ev"
        rw [if_pos c2]
        walk_at "ev"
        rw [hc]
        walk_at "ev"
        rw [if_pos c3]
        walk_at "ev"
        rw [uDiv_b 200 (by decide) h0 h1]
        walk_at "ev"
        try rfl
      · refine ⟨c % most, ⟨cs, [p1 + 1, p2, (p3 * 69069 + c) % 2147483629, p4]⟩, ?_, ⟨_, _, _, _, rfl, by lia, b1, b2⟩, (md _).1, (md _).2⟩
        walk_at "ev"
        rw [if_neg c1]
        walk_at "ev"
        rw [if_pos c2]
        walk_at "ev"
        rw [hc]
        walk_at "ev"
        rw [if_neg c3]
        walk_at "ev"
        try rfl
    · have b1 := Int.emod_nonneg (p3 * p3 + 40014 * (p4 + 1) + 977) (show (2147483629 : Int) ≠ 0 by decide)
      have b2 := Int.emod_lt_of_pos (p3 * p3 + 40014 * (p4 + 1) + 977) (show (0 : Int) < 2147483629 by decide)
      refine ⟨(p3 * p3 + 40014 * (p4 + 1) + 977) % 2147483629 / 16 % most, ⟨cs, [p1, p2, (p3 * p3 + 40014 * (p4 + 1) + 977) % 2147483629, p4 + 1]⟩, ?_, ⟨_, _, _, _, rfl, a1, b1, b2⟩, (md _).1, (md _).2⟩
      walk_at "ev"
      rw [if_neg c1]
      walk_at "ev"
      rw [if_neg c2]
      walk_at "ev"
      try rfl
theorem pile_eq (ns : List Int) (ω : Om) : F_q10 [.scr ns] ω = .ok (.lst (.scr ns :: pcells.map U.int)) ω := by
  unfold F_q10 g_q10
  walk_at "ev"
mutual
theorem deq_refl : ∀ d : D, D.eq d d = true
  | .non => by rw [D.eq]
  | .bl b => by rw [D.eq]; simp
  | .int i => by rw [D.eq]; simp
  | .str x => by rw [D.eq]; simp
  | .tup xs => by rw [D.eq]; exact deqs_refl xs
theorem deqs_refl : ∀ ds : List D, D.eqs ds ds = true
  | [] => by rw [D.eqs]
  | d :: ds => by rw [D.eqs, deq_refl d, deqs_refl ds]; rfl
end
theorem dep_ints : ∀ ns : List Int, D.depths (ns.map D.int) = 0
  | [] => by rw [List.map_nil, D.depths]
  | n :: ns => by simp [D.depths, D.depth, dep_ints ns]
theorem ws_ne (r : List Nat) : uNe (.tup (wsU r)) (.tup (wsU r)) = some (.bl false) := by rw [ws_ints, uNe_tt]; simp
theorem ws_ne2 (r : List Nat) (s : Int) : uNe (.tup [.tup (wsU r), .int s]) (.tup [.tup (wsU r), .int s]) = some (.bl false) := by
  rw [ws_ints]
  generalize (r.map fun w : Nat => (w : Int)) = row
  show (uEqs _ _).map (fun k => U.bl (!k)) = _
  have e : U.toDs [.tup (row.map U.int), .int s] = some [.tup (row.map D.int), .int s] := by
    rw [U.toDs, U.toD, L2.toDs_ints, U.toDs, U.toD, U.toDs]; rfl
  unfold uEqs
  rw [e]
  simp only [Option.bind_some]
  have d : D.depths [D.tup (row.map D.int), D.int s] ≤ 40 := by
    simp [D.depths, D.depth, dep_ints]
  rw [if_pos d, deqs_refl]; rfl
theorem ws_sumT (r : List Nat) : uSumU [.tup (wsU r)] = some (.int (r.map fun w : Nat => (w : Int)).sum) := by rw [ws_ints]; unfold uSumU; simp only; rw [seqInts_t]; rfl
theorem cmp_gd {st : U → Om → Res (Option U)} {P : Nat → Prop} : ∀ (us : List U), (∀ u ∈ us, ∀ ω, Gd ω → ∃ (b : Nat) (ω' : Om), Gd ω' ∧ P b ∧ st u ω = .ok (some (.int (b : Int))) ω') → ∀ ω, Gd ω → ∃ (bs : List Nat) (ω' : Om), Gd ω' ∧ bs.length = us.length ∧ (∀ b ∈ bs, P b) ∧ cmpU st us ω = .ok (wsU bs) ω'
  | [], _, ω, d => ⟨[], ω, d, rfl, fun b hb => (by cases hb), rfl⟩
  | u :: us, h, ω, d => by
    obtain ⟨b, ω1, d1, pb, e1⟩ := h u (by simp) ω d
    obtain ⟨bs, ω2, d2, l2, p2, e2⟩ := cmp_gd us (fun v hv => h v (List.mem_cons_of_mem _ hv)) ω1 d1
    refine ⟨b :: bs, ω2, d2, by simp [l2], fun x hx => ?_, ?_⟩
    · rcases List.mem_cons.mp hx with rfl | hx
      · exact pb
      · exact p2 x hx
    · rw [cmpU, e1, Res.bnd_ok, e2, Res.bnd_ok]; rfl
theorem bases_ex {ω : Om} (d : Gd ω) : ∃ (rb : List Nat) (ω' : Om), Gd ω' ∧ (∀ b ∈ rb, 2 ≤ b ∧ b ≤ 1000000) ∧ rb.length ≤ 5 ∧ F_q5 [.pile] ω = .ok (.tup (wsU rb.reverse)) ω' := by
  obtain ⟨r1, ω1, e1, d1, a1, b1⟩ := next_ex d (most := 3) (by decide) (by decide)
  have hm : 1 ≤ ([3, 12, 999999] : List Int).getD r1.toNat 0 ∧ ([3, 12, 999999] : List Int).getD r1.toNat 0 ≤ 999999 := getD_of (P := fun x => 1 ≤ x ∧ x ≤ 999999) (by
      intro x hx
      simp only [List.mem_cons, List.not_mem_nil, or_false] at hx
      omega) (by simp; lia)
  generalize hw : ([3, 12, 999999] : List Int).getD r1.toNat 0 = wd at hm
  obtain ⟨r2, ω2, e2, d2, a2, b2⟩ := next_ex d1 (most := 6) (by decide) (by decide)
  have big : (999999 : Int) < 2 ^ 200 := by decide
  obtain ⟨bs, ω3, d3, l3, p3, e3⟩ := cmp_gd (st := cstU (aName 0) tfTrue (eOp uAdd (eC (.int 2)) (eCall F_q9 (aCons (eVar 1) (aCons (eVar 2) aNil)))) [none, some .pile, some (.int wd)]) (P := fun b => 2 ≤ b ∧ b ≤ 1000000) (rngU 0 r2.toNat) (fun u ψ ω d => by
    obtain ⟨x, ω', ex, dx, x0, x1⟩ := next_ex d (most := wd) (by omega) (Int.lt_of_le_of_lt hm.2 big)
    refine ⟨(2 + x).toNat, ω', dx, by omega, ?_⟩
    rw [show (((2 + x).toNat : Nat) : Int) = 2 + x by omega]
    walk_at "ev"
    rw [ex]
    walk_at "ev") ω2 d2
  rw [rngU_len] at l3
  refine ⟨bs.reverse, ω3, d3, fun b h => p3 b (by simpa using h), by rw [List.length_reverse]; omega, ?_⟩
  rw [List.reverse_reverse]
  have lw := wsU_len bs
  unfold F_q5 g_q5
  walk_at "ev"
  rw [e1]
  walk_at "ev"
  rw [hw, e2]
  walk_at "ev"
  rw [e3]
  walk_at "ev"
noncomputable def fb : Nat → Int
  | 0 => 1
  | n + 1 => fb n * 1000000000
theorem far_ex (A0 A1 A2 A3 A4 A5 y7 A8 A9 A10 A11 A12 A13 A14 A15 : Option U) {ω : Om} (d : Gd ω) (h1 : A1 = some .pile) : ∃ (f : Int) (z7 : Option U) (ω' : Om), Gd ω' ∧ 0 ≤ f ∧ f < 1000000000000000000000000000000000000000000000 ∧ forU (stepU (aName 7) B_law_1) (rngU 0 5) [A0, A1, A2, A3, A4, A5, some (.int 0), y7, A8, A9, A10, A11, A12, A13, A14, A15] ω = .nx [A0, A1, A2, A3, A4, A5, some (.int f), z7, A8, A9, A10, A11, A12, A13, A14, A15] ω' := by
  subst h1
  refine forU_inv (K := fun r => ∃ (f : Int) (z7 : Option U) (ω' : Om), Gd ω' ∧ 0 ≤ f ∧ f < 1000000000000000000000000000000000000000000000 ∧ r = .nx [A0, some .pile, A2, A3, A4, A5, some (.int f), z7, A8, A9, A10, A11, A12, A13, A14, A15] ω') (P := fun i ρ ω' => Gd ω' ∧ ∃ (f : Int) (z7 : Option U), 0 ≤ f ∧ f < fb i ∧ ρ = [A0, some .pile, A2, A3, A4, A5, some (.int f), z7, A8, A9, A10, A11, A12, A13, A14, A15]) ⟨d, 0, y7, by decide, by decide, rfl⟩ (fun i x ρ ω' hx hP => ?_) (fun ρ ω' hP => ?_)
  · obtain ⟨g, f, z7, f0, f1, rfl⟩ := hP
    obtain ⟨hi, rfl⟩ := rngU_at hx
    obtain ⟨r, ω2, er, d2, r0, r1⟩ := next_ex g (most := 1000000000) (by decide) (by decide)
    refine ⟨[A0, some .pile, A2, A3, A4, A5, some (.int (f * 1000000000 + r)), some (.int (0 + (i : Int))), A8, A9, A10, A11, A12, A13, A14, A15], ω2, ?_, d2, f * 1000000000 + r, _, by omega, by show _ < fb i * 1000000000; omega, rfl⟩
    unfold B_law_1
    walk_at "ev"
    rw [er]
    walk_at "ev"
  · obtain ⟨g, f, z7, f0, f1, rfl⟩ := hP
    rw [rngU_len] at f1
    exact ⟨f, z7, ω', g, f0, f1, rfl⟩
theorem F_paid2 {N : Nat} {rb : List Nat} (hb : ∀ b ∈ rb, 2 ≤ b ∧ b ≤ 1000000) (hl : rb.length ≤ 5) (ω : Om) : F_paid [scU rb, .int (N : Int)] ω = .ok (.tup [.tup (wsU (dg rb N ++ [N / Wp rb])), .int ((dg rb N ++ [N / Wp rb]).map fun w : Nat => (w : Int)).sum]) ω := by
  obtain ⟨y', e⟩ := pd_loop (some (scU rb)) (some (.int (N : Int))) N rb.reverse [] none (fun b h => hb b (by simpa using h)) (by simpa using hl)
  rw [show N / Wp [] = N from Nat.div_one N, List.reverse_reverse, List.append_nil] at e
  have e' := e ω
  have z : wsU (dg [] N) = [] := rfl
  rw [z] at e'
  have et : wsU (dg rb N) ++ [U.int ((N / Wp rb : Nat) : Int)] = wsU (dg rb N ++ [N / Wp rb]) := by unfold wsU; rw [List.map_append]; rfl
  have lt : (wsU (dg rb N)).length = rb.length := by rw [wsU_len, dg_len]
  have lt2 : (wsU (dg rb N ++ [N / Wp rb])).length = rb.length + 1 := by rw [wsU_len, List.length_append, dg_len]; rfl
  have sm := ws_sum (dg rb N ++ [N / Wp rb])
  unfold F_paid g_paid
  walk_at "ev"
  rw [e']
  walk_at "ev"
  rw [et]
  walk_at "ev"
  rw [sm]
  walk_at "ev"
theorem one_loop {N p : Nat} {rb : List Nat} (hb : ∀ b ∈ rb, 2 ≤ b ∧ b ≤ 1000000) (hl : rb.length ≤ 5) (hN : N ≤ 10 ^ 60) (A0 A1 A2 A3 A6 A7 A8 A9 A11 A12 : Option U) (v : List Nat) (hv : (wys rb N)[p]? = some v) (k : Nat) (hk : p + k < (wys rb N).length) (y14 y15 : Option U) (ω : Om) :
    ∃ v' z14 z15, (wys rb N)[p + k]? = some v' ∧ forU (stepU (aName 14) B_law_0) (rngU ((p : Int) + 1) k) [A0, A1, A2, A3, some (scU rb), some (.lst (wsU (WS rb))), A6, A7, A8, A9, some (.int (N : Int)), A11, A12, some (.tup (wsU v)), y14, y15] ω = .nx [A0, A1, A2, A3, some (scU rb), some (.lst (wsU (WS rb))), A6, A7, A8, A9, some (.int (N : Int)), A11, A12, some (.tup (wsU v')), z14, z15] ω := by
  refine forU_inv (K := fun r => ∃ v' z14 z15, (wys rb N)[p + k]? = some v' ∧ r = .nx [A0, A1, A2, A3, some (scU rb), some (.lst (wsU (WS rb))), A6, A7, A8, A9, some (.int (N : Int)), A11, A12, some (.tup (wsU v')), z14, z15] ω) (P := fun i ρ ω' => ω' = ω ∧ ∃ v' z14 z15, (wys rb N)[p + i]? = some v' ∧ ρ = [A0, A1, A2, A3, some (scU rb), some (.lst (wsU (WS rb))), A6, A7, A8, A9, some (.int (N : Int)), A11, A12, some (.tup (wsU v')), z14, z15]) ⟨rfl, v, _, _, hv, rfl⟩ (fun i x ρ ω' hx hP => ?_) (fun ρ ω' hP => ?_)
  · obtain ⟨rfl, v', z14, z15, h1, rfl⟩ := hP
    obtain ⟨hi, rfl⟩ := rngU_at hx
    have nx := F_nw_eq hb hl hN h1 ω'
    have iw := F_iw_eq hb hl hN (List.mem_of_getElem? h1) ω'
    obtain ⟨w, hw, ew⟩ := F_wa_eq hb hl hN (a := p + i + 1) (by omega)
    rw [hw] at nx
    have nx : F_q1 [.lst (wsU (WS rb)), .tup (wsU v')] ω' = .ok (.tup (wsU w)) ω' := nx
    have e1 := ew ω'
    rw [show ((p + i + 1 : Nat) : Int) = (p : Int) + 1 + (i : Int) by omega] at e1
    have ne := ws_ne w
    clear ew
    refine ⟨[A0, A1, A2, A3, some (scU rb), some (.lst (wsU (WS rb))), A6, A7, A8, A9, some (.int (N : Int)), A11, A12, some (.tup (wsU w)), some (.int ((p : Int) + 1 + (i : Int))), some (.tup (wsU w))], ω', ?_, rfl, w, _, _, hw, rfl⟩
    unfold B_law_0
    walk_at "ev"
    rw [nx]
    walk_at "ev"
    rw [iw]
    walk_at "ev"
    rw [e1]
    walk_at "ev"
    rw [ne]
    walk_at "ev"
  · obtain ⟨rfl, v', z14, z15, h1, rfl⟩ := hP
    rw [rngU_len] at h1
    exact ⟨v', z14, z15, h1, rfl⟩
theorem turn_ex {ω : Om} (d : Gd ω) (u : U) (y2 y3 y4 y5 y6 y7 y8 y9 y10 y11 y12 y13 y14 y15 : Option U) : ∃ (z2 z3 z4 z5 z6 z7 z8 z9 z10 z11 z12 z13 z14 z15 : Option U) (ω' : Om), Gd ω' ∧ stepU (aName 2) B_law_2 u [none, some .pile, y2, y3, y4, y5, y6, y7, y8, y9, y10, y11, y12, y13, y14, y15] ω = .nx [none, some .pile, z2, z3, z4, z5, z6, z7, z8, z9, z10, z11, z12, z13, z14, z15] ω' := by
  obtain ⟨rb, ω1, d1, hb, hl, e1⟩ := bases_ex d
  have hp : ∀ y ∈ rb, 0 < y := fun y hy => by have := hb y hy; omega
  have g1 := F_ws_eq hb hl ω1
  have wb := Wp_b hb hl
  have w0 := Wp_pos hp
  have hlast := WS_b (rb := rb)
  have lw := wsU_len rb.reverse
  rw [List.length_reverse] at lw
  obtain ⟨f, z7, ω2, d2, f0, f1, e2⟩ := far_ex none (some .pile) (some u) (some (.tup (wsU rb.reverse))) (some (scU rb)) (some (.lst (wsU (WS rb)))) y7 y8 y9 y10 y11 y12 y13 y14 y15 d1 rfl
  obtain ⟨li, ω3, e3, d3, li0, li1⟩ := next_ex d2 (most := 99) (by decide) (by decide)
  obtain ⟨r4, ω4, e4, d4, r40, r41⟩ := next_ex d3 (most := 9) (by decide) (by decide)
  obtain ⟨r5, ω5, e5, d5, r50, r51⟩ := next_ex d4 (most := 4) (by decide) (by decide)
  have m0 : 0 ≤ (Wp rb : Int) * r4 := Int.mul_nonneg (by omega) r40
  have m1 : (Wp rb : Int) * r4 ≤ (Wp rb : Int) * 9 := Int.mul_le_mul_of_nonneg_left (by omega) (by omega)
  have um : uMul (.int (Wp rb : Int)) (.int r4) = some (.int ((Wp rb : Int) * r4)) := uMul_r (by omega) (by omega)
  obtain ⟨N, hNe, hN⟩ : ∃ N : Nat, ([0, li, (Wp rb : Int) * r4 + li, f] : List Int).getD r5.toNat 0 = (N : Int) ∧ N ≤ 10 ^ 60 := by
    have h : r5.toNat = 0 ∨ r5.toNat = 1 ∨ r5.toNat = 2 ∨ r5.toNat = 3 := by omega
    rcases h with h | h | h | h <;> rw [h]
    · exact ⟨0, rfl, by omega⟩
    · exact ⟨li.toNat, by show li = _; omega, by omega⟩
    · exact ⟨((Wp rb : Int) * r4 + li).toNat, by show (Wp rb : Int) * r4 + li = _; omega, by omega⟩
    · exact ⟨f.toNat, by show f = _; omega, by omega⟩
  have eN : N / Wp rb * Wp rb + N % Wp rb = N := by rw [Nat.mul_comm]; exact Nat.div_add_mod N (Wp rb)
  have cnt := Tw_cnt (N := N) hp (N / Wp rb)
  rw [eN] at cnt
  have g3 := F_wm_eq hb hl hN ω5
  rw [← cnt] at g3
  have M0 := (wys_ne rb N).1
  obtain ⟨R0, hr0, q0⟩ := F_wa_eq hb hl hN (a := 0) M0
  rw [(wys_ne rb N).2] at hr0
  obtain ⟨Rl, hrl, ql⟩ := F_wa_eq hb hl hN (a := (wys rb N).length - 1) (by omega)
  rw [wys_last hp] at hrl
  cases hrl
  have q0' := q0 ω5
  rw [show ((0 : Nat) : Int) = 0 from rfl] at q0'
  have ql' := ql ω5
  rw [show (((wys rb N).length - 1 : Nat) : Int) = ((wys rb N).length : Int) - 1 by omega] at ql'
  have fw := F_fw_eq (n := N) hb hl ω5
  have pd := F_paid2 (N := N) hb hl ω5
  have n1 := ws_ne (dg rb N ++ [N / Wp rb])
  have n2 := ws_ne2 (dg rb N ++ [N / Wp rb]) ((dg rb N ++ [N / Wp rb]).map fun w : Nat => (w : Int)).sum
  have st := ws_sumT (dg rb N ++ [N / Wp rb])
  obtain ⟨r6, ω6, e6, d6, r60, r61⟩ := next_ex d5 (most := 40) (by decide) (by decide)
  obtain ⟨r7, ω7, e7, d7, r70, r71⟩ := next_ex d6 (most := 3) (by decide) (by decide)
  have mm := Int.emod_nonneg (f / 7) (show ((wys rb N).length : Int) ≠ 0 by omega)
  have mm2 := Int.emod_lt_of_pos (f / 7) (show (0 : Int) < ((wys rb N).length : Int) by omega)
  obtain ⟨p, hpe, hpl⟩ : ∃ p : Nat, ([0, max 0 (((wys rb N).length : Int) - 1 - r6), f / 7 % ((wys rb N).length : Int)] : List Int).getD r7.toNat 0 = (p : Int) ∧ p < (wys rb N).length := by
    have h : r7.toNat = 0 ∨ r7.toNat = 1 ∨ r7.toNat = 2 := by omega
    rcases h with h | h | h <;> rw [h]
    · exact ⟨0, rfl, M0⟩
    · exact ⟨(max 0 (((wys rb N).length : Int) - 1 - r6)).toNat, by show max 0 (((wys rb N).length : Int) - 1 - r6) = _; omega, by omega⟩
    · exact ⟨(f / 7 % ((wys rb N).length : Int)).toNat, by show f / 7 % ((wys rb N).length : Int) = _; omega, by omega⟩
  obtain ⟨v, hv, qv⟩ := F_wa_eq hb hl hN (a := p) hpl
  have qv' := qv ω7
  obtain ⟨v', z14, z15, hv', eL⟩ := one_loop hb hl hN none (some .pile) (some u) (some (.tup (wsU rb.reverse))) (some (.int f)) z7 (some (.int li)) (some (.lst [.int 0, .int li, .int ((Wp rb : Int) * r4 + li), .int f])) (some (.int ((wys rb N).length : Int))) (some (.int (p : Int))) v hv (min ((wys rb N).length : Int) ((p : Int) + 31) - ((p : Int) + 1)).toNat (by omega) y14 y15 ω7
  have nw := F_nw_eq hb hl hN hv' ω7
  have f0' : U.int (N : Int) :: List.replicate (((wsU rb.reverse).length : Nat) : Int).toNat (U.int 0) = wsU R0 := by
    cases hr0
    rw [lw, show (((rb.length : Nat) : Int)).toNat = rb.length by omega]
    unfold wsU; simp
  have n0 := ws_ne R0
  clear q0 ql qv hr0
  unfold B_law_2
  refine ⟨some u, some (.tup (wsU rb.reverse)), some (scU rb), some (.lst (wsU (WS rb))), some (.int f), z7, some (.int li), some (.lst [.int 0, .int li, .int ((Wp rb : Int) * r4 + li), .int f]), some (.int (N : Int)), some (.int ((wys rb N).length : Int)), some (.int (p : Int)), some (.tup (wsU v')), z14, z15, ω7, d7, ?_⟩
  walk_at "ev"
  rw [e1]
  walk_at "ev"
  rw [g1]
  walk_at "ev"
  rw [e2]
  walk_at "ev"
  rw [e3]
  walk_at "ev"
  rw [hlast]
  walk_at "ev"
  rw [e4]
  walk_at "ev"
  rw [e5]
  walk_at "ev"
  rw [hNe, g3]
  walk_at "ev"
  rw [q0']
  walk_at "ev"
  rw [f0', n0]
  walk_at "ev"
  rw [ql']
  walk_at "ev"
  rw [fw]
  walk_at "ev"
  rw [n1]
  walk_at "ev"
  rw [pd]
  walk_at "ev"
  rw [fw]
  walk_at "ev"
  rw [fw]
  walk_at "ev"
  rw [st]
  walk_at "ev"
  rw [n2]
  walk_at "ev"
  rw [e6]
  walk_at "ev"
  rw [e7]
  walk_at "ev"
  rw [hpe, qv']
  walk_at "ev"
  rw [uRG_s]
  walk_at "ev"
  rw [eL]
  walk_at "ev"
  by_cases c : ((wys rb N).length : Int) ≤ (p : Int) + 31
  · rw [if_pos c, nw, List.getElem?_eq_none_iff.mpr (by omega)]
    show Fl.of (((Res.ok U.non ω7).bnd _).bnd _) _ = _
    walk_at "ev"
  · rw [if_neg c]
    walk_at "ev"
theorem law_true (ns : List Int) (hn : ns.length ≤ 63) : ∃ ω', endF (g_law (none :: some .pile :: List.replicate (N_law.length - 2) none) ⟨ns, pcells⟩) = .ok (.bl true) ω' := by
  have d0 : Gd ⟨ns, pcells⟩ := ⟨0, 0, 37199, 0, rfl, by decide, by decide, by decide⟩
  have all : ∃ (l : List (Option U)) (ω' : Om), forU (stepU (aName 2) B_law_2) (rngU 0 3) [none, some .pile, none, none, none, none, none, none, none, none, none, none, none, none, none, none] ⟨ns, pcells⟩ = .nx (none :: some .pile :: l) ω' := by
    refine forU_inv (K := fun r => ∃ (l : List (Option U)) (ω' : Om), r = .nx (none :: some .pile :: l) ω') (P := fun ψ ρ ω' => Gd ω' ∧ ∃ y2 y3 y4 y5 y6 y7 y8 y9 y10 y11 y12 y13 y14 y15, ρ = [none, some .pile, y2, y3, y4, y5, y6, y7, y8, y9, y10, y11, y12, y13, y14, y15]) ⟨d0, _, _, _, _, _, _, _, _, _, _, _, _, _, _, rfl⟩ (fun i x ρ ω' hx hP => ?_) (fun ρ ω' hP => ?_)
    · obtain ⟨g, y2, y3, y4, y5, y6, y7, y8, y9, y10, y11, y12, y13, y14, y15, rfl⟩ := hP
      obtain ⟨z2, z3, z4, z5, z6, z7, z8, z9, z10, z11, z12, z13, z14, z15, ω2, d2, e⟩ := turn_ex g x y2 y3 y4 y5 y6 y7 y8 y9 y10 y11 y12 y13 y14 y15
      exact ⟨_, _, e, d2, _, _, _, _, _, _, _, _, _, _, _, _, _, _, rfl⟩
    · obtain ⟨g, y2, y3, y4, y5, y6, y7, y8, y9, y10, y11, y12, y13, y14, y15, rfl⟩ := hP
      exact ⟨_, _, rfl⟩
  obtain ⟨l, ω', e⟩ := all
  refine ⟨ω', ?_⟩
  show endF (g_law [none, some .pile, none, none, none, none, none, none, none, none, none, none, none, none, none, none] ⟨ns, pcells⟩) = _
  unfold g_law
  walk_at "ev"
  rw [e]
  walk_at "ev"
end EvBlock
end My
set_option maxHeartbeats 0
open PySem PySem.W PyProof.Rows
open_top hd for PySem.Challenge.rw_mixedscales_k56_whole_ways_one_by_one
set_option maxHeartbeats 8000000
namespace My
open PySem L2 PyProof.Rows
theorem us_1 {fd : FuncData} {ps : List Str} (h : ∀ a0, bindArgs fd ⟨[a0], []⟩ = pure (ps.zip [a0])) : ∀ us : List Value, us.length = 1 → bindArgs fd ⟨us, []⟩ = pure (ps.zip us)
  | [a0], _ => h a0
theorem us_2 {fd : FuncData} {ps : List Str} (h : ∀ a0 a1, bindArgs fd ⟨[a0, a1], []⟩ = pure (ps.zip [a0, a1])) : ∀ us : List Value, us.length = 2 → bindArgs fd ⟨us, []⟩ = pure (ps.zip us)
  | [a0, a1], _ => h a0 a1
theorem us_3 {fd : FuncData} {ps : List Str} (h : ∀ a0 a1 a2, bindArgs fd ⟨[a0, a1, a2], []⟩ = pure (ps.zip [a0, a1, a2])) : ∀ us : List Value, us.length = 3 → bindArgs fd ⟨us, []⟩ = pure (ps.zip us)
  | [a0, a1, a2], _ => h a0 a1 a2
theorem all_mk {l : PySem.W.OpenLaw} {w : World} {K : PySem.W.Frag} {h : Heap} {mg : L2.SV} {fa C_TooGreat f_q6 f_paid f_q13 f_q7 f_q8 f_q12 f_q11 f_q0 f_q14 f_q10 f_q9 f_q5 f_q4 f_q1 f_q2 f_q3 f_law  cc_q0 Tb_q0 : Addr} {ob_q0 : Obj} {ts : List (Addr × Addr)} (X : K.In h) (G : h.Ns mainGlobals mg) (hfa : mg "law" = some (.ref fa)) (hT : TabsAt mg h ["fewer_than_most"] ts)
    {od_q6 an_q6 od_paid an_paid od_q13 an_q13 od_q7 an_q7 od_q8 an_q8 od_q12 an_q12 od_q11 an_q11 od_q0 an_q0 od_q14 an_q14 od_q10 an_q10 od_q9 an_q9 od_q5 an_q5 od_q4 an_q4 od_q1 an_q1 od_q2 an_q2 od_q3 an_q3 od_law an_law : Option Addr} {sl_q6 sl_paid sl_q13 sl_q7 sl_q8 sl_q12 sl_q11 sl_q0 sl_q14 sl_q10 sl_q9 sl_q5 sl_q4 sl_q1 sl_q2 sl_q3 sl_law : Array (Option Value)} {oc_q6 kV_q6 dc_q6 pm_q6 cd_q6 ct_q6 oc_paid kV_paid dc_paid pm_paid cd_paid ct_paid oc_q13 kV_q13 dc_q13 pm_q13 cd_q13 ct_q13 oc_q7 kV_q7 dc_q7 pm_q7 cd_q7 ct_q7 oc_q8 kV_q8 dc_q8 pm_q8 cd_q8 ct_q8 oc_q12 kV_q12 dc_q12 pm_q12 cd_q12 ct_q12 oc_q11 kV_q11 dc_q11 pm_q11 cd_q11 ct_q11 oc_q0 kV_q0 dc_q0 pm_q0 ct_q0 oc_q14 kV_q14 dc_q14 pm_q14 cd_q14 ct_q14 oc_q10 kV_q10 dc_q10 pm_q10 cd_q10 ct_q10 oc_q9 kV_q9 dc_q9 pm_q9 cd_q9 ct_q9 oc_q5 kV_q5 dc_q5 pm_q5 cd_q5 ct_q5 oc_q4 kV_q4 dc_q4 pm_q4 cd_q4 ct_q4 oc_q1 kV_q1 dc_q1 pm_q1 cd_q1 ct_q1 oc_q2 kV_q2 dc_q2 pm_q2 cd_q2 ct_q2 oc_q3 kV_q3 dc_q3 pm_q3 cd_q3 ct_q3 oc_law kV_law dc_law pm_law cd_law ct_law : Value}
    (a_q6 : PySem.W.nsIn K mainGlobals "least_that" = some (some (.ref f_q6)))
    (l_q6 : K.lookup f_q6 = some ⟨oc_q6, od_q6, .func (PySem.W.fnOf "least_that" "least_that" (defArgs s_q6) (defBody s_q6) (defScope s_q6) .none kV_q6 dc_q6 pm_q6 an_q6 cd_q6 ct_q6), sl_q6⟩)
    (c_q6 : PySem.W.codeIn K cd_q6 "least_that" = true)
    (k_q6 : PySem.W.keepIn K (.ref f_q6) = true)
    (a_paid : PySem.W.nsIn K mainGlobals "paid" = some (some (.ref f_paid)))
    (l_paid : K.lookup f_paid = some ⟨oc_paid, od_paid, .func (PySem.W.fnOf "paid" "paid" (defArgs s_paid) (defBody s_paid) (defScope s_paid) .none kV_paid dc_paid pm_paid an_paid cd_paid ct_paid), sl_paid⟩)
    (c_paid : PySem.W.codeIn K cd_paid "paid" = true)
    (k_paid : PySem.W.keepIn K (.ref f_paid) = true)
    (a_q13 : PySem.W.nsIn K mainGlobals "value_at" = some (some (.ref f_q13)))
    (l_q13 : K.lookup f_q13 = some ⟨oc_q13, od_q13, .func (PySem.W.fnOf "value_at" "value_at" (defArgs s_q13) (defBody s_q13) (defScope s_q13) .none kV_q13 dc_q13 pm_q13 an_q13 cd_q13 ct_q13), sl_q13⟩)
    (c_q13 : PySem.W.codeIn K cd_q13 "value_at" = true)
    (k_q13 : PySem.W.keepIn K (.ref f_q13) = true)
    (a_q7 : PySem.W.nsIn K mainGlobals "next_table" = some (some (.ref f_q7)))
    (l_q7 : K.lookup f_q7 = some ⟨oc_q7, od_q7, .func (PySem.W.fnOf "next_table" "next_table" (defArgs s_q7) (defBody s_q7) (defScope s_q7) .none kV_q7 dc_q7 pm_q7 an_q7 cd_q7 ct_q7), sl_q7⟩)
    (c_q7 : PySem.W.codeIn K cd_q7 "next_table" = true)
    (k_q7 : PySem.W.keepIn K (.ref f_q7) = true)
    (a_q8 : PySem.W.nsIn K mainGlobals "way_tables" = some (some (.ref f_q8)))
    (l_q8 : K.lookup f_q8 = some ⟨oc_q8, od_q8, .func (PySem.W.fnOf "way_tables" "way_tables" (defArgs s_q8) (defBody s_q8) (defScope s_q8) .none kV_q8 dc_q8 pm_q8 an_q8 cd_q8 ct_q8), sl_q8⟩)
    (c_q8 : PySem.W.codeIn K cd_q8 "way_tables" = true)
    (k_q8 : PySem.W.keepIn K (.ref f_q8) = true)
    (a_q12 : PySem.W.nsIn K mainGlobals "worths_of" = some (some (.ref f_q12)))
    (l_q12 : K.lookup f_q12 = some ⟨oc_q12, od_q12, .func (PySem.W.fnOf "worths_of" "worths_of" (defArgs s_q12) (defBody s_q12) (defScope s_q12) .none kV_q12 dc_q12 pm_q12 an_q12 cd_q12 ct_q12), sl_q12⟩)
    (c_q12 : PySem.W.codeIn K cd_q12 "worths_of" = true)
    (k_q12 : PySem.W.keepIn K (.ref f_q12) = true)
    (a_q11 : PySem.W.nsIn K mainGlobals "ways_many" = some (some (.ref f_q11)))
    (l_q11 : K.lookup f_q11 = some ⟨oc_q11, od_q11, .func (PySem.W.fnOf "ways_many" "ways_many" (defArgs s_q11) (defBody s_q11) (defScope s_q11) .none kV_q11 dc_q11 pm_q11 an_q11 cd_q11 ct_q11), sl_q11⟩)
    (c_q11 : PySem.W.codeIn K cd_q11 "ways_many" = true)
    (k_q11 : PySem.W.keepIn K (.ref f_q11) = true)
    (a_q0 : PySem.W.nsIn K mainGlobals "fewer_than_most" = some (some (.ref f_q0)))
    (l_q0 : K.lookup f_q0 = some ⟨oc_q0, od_q0, .func (PySem.W.fnOf "fewer_than_most" "fewer_than_most" (defArgs s_q0) (defBody s_q0) (defScope s_q0) .none kV_q0 dc_q0 pm_q0 an_q0 (.ref cc_q0) ct_q0), sl_q0⟩)
    (c_q0 : PySem.W.codeIn K (.ref cc_q0) "fewer_than_most" = true)
    (tq_q0 : K.lookup cc_q0 = some ob_q0)
    (tp_q0 : tab11 ob_q0 = some Tb_q0)
    (k_q0 : PySem.W.keepIn K (.ref f_q0) = true)
    (a_q14 : PySem.W.nsIn K mainGlobals "way_at" = some (some (.ref f_q14)))
    (l_q14 : K.lookup f_q14 = some ⟨oc_q14, od_q14, .func (PySem.W.fnOf "way_at" "way_at" (defArgs s_q14) (defBody s_q14) (defScope s_q14) .none kV_q14 dc_q14 pm_q14 an_q14 cd_q14 ct_q14), sl_q14⟩)
    (c_q14 : PySem.W.codeIn K cd_q14 "way_at" = true)
    (k_q14 : PySem.W.keepIn K (.ref f_q14) = true)
    (a_q10 : PySem.W.nsIn K mainGlobals "_law_pile" = some (some (.ref f_q10)))
    (l_q10 : K.lookup f_q10 = some ⟨oc_q10, od_q10, .func (PySem.W.fnOf "_law_pile" "_law_pile" (defArgs s_q10) (defBody s_q10) (defScope s_q10) .none kV_q10 dc_q10 pm_q10 an_q10 cd_q10 ct_q10), sl_q10⟩)
    (c_q10 : PySem.W.codeIn K cd_q10 "_law_pile" = true)
    (k_q10 : PySem.W.keepIn K (.ref f_q10) = true)
    (a_q9 : PySem.W.nsIn K mainGlobals "_law_next" = some (some (.ref f_q9)))
    (l_q9 : K.lookup f_q9 = some ⟨oc_q9, od_q9, .func (PySem.W.fnOf "_law_next" "_law_next" (defArgs s_q9) (defBody s_q9) (defScope s_q9) .none kV_q9 dc_q9 pm_q9 an_q9 cd_q9 ct_q9), sl_q9⟩)
    (c_q9 : PySem.W.codeIn K cd_q9 "_law_next" = true)
    (k_q9 : PySem.W.keepIn K (.ref f_q9) = true)
    (a_q5 : PySem.W.nsIn K mainGlobals "_law_bases" = some (some (.ref f_q5)))
    (l_q5 : K.lookup f_q5 = some ⟨oc_q5, od_q5, .func (PySem.W.fnOf "_law_bases" "_law_bases" (defArgs s_q5) (defBody s_q5) (defScope s_q5) .none kV_q5 dc_q5 pm_q5 an_q5 cd_q5 ct_q5), sl_q5⟩)
    (c_q5 : PySem.W.codeIn K cd_q5 "_law_bases" = true)
    (k_q5 : PySem.W.keepIn K (.ref f_q5) = true)
    (a_q4 : PySem.W.nsIn K mainGlobals "_law_worths" = some (some (.ref f_q4)))
    (l_q4 : K.lookup f_q4 = some ⟨oc_q4, od_q4, .func (PySem.W.fnOf "_law_worths" "_law_worths" (defArgs s_q4) (defBody s_q4) (defScope s_q4) .none kV_q4 dc_q4 pm_q4 an_q4 cd_q4 ct_q4), sl_q4⟩)
    (c_q4 : PySem.W.codeIn K cd_q4 "_law_worths" = true)
    (k_q4 : PySem.W.keepIn K (.ref f_q4) = true)
    (a_q1 : PySem.W.nsIn K mainGlobals "_law_next_way" = some (some (.ref f_q1)))
    (l_q1 : K.lookup f_q1 = some ⟨oc_q1, od_q1, .func (PySem.W.fnOf "_law_next_way" "_law_next_way" (defArgs s_q1) (defBody s_q1) (defScope s_q1) .none kV_q1 dc_q1 pm_q1 an_q1 cd_q1 ct_q1), sl_q1⟩)
    (c_q1 : PySem.W.codeIn K cd_q1 "_law_next_way" = true)
    (k_q1 : PySem.W.keepIn K (.ref f_q1) = true)
    (a_q2 : PySem.W.nsIn K mainGlobals "_law_fewest" = some (some (.ref f_q2)))
    (l_q2 : K.lookup f_q2 = some ⟨oc_q2, od_q2, .func (PySem.W.fnOf "_law_fewest" "_law_fewest" (defArgs s_q2) (defBody s_q2) (defScope s_q2) .none kV_q2 dc_q2 pm_q2 an_q2 cd_q2 ct_q2), sl_q2⟩)
    (c_q2 : PySem.W.codeIn K cd_q2 "_law_fewest" = true)
    (k_q2 : PySem.W.keepIn K (.ref f_q2) = true)
    (a_q3 : PySem.W.nsIn K mainGlobals "_law_is_way" = some (some (.ref f_q3)))
    (l_q3 : K.lookup f_q3 = some ⟨oc_q3, od_q3, .func (PySem.W.fnOf "_law_is_way" "_law_is_way" (defArgs s_q3) (defBody s_q3) (defScope s_q3) .none kV_q3 dc_q3 pm_q3 an_q3 cd_q3 ct_q3), sl_q3⟩)
    (c_q3 : PySem.W.codeIn K cd_q3 "_law_is_way" = true)
    (k_q3 : PySem.W.keepIn K (.ref f_q3) = true)
    (a_law : PySem.W.nsIn K mainGlobals "law" = some (some (.ref f_law)))
    (l_law : K.lookup f_law = some ⟨oc_law, od_law, .func (PySem.W.fnOf "law" "law" (defArgs s_law) (defBody s_law) (defScope s_law) .none kV_law dc_law pm_law an_law cd_law ct_law), sl_law⟩)
    (c_law : PySem.W.codeIn K cd_law "law" = true)
    (k_law : PySem.W.keepIn K (.ref f_law) = true)
    (q_TooGreat : PySem.W.nsIn K mainGlobals "TooGreat" = some (some (.ref C_TooGreat)))
    (n_len : PySem.W.nsIn K mainGlobals "len" = some none)
    (n_range : PySem.W.nsIn K mainGlobals "range" = some none)
    (n_sum : PySem.W.nsIn K mainGlobals "sum" = some none)
    (n_tuple : PySem.W.nsIn K mainGlobals "tuple" = some none)
    (n_list : PySem.W.nsIn K mainGlobals "list" = some none)
    (n_max : PySem.W.nsIn K mainGlobals "max" = some none)
    (n_min : PySem.W.nsIn K mainGlobals "min" = some none)
    (n_isinstance : PySem.W.nsIn K mainGlobals "isinstance" = some none)
    (n_int : PySem.W.nsIn K mainGlobals "int" = some none)
    (n_bool : PySem.W.nsIn K mainGlobals "bool" = some none)
    (n_abs : PySem.W.nsIn K mainGlobals "abs" = some none)
    (n_zip : PySem.W.nsIn K mainGlobals "zip" = some none)
    (n_enumerate : PySem.W.nsIn K mainGlobals "enumerate" = some none)
    (n_any : PySem.W.nsIn K mainGlobals "any" = some none)
    (n_all : PySem.W.nsIn K mainGlobals "all" = some none)
    (n_sorted : PySem.W.nsIn K mainGlobals "sorted" = some none)
    (n_set : PySem.W.nsIn K mainGlobals "set" = some none)
    (n_dict : PySem.W.nsIn K mainGlobals "dict" = some none)
    (n_reversed : PySem.W.nsIn K mainGlobals "reversed" = some none)
    (n_ValueError : PySem.W.nsIn K mainGlobals "ValueError" = some none)
    (x_TooGreat : PySem.W.excIn K C_TooGreat [.type "ValueError", .type "Exception", .type "BaseException", .type "object"] "ValueError.__new__" = true)
    (i_ib : PySem.W.kitOne K (.type "int") (.type "bool") = some false)
    (i_bi : PySem.W.kitOne K (.type "bool") (.type "int") = some true)
    : ∃ fd : FuncData, (∀ (s : Shared) (v : Value), BindsTo s fd ⟨[v], []⟩ [("script", v)]) ∧ ∀ base : Heap, K.In base → base.Ns mainGlobals mg → BmB base mg → (∀ t ∈ ts, CodB base t.1 t.2) → FnOk l.prog w K mg base CX0 6 fa fd ["script"] (spT ts (spLaw K)) := by
  have e := hfa.symm.trans (PySem.W.mg_of X G a_law)
  cases e
  have F_q6' := fun_mk (st := s_q6) l_q6 c_q6 k_q6
  have b_q6' := F_q6'.binds (ps := p_q6) fun ψ ψ ψ ψ ψ ψ us hl => us_3 (fun ψ ψ ψ => rfl) us hl
  have m_q6 := PySem.W.mg_of X G a_q6
  have F_paid' := fun_mk (st := s_paid) l_paid c_paid k_paid
  have b_paid' := F_paid'.binds (ps := p_paid) fun ψ ψ ψ ψ ψ ψ us hl => us_2 (fun ψ ψ => rfl) us hl
  have m_paid := PySem.W.mg_of X G a_paid
  have F_q13' := fun_mk (st := s_q13) l_q13 c_q13 k_q13
  have b_q13' := F_q13'.binds (ps := p_q13) fun ψ ψ ψ ψ ψ ψ us hl => us_2 (fun ψ ψ => rfl) us hl
  have m_q13 := PySem.W.mg_of X G a_q13
  have F_q7' := fun_mk (st := s_q7) l_q7 c_q7 k_q7
  have b_q7' := F_q7'.binds (ps := p_q7) fun ψ ψ ψ ψ ψ ψ us hl => us_3 (fun ψ ψ ψ => rfl) us hl
  have m_q7 := PySem.W.mg_of X G a_q7
  have F_q8' := fun_mk (st := s_q8) l_q8 c_q8 k_q8
  have b_q8' := F_q8'.binds (ps := p_q8) fun ψ ψ ψ ψ ψ ψ us hl => us_2 (fun ψ ψ => rfl) us hl
  have m_q8 := PySem.W.mg_of X G a_q8
  have F_q12' := fun_mk (st := s_q12) l_q12 c_q12 k_q12
  have b_q12' := F_q12'.binds (ps := p_q12) fun ψ ψ ψ ψ ψ ψ us hl => us_1 (fun ψ => rfl) us hl
  have m_q12 := PySem.W.mg_of X G a_q12
  have F_q11' := fun_mk (st := s_q11) l_q11 c_q11 k_q11
  have b_q11' := F_q11'.binds (ps := p_q11) fun ψ ψ ψ ψ ψ ψ us hl => us_2 (fun ψ ψ => rfl) us hl
  have m_q11 := PySem.W.mg_of X G a_q11
  have F_q0' := fun_mk (st := s_q0) l_q0 c_q0 k_q0
  have b_q0' := F_q0'.binds (ps := p_q0) fun ψ ψ ψ ψ ψ ψ us hl => us_3 (fun ψ ψ ψ => rfl) us hl
  have m_q0 := PySem.W.mg_of X G a_q0
  have F_q14' := fun_mk (st := s_q14) l_q14 c_q14 k_q14
  have b_q14' := F_q14'.binds (ps := p_q14) fun ψ ψ ψ ψ ψ ψ us hl => us_3 (fun ψ ψ ψ => rfl) us hl
  have m_q14 := PySem.W.mg_of X G a_q14
  have F_q10' := fun_mk (st := s_q10) l_q10 c_q10 k_q10
  have b_q10' := F_q10'.binds (ps := p_q10) fun ψ ψ ψ ψ ψ ψ us hl => us_1 (fun ψ => rfl) us hl
  have m_q10 := PySem.W.mg_of X G a_q10
  have F_q9' := fun_mk (st := s_q9) l_q9 c_q9 k_q9
  have b_q9' := F_q9'.binds (ps := p_q9) fun ψ ψ ψ ψ ψ ψ us hl => us_2 (fun ψ ψ => rfl) us hl
  have m_q9 := PySem.W.mg_of X G a_q9
  have F_q5' := fun_mk (st := s_q5) l_q5 c_q5 k_q5
  have b_q5' := F_q5'.binds (ps := p_q5) fun ψ ψ ψ ψ ψ ψ us hl => us_1 (fun ψ => rfl) us hl
  have m_q5 := PySem.W.mg_of X G a_q5
  have F_q4' := fun_mk (st := s_q4) l_q4 c_q4 k_q4
  have b_q4' := F_q4'.binds (ps := p_q4) fun ψ ψ ψ ψ ψ ψ us hl => us_1 (fun ψ => rfl) us hl
  have m_q4 := PySem.W.mg_of X G a_q4
  have F_q1' := fun_mk (st := s_q1) l_q1 c_q1 k_q1
  have b_q1' := F_q1'.binds (ps := p_q1) fun ψ ψ ψ ψ ψ ψ us hl => us_2 (fun ψ ψ => rfl) us hl
  have m_q1 := PySem.W.mg_of X G a_q1
  have F_q2' := fun_mk (st := s_q2) l_q2 c_q2 k_q2
  have b_q2' := F_q2'.binds (ps := p_q2) fun ψ ψ ψ ψ ψ ψ us hl => us_2 (fun ψ ψ => rfl) us hl
  have m_q2 := PySem.W.mg_of X G a_q2
  have F_q3' := fun_mk (st := s_q3) l_q3 c_q3 k_q3
  have b_q3' := F_q3'.binds (ps := p_q3) fun ψ ψ ψ ψ ψ ψ us hl => us_3 (fun ψ ψ ψ => rfl) us hl
  have m_q3 := PySem.W.mg_of X G a_q3
  have F_law' := fun_mk (st := s_law) l_law c_law k_law
  have m_TooGreat := PySem.W.mg_of X G q_TooGreat
  have z_len := PySem.W.mg_none_of X G n_len
  have z_range := PySem.W.mg_none_of X G n_range
  have z_sum := PySem.W.mg_none_of X G n_sum
  have z_tuple := PySem.W.mg_none_of X G n_tuple
  have z_list := PySem.W.mg_none_of X G n_list
  have z_max := PySem.W.mg_none_of X G n_max
  have z_min := PySem.W.mg_none_of X G n_min
  have z_isinstance := PySem.W.mg_none_of X G n_isinstance
  have z_int := PySem.W.mg_none_of X G n_int
  have z_bool := PySem.W.mg_none_of X G n_bool
  have z_abs := PySem.W.mg_none_of X G n_abs
  have z_zip := PySem.W.mg_none_of X G n_zip
  have z_enumerate := PySem.W.mg_none_of X G n_enumerate
  have z_any := PySem.W.mg_none_of X G n_any
  have z_all := PySem.W.mg_none_of X G n_all
  have z_sorted := PySem.W.mg_none_of X G n_sorted
  have z_set := PySem.W.mg_none_of X G n_set
  have z_dict := PySem.W.mg_none_of X G n_dict
  have z_reversed := PySem.W.mg_none_of X G n_reversed
  have z_ValueError := PySem.W.mg_none_of X G n_ValueError
  obtain _ | @⟨_, _, c_0, P_0, _, _, _, _, h1_0, h2_0, h3_0, h4_0, h5_0, h6_0, r_0⟩ := hT
  cases r_0
  have B : Bl mg := ⟨z_len, z_range, z_sum, z_tuple, z_list, z_max, z_min, z_isinstance, z_int, z_bool, z_abs, z_zip, z_enumerate, z_any, z_all, z_sorted, z_set, z_dict, z_reversed, z_ValueError⟩
  have kt : Kt K := ⟨i_ib, i_bi⟩
  have T : Tx K mg := ⟨trivial, ⟨_, m_TooGreat, x_TooGreat⟩⟩
  refine ⟨PySem.W.fnOf "law" "law" (defArgs s_law) (defBody s_law) (defScope s_law) .none kV_law dc_law pm_law an_law cd_law ct_law, fun s v => .of_eq rfl, fun base ψ ψ bk hck => ?_⟩
  obtain ⟨e1_fewer_than_most, e2_fewer_than_most⟩ : c_0 = cc_q0 ∧ P_0 = Tb_q0 := tab_is X m_q0 l_q0 rfl tq_q0 tp_q0 h1_0 h2_0 h3_0 h4_0 h6_0
  subst e1_fewer_than_most; subst e2_fewer_than_most
  have ck_q0 := hck (c_0, P_0) (by simp)
  have nd : (tbA [(P_0, ⟨48, 31, 48, 84⟩, ("fewer_than_most" : Str) ++ ".<locals>." ++ "<lambda>")]).Nodup := by simp [tbA]
  have hwl : wkL P_0 (wdT K mg [(P_0, ⟨48, 31, 48, 84⟩, ("fewer_than_most" : Str) ++ ".<locals>." ++ "<lambda>")]) := wdT_tab nd (t := (P_0, ⟨48, 31, 48, 84⟩, ("fewer_than_most" : Str) ++ ".<locals>." ++ "<lambda>")) (by simp)
  have c_q6' := fun p : Ff => Fn.mk (ok_q6 (p := p) (P := l.prog) (w := w) (base := base) F_q6' B kt T ) m_q6 k_q6 b_q6'
  have c_paid' := Fn.mk (ok_paid (P := l.prog) (w := w) (base := base) F_paid' B kt T ) m_paid k_paid b_paid'
  have c_q13' := Fn.mk (ok_q13 (P := l.prog) (w := w) (base := base) F_q13' B kt T ) m_q13 k_q13 b_q13'
  have c_q7' := Fn.mk (ok_q7 (P := l.prog) (w := w) (base := base) F_q7' B kt T c_q13') m_q7 k_q7 b_q7'
  have c_q8' := Fn.mk (ok_q8 (P := l.prog) (w := w) (base := base) F_q8' B kt T c_q7') m_q8 k_q8 b_q8'
  have c_q12' := Fn.mk (ok_q12 (P := l.prog) (w := w) (base := base) F_q12' B kt T ) m_q12 k_q12 b_q12'
  have c_q11' := Fn.mk (ok_q11 (P := l.prog) (w := w) (base := base) F_q11' B kt T c_q13' c_q8' c_q12') m_q11 k_q11 b_q11'
  have c_q0' := Fn.mk (ok_q0 (P := l.prog) (w := w) (base := base) (T_q0 := P_0) F_q0' B kt T rfl ck_q0 bk c_q13' c_q6') m_q0 k_q0 b_q0'
  have c_q14' := Fn.mk (ok_q14 (P := l.prog) (w := w) (base := base) F_q14' B kt T c_q8' c_q12' c_q0' c_q11' c_q13') m_q14 k_q14 b_q14'
  have c_q10' := Fn.mk (ok_q10 (P := l.prog) (w := w) (base := base) F_q10' B kt T ) m_q10 k_q10 b_q10'
  have c_q9' := Fn.mk (ok_q9 (P := l.prog) (w := w) (base := base) F_q9' B kt T ) m_q9 k_q9 b_q9'
  have c_q5' := Fn.mk (ok_q5 (P := l.prog) (w := w) (base := base) F_q5' B kt T c_q9') m_q5 k_q5 b_q5'
  have c_q4' := Fn.mk (ok_q4 (P := l.prog) (w := w) (base := base) F_q4' B kt T ) m_q4 k_q4 b_q4'
  have c_q1' := Fn.mk (ok_q1 (P := l.prog) (w := w) (base := base) F_q1' B kt T ) m_q1 k_q1 b_q1'
  have c_q2' := Fn.mk (ok_q2 (P := l.prog) (w := w) (base := base) F_q2' B kt T ) m_q2 k_q2 b_q2'
  have c_q3' := Fn.mk (ok_q3 (P := l.prog) (w := w) (base := base) F_q3' B kt T ) m_q3 k_q3 b_q3'
  exact law_endPT (ok_law (T_q0 := P_0) (tb := [(P_0, ⟨48, 31, 48, 84⟩, ("fewer_than_most" : Str) ++ ".<locals>." ++ "<lambda>")]) F_law' B kt T c_q10' c_q5' c_q4' c_q9' c_q11' c_q14' c_q2' c_paid' c_q1' c_q3' rfl nd (fun W h => h (P_0, ⟨48, 31, 48, 84⟩, ("fewer_than_most" : Str) ++ ".<locals>." ++ "<lambda>") (by simp)) pile_eq law_true)
end My
open PySem PySem.W PyProof.Rows
set_option maxRecDepth 100000 in
set_option maxHeartbeats 0 in
theorem PySem.Challenge.cw_mixedscales_k56_whole_ways_one_by_one_holds : PySem.Challenge.rw_mixedscales_k56_whole_ways_one_by_one.Holds :=
  hd (by
  k_fill
  refine L2.walk_ofT ["fewer_than_most"] (l := PySem.Challenge.rw_mixedscales_k56_whole_ways_one_by_one) (n := 63) (k := 6) (x := "script") (CX := L2.CX0) (sp := L2.spLaw) rfl (by decide) rfl ⟨rfl, by decide, by decide⟩ ?hx ?nt (fun w h Y => PySem.W.km_in_of Y) ?F ?S ?C
  case hx => rfl
  case nt => exact fun ψ => rfl
  case S => exact fun ψ ψ a ns hl hS => ⟨a, ns, rfl, hS, hl, fun ψ => rfl⟩
  case C => exact fun ψ ψ ψ ψ z => z
  case F =>
    intro w mg fa h ts KX G hmg hT
    refine' My.all_mk KX G hmg hT ?a_q6 ?l_q6 ?c_q6 ?k_q6 ?a_paid ?l_paid ?c_paid ?k_paid ?a_q13 ?l_q13 ?c_q13 ?k_q13 ?a_q7 ?l_q7 ?c_q7 ?k_q7 ?a_q8 ?l_q8 ?c_q8 ?k_q8 ?a_q12 ?l_q12 ?c_q12 ?k_q12 ?a_q11 ?l_q11 ?c_q11 ?k_q11 ?a_q0 ?l_q0 ?c_q0 ?tq_q0 ?tp_q0 ?k_q0 ?a_q14 ?l_q14 ?c_q14 ?k_q14 ?a_q10 ?l_q10 ?c_q10 ?k_q10 ?a_q9 ?l_q9 ?c_q9 ?k_q9 ?a_q5 ?l_q5 ?c_q5 ?k_q5 ?a_q4 ?l_q4 ?c_q4 ?k_q4 ?a_q1 ?l_q1 ?c_q1 ?k_q1 ?a_q2 ?l_q2 ?c_q2 ?k_q2 ?a_q3 ?l_q3 ?c_q3 ?k_q3 ?a_law ?l_law ?c_law ?k_law ?q_TooGreat ?n_len ?n_range ?n_sum ?n_tuple ?n_list ?n_max ?n_min ?n_isinstance ?n_int ?n_bool ?n_abs ?n_zip ?n_enumerate ?n_any ?n_all ?n_sorted ?n_set ?n_dict ?n_reversed ?n_ValueError ?x_TooGreat ?i_ib ?i_bi
    (case a_q6 => k_is)
    (case l_q6 => k_is)
    (case c_q6 => k_is)
    (case k_q6 => k_is)
    (case a_paid => k_is)
    (case l_paid => k_is)
    (case c_paid => k_is)
    (case k_paid => k_is)
    (case a_q13 => k_is)
    (case l_q13 => k_is)
    (case c_q13 => k_is)
    (case k_q13 => k_is)
    (case a_q7 => k_is)
    (case l_q7 => k_is)
    (case c_q7 => k_is)
    (case k_q7 => k_is)
    (case a_q8 => k_is)
    (case l_q8 => k_is)
    (case c_q8 => k_is)
    (case k_q8 => k_is)
    (case a_q12 => k_is)
    (case l_q12 => k_is)
    (case c_q12 => k_is)
    (case k_q12 => k_is)
    (case a_q11 => k_is)
    (case l_q11 => k_is)
    (case c_q11 => k_is)
    (case k_q11 => k_is)
    (case a_q0 => k_is)
    (case l_q0 => k_is)
    (case c_q0 => k_is)
    (case tq_q0 => k_is)
    (case tp_q0 => rfl)
    (case k_q0 => k_is)
    (case a_q14 => k_is)
    (case l_q14 => k_is)
    (case c_q14 => k_is)
    (case k_q14 => k_is)
    (case a_q10 => k_is)
    (case l_q10 => k_is)
    (case c_q10 => k_is)
    (case k_q10 => k_is)
    (case a_q9 => k_is)
    (case l_q9 => k_is)
    (case c_q9 => k_is)
    (case k_q9 => k_is)
    (case a_q5 => k_is)
    (case l_q5 => k_is)
    (case c_q5 => k_is)
    (case k_q5 => k_is)
    (case a_q4 => k_is)
    (case l_q4 => k_is)
    (case c_q4 => k_is)
    (case k_q4 => k_is)
    (case a_q1 => k_is)
    (case l_q1 => k_is)
    (case c_q1 => k_is)
    (case k_q1 => k_is)
    (case a_q2 => k_is)
    (case l_q2 => k_is)
    (case c_q2 => k_is)
    (case k_q2 => k_is)
    (case a_q3 => k_is)
    (case l_q3 => k_is)
    (case c_q3 => k_is)
    (case k_q3 => k_is)
    (case a_law => k_is)
    (case l_law => k_is)
    (case c_law => k_is)
    (case k_law => k_is)
    (case q_TooGreat => k_is)
    (case n_len => k_is)
    (case n_range => k_is)
    (case n_sum => k_is)
    (case n_tuple => k_is)
    (case n_list => k_is)
    (case n_max => k_is)
    (case n_min => k_is)
    (case n_isinstance => k_is)
    (case n_int => k_is)
    (case n_bool => k_is)
    (case n_abs => k_is)
    (case n_zip => k_is)
    (case n_enumerate => k_is)
    (case n_any => k_is)
    (case n_all => k_is)
    (case n_sorted => k_is)
    (case n_set => k_is)
    (case n_dict => k_is)
    (case n_reversed => k_is)
    (case n_ValueError => k_is)
    (case x_TooGreat => k_exc)
    (case i_ib => kit_is)
    (case i_bi => kit_is)
  )
