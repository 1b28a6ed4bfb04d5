import PyProof.Rows.All
import Wide.All
import OpenK.AllK
import Wide.FinOn
import Lean
import PyProof.EqAt
import PyProof.EqKinds
import PyProof.TupleCall
import PySem.Challenge.RW_mixedscales_k36_closed_rounds
set_option Elab.async false
set_option compiler.extract_closed false
set_option bootstrap.genMatcherCode false
set_option genSizeOfSpec false
set_option linter.all false
set_option maxRecDepth 100000
/-! THE HAND LAYER, for ints, bools, texts, own classes, LISTS and tuples (index, slices, in, append, pop ..), calls, loops. Paste it whole ahead of your own text; what your proof does not reach may be deleted. -/
namespace L2
open PySem PySem.Spec PyProof.Rows
noncomputable abbrev AO := List (Addr × Obj)
abbrev Fg := PySem.W.Frag
abbrev SV := Str → Option Value
noncomputable abbrev VSP := Value → Shared → Prop
noncomputable abbrev Key := Sum Int Str
noncomputable def keyIs : Key → Value → Bool
 | .inl k, v => Value.isInt k v
 | .inr x, v => Value.isStrOf x v
noncomputable def keyH (w : World) : Key → Int
 | .inl k => hashInt k
 | .inr x => hashStr w x
theorem keyIs_shape : ∀ {k : Key} {v : Value}, keyIs k v = true → (∃ i t, k = Sum.inl i ∧ v = Value.int i t) ∨ (∃ x t, k = Sum.inr x ∧ v = Value.str x t)
 | .inl i, v, h => by
  obtain ⟨t, e⟩ := Value.isInt_shape (k := i) (v := v) h
  exact .inl ⟨i, t, rfl, e⟩
 | .inr x, v, h => by
  obtain ⟨t, e⟩ := Value.isStrOf_shape (x := x) (v := v) h
  exact .inr ⟨x, t, rfl, e⟩
theorem keyIs_int (i : Int) (t : Tok) : keyIs (.inl i) (.int i t) = true := by simp [keyIs, Value.isInt]
theorem keyIs_str (x : Str) (t : Tok) : keyIs (.inr x) (.str x t) = true := by simp [keyIs, Value.isStrOf]
theorem key_ll (a b : Int) : decide ((Sum.inl a : Key) = Sum.inl b) = (a == b) := by
 by_cases e : a = b
 ·subst e; simp
 ·have h : ¬ (Sum.inl a : Key) = Sum.inl b := fun q => e (Sum.inl.inj q)
  rw [decide_eq_false h]
  exact (beq_eq_false_iff_ne.mpr e).symm
theorem key_rr (a b : Str) : decide ((Sum.inr a : Key) = Sum.inr b) = decide (a = b) := by
 by_cases e : a = b
 ·subst e; simp
 ·have h : ¬ (Sum.inr a : Key) = Sum.inr b := fun q => e (Sum.inr.inj q)
  rw [decide_eq_false h, decide_eq_false e]
theorem key_lr (a : Int) (b : Str) : decide ((Sum.inl a : Key) = Sum.inr b) = false := decide_eq_false (fun q => nomatch q)
theorem key_rl (a : Str) (b : Int) : decide ((Sum.inr a : Key) = Sum.inl b) = false := decide_eq_false (fun q => nomatch q)
noncomputable def mixKind (prog : Program) (w : World) : PySem.KeyKind prog w Key where
 is := keyIs
 hash := keyH w
 inj := fun v a b ha hb => by
  rcases keyIs_shape ha with ⟨i, t, rfl, rfl⟩ | ⟨x, t, rfl, rfl⟩
  ·rcases keyIs_shape hb with ⟨j, u, rfl, e⟩ | ⟨y, u, rfl, e⟩
   ·injection e with e1 _; rw [e1]
   ·exact nomatch e
  ·rcases keyIs_shape hb with ⟨j, u, rfl, e⟩ | ⟨y, u, rfl, e⟩
   ·exact nomatch e
   ·injection e with e1 _; rw [e1]
 byValue := fun k v h => by
  rcases keyIs_shape h with ⟨i, t, rfl, rfl⟩ | ⟨x, t, rfl, rfl⟩ <;> rfl
 pyHash := fun hv h => by
  rcases keyIs_shape hv with ⟨i, t, rfl, rfl⟩ | ⟨x, t, rfl, rfl⟩
  ·exact wpAny_pyHash_int h
  ·exact wpAny_pyHash_str h
 eqBool := fun hu hv h => by
  rcases keyIs_shape hu with ⟨i, t, rfl, rfl⟩ | ⟨x, t, rfl, rfl⟩
  ·rcases keyIs_shape hv with ⟨j, u, rfl, rfl⟩ | ⟨y, u, rfl, rfl⟩
   ·rw [key_ll] at h; exact wpAny_eqBool_int h
   ·rw [key_lr] at h; exact SeqAt.EqAt.int_str i t y u _ _ _ _ h
  ·rcases keyIs_shape hv with ⟨j, u, rfl, rfl⟩ | ⟨y, u, rfl, rfl⟩
   ·rw [key_rl] at h; exact SeqAt.EqAt.str_int x t j u _ _ _ _ h
   ·rw [key_rr] at h; exact wpAny_eqBool_str h
 «strs» := fun k x t v h => by
  rcases keyIs_shape h with ⟨i, u, rfl, e⟩ | ⟨y, u, rfl, e⟩
  ·exact nomatch e
  ·injection e with e1 _
   subst e1
   cases v <;> rfl
theorem mixKind_int (prog : Program) (w : World) (i : Int) (t : Tok) : (mixKind prog w).is (.inl i) (.int i t) = true := keyIs_int i t
theorem mixKind_str (prog : Program) (w : World) (x : Str) (t : Tok) : (mixKind prog w).is (.inr x) (.str x t) = true := keyIs_str x t
inductive V where
 | non | bl (b : Bool) | int (i : Int) | str (x : Str) | byt (b : Array UInt8) | flt (b : UInt64) | ref (a : Addr) | ty (n : String)
 deriving DecidableEq
noncomputable def RelV : V → Value → Prop
 | .non, u => u = Value.none
 | .bl b, u => u = Value.bool b
 | .int i, u => ∃ t, u = Value.int i t
 | .str x, u => ∃ t, u = Value.str x t
 | .byt b, u => ∃ t, u = Value.bytes b t
 | .flt b, u => ∃ t, u = Value.float b t
 | .ref a, u => u = Value.ref a
 | .ty n, u => u = Value.type n
noncomputable abbrev Vals : List V → List Value → Prop := Paired RelV
theorem Vals.length {xs : List V} {us : List Value} (r : Vals xs us) : xs.length = us.length := Paired.length r
theorem Vals.get : ∀ {xs : List V} {us : List Value} {i : Nat} {x : V}, Vals xs us → xs[i]? = some x → ∃ u, us[i]? = some u ∧ RelV x u
 | _, _, _, _, .nil, e => by simp at e
 | _, _, 0, _, .cons r _, e => by simp at e; subst e; exact ⟨_, rfl, r⟩
 | _, _, i + 1, x, .cons _ t, e => by
  obtain ⟨u, h1, h2⟩ := Vals.get (i := i) (x := x) t (by simpa using e)
  exact ⟨u, by simpa using h1, h2⟩
theorem Vals.set {x : V} {u : Value} (r : RelV x u) : ∀ {xs : List V} {us : List Value} (i : Nat), Vals xs us → Vals (xs.set i x) (us.set i u)
 | _, _, _, .nil => .nil
 | _, _, 0, .cons _ t => .cons r t
 | _, _, i + 1, .cons q t => .cons q (Vals.set r i t)
theorem Vals.append : ∀ {xs ys : List V} {us ws : List Value}, Vals xs us → Vals ys ws → Vals (xs ++ ys) (us ++ ws)
 | _, _, _, _, .nil, s => s
 | _, _, _, _, .cons r t, s => .cons r (Vals.append t s)
theorem Vals.take : ∀ {xs : List V} {us : List Value} (n : Nat), Vals xs us → Vals (xs.take n) (us.take n)
 | _, _, 0, _ => .nil
 | _, _, _ + 1, .nil => .nil
 | _, _, n + 1, .cons r t => .cons r (Vals.take n t)
theorem Vals.drop : ∀ {xs : List V} {us : List Value} (n : Nat), Vals xs us → Vals (xs.drop n) (us.drop n)
 | _, _, 0, r => r
 | _, _, _ + 1, .nil => .nil
 | _, _, n + 1, .cons _ t => Vals.drop n t
noncomputable def RelO : Option V → Option Value → Prop
 | some v, some u => RelV v u
 | none, none => True
 | _, _ => False
noncomputable def KV {κ : Type} : List (κ × V) → List (κ × Value) → Prop := Paired fun (p : κ × V) (q : κ × Value) => p.1 = q.1 ∧ RelV p.2 q.2
noncomputable def kV : Key → V
 | .inl i => .int i
 | .inr x => .str x
inductive HO where
 | lst (xs : List V)
 | tup (xs : List V)
 | dK (kvs : List (Key × V)) | dT (kvs : List (List Key × V))
 | set (S : Int → Bool) (n : Nat)
 | ins (C dx : Addr) (fs : List (Str × V))
 | own (x : Addr)
 | xd (fs : List (Str × V))
 | met (f x : Addr)
 | rng (lo hi : Int)
 | frz (o : Obj) (u : HO)
 | tbl (ps : Array Value)
 | ext (φ : Heap → Prop)
noncomputable abbrev Hp := Addr → Option HO
noncomputable def upd (H : Hp) (a : Addr) (o : HO) : Hp := fun b => if b = a then some o else H b
theorem upd_same {H : Hp} {a : Addr} {o : HO} : upd H a o a = some o := by unfold upd; rw [if_pos rfl]
theorem upd_ne {H : Hp} {a b : Addr} {o : HO} (h : b ≠ a) : upd H a o b = H b := by unfold upd; rw [if_neg h]
theorem ne_of {H : Hp} {a b : Addr} {o u : HO} (h : H a = some o) (h' : H b = some u) (d : o ≠ u) : a ≠ b := by
 intro e; subst e; rw [h] at h'; exact d (Option.some.inj h')
theorem ne_of_none {H : Hp} {a b : Addr} {o : HO} (h : H a = some o) (h' : H b = none) : a ≠ b := by
 intro e; subst e; rw [h] at h'; cases h'
section
variable (P : Program) (w : World)
noncomputable def ObjOk (H : Hp) (h : Heap) (a : Addr) : HO → Prop
 | .lst xs => xs.length ≤ sizeLine ∧ ∃ (its : List Value) (n : Nat), Vals xs its ∧ h.get? a = some { cls := .type "list", data := .seq its.toArray n }
 | .tup xs => xs.length ≤ sizeLine ∧ ∃ its : List Value, Vals xs its ∧ IsTup h a its.toArray
 | .dK kvs => kvs.length ≤ sizeLine ∧ (a == sysModules) = false ∧ ∃ vs, KV kvs vs ∧ h.DictOf (mixKind P w) a vs
 | .dT kvs => kvs.length ≤ sizeLine ∧ (a == sysModules) = false ∧ ∃ xs : List (List Key × Addr × Value),
   Paired (fun (p : List Key × V) (q : List Key × Addr × Value) => p.1 = q.1 ∧ H q.2.1 = some (.tup (p.1.map kV)) ∧ RelV p.2 q.2.2) kvs xs ∧
   ∃ o es ep, h.get? a = some o ∧ o.ExactDict ∧ o.data = .dict es ep ∧ es.toList = xs.map (entryOfKey (tupleKind (mixKind P w))) ∧ (xs.map (·.1)).Nodup
 | .set S n => h.SetOf (intKind P w) a S n
 | .ins C dx fs => H dx = some (.own a) ∧ fs.length ≤ 1000 ∧ dx ≠ a ∧ h.get? a = some (PySem.W.instObj C dx) ∧
   ∃ mA, h.Ns1 dx mA ∧ (∀ f, RelO (fs.lookup f) (mA f)) ∧ PySem.Within mA (fs.map (·.1))
 | .own _ => ∃ o, h.get? a = some o
 | .xd fs => ∃ mA, h.Ns1 a mA ∧ ∀ f, RelO (fs.lookup f) (mA f)
 | .rng lo hi => ∃ t u v, h.get? a = some { cls := .type "range", data := .fields #[.int lo t, .int hi u, .int 1 v] }
 | .frz o u => h.get? a = some o ∧ ObjOk H h a u
 | .tbl ps => h.get? a = some { cls := .none, data := .fields ps }
 | .met f x => h.get? a = some (PySem.W.methodObj (.ref f) (.ref x))
 | .ext φ => φ h ∧ (∃ o, h.get? a = some o) ∧ ∀ h1 h2 : Heap, φ h1 → (∀ o, h1.get? a = some o → h2.get? a = some o) → φ h2
noncomputable def HOk (H : Hp) (h : Heap) : Prop := ∀ a o, H a = some o → ObjOk P w H h a o
end
section
variable {P : Program} {w : World} {H H' : Hp} {h h' : Heap} {a : Addr} {o : HO}
theorem ObjOk.lt (x : ObjOk P w H h a o) : a < h.objs.size := by
 cases o with
 | lst xs => obtain ⟨_, _, _, _, e⟩ := x; exact Heap.lt_size e
 | tup xs => obtain ⟨_, _, _, p⟩ := x; exact p.lt
 | dK kvs => obtain ⟨_, _, _, _, o, _, _, e, _⟩ := x; exact Heap.lt_size e
 | dT kvs => obtain ⟨_, _, _, _, o, _, _, e, _⟩ := x; exact Heap.lt_size e
 | set S n => obtain ⟨o, _, _, _, e, _⟩ := x; exact Heap.lt_size e
 | ins C dx fs => obtain ⟨_, _, _, e, _⟩ := x; exact Heap.lt_size e
 | own y => obtain ⟨_, e⟩ := x; exact Heap.lt_size e
 | xd fs => obtain ⟨_, ⟨_, _, _, e, _⟩, _⟩ := x; exact Heap.lt_size e
 | rng lo hi => obtain ⟨_, _, _, e⟩ := x; exact Heap.lt_size e
 | frz ob u => obtain ⟨e, _⟩ := x; exact Heap.lt_size e
 | tbl ps => exact Heap.lt_size (show h.get? a = some _ from x)
 | met f y => exact Heap.lt_size (show h.get? a = some _ from x)
 | ext φ => obtain ⟨_, ⟨_, e⟩, _⟩ := x; exact Heap.lt_size e
theorem Paired.mapP {α β : Type} {F G : α → β → Prop} : ∀ {l₁ : List α} {l₂ : List β}, Paired F l₁ l₂ → (∀ a b, F a b → G a b) → Paired G l₁ l₂
 | _, _, .nil, _ => .nil
 | _, _, .cons r t, f => .cons (f _ _ r) (Paired.mapP t f)
theorem ObjOk.stay (x : ObjOk P w H h a o) (k : ∀ b u, (b = a ∨ H b = some (.own a)) → h.get? b = some u → h'.get? b = some u)
  (ho : ∀ b, H b = some (.own a) → H' b = some (.own a)) (ht : ∀ b xs, H b = some (.tup xs) → H' b = some (.tup xs)) : ObjOk P w H' h' a o := by
 induction o with
 | lst xs => obtain ⟨z, its, n, r, e⟩ := x; exact ⟨z, its, n, r, k _ _ (.inl rfl) e⟩
 | tup xs => obtain ⟨z, its, r, ob, e, c⟩ := x; exact ⟨z, its, r, ob, k _ _ (.inl rfl) e, c⟩
 | dK kvs => obtain ⟨z, y, vs, r, ob, es, ep, e, c⟩ := x; exact ⟨z, y, vs, r, ob, es, ep, k _ _ (.inl rfl) e, c⟩
 | dT kvs =>
  obtain ⟨z, y, xs, r, ob, es, ep, e, c⟩ := x
  exact ⟨z, y, xs, Paired.mapP r fun p q z => ⟨z.1, ht _ _ z.2.1, z.2.2⟩, ob, es, ep, k _ _ (.inl rfl) e, c⟩
 | set S n => obtain ⟨ob, es, ep, t, e, c⟩ := x; exact ⟨ob, es, ep, t, k _ _ (.inl rfl) e, c⟩
 | ins C dx fs =>
  obtain ⟨d, z, ne, e, mA, ⟨od, es, ep, e2, c⟩, r⟩ := x
  exact ⟨ho _ d, z, ne, k _ _ (.inl rfl) e, mA, ⟨od, es, ep, k _ _ (.inr d) e2, c⟩, r⟩
 | own y => obtain ⟨ob, e⟩ := x; exact ⟨ob, k _ _ (.inl rfl) e⟩
 | xd fs => obtain ⟨mA, ⟨od, es, ep, e, c⟩, r⟩ := x; exact ⟨mA, ⟨od, es, ep, k _ _ (.inl rfl) e, c⟩, r⟩
 | rng lo hi => obtain ⟨t, u, v, e⟩ := x; exact ⟨t, u, v, k _ _ (.inl rfl) e⟩
 | frz ob u ih => obtain ⟨e, q⟩ := x; exact ⟨k _ _ (.inl rfl) e, ih q⟩
 | tbl ps =>
  have e : h.get? a = some { cls := .none, data := .fields ps } := x
  show h'.get? a = some { cls := .none, data := .fields ps }
  exact k a _ (.inl rfl) e
 | met f y =>
  have e : h.get? a = some (PySem.W.methodObj (.ref f) (.ref y)) := x
  show h'.get? a = some (PySem.W.methodObj (.ref f) (.ref y))
  exact k a _ (.inl rfl) e
 | ext φ => obtain ⟨p, ⟨o, e⟩, st⟩ := x; exact ⟨st _ _ p fun o q => k _ _ (.inl rfl) q, ⟨o, k _ _ (.inl rfl) e⟩, st⟩
theorem HOk.lt (x : HOk P w H h) (e : H a = some o) : a < h.objs.size := (x a o e).lt
theorem HOk.fresh (x : HOk P w H h) (e : h.objs.size ≤ a) : H a = none := by
 cases q : H a with
 | none => rfl
 | some u => exact absurd (Nat.lt_of_lt_of_le (x.lt q) e) (Nat.lt_irrefl _)
theorem HOk.kept (x : HOk P w H h) (k : ∀ b u, h.get? b = some u → h'.get? b = some u) : HOk P w H h' := fun a o e =>
 (x a o e).stay (fun b u ψ q => k b u q) (fun ψ q => q) fun ψ ψ q => q
theorem HOk.laid (x : HOk P w H h) (k : ∀ b u, h.get? b = some u → h'.get? b = some u) (hp : h.objs.size ≤ a) (new : ObjOk P w (upd H a o) h' a o) : HOk P w (upd H a o) h' := fun b u e => by
 have hn := x.fresh hp
 by_cases hb : b = a
 ·subst hb; rw [upd_same] at e; cases e; exact new
 ·rw [upd_ne hb] at e
  exact (x b u e).stay (fun c v ψ q => k c v q) (fun c q => by rw [upd_ne (ne_of_none q hn)]; exact q) fun c xs q => by rw [upd_ne (ne_of_none q hn)]; exact q
end
noncomputable def Rd (H : Hp) (a : Addr) (u : HO) : Prop := H a = some u ∨ ∃ o, H a = some (.frz o u)
theorem Rd.of {H : Hp} {a : Addr} {u : HO} (h : H a = some u) : Rd H a u := .inl h
theorem Rd.ok {P : Program} {w : World} {H : Hp} {h : Heap} {a : Addr} {u : HO} (r : Rd H a u) (x : HOk P w H h) : ObjOk P w H h a u := by
 rcases r with r | ⟨o, r⟩
 ·exact x a u r
 ·obtain ⟨_, q⟩ := x a _ r
  exact q
noncomputable def Mut : Option HO → Prop
 | some (.lst _) => True
 | some (.dK _) => True
 | some (.dT _) => True
 | some (.set _ _) => True
 | some (.ins _ _ _) => True
 | some (.ext _) => True
 | _ => False
section
variable {P : Program} {w : World} {H : Hp} {h h' : Heap} {x e : Addr} {o' : HO}
theorem HOk.write (ok : HOk P w H h) (mu : Mut (H x)) (he : e = x ∨ H e = some (.own x)) (k : ∀ b u, b ≠ e → h.get? b = some u → h'.get? b = some u) (heo : ∃ u, h'.get? e = some u)
  (new : ObjOk P w (upd H x o') h' x o') : HOk P w (upd H x o') h' := fun b u q => by
 have nown : ∀ c y, H c = some (.own y) → c ≠ x := fun c y r z => by subst z; rw [r] at mu; exact mu
 have ntup : ∀ c xs, H c = some (.tup xs) → c ≠ x := fun c xs r z => by subst z; rw [r] at mu; exact mu
 by_cases hb : b = x
 ·subst hb; rw [upd_same] at q; cases q; exact new
 ·rw [upd_ne hb] at q
  by_cases hbe : b = e
  ·have q' : H b = some (.own x) := by
    rcases he with z | z
    ·exact absurd (hbe.trans z) hb
    ·rw [hbe]; exact z
   rw [q] at q'; cases q'
   obtain ⟨v, hv⟩ := heo
   exact ⟨v, by rw [hbe]; exact hv⟩
  ·refine (ok b u q).stay (fun c v hc r => k c v ?_ r) (fun c r => by rw [upd_ne (nown c b r)]; exact r) fun c xs r => by rw [upd_ne (ntup c xs r)]; exact r
   rcases hc with rfl | hc
   ·exact hbe
   ·rintro rfl
    rcases he with z | z
    ·exact nown c b hc z
    ·rw [hc] at z; cases z; exact hb rfl
end
structure Un (fs ex : List Addr) (H H' : Hp) (h h' : Heap) : Prop where
 keep : ∀ b o, h.get? b = some o → H b = none → b ∉ fs → b ∉ ex → h'.get? b = some o
 slot : ∀ b o, h.get? b = some o → H b = none → b ∈ fs → b ∉ ex → ∃ sl, h'.get? b = some { o with slots := sl }
 free : ∀ b o, h.get? b = some o → H b = none → b ∉ ex → H' b = none
 there : ∀ b o, h.get? b = some o → b ∉ ex → ∃ o', h'.get? b = some o'
 tups : ∀ b xs, H b = some (.tup xs) → H' b = some (.tup xs)
 frzs : ∀ b o u, H b = some (.frz o u) → H' b = some (.frz o u)
 tbls : ∀ b ps, H b = some (.tbl ps) → ∃ more, H' b = some (.tbl (ps ++ more))
section
variable {fs fs' ex ex' : List Addr} {H H1 H2 : Hp} {h h1 h2 h' : Heap} {a x e : Addr} {o : HO}
theorem Un.any (u : Un fs ex H H1 h h1) {b : Addr} {ob : Obj} (q : h.get? b = some ob) (n : H b = none) (hx : b ∉ ex) : ∃ sl, h1.get? b = some { ob with slots := sl } := by
 by_cases hb : b ∈ fs
 ·exact u.slot b ob q n hb hx
 ·exact ⟨ob.slots, u.keep b ob q n hb hx⟩
theorem Un.trans (a : Un fs ex H H1 h h1) (b : Un fs ex H1 H2 h1 h2) : Un fs ex H H2 h h2 where
 keep := fun c ob q n hc hx => b.keep c ob (a.keep c ob q n hc hx) (a.free c ob q n hx) hc hx
 slot := fun c ob q n hc hx => by
  obtain ⟨sl, e1⟩ := a.slot c ob q n hc hx
  obtain ⟨sl', e2⟩ := b.slot c _ e1 (a.free c ob q n hx) hc hx
  exact ⟨sl', e2⟩
 free := fun c ob q n hx => by
  obtain ⟨o', e1⟩ := a.there c ob q hx
  exact b.free c o' e1 (a.free c ob q n hx) hx
 there := fun c ob q hx => by
  obtain ⟨o', e1⟩ := a.there c ob q hx
  exact b.there c o' e1 hx
 tups := fun c xs q => b.tups c xs (a.tups c xs q)
 frzs := fun c ob xs q => b.frzs c ob xs (a.frzs c ob xs q)
 tbls := fun c ps q => by
  obtain ⟨m1, e1⟩ := a.tbls c ps q
  obtain ⟨m2, e2⟩ := b.tbls c _ e1
  exact ⟨m1 ++ m2, by rw [e2, Array.append_assoc]⟩
theorem Un.kept (k : ∀ b u, h.get? b = some u → h'.get? b = some u) : Un fs ex H H h h' :=
 ⟨fun b ob q ψ ψ ψ => k b ob q, fun b ob q ψ ψ ψ => ⟨ob.slots, k b ob q⟩, fun ψ ψ ψ n ψ => n, fun b ob q ψ => ⟨ob, k b ob q⟩, fun ψ ψ q => q, fun ψ ψ ψ q => q, fun ψ ps q => ⟨#[], by rw [q]; simp⟩⟩
theorem Un.refl : Un fs ex H H h h := Un.kept fun ψ ψ q => q
theorem Un.laid (k : ∀ b u, h.get? b = some u → h'.get? b = some u) (hp : h.objs.size ≤ a) (hn : H a = none) : Un fs ex H (upd H a o) h h' where
 keep := fun b u q ψ ψ ψ => k b u q
 slot := fun b u q ψ ψ ψ => ⟨u.slots, k b u q⟩
 free := fun b u q n ψ => by rw [upd_ne (Nat.ne_of_lt (Nat.lt_of_lt_of_le (Heap.lt_size q) hp))]; exact n
 there := fun b u q ψ => ⟨u, k b u q⟩
 tups := fun b xs q => by rw [upd_ne (ne_of_none q hn)]; exact q
 frzs := fun b u xs q => by rw [upd_ne (ne_of_none q hn)]; exact q
 tbls := fun b ps q => ⟨#[], by rw [upd_ne (ne_of_none q hn), q]; simp⟩
theorem Un.write (mu : Mut (H x)) (he : e = x ∨ H e = some (.own x)) (k : ∀ b u, b ≠ e → h.get? b = some u → h'.get? b = some u) (heo : ∃ u, h'.get? e = some u) : Un fs ex H (upd H x o) h h' := by
 have hx : ∀ b, H b = none → b ≠ x := fun b n z => by subst z; rw [n] at mu; exact mu
 have hb : ∀ b, H b = none → b ≠ e := fun b n z => by
  subst z
  rcases he with r | r
  ·exact hx b n r
  ·rw [n] at r; cases r
 have hm : ∀ b u, H b = some u → ¬ Mut (some u) → b ≠ x := fun b u q nm z => by subst z; rw [q] at mu; exact nm mu
 refine ⟨fun b u q n ψ ψ => k b u (hb b n) q, fun b u q n ψ ψ => ⟨u.slots, k b u (hb b n) q⟩, fun b u q n ψ => by rw [upd_ne (hx b n)]; exact n, fun b u q ψ => ?_,
  fun b xs q => by rw [upd_ne (hm b _ q fun z => z)]; exact q, fun b u xs q => by rw [upd_ne (hm b _ q fun z => z)]; exact q, fun b ps q => ⟨#[], by rw [upd_ne (hm b _ q fun z => z), q]; simp⟩⟩
 by_cases hbe : b = e
 ·subst hbe; exact heo
 ·exact ⟨u, k b u hbe q⟩
theorem Un.mono (u : Un fs ex H H1 h h1) (hs : ∀ b ∈ fs, b ∈ fs') (hx : ∀ b ∈ ex, b ∈ ex') : Un fs' ex' H H1 h h1 :=
 ⟨fun b ob q n hb he => u.keep b ob q n (fun z => hb (hs b z)) fun z => he (hx b z), fun ψ ψ q n ψ he => u.any q n fun z => he (hx _ z), fun b ob q n he => u.free b ob q n fun z => he (hx b z), fun b ob q he => u.there b ob q fun z => he (hx b z), u.tups, u.frzs, u.tbls⟩
end
noncomputable def trk (h : Heap) (H : Hp) : List Addr := (List.range h.objs.size).filter fun a => (H a).isSome
noncomputable def hidT (h : Heap) (H : Hp) : Heap := PySem.W.hideAll h (trk h H)
theorem hidT_size (h : Heap) (H : Hp) : (hidT h H).objs.size = h.objs.size := PySem.W.hideAll_size _ _
theorem hidT_get {h : Heap} {H : Hp} {b : Addr} {o : Obj} (e : h.get? b = some o) (n : H b = none) : (hidT h H).get? b = some o :=
 PySem.W.hideAll_get _ e fun hm => by
  have q : (H b).isSome = true := (List.mem_filter.mp hm).2
  rw [n] at q; simp at q
theorem of_hidT {h : Heap} {H : Hp} {b : Addr} {o : Obj} (e : (hidT h H).get? b = some o) : h.get? b = some o ∧ H b = none := by
 have e' : h.get? b = some o := PySem.W.of_hideAll (trk h H) e
 refine ⟨e', ?_⟩
 cases q : H b with
 | none => rfl
 | some x =>
  have hm : b ∈ trk h H := List.mem_filter.mpr ⟨List.mem_range.mpr (Heap.lt_size e'), by simp [q]⟩
  have z : (hidT h H).get? b = none := PySem.W.hideAll_none (trk h H) hm
  rw [z] at e; cases e
noncomputable def allNews (g h : Heap) (L : Addr) : List (Addr × Obj) := (List.range h.objs.size).filterMap fun a => if a = L ∨ (g.get? a).isSome = true then none else (h.get? a).map fun o => (a, o)
noncomputable def rest (g h : Heap) (L d : Addr) : List (Addr × Obj) := (allNews g h L).filter fun p => decide (p.1 ≠ d)
structure Mod (K : L2.Fg) (mg : L2.SV) (base : Heap) : Prop where
 kin : K.In base
 glob : base.Ns mainGlobals mg
 blt : ∃ mb, base.Ns builtinsNs mb ∧ ∀ x : Str, x ≠ "__name__" → mb x = bootBuiltins x
 nolimit : base.NoLimit
structure Cx where
 prog : Program
 w : World
 K : PySem.W.Frag
 mg : Str → Option Value
 base : Heap
 A : Around
 N : List Str
 s₀ : Shared
 H₀ : Hp
 env : Env
 outer : List Env
 stack : List Env
 ex : List Addr
 fn : Str → Bool
 calm : Bool
 pn : List (Addr × Obj)
 xe : Value → Shared → Prop
noncomputable def frs (l : List Env) : List Addr := l.filterMap (·.frame)
noncomputable abbrev Cx.fs (X : Cx) : List Addr := frs X.outer
noncomputable def Vis (sc : Scope) (x : Str) : Prop := sc.names.lookup x = some .local ∨ sc.names.lookup x = some .cell ∨ sc.names.lookup x = some .free
noncomputable def Loc (sc : Scope) (x : Str) : Prop := sc.names.lookup x = some .local ∨ sc.names.lookup x = some .cell
noncomputable def Look (env : Env) (h : Heap) (m : L2.SV) (x : Str) (u : Value) : Prop :=
 (env.kindOf x = some .local ∧ m x = some u) ∨ ((env.kindOf x = some .cell ∨ env.kindOf x = some .free) ∧ ∃ c, env.cells.lookup x = some c ∧ h.IsCell c (some u))
structure Cx.Ok (X : Cx) : Prop where
 mod : Mod X.K X.mg X.base
 kind : X.env.scope.kind = .function
 glob : X.env.globals = mainGlobals
 blt : X.env.builtins = builtinsNs
 above : X.s₀.heap.objs.size ≤ X.env.locals
 inj : ∀ x y c, X.env.cells.lookup x = some c → X.env.cells.lookup y = some c → x = y
 has : ∀ x, (X.env.kindOf x = some .cell ∨ X.env.kindOf x = some .free) → ∃ c, X.env.cells.lookup x = some c
 cab : ∀ x c, X.fn x = true → X.env.cells.lookup x = some c → X.s₀.heap.objs.size ≤ c
 hd : X.calm = true → X.A.handled = none
 frames : X.A.frames = some X.stack
 stk : X.stack = X.outer ∨ (X.stack = X.env :: X.outer ∧ X.env.frame = some X.env.locals)
 exf : ∀ b ∈ X.ex, b ≠ X.env.locals ∧ ∀ x c, X.env.cells.lookup x = some c → c ≠ b
 bs : ∀ b o, X.base.get? b = some o → X.s₀.heap.get? b = some o ∧ X.H₀ b = none
 bsz : X.base.objs.size ≤ X.s₀.heap.objs.size
 noex : ∀ b o, X.base.get? b = some o → b ∉ X.ex
 exfs : ∀ b ∈ X.ex, b ∉ X.fs
 funs : X.s₀.heap.FunFrames X.base X.outer
 frf : ∀ b ∈ X.fs, X.H₀ b = none
structure Inv (X : Cx) (pins : L2.AO) (σ : List (Option V)) (H : Hp) (s : Shared) : Prop where
 ok : X.Ok
 os : s.os = X.s₀.os
 bare : AllBare s.gens
 base : Un X.fs X.ex X.H₀ H X.s₀.heap s.heap
 loc : ∃ m, s.heap.Ns X.env.locals m ∧ ∀ (i : Nat) (x : Str) (v : V), X.N[i]? = some x → σ[i]? = some (some v) → Vis X.env.scope x → ∃ u, RelV v u ∧ Look X.env s.heap m x u
 cell : ∀ x c, X.env.cells.lookup x = some c → ∃ v, s.heap.IsCell c v
 free : H X.env.locals = none
 freeC : ∀ x c, X.env.cells.lookup x = some c → H c = none
 pin : ∀ p ∈ X.pn ++ pins, s.heap.get? p.1 = some p.2 ∧ H p.1 = none ∧ p.1 ≠ X.env.locals ∧ p.1 ∉ X.fs ∧ ∀ v, p.2.data ≠ .cell v
 hok : HOk X.prog X.w H s.heap
 len : σ.length = X.N.length
section
variable {X : Cx} {pins : L2.AO} {σ : List (Option V)} {H H' : Hp} {s : Shared} {h' : Heap}
theorem Cx.Ok.nofr (ok : X.Ok) {b : Addr} {o : Obj} (e : X.base.get? b = some o) : b ∉ X.fs := fun hb => by
 have := (ok.funs.mem hb).1
 rw [e] at this; cases this
theorem Inv.bs (I : Inv X pins σ H s) : ∀ b o, X.base.get? b = some o → s.heap.get? b = some o ∧ H b = none := fun b o e =>
 ⟨I.base.keep b o (I.ok.bs b o e).1 (I.ok.bs b o e).2 (I.ok.nofr e) (I.ok.noex b o e), I.base.free b o (I.ok.bs b o e).1 (I.ok.bs b o e).2 (I.ok.noex b o e)⟩
theorem Inv.bk (I : Inv X pins σ H s) : ∀ b o, X.base.get? b = some o → s.heap.get? b = some o := fun b o e => (I.bs b o e).1
theorem Inv.mod (I : Inv X pins σ H s) : Mod X.K X.mg X.base := I.ok.mod
theorem Inv.kIn (I : Inv X pins σ H s) : X.K.In s.heap := I.ok.mod.kin.keeps I.bk
theorem Inv.nolimit (I : Inv X pins σ H s) : s.heap.NoLimit := I.ok.mod.nolimit.keeps I.bk
theorem Inv.fr (I : Inv X pins σ H s) : ∃ m, Fr X.base X.env.locals s.heap m :=
 let ⟨m, hn, _⟩ := I.loc
 ⟨m, hn, I.bk, Nat.le_trans I.ok.bsz I.ok.above⟩
theorem Inv.lt (I : Inv X pins σ H s) : X.env.locals < s.heap.objs.size := let ⟨_, hn, _⟩ := I.loc; hn.lt
theorem Inv.sz (I : Inv X pins σ H s) : X.s₀.heap.objs.size ≤ s.heap.objs.size := Nat.le_trans I.ok.above (Nat.le_of_lt I.lt)
theorem Inv.nofs (I : Inv X pins σ H s) {a : Addr} (h : s.heap.objs.size ≤ a) : a ∉ X.fs := fun hb => by
 obtain ⟨_, o, ho, _⟩ := I.ok.funs.mem hb
 exact absurd (Nat.lt_of_lt_of_le (Heap.lt_size ho) (Nat.le_trans I.sz h)) (Nat.lt_irrefl _)
theorem Inv.cne (I : Inv X pins σ H s) : ∀ x c, X.env.cells.lookup x = some c → c ≠ X.env.locals := fun x c e z => by
 obtain ⟨v, o, ho, hd⟩ := I.cell x c e
 obtain ⟨m, ⟨o', es, ep, ho', hd', _⟩, _⟩ := I.loc
 rw [z, ho'] at ho; cases ho; rw [hd'] at hd; cases hd
theorem Inv.funs (I : Inv X pins σ H s) : s.heap.FunFrames X.base X.outer := by
 have all : ∀ (l : List Env), (∀ b ∈ frs l, b ∈ X.fs) → X.s₀.heap.FunFrames X.base l → s.heap.FunFrames X.base l := by
  intro l
  induction l with
  | nil => intro ψ ψ; trivial
  | cons env r ih =>
   intro hs hl
   obtain ⟨hk, ⟨L, o, hf, hn, ho, hd⟩, hr⟩ := hl
   have hL : L ∈ X.fs := hs L (by unfold frs; rw [List.filterMap_cons, hf]; exact List.mem_cons_self)
   obtain ⟨sl, e⟩ := I.base.slot L o ho (I.ok.frf L hL) hL fun z => I.ok.exfs L z hL
   exact ⟨hk, ⟨L, _, hf, hn, e, hd⟩, ih (fun b hb => hs b (by unfold frs; rw [List.filterMap_cons, hf]; exact List.mem_cons_of_mem _ hb)) hr⟩
 exact all X.outer (fun ψ hb => hb) I.ok.funs
theorem Inv.stack (I : Inv X pins σ H s) : s.heap.FunFrames X.base X.stack := by
 rcases I.ok.stk with e | ⟨e, hf⟩
 ·rw [e]; exact I.funs
 ·rw [e]
  obtain ⟨m, hn, _⟩ := I.loc
  refine .cons (by rw [I.ok.kind]; decide) hf hn ?_ I.funs
  exact Heap.get?_none_of_le (Nat.le_trans I.ok.bsz I.ok.above)
theorem Inv.stkSub (I : Inv X pins σ H s) : ∀ b ∈ frs X.stack, b ∈ X.env.locals :: X.fs := fun b hb => by
 rcases I.ok.stk with e | ⟨e, hf⟩
 ·rw [e] at hb; exact List.mem_cons_of_mem _ hb
 ·rw [e] at hb
  unfold frs at hb
  rw [List.filterMap_cons, hf] at hb
  exact hb
theorem Inv.stkFree (I : Inv X pins σ H s) : ∀ b ∈ frs X.stack, H b = none := fun b hb => by
 rcases List.mem_cons.mp (I.stkSub b hb) with e | hb
 ·rw [e]; exact I.free
 ·obtain ⟨_, o, ho, _⟩ := I.ok.funs.mem hb
  exact I.base.free b o ho (I.ok.frf b hb) fun z => I.ok.exfs b z hb
theorem Inv.step {g' : Array GenState} {t' : Nat} {d' : Drawn} {ch : List Addr} (I : Inv X pins σ H s)
  (hch : ∀ b ∈ ch, (b ∈ X.ex ∨ X.s₀.heap.objs.size ≤ b) ∧ b ≠ X.env.locals ∧ (∀ x c, X.env.cells.lookup x = some c → c ≠ b) ∧ ∀ p ∈ X.pn ++ pins, p.1 ≠ b)
  (keep : ∀ b o, b ≠ X.env.locals → b ∉ X.fs → b ∉ ch → s.heap.get? b = some o → H b = none → h'.get? b = some o)
  (slot : ∀ b o, b ≠ X.env.locals → b ∈ X.fs → b ∉ ch → s.heap.get? b = some o → H b = none → ∃ sl, h'.get? b = some { o with slots := sl }) (free : ∀ b o, b ∉ ch → s.heap.get? b = some o → H b = none → H' b = none)
  (there : ∀ b o, b ∉ ch → s.heap.get? b = some o → ∃ o', h'.get? b = some o')
  (tups : ∀ b xs, H b = some (.tup xs) → H' b = some (.tup xs)) (frzs : ∀ b o u, H b = some (.frz o u) → H' b = some (.frz o u)) (tbls : ∀ b ps, H b = some (.tbl ps) → ∃ more, H' b = some (.tbl (ps ++ more)))
  (ns : ∀ m, s.heap.Ns X.env.locals m → h'.Ns X.env.locals m) (hok : HOk X.prog X.w H' h') (hg : AllBare g') :
  Inv X pins σ H' { s with heap := h', gens := g', drawn := d', toks := t' } := by
 have neL : ∀ b o, X.s₀.heap.get? b = some o → b ≠ X.env.locals := fun b o e => Nat.ne_of_lt (Nat.lt_of_lt_of_le (Heap.lt_size e) I.ok.above)
 have neC : ∀ b o, X.s₀.heap.get? b = some o → b ∉ X.ex → b ∉ ch := fun b o e hx hb => by
  rcases (hch b hb).1 with z | z
  ·exact hx z
  ·exact absurd (Nat.lt_of_lt_of_le (Heap.lt_size e) z) (Nat.lt_irrefl _)
 have cellK : ∀ x c, X.env.cells.lookup x = some c → ∀ v, s.heap.IsCell c v → h'.IsCell c v := fun x c e v ⟨o, ho, hd⟩ => by
  have nch : c ∉ ch := fun z => (hch c z).2.2.1 x c e rfl
  by_cases hc : c ∈ X.fs
  ·obtain ⟨sl, q⟩ := slot c o (I.cne x c e) hc nch ho (I.freeC x c e)
   exact ⟨_, q, hd⟩
  ·exact ⟨o, keep c o (I.cne x c e) hc nch ho (I.freeC x c e), hd⟩
 refine ⟨I.ok, I.os, hg, ⟨fun b o e n hb hx => ?_, fun b o e n hb hx => ?_, fun b o e n hx => ?_, fun b o e hx => ?_, fun b xs e => tups b xs (I.base.tups b xs e), fun b o xs e => frzs b o xs (I.base.frzs b o xs e), fun b ps e => ?_⟩, ?_, fun x c e => ?_, ?_, fun x c e => ?_, fun p hp => ?_, hok, I.len⟩
 ·exact keep b o (neL b o e) hb (neC b o e hx) (I.base.keep b o e n hb hx) (I.base.free b o e n hx)
 ·obtain ⟨sl, e1⟩ := I.base.slot b o e n hb hx
  obtain ⟨sl', e2⟩ := slot b _ (neL b o e) hb (neC b o e hx) e1 (I.base.free b o e n hx)
  exact ⟨sl', e2⟩
 ·obtain ⟨o', e1⟩ := I.base.there b o e hx
  exact free b o' (neC b o e hx) e1 (I.base.free b o e n hx)
 ·obtain ⟨o', e1⟩ := I.base.there b o e hx
  exact there b o' (neC b o e hx) e1
 ·obtain ⟨m1, e1⟩ := I.base.tbls b ps e
  obtain ⟨m2, e2⟩ := tbls b _ e1
  exact ⟨m1 ++ m2, by rw [e2, Array.append_assoc]⟩
 ·obtain ⟨m, hn, hl⟩ := I.loc
  refine ⟨m, ns m hn, fun i x v e1 e2 e3 => ?_⟩
  obtain ⟨u, r, l⟩ := hl i x v e1 e2 e3
  refine ⟨u, r, ?_⟩
  rcases l with l | ⟨k, c, e, z⟩
  ·exact .inl l
  ·exact .inr ⟨k, c, e, cellK x c e _ z⟩
 ·obtain ⟨v, z⟩ := I.cell x c e
  exact ⟨v, cellK x c e v z⟩
 ·obtain ⟨m, ⟨o, _, _, ho, _⟩, _⟩ := I.loc
  exact free _ o (fun z => (hch _ z).2.1 rfl) ho I.free
 ·obtain ⟨v, o, ho, hd⟩ := I.cell x c e
  exact free c o (fun z => (hch c z).2.2.1 x c e rfl) ho (I.freeC x c e)
 ·obtain ⟨e, n, ne, nf, d⟩ := I.pin p hp
  have nch : p.1 ∉ ch := fun z => (hch p.1 z).2.2.2 p hp rfl
  exact ⟨keep p.1 p.2 ne nf nch e n, free p.1 p.2 nch e n, ne, nf, d⟩
theorem Inv.un {t' : Nat} (I : Inv X pins σ H s) (u : Un X.fs [] H H' s.heap h') (hok : HOk X.prog X.w H' h') : Inv X pins σ H' { s with heap := h', toks := t' } := by
 obtain ⟨m, ⟨o, es, ep, ho, r⟩, _⟩ := id I.loc
 obtain ⟨sl, hL⟩ := u.any ho I.free (by simp)
 exact I.step (g' := s.gens) (d' := s.drawn) (ch := []) (fun ψ z => nomatch z) (fun b o ψ hb ψ e n => u.keep b o e n hb (by simp)) (fun b o ψ hb ψ e n => u.slot b o e n hb (by simp)) (fun b o ψ e n => u.free b o e n (by simp)) (fun b o ψ e => u.there b o e (by simp)) u.tups u.frzs u.tbls (fun m' hm => by
  obtain ⟨o', es', ep', ho', r'⟩ := hm
  rw [ho] at ho'; cases ho'
  exact ⟨_, es', ep', hL, r'⟩) hok I.bare
theorem Inv.call {g' : Array GenState} {t' : Nat} {d' : Drawn} {ch : List Addr} (I : Inv X pins σ H s) (u : Un (frs X.stack) ch H H' s.heap h') (hok : HOk X.prog X.w H' h') (hg : AllBare g')
  (hch : ∀ b ∈ ch, (b ∈ X.ex ∨ X.s₀.heap.objs.size ≤ b) ∧ b ≠ X.env.locals ∧ (∀ x c, X.env.cells.lookup x = some c → c ≠ b) ∧ ∀ p ∈ X.pn ++ pins, p.1 ≠ b) :
  Inv X pins σ H' { s with heap := h', gens := g', drawn := d', toks := t' } := by
 obtain ⟨m, ⟨o, es, ep, ho, r⟩, _⟩ := id I.loc
 obtain ⟨sl, hL⟩ := u.any ho I.free fun z => (hch _ z).2.1 rfl
 exact I.step (ch := ch) hch (fun b o hL hb hc e n => u.keep b o e n (fun z => (List.mem_cons.mp (I.stkSub b z)).elim hL hb) hc) (fun b o ψ ψ hc e n => u.any e n hc) (fun b o hc e n => u.free b o e n hc) (fun b o hc e => u.there b o e hc) u.tups u.frzs u.tbls (fun m' hm => by
  obtain ⟨o', es', ep', ho', r'⟩ := hm
  rw [ho] at ho'; cases ho'
  exact ⟨_, es', ep', hL, r'⟩) hok hg
theorem Inv.turned {t' : Nat} {it : Addr} (I : Inv X pins σ H s) (k : ∀ b o, b ≠ it → s.heap.get? b = some o → h'.get? b = some o) (hn : H it = none) (hL : it ≠ X.env.locals)
  (h1 : it ∈ X.ex ∨ X.s₀.heap.objs.size ≤ it) (h2 : ∀ x c, X.env.cells.lookup x = some c → c ≠ it) (h3 : ∀ p ∈ X.pn ++ pins, p.1 ≠ it) : Inv X pins σ H { s with heap := h', toks := t' } := by
 have nit : ∀ b u, H b = some u → b ≠ it := fun b u e z => by rw [z, hn] at e; cases e
 refine I.step (g' := s.gens) (d' := s.drawn) (ch := [it]) (fun b hb => ?_) (fun b o ψ ψ hc e ψ => k b o (fun z => hc (by simp [z])) e) (fun b o ψ ψ hc e ψ => ⟨o.slots, k b o (fun z => hc (by simp [z])) e⟩) (fun ψ ψ ψ ψ n => n)
  (fun b o hc e => ⟨o, k b o (fun z => hc (by simp [z])) e⟩) (fun ψ ψ e => e) (fun ψ ψ ψ e => e) (fun b ps e => ⟨#[], by rw [e]; simp⟩) (fun m hm => ?_) (fun b u e => ?_) I.bare
 ·have e : b = it := by simpa using hb
  subst e
  exact ⟨h1, hL, h2, h3⟩
 ·obtain ⟨o, es, ep, ho, r⟩ := hm
  exact ⟨o, es, ep, k _ o (Ne.symm hL) ho, r⟩
 ·refine (I.hok b u e).stay (fun c v hc q => k c v ?_ q) (fun ψ q => q) fun ψ ψ q => q
  rcases hc with z | z
  ·rw [z]; exact nit b u e
  ·exact nit c _ z
theorem Inv.tok (I : Inv X pins σ H s) (t : Nat) : Inv X pins σ H { s with toks := t } := I.un (h' := s.heap) (t' := t) Un.refl I.hok
theorem Inv.kept {t' : Nat} (I : Inv X pins σ H s) (k : ∀ b u, s.heap.get? b = some u → h'.get? b = some u) : Inv X pins σ H { s with heap := h', toks := t' } := I.un (Un.kept k) (I.hok.kept k)
theorem Inv.laid {a : Addr} {o : HO} {t' : Nat} (I : Inv X pins σ H s) (k : ∀ b u, s.heap.get? b = some u → h'.get? b = some u) (hp : s.heap.objs.size ≤ a) (new : ObjOk X.prog X.w (upd H a o) h' a o) :
  Inv X pins σ (upd H a o) { s with heap := h', toks := t' } := I.un (Un.laid k hp (I.hok.fresh hp)) (I.hok.laid k hp new)
theorem Inv.write {x e : Addr} {o : HO} {t' : Nat} (I : Inv X pins σ H s) (mu : Mut (H x)) (he : e = x ∨ H e = some (.own x)) (k : ∀ b u, b ≠ e → s.heap.get? b = some u → h'.get? b = some u) (heo : ∃ u, h'.get? e = some u)
  (new : ObjOk X.prog X.w (upd H x o) h' x o) : Inv X pins σ (upd H x o) { s with heap := h', toks := t' } := I.un (Un.write mu he k heo) (I.hok.write mu he k heo new)
theorem Inv.pins_of {pins' : L2.AO} (I : Inv X pins σ H s) (h : ∀ p ∈ pins', s.heap.get? p.1 = some p.2 ∧ H p.1 = none ∧ p.1 ≠ X.env.locals ∧ p.1 ∉ X.fs ∧ ∀ v, p.2.data ≠ .cell v) : Inv X pins' σ H s :=
 ⟨I.ok, I.os, I.bare, I.base, I.loc, I.cell, I.free, I.freeC, fun p hp => (List.mem_append.mp hp).elim (fun z => I.pin p (List.mem_append_left _ z)) (h p), I.hok, I.len⟩
theorem nodup_ix {N : List Str} (hN : N.Nodup) {i j : Nat} {x : Str} (a : N[i]? = some x) (b : N[j]? = some x) : i = j := by
 obtain ⟨h1, e1⟩ := List.getElem?_eq_some_iff.mp a
 obtain ⟨h2, e2⟩ := List.getElem?_eq_some_iff.mp b
 exact (List.getElem_inj hN).mp (e1.trans e2.symm)
theorem store_ok2 {M : Model} {A : Around} {E : L2.VSP} {i : Nat} {x : Str} {v : V} {u : Value} {Q : Unit → Shared → Prop} (I : Inv X pins σ H s) (hN : X.N.Nodup) (hi : X.N[i]? = some x) (hx : Loc X.env.scope x) (r : RelV v u)
  (h : ∀ s', Inv X pins (σ.set i (some v)) H s' → (∃ a, Heap.SameBut a s.heap s'.heap ∧ (a = X.env.locals ∨ X.env.cells.lookup x = some a)) → Q () s') (hf : X.fn x = true ∨ X.env.scope.names.lookup x = some .local := by first | exact .inl rfl | exact .inr rfl | assumption) : wpAny M A (storeName X.env x u) Q E s := by
 obtain ⟨m, hn, hl⟩ := id I.loc
 have hcls : (X.env.scope.kind == .class || (X.env.scope.kind == .module && X.env.locals != X.env.globals)) = false := by rw [I.ok.kind]; rfl
 have hiσ : i < σ.length := by rw [I.len]; exact (List.getElem?_eq_some_iff.mp hi).1
 have cne := I.cne
 have tracked : ∀ {a : Addr} {h' : Heap}, (∃ o, s.heap.get? a = some o ∧ H a = none) → Heap.SameBut a s.heap h' → HOk X.prog X.w H h' := fun {a h'} ha hs b ob e => by
  obtain ⟨_, _, hfree⟩ := ha
  refine (I.hok b ob e).stay (fun c w' hc q => (hs.2 c ?_).trans q) (fun ψ q => q) fun ψ ψ q => q
  rintro rfl
  rcases hc with rfl | hc
  ·rw [hfree] at e; cases e
  ·rw [hfree] at hc; cases hc
 rcases hx with hk | hk
 ·refine wpAny_storeName_local hk hn (fun h' hn' hs => ?_) hcls
  obtain ⟨oL, _, _, hoL, _⟩ := id hn
  refine h _ ⟨I.ok, I.os, I.bare, ⟨fun b o e n hb hx => ?_, fun b o e n hb hx => ?_, I.base.free, fun b o e hx => ?_, I.base.tups, I.base.frzs, I.base.tbls⟩, ⟨_, hn', fun j y v' e1 e2 e3 => ?_⟩, fun y c e => ?_, I.free, I.freeC, fun p hp => ?_, tracked ⟨oL, hoL, I.free⟩ hs, by simpa using I.len⟩ ⟨_, hs, .inl rfl⟩
  ·exact (hs.2 b (Nat.ne_of_lt (Nat.lt_of_lt_of_le (Heap.lt_size e) I.ok.above))).trans (I.base.keep b o e n hb hx)
  ·obtain ⟨sl, e1⟩ := I.base.slot b o e n hb hx
   exact ⟨sl, (hs.2 b (Nat.ne_of_lt (Nat.lt_of_lt_of_le (Heap.lt_size e) I.ok.above))).trans e1⟩
  ·obtain ⟨o', e1⟩ := I.base.there b o e hx
   exact ⟨o', (hs.2 b (Nat.ne_of_lt (Nat.lt_of_lt_of_le (Heap.lt_size e) I.ok.above))).trans e1⟩
  ·by_cases hj : j = i
   ·subst hj
    rw [hi] at e1; cases e1
    rw [List.getElem?_set_self hiσ] at e2
    cases e2
    exact ⟨u, r, .inl ⟨hk, by simp⟩⟩
   ·rw [List.getElem?_set_ne (Ne.symm hj)] at e2
    obtain ⟨u', r', q⟩ := hl j y v' e1 e2 e3
    refine ⟨u', r', ?_⟩
    rcases q with ⟨k, e⟩ | ⟨k, c, e, z⟩
    ·refine .inl ⟨k, ?_⟩
     have : y ≠ x := fun e => hj (nodup_ix hN e1 (e ▸ hi))
     simp [this, e]
    ·exact .inr ⟨k, c, e, z.sameBut hs (cne y c e)⟩
  ·obtain ⟨w', z⟩ := I.cell y c e
   exact ⟨w', z.sameBut hs (cne y c e)⟩
  ·obtain ⟨e, n, ne, nf, d⟩ := I.pin p hp
   exact ⟨(hs.2 p.1 ne).trans e, n, ne, nf, d⟩
 ·have hfn : X.fn x = true := by
   rcases hf with z | z
   ·exact z
   ·rw [z] at hk; cases hk
  obtain ⟨c, hc⟩ := I.ok.has x (.inl hk)
  obtain ⟨w', z⟩ := I.cell x c hc
  refine wpAny_storeName_cell I.ok.kind hk hc z (fun h' hc' hs => ?_)
  obtain ⟨oc, hoc, hocd⟩ := id z
  refine h { s with heap := h' } ⟨I.ok, I.os, I.bare, ⟨fun b o e n hb hx => ?_, fun b o e n hb hx => ?_, I.base.free, fun b o e hx => ?_, I.base.tups, I.base.frzs, I.base.tbls⟩, ⟨m, hn.sameBut hs (Ne.symm (cne x c hc)), fun j y v' e1 e2 e3 => ?_⟩, fun y c' e => ?_, I.free, I.freeC, fun p hp => ?_, tracked ⟨oc, hoc, I.freeC x c hc⟩ hs, by simpa using I.len⟩ ⟨c, hs, .inr hc⟩
  ·exact (hs.2 b (Nat.ne_of_lt (Nat.lt_of_lt_of_le (Heap.lt_size e) (I.ok.cab x c hfn hc)))).trans (I.base.keep b o e n hb hx)
  ·obtain ⟨sl, e1⟩ := I.base.slot b o e n hb hx
   exact ⟨sl, (hs.2 b (Nat.ne_of_lt (Nat.lt_of_lt_of_le (Heap.lt_size e) (I.ok.cab x c hfn hc)))).trans e1⟩
  ·obtain ⟨o', e1⟩ := I.base.there b o e hx
   exact ⟨o', (hs.2 b (Nat.ne_of_lt (Nat.lt_of_lt_of_le (Heap.lt_size e) (I.ok.cab x c hfn hc)))).trans e1⟩
  ·by_cases hj : j = i
   ·subst hj
    rw [hi] at e1; cases e1
    rw [List.getElem?_set_self hiσ] at e2
    cases e2
    exact ⟨u, r, .inr ⟨.inl hk, c, hc, hc'⟩⟩
   ·rw [List.getElem?_set_ne (Ne.symm hj)] at e2
    obtain ⟨u', r', q⟩ := hl j y v' e1 e2 e3
    refine ⟨u', r', ?_⟩
    rcases q with q | ⟨k, c', e, z'⟩
    ·exact .inl q
    ·refine .inr ⟨k, c', e, z'.sameBut hs ?_⟩
     rintro rfl
     exact hj (nodup_ix hN e1 (I.ok.inj _ _ _ e hc ▸ hi))
  ·by_cases hcc : c' = c
   ·subst hcc; exact ⟨_, hc'⟩
   ·obtain ⟨w2, z2⟩ := I.cell y c' e
    exact ⟨w2, z2.sameBut hs hcc⟩
  ·obtain ⟨e, n, ne, nf, d⟩ := I.pin p hp
   refine ⟨(hs.2 p.1 ?_).trans e, n, ne, nf, d⟩
   intro q
   rw [q, hoc] at e
   have q' : oc = p.2 := Option.some.inj e
   exact d w' (by rw [← q']; exact hocd)
theorem store_ok {M : Model} {A : Around} {E : L2.VSP} {i : Nat} {x : Str} {v : V} {u : Value} {Q : Unit → Shared → Prop} (I : Inv X pins σ H s) (hN : X.N.Nodup) (hi : X.N[i]? = some x) (hx : Loc X.env.scope x) (r : RelV v u)
  (h : ∀ s', Inv X pins (σ.set i (some v)) H s' → Q () s') (hf : X.fn x = true ∨ X.env.scope.names.lookup x = some .local := by first | exact .inl rfl | exact .inr rfl | assumption) : wpAny M A (storeName X.env x u) Q E s :=
 store_ok2 I hN hi hx r (fun s' I' ψ => h s' I') hf
theorem Inv.call' {s' : Shared} {ch : List Addr} (I : Inv X pins σ H s) (ho : s'.os = s.os) (u : Un (frs X.stack) ch H H' s.heap s'.heap) (hok : HOk X.prog X.w H' s'.heap) (hg : AllBare s'.gens)
  (hch : ∀ b ∈ ch, (b ∈ X.ex ∨ X.s₀.heap.objs.size ≤ b) ∧ b ≠ X.env.locals ∧ (∀ x c, X.env.cells.lookup x = some c → c ≠ b) ∧ ∀ p ∈ X.pn ++ pins, p.1 ≠ b) : Inv X pins σ H' s' := by
 obtain ⟨h', g', d', t', o'⟩ := s'
 have e : o' = s.os := ho
 subst e
 exact I.call (g' := g') (t' := t') (d' := d') u hok hg hch
end
noncomputable abbrev XK := Value → Option Addr → Hp → Prop
noncomputable abbrev St := List (Option V)
noncomputable abbrev VK := V → Hp → Prop
noncomputable abbrev TE := St → Hp → VK → Prop
noncomputable abbrev TT := St → Hp → (Bool → Hp → Prop) → Prop
noncomputable abbrev TA := St → Hp → (List V → Hp → Prop) → Prop
structure Ends where
 nx : St → Hp → Prop
 rt : VK
 bk : St → Hp → Prop := fun ψ ψ => False
 ct : St → Hp → Prop := fun ψ ψ => False
noncomputable abbrev TS := Ends → St → Hp → Prop
noncomputable def EP (X : Cx) (pins : L2.AO) (σ : St) (Q : VK) (u : Value) (s' : Shared) : Prop := ∃ v H', Inv X pins σ H' s' ∧ RelV v u ∧ Q v H'
noncomputable def TP (X : Cx) (pins : L2.AO) (σ : St) (Q : Bool → Hp → Prop) (b : Bool) (s' : Shared) : Prop := ∃ H', Inv X pins σ H' s' ∧ Q b H'
noncomputable def AP (X : Cx) (pins : L2.AO) (σ : St) (Q : List V → Hp → Prop) (us : List Value) (s' : Shared) : Prop := ∃ vs H', Inv X pins σ H' s' ∧ Vals vs us ∧ Q vs H'
noncomputable def SP (X : Cx) (pins : L2.AO) (D : Ends) (f : Flow) (s' : Shared) : Prop :=
 match f with
 | .next => ∃ σ' H', Inv X pins σ' H' s' ∧ D.nx σ' H'
 | .brk => ∃ σ' H', Inv X pins σ' H' s' ∧ D.bk σ' H'
 | .cont => ∃ σ' H', Inv X pins σ' H' s' ∧ D.ct σ' H'
 | .ret u => ∃ v σ' H', Inv X pins σ' H' s' ∧ RelV v u ∧ D.rt v H'
noncomputable def PE (X : Cx) (e : Expr) (t : TE) : Prop :=
 ∀ (pins : L2.AO) (s : Shared) (σ : St) (H : Hp) (Q : VK), Inv X pins σ H s → t σ H Q → wpAny (model X.prog X.w) X.A (eval e X.env) (EP X pins σ Q) X.xe s
noncomputable def PT (X : Cx) (e : Expr) (t : TT) : Prop :=
 ∀ (pins : L2.AO) (s : Shared) (σ : St) (H : Hp) (Q : Bool → Hp → Prop), Inv X pins σ H s → t σ H Q → wpAny (model X.prog X.w) X.A (isTrue e X.env (eval e X.env)) (TP X pins σ Q) X.xe s
noncomputable def PW (X : Cx) (e : Expr) (t : TT) : Prop :=
 ∀ (whole : Sem Value) (pins : L2.AO) (s : Shared) (σ : St) (H : Hp) (Q : Bool → Hp → Prop), Inv X pins σ H s → t σ H Q → wpAny (model X.prog X.w) X.A (isTrue e X.env whole) (TP X pins σ Q) X.xe s
theorem PW.pt {X : Cx} {e : Expr} {t : TT} (h : PW X e t) : PT X e t := h _
noncomputable def PA (X : Cx) (es : List Expr) (t : TA) : Prop :=
 ∀ (pos : Pos) (pins : L2.AO) (s : Shared) (σ : St) (H : Hp) (Q : List V → Hp → Prop), Inv X pins σ H s → t σ H Q → wpAny (model X.prog X.w) X.A (spliced (backTo pos (starEach es X.env))) (AP X pins σ Q) X.xe s
noncomputable def PS (X : Cx) (st : Stmt) (t : TS) : Prop :=
 ∀ (pins : L2.AO) (s : Shared) (σ : St) (H : Hp) (D : Ends), Inv X pins σ H s → t D σ H → wpAny (model X.prog X.w) X.A (exec st X.env) (SP X pins D) X.xe s
noncomputable def PSs (X : Cx) (st : List Stmt) (t : TS) : Prop :=
 ∀ (pins : L2.AO) (s : Shared) (σ : St) (H : Hp) (D : Ends), Inv X pins σ H s → t D σ H → wpAny (model X.prog X.w) X.A (execs st X.env) (SP X pins D) X.xe s
theorem thn {α : Type} {t : Sem α} {Q Q' : α → Shared → Prop} {M : Model} {A : Around} {E : L2.VSP} {s : Shared} (h : wpAny M A t Q E s) (hQ : ∀ a s, Q a s → Q' a s) : wpAny M A t Q' E s := wpAny_mono h hQ fun ψ ψ x => x
section
variable {X : Cx}
theorem bin {a b : Expr} {ta tb : TE} (ha : PE X a ta) (hb : PE X b tb) {pins : L2.AO} {s : Shared} {σ : St} {H : Hp} {R : V → V → Hp → Prop} (I : Inv X pins σ H s) (h : ta σ H fun x H1 => tb σ H1 fun y H2 => R x y H2)
  {α : Type} {Q : α → Shared → Prop} {f : Value → Value → Sem α}
  (hf : ∀ v u s2 x y H2, Inv X pins σ H2 s2 → RelV x v → RelV y u → R x y H2 → wpAny (model X.prog X.w) X.A (f v u) Q X.xe s2) :
  wpAny (model X.prog X.w) X.A (eval a X.env) (fun v s₁ => wpAny (model X.prog X.w) X.A (eval b X.env) (fun u s₂ => wpAny (model X.prog X.w) X.A (f v u) Q X.xe s₂) X.xe s₁) X.xe s := by
 refine thn (ha pins s σ H _ I h) fun v s1 ⟨x, H1, I1, r1, q1⟩ => ?_
 refine thn (hb pins s1 σ H1 _ I1 q1) fun u s2 ⟨y, H2, I2, r2, q2⟩ => ?_
 exact hf v u s2 x y H2 I2 r1 r2 q2
noncomputable def tVar (i : Nat) : TE := fun σ H Q => ∃ v, σ[i]? = some (some v) ∧ Q v H
noncomputable def tC (v : V) : TE := fun ψ H Q => Q v H
theorem pe_var {i : Nat} {x : Str} {pos : Pos} (hN : X.N[i]? = some x) (hv : Vis X.env.scope x) (hd : (x == ("__debug__" : Str)) = false := by decide) (hcd : (x == ("__classdict__" : Str)) = false := by decide) : PE X (.Name x pos) (tVar i) := by
 intro pins s σ H Q I h
 obtain ⟨v, e, h⟩ := h
 obtain ⟨m, hn, hl⟩ := I.loc
 obtain ⟨u, r, l⟩ := hl i x v hN e hv
 have fin : EP X pins σ Q u s := ⟨v, H, I, r, h⟩
 rcases l with ⟨hk, hm⟩ | ⟨hk, c, hc, hcell⟩
 ·exact wpAny_Name (wpAny_loadName_local I.ok.kind hk hn hm fin) hd
 ·rcases hk with hk | hk
  ·exact wpAny_Name (wpAny_loadName_cell I.ok.kind hk hc hcell fin) hd
  ·exact wpAny_Name (wpAny_loadName_free I.ok.kind hk hc hcell fin hcd) hd
theorem pe_int {i j pos} : PE X (.Constant (.int i) j pos) (tC (.int i)) := fun ψ ψ ψ H ψ I h => wpAny_Constant_int ⟨.int i, H, I.tok _, ⟨_, rfl⟩, h⟩
theorem pe_bl {b j pos} : PE X (.Constant (.bool b) j pos) (tC (.bl b)) := fun ψ ψ ψ H ψ I h => Constant_bool ⟨.bl b, H, I, rfl, h⟩
theorem pe_non {j pos} : PE X (.Constant .none j pos) (tC .non) := fun ψ ψ ψ H ψ I h => Constant_none ⟨.non, H, I, rfl, h⟩
theorem pe_str {x j pos} : PE X (.Constant (.str x) j pos) (tC (.str x)) := fun ψ ψ ψ H ψ I h => Calls.Constant_str ⟨.str x, H, I.tok _, ⟨_, rfl⟩, h⟩
noncomputable def Gl (X : Cx) (x : Str) : Prop := X.env.kindOf x = some .globalImplicit
theorem ld_glob {E : L2.VSP} {pins : L2.AO} {s : Shared} {σ : St} {H : Hp} {x : Str} {u : Value} {pos : Pos} {Q : L2.VSP} (I : Inv X pins σ H s) (hg : Gl X x) (hm : X.mg x = some u) (h : Q u s)
  (hd : (x == ("__debug__" : Str)) = false := by decide) : wpAny (model X.prog X.w) X.A (eval (.Name x pos) X.env) Q E s :=
 Calls.Name_function_global I.ok.kind hg (Calls.loadGlobal_global (by rw [I.ok.glob]; exact I.mod.glob.keeps I.bk) hm h) hd
theorem ld_blt {E : L2.VSP} {pins : L2.AO} {s : Shared} {σ : St} {H : Hp} {x : Str} {u : Value} {pos : Pos} {Q : L2.VSP} (I : Inv X pins σ H s) (hg : Gl X x) (hm : X.mg x = none) (hv : bootBuiltins x = some u) (h : Q u s)
  (hn : x ≠ "__name__" := by decide) (hd : (x == ("__debug__" : Str)) = false := by decide) : wpAny (model X.prog X.w) X.A (eval (.Name x pos) X.env) Q E s := by
 obtain ⟨mb, h1, h2⟩ := I.mod.blt
 exact Calls.Name_function_global I.ok.kind hg (Calls.loadGlobal_builtin (by rw [I.ok.glob]; exact I.mod.glob.keeps I.bk) hm (by rw [I.ok.blt]; exact h1.keeps I.bk) ((h2 x hn).trans hv) h) hd
theorem pe_glob {x : Str} {v : V} {u : Value} {pos : Pos} (hg : Gl X x) (hm : X.mg x = some u) (r : RelV v u) (hd : (x == ("__debug__" : Str)) = false := by decide) : PE X (.Name x pos) (tC v) :=
 fun ψ ψ ψ H ψ I h => ld_glob I hg hm ⟨v, H, I, r, h⟩ hd
theorem pe_bltn {x : Str} {v : V} {u : Value} {pos : Pos} (hg : Gl X x) (hm : X.mg x = none) (hv : bootBuiltins x = some u) (r : RelV v u) (hn : x ≠ "__name__" := by decide) (hd : (x == ("__debug__" : Str)) = false := by decide) : PE X (.Name x pos) (tC v) :=
 fun ψ ψ ψ H ψ I h => ld_blt I hg hm hv ⟨v, H, I, r, h⟩ hn hd
variable {a b : Expr} {ta tb : TE} {pos : Pos}
noncomputable def PC (X : Cx) (op : CmpOp) (a b : Expr) (t : TE) : Prop :=
 ∀ (pins : L2.AO) (s : Shared) (σ : St) (H : Hp) (Q : VK), Inv X pins σ H s → t σ H Q →
  wpAny (model X.prog X.w) X.A (eval a X.env) (fun v s₁ => wpAny (model X.prog X.w) X.A (eval b X.env) (fun u s₂ => wpAny (model X.prog X.w) X.A (compareOp op v u) (EP X pins σ Q) X.xe s₂) X.xe s₁) X.xe s
theorem nobehind (b : Expr) {op : CmpOp} (h : op ≠ .In) (h2 : op ≠ .NotIn) : behindInMarks op b = false := by
 have e1 : (op == CmpOp.In) = false := by cases op <;> first | rfl | exact absurd rfl h
 have e2 : (op == CmpOp.NotIn) = false := by cases op <;> first | rfl | exact absurd rfl h2
 cases b <;> simp [behindInMarks, e1, e2]
noncomputable def tB (t : TE) : TT := fun σ H Q => t σ H fun x H1 => ∃ c, x = .bl c ∧ Q c H1
theorem pe_cmp {op : CmpOp} {t : TE} (h : PC X op a b t) (h1 : behindInMarks op b = false := by first | exact nobehind _ (by decide) (by decide) | rfl) : PE X (.Compare a [op] [b] pos) t := fun pins s σ H Q I hw => wpAny_Compare1 (h pins s σ H Q I hw) h1
theorem pt_cmp {op : CmpOp} {t : TE} (h : PC X op a b t) (h1 : behindInMarks op b = false := by first | exact nobehind _ (by decide) (by decide) | rfl) : PT X (.Compare a [op] [b] pos) (tB t) := by
 intro pins s σ H Q I hw
 refine wpAny_isTrue_Compare1 (thn (h pins s σ H _ I hw) fun v s1 h1 => thn h1 fun u s2 h2 => thn h2 fun c s3 ⟨x, H1, I1, r1, q1⟩ => ?_) h1
 obtain ⟨d, rfl, q⟩ := q1
 cases r1
 exact wpAny_truthy_bool ⟨H1, I1, q⟩
theorem pt_val {e : Expr} {t : TE} (h : PE X e t) (he : ∀ whole, isTrue e X.env whole = (do let v ← whole; standAt e.pos; holding [v] (truthy v)) := by intro ψ; rfl) : PT X e (tB t) := by
 intro pins s σ H Q I hw
 refine isTrue_plain (thn (h pins s σ H _ I hw) fun v s1 ⟨x, H1, I1, r1, q1⟩ => ?_) (he _)
 obtain ⟨d, rfl, q⟩ := q1
 cases r1
 exact wpAny_truthy_bool ⟨H1, I1, q⟩
variable {tA tB' : TT} {rest : List Expr}
noncomputable def tAnd (t u : TT) : TT := fun σ H Q => t σ H fun c H1 => if c = true then u σ H1 Q else Q false H1
noncomputable def tOr (t u : TT) : TT := fun σ H Q => t σ H fun c H1 => if c = true then Q true H1 else u σ H1 Q
noncomputable def tNot (t : TT) : TT := fun σ H Q => t σ H fun c H1 => Q (!c) H1
theorem pw_and1 (ha : PT X a tA) : PW X (.BoolOp .And [a] pos) tA := by
 intro wh pins s σ H Q I h
 refine isTrue_and (thn (ha pins s σ H Q I h) fun c s1 e => ?_)
 cases c with
 | true => exact isTrue_and_nil e
 | false => exact e
theorem pw_or1 (ha : PT X a tA) : PW X (.BoolOp .Or [a] pos) tA := by
 intro wh pins s σ H Q I h
 refine isTrue_or (thn (ha pins s σ H Q I h) fun c s1 e => ?_)
 cases c with
 | false => exact isTrue_or_nil e
 | true => exact e
theorem pw_and (ha : PT X a tA) (hb : PW X (.BoolOp .And (b :: rest) pos) tB') : PW X (.BoolOp .And (a :: b :: rest) pos) (tAnd tA tB') := by
 intro wh pins s σ H Q I h
 refine isTrue_and (thn (ha pins s σ H _ I h) fun c s1 ⟨H1, I1, q1⟩ => ?_)
 cases c with
 | true => exact hb wh pins s1 σ H1 Q I1 q1
 | false => exact ⟨H1, I1, q1⟩
theorem pw_or (ha : PT X a tA) (hb : PW X (.BoolOp .Or (b :: rest) pos) tB') : PW X (.BoolOp .Or (a :: b :: rest) pos) (tOr tA tB') := by
 intro wh pins s σ H Q I h
 refine isTrue_or (thn (ha pins s σ H _ I h) fun c s1 ⟨H1, I1, q1⟩ => ?_)
 cases c with
 | true => exact ⟨H1, I1, q1⟩
 | false => exact hb wh pins s1 σ H1 Q I1 q1
theorem pt_not (ha : PT X a tA) : PT X (.UnaryOp .Not a pos) (tNot tA) := by
 intro pins s σ H Q I h
 exact isTrue_not (ha pins s σ H (fun c H1 => Q (!c) H1) I h)
noncomputable def tAndV (ta tb : TE) : TE := fun σ H Q => ta σ H fun x H1 => ∃ c, x = .bl c ∧ if c = true then tb σ H1 Q else Q (.bl false) H1
theorem pe_one {op} {t : TE} (h : PE X a t) : PE X (.BoolOp op [a] pos) t := fun pins s σ H Q I hw => BoolOp_one (h pins s σ H Q I hw)
theorem pe_and (ha : PE X a ta) (hb : PE X (.BoolOp .And (b :: rest) pos) tb) : PE X (.BoolOp .And (a :: b :: rest) pos) (tAndV ta tb) := by
 intro pins s σ H Q I h
 refine BoolOp_and (thn (ha pins s σ H _ I h) fun v s1 ⟨x, H1, I1, r1, q1⟩ => ?_)
 obtain ⟨c, rfl, q1⟩ := q1
 cases r1
 refine wpAny_truthy_bool ?_
 cases c with
 | true => exact hb pins s1 σ H1 Q I1 q1
 | false => exact ⟨.bl false, H1, I1, rfl, q1⟩
noncomputable def tIf (t : TT) (ta tb : TE) : TE := fun σ H Q => t σ H fun c H1 => if c = true then ta σ H1 Q else tb σ H1 Q
theorem pe_ifExp {c : Expr} (hc : PT X c tA) (ha : PE X a ta) (hb : PE X b tb) : PE X (.IfExp c a b pos) (tIf tA ta tb) := by
 intro pins s σ H Q I h
 refine wpAny_IfExp (thn (hc pins s σ H _ I h) fun d s1 ⟨H1, I1, q1⟩ => ?_)
 cases d with
 | true => exact ha pins s1 σ H1 Q I1 q1
 | false => exact hb pins s1 σ H1 Q I1 q1
end
noncomputable def SqL (K : L2.Fg) (H : Hp) (a : Addr) (xs : List V) : Prop :=
 Rd H a (.lst xs) ∨
  ∃ (o : Obj) (its : Array Value) (n : Nat), K.lookup a = some o ∧ o.cls = .type "list" ∧ o.dict = none ∧ o.data = .seq its n ∧ its.size ≤ sizeLine ∧ Vals xs its.toList
noncomputable def SqT (K : L2.Fg) (H : Hp) (a : Addr) (xs : List V) : Prop :=
 Rd H a (.tup xs) ∨
  ∃ (o : Obj) (its : Array Value) (n : Nat), K.lookup a = some o ∧ o.cls = .type "tuple" ∧ o.data = .seq its n ∧ its.size ≤ sizeLine ∧ Vals xs its.toList
noncomputable def absV : Value → Option V
 | .none => some .non
 | .bool b => some (.bl b)
 | .int i _ => some (.int i)
 | .str x _ => some (.str x)
 | .bytes b _ => some (.byt b)
 | .float b _ => some (.flt b)
 | .ref a => some (.ref a)
 | .type n => some (.ty n)
 | _ => none
theorem RelV.abs {x : V} {u : Value} (r : RelV x u) : absV u = some x := by
 cases x with
 | non => cases r; rfl
 | bl _ => cases r; rfl
 | int _ => obtain ⟨t, rfl⟩ := r; rfl
 | str _ => obtain ⟨t, rfl⟩ := r; rfl
 | byt _ => obtain ⟨t, rfl⟩ := r; rfl
 | flt _ => obtain ⟨t, rfl⟩ := r; rfl
 | ref _ => cases r; rfl
 | ty _ => cases r; rfl
theorem RelV.inj {x y : V} {u : Value} (r : RelV x u) (q : RelV y u) : x = y := Option.some.inj (r.abs.symm.trans q.abs)
theorem Vals.inj : ∀ {xs ys : List V} {us : List Value}, Vals xs us → Vals ys us → xs = ys
 | _, _, _, .nil, .nil => rfl
 | _, _, _, .cons r t, .cons r' t' => by rw [r.inj r', Vals.inj t t']
section
variable {X : Cx} {pins : L2.AO} {σ : St} {H : Hp} {s : Shared} {a : Addr} {xs ys : List V}
theorem SqL.of {K : L2.Fg} (h : H a = some (.lst xs)) : SqL K H a xs := .inl (.inl h)
theorem SqT.of {K : L2.Fg} (h : H a = some (.tup xs)) : SqT K H a xs := .inl (.inl h)
theorem Inv.list (I : Inv X pins σ H s) (h : SqL X.K H a xs) : ∃ its : List Value, Vals xs its ∧ PlainL s.heap a its.toArray ∧ xs.length ≤ sizeLine := by
 rcases h with h | ⟨o, its, n, hk, hc, hd, hs, hz, r⟩
 ·obtain ⟨z, its, n, r, e⟩ := h.ok I.hok
  exact ⟨its, r, ⟨_, n, e, rfl, rfl, rfl⟩, z⟩
 ·refine ⟨its.toList, r, ⟨o, n, I.kIn a o hk, hc, hd, by simpa using hs⟩, ?_⟩
  have e := r.length
  simp only [Array.length_toList] at e
  omega
theorem Inv.tuple (I : Inv X pins σ H s) (h : SqT X.K H a xs) : ∃ its : List Value, Vals xs its ∧ IsTup s.heap a its.toArray ∧ xs.length ≤ sizeLine := by
 rcases h with h | ⟨o, its, n, hk, hc, hs, hz, r⟩
 ·obtain ⟨z, its, r, p⟩ := h.ok I.hok
  exact ⟨its, r, p, z⟩
 ·refine ⟨its.toList, r, ⟨o, I.kIn a o hk, hc, n, by simpa using hs⟩, ?_⟩
  have e := r.length
  simp only [Array.length_toList] at e
  omega
theorem Inv.list_inj (I : Inv X pins σ H s) (h : SqL X.K H a xs) (h' : SqL X.K H a ys) : xs = ys := by
 obtain ⟨its, r, ⟨o, n, e, _, _, d⟩, _⟩ := I.list h
 obtain ⟨its', r', ⟨o', n', e', _, _, d'⟩, _⟩ := I.list h'
 rw [e] at e'; cases e'
 rw [d] at d'
 injection d' with d1 _
 have : its = its' := by simpa using congrArg Array.toList d1
 subst this
 exact r.inj r'
theorem Inv.tuple_inj (I : Inv X pins σ H s) (h : SqT X.K H a xs) (h' : SqT X.K H a ys) : xs = ys := by
 obtain ⟨its, r, ⟨o, e, _, n, d⟩, _⟩ := I.tuple h
 obtain ⟨its', r', ⟨o', e', _, n', d'⟩, _⟩ := I.tuple h'
 rw [e] at e'; cases e'
 rw [d] at d'
 injection d' with d1 _
 have : its = its' := by simpa using congrArg Array.toList d1
 subst this
 exact r.inj r'
end
noncomputable abbrev Cx.wish (X : Cx) (E : L2.VSP) : Cx := { X with xe := E }
noncomputable abbrev Cx.nox (X : Cx) : Cx := X.wish fun ψ ψ => False
theorem Cx.Ok.wish {X : Cx} (ok : X.Ok) (E : L2.VSP) : (X.wish E).Ok :=
 ⟨ok.mod, ok.kind, ok.glob, ok.blt, ok.above, ok.inj, ok.has, ok.cab, ok.hd, ok.frames, ok.stk, ok.exf, ok.bs, ok.bsz, ok.noex, ok.exfs, ok.funs, ok.frf⟩
theorem Cx.Ok.unwish {X : Cx} {E : L2.VSP} (ok : (X.wish E).Ok) : X.Ok :=
 ⟨ok.mod, ok.kind, ok.glob, ok.blt, ok.above, ok.inj, ok.has, ok.cab, ok.hd, ok.frames, ok.stk, ok.exf, ok.bs, ok.bsz, ok.noex, ok.exfs, ok.funs, ok.frf⟩
section
variable {X : Cx} {pins : L2.AO} {σ : St} {H : Hp} {s : Shared} {E : L2.VSP}
theorem Inv.wish (I : Inv X pins σ H s) (E : L2.VSP) : Inv (X.wish E) pins σ H s := ⟨I.ok.wish E, I.os, I.bare, I.base, I.loc, I.cell, I.free, I.freeC, I.pin, I.hok, I.len⟩
theorem Inv.unwish (I : Inv (X.wish E) pins σ H s) : Inv X pins σ H s := ⟨I.ok.unwish, I.os, I.bare, I.base, I.loc, I.cell, I.free, I.freeC, I.pin, I.hok, I.len⟩
theorem SP.unwish {D : Ends} {f : Flow} {s' : Shared} (h : SP (X.wish E) pins D f s') : SP X pins D f s' := by
 cases f with
 | next => obtain ⟨σ', H', I, q⟩ := h; exact ⟨σ', H', I.unwish, q⟩
 | brk => obtain ⟨σ', H', I, q⟩ := h; exact ⟨σ', H', I.unwish, q⟩
 | cont => obtain ⟨σ', H', I, q⟩ := h; exact ⟨σ', H', I.unwish, q⟩
 | ret u => obtain ⟨v, σ', H', I, r, q⟩ := h; exact ⟨v, σ', H', I.unwish, r, q⟩
theorem PE.nox {e : Expr} {t : TE} (h : PE X.nox e t) : PE X e t := fun pins s σ H Q I hw =>
 wpAny_mono (h pins s σ H Q (I.wish _) hw) (fun _ _ ⟨v, H', I', r, q⟩ => ⟨v, H', I'.unwish, r, q⟩) fun ψ ψ z => False.elim z
theorem PT.nox {e : Expr} {t : TT} (h : PT X.nox e t) : PT X e t := fun pins s σ H Q I hw =>
 wpAny_mono (h pins s σ H Q (I.wish _) hw) (fun _ _ ⟨H', I', q⟩ => ⟨H', I'.unwish, q⟩) fun ψ ψ z => False.elim z
theorem PSs.nox {st : List Stmt} {t : TS} (h : PSs X.nox st t) : PSs X st t := fun pins s σ H D I hw =>
 wpAny_mono (h pins s σ H D (I.wish _) hw) (fun ψ ψ q => q.unwish) fun ψ ψ z => False.elim z
end
section
variable {X : Cx} {st : Stmt} {rest : List Stmt} {t u : TS} {e : Expr} {te : TE} {pos : Pos}
noncomputable def tNext : TS := fun D σ H => D.nx σ H
noncomputable def tSeq (t u : TS) : TS := fun D σ H => t { D with nx := u D } σ H
theorem pss_nil : PSs X [] tNext := fun ψ ψ σ H ψ I h => wpAny_execs_nil ⟨σ, H, I, h⟩
theorem pss_cons (h1 : PS X st t) (h2 : PSs X rest u) : PSs X (st :: rest) (tSeq t u) := by
 intro pins s σ H D I h
 refine wpAny_execs_cons (thn (h1 pins s σ H { D with nx := u D } I h) fun f s1 q => ?_)
 cases f with
 | next =>
  obtain ⟨σ', H', I', q⟩ := q
  exact h2 pins s1 σ' H' D I' q
 | ret v => exact q
 | brk => exact q
 | cont => exact q
theorem pss_one (h1 : PS X st t) : PSs X [st] t := by
 intro pins s σ H D I h
 refine wpAny_execs_cons (thn (h1 pins s σ H D I h) fun f s1 q => ?_)
 cases f with
 | next => exact wpAny_execs_nil q
 | ret v => exact q
 | brk => exact q
 | cont => exact q
theorem Inv.quiet {pins : L2.AO} {σ : St} {H : Hp} {s : Shared} (I : Inv X pins σ H s) : interactive X.env = false := by simp [interactive, I.ok.kind]
noncomputable def tDrop (te : TE) : TS := fun D σ H => te σ H fun ψ H1 => D.nx σ H1
theorem ps_expr (he : PE X e te) (hs : swapsWith e none pos.line X.env = pure false := by rfl) : PS X (.Expr e pos) (tDrop te) := by
 intro pins s σ H D I h
 exact wpAny_Expr_any (thn (he pins s σ H _ I h) fun v s1 ⟨x, H1, I1, r1, q1⟩ => ⟨σ, H1, I1, q1⟩) I.quiet hs
noncomputable def tRet (te : TE) : TS := fun D σ H => te σ H D.rt
theorem ps_ret (he : PE X e te) : PS X (.Return (some e) pos) (tRet te) := by
 intro pins s σ H D I h
 exact wpAny_Return_some (thn (he pins s σ H _ I h) fun v s1 ⟨x, H1, I1, r1, q1⟩ => ⟨x, σ, H1, I1, r1, q1⟩)
noncomputable def tIfS (c : TT) (t u : TS) : TS := fun D σ H => c σ H fun b H1 => if b = true then t D σ H1 else u D σ H1
theorem ps_if {c : Expr} {a b : List Stmt} {tc : TT} (hc : PT X c tc) (ha : PSs X a t) (hb : PSs X b u) : PS X (.If c a b pos) (tIfS tc t u) := by
 intro pins s σ H D I h
 refine wpAny_If (thn (hc pins s σ H _ I h) fun d s1 ⟨H1, I1, q1⟩ => ?_)
 cases d with
 | true => exact ha pins s1 σ H1 D I1 q1
 | false => exact hb pins s1 σ H1 D I1 q1
end
noncomputable abbrev TG := V → St → Hp → (St → Hp → Prop) → Prop
noncomputable abbrev TGs := List V → St → Hp → (St → Hp → Prop) → Prop
noncomputable def PG (X : Cx) (target : Expr) (t : TG) : Prop :=
 ∀ (pins : L2.AO) (s : Shared) (σ : St) (H : Hp) (v : V) (u : Value) (Q : St → Hp → Prop), Inv X pins σ H s → RelV v u → t v σ H Q →
  wpAny (model X.prog X.w) X.A (assign target X.env u) (fun ψ s' => ∃ σ' H', Inv X pins σ' H' s' ∧ Q σ' H') X.xe s
noncomputable def PGs (X : Cx) (ts : List Expr) (t : TGs) : Prop :=
 ∀ (pins : L2.AO) (s : Shared) (σ : St) (H : Hp) (vs : List V) (us : List Value) (Q : St → Hp → Prop), Inv X pins σ H s → Vals vs us → t vs σ H Q →
  wpAny (model X.prog X.w) X.A (assignInOrder ((assignEach ts X.env).map (·.2)) us) (fun ψ s' => ∃ σ' H', Inv X pins σ' H' s' ∧ Q σ' H') X.xe s
noncomputable abbrev TIp := V → V → Hp → VK → Prop
noncomputable def PIp (X : Cx) (op : Operator) (t : TIp) : Prop :=
 ∀ (pins : L2.AO) (s : Shared) (σ : St) (H : Hp) (x y : V) (v u : Value) (Q : VK), Inv X pins σ H s → RelV x v → RelV y u → t x y H Q →
  wpAny (model X.prog X.w) X.A (inplaceOp op v u) (EP X pins σ Q) X.xe s
section
variable {X : Cx} {pos : Pos}
noncomputable def gName (i : Nat) : TG := fun v σ H Q => Q (σ.set i (some v)) H
theorem pg_name {i : Nat} {x : Str} (hN : X.N.Nodup) (hi : X.N[i]? = some x) (hx : Loc X.env.scope x) (hf : X.fn x = true ∨ X.env.scope.names.lookup x = some .local := by first | exact .inl rfl | exact .inr rfl | assumption) : PG X (.Name x pos) (gName i) := by
 intro pins s σ H v u Q I r h
 exact wpAny_assign_Name (store_ok I hN hi hx r (fun s' I' => ⟨_, H, I', h⟩) hf)
noncomputable def gNil : TGs := fun vs σ H Q => vs = [] ∧ Q σ H
noncomputable def gCons (t : TG) (u : TGs) : TGs := fun vs σ H Q => ∃ v r, vs = v :: r ∧ t v σ H fun σ' H' => u r σ' H' Q
theorem pgs_nil : PGs X [] gNil := by
 intro pins s σ H vs us Q I r h
 obtain ⟨e, h⟩ := h
 subst e
 cases r
 exact assignInOrder_nil ⟨σ, H, I, h⟩
theorem pgs_cons {e : Expr} {es : List Expr} {t : TG} {u : TGs} (h1 : PG X e t) (h2 : PGs X es u)
  (hs : (assignEach (e :: es) X.env).map (·.2) = assign e X.env :: (assignEach es X.env).map (·.2) := by rfl) : PGs X (e :: es) (gCons t u) := by
 intro pins s σ H vs us Q I r h
 obtain ⟨v, vr, e1, h⟩ := h
 subst e1
 cases r with
 | cons r rr =>
  rw [hs]
  refine assignInOrder_cons (thn (h1 pins s σ H _ _ _ I r h) fun _ s1 ⟨σ1, H1, I1, q1⟩ => ?_)
  exact h2 pins s1 σ1 H1 _ _ Q I1 rr q1
noncomputable def gTup (K : L2.Fg) (n : Nat) (t : TGs) : TG := fun v σ H Q => ∃ a xs, v = .ref a ∧ SqT K H a xs ∧ xs.length = n ∧ t xs σ H Q
theorem pg_tup {es : List Expr} {k : Nat} {t : TGs} {n : Nat} (hc : X.calm = true) (h : PGs X es t)
  (hn : (assignEach es X.env).length = n := by rfl) (hst : (assignEach es X.env).findIdx? (·.1) = none := by rfl) : PG X (.Tuple es k pos) (gTup X.K n t) := by
 intro pins s σ H v u Q I r hw
 obtain ⟨a, xs, e1, hq, hl, hw⟩ := hw
 subst e1
 cases r
 obtain ⟨its, rv, ht, hz⟩ := I.tuple hq
 refine assign_Tuple_tuple (I.ok.hd hc) ht (by simp [hn, ← hl, rv.length]) hst fun h' hx => ?_
 have I1 : Inv X pins σ H { s with heap := h' } := I.kept (t' := s.toks) fun b o e => hx b o (Nat.ne_of_lt (Heap.lt_size e)) e
 exact h pins _ σ H xs _ Q I1 (by simpa using rv) hw
noncomputable def tAsg (te : TE) (g : TG) : TS := fun D σ H => te σ H fun x H1 => g x σ H1 D.nx
theorem ps_asg {tg e : Expr} {te : TE} {g : TG} (he : PE X e te) (hg : PG X tg g) (hs : swapsWithSole [tg] e pos.line X.env = pure false := by rfl) (hw : swappedStores [tg] e X.env = pure none := by rfl)
  (h1 : (assignEach [tg] X.env).map (·.2) = [assign tg X.env] := by rfl) : PS X (.Assign [tg] e pos) (tAsg te g) := by
 intro pins s σ H D I h
 refine wpAny_Assign_stores (thn (he pins s σ H _ I h) fun v s1 ⟨x, H1, I1, r1, q1⟩ => ?_) hs hw
 rw [h1]
 exact thn (hg pins s1 σ H1 x v _ I1 r1 q1) fun ψ s2 q => q
theorem ps_set {i : Nat} {x : Str} {e : Expr} {te : TE} {pos' : Pos} (hN : X.N.Nodup) (hi : X.N[i]? = some x) (hx : Loc X.env.scope x) (he : PE X e te) (hs : swapsWith e (some (.Name x pos')) pos.line X.env = pure false := by rfl) (hf : X.fn x = true ∨ X.env.scope.names.lookup x = some .local := by first | exact .inl rfl | exact .inr rfl | assumption) :
  PS X (.Assign [.Name x pos'] e pos) (tAsg te (gName i)) := by
 intro pins s σ H D I h
 refine wpAny_Assign_Name (thn (he pins s σ H _ I h) fun v s1 ⟨y, H1, I1, r1, q1⟩ => ?_) hs
 exact store_ok I1 hN hi hx r1 (fun s2 I2 => ⟨_, H1, I2, q1⟩) hf
noncomputable def tAug (i : Nat) (te : TE) (ti : TIp) : TS := fun D σ H => ∃ x, σ[i]? = some (some x) ∧ te σ H fun y H1 => ti x y H1 fun z H2 => D.nx (σ.set i (some z)) H2
theorem ps_aug {i : Nat} {x : Str} {e : Expr} {te : TE} {op : Operator} {ti : TIp} {pos' : Pos} (hN : X.N.Nodup) (hi : X.N[i]? = some x) (hx : Loc X.env.scope x) (he : PE X e te) (ho : PIp X op ti) (hf : X.fn x = true ∨ X.env.scope.names.lookup x = some .local := by first | exact .inl rfl | exact .inr rfl | assumption) :
  PS X (.AugAssign (.Name x pos') op e pos) (tAug i te ti) := by
 intro pins s σ H D I h
 obtain ⟨v, e1, h⟩ := h
 obtain ⟨m, hn, hl⟩ := I.loc
 have vis : Vis X.env.scope x := by rcases hx with k | k; exact .inl k; exact .inr (.inl k)
 obtain ⟨u, r, l⟩ := hl i x v hi e1 vis
 refine wpAny_AugAssign_Name ?_
 have go : wpAny (model X.prog X.w) X.A (eval e X.env) (fun w s₂ => wpAny (model X.prog X.w) X.A (inplaceOp op u w) (fun r s₃ => wpAny (model X.prog X.w) X.A (storeName X.env x r) (fun ψ => SP X pins D .next) X.xe s₃) X.xe s₂) X.xe s := by
  refine thn (he pins s σ H _ I h) fun w s1 ⟨y, H1, I1, r1, q1⟩ => ?_
  refine thn (ho pins s1 σ H1 v y u w _ I1 r r1 q1) fun z s2 ⟨zv, H2, I2, r2, q2⟩ => ?_
  exact store_ok I2 hN hi hx r2 (fun s3 I3 => ⟨_, H2, I3, q2⟩) hf
 rcases l with ⟨hk, hm⟩ | ⟨hk, c, hc, hcell⟩
 ·exact wpAny_loadName_local I.ok.kind hk hn hm go
 ·rcases hk with hk | hk
  ·exact wpAny_loadName_cell I.ok.kind hk hc hcell go
  ·rcases hx with k | k
   ·have : X.env.scope.names.lookup x = some .free := hk
    rw [k] at this; cases this
   ·have : X.env.scope.names.lookup x = some .free := hk
    rw [k] at this; cases this
end
structure It where
 go : Nat → Hp → Prop
 yld : Nat → Hp → V → Hp → Prop
 stop : Nat → Hp → Prop
noncomputable def FpOk (X : Cx) (pins : L2.AO) (H : Hp) (b : Addr) : Prop :=
 H b = none ∧ b ≠ X.env.locals ∧ b ∉ X.fs ∧ (b ∈ X.ex ∨ X.s₀.heap.objs.size ≤ b) ∧ (∀ x c, X.env.cells.lookup x = some c → c ≠ b) ∧ ∀ p ∈ X.pn ++ pins, p.1 ≠ b
theorem Inv.fpOk {X : Cx} {pins : L2.AO} {σ : St} {H H' : Hp} {s : Shared} {b : Addr} (I : Inv X pins σ H s) (hb : s.heap.objs.size ≤ b) (hn : H' b = none) : FpOk X pins H' b := by
 refine ⟨hn, Nat.ne_of_gt (Nat.lt_of_lt_of_le I.lt hb), I.nofs hb, .inr (Nat.le_trans I.sz hb), fun x c e z => ?_, fun p hp z => ?_⟩
 ·obtain ⟨v, q⟩ := I.cell x c e
  exact absurd (Nat.lt_of_lt_of_le q.lt (by rw [z]; exact hb)) (Nat.lt_irrefl _)
 ·exact absurd (Nat.lt_of_lt_of_le (Heap.lt_size (I.pin p hp).1) (by rw [z]; exact hb)) (Nat.lt_irrefl _)
structure Turn (P : Program) (w : World) (K : L2.Fg) (tg : Expr) (J : It) (fp : List Addr) (it : Addr) (tn : Nat → Heap → Prop) : Prop where
 mem : it ∈ fp
 obj : ∀ i h, tn i h → ∀ b ∈ fp, ∃ o, h.get? b = some o ∧ ∀ v, o.data ≠ .cell v
 keep : ∀ i h h', tn i h → (∀ b ∈ fp, ∀ o, h.get? b = some o → h'.get? b = some o) → tn i h'
 item : ∀ (X : Cx), X.prog = P → X.w = w → X.K = K → X.calm = true → ∀ (i : Nat) (pins : L2.AO) (s : Shared) (σ : St) (H : Hp) (E : L2.VSP), Inv X pins σ H s → (∀ b ∈ fp, FpOk X pins H b) → tn i s.heap → J.go i H →
  wpAny (model P w) X.A (pyNext (.ref it)) (fun r s1 => ∃ u, r = some u ∧
   wpAny (model P w) X.A (letOwnedTupleGo tg (.ref it) u) (fun ψ s2 => ∃ x H', Inv X pins σ H' s2 ∧ RelV x u ∧ J.yld i H x H' ∧ tn (i + 1) s2.heap ∧ ∀ b ∈ fp, H' b = none) E s1) E s
 done : ∀ (X : Cx), X.prog = P → X.w = w → X.K = K → X.calm = true → ∀ (i : Nat) (pins : L2.AO) (s : Shared) (σ : St) (H : Hp) (E : L2.VSP), Inv X pins σ H s → (∀ b ∈ fp, FpOk X pins H b) → tn i s.heap → J.stop i H →
  wpAny (model P w) X.A (pyNext (.ref it)) (fun r s1 => r = none ∧ Inv X pins σ H s1) E s
 self : ∀ (A : Around) (i : Nat) (s : Shared) (Q : L2.VSP) (E : L2.VSP), tn i s.heap → Q (.ref it) s → wpAny (model P w) A (pyIter (.ref it)) Q E s
noncomputable abbrev TI := St → Hp → (It → Hp → Prop) → Prop
noncomputable def PIE (X : Cx) (pins : L2.AO) (σ : St) (tg : Expr) (R : It → Hp → Prop) (itv : Value) (s2 : Shared) : Prop :=
 ∃ (it : Addr) (fp : List Addr) (tn : Nat → Heap → Prop) (J : It) (H' : Hp), itv = .ref it ∧ Inv X pins σ H' s2 ∧ Turn X.prog X.w X.K tg J fp it tn ∧ tn 0 s2.heap ∧ (∀ b ∈ fp, FpOk X pins H' b) ∧ R J H'
noncomputable def PI (X : Cx) (tg iter : Expr) (wi : TI) : Prop :=
 ∀ (pins : L2.AO) (s : Shared) (σ : St) (H : Hp) (R : It → Hp → Prop), Inv X pins σ H s → wi σ H R →
  wpAny (model X.prog X.w) X.A (eval iter X.env) (fun v s1 => wpAny (model X.prog X.w) X.A (pyIter v) (PIE X pins σ tg R) X.xe s1) X.xe s
theorem go_of {M : Model} {A : Around} {E : L2.VSP} {s : Shared} {tg : Expr} {it : Addr} {u : Value} {o : Obj} {n : String} {vs : Array Value} {Q : Unit → Shared → Prop} (ho : s.heap.get? it = some o) (hc : o.cls = .type n) (hd : o.data = .fields vs)
  (hn : ["enumerate", "zip", "dict_itemiterator", "dict_reverseitemiterator", "odict_iterator", "itertools.zip_longest", "itertools.pairwise"].contains n = false) (hQ : Q () s) : wpAny M A (letOwnedTupleGo tg (.ref it) u) Q E s := by
 unfold letOwnedTupleGo
 cases tg <;> first
  | exact wpAny_pure hQ
  | (cases u <;> first
    | exact wpAny_pure hQ
    | (refine wpAny_bind (wpAny_load ho ?_)
       rw [hc, hd]
       show wpAny M A (if (["enumerate", "zip", "dict_itemiterator", "dict_reverseitemiterator", "odict_iterator", "itertools.zip_longest", "itertools.pairwise"].contains n && vs[0]? == some (rawInt _)) = true then _ else _) Q E s
       rw [if_neg (by intro h; rw [hn, Bool.false_and] at h; cases h)]
       exact wpAny_pure hQ))
noncomputable def Itl (K : L2.Fg) (a : Addr) : It :=
 ⟨fun i H => ∃ xs x, SqL K H a xs ∧ xs[i]? = some x, fun i H x H' => H' = H ∧ ∀ xs, SqL K H a xs → xs[i]? = some x, fun i H => ∃ xs, SqL K H a xs ∧ xs.length ≤ i⟩
noncomputable def Itt (K : L2.Fg) (a : Addr) : It :=
 ⟨fun i H => ∃ xs x, SqT K H a xs ∧ xs[i]? = some x, fun i H x H' => H' = H ∧ ∀ xs, SqT K H a xs → xs[i]? = some x, fun i H => ∃ xs, SqT K H a xs ∧ xs.length ≤ i⟩
noncomputable def Itr (lo : Int) (n : Nat) : It := ⟨fun i ψ => i < n, fun i H x H' => H' = H ∧ x = .int (lo + i), fun i ψ => n ≤ i⟩
theorem turn_list {P : Program} {w : World} {K : L2.Fg} {tg : Expr} (a it : Addr) : Turn P w K tg (Itl K a) [it] it (fun i h => h.IsListIter it a i) where
 mem := by simp
 obj := fun i h st b hb => by
  have e : b = it := by simpa using hb
  subst e
  obtain ⟨o, e, c, d⟩ := st
  exact ⟨o, e, fun v z => by rw [d] at z; cases z⟩
 keep := fun i h h' st k => st.at fun o e => k it (by simp) o e
 item := by
  intro X hP hw hK hc i pins s σ H E I hf st hg
  subst hP hw hK
  obtain ⟨xs, x, hq, hx⟩ := hg
  obtain ⟨its, rv, p, hz⟩ := I.list hq
  obtain ⟨u, hu, ru⟩ := rv.get hx
  obtain ⟨f0, f1, f2, f3, f4, f5⟩ := hf it (by simp)
  refine wpAny_pyNext_list_item st p.isList (x := u) (by simpa using hu) fun h' st' sb => ?_
  have I1 : Inv X pins σ H { s with heap := h' } := I.turned (t' := s.toks) (fun b o hb e => (sb.2 b hb).trans e) f0 f1 f3 f4 f5
  obtain ⟨o, e, c, d⟩ := id st'
  exact ⟨u, rfl, go_of (s := { s with heap := h' }) e c d (by decide) ⟨x, H, I1, ru, ⟨rfl, fun ys hy => by rw [I.list_inj hy hq]; exact hx⟩, st', fun b hb => (hf b hb).1⟩⟩
 done := by
  intro X hP hw hK hc i pins s σ H E I hf st hg
  subst hP hw hK
  obtain ⟨xs, hq, hx⟩ := hg
  obtain ⟨its, rv, p, hz⟩ := I.list hq
  obtain ⟨f0, f1, f2, f3, f4, f5⟩ := hf it (by simp)
  have hl := rv.length
  exact wpAny_pyNext_list_end (I.ok.hd hc) st p.isList (by simp; omega) fun h' eb => ⟨rfl, I.turned (t' := s.toks) (fun b o hb e => eb b o hb e) f0 f1 f3 f4 f5⟩
 self := fun ψ ψ ψ ψ ψ st h => wpAny_pyIter_listiter st h
theorem turn_tuple {P : Program} {w : World} {K : L2.Fg} {tg : Expr} (a it : Addr) : Turn P w K tg (Itt K a) [it] it (fun i h => h.IsTupleIter it a i) where
 mem := by simp
 obj := fun i h st b hb => by
  have e : b = it := by simpa using hb
  subst e
  obtain ⟨o, e, c, d⟩ := st
  exact ⟨o, e, fun v z => by rw [d] at z; cases z⟩
 keep := fun i h h' st k => st.at fun o e => k it (by simp) o e
 item := by
  intro X hP hw hK hc i pins s σ H E I hf st hg
  subst hP hw hK
  obtain ⟨xs, x, hq, hx⟩ := hg
  obtain ⟨its, rv, p, hz⟩ := I.tuple hq
  obtain ⟨u, hu, ru⟩ := rv.get hx
  obtain ⟨f0, f1, f2, f3, f4, f5⟩ := hf it (by simp)
  refine wpAny_pyNext_tuple_item st (show s.heap.IsTuple a its.toArray from p) (x := u) (by simpa using hu) fun h' st' sb => ?_
  have I1 : Inv X pins σ H { s with heap := h' } := I.turned (t' := s.toks) (fun b o hb e => (sb.2 b hb).trans e) f0 f1 f3 f4 f5
  obtain ⟨o, e, c, d⟩ := id st'
  exact ⟨u, rfl, go_of (s := { s with heap := h' }) e c d (by decide) ⟨x, H, I1, ru, ⟨rfl, fun ys hy => by rw [I.tuple_inj hy hq]; exact hx⟩, st', fun b hb => (hf b hb).1⟩⟩
 done := by
  intro X hP hw hK hc i pins s σ H E I hf st hg
  subst hP hw hK
  obtain ⟨xs, hq, hx⟩ := hg
  obtain ⟨its, rv, p, hz⟩ := I.tuple hq
  obtain ⟨f0, f1, f2, f3, f4, f5⟩ := hf it (by simp)
  have hl := rv.length
  exact wpAny_pyNext_tuple_end (I.ok.hd hc) st (show s.heap.IsTuple a its.toArray from p) (by simp; omega) fun h' eb => ⟨rfl, I.turned (t' := s.toks) (fun b o hb e => eb b o hb e) f0 f1 f3 f4 f5⟩
 self := fun ψ ψ ψ ψ ψ st h => wpAny_pyIter_tupleiter st h
theorem turn_range {P : Program} {w : World} {K : L2.Fg} {tg : Expr} (it : Addr) (lo : Int) (n : Nat) : Turn P w K tg (Itr lo n) [it] it (fun i h => IsRangeIter h it (lo + (i : Nat) * 1) ((n : Int) - (i : Nat)) 1) where
 mem := by simp
 obj := fun i h st b hb => by
  have e : b = it := by simpa using hb
  subst e
  exact ⟨_, st, fun v z => by
   have z' : Data.fields _ = Data.cell v := z
   cases z'⟩
 keep := fun i h h' st k => k it (by simp) _ st
 item := by
  intro X hP hw hK hc i pins s σ H E I hf st hg
  subst hP hw hK
  obtain ⟨f0, f1, f2, f3, f4, f5⟩ := hf it (by simp)
  have W := Walks.range (prog := X.prog) (w := X.w) (I.ok.hd hc) it lo 1 n
  refine W.item i s _ _ hg st fun v h' tk hv st' kk => ?_
  obtain ⟨t, rfl⟩ := hv
  have I1 : Inv X pins σ H { s with heap := h', toks := tk } := I.turned (fun b o hb e => kk b o (by simpa using hb) e) f0 f1 f3 f4 f5
  refine ⟨_, rfl, go_of (s := { s with heap := h', toks := tk }) (n := "range_iterator") st' rfl rfl (by decide) ⟨.int (lo + i), H, I1, ⟨t, ?_⟩, ⟨rfl, rfl⟩, st', fun b hb => (hf b hb).1⟩⟩
  rw [Int.mul_one]
 done := by
  intro X hP hw hK hc i pins s σ H E I hf st hg
  subst hP hw hK
  obtain ⟨f0, f1, f2, f3, f4, f5⟩ := hf it (by simp)
  exact wpAny_pyNext_range_end (I.ok.hd hc) st (by have : n ≤ i := hg; omega) fun h' eb => ⟨rfl, I.turned (t' := s.toks) (fun b o hb e => eb b o hb e) f0 f1 f3 f4 f5⟩
 self := fun ψ ψ ψ ψ ψ st h => wpAny_pyIter_rangeiter st h
section
variable {X : Cx} {tg : Expr}
theorem range_it {pins : L2.AO} {σ : St} {H : Hp} {s : Shared} {R : It → Hp → Prop} {E : L2.VSP} {lo hi : Int} {t u v : Tok} {tk : Nat} (I : Inv X pins σ H s) (h1 : -(2 ^ 62) ≤ lo) (h2 : lo < 2 ^ 62) (h3 : -(2 ^ 62) ≤ hi) (h4 : hi < 2 ^ 62)
  (q : R (Itr lo (hi - lo).toNat) H) : wpAny (model X.prog X.w) X.A (pyIter (.ref s.heap.objs.size)) (PIE X pins σ tg R) E { s with heap := s.heap.push { cls := .type "range", data := .fields #[.int lo t, .int hi u, .int 1 v] }, toks := tk } := by
 refine wpAny_pyIter_range (IsRange.new ..) (small_one h1 h2 h3 h4) ?_
 have I1 : Inv X pins σ H { s with heap := s.heap.push { cls := .type "range", data := .fields #[.int lo t, .int hi u, .int 1 v] }, toks := tk } := I.kept fun b o e => Heap.get?_push_of_some _ e
 refine ⟨(s.heap.push { cls := .type "range", data := .fields #[.int lo t, .int hi u, .int 1 v] }).objs.size, [(s.heap.push { cls := .type "range", data := .fields #[.int lo t, .int hi u, .int 1 v] }).objs.size], _, _, H, rfl,
  I1.kept (t' := tk) fun b o e => Heap.get?_push_of_some _ e, turn_range _ lo (hi - lo).toNat, ?_, fun b hb => ?_, q⟩
 ·have e1 : lo + ((0 : Nat) : Int) * 1 = lo := by simp
  have e2 : (((hi - lo).toNat : Nat) : Int) - ((0 : Nat) : Int) = Builtin.Range.rangeSize lo hi 1 := by rw [rangeSize_one]; split <;> omega
  show IsRangeIter _ _ (lo + ((0 : Nat) : Int) * 1) ((((hi - lo).toNat : Nat) : Int) - ((0 : Nat) : Int)) 1
  rw [e1, e2]
  exact Heap.get?_push_size _ rfl
 ·have e : b = (s.heap.push { cls := .type "range", data := .fields #[.int lo t, .int hi u, .int 1 v] }).objs.size := by simpa using hb
  subst e
  exact I1.fpOk (Nat.le_refl _) (I1.hok.fresh (Nat.le_refl _))
noncomputable def iRng1 (ta : TA) : TI := fun σ H R => ta σ H fun vs H1 => ∃ j : Int, vs = [.int j] ∧ -(2 ^ 62) ≤ j ∧ j < 2 ^ 62 ∧ R (Itr 0 j.toNat) H1
theorem pi_range1 {a : Expr} {ta : TA} {p pos : Pos} (hg : Gl X "range") (hm : X.mg "range" = none) (ha : PA X [a] ta) (hs : starEach [a] X.env = [(false, eval a X.env)] := by rfl) : PI X tg (.Call (.Name "range" p) [a] [] pos) (iRng1 ta) := by
 intro pins s σ H R I h
 refine Call_ (ld_blt I hg hm boot_range (PyProof.Rows.callWith_type1 (thn (ha pos pins s σ H _ I h) fun us s1 ⟨vs, H1, I1, r1, q1⟩ => ?_) hs rfl))
 obtain ⟨j, e, q1, q2, q⟩ := q1
 subst e
 cases r1 with
 | cons r rr =>
  cases rr
  obtain ⟨t, rfl⟩ := r
  exact call_range_1 (range_it I1 (by omega) (by omega) q1 q2 (by simpa using q))
noncomputable def tFor (wi : TI) (g : TG) (tb : TS) : TS := fun D σ H => wi σ H fun J H1 => ∃ W : Nat → Nat → St → Hp → Prop, (∃ m, W 0 m σ H1) ∧ ∀ i m σ H, W i m σ H →
 (J.stop i H ∧ D.nx σ H) ∨ (J.go i H ∧ ∃ N : St → Hp → Prop, (∀ σ' H', N σ' H' → ∃ m', m' < m ∧ W (i + 1) m' σ' H') ∧ ∀ x H', J.yld i H x H' → g x σ H' fun σ2 H2 => tb { D with nx := N, ct := N, bk := D.nx } σ2 H2)
noncomputable def pinsAt (fp : List Addr) (h : Heap) : List (Addr × Obj) := fp.filterMap fun b => (h.get? b).map fun o => (b, o)
theorem mem_pinsAt {fp : List Addr} {h : Heap} {b : Addr} {o : Obj} (hb : b ∈ fp) (e : h.get? b = some o) : (b, o) ∈ pinsAt fp h := List.mem_filterMap.mpr ⟨b, hb, by rw [e]; rfl⟩
theorem of_pinsAt {fp : List Addr} {h : Heap} {p : Addr × Obj} (hp : p ∈ pinsAt fp h) : p.1 ∈ fp ∧ h.get? p.1 = some p.2 := by
 obtain ⟨b, hb, e⟩ := List.mem_filterMap.mp hp
 cases q : h.get? b with
 | none => rw [q] at e; cases e
 | some o =>
  rw [q] at e
  have e' : (b, o) = p := Option.some.inj e
  subst e'
  exact ⟨hb, q⟩
theorem Inv.pinned {pins : L2.AO} {σ : St} {H : Hp} {s : Shared} {fp : List Addr} (I : Inv X pins σ H s) (hf : ∀ b ∈ fp, FpOk X pins H b) (ho : ∀ b ∈ fp, ∃ o, s.heap.get? b = some o ∧ ∀ v, o.data ≠ .cell v) : Inv X (pins ++ pinsAt fp s.heap) σ H s :=
 I.pins_of fun p hp => (List.mem_append.mp hp).elim (fun z => I.pin p (List.mem_append_right _ z)) fun z => by
  obtain ⟨hb, e⟩ := of_pinsAt z
  obtain ⟨f0, f1, f2, _⟩ := hf p.1 hb
  obtain ⟨o, e', d⟩ := ho p.1 hb
  rw [e] at e'; cases e'
  exact ⟨e, f0, f1, f2, d⟩
theorem Inv.unpinned {pins pl : L2.AO} {σ : St} {H : Hp} {s : Shared} (I : Inv X (pins ++ pl) σ H s) : Inv X pins σ H s := I.pins_of fun p hp => I.pin p (List.mem_append_right _ (List.mem_append_left _ hp))
theorem ps_for {iter : Expr} {body : List Stmt} {wi : TI} {g : TG} {tb : TS} {pos : Pos} (hp : PassesOwn (model X.prog X.w) X.A X.env X.xe) (hc : X.calm = true) (hi : PI X tg iter wi) (hg : PG X tg g) (hb : PSs X body tb)
  (hs : ∀ x, foldedSetIterable iter X.env x = pure x := by intro ψ; rfl) : PS X (.For tg iter body [] pos) (tFor wi g tb) := by
 intro pins s σ H D I h
 refine wpAny_For (thn (hi pins s σ H _ I h) fun v s1 h1 => thn h1 fun itv s2 h2 => ?_) hs
 obtain ⟨it, fp, tn, J, H2, e, I2, T, st2, f2, W, ⟨m0, w0⟩, turn⟩ := h2
 subst e
 have stat : ∀ {H' : Hp}, (∀ b ∈ fp, H' b = none) → ∀ b ∈ fp, FpOk X pins H' b := fun hn b hb => ⟨hn b hb, (f2 b hb).2⟩
 refine codeAny_forLoop_any (fun n s' => ∃ i σ' H', Inv X pins σ' H' s' ∧ tn i s'.heap ∧ (∀ b ∈ fp, H' b = none) ∧ W i n σ' H') ?_ m0 ⟨0, σ, H2, I2, st2, fun b hb => (f2 b hb).1, w0⟩
 rintro n s3 ⟨i, σ3, H3, I3, st3, fr3, w3⟩
 rcases turn i n σ3 H3 w3 with ⟨stop, qn⟩ | ⟨go, N, hN, step⟩
 ·refine wpAny_passesOwn hp (thn (T.done X rfl rfl rfl hc i pins s3 σ3 H3 X.xe I3 (stat fr3) st3 stop) fun r s4 ⟨hr, I4⟩ => ?_)
  subst hr
  exact wpAny_execs_nil ⟨σ3, H3, I4, qn⟩
 ·refine wpAny_passesOwn hp (thn (T.item X rfl rfl rfl hc i pins s3 σ3 H3 X.xe I3 (stat fr3) st3 go) fun r s4 ⟨u, hr, h4⟩ => ?_)
  subst hr
  refine wpAny_passesOwn hp (thn h4 fun _ s5 ⟨x, H5, I5, r5, y5, st5, fr5⟩ => ?_)
  have I5' := I5.pinned (stat fr5) (T.obj _ _ st5)
  refine wpAny_passesOwn hp (thn (hg _ s5 σ3 H5 x u _ I5' r5 (step x H5 y5)) fun _ s6 ⟨σ6, H6, I6, q6⟩ => ?_)
  refine wpAny_passesOwn hp (thn (hb _ s6 σ6 H6 _ I6 q6) fun f s7 q7 => ?_)
  have again : ∀ {σ7 : St} {H7 : Hp}, Inv X (pins ++ pinsAt fp s5.heap) σ7 H7 s7 → N σ7 H7 → ∃ m, m < n ∧ ∃ i σ' H', Inv X pins σ' H' s7 ∧ tn i s7.heap ∧ (∀ b ∈ fp, H' b = none) ∧ W i m σ' H' := fun {σ7 H7} I7 n7 => by
   obtain ⟨m', hm, w7⟩ := hN σ7 H7 n7
   refine ⟨m', hm, i + 1, σ7, H7, I7.unpinned, T.keep _ _ _ st5 fun b hb o e => (I7.pin (b, o) (List.mem_append_right _ (List.mem_append_right _ (mem_pinsAt hb e)))).1, fun b hb => ?_, w7⟩
   obtain ⟨o, e, d⟩ := T.obj _ _ st5 b hb
   exact (I7.pin (b, o) (List.mem_append_right _ (List.mem_append_right _ (mem_pinsAt hb e)))).2.1
  cases f with
  | next => obtain ⟨σ7, H7, I7, n7⟩ := q7; exact again I7 n7
  | cont => obtain ⟨σ7, H7, I7, n7⟩ := q7; exact again I7 n7
  | brk => obtain ⟨σ7, H7, I7, q7⟩ := q7; exact ⟨σ7, H7, I7.unpinned, q7⟩
  | ret v => obtain ⟨x7, σ7, H7, I7, r7, q7⟩ := q7; exact ⟨x7, σ7, H7, I7.unpinned, r7, q7⟩
end
noncomputable abbrev R2 := V → V → Hp → VK → Prop
noncomputable def OpR (X : Cx) (f : Value → Value → Sem Value) (r : R2) : Prop :=
 ∀ (pins : L2.AO) (s : Shared) (σ : St) (H : Hp) (x y : V) (v u : Value) (Q : VK), Inv X pins σ H s → RelV x v → RelV y u → r x y H Q →
  wpAny (model X.prog X.w) X.A (f v u) (EP X pins σ Q) X.xe s
noncomputable def UnR (X : Cx) (f : Value → Sem Value) (r : V → Hp → VK → Prop) : Prop :=
 ∀ (pins : L2.AO) (s : Shared) (σ : St) (H : Hp) (x : V) (v : Value) (Q : VK), Inv X pins σ H s → RelV x v → r x H Q →
  wpAny (model X.prog X.w) X.A (f v) (EP X pins σ Q) X.xe s
noncomputable def CallR (X : Cx) (f : Value) (r : List V → Hp → VK → Prop) : Prop :=
 ∀ (pins : L2.AO) (s : Shared) (σ : St) (H : Hp) (xs : List V) (us : List Value) (Q : VK), Inv X pins σ H s → Vals xs us → r xs H Q →
  wpAny (model X.prog X.w) X.A (call f us) (EP X pins σ Q) X.xe s
noncomputable def tOp (r : R2) (ta tb : TE) : TE := fun σ H Q => ta σ H fun x H1 => tb σ H1 fun y H2 => r x y H2 Q
noncomputable def tUn (r : V → Hp → VK → Prop) (ta : TE) : TE := fun σ H Q => ta σ H fun x H1 => r x H1 Q
noncomputable def rI (C : Int → Int → Prop) (g : Int → Int → V) : R2 := fun x y H Q => ∃ i j, x = .int i ∧ y = .int j ∧ C i j ∧ Q (g i j) H
noncomputable def rI0 (g : Int → Int → V) : R2 := fun x y H Q => ∃ i j, x = .int i ∧ y = .int j ∧ Q (g i j) H
noncomputable def rU (g : Int → V) : V → Hp → VK → Prop := fun x H Q => ∃ i, x = .int i ∧ Q (g i) H
section
variable {X : Cx} {a b : Expr} {ta tb : TE} {pos : Pos}
theorem binT (ha : PE X a ta) (hb : PE X b tb) {pins : L2.AO} {s : Shared} {σ : St} {H : Hp} {R : V → V → Hp → Prop} (I : Inv X pins σ H s)
  (h : ta σ H fun x H1 => tb σ H1 fun y H2 => R x y H2) {Q : L2.VSP} {f : Value → Value → Sem Value}
  (hf : ∀ v u s2 x y H2, Inv X pins σ H2 s2 → RelV x v → RelV y u → R x y H2 → wpAny (model X.prog X.w) X.A (f v u) Q X.xe s2) :
  wpAny (model X.prog X.w) X.A (eval a X.env) (fun v s₁ => wpAny (model X.prog X.w) X.A (eval b X.env) (fun u s₂ => wpAny (model X.prog X.w) X.A (f v u) Q X.xe s₂) X.xe s₁) X.xe s := by
 refine thn (ha pins s σ H _ I h) fun v s1 ⟨x, H1, I1, r1, q1⟩ => ?_
 refine thn (hb pins s1 σ H1 _ I1 q1) fun u s2 ⟨y, H2, I2, r2, q2⟩ => ?_
 exact hf v u s2 x y H2 I2 r1 r2 q2
theorem pe_op {op : Operator} {r : R2} (ho : OpR X (binaryOp op) r) (ha : PE X a ta) (hb : PE X b tb) : PE X (.BinOp a op b pos) (tOp r ta tb) := by
 intro pins s σ H Q I h
 exact wpAny_BinOp (binT ha hb I h fun v u s2 x y H2 I2 rx ry q => ho pins s2 σ H2 x y v u Q I2 rx ry q)
theorem pe_un {op : UnaryOp} {r : V → Hp → VK → Prop} (ho : UnR X (unaryOp op) r) (ha : PE X a ta) : PE X (.UnaryOp op a pos) (tUn r ta) := by
 intro pins s σ H Q I h
 exact UnaryOp_ (thn (ha pins s σ H _ I h) fun v s1 ⟨x, H1, I1, r1, q1⟩ => ho pins s1 σ H1 x v Q I1 r1 q1)
theorem opI {f : Value → Value → Sem Value} {C : Int → Int → Prop} {g : Int → Int → Int}
  (rule : ∀ (i j : Int) (t u : Tok) (s : Shared) (Q : L2.VSP) (E : L2.VSP), C i j → Q (.int (g i j) s.toks) { s with toks := s.toks + 1 } → wpAny (model X.prog X.w) X.A (f (.int i t) (.int j u)) Q E s) :
  OpR X f (rI C fun i j => .int (g i j)) := by
 intro pins s σ H x y v u Q I rx ry h
 obtain ⟨i, j, rfl, rfl, hc, q⟩ := h
 obtain ⟨t, rfl⟩ := rx
 obtain ⟨t', rfl⟩ := ry
 exact rule i j t t' s _ _ hc ⟨.int (g i j), H, I.tok _, ⟨_, rfl⟩, q⟩
theorem opI0 {f : Value → Value → Sem Value} {g : Int → Int → Int}
  (rule : ∀ (i j : Int) (t u : Tok) (s : Shared) (Q : L2.VSP) (E : L2.VSP), Q (.int (g i j) s.toks) { s with toks := s.toks + 1 } → wpAny (model X.prog X.w) X.A (f (.int i t) (.int j u)) Q E s) :
  OpR X f (rI0 fun i j => .int (g i j)) := by
 intro pins s σ H x y v u Q I rx ry h
 obtain ⟨i, j, rfl, rfl, q⟩ := h
 obtain ⟨t, rfl⟩ := rx
 obtain ⟨t', rfl⟩ := ry
 exact rule i j t t' s _ _ ⟨.int (g i j), H, I.tok _, ⟨_, rfl⟩, q⟩
theorem opB0 {f : Value → Value → Sem Value} {g : Int → Int → Bool}
  (rule : ∀ (i j : Int) (t u : Tok) (s : Shared) (Q : L2.VSP) (E : L2.VSP), Q (.bool (g i j)) s → wpAny (model X.prog X.w) X.A (f (.int i t) (.int j u)) Q E s) :
  OpR X f (rI0 fun i j => .bl (g i j)) := by
 intro pins s σ H x y v u Q I rx ry h
 obtain ⟨i, j, rfl, rfl, q⟩ := h
 obtain ⟨t, rfl⟩ := rx
 obtain ⟨t', rfl⟩ := ry
 exact rule i j t t' s _ _ ⟨.bl (g i j), H, I, rfl, q⟩
noncomputable def CPow (i j : Int) : Prop := 0 ≤ j ∧ j ≤ 1000000 ∧ i.natAbs < 2 ^ 64
noncomputable def CMul (i j : Int) : Prop := (-(2 ^ 64) < i ∧ i < 2 ^ 64) ∨ (-(2 ^ 64) < j ∧ j < 2 ^ 64)
theorem CMul.ok {i j : Int} (h : CMul i j) : IntMulOk i j := by
 rcases h with ⟨h1, h2⟩ | ⟨h1, h2⟩
 ·exact .of_left (intBits_le_64 h1 h2)
 ·exact .of_right (intBits_le_64 h1 h2)
theorem op_add : OpR X (binaryOp .Add) (rI0 fun i j => .int (i + j)) := opI0 fun ψ ψ ψ ψ ψ ψ ψ q => add_int q
theorem op_sub : OpR X (binaryOp .Sub) (rI0 fun i j => .int (i - j)) := opI0 fun ψ ψ ψ ψ ψ ψ ψ q => sub_int q
theorem op_mod : OpR X (binaryOp .Mod) (rI (fun ψ j => 0 < j) fun i j => .int (i % j)) := opI fun i j ψ ψ ψ ψ ψ hc q => by
 have h1 : (0 : Int) < j := hc
 exact mod_int' (by omega) (by rw [Int.fmod_eq_emod_of_nonneg i (by omega)]; exact q)
theorem op_pow : OpR X (binaryOp .Pow) (rI CPow fun i j => .int (i ^ j.toNat)) := opI fun ψ ψ ψ ψ ψ ψ ψ hc q => pow_int_small hc.1 hc.2.1 hc.2.2 q
theorem unI {f : Value → Sem Value} {g : Int → Int}
  (rule : ∀ (i : Int) (t : Tok) (s : Shared) (Q : L2.VSP) (E : L2.VSP), Q (.int (g i) s.toks) { s with toks := s.toks + 1 } → wpAny (model X.prog X.w) X.A (f (.int i t)) Q E s) :
  UnR X f (rU fun i => .int (g i)) := by
 intro pins s σ H x v Q I rx h
 obtain ⟨i, rfl, q⟩ := h
 obtain ⟨t, rfl⟩ := rx
 exact rule i t s _ _ ⟨.int (g i), H, I.tok _, ⟨_, rfl⟩, q⟩
theorem un_neg : UnR X (unaryOp .USub) (rU fun i => .int (-i)) := unI fun ψ ψ ψ ψ ψ q => neg_int q
end
noncomputable def scal : V → V → Bool
 | .non, .non => true | .non, .int _ => true | .int _, .non => true | .non, .bl _ => true | .bl _, .non => true | .non, .str _ => true | .str _, .non => true
 | .int _, .int _ => true | .bl _, .bl _ => true | .str _, .str _ => true | .byt _, .byt _ => true
 | .int _, .str _ => true | .str _, .int _ => true | .bl _, .str _ => true | .str _, .bl _ => true
 | _, _ => false
noncomputable def rEq : R2 := fun x y H Q => scal x y = true ∧ Q (.bl (decide (x = y))) H
noncomputable def rNe : R2 := fun x y H Q => scal x y = true ∧ Q (.bl (!decide (x = y))) H
theorem dec_int {i j : Int} : decide (V.int i = V.int j) = (i == j) := by
 rw [Bool.eq_iff_iff]
 simp
theorem dec_bl {i j : Bool} : decide (V.bl i = V.bl j) = (i == j) := by
 rw [Bool.eq_iff_iff]
 simp
theorem dec_str {i j : Str} : decide (V.str i = V.str j) = (i == j) := by
 rw [Bool.eq_iff_iff]
 simp
theorem dec_byt {i j : Array UInt8} : decide (V.byt i = V.byt j) = (i.toList == j.toList) := by
 rw [Bool.eq_iff_iff]
 cases i
 cases j
 simp
section
variable {X : Cx} {a b c : Expr} {ta tb tc : TE} {pos : Pos}
theorem fin_bl {pins : L2.AO} {σ : St} {H : Hp} {s : Shared} {Q : VK} {k k' : Bool} (I : Inv X pins σ H s) (q : Q (.bl k) H) (e : k = k') : EP X pins σ Q (.bool k') s := by
 subst e
 exact ⟨.bl k, H, I, rfl, q⟩
theorem op_eq : OpR X (compareOp .Eq) rEq := by
 intro pins s σ H x y v u Q I rx ry h
 obtain ⟨hs, q⟩ := h
 cases x with
 | non =>
  cases rx
  cases y with
  | non => cases ry; exact PySem.EqNone.eq_none_none (fin_bl I q (by simp))
  | bl j => cases ry; exact PySem.EqNone.eq_none_bool (fin_bl I q (by simp))
  | int j => obtain ⟨t', rfl⟩ := ry; exact PySem.EqNone.eq_none_int (fin_bl I q (by simp))
  | str j => obtain ⟨t', rfl⟩ := ry; exact PySem.EqNone.eq_none_str (fin_bl I q (by simp))
  | _ => exact absurd (show false = true from hs) Bool.false_ne_true
 | bl i =>
  cases rx
  cases y with
  | non => cases ry; exact PySem.EqNone.eq_bool_none (fin_bl I q (by simp))
  | bl j => cases ry; exact eq_bool (fin_bl I q dec_bl)
  | str j => obtain ⟨t', rfl⟩ := ry; exact PySem.EqMixed.eq_bool_str (fin_bl I q (by simp))
  | _ => exact absurd (show false = true from hs) Bool.false_ne_true
 | int i =>
  obtain ⟨t, rfl⟩ := rx
  cases y with
  | non => cases ry; exact PySem.EqNone.eq_int_none (fin_bl I q (by simp))
  | int j => obtain ⟨t', rfl⟩ := ry; exact eq_int (fin_bl I q dec_int)
  | str j => obtain ⟨t', rfl⟩ := ry; exact PySem.EqMixed.eq_int_str (fin_bl I q (by simp))
  | _ => exact absurd (show false = true from hs) Bool.false_ne_true
 | str i =>
  obtain ⟨t, rfl⟩ := rx
  cases y with
  | non => cases ry; exact PySem.EqNone.eq_str_none (fin_bl I q (by simp))
  | bl j => cases ry; exact PySem.EqMixed.eq_str_bool (fin_bl I q (by simp))
  | int j => obtain ⟨t', rfl⟩ := ry; exact PySem.EqMixed.eq_str_int (fin_bl I q (by simp))
  | str j => obtain ⟨t', rfl⟩ := ry; exact eq_str (fin_bl I q dec_str)
  | _ => exact absurd (show false = true from hs) Bool.false_ne_true
 | byt i =>
  obtain ⟨t, rfl⟩ := rx
  cases y with
  | byt j => obtain ⟨t', rfl⟩ := ry; exact PySem.W.eq_bytes (fin_bl I q dec_byt)
  | _ => exact absurd (show false = true from hs) Bool.false_ne_true
 | _ => cases y <;> exact absurd (show false = true from hs) Bool.false_ne_true
theorem op_ne : OpR X (compareOp .NotEq) rNe := by
 intro pins s σ H x y v u Q I rx ry h
 obtain ⟨hs, q⟩ := h
 cases x with
 | non =>
  cases rx
  cases y with
  | non => cases ry; exact PySem.EqNone.ne_none_none (fin_bl I q (by simp))
  | bl j => cases ry; exact PySem.EqNone.ne_none_bool (fin_bl I q (by simp))
  | int j => obtain ⟨t', rfl⟩ := ry; exact PySem.EqNone.ne_none_int (fin_bl I q (by simp))
  | str j => obtain ⟨t', rfl⟩ := ry; exact PySem.EqNone.ne_none_str (fin_bl I q (by simp))
  | _ => exact absurd (show false = true from hs) Bool.false_ne_true
 | bl i =>
  cases rx
  cases y with
  | non => cases ry; exact PySem.EqNone.ne_bool_none (fin_bl I q (by simp))
  | bl j => cases ry; exact ne_bool (fin_bl I q (congrArg not dec_bl))
  | str j => obtain ⟨t', rfl⟩ := ry; exact PySem.EqMixed.ne_bool_str (fin_bl I q (by simp))
  | _ => exact absurd (show false = true from hs) Bool.false_ne_true
 | int i =>
  obtain ⟨t, rfl⟩ := rx
  cases y with
  | non => cases ry; exact PySem.EqNone.ne_int_none (fin_bl I q (by simp))
  | int j => obtain ⟨t', rfl⟩ := ry; exact ne_int (fin_bl I q (congrArg not dec_int))
  | str j => obtain ⟨t', rfl⟩ := ry; exact PySem.EqMixed.ne_int_str (fin_bl I q (by simp))
  | _ => exact absurd (show false = true from hs) Bool.false_ne_true
 | str i =>
  obtain ⟨t, rfl⟩ := rx
  cases y with
  | non => cases ry; exact PySem.EqNone.ne_str_none (fin_bl I q (by simp))
  | bl j => cases ry; exact PySem.EqMixed.ne_str_bool (fin_bl I q (by simp))
  | int j => obtain ⟨t', rfl⟩ := ry; exact PySem.EqMixed.ne_str_int (fin_bl I q (by simp))
  | str j => obtain ⟨t', rfl⟩ := ry; exact ne_str (fin_bl I q (congrArg not dec_str))
  | _ => exact absurd (show false = true from hs) Bool.false_ne_true
 | byt i =>
  obtain ⟨t, rfl⟩ := rx
  cases y with
  | byt j => obtain ⟨t', rfl⟩ := ry; exact PySem.W.ne_bytes (fin_bl I q (congrArg not dec_byt))
  | _ => exact absurd (show false = true from hs) Bool.false_ne_true
 | _ => cases y <;> exact absurd (show false = true from hs) Bool.false_ne_true
theorem op_lt : OpR X (compareOp .Lt) (rI0 fun i j => .bl (decide (i < j))) := opB0 fun ψ ψ ψ ψ ψ ψ ψ q => lt_int q
theorem op_le : OpR X (compareOp .LtE) (rI0 fun i j => .bl (decide (i ≤ j))) := opB0 fun ψ ψ ψ ψ ψ ψ ψ q => le_int q
theorem op_gt : OpR X (compareOp .Gt) (rI0 fun i j => .bl (decide (j < i))) := opB0 fun ψ ψ ψ ψ ψ ψ ψ q => gt_int q
theorem op_ge : OpR X (compareOp .GtE) (rI0 fun i j => .bl (decide (j ≤ i))) := opB0 fun ψ ψ ψ ψ ψ ψ ψ q => ge_int q
theorem OpR.or {f : Value → Value → Sem Value} {r r' : R2} (h : OpR X f r) (h' : OpR X f r') : OpR X f (fun x y H Q => r x y H Q ∨ r' x y H Q) := by
 intro pins s σ H x y v u Q I rx ry q
 rcases q with q | q
 ·exact h pins s σ H x y v u Q I rx ry q
 ·exact h' pins s σ H x y v u Q I rx ry q
theorem nomark (b : Expr) {op : CmpOp} (h : op ≠ .In := by decide) (h2 : op ≠ .NotIn := by decide) : behindInMarks op b = false := by
 have e1 : (op == CmpOp.In) = false := by cases op <;> first | rfl | exact absurd rfl h
 have e2 : (op == CmpOp.NotIn) = false := by cases op <;> first | rfl | exact absurd rfl h2
 cases b <;> simp [behindInMarks, e1, e2]
theorem pe_cmpR {op : CmpOp} {r : R2} (ho : OpR X (compareOp op) r) (ha : PE X a ta) (hb : PE X b tb) (hm : behindInMarks op b = false) : PE X (.Compare a [op] [b] pos) (tOp r ta tb) := by
 intro pins s σ H Q I h
 exact wpAny_Compare1 (binT ha hb I h fun v u s2 x y H2 I2 rx ry q => ho pins s2 σ H2 x y v u Q I2 rx ry q) hm
noncomputable def tTest (t : TE) : TT := fun σ H Q => t σ H fun x H' => ∃ k, x = .bl k ∧ Q k H'
theorem pt_cmpR {op : CmpOp} {r : R2} (ho : OpR X (compareOp op) r) (ha : PE X a ta) (hb : PE X b tb) (hm : behindInMarks op b = false) : PT X (.Compare a [op] [b] pos) (tTest (tOp r ta tb)) := by
 intro pins s σ H Q I h
 refine wpAny_isTrue_Compare1 (thn (ha pins s σ H _ I h) fun v s1 ⟨x, H1, I1, r1, q1⟩ => thn (hb pins s1 σ H1 _ I1 q1) fun u s2 ⟨y, H2, I2, r2, q2⟩ =>
  thn (ho pins s2 σ H2 x y v u _ I2 r1 r2 q2) fun c s3 ⟨z, H3, I3, r3, k, e, q3⟩ => ?_) hm
 subst e
 cases r3
 exact wpAny_truthy_bool ⟨H3, I3, q3⟩
noncomputable def tChain (r r' : R2) (ta tb tc : TE) : TE := fun σ H Q => ta σ H fun x H1 => tb σ H1 fun y H2 => r x y H2 fun z H3 => ∃ k, z = .bl k ∧
 (if k = true then tc σ H3 fun w' H4 => r' y w' H4 Q else Q (.bl false) H3)
theorem pt_chain {op op' : CmpOp} {r r' : R2} (ho : OpR X (compareOp op) r) (ho' : OpR X (compareOp op') r') (ha : PE X a ta) (hb : PE X b tb) (hc : PE X c tc)
  (hm : lastMarks [op, op'] [b, c] = false := by with_unfolding_all rfl) : PT X (.Compare a [op, op'] [b, c] pos) (tTest (tChain r r' ta tb tc)) := by
 intro pins s σ H Q I h
 refine isTrue_chain (thn (ha pins s σ H _ I h) fun v s1 ⟨x, H1, I1, r1, q1⟩ => test_link (thn (hb pins s1 σ H1 _ I1 q1) fun u s2 ⟨y, H2, I2, r2, q2⟩ =>
  thn (ho pins s2 σ H2 x y v u _ I2 r1 r2 q2) fun d s3 ⟨z, H3, I3, r3, k, e, q3⟩ => ?_)) hm
 subst e
 cases r3
 refine wpAny_truthy_bool ?_
 cases k with
 | false =>
  obtain ⟨k', e', q'⟩ := q3
  cases e'
  exact ite_ff ⟨H3, I3, q'⟩
 | true =>
  refine ite_tt (test_last (thn (hc pins s3 σ H3 _ I3 q3) fun w' s4 ⟨z', H4, I4, r4, q4⟩ => thn (ho' pins s4 σ H4 y z' u w' _ I4 r2 r4 q4) fun d' s5 ⟨z2, H5, I5, r5, k2, e2, q5⟩ => ?_))
  subst e2
  cases r5
  exact wpAny_truthy_bool ⟨H5, I5, q5⟩
theorem line63 : (sizeLine : Nat) < 2 ^ 63 := by rw [sizeLine_eq]; decide
theorem vals1 {x : V} {us : List Value} (r : Vals [x] us) : ∃ u, us = [u] ∧ RelV x u := by
 cases r with
 | cons r1 r2 => cases r2; exact ⟨_, rfl, r1⟩
theorem vals2 {x y : V} {us : List Value} (r : Vals [x, y] us) : ∃ u w', us = [u, w'] ∧ RelV x u ∧ RelV y w' := by
 cases r with
 | cons r1 r2 =>
  cases r2 with
  | cons r3 r4 => cases r4; exact ⟨_, _, rfl, r1, r3⟩
theorem call_abs : CallR X (.builtin "abs") (fun xs H Q => ∃ i, xs = [.int i] ∧ Q (.int (if i < 0 then -i else i)) H) := by
 intro pins s σ H xs us Q I r h
 obtain ⟨i, rfl, q⟩ := h
 obtain ⟨u, rfl, t, rfl⟩ := vals1 r
 exact call_abs_int fun u tk => ⟨.int (if i < 0 then -i else i), H, I.tok _, ⟨_, rfl⟩, q⟩
theorem call_max2 (hc : X.calm = true) : CallR X (.builtin "max") (fun xs H Q => ∃ i j, xs = [.int i, .int j] ∧ Q (.int (if j > i then j else i)) H) := by
 intro pins s σ H xs us Q I r h
 obtain ⟨i, j, rfl, q⟩ := h
 obtain ⟨u, w', rfl, ⟨t, rfl⟩, ⟨t', rfl⟩⟩ := vals2 r
 refine max_two_ints (I.ok.hd hc) fun h' tk k => ⟨_, H, I.kept k, ?_, q⟩
 by_cases hj : j > i
 ·rw [if_pos hj, if_pos hj]; exact ⟨_, rfl⟩
 ·rw [if_neg hj, if_neg hj]; exact ⟨_, rfl⟩
theorem call_min2 (hc : X.calm = true) : CallR X (.builtin "min") (fun xs H Q => ∃ i j, xs = [.int i, .int j] ∧ Q (.int (if j < i then j else i)) H) := by
 intro pins s σ H xs us Q I r h
 obtain ⟨i, j, rfl, q⟩ := h
 obtain ⟨u, w', rfl, ⟨t, rfl⟩, ⟨t', rfl⟩⟩ := vals2 r
 refine min_two_ints (I.ok.hd hc) fun h' tk k => ⟨_, H, I.kept k, ?_, q⟩
 by_cases hj : j < i
 ·rw [if_pos hj, if_pos hj]; exact ⟨_, rfl⟩
 ·rw [if_neg hj, if_neg hj]; exact ⟨_, rfl⟩
theorem call_int1 : CallR X (.type "int") (fun xs H Q => (∃ i, xs = [.int i] ∧ Q (.int i) H) ∨ ∃ k, xs = [.bl k] ∧ Q (.int (if k then 1 else 0)) H) := by
 intro pins s σ H xs us Q I r h
 rcases h with ⟨i, rfl, q⟩ | ⟨k, rfl, q⟩
 ·obtain ⟨u, rfl, t, rfl⟩ := vals1 r
  exact call_int_int ⟨.int i, H, I, ⟨_, rfl⟩, q⟩
 ·obtain ⟨u, rfl, r1⟩ := vals1 r
  cases r1
  exact call_int_bool ⟨.int (if k then 1 else 0), H, I.tok _, ⟨_, rfl⟩, q⟩
end
structure ObjM (h : Heap) (x dx C : Addr) (mA : L2.SV) : Prop where
 obj : h.get? x = some (PySem.W.instObj C dx)
 ns : h.Ns1 dx mA
 ne : dx ≠ x
theorem lookIn_ns {h : Heap} {dx : Addr} {mA : L2.SV} (n : h.Ns1 dx mA) : ∃ od, h.get? dx = some od ∧ ∀ name, PySem.W.lookIn name od = some (mA name) := by
 obtain ⟨o, es, ep, ho, hd, hk, _, hm⟩ := n
 refine ⟨o, ho, fun name => ?_⟩
 have e := hm name
 unfold nsFind findBy at e
 rw [← Array.find?_toList] at e
 unfold PySem.W.lookIn
 rw [hd]
 dsimp only
 split
 ·rename_i y q
  rw [q] at e
  exact congrArg some e
 ·rename_i q
  rw [q] at e
  have a : es.toList.any (·.refKey) = false := by
   rw [List.any_eq_false]
   intro y hy
   obtain ⟨z, t, hkey⟩ := hk y (Array.mem_toList_iff.mp hy)
   simp [DictEntry.refKey, hkey]
  have a' : ¬ es.toList.any (·.refKey) = true := by rw [a]; exact Bool.false_ne_true
  rw [if_neg a']
  exact congrArg some e
theorem ObjM.look {h : Heap} {x dx C : Addr} {mA : L2.SV} (I : ObjM h x dx C mA) : ∃ od, PySem.W.InstAt h x (PySem.W.instObj C dx) C (some od) ∧ ∀ name, PySem.W.lookIn name od = some (mA name) :=
 let ⟨od, ho, hl⟩ := lookIn_ns I.ns
 ⟨od, ⟨I.obj, rfl, rfl, ho⟩, hl⟩
section
variable {P : Program} {w : World} {H : Hp} {h : Heap} {a C dx : Addr} {fs : List (Str × V)}
theorem ins_get (hok : HOk P w H h) (e : H a = some (.ins C dx fs)) : ∃ mA, ObjM h a dx C mA ∧ (∀ f, RelO (fs.lookup f) (mA f)) ∧ PySem.Within mA (fs.map (·.1)) ∧ fs.length ≤ 1000 ∧ H dx = some (.own a) := by
 obtain ⟨d, z, ne, ob, mA, n, r, q⟩ := (show ObjOk P w H h a (.ins C dx fs) from hok a _ e)
 exact ⟨mA, ⟨ob, n, ne⟩, r, q, z, d⟩
end
structure Cls (K : L2.Fg) (C : Addr) : Prop where
 pg : PySem.W.plainGet K C Str.empty = true
 hd : PySem.W.hasDictIn K C = true
 po : PySem.W.plainOver K C = true
 sa : PySem.W.findIn K (.ref C) "__setattr__" = some (some (.builtin "object.__setattr__"))
theorem Cls.get {K : L2.Fg} {C : Addr} (c : Cls K C) (f : Str) : PySem.W.plainGet K C f = true := c.pg
section
variable {X : Cx} {pins : L2.AO} {σ : St} {H : Hp} {s : Shared} {A : Around} {E : L2.VSP} {Q : L2.VSP} {c : Value} {b : Bool}
inductive TyOf (K : L2.Fg) (H : Hp) : V → Value → Prop where
 | non : TyOf K H .non (.type "NoneType")
 | bl (x : Bool) : TyOf K H (.bl x) (.type "bool")
 | int (i : Int) : TyOf K H (.int i) (.type "int")
 | str (x : Str) : TyOf K H (.str x) (.type "str")
 | flt (x : UInt64) : TyOf K H (.flt x) (.type "float")
 | lst {a : Addr} {xs : List V} (e : H a = some (.lst xs)) : TyOf K H (.ref a) (.type "list")
 | frz {a : Addr} {o : Obj} {xs : List V} (e : H a = some (.frz o (.lst xs))) : TyOf K H (.ref a) (.type "list")
 | tup {a : Addr} {xs : List V} (e : H a = some (.tup xs)) : TyOf K H (.ref a) (.type "tuple")
 | dK {a : Addr} {kvs : List (Key × V)} (e : H a = some (.dK kvs)) : TyOf K H (.ref a) (.type "dict")
 | dT {a : Addr} {kvs : List (List Key × V)} (e : H a = some (.dT kvs)) : TyOf K H (.ref a) (.type "dict")
 | ins {a C dx : Addr} {fs : List (Str × V)} (e : H a = some (.ins C dx fs)) (cl : Cls K C) (ha : PySem.W.findIn K (.ref C) "__class__" = some (some (.builtin "object.__class__")))
   (hn : PySem.W.specialIn K (.builtin "object.__class__") "__get__" = some (some (.builtin "getset_descriptor.__get__"))) (htk : PySem.W.takesIn K (.builtin "object.__class__") = some true)
   (hm : PySem.W.mroIn K C (.type "object") = some true) : TyOf K H (.ref a) (.ref C)
theorem isinst_ok {x : V} {u t : Value} (I : Inv X pins σ H s) (rx : RelV x u) (ty : TyOf X.K H x t) (e : PySem.W.kitOne X.K t c = some b) (h : ∀ tk, Q (.bool b) { s with toks := tk }) :
  wpAny (model X.prog X.w) A (call (.builtin "isinstance") [u, c]) Q E s := by
 cases ty with
 | non => cases (show u = Value.none from rx); exact PySem.W.kia_one PySem.W.kitx_none I.kIn True.intro e (fun z => nomatch z) h
 | bl y => cases (show u = Value.bool y from rx); exact PySem.W.kia_one PySem.W.kitx_bool I.kIn True.intro e (fun z => nomatch z) h
 | int i => obtain ⟨t, q⟩ := (show ∃ t, u = Value.int i t from rx); cases q; exact PySem.W.kia_one PySem.W.kitx_int I.kIn True.intro e (fun z => nomatch z) h
 | str y => obtain ⟨t, q⟩ := (show ∃ t, u = Value.str y t from rx); cases q; exact PySem.W.kia_one PySem.W.kitx_str I.kIn True.intro e (fun z => nomatch z) h
 | flt y => obtain ⟨t, q⟩ := (show ∃ t, u = Value.float y t from rx); cases q; exact PySem.W.kia_one PySem.W.kitx_float I.kIn True.intro e (fun z => nomatch z) h
 | @lst a xs ea =>
  cases (show u = Value.ref a from rx)
  obtain ⟨_, _, n, _, h1⟩ := (show ObjOk X.prog X.w H s.heap a (.lst xs) from I.hok a _ ea)
  exact PySem.W.kia_one PySem.W.kitx_list I.kIn ⟨_, h1, rfl⟩ e (fun z => nomatch z) h
 | @frz a ob xs ea =>
  cases (show u = Value.ref a from rx)
  obtain ⟨_, _, _, n, _, h1⟩ := (show ObjOk X.prog X.w H s.heap a (.frz ob (.lst xs)) from I.hok a _ ea)
  exact PySem.W.kia_one PySem.W.kitx_list I.kIn ⟨_, h1, rfl⟩ e (fun z => nomatch z) h
 | @tup a xs ea =>
  cases (show u = Value.ref a from rx)
  obtain ⟨_, _, _, p⟩ := (show ObjOk X.prog X.w H s.heap a (.tup xs) from I.hok a _ ea)
  obtain ⟨o, h1, h2, _⟩ := p
  exact PySem.W.kia_one PySem.W.kitx_tuple I.kIn ⟨o, h1, h2⟩ e (fun z => nomatch z) h
 | @dK a kvs ea =>
  cases (show u = Value.ref a from rx)
  obtain ⟨_, _, vs, _, p⟩ := (show ObjOk X.prog X.w H s.heap a (.dK kvs) from I.hok a _ ea)
  obtain ⟨o, es, ep, h1, h2, _⟩ := p
  exact PySem.W.kia_one PySem.W.kitx_dict I.kIn ⟨o, h1, h2.1⟩ e (fun z => nomatch z) h
 | @dT a kvs ea =>
  cases (show u = Value.ref a from rx)
  obtain ⟨_, _, xs, _, o, es, ep, h1, h2, _⟩ := (show ObjOk X.prog X.w H s.heap a (.dT kvs) from I.hok a _ ea)
  exact PySem.W.kia_one PySem.W.kitx_dict I.kIn ⟨o, h1, h2.1⟩ e (fun z => nomatch z) h
 | @ins a C dx fs ea cl ha hn htk hm =>
  cases (show u = Value.ref a from rx)
  obtain ⟨mA, O, _⟩ := ins_get I.hok ea
  obtain ⟨od, J, _⟩ := O.look
  exact PySem.W.kia_one (PySem.W.kitx_own (cl.get _) cl.hd ha hn htk hm) I.kIn J e (fun z => nomatch z) h
end
structure Room (k : Nat) (A : Around) : Prop where
 hd : A.handled = none
 dp : A.depth + 3 * k + 5 < recursionLimit
 un : A.units + 16 * k + 200 < cLine
theorem Room.mono {j k : Nat} {A : Around} (r : Room k A) (h : j ≤ k) : Room j A := ⟨r.hd, by have := r.dp; omega, by have := r.un; omega⟩
theorem Room.deeper {k : Nat} {A : Around} (r : Room (k + 1) A) (env : Env) : Room k (A.deeper env) :=
 ⟨r.hd, by have := r.dp; show A.depth + 1 + 3 * k + 5 < _; omega, by have := r.un; show A.units + 3 + 16 * k + 200 < _; omega⟩
theorem Room.in1 {k : Nat} {A : Around} (r : Room (k + 1) A) : Room k A.in1 :=
 ⟨r.hd, by have := r.dp; show A.depth + 3 * k + 5 < _; omega, by have := r.un; show A.units + 1 + 16 * k + 200 < _; omega⟩
theorem Room.depth {k : Nat} {A : Around} (r : Room k A) : A.depth < recursionLimit := by have := r.dp; omega
theorem Room.units {k : Nat} {A : Around} (r : Room k A) : A.units + 64 < cLine := by have := r.un; omega
noncomputable def tNil : TA := fun ψ H Q => Q [] H
noncomputable def tCons (ta : TE) (tr : TA) : TA := fun σ H Q => ta σ H fun x H1 => tr σ H1 fun xs H2 => Q (x :: xs) H2
section
variable {X : Cx} {e : Expr} {es : List Expr} {te : TE} {t : TA} {pos : Pos}
theorem pa_nil : PA X [] tNil := fun ψ ψ ψ ψ H Q I h => Calls.spliced_nil ⟨[], H, I, .nil, h⟩
theorem pa_cons (ha : PE X e te) (hr : PA X es t) (hs : starEach (e :: es) X.env = (false, eval e X.env) :: starEach es X.env := by rfl) : PA X (e :: es) (tCons te t) := by
 intro pos pins s σ H Q I h
 rw [hs]
 show wpAny _ _ (spliced ((false, eval e X.env) :: backTo pos (starEach es X.env))) _ _ s
 refine Calls.spliced_cons (thn (ha pins s σ H _ I h) fun u s1 ⟨x, H1, I1, r1, q1⟩ => ?_)
 exact thn (hr pos pins s1 σ H1 _ I1 q1) fun us s2 ⟨xs, H2, I2, r2, q2⟩ => ⟨x :: xs, H2, I2, .cons r1 r2, q2⟩
noncomputable def tTup (t : TA) : TE := fun σ H Q => t σ H fun xs H1 => xs.length ≤ sizeLine ∧ ∀ p, H1 p = none → Q (.ref p) (upd H1 p (.tup xs))
noncomputable def tLst (t : TA) : TE := fun σ H Q => t σ H fun xs H1 => xs.length ≤ sizeLine ∧ ∀ p, H1 p = none → Q (.ref p) (upd H1 p (.lst xs))
theorem pe_tup {x1} (h : PA X es t) : PE X (.Tuple es x1 pos) (tTup t) := by
 intro pins s σ H Q I hq
 refine wpAny_Tuple_spliced (thn (h pos pins s σ H _ I hq) fun us s1 ⟨xs, H1, I1, r, z, q⟩ => ⟨by rw [← r.length]; exact z, ?_⟩)
 have hf : H1 s1.heap.objs.size = none := I1.hok.fresh (Nat.le_refl _)
 refine ⟨.ref s1.heap.objs.size, upd H1 s1.heap.objs.size (.tup xs), I1.laid (t' := s1.toks) (fun b u e => Heap.get?_push_of_some _ e) (Nat.le_refl _) ?_, rfl, q _ hf⟩
 exact ⟨z, us, r, ⟨_, Heap.get?_push_size _ rfl, rfl, _, rfl⟩⟩
theorem pe_lst (h : PA X es t) : PE X (.List es pos) (tLst t) := by
 intro pins s σ H Q I hq
 refine wpAny_List_spliced (thn (h pos pins s σ H _ I hq) fun us s1 ⟨xs, H1, I1, r, z, q⟩ => ⟨by rw [← r.length]; exact z, ?_⟩)
 have hf : H1 s1.heap.objs.size = none := I1.hok.fresh (Nat.le_refl _)
 refine ⟨.ref s1.heap.objs.size, upd H1 s1.heap.objs.size (.lst xs), I1.laid (t' := s1.toks) (fun b u e => Heap.get?_push_of_some _ e) (Nat.le_refl _) ?_, rfl, q _ hf⟩
 exact ⟨z, us, 0, r, Heap.get?_push_size _ rfl⟩
end
noncomputable abbrev Sp := List V → Hp → VK → XK → Prop
noncomputable abbrev CXT := List Env → Hp → Shared → XK → Value → Shared → Prop
structure Env0 (P : Program) (w : World) (K : L2.Fg) (mg : L2.SV) (base : Heap) (A : Around) (outer : List Env) (s : Shared) (H : Hp) : Prop where
 frames : A.frames = some outer
 mod : Mod K mg base
 bs : ∀ b o, base.get? b = some o → s.heap.get? b = some o ∧ H b = none
 bsz : base.objs.size ≤ s.heap.objs.size
 funs : s.heap.FunFrames base outer
 frf : ∀ b ∈ frs outer, H b = none
 hok : HOk P w H s.heap
 bare : AllBare s.gens
noncomputable def CE (outer : List Env) (P : Program) (w : World) (H : Hp) (s : Shared) (Q : VK) (u : Value) (s' : Shared) : Prop :=
 ∃ v H', s'.os = s.os ∧ AllBare s'.gens ∧ Un (frs outer) [] H H' s.heap s'.heap ∧ HOk P w H' s'.heap ∧ RelV v u ∧ Q v H'
noncomputable def CR (CX : CXT) (outer : List Env) (P : Program) (w : World) (H : Hp) (s : Shared) (Q : VK) (E : XK) (r : Result) (s' : Shared) : Prop :=
 match r with
 | .ok (.ret u) => CE outer P w H s Q u s'
 | .ok _ => False
 | .error e => CX outer H s E e s'
structure FnOk (P : Program) (w : World) (K : L2.Fg) (mg : L2.SV) (base : Heap) (CX : CXT) (k : Nat) (f : Addr) (fd : FuncData) (ps : List Str) (sp : Sp) : Prop where
 len : ∀ vs H Q E, sp vs H Q E → vs.length = ps.length
 run : ∀ (A : Around) (outer : List Env) (s : Shared) (H : Hp) (args : Args) (us : List Value) (vs : List V) (Q : VK) (E : XK), Room k A → Env0 P w K mg base A outer s H → BindsTo s fd args (ps.zip us) → Vals vs us → sp vs H Q E →
  codeAny (model P w) A (.call (.ref f) args) (CR CX outer P w H s Q E) s
theorem FnOk.mono {P : Program} {w : World} {K : L2.Fg} {mg : L2.SV} {base : Heap} {CX : CXT} {j k : Nat} {f : Addr} {fd : FuncData} {ps : List Str} {sp : Sp} (F : FnOk P w K mg base CX j f fd ps sp) (h : j ≤ k) :
  FnOk P w K mg base CX k f fd ps sp := ⟨F.len, fun A outer s H args us vs Q E hr => F.run A outer s H args us vs Q E (hr.mono h)⟩
theorem FnOk.imp {P : Program} {w : World} {K : L2.Fg} {mg : L2.SV} {base : Heap} {CX : CXT} {k : Nat} {f : Addr} {fd : FuncData} {ps : List Str} {sp sp' : Sp} (F : FnOk P w K mg base CX k f fd ps sp)
  (h : ∀ vs H Q E, sp' vs H Q E → sp vs H Q E) : FnOk P w K mg base CX k f fd ps sp' :=
 ⟨fun vs H Q E q => F.len vs H Q E (h _ _ _ _ q), fun A outer s H args us vs Q E hr he hb hv hs => F.run A outer s H args us vs Q E hr he hb hv (h _ _ _ _ hs)⟩
theorem Env0.in1 {P : Program} {w : World} {K : L2.Fg} {mg : L2.SV} {base : Heap} {A : Around} {outer : List Env} {s : Shared} {H : Hp} (e : Env0 P w K mg base A outer s H) :
  Env0 P w K mg base A.in1 outer s H := ⟨e.frames, e.mod, e.bs, e.bsz, e.funs, e.frf, e.hok, e.bare⟩
section
variable {X : Cx} {pins : L2.AO} {σ : St} {H : Hp} {s s' : Shared}
theorem Inv.env0 (I : Inv X pins σ H s) : Env0 X.prog X.w X.K X.mg X.base X.A X.stack s H :=
 ⟨I.ok.frames, I.ok.mod, I.bs, Nat.le_trans I.ok.bsz I.sz, I.stack, I.stkFree, I.hok, I.bare⟩
theorem Inv.after {Q : VK} {u : Value} (I : Inv X pins σ H s) (h : CE X.stack X.prog X.w H s Q u s') : EP X pins σ Q u s' := by
 obtain ⟨v, H', os, bare, un, hok, r, q⟩ := h
 obtain ⟨hh, g, d, t, os'⟩ := s'
 obtain rfl : os' = s.os := os
 exact ⟨v, H', I.call (h' := hh) (g' := g) (d' := d) (t' := t) (ch := []) un hok bare (fun b z => absurd z (by simp)), r, q⟩
end
noncomputable def tCall (sp : Sp) (dvs : List V) (E : XK) (t : TA) : TE := fun σ H Q => t σ H fun vs H1 => sp (vs ++ dvs) H1 Q E
noncomputable def Binds (K : L2.Fg) (fd : FuncData) (ps : List Str) (ds : List Value) : Prop :=
 ∀ (s : Shared) (us : List Value), K.In s.heap → (us ++ ds).length = ps.length → BindsTo s fd ⟨us, []⟩ (ps.zip (us ++ ds))
theorem Binds.all {K : L2.Fg} {fd : FuncData} {ps : List Str} (h : ∀ us : List Value, us.length = ps.length → bindArgs fd ⟨us, []⟩ = pure (ps.zip us)) : Binds K fd ps [] := fun s us ψ hl => by
 rw [List.append_nil] at hl ⊢
 exact .of_eq (h us hl)
noncomputable def Passes (CX : CXT) (X : Cx) (E : XK) : Prop := ∀ (pins : L2.AO) (σ : St) (H : Hp) (s : Shared) (e : Value) (s' : Shared), Inv X pins σ H s → CX X.stack H s E e s' → X.xe e s'
section
variable {X : Cx} {CX : CXT} {k : Nat} {f : Addr} {fd : FuncData} {ps : List Str} {sp : Sp} {dvs : List V} {ds : List Value} {E : XK} {x : Str} {p pos : Pos} {e : Expr} {es : List Expr} {t : TA}
theorem run_fn {pins : L2.AO} {σ : St} {H : Hp} {s : Shared} {Q : VK} {us : List Value} {vs : List V} (F : FnOk X.prog X.w X.K X.mg X.base CX k f fd ps sp) (hr : Room k X.A) (hb : Binds X.K fd ps ds) (hd : Vals dvs ds) (hx : Passes CX X E)
  (I : Inv X pins σ H s) (r : Vals vs us) (h : sp (vs ++ dvs) H Q E) : wpAny (model X.prog X.w) X.A (call (.ref f) us) (EP X pins σ Q) X.xe s := by
 have r2 : Vals (vs ++ dvs) (us ++ ds) := r.append hd
 have hl : (us ++ ds).length = ps.length := by rw [← r2.length]; exact F.len _ _ _ _ h
 refine wpAny_call (codeAny_mono (F.run X.A X.stack s H ⟨us, []⟩ (us ++ ds) (vs ++ dvs) Q E hr I.env0 (hb s us I.kIn hl) r2 h) fun r s' hq => ?_)
 cases r with
 | error e => exact hx pins σ H s e s' I hq
 | ok fl =>
  cases fl with
  | ret u => exact I.after hq
  | next => exact False.elim hq
  | brk => exact False.elim hq
  | cont => exact False.elim hq
theorem pe_call (F : FnOk X.prog X.w X.K X.mg X.base CX k f fd ps sp) (hr : Room k X.A) (hg : Gl X x) (hm : X.mg x = some (.ref f)) (hk : PySem.W.keepIn X.K (.ref f) = true) (hb : Binds X.K fd ps ds) (hd : Vals dvs ds) (hx : Passes CX X E)
  (ha : PA X (e :: es) t) (hdb : (x == ("__debug__" : Str)) = false := by decide) (he : starEach (e :: es) X.env = (false, eval e X.env) :: starEach es X.env := by rfl) (hpl : (backTo pos (starEach es X.env)).any (·.1) = false := by rfl) :
  PE X (.Call (.Name x p) (e :: es) [] pos) (tCall sp dvs E t) := by
 intro pins s σ H Q I h
 refine wpAny_Call_Name_kw (ld_glob I hg hm ?_ hdb)
 refine PySem.W.callWith_K (h₀ := X.base) I.ok.mod.kin hk (thn (ha pos pins s σ H _ I h) fun us s1 ⟨vs, H1, I1, r, q⟩ => ⟨I1.kIn, ?_⟩) he hpl
 exact run_fn F hr hb hd hx I1 r q
end
structure FnScope (N P : List Str) (sc : Scope) : Prop where
 kind : sc.kind = .function
 co : sc.isCoroutine = false
 gen : sc.isGenerator = false
 nd : N.Nodup
 pre : N.take P.length = P
 par : ∀ x ∈ P, sc.names.lookup x = some .local ∨ sc.names.lookup x = some .cell
 nofree : ∀ y ∈ sc.names, y.2 ≠ .free
theorem bindL_out {kindOf : Str → Option NameKind} {x : Str} : ∀ {binds : List (Str × Value)} {m : L2.SV}, (∀ v, (x, v) ∉ binds) → bindL kindOf binds m x = m x
 | [], _, _ => rfl
 | (n, v) :: r, m, h => by
  unfold bindL
  rw [bindL_out fun w hw => h w (List.mem_cons_of_mem _ hw)]
  split
  ·have : x ≠ n := by rintro rfl; exact h v List.mem_cons_self
   simp [this]
  ·rfl
theorem bindC_out {kindOf : Str → Option NameKind} {x : Str} : ∀ {binds : List (Str × Value)} {m : L2.SV}, (∀ v, (x, v) ∉ binds) → bindC kindOf binds m x = m x
 | [], _, _ => rfl
 | (n, v) :: r, m, h => by
  unfold bindC
  rw [bindC_out fun w hw => h w (List.mem_cons_of_mem _ hw)]
  split
  ·rfl
  ·have : x ≠ n := by rintro rfl; exact h v List.mem_cons_self
   simp [this]
theorem bindL_get {kindOf : Str → Option NameKind} {x : Str} {v : Value} : ∀ {P : List Str} {vs : List Value} {i : Nat} {m : L2.SV}, P.Nodup → P[i]? = some x → vs[i]? = some v → kindOf x = some .local →
  bindL kindOf (P.zip vs) m x = some v
 | [], _, _, _, _, h, _, _ => by simp at h
 | _ :: _, [], _, _, _, _, h, _ => by simp at h
 | p :: P, w :: vs, 0, m, nd, h1, h2, hk => by
  simp at h1 h2; subst h1; subst h2
  show bindL kindOf ((p, w) :: P.zip vs) m p = _
  unfold bindL
  rw [bindL_out fun v hv => (List.nodup_cons.mp nd).1 (List.of_mem_zip hv).1, if_pos hk]
  simp
 | p :: P, w :: vs, i + 1, m, nd, h1, h2, hk => by
  show bindL kindOf ((p, w) :: P.zip vs) m x = _
  unfold bindL
  exact bindL_get (i := i) (List.nodup_cons.mp nd).2 (by simpa using h1) (by simpa using h2) hk
theorem bindC_get {kindOf : Str → Option NameKind} {x : Str} {v : Value} : ∀ {P : List Str} {vs : List Value} {i : Nat} {m : L2.SV}, P.Nodup → P[i]? = some x → vs[i]? = some v → kindOf x ≠ some .local →
  bindC kindOf (P.zip vs) m x = some v
 | [], _, _, _, _, h, _, _ => by simp at h
 | _ :: _, [], _, _, _, _, h, _ => by simp at h
 | p :: P, w :: vs, 0, m, nd, h1, h2, hk => by
  simp at h1 h2; subst h1; subst h2
  show bindC kindOf ((p, w) :: P.zip vs) m p = _
  unfold bindC
  rw [bindC_out fun v hv => (List.nodup_cons.mp nd).1 (List.of_mem_zip hv).1, if_neg hk]
  simp
 | p :: P, w :: vs, i + 1, m, nd, h1, h2, hk => by
  show bindC kindOf ((p, w) :: P.zip vs) m x = _
  unfold bindC
  exact bindC_get (i := i) (List.nodup_cons.mp nd).2 (by simpa using h1) (by simpa using h2) hk
noncomputable def start (N : List Str) (vs : List V) : St := vs.map some ++ List.replicate (N.length - vs.length) none
noncomputable def cxOf (CX : CXT) (P : Program) (w : World) (K : L2.Fg) (mg : L2.SV) (base : Heap) (N : List Str) (qual : Str) (scope : Scope) (f : Addr) (cd : Value) (A : Around) (outer : List Env) (s : Shared) (H : Hp) (E : XK) : Cx where
 prog := P
 w := w
 K := K
 mg := mg
 base := base
 A := A.deeper (envOfC qual scope s.heap.objs.size f cd)
 N := N
 s₀ := s
 H₀ := H
 env := envOfC qual scope s.heap.objs.size f cd
 outer := outer
 stack := envOfC qual scope s.heap.objs.size f cd :: outer
 ex := []
 calm := true
 fn := fun ψ => true
 pn := []
 xe := fun e s' => wpAny (model P w) (A.deeper (envOfC qual scope s.heap.objs.size f cd)) (leaving (envOfC qual scope s.heap.objs.size f cd) e) (fun ψ s'' => CX outer H s E e s'') (fun e' s'' => CX outer H s E e' s'') s'
theorem cell_has {sc : Scope} {n : Nat} {x : Str} (h : sc.names.lookup x = some .cell) : ∃ c, (cellsFrom n sc.names []).lookup x = some c := by
 have q := PySem.W.cellsFrom_some sc.names n [] (.inl h)
 exact Option.isSome_iff_exists.mp q
theorem inv_start {CX : CXT} {P : Program} {w : World} {K : L2.Fg} {mg : L2.SV} {base : Heap} {N ps : List Str} {qual : Str} {scope : Scope} {f : Addr} {cd : Value} {A : Around} {outer : List Env} {s s1 : Shared} {H : Hp} {E : XK} {us : List Value} {vs : List V}
  (S : FnScope N ps scope) (hd : A.handled = none) (e0 : Env0 P w K mg base A outer s H) (hl : vs.length = ps.length) (r : Vals vs us)
  (x : InCallC s s.heap.objs.size (bindL (envOfC qual scope s.heap.objs.size f cd).kindOf (ps.zip us) fun ψ => none) (cellsFrom (s.heap.objs.size + 1) scope.names []) (bindC (envOfC qual scope s.heap.objs.size f cd).kindOf (ps.zip us) fun ψ => none) s1) :
  Inv (cxOf CX P w K mg base N qual scope f cd A outer s H E) [] (start N vs) H s1 := by
 have hpl : ps.length ≤ N.length := by have := congrArg List.length S.pre; rw [List.length_take] at this; omega
 obtain ⟨h1, tk, rfl, hk⟩ := x.done
 have noA : ∀ b : Addr, b ∉ (cxOf CX P w K mg base N qual scope f cd A outer s H E).ex := fun b z => absurd (show b ∈ ([] : List Addr) from z) (by simp)
 refine ⟨⟨e0.mod, S.kind, rfl, rfl, Nat.le_refl _, fun y z c h1 h2 => ?_, fun y hy => ?_, fun y c ψ h => ?_, fun ψ => hd, Around.frames_deeper e0.frames, .inr ⟨rfl, rfl⟩, fun b z => absurd z (noA b), e0.bs, e0.bsz, fun b ψ ψ => noA b, fun b z => absurd z (noA b), e0.funs, e0.frf⟩,
  rfl, e0.bare, Un.kept hk, ⟨_, x.toInCall.ns, fun i y v h1 h2 h3 => ?_⟩, fun y c h => ⟨_, x.cell y c h⟩, e0.hok.fresh (Nat.le_refl _), fun y c h => ?_, fun p hp => absurd (show p ∈ ([] : L2.AO) from hp) (by simp), e0.hok.kept hk, ?_⟩
 ·exact name_of_addr x.apart (PySem.mem_of_lookup h1) (PySem.mem_of_lookup h2)
 ·have hy : scope.names.lookup y = some .cell ∨ scope.names.lookup y = some .free := hy
  rcases hy with hy | hy
  ·exact cell_has hy
  ·exact absurd rfl (S.nofree _ (PySem.mem_of_lookup hy))
 ·exact Nat.le_of_lt (x.above y c (PySem.mem_of_lookup h))
 ·have hi : i < vs.length := by
   unfold start at h2
   by_cases hi : i < vs.length
   ·exact hi
   ·rw [List.getElem?_append_right (by simpa using hi)] at h2
    rw [List.getElem?_replicate] at h2
    split at h2 <;> cases h2
  have ha : vs[i]? = some v := by
   unfold start at h2
   rw [List.getElem?_append_left (by simpa using hi), List.getElem?_map] at h2
   cases e : vs[i]? with
   | none => rw [e] at h2; cases h2
   | some a => rw [e] at h2; cases h2; rfl
  obtain ⟨u, hu, rv⟩ := r.get ha
  have hp : ps[i]? = some y := by
   rw [← S.pre, List.getElem?_take_of_lt (by omega)]; exact h1
  have ndP : ps.Nodup := by rw [← S.pre]; exact S.nd.sublist (List.take_sublist _ _)
  refine ⟨u, rv, ?_⟩
  rcases S.par y (List.mem_of_getElem? hp) with k | k
  ·exact .inl ⟨k, bindL_get ndP hp hu k⟩
  ·obtain ⟨c, e⟩ := cell_has (n := s.heap.objs.size + 1) k
   refine .inr ⟨.inl k, c, e, ?_⟩
   have q := x.cell y c e
   rw [bindC_get ndP hp hu (by show scope.names.lookup y ≠ _; rw [k]; decide)] at q
   exact q
 ·exact e0.hok.fresh (Nat.le_of_lt (x.above y c (PySem.mem_of_lookup h)))
 ·unfold start
  show _ = N.length
  rw [List.length_append, List.length_map, List.length_replicate]
  omega
theorem fn_of {CX : CXT} {P : Program} {w : World} {K : L2.Fg} {mg : L2.SV} {base : Heap} {k : Nat} {f : Addr} {name qual : Str} {params : Arguments} {body : List Stmt} {scope : Scope} {dV kV doc pm cdv ct oc : Value} {an od : Option Addr}
  {osl : Array (Option Value)} {N ps : List Str} {sp : Sp} (lk : K.lookup f = some ⟨oc, od, .func (PySem.W.fnOf name qual params body scope dV kV doc pm an cdv ct), osl⟩) (hcd : PySem.W.codeIn K cdv qual = true) (S : FnScope N ps scope)
  (len : ∀ vs H Q E, sp vs H Q E → vs.length = ps.length)
  (hbody : ∀ (A : Around) (outer : List Env) (s : Shared) (H : Hp) (vs : List V) (Q : VK) (E : XK), Room k (A.deeper (envOfC qual scope s.heap.objs.size f cdv)) → sp vs H Q E →
   ∃ t, PSs (cxOf CX P w K mg base N qual scope f cdv A outer s H E) body t ∧ t { nx := fun ψ H' => Q .non H', rt := Q } (start N vs) H) :
  FnOk P w K mg base CX (k + 1) f (PySem.W.fnOf name qual params body scope dV kV doc pm an cdv ct) ps sp := by
 refine ⟨len, fun A outer s H args us vs Q E hr e0 hb r hsp => ?_⟩
 have hl := len _ _ _ _ hsp
 have KX : K.In s.heap := e0.mod.kin.keeps fun b o e => (e0.bs b o e).1
 have lim : s.heap.NoLimit := e0.mod.nolimit.keeps fun b o e => (e0.bs b o e).1
 have hkind : ∀ y ∈ ps.zip us, scope.names.lookup y.1 = some .local ∨ (scope.names.lookup y.1 = some .cell ∧ ((cellsFrom (s.heap.objs.size + 1) scope.names []).lookup y.1).isSome = true) := fun ⟨n, v⟩ hy => by
  rcases S.par n (List.of_mem_zip hy).1 with q | q
  ·exact .inl q
  ·exact .inr ⟨q, PySem.W.cellsFrom_some _ _ _ (.inl q)⟩
 refine codeAny_call_function hr.depth (KX _ _ lk) rfl S.co S.gen rfl (PySem.W.codeRec_of KX hcd) (hb _ _ _ _ ?_)
 refine wpAny_newFunctionEnv_cells S.kind hkind fun env he s1 x => ?_
 subst he
 refine ⟨lim.keeps x.toInCall.keep, codeAny_func ?_⟩
 obtain ⟨t, ht, hq⟩ := hbody A outer s H vs Q E (hr.deeper _) hsp
 have I : Inv (cxOf CX P w K mg base N qual scope f cdv A outer s H E) [] (start N vs) H s1 := inv_start S hr.hd e0 hl r x
 refine wpAny_mono (ht [] s1 (start N vs) H _ I hq) (fun fl s' hs => ?_) fun e s' hs => hs
 have fin : ∀ {σ' : St} {H' : Hp} {v : V} {u : Value}, Inv (cxOf CX P w K mg base N qual scope f cdv A outer s H E) [] σ' H' s' → RelV v u → Q v H' → CE outer P w H s Q u s' :=
  fun {σ' H' v u} J rv q => ⟨v, H', J.os, J.bare, J.base, J.hok, rv, q⟩
 cases fl with
 | ret u =>
  obtain ⟨v, σ', H', J, rv, q⟩ := hs
  exact fin J rv q
 | next =>
  obtain ⟨σ', H', J, q⟩ := hs
  exact fin (v := V.non) (u := Value.none) J rfl q
 | brk =>
  obtain ⟨_, _, _, q⟩ := hs
  exact False.elim q
 | cont =>
  obtain ⟨_, _, _, q⟩ := hs
  exact False.elim q
section
variable {X : Cx} {x : Str} {p pos : Pos} {e : Expr} {es : List Expr} {t : TA} {id T : String} {r : List V → Hp → VK → Prop}
noncomputable def tCB (r : List V → Hp → VK → Prop) (t : TA) : TE := fun σ H Q => t σ H fun vs H1 => r vs H1 Q
theorem pe_callB (hc : CallR X (.builtin id) r) (hg : Gl X x) (hm : X.mg x = none) (hv : bootBuiltins x = some (.builtin id)) (ha : PA X (e :: es) t) (hn : x ≠ "__name__" := by decide) (hdb : (x == ("__debug__" : Str)) = false := by decide)
  (he : starEach (e :: es) X.env = (false, eval e X.env) :: starEach es X.env := by rfl) (hpl : (backTo pos (starEach es X.env)).any (·.1) = false := by rfl) : PE X (.Call (.Name x p) (e :: es) [] pos) (tCB r t) := by
 intro pins s σ H Q I h
 refine wpAny_Call_Name_kw (ld_blt I hg hm hv ?_ hn hdb)
 exact PyProof.Rows.callWith_builtin1 (thn (ha pos pins s σ H _ I h) fun us s1 ⟨vs, H1, I1, r1, q1⟩ => hc pins s1 σ H1 vs us Q I1 r1 q1) he hpl
theorem pe_callTy (hc : CallR X (.type T) r) (hg : Gl X x) (hm : X.mg x = none) (hv : bootBuiltins x = some (.type T)) (ha : PA X (e :: es) t) (hn : x ≠ "__name__" := by decide) (hdb : (x == ("__debug__" : Str)) = false := by decide)
  (he : starEach (e :: es) X.env = (false, eval e X.env) :: starEach es X.env := by rfl) (hpl : (backTo pos (starEach es X.env)).any (·.1) = false := by rfl) : PE X (.Call (.Name x p) (e :: es) [] pos) (tCB r t) := by
 intro pins s σ H Q I h
 refine wpAny_Call_Name_kw (ld_blt I hg hm hv ?_ hn hdb)
 exact PyProof.Rows.callWith_type1 (thn (ha pos pins s σ H _ I h) fun us s1 ⟨vs, H1, I1, r1, q1⟩ => hc pins s1 σ H1 vs us Q I1 r1 q1) he hpl
end
end L2
namespace HT
open PySem PyProof.Rows
section
variable {prog : Program} {w : World} {A : Around} {E : L2.VSP} {s : Shared}
theorem cat_tup {t b : Addr} {vs ws : List Value} {Q : L2.VSP} (ht : IsTup s.heap t vs.toArray) (hb : IsTup s.heap b ws.toArray) (hv : vs ≠ [])
  (h1 : ws = [] → Q (.ref t) s) (h2 : ws ≠ [] → Q (.ref s.heap.objs.size) { s with heap := s.heap.push { cls := .type "tuple", data := .seq (vs ++ ws).toArray } })
  (hsz : vs.length + ws.length ≤ sizeLine) : wpAny (model prog w) A (binaryOp .Add (.ref t) (.ref b)) Q E s := by
 obtain ⟨⟨cls, dd, data, sl⟩, ho, hc, n, hd⟩ := id ht
 obtain ⟨⟨cls2, dd2, data2, sl2⟩, ho2, hc2, n2, hd2⟩ := id hb
 simp only at hc hd hc2 hd2
 subst hc hd hc2 hd2
 have e : vs.toArray ++ ws.toArray = (vs ++ ws).toArray := by simp
 by_cases hw : ws = []
 ·exact concat_meets ⟨_, ho, rfl⟩ ⟨_, ho2, rfl⟩ noFill_tuple_add seq_tuple_add PySem.F.slot_tuple_add PySem.F.entry_tuple_add (PySem.F.args_tuple_add_2 _ _)
   (tuple_addW1 t b vs.toArray ws.toArray n n2 dd dd2 sl sl2 (by simpa using hv) (by simp [hw])) ⟨ho, ho2, h1 hw⟩
 ·refine concat_meets ⟨_, ho, rfl⟩ ⟨_, ho2, rfl⟩ noFill_tuple_add seq_tuple_add PySem.F.slot_tuple_add PySem.F.entry_tuple_add (PySem.F.args_tuple_add_2 _ _)
   (tuple_addW2 t b vs.toArray ws.toArray n n2 dd dd2 sl sl2 (by simpa using hv) (by simpa using hw) (by rw [List.size_toArray, List.size_toArray]; exact hsz)) ⟨ho, ho2, ?_⟩
  rw [e]
  exact h2 hw
noncomputable def sIx (n d : Nat) : Option Int → Nat
 | none => d
 | some v => if v < 0 then (v + (n : Int)).toNat else min v.toNat n
theorem sIx_nat (n d k : Nat) : sIx n d (some (k : Int)) = min k n := by
 show (if (k : Int) < 0 then ((k : Int) + (n : Int)).toNat else min (k : Int).toNat n) = min k n
 rw [if_neg (by omega), Int.toNat_natCast]
theorem sIx_le (n d : Nat) (hd : d ≤ n) (o : Option Int) : sIx n d o ≤ n := by
 cases o with
 | none => exact hd
 | some v =>
  show (if v < 0 then (v + (n : Int)).toNat else min v.toNat n) ≤ n
  by_cases hv : v < 0
  ·rw [if_pos hv]; omega
  ·rw [if_neg hv]; exact Nat.min_le_right _ _
theorem clip_eq (v : Int) (n d : Nat) : (if v < 0 then max (v + (n : Int)) 0 else min v (n : Int)) = ((sIx n d (some v) : Nat) : Int) := by
 show (if v < 0 then max (v + (n : Int)) 0 else min v (n : Int)) = (((if v < 0 then (v + (n : Int)).toNat else min v.toNat n) : Nat) : Int)
 by_cases hv : v < 0
 ·simp only [if_pos hv]; omega
 ·simp only [if_neg hv]; omega
theorem adjust_gen (lo hi : Option Int) (n : Nat) : Builtin.Slice.sliceAdjust lo hi 1 (n : Int) = (((sIx n 0 lo : Nat) : Int), ((sIx n n hi : Nat) : Int)) := by
 have h1 : ¬ ((1 : Int) < 0) := by omega
 unfold Builtin.Slice.sliceAdjust
 simp only [h1, if_false]
 refine Prod.ext ?_ ?_
 ·cases lo with
  | none => rfl
  | some v => exact clip_eq v n 0
 ·cases hi with
  | none => rfl
  | some v => exact clip_eq v n n
theorem places_gen (i j : Nat) : Builtin.Slice.slicePlaces (i : Int) (j : Int) 1 = j - i := by
 unfold Builtin.Slice.slicePlaces
 have h1 : (1 : Int) > 0 := by omega
 simp only [h1, if_true, Int.ediv_one]
 split <;> omega
theorem slicePart_ {v : Value} {o : Option Int} {Q : Option Int → Shared → Prop} (p : IsPart v o) (h : Q o s) : wpAny (model prog w) A (Builtin.Slice.slicePartIndex v) Q E s := by
 cases p with
 | none => exact slicePart_none h
 | int i t => exact slicePart_int h
theorem sliceApplied_gen {sl : Addr} {vl vu : Value} {lo hi : Option Int} {n : Nat} {Q : Int × Int × Nat → Shared → Prop} (hs : s.heap.IsSliceOf sl vl vu .none) (pl : IsPart vl lo) (pu : IsPart vu hi)
  (h : Q (((sIx n 0 lo : Nat) : Int), 1, sIx n n hi - sIx n 0 lo) s) : wpAny (model prog w) A (Builtin.Slice.sliceApplied (.ref sl) (pure (n : Int))) Q E s := by
 obtain ⟨os, hos, hcs, hds⟩ := id hs
 unfold Builtin.Slice.sliceApplied Builtin.Slice.sliceFields
 refine wpAny_bind (wpAny_bind (wpAny_field hos hds (x := vl) rfl (wpAny_bind (wpAny_field hos hds (x := vu) rfl (wpAny_bind (wpAny_field hos hds (x := .none) rfl (wpAny_pure ?_)))))))
 refine wpAny_bind (slicePart_none ?_)
 show wpAny _ _ (if ((1 : Int) == 0) = true then _ else _) _ _ s
 rw [if_neg (by decide)]
 refine wpAny_bind (slicePart_ pl (wpAny_bind (slicePart_ pu (wpAny_bind (wpAny_pure ?_)))))
 show wpAny _ _ (match Builtin.Slice.sliceAdjust lo hi 1 (n : Int) with | (lo, hi) => pure (lo, (1 : Int), Builtin.Slice.slicePlaces lo hi 1)) _ _ s
 rw [adjust_gen lo hi n]
 show wpAny _ _ (pure (((sIx n 0 lo : Nat) : Int), (1 : Int), Builtin.Slice.slicePlaces ((sIx n 0 lo : Nat) : Int) ((sIx n n hi : Nat) : Int) 1)) _ _ s
 rw [places_gen]
 exact wpAny_pure h
theorem pick_gen (xs : Array Value) (i k : Nat) : ((List.range k).filterMap fun (m : Nat) => xs[((i : Int) + (m : Int) * 1).toNat]?).toArray = ((xs.toList.drop i).take k).toArray := by
 have e : (fun (m : Nat) => xs[((i : Int) + (m : Int) * 1).toNat]?) = fun m => xs[i + m]? := by
  funext m
  have : ((i : Int) + (m : Int) * 1).toNat = i + m := by omega
  rw [this]
 rw [e]
 have := pick_run xs i k
 rw [List.filterMap_map] at this
 have e2 : ((fun x => xs[x]?) ∘ fun x => i + x) = fun m => xs[i + m]? := rfl
 rw [e2] at this
 rw [this]
theorem getItem_tuple_cut {t sl : Addr} {items : Array Value} {vl vu : Value} {lo hi : Option Int} {Q : L2.VSP} (ht : IsTup s.heap t items) (hs : s.heap.IsSliceOf sl vl vu .none) (pl : IsPart vl lo) (pu : IsPart vu hi)
  (hw : ¬ (sIx items.size 0 lo = 0 ∧ sIx items.size items.size hi = items.size))
  (h : Q (.ref s.heap.objs.size) { s with heap := s.heap.push { cls := .type "tuple", data := .seq ((items.toList.drop (sIx items.size 0 lo)).take (sIx items.size items.size hi - sIx items.size 0 lo)).toArray } })
  (hsz : items.size ≤ sizeLine) : wpAny (model prog w) A (getItem (.ref t) (.ref sl)) Q E s := by
 have htake : sizeOk (.seq ((items.toList.drop (sIx items.size 0 lo)).take (sIx items.size items.size hi - sIx items.size 0 lo)).toArray) := by
  show ((items.toList.drop (sIx items.size 0 lo)).take (sIx items.size items.size hi - sIx items.size 0 lo)).toArray.size ≤ sizeLine
  rw [List.size_toArray, List.length_take, List.length_drop, Array.length_toList]
  omega
 have hj : sIx items.size items.size hi ≤ items.size := sIx_le _ _ (Nat.le_refl _) hi
 obtain ⟨os, hos, hcs, hds⟩ := id hs
 have hTs : s.TypeIs (.ref sl) "slice" := ⟨os, hos, hcs⟩
 unfold getItem
 try with_reducible refine wpAny_holding ?_
 first | refine wpAny_bind (wpAny_pure ?_) | skip
 refine wpAny_bind (wpAny_sequenceKey ht.typeIs (by decide) ?_)
 refine wpAny_bind (wpAny_callSpecial?_slot (name := Str.ofString "__getitem__") ht.typeIs PyProof.Rows.slot_tuple_getitem
  (wpAny_call_entry PyProof.Rows.slot_tuple_getitem ht.typeIs entry_tuple_getitem ?_ (args_tuple_getitem _ _)))
 show wpAny _ _ (Builtin.Tuple.tupleItemsOf (.ref t) >>= _) _ _ s
 refine wpAny_bind (tupleItemsOf_ ht ?_)
 refine wpAny_bind (wpAny_typeOf hTs ?_)
 rw [if_pos (by decide)]
 refine wpAny_bind (sliceApplied_gen hs pl pu ?_)
 have hno : ¬ ((((sIx items.size 0 lo : Nat) : Int) == 0 && (1 : Int) == 1 && (sIx items.size items.size hi - sIx items.size 0 lo) == items.size) = true) := by
  intro q
  rw [Bool.and_eq_true, Bool.and_eq_true] at q
  have q1 : ((sIx items.size 0 lo : Nat) : Int) = 0 := eq_of_beq q.1.1
  have q2 : sIx items.size items.size hi - sIx items.size 0 lo = items.size := eq_of_beq q.2
  exact hw ⟨by omega, by omega⟩
 show wpAny _ _ (if (((sIx items.size 0 lo : Nat) : Int) == 0 && (1 : Int) == 1 && (sIx items.size items.size hi - sIx items.size 0 lo) == items.size) = true then _ else _) _ _ s
 rw [if_neg hno, pick_gen]
 first
  | exact wpAny_bind (m := Builtin.Tuple.tupleExact _) (wpAny_newObj_type (wpAny_pure ⟨_, rfl, wpAny_pure h⟩) htake)
  | exact wpAny_bind (m := Builtin.Tuple.tupleExact _) (wpAny_newObj_type (wpAny_bind (wpAny_pure (wpAny_pure ⟨_, rfl, wpAny_pure h⟩))) htake)
  | exact wpAny_bind (wpAny_bind (m := Builtin.Tuple.tupleExact _) (wpAny_newObj_type (wpAny_pure (wpAny_pure ⟨_, rfl, wpAny_pure h⟩)) htake))
  | exact wpAny_bind (wpAny_bind (m := Builtin.Tuple.tupleExact _) (wpAny_newObj_type (wpAny_pure ⟨_, rfl, wpAny_pure h⟩) htake))
end
end HT
namespace L2
open PySem PySem.Spec PyProof.Rows
noncomputable abbrev TO := St → Hp → (Option Int → Hp → Prop) → Prop
noncomputable def PO (X : Cx) (e : Option Expr) (t : TO) : Prop :=
 ∀ (pins : L2.AO) (s : Shared) (σ : St) (H : Hp) (Q : Option Int → Hp → Prop), Inv X pins σ H s → t σ H Q →
  wpAny (model X.prog X.w) X.A (evalPart e X.env) (fun u s' => ∃ o H', Inv X pins σ H' s' ∧ IsPart u o ∧ Q o H') X.xe s
noncomputable def tNoPart : TO := fun ψ H Q => Q none H
noncomputable def tPart (t : TE) : TO := fun σ H Q => t σ H fun x H1 => ∃ i, x = .int i ∧ Q (some i) H1
theorem intsAre_of {ns : List Int} : ∀ {us : List Value}, Vals (ns.map V.int) us → IntsAre us ns := by
 induction ns with
 | nil => intro us r; rw [List.map_nil] at r; cases r; exact .nil
 | cons n ns ih =>
  intro us r
  rw [List.map_cons] at r
  cases r with
  | cons r1 r2 =>
   obtain ⟨t, e⟩ := r1
   subst e
   exact .cons n t (ih r2)
section
variable {X : Cx} {e : Expr} {te : TE} {lo hi : Option Expr} {tl th : TO} {pos p2 : Pos}
theorem po_none : PO X none tNoPart := by
 intro pins s σ H Q I h
 rw [evalPart_none]
 exact wpAny_pure ⟨none, H, I, .none, h⟩
theorem po_some (h : PE X e te) : PO X (some e) (tPart te) := by
 intro pins s σ H Q I hw
 rw [evalPart_some]
 refine thn (h pins s σ H _ I hw) fun u s1 ⟨x, H1, I1, r1, q1⟩ => ?_
 obtain ⟨i, rfl, q⟩ := q1
 obtain ⟨t, rfl⟩ := r1
 exact ⟨some i, H1, I1, .int i t, q⟩
noncomputable def SlR (X : Cx) (r : V → Option Int → Option Int → Hp → VK → Prop) : Prop :=
 ∀ (pins : L2.AO) (s : Shared) (σ : St) (H : Hp) (x : V) (v vl vu : Value) (lo hi : Option Int) (sl : Addr) (Q : VK), Inv X pins σ H s → RelV x v → s.heap.IsSliceOf sl vl vu .none → IsPart vl lo → IsPart vu hi → r x lo hi H Q →
  ∃ T id, typeLookup (.type T) "__getitem__" = pure (some (.builtin id)) ∧ s.TypeIs v T ∧ wpAny (model X.prog X.w) X.A (getItem v (.ref sl)) (EP X pins σ Q) X.xe s
theorem SlR.or {r r' : V → Option Int → Option Int → Hp → VK → Prop} (h : SlR X r) (h' : SlR X r') : SlR X (fun x lo hi H Q => r x lo hi H Q ∨ r' x lo hi H Q) := by
 intro pins s σ H x v vl vu lo hi sl Q I rx hs pl pu q
 rcases q with q | q
 ·exact h pins s σ H x v vl vu lo hi sl Q I rx hs pl pu q
 ·exact h' pins s σ H x v vl vu lo hi sl Q I rx hs pl pu q
noncomputable def tSl (r : V → Option Int → Option Int → Hp → VK → Prop) (te : TE) (tl th : TO) : TE := fun σ H Q => te σ H fun x H1 => tl σ H1 fun l H2 => th σ H2 fun u H3 => r x l u H3 Q
theorem pe_slice {r : V → Option Int → Option Int → Hp → VK → Prop} (hr : SlR X r) (he : PE X e te) (hl : PO X lo tl) (hu : PO X hi th) : PE X (.Subscript e (.Slice lo hi none p2) pos) (tSl r te tl th) := by
 intro pins s σ H Q I h
 refine Subscript_ (thn (he pins s σ H _ I h) fun v s1 ⟨x, H1, I1, r1, q1⟩ => ?_)
 refine wpAny_Slice (thn (hl pins s1 σ H1 _ I1 q1) fun vl s2 ⟨l, H2, I2, pl, q2⟩ => thn (hu pins s2 σ H2 _ I2 q2) fun vu s3 ⟨u, H3, I3, pu, q3⟩ => ?_)
 rw [evalPart_none]
 refine wpAny_pure ?_
 have I4 : Inv X pins σ H3 { s3 with heap := s3.heap.push { cls := .type "slice", data := .fields #[vl, vu, .none] } } := I3.kept (t' := s3.toks) fun b ob q => Heap.get?_push_of_some _ q
 obtain ⟨T, id, hT, ht, hg⟩ := hr pins { s3 with heap := s3.heap.push { cls := .type "slice", data := .fields #[vl, vu, .none] } } σ H3 x v vl vu l u s3.heap.objs.size Q I4 r1 (Heap.IsSliceOf.new ..) pl pu q3
 show wpAny (model X.prog X.w) X.A (subscriptTail e (.Slice lo hi none p2) v (.ref s3.heap.objs.size)) (EP X pins σ Q) X.xe { s3 with heap := s3.heap.push { cls := .type "slice", data := .fields #[vl, vu, .none] } }
 exact tail_any (ops := [.ref s3.heap.objs.size, v]) ht hT hg (by with_unfolding_all rfl)
noncomputable def cutV (xs : List V) (lo hi : Option Int) : List V := (xs.drop (HT.sIx xs.length 0 lo)).take (HT.sIx xs.length xs.length hi - HT.sIx xs.length 0 lo)
theorem cutV_length (xs : List V) (lo hi : Option Int) : (cutV xs lo hi).length ≤ xs.length := by
 unfold cutV
 rw [List.length_take, List.length_drop]
 omega
noncomputable def rSlT (K : L2.Fg) : V → Option Int → Option Int → Hp → VK → Prop := fun x lo hi H Q => ∃ a xs, x = .ref a ∧ SqT K H a xs ∧
 ¬ (HT.sIx xs.length 0 lo = 0 ∧ HT.sIx xs.length xs.length hi = xs.length) ∧ ∀ p, H p = none → Q (.ref p) (upd H p (.tup (cutV xs lo hi)))
theorem sl_tup : SlR X (rSlT X.K) := by
 intro pins s σ H x v vl vu lo hi sl Q I rx hs pl pu h
 obtain ⟨a, xs, rfl, hx, hw, q⟩ := h
 cases rx
 obtain ⟨its, r, ht, hz⟩ := I.tuple hx
 have hlen : its.toArray.size = xs.length := by rw [List.size_toArray]; exact r.length.symm
 refine ⟨"tuple", _, PyProof.Rows.slot_tuple_getitem.lookup, ht.typeIs, ?_⟩
 refine HT.getItem_tuple_cut ht hs pl pu (by rw [hlen]; exact hw) ?_ (by rw [hlen]; exact hz)
 rw [hlen]
 refine ⟨.ref s.heap.objs.size, _, I.laid (t' := s.toks) (o := .tup (cutV xs lo hi)) (fun b ob q => Heap.get?_push_of_some _ q) (Nat.le_refl _) ?_, rfl, q _ (I.hok.fresh (Nat.le_refl _))⟩
 exact ⟨Nat.le_trans (cutV_length xs lo hi) hz, _, (r.drop (HT.sIx xs.length 0 lo)).take (HT.sIx xs.length xs.length hi - HT.sIx xs.length 0 lo), IsTup.new _ _⟩
noncomputable def rCatT (K : L2.Fg) : R2 := fun x y H Q => ∃ a b xs ys, x = .ref a ∧ y = .ref b ∧ SqT K H a xs ∧ SqT K H b ys ∧ xs ≠ [] ∧ xs.length + ys.length ≤ sizeLine ∧
 (ys = [] → Q (.ref a) H) ∧ (ys ≠ [] → ∀ p, H p = none → Q (.ref p) (upd H p (.tup (xs ++ ys))))
theorem Vals.nil_iff {xs : List V} {us : List Value} (r : Vals xs us) : us = [] ↔ xs = [] := by
 cases r with
 | nil => simp
 | cons _ _ => simp
theorem op_catT : OpR X (binaryOp .Add) (rCatT X.K) := by
 intro pins s σ H x y v u Q I rx ry h
 obtain ⟨a, b, xs, ys, rfl, rfl, ha, hb, hx, hz, q1, q2⟩ := h
 cases rx
 cases ry
 obtain ⟨its, r1, p1, _⟩ := I.tuple ha
 obtain ⟨its2, r2, p2, _⟩ := I.tuple hb
 refine HT.cat_tup p1 p2 (fun z => hx (r1.nil_iff.mp z)) (fun z => ⟨.ref a, H, I, rfl, q1 (r2.nil_iff.mp z)⟩) (fun z => ?_) (by rw [← r1.length, ← r2.length]; exact hz)
 refine ⟨.ref s.heap.objs.size, _, I.laid (t' := s.toks) (o := .tup (xs ++ ys)) (fun b ob q => Heap.get?_push_of_some _ q) (Nat.le_refl _) ?_, rfl, q2 (fun w => z (r2.nil_iff.mpr w)) _ (I.hok.fresh (Nat.le_refl _))⟩
 exact ⟨by rw [List.length_append]; exact hz, _, r1.append r2, IsTup.new _ _⟩
end
noncomputable def ixN (n : Nat) (i : Int) : Option Nat := if 0 ≤ i then (if i < n then some i.toNat else none) else if -(n : Int) ≤ i then some (i + n).toNat else none
noncomputable def atI {α : Type} (xs : List α) (i : Int) : Option α := (ixN xs.length i).bind fun j => xs[j]?
theorem ixN_seq {n : Nat} {i : Int} {j : Nat} (h : ixN n i = some j) : seqIndex? i n = some j ∧ j < n ∧ -(n : Int) ≤ i ∧ i < n := by
 unfold ixN at h
 by_cases h0 : 0 ≤ i
 ·rw [if_pos h0] at h
  by_cases h1 : i < n
  ·rw [if_pos h1] at h
   have e : i.toNat = j := Option.some.inj h
   exact ⟨by rw [seqIndex_of h0 h1, e], by omega, by omega, h1⟩
  ·rw [if_neg h1] at h; cases h
 ·rw [if_neg h0] at h
  by_cases h1 : -(n : Int) ≤ i
  ·rw [if_pos h1] at h
   have e : (i + n).toNat = j := Option.some.inj h
   exact ⟨by rw [seqIndex_neg (by omega) h1, e], by omega, h1, by omega⟩
  ·rw [if_neg h1] at h; cases h
theorem atI_get {α : Type} {xs : List α} {i : Int} {v : α} (h : atI xs i = some v) : ∃ j, seqIndex? i xs.length = some j ∧ xs[j]? = some v ∧ j < xs.length ∧ -(xs.length : Int) ≤ i ∧ i < xs.length := by
 unfold atI at h
 cases e : ixN xs.length i with
 | none => rw [e] at h; cases h
 | some j =>
  rw [e] at h
  obtain ⟨h1, h2, h3, h4⟩ := ixN_seq e
  exact ⟨j, h1, h, h2, h3, h4⟩
noncomputable def PlainIx (b : Expr) : Prop := ∀ o i, subscripted b false o i = operate [o, i] (getItem o i)
noncomputable def IxR (X : Cx) (r : R2) : Prop :=
 ∀ (value slice : Expr) (pins : L2.AO) (s : Shared) (σ : St) (H : Hp) (x y : V) (v u : Value) (Q : VK), Inv X pins σ H s → RelV x v → RelV y u → r x y H Q →
  subscripted slice false v u = operate [v, u] (getItem v u) → wpAny (model X.prog X.w) X.A (subscriptTail value slice v u) (EP X pins σ Q) X.xe s
noncomputable def MtR (X : Cx) (id : String) (r : V → List V → Hp → VK → Prop) : Prop :=
 ∀ (pins : L2.AO) (s : Shared) (σ : St) (H : Hp) (x : V) (xs : List V) (v : Value) (us : List Value) (Q : VK), Inv X pins σ H s → RelV x v → Vals xs us → r x xs H Q →
  wpAny (model X.prog X.w) X.A (call (.builtin id) (v :: us)) (EP X pins σ Q) X.xe s
section
variable {X : Cx} {a b : Expr} {ta tb : TE} {pos : Pos}
theorem IxR.or {r r' : R2} (h : IxR X r) (h' : IxR X r') : IxR X (fun x y H Q => r x y H Q ∨ r' x y H Q) := by
 intro value slice pins s σ H x y v u Q I rx ry q hs
 rcases q with q | q
 ·exact h value slice pins s σ H x y v u Q I rx ry q hs
 ·exact h' value slice pins s σ H x y v u Q I rx ry q hs
theorem pe_ix {r : R2} (hr : IxR X r) (ha : PE X a ta) (hb : PE X b tb) (hs : PlainIx b) : PE X (.Subscript a b pos) (tOp r ta tb) := by
 intro pins s σ H Q I h
 exact Subscript_ (binT ha hb I h fun v u s2 x y H2 I2 rx ry q => hr a b pins s2 σ H2 x y v u Q I2 rx ry q (hs _ _))
noncomputable def rIxL (K : L2.Fg) : R2 := fun x y H Q => ∃ p xs i v, x = .ref p ∧ y = .int i ∧ SqL K H p xs ∧ atI xs i = some v ∧ Q v H
noncomputable def rIxT (K : L2.Fg) : R2 := fun x y H Q => ∃ p xs i v, x = .ref p ∧ y = .int i ∧ SqT K H p xs ∧ atI xs i = some v ∧ Q v H
theorem ix_list : IxR X (rIxL X.K) := by
 intro value slice pins s σ H x y v u Q I rx ry h hs
 obtain ⟨p, xs, i, z, rfl, rfl, hq, he, q⟩ := h
 cases rx
 obtain ⟨t, rfl⟩ := ry
 obtain ⟨its, r, pl, hz⟩ := I.list hq
 obtain ⟨j, h1, h2, h3, h4, h5⟩ := atI_get he
 obtain ⟨w, ew, rw'⟩ := r.get h2
 have hl := r.length
 have hn := line63
 have fin : EP X pins σ Q w s := ⟨z, H, I, rw', q⟩
 by_cases h0 : 0 ≤ i
 ·have hj : i.toNat = j := by
   rw [seqIndex_of h0 h5] at h1
   exact Option.some.inj h1
  exact item_listR pl.isList h0 (by omega) (by rw [hj]; simpa using ew) fin hs
 ·have hj : (i + (its.toArray.size : Int)).toNat = j := by
   rw [seqIndex_neg (by omega) h4] at h1
   rw [List.size_toArray, ← hl]
   exact Option.some.inj h1
  exact subscriptTail_builtinR (x := w) pl.isList.typeIs slot_list_getitem.lookup
   (wpAny_getItem_list_neg (Q := fun r s' => r = w ∧ EP X pins σ Q r s') pl.isList (by omega) (by rw [List.size_toArray] <;> omega) (by omega) (by rw [hj]; simpa using ew) ⟨rfl, fin⟩) hs
theorem ix_tup : IxR X (rIxT X.K) := by
 intro value slice pins s σ H x y v u Q I rx ry h hs
 obtain ⟨p, xs, i, z, rfl, rfl, hq, he, q⟩ := h
 cases rx
 obtain ⟨t, rfl⟩ := ry
 obtain ⟨its, r, pl, hz⟩ := I.tuple hq
 obtain ⟨j, h1, h2, h3, h4, h5⟩ := atI_get he
 obtain ⟨w, ew, rw'⟩ := r.get h2
 have hl := r.length
 have hn := line63
 have fin : EP X pins σ Q w s := ⟨z, H, I, rw', q⟩
 exact subscriptTail_builtinR (x := w) pl.typeIs slot_tuple_getitem.lookup
  (getItem_tuple (j := j) (Q := fun r s' => r = w ∧ EP X pins σ Q r s') pl (by omega) (by omega) (by rw [List.size_toArray, ← hl]; exact h1) (by simpa using ew) ⟨rfl, fin⟩) hs
theorem Inv.lst {pins : L2.AO} {σ : St} {H : Hp} {s : Shared} {p : Addr} {xs : List V} (I : Inv X pins σ H s) (h : H p = some (.lst xs)) :
  ∃ (its : List Value) (n : Nat), Vals xs its ∧ s.heap.get? p = some { cls := .type "list", data := .seq its.toArray n } ∧ xs.length ≤ sizeLine := by
 obtain ⟨z, its, n, r, e⟩ := I.hok p _ h
 exact ⟨its, n, r, e, z⟩
theorem slice_bounds (lo hi : Option Int) (n : Nat) : (sliceBounds lo hi none n).1 = ((HT.sIx n 0 lo : Nat) : Int) ∧ (sliceBounds lo hi none n).2.1 = ((HT.sIx n n hi : Nat) : Int) ∧ (sliceBounds lo hi none n).2.2 = 1 := by
 refine ⟨?_, ?_, rfl⟩
 ·cases lo with
  | none => simp [sliceBounds, HT.sIx]
  | some i =>
   simp only [sliceBounds, HT.sIx, Option.getD_none, show (1 : Int) > 0 by decide, if_true]
   by_cases h : i < 0
   ·simp only [h, if_true] <;> omega
   ·simp only [h, if_false] <;> omega
 ·cases hi with
  | none => simp [sliceBounds, HT.sIx]
  | some i =>
   simp only [sliceBounds, HT.sIx, Option.getD_none, show (1 : Int) > 0 by decide, if_true]
   by_cases h : i < 0
   ·simp only [h, if_true] <;> omega
   ·simp only [h, if_false] <;> omega
theorem slicePick_cut (its : List Value) (lo hi : Option Int) : slicePick its.toArray lo hi none = ((its.drop (HT.sIx its.length 0 lo)).take (HT.sIx its.length its.length hi - HT.sIx its.length 0 lo)).toArray := by
 obtain ⟨h1, h2, h3⟩ := slice_bounds lo hi its.toArray.size
 unfold slicePick
 rw [h1, h2, h3]
 simp only [sliceRange_one, pick_run, List.size_toArray] <;> rfl
noncomputable def rSlL (K : L2.Fg) : V → Option Int → Option Int → Hp → VK → Prop := fun x lo hi H Q => ∃ a xs, x = .ref a ∧ SqL K H a xs ∧ ∀ p, H p = none → Q (.ref p) (upd H p (.lst (cutV xs lo hi)))
theorem sl_list : SlR X (rSlL X.K) := by
 intro pins s σ H x v vl vu lo hi sl Q I rx hs pl pu h
 obtain ⟨a, xs, rfl, hx, q⟩ := h
 cases rx
 obtain ⟨its, r, ht, hz⟩ := I.list hx
 have hlen := r.length
 refine ⟨"list", _, slot_list_getitem.lookup, ht.isList.typeIs, ?_⟩
 refine wpAny_getItem_list_slice ht.isList hs pl pu .none (by simp) ?_ (by rw [List.size_toArray] <;> omega)
 rw [slicePick_cut, ← hlen]
 refine ⟨.ref s.heap.objs.size, _, I.laid (t' := s.toks) (o := .lst (cutV xs lo hi)) (fun b ob q => Heap.get?_push_of_some _ q) (Nat.le_refl _) ?_, rfl, q _ (I.hok.fresh (Nat.le_refl _))⟩
 exact ⟨Nat.le_trans (cutV_length xs lo hi) hz, _, 0, (r.drop (HT.sIx xs.length 0 lo)).take (HT.sIx xs.length xs.length hi - HT.sIx xs.length 0 lo), Heap.get?_push_size _ rfl⟩
noncomputable def flatV : V → Bool
 | .non => true
 | .bl _ => true
 | .int _ => true
 | .str _ => true
 | _ => false
noncomputable def eqV : V → V → Bool
 | .non, .non => true
 | .bl a, .bl b => a == b
 | .bl a, .int b => (if a then 1 else 0) == b
 | .int a, .bl b => a == (if b then 1 else 0)
 | .int a, .int b => a == b
 | .str a, .str b => a == b
 | _, _ => false
theorem eqAt_V {A : Around} {s : Shared} {y x : V} {u v : Value} (ry : RelV y u) (rx : RelV x v) (fy : flatV y = true) (fx : flatV x = true) : SeqAt.EqAt A s u v (eqV y x) := by
 cases y with
 | non =>
  cases ry
  cases x with
  | non => cases rx; exact SeqAt.EqAt.same _
  | bl b => cases rx; exact SeqAt.EqAt.none_bool b
  | int b => obtain ⟨t, rfl⟩ := rx; exact SeqAt.EqAt.none_int b t
  | str b => obtain ⟨t, rfl⟩ := rx; exact SeqAt.EqAt.none_str b t
  | _ => exact absurd (show false = true from fx) Bool.false_ne_true
 | bl a =>
  cases ry
  cases x with
  | non => cases rx; exact SeqAt.EqAt.bool_none a
  | bl b => cases rx; exact SeqAt.EqAt.bool_bool a b
  | int b => obtain ⟨t, rfl⟩ := rx; exact SeqAt.EqAt.bool_int a b t
  | str b => obtain ⟨t, rfl⟩ := rx; exact SeqAt.EqAt.bool_str a b t
  | _ => exact absurd (show false = true from fx) Bool.false_ne_true
 | int a =>
  obtain ⟨t', rfl⟩ := ry
  cases x with
  | non => cases rx; exact SeqAt.EqAt.int_none a t'
  | bl b => cases rx; exact SeqAt.EqAt.int_bool a t' b
  | int b => obtain ⟨t, rfl⟩ := rx; exact SeqAt.EqAt.int_int a t' b t
  | str b => obtain ⟨t, rfl⟩ := rx; exact SeqAt.EqAt.int_str a t' b t
  | _ => exact absurd (show false = true from fx) Bool.false_ne_true
 | str a =>
  obtain ⟨t', rfl⟩ := ry
  cases x with
  | non => cases rx; exact SeqAt.EqAt.str_none a t'
  | bl b => cases rx; exact SeqAt.EqAt.str_bool a t' b
  | int b => obtain ⟨t, rfl⟩ := rx; exact SeqAt.EqAt.str_int a t' b t
  | str b => obtain ⟨t, rfl⟩ := rx; exact SeqAt.EqAt.str_str a t' b t
  | _ => exact absurd (show false = true from fx) Bool.false_ne_true
 | _ => exact absurd (show false = true from fy) Bool.false_ne_true
theorem call_len_seq : CallR X (.builtin "len") (fun xs H Q => ∃ p ys, xs = [.ref p] ∧ (SqL X.K H p ys ∨ SqT X.K H p ys) ∧ Q (.int ys.length) H) := by
 intro pins s σ H xs us Q I r h
 obtain ⟨p, ys, rfl, hq, q⟩ := h
 obtain ⟨u, rfl, rx⟩ := vals1 r
 cases rx
 have hn := line63
 rcases hq with hq | hq
 ·obtain ⟨its, r', pl, hz⟩ := I.list hq
  have hlen := r'.length
  exact Calls.call_len_list pl.isList (by simp only [List.size_toArray] <;> omega) ⟨.int ys.length, H, I.tok _, ⟨s.toks + 1, by rw [List.size_toArray, hlen]⟩, q⟩
 ·obtain ⟨its, r', pl, hz⟩ := I.tuple hq
  have hlen := r'.length
  exact len_tuple pl (by simp only [List.size_toArray] <;> omega) ⟨.int ys.length, H, I.tok _, ⟨s.toks + 1, by rw [List.size_toArray, hlen]⟩, q⟩
theorem CallR.or {f : Value} {r r' : List V → Hp → VK → Prop} (h : CallR X f r) (h' : CallR X f r') : CallR X f (fun xs H Q => r xs H Q ∨ r' xs H Q) := by
 intro pins s σ H xs us Q I rs q
 rcases q with q | q
 ·exact h pins s σ H xs us Q I rs q
 ·exact h' pins s σ H xs us Q I rs q
theorem call_list_of : CallR X (.type "list") (fun xs H Q => ∃ p ys, xs = [.ref p] ∧ (SqL X.K H p ys ∨ SqT X.K H p ys) ∧ ∀ l, H l = none → Q (.ref l) (upd H l (.lst ys))) := by
 intro pins s σ H xs us Q I r h
 obtain ⟨p, ys, rfl, hq, q⟩ := h
 obtain ⟨u, rfl, rx⟩ := vals1 r
 cases rx
 have fin : ∀ (its : List Value), Vals ys its → ys.length ≤ sizeLine → ∀ (h' : Heap) (c' : Nat), (∀ b o', s.heap.get? b = some o' → h'.get? b = some o') →
   h'.get? s.heap.objs.size = some { cls := .type "list", dict := none, data := .seq its.toArray c', slots := #[] } → EP X pins σ Q (.ref s.heap.objs.size) { s with heap := h' } := fun its r' hz h' c' kp e =>
  ⟨.ref s.heap.objs.size, _, I.laid (t' := s.toks) kp (Nat.le_refl _) (show ObjOk X.prog X.w _ h' _ (.lst ys) from ⟨hz, its, c', r', e⟩), rfl, q _ (I.hok.fresh (Nat.le_refl _))⟩
 rcases hq with hq | hq
 ·obtain ⟨its, r', pl, hz⟩ := I.list hq
  have hlen := r'.length
  obtain ⟨o, ho, hc, n, hd⟩ := pl.isList
  exact call_list_seq p (.inl rfl) ho hc hd (fun h' c' kp e => fin its r' hz h' c' kp e) (by simp only [List.size_toArray] <;> omega)
 ·obtain ⟨its, r', pl, hz⟩ := I.tuple hq
  have hlen := r'.length
  obtain ⟨o, ho, hc, n, hd⟩ := pl
  exact call_list_seq p (.inr rfl) ho hc hd (fun h' c' kp e => fin its r' hz h' c' kp e) (by simp only [List.size_toArray] <;> omega)
theorem call_tuple_of : CallR X (.type "tuple") (fun xs H Q => ∃ p ys, xs = [.ref p] ∧ ((SqL X.K H p ys ∧ ∀ l, H l = none → Q (.ref l) (upd H l (.tup ys))) ∨ (SqT X.K H p ys ∧ Q (.ref p) H))) := by
 intro pins s σ H xs us Q I r h
 obtain ⟨p, ys, rfl, h⟩ := h
 obtain ⟨u, rfl, rx⟩ := vals1 r
 cases rx
 rcases h with ⟨hq, q⟩ | ⟨hq, q⟩
 ·obtain ⟨its, r', pl, hz⟩ := I.list hq
  have hlen := r'.length
  refine call_tuple_list pl.isList (fun h' kp => ?_) (by simp only [List.size_toArray] <;> omega)
  have I1 : Inv X pins σ H { s with heap := h' } := I.kept (t' := s.toks) kp
  have I2 : Inv X pins σ (upd H h'.objs.size (.tup ys)) { s with heap := h'.push { cls := .type "tuple", data := .seq its.toArray } } :=
   I1.laid (t' := s.toks) (fun b o e => Heap.get?_push_of_some _ e) (Nat.le_refl _) (show ObjOk X.prog X.w _ _ _ (.tup ys) from ⟨hz, its, r', IsTup.new _ _⟩)
  exact ⟨.ref h'.objs.size, _, I2, rfl, q _ (I1.hok.fresh (Nat.le_refl _))⟩
 ·obtain ⟨its, r', pl, hz⟩ := I.tuple hq
  exact call_tuple_same pl ⟨.ref p, H, I, rfl, q⟩
noncomputable def tyV (K : L2.Fg) (T : String) (x : V) (H : Hp) : Prop := match x with
 | .str _ => T = "str"
 | .int _ => T = "int"
 | .ref p => (T = "list" ∧ ∃ xs, SqL K H p xs) ∨ (T = "tuple" ∧ ∃ o, K.lookup p = some o ∧ o.cls = .type "tuple" ∧ o.dict = none) ∨
   (T = "dict" ∧ ((∃ kvs, H p = some (.dK kvs)) ∨ ∃ kvs, H p = some (.dT kvs))) ∨ (T = "set" ∧ ∃ S n, H p = some (.set S n))
 | _ => False
theorem tyV_is {pins : L2.AO} {σ : St} {H : Hp} {s : Shared} {T : String} {x : V} {v : Value} (I : Inv X pins σ H s) (r : RelV x v) (ty : tyV X.K T x H) :
  s.TypeIs v T ∧ ∀ a, v = .ref a → ∃ ob, s.heap.get? a = some ob ∧ ob.dict = none := by
 cases x with
 | str z =>
  obtain ⟨t, rfl⟩ := r
  cases (show T = "str" from ty)
  exact ⟨typeIs_str s z t, fun ψ e => nomatch e⟩
 | int i =>
  obtain ⟨t, rfl⟩ := r
  cases (show T = "int" from ty)
  exact ⟨typeIs_int s i t, fun ψ e => nomatch e⟩
 | ref p =>
  cases r
  rcases ty with ⟨rfl, xs, hq⟩ | ⟨rfl, o, hk, hc, hd⟩ | ⟨rfl, hk⟩ | ⟨rfl, S, n, hk⟩
  ·obtain ⟨its, _, pl, _⟩ := I.list hq
   refine ⟨pl.isList.typeIs, fun a e => ?_⟩
   cases e
   obtain ⟨o, n, e, c, hd, _⟩ := pl
   exact ⟨o, e, hd⟩
  ·refine ⟨⟨o, I.kIn p o hk, hc⟩, fun a e => ?_⟩
   cases e
   exact ⟨o, I.kIn _ o hk, hd⟩
  ·have z : ∃ o, s.heap.get? p = some o ∧ o.ExactDict := by
    rcases hk with ⟨kvs, hk⟩ | ⟨kvs, hk⟩
    ·obtain ⟨_, _, _, _, o, _, _, e, ex, _⟩ := I.hok p _ hk
     exact ⟨o, e, ex⟩
    ·obtain ⟨_, _, _, _, o, _, _, e, ex, _⟩ := I.hok p _ hk
     exact ⟨o, e, ex⟩
   obtain ⟨o, e, ex⟩ := z
   refine ⟨⟨o, e, ex.1⟩, fun a e2 => ?_⟩
   cases e2
   exact ⟨o, e, ex.2.1⟩
  ·obtain ⟨o, _, _, _, e, ex, _⟩ := I.hok p _ hk
   refine ⟨⟨o, e, ex.1⟩, fun a e2 => ?_⟩
   cases e2
   exact ⟨o, e, ex.2.1⟩
 | _ => exact False.elim ty
noncomputable def tBM0 (K : L2.Fg) (T : String) (r : V → List V → Hp → VK → Prop) (to : TE) : TE := fun σ H Q => to σ H fun x H1 => tyV K T x H1 ∧ r x [] H1 Q
noncomputable def tBM (K : L2.Fg) (T : String) (r : V → List V → Hp → VK → Prop) (to : TE) (t : TA) : TE := fun σ H Q => to σ H fun x H1 => tyV K T x H1 ∧ t σ H1 fun xs H2 => r x xs H2 Q
variable {o e : Expr} {es : List Expr} {to : TE} {t : TA} {name : Str} {apos cpos : Pos} {T id : String} {r : V → List V → Hp → VK → Prop}
theorem pe_bm0 (pa : PlainAttrs T) (slot : Slot T name id) (hty : typeOf (.builtin id) = pure (.type "method_descriptor")) (hm : MtR X id r) (ho : PE X o to)
  (hbase : attributeBase o name X.env (eval o X.env) = eval o X.env := by rfl) (hline : (apos.endLine == cpos.line) = true := by rfl) : PE X (.Call (.Attribute o name apos) [] [] cpos) (tBM0 X.K T r to) := by
 intro pins s σ H Q I h
 refine wpAny_Call_method0_late hbase hline (thn (ho pins s σ H _ I h) fun v s1 ⟨x, H1, I1, r1, ty, q1⟩ => ?_)
 obtain ⟨h1, h2⟩ := tyV_is I1 r1 ty
 exact ⟨T, id, pa, slot, hty, h1, h2, Calls.callWith_builtin rfl (PySem.evalArgs_none (hm pins s1 σ H1 x [] v [] Q I1 r1 .nil q1))⟩
theorem pe_bm (pa : PlainAttrs T) (slot : Slot T name id) (hty : typeOf (.builtin id) = pure (.type "method_descriptor")) (hm : MtR X id r) (ho : PE X o to) (ha : PA X (e :: es) t)
  (hbase : attributeBase o name X.env (eval o X.env) = eval o X.env := by rfl)
  (hfew : ((backTo cpos (starEach (e :: es) X.env)).all (fun x => !x.1) && (backToKw cpos (keywordEach [] X.env)).all (fun x => x.1.isSome)
   && decide ((e :: es).length + ([] : List Keyword).length + (if ([] : List Keyword).isEmpty then 0 else 1) < 30)) = true := by rfl)
  (hline : (apos.endLine == cpos.line) = true := by rfl) (hs : starEach (e :: es) X.env = (false, eval e X.env) :: starEach es X.env := by rfl) (hplain : (backTo cpos (starEach es X.env)).any (·.1) = false := by rfl) :
  PE X (.Call (.Attribute o name apos) (e :: es) [] cpos) (tBM X.K T r to t) := by
 intro pins s σ H Q I h
 refine wpAny_Call_method_late hbase hfew hline rfl (thn (ho pins s σ H _ I h) fun v s1 ⟨x, H1, I1, r1, ty, q1⟩ => ?_)
 obtain ⟨h1, h2⟩ := tyV_is I1 r1 ty
 refine ⟨T, id, pa, slot, hty, h1, h2, ?_⟩
 have hA := ha cpos pins s1 σ H1 _ I1 q1
 rw [hs] at hA ⊢
 refine Calls.callWith_builtin (by show (false || (backTo cpos (starEach es X.env)).any (·.1)) = false; rw [hplain] <;> rfl) (Calls.evalArgs_plain ?_)
 exact thn hA fun us s2 ⟨vs, H2, I2, r2, q2⟩ => hm pins s2 σ H2 x vs v us Q I2 r1 r2 q2
end
noncomputable def MtM (X : Cx) (id : String) (r : V → List V → Hp → VK → Prop) : Prop :=
 ∀ (pins : L2.AO) (s : Shared) (σ : St) (H : Hp) (x : V) (xs : List V) (v : Value) (us : List Value) (Q : VK), Inv X pins σ H s → RelV x v → Vals xs us → r x xs H Q →
  wpAny (model X.prog X.w) X.A (call (.builtin id) (v :: us)) (EP X pins σ Q) X.xe s
theorem Vals.one : ∀ {x : V} {us : List Value}, Vals [x] us → ∃ u, us = [u] ∧ RelV x u
 | _, _, .cons r .nil => ⟨_, rfl, r⟩
theorem Vals.two : ∀ {x y : V} {us : List Value}, Vals [x, y] us → ∃ u v, us = [u, v] ∧ RelV x u ∧ RelV y v
 | _, _, _, .cons r (.cons q .nil) => ⟨_, _, rfl, r, q⟩
theorem Vals.zero : ∀ {us : List Value}, Vals [] us → us = []
 | _, .nil => rfl
theorem Vals.dropLast {xs : List V} {us : List Value} (h : Vals xs us) : Vals xs.dropLast us.dropLast := by
 induction h with
 | nil => exact .nil
 | cons r t ih =>
  cases t with
  | nil => exact .nil
  | cons q t' => exact .cons r ih
theorem Vals.eraseIdx : ∀ {xs : List V} {us : List Value} (i : Nat), Vals xs us → Vals (xs.eraseIdx i) (us.eraseIdx i)
 | _, _, _, .nil => .nil
 | _, _, 0, .cons _ t => t
 | _, _, i + 1, .cons r t => .cons r (Vals.eraseIdx i t)
theorem Vals.reverse {xs : List V} {us : List Value} (h : Vals xs us) : Vals xs.reverse us.reverse := by
 induction h with
 | nil => exact .nil
 | cons r t ih => rw [List.reverse_cons, List.reverse_cons]; exact Vals.append ih (.cons r .nil)
theorem erase_last {α : Type} (l : List α) : l.eraseIdx (l.length - 1) = l.dropLast := by
 induction l with
 | nil => rfl
 | cons a r ih =>
  cases r with
  | nil => rfl
  | cons b r =>
   have e : (a :: b :: r).length - 1 = ((b :: r).length - 1) + 1 := by
    have h1 : (a :: b :: r).length = r.length + 2 := rfl
    have h2 : (b :: r).length = r.length + 1 := rfl
    omega
   rw [e, List.eraseIdx_cons_succ, ih]
   all_goals rfl
section
variable {X : Cx} {pins : L2.AO} {σ : St} {H : Hp} {s : Shared} {l : Addr} {xs ys : List V}
theorem Inv.lset {its its' : List Value} {n : Nat} {f : Array Value → Array Value} {t' : Nat} (I : Inv X pins σ H s) (hH : H l = some (.lst xs))
  (e : s.heap.get? l = some { cls := .type "list", data := .seq its.toArray n }) (hf : f its.toArray = its'.toArray) (hv : Vals ys its') (hz : ys.length ≤ sizeLine) :
  Inv X pins σ (upd H l (.lst ys)) { s with heap := s.heap.update l (Obj.mapSeq f), toks := t' } := by
 have q := PySem.IsL.update e f
 rw [hf] at q
 refine I.write (x := l) (e := l) (by rw [hH]; exact trivial) (.inl rfl) (fun b' u hb hu => (Heap.get?_update_other s.heap (Obj.mapSeq f) (Ne.symm hb)).trans hu) ⟨_, q⟩ ?_
 exact ⟨hz, its', _, hv, q⟩
theorem Inv.lnew {its : List Value} {t' : Nat} (I : Inv X pins σ H s) (hv : Vals ys its) (hz : ys.length ≤ sizeLine) :
  Inv X pins σ (upd H s.heap.objs.size (.lst ys)) { s with heap := s.heap.push { cls := .type "list", data := .seq its.toArray }, toks := t' } :=
 I.laid (fun ψ ψ q => Heap.get?_push_of_some _ q) (Nat.le_refl _) ⟨hz, its, 0, hv, Heap.get?_push_size _ rfl⟩
theorem Inv.fresh (I : Inv X pins σ H s) : H s.heap.objs.size = none := I.hok.fresh (Nat.le_refl _)
theorem Inv.lstM (I : Inv X pins σ H s) (hH : H l = some (.lst xs)) : xs.length ≤ sizeLine ∧ ∃ (its : List Value) (n : Nat), Vals xs its ∧ xs.length = its.length ∧ s.heap.get? l = some { cls := .type "list", data := .seq its.toArray n } := by
 obtain ⟨z, its, n, r, e⟩ := I.hok l _ hH
 exact ⟨z, its, n, r, r.length, e⟩
theorem notLongL {n : Nat} (h : n ≤ sizeLine) : Builtin.List.listTooLong n = false := by
 unfold Builtin.List.listTooLong
 exact decide_eq_false (by omega)
end
section
variable {X : Cx}
noncomputable def rAppend : V → List V → Hp → VK → Prop := fun x vs H Q => ∃ l xs y, x = .ref l ∧ vs = [y] ∧ H l = some (.lst xs) ∧ xs.length < sizeLine ∧ Q .non (upd H l (.lst (xs ++ [y])))
theorem mt_append : MtM X "list.append" rAppend := by
 intro pins s σ H x vs v us Q I rx rv h
 obtain ⟨l, xs, y, rfl, rfl, hH, hz, q⟩ := h
 cases rx
 obtain ⟨u, rfl, ru⟩ := rv.one
 obtain ⟨z, its, n, r, hl, e⟩ := I.lstM hH
 refine call_meets F.slot_list_append ⟨_, e, rfl⟩ F.entry_list_append (F.args_list_append_2 _ _) (PySem.list_append l its.toArray n u (by rw [List.size_toArray]; omega)) ⟨e, ?_⟩
 refine ⟨.non, _, I.lset (its' := its ++ [u]) hH e (by simp) (r.append (.cons ru .nil)) ?_, rfl, q⟩
 rw [List.length_append, List.length_singleton]
 omega
noncomputable def rExtend : V → List V → Hp → VK → Prop := fun x vs H Q => ∃ l b xs zs, x = .ref l ∧ vs = [.ref b] ∧ H l = some (.lst xs) ∧ H b = some (.lst zs) ∧ xs.length + zs.length ≤ sizeLine ∧ Q .non (upd H l (.lst (xs ++ zs)))
theorem mt_extend : MtM X "list.extend" rExtend := by
 intro pins s σ H x vs v us Q I rx rv h
 obtain ⟨l, b, xs, zs, rfl, rfl, hH, hB, hz, q⟩ := h
 cases rx
 obtain ⟨u, rfl, ru⟩ := rv.one
 cases ru
 obtain ⟨z, its, n, r, hl, e⟩ := I.lstM hH
 obtain ⟨z2, its2, n2, r2, hl2, e2⟩ := I.lstM hB
 have hsz : its.toArray.size + its2.toArray.size ≤ sizeLine := by rw [List.size_toArray, List.size_toArray]; omega
 have hlong : ¬ (!its.toArray.isEmpty && Builtin.List.listTooLong (its.toArray.size + its2.toArray.size)) = true := by
  rw [notLongL hsz, Bool.and_false]
  exact Bool.false_ne_true
 refine call_meets F.slot_list_extend ⟨_, e, rfl⟩ F.entry_list_extend (F.args_list_extend_2 _ _)
  (AutoSeq1.list_extend_list_list_0 l its.toArray n b its2.toArray n2 hlong (by rw [List.size_toArray]; omega) (by omega)) ⟨e, e2, ?_⟩
 refine ⟨.non, _, I.lset (its' := its ++ its2) hH e (by simp) (r.append r2) ?_, rfl, q⟩
 rw [List.length_append]
 omega
noncomputable def rPop : V → List V → Hp → VK → Prop := fun x vs H Q => ∃ l xs y, x = .ref l ∧ vs = [] ∧ H l = some (.lst xs) ∧ xs[xs.length - 1]? = some y ∧ Q y (upd H l (.lst xs.dropLast))
theorem mt_pop : MtM X "list.pop" rPop := by
 intro pins s σ H x vs v us Q I rx rv h
 obtain ⟨l, xs, y, rfl, rfl, hH, hy, q⟩ := h
 cases rx
 have hus := rv.zero
 subst hus
 obtain ⟨z, its, n, r, hl, e⟩ := I.lstM hH
 obtain ⟨u, hu, ru⟩ := r.get hy
 have hy' : its.toArray[its.toArray.size - 1]? = some u := by
  show its.toArray[its.length - 1]? = some u
  rw [← Array.getElem?_toList, ← hl]
  exact hu
 refine call_meets F.slot_list_pop ⟨_, e, rfl⟩ F.entry_list_pop (F.args_list_pop_1 _) (MeetsSeq.list_pop_last l its.toArray n u hy' (by rw [List.size_toArray]; omega)) ⟨e, ?_⟩
 refine ⟨y, _, I.lset (its' := its.dropLast) hH e ?_ r.dropLast ?_, ru, q⟩
 ·show its.toArray.eraseIdxIfInBounds (its.toArray.size - 1) = its.dropLast.toArray
  rw [List.size_toArray, List.eraseIdxIfInBounds_toArray, erase_last]
 ·rw [List.length_dropLast]
  omega
noncomputable def rReverse : V → List V → Hp → VK → Prop := fun x vs H Q => ∃ l xs, x = .ref l ∧ vs = [] ∧ H l = some (.lst xs) ∧ Q .non (upd H l (.lst xs.reverse))
theorem mt_reverse : MtM X "list.reverse" rReverse := by
 intro pins s σ H x vs v us Q I rx rv h
 obtain ⟨l, xs, rfl, rfl, hH, q⟩ := h
 cases rx
 have hus := rv.zero
 subst hus
 obtain ⟨z, its, n, r, hl, e⟩ := I.lstM hH
 refine call_meets F.slot_list_reverse ⟨_, e, rfl⟩ F.entry_list_reverse (F.args_list_reverse_1 _) (AutoSeq1.list_reverse_list_0 l its.toArray n (by rw [List.size_toArray]; omega)) ⟨e, ?_⟩
 refine ⟨.non, _, I.lset (its' := its.reverse) hH e (by simp) r.reverse ?_, rfl, q⟩
 rw [List.length_reverse]
 omega
noncomputable def rClear : V → List V → Hp → VK → Prop := fun x vs H Q => ∃ l xs, x = .ref l ∧ vs = [] ∧ H l = some (.lst xs) ∧ Q .non (upd H l (.lst []))
theorem mt_clear : MtM X "list.clear" rClear := by
 intro pins s σ H x vs v us Q I rx rv h
 obtain ⟨l, xs, rfl, rfl, hH, q⟩ := h
 cases rx
 have hus := rv.zero
 subst hus
 obtain ⟨z, its, n, r, hl, e⟩ := I.lstM hH
 refine call_meets F.slot_list_clear ⟨_, e, rfl⟩ F.entry_list_clear (F.args_list_clear_1 _) (AutoSeq1.list_clear_list_0 l its.toArray n (by rw [List.size_toArray]; omega)) ⟨e, ?_⟩
 exact ⟨.non, _, I.lset (its' := []) (ys := []) hH e rfl .nil (Nat.zero_le _), rfl, q⟩
noncomputable def rCat : R2 := fun x y H Q => ∃ l b xs zs, x = .ref l ∧ y = .ref b ∧ H l = some (.lst xs) ∧ H b = some (.lst zs) ∧ xs.length + zs.length ≤ sizeLine ∧ ∀ p, H p = none → Q (.ref p) (upd H p (.lst (xs ++ zs)))
theorem op_cat : OpR X (binaryOp .Add) rCat := by
 intro pins s σ H x y v u Q I rx ry h
 obtain ⟨l, b, xs, zs, rfl, rfl, hH, hB, hz, q⟩ := h
 cases rx
 cases ry
 obtain ⟨z, its, n, r, hl, e⟩ := I.lstM hH
 obtain ⟨z2, its2, n2, r2, hl2, e2⟩ := I.lstM hB
 refine PySem.P.add_list e e2 ?_ (by rw [List.size_toArray, List.size_toArray]; omega)
 have ea : its.toArray ++ its2.toArray = (its ++ its2).toArray := by simp
 rw [ea]
 exact ⟨.ref _, _, I.lnew (t' := s.toks) (r.append r2) (by rw [List.length_append]; omega), rfl, q _ I.fresh⟩
end
end L2
namespace Att
open PySem PySem.W PySem.Calls PyProof.Rows
theorem ints_of_wellAll {P : Params} {h : Heap} : ∀ (ns : List Int) (vs : List Value), WellAll P h vs (ns.map WData.int) → IntsAre vs ns := by
 intro ns
 induction ns with
 | nil =>
  intro vs w
  rw [List.map_nil] at w
  cases w
  exact .nil
 | cons n ns ih =>
  intro vs w
  rw [List.map_cons] at w
  cases w with
  | cons a b =>
   cases a
   exact .cons _ _ (ih _ b)
theorem script_of {l : OpenLaw} {n : Nat} (hn : l.most = some n) {P : Params} {h : Heap} {args : List WData} {vals : List Value}
  (hpre : l.row.toRowW.claim.pre args = true) (hwl : WellAll P h vals args) :
  ∃ a vs ns, vals = [Value.ref a] ∧ args = [WData.list (ns.map WData.int)] ∧ h.get? a = some { cls := .type "list", data := .seq vs.toArray } ∧ IntsAre vs ns ∧ ns.length ≤ n := by
 have hsh : WShape.hasAll [] args [.list .int] = true := (pre_splitW hpre).1
 have hc : l.pre.holds [] { args := args } = true := (pre_splitW hpre).2
 obtain ⟨d, r, rfl, h1, h2⟩ := hasAllW_cons hsh
 obtain rfl := hasAllW_nil h2
 obtain ⟨xs, rfl, h3⟩ := hasW_list h1
 obtain ⟨ns, rfl⟩ := items_int h3
 have hlen : ns.length ≤ n := by
  unfold OpenLaw.pre at hc
  have h4 : (WTm.not (.lt (.lit (.int (n : Int))) (.len (.arg 0)))).holds [] { args := [.list (ns.map .int)] } = true := by
   have h4 := (holds_andW hc).1
   rw [hn] at h4
   exact h4
  have h5 := condW_of h4 (w_not (w_lt w_lit (w_len_list (w_arg rfl))))
  rw [List.length_map] at h5
  refine Nat.le_of_not_lt fun q => ?_
  have q' : (n : Int) < ((ns.length : Nat) : Int) := by omega
  first
   | (rw [decide_eq_true q'] at h5; exact absurd h5 (by decide))
   | (simp at h5; omega)
 cases hwl with
 | cons w1 w2 =>
  cases w2
  cases w1 with
  | list ho hall => exact ⟨_, _, ns, rfl, rfl, ho, ints_of_wellAll ns _ hall, hlen⟩
theorem post_true (l : OpenLaw) (args : List WData) : l.row.toRowW.claim.post args (.bool true) args = true :=
 postW_of (r := l.row.toRowW) (X := (true == true))
  (show WShape.has [] (.bool true) .bool = true by first | rfl | decide | simp [WShape.has, WShape.arms, WShape.armsAll])
  (show (WTm.eq .res (.lit (.bool true))).value [] { args := args, res := some (.bool true), after := args } = some (.bool (true == true)) from w_eq_bool (w_res rfl) w_lit) rfl
theorem attach_call {l : OpenLaw} {n : Nat} {q : Program} {loose : List Str} {XP : (Str → Option Value) → Heap → Prop} {YP : World → Heap → Prop} {d : DefRec}
  (hn : l.most = some n) (hdf : d.params.defaults = [])
  (call : ∀ (w : World) (s₀ s₁ : Shared) (mg mb : L2.SV) (fa : Addr) (o : Obj) (pm cd doc : Value) (a : Addr) (vs : List Value) (ns : List Int),
   Ground q loose [] XP w s₀ mg mb s₁.heap → YP w s₁.heap →
   s₁.heap.get? fa = some o → o.data = .func (docDef d.name d.params d.body d.scope pm cd doc) → s₁.heap.CodeRec cd d.name → mg d.name = some (.ref fa) →
   s₁.heap.get? a = some { cls := .type "list", data := .seq vs.toArray } → IntsAre vs ns → ns.length ≤ n → s₁.gens = #[] →
   codeAny (model l.prog w) callerA (.call (.ref fa) ⟨[.ref a], []⟩) (fun r s' => r = .ok (.ret (.bool true)) ∧ OldK s₁.heap s'.heap ∧ s'.os = s₁.os ∧ AllBare s'.gens) s₁) :
  WalkO q loose XP YP l.row.toRowW d [] (fun f vs => PySem.call f vs) := by
 intro w s₀ s₁ mg mb G Y fa o pm cd doc dV kV ho hd hcd hD hmg hg args vals as hpre hlay hrd hwl hlo
 obtain rfl : dV = .none := Dflts.none hD hdf
 obtain rfl : kV = .none := Dflts.noKw hD
 obtain ⟨a, vs, ns, rfl, rfl, hobj, hints, hlen⟩ := script_of hn hpre hwl
 refine enter_call (codeAny_mono (call w s₀ s₁ mg mb fa o pm cd doc a vs ns G Y ho (fd_plain hd) hcd hmg hobj hints hlen hg) fun r s' hq => ?_)
 obtain ⟨rfl, h2, h3, h4⟩ := hq
 exact ⟨.inl ⟨.bool true, .bool true, [], rfl, fun ψ => rfl, .bool true, post_true l _, fun ψ => ⟨List.Pairwise.nil, fun ψ hm => (nomatch hm)⟩⟩, h2, h3, h4⟩
end Att
namespace L2
open PySem PySem.Spec PyProof.Rows
theorem vals_ints : ∀ {vs : List Value} {ns : List Int}, IntsAre vs ns → Vals (ns.map V.int) vs
 | _, _, .nil => .nil
 | _, _, .cons n t h => .cons ⟨t, rfl⟩ (vals_ints h)
noncomputable def Only (H : Hp) : Prop := ∀ b, H b = none ∨ ∃ o xs, H b = some (.frz o (.lst xs))
theorem law_call {P : Program} {w : World} {K : L2.Fg} {mg mb : L2.SV} {CX : CXT} {k : Nat} {fa a : Addr} {fd : FuncData} {x : Str} {sp : Sp} {s₁ : Shared} {vs : List Value} {ns : List Int}
  (KX : K.In s₁.heap) (hns : s₁.heap.Ns mainGlobals mg) (hb : s₁.heap.Ns builtinsNs mb) (hbb : ∀ x : Str, x ≠ "__name__" → mb x = bootBuiltins x) (hlim : s₁.heap.NoLimit) (hg : s₁.gens = #[])
  (ha : s₁.heap.get? a = some { cls := .type "list", data := .seq vs.toArray }) (hi : IntsAre vs ns) (hl : ns.length ≤ sizeLine) (hr : Room k callerA)
  (F : ∀ base : Heap, K.In base → base.Ns mainGlobals mg → FnOk P w K mg base CX k fa fd [x] sp) (hbind : ∀ (s : Shared) (u : Value), BindsTo s fd ⟨[u], []⟩ [(x, u)])
  (hsp : ∀ H : Hp, Only H → SqL K H a (ns.map V.int) → sp [.ref a] H (fun v ψ => v = .bl true) fun ψ ψ ψ => False)
  (hCX : ∀ H e s', CX [] H s₁ (fun ψ ψ ψ => False) e s' → False) :
  codeAny (model P w) callerA (.call (.ref fa) ⟨[.ref a], []⟩) (fun r s' => r = .ok (.ret (.bool true)) ∧ OldK s₁.heap s'.heap ∧ s'.os = s₁.os ∧ AllBare s'.gens) s₁ := by
 have rv := vals_ints hi
 have lenV := hi.length
 have core : ∀ H : Hp, Only H → SqL K H a (ns.map V.int) → HOk P w H s₁.heap → (∀ b, H b ≠ none → b = a) → (H a ≠ none → K.lookup a = none) →
   codeAny (model P w) callerA (.call (.ref fa) ⟨[.ref a], []⟩) (fun r s' => r = .ok (.ret (.bool true)) ∧ OldK s₁.heap s'.heap ∧ s'.os = s₁.os ∧ AllBare s'.gens) s₁ := by
  intro H hO hS hok hA hK
  have base_of : ∀ {b : Addr} {o : Obj}, s₁.heap.get? b = some o → H b = none → (hidT s₁.heap H).get? b = some o := fun e n => hidT_get e n
  have noA : ∀ {b : Addr} {o : Obj} {es : Array DictEntry} {ep : Nat}, s₁.heap.get? b = some o → o.data = .dict es ep → H b = none := fun {b o es ep} e d => by
   cases q : H b with
   | none => rfl
   | some u =>
    have e' : b = a := hA b (by rw [q]; simp)
    subst e'
    rw [ha] at e; cases e
    have d' : Data.seq vs.toArray _ = Data.dict es ep := d
    cases d'
  have nsK : ∀ {b : Addr} {m : L2.SV}, s₁.heap.Ns b m → (hidT s₁.heap H).Ns b m := fun {b m} ⟨o, es, ep, e, d, r⟩ => ⟨o, es, ep, base_of e (noA e d), d, r⟩
  have hKb : K.In (hidT s₁.heap H) := fun b o e => base_of (KX b o e) (by
   cases q : H b with
   | none => rfl
   | some u =>
    have e' : b = a := hA b (by rw [q]; simp)
    subst e'
    rw [hK (by rw [q]; simp)] at e; cases e)
  have hM : Mod K mg (hidT s₁.heap H) := ⟨hKb, nsK hns, ⟨mb, nsK hb, hbb⟩, let ⟨mc, h1, h2⟩ := hlim; ⟨mc, nsK h1, h2⟩⟩
  have e0 : Env0 P w K mg (hidT s₁.heap H) callerA [] s₁ H := ⟨rfl, hM, fun b o e => of_hidT e, Nat.le_of_eq (hidT_size _ _), trivial, fun b hb => absurd (show b ∈ ([] : List Addr) from hb) (by simp), hok, .of_eq hg⟩
  refine codeAny_mono ((F _ hKb (nsK hns)).run callerA [] s₁ H ⟨[.ref a], []⟩ [.ref a] [.ref a] _ _ hr e0 (hbind s₁ (.ref a)) (.cons rfl .nil) (hsp H hO hS)) fun r s' h => ?_
  cases r with
  | error e => exact (hCX H e s' h).elim
  | ok fl =>
   cases fl with
   | next => exact False.elim h
   | brk => exact False.elim h
   | cont => exact False.elim h
   | ret u =>
    obtain ⟨v, H', os, bare, un, hok', r', q⟩ := h
    have q' : v = .bl true := q
    subst q'
    obtain rfl : u = Value.bool true := r'
    refine ⟨rfl, OldK.of_keep fun b o e => ?_, os, bare⟩
    cases q : H b with
    | none => exact un.keep b o e q (by intro z; exact absurd (show b ∈ ([] : List Addr) from z) (by simp)) (by simp)
    | some u =>
     rcases hO b with z | ⟨ob, xs, z⟩
     ·rw [q] at z; cases z
     ·have z2 := un.frzs b ob _ z
      obtain ⟨e1, _⟩ := hok b _ z
      obtain ⟨e2, _⟩ := hok' b _ z2
      rw [e] at e1; cases e1
      exact e2
 cases hk : K.lookup a with
 | some o =>
  have e := KX a o hk
  rw [ha] at e
  cases e
  refine core (fun ψ => none) (fun ψ => .inl rfl) (.inr ⟨_, vs.toArray, _, hk, rfl, rfl, rfl, by rw [List.size_toArray, lenV]; exact hl, by simpa using rv⟩) (fun b u z => by have z' : (none : Option HO) = some u := z; cases z') (fun b z => absurd rfl z) fun z => absurd rfl z
 | none =>
  refine core (fun b => if b = a then some (.frz { cls := .type "list", data := .seq vs.toArray } (.lst (ns.map V.int))) else none) (fun b => ?_) (.inl (.inr ⟨{ cls := .type "list", data := .seq vs.toArray }, if_pos rfl⟩)) (fun b u z => ?_) (fun b z => ?_) fun ψ => hk
  ·by_cases hb : b = a
   ·exact .inr ⟨_, _, if_pos hb⟩
   ·exact .inl (if_neg hb)
  ·by_cases hb : b = a
   ·have z' := (if_pos hb).symm.trans z
    cases z'
    subst hb
    exact ⟨ha, by rw [List.length_map]; exact hl, vs, _, rv, ha⟩
   ·have z' := (if_neg hb).symm.trans z
    cases z'
  ·by_cases hb : b = a
   ·exact hb
   ·exact absurd (if_neg hb) z
theorem walk_of {l : PySem.W.OpenLaw} {n k : Nat} {q : Program} {loose : List Str} {XP : (Str → Option Value) → Heap → Prop} {YP : World → Heap → Prop} {d : DefRec} {K : Params → PySem.W.Frag} {CX : World → CXT} {sp : World → Sp} {x : Str}
  (hn : l.most = some n) (hn2 : n ≤ sizeLine) (hdf : d.params.defaults = []) (hr : Room k callerA)
  (hY : ∀ (w : World) (h : Heap), YP w h → (K w.params).In h)
  (F : ∀ (w : World) (mg : L2.SV) (fa : Addr) (h : Heap), (K w.params).In h → h.Ns mainGlobals mg → mg d.name = some (.ref fa) →
   ∃ fd : FuncData, (∀ (s : Shared) (u : Value), BindsTo s fd ⟨[u], []⟩ [(x, u)]) ∧
    ∀ base : Heap, (K w.params).In base → base.Ns mainGlobals mg → FnOk l.prog w (K w.params) mg base (CX w) k fa fd [x] (sp w))
  (hsp : ∀ (w : World) (H : Hp) (a : Addr) (ns : List Int), ns.length ≤ n → Only H → SqL (K w.params) H a (ns.map V.int) → sp w [.ref a] H (fun v ψ => v = .bl true) fun ψ ψ ψ => False)
  (hCX : ∀ (w : World) (H : Hp) (s : Shared) (e : Value) (s' : Shared), CX w [] H s (fun ψ ψ ψ => False) e s' → False) :
  PySem.W.WalkO q loose XP YP l.row.toRowW d [] (fun f vs => PySem.call f vs) := by
 refine Att.attach_call hn hdf fun w s₀ s₁ mg mb fa o pm cd doc a vs ns G Y ho hd hcd hmg hobj hints hlen hg => ?_
 have KX := hY w _ Y
 obtain ⟨fd, hb, hF⟩ := F w mg fa _ KX G.T.g hmg
 exact law_call KX G.T.g G.T.b G.T.builtins G.T.nolimit hg hobj hints (Nat.le_trans hlen hn2) hr hF hb (fun H hO hS => hsp w H a ns hlen hO hS) fun H e s' => hCX w H s₁ e s'
theorem walk_ofK {l : PySem.W.OpenLaw} {n k : Nat} {q : Program} {loose : List Str} {XP : (Str → Option Value) → Heap → Prop} {YP : World → Heap → Prop} {d : DefRec} {K : Params → PySem.W.Frag} {CX : CXT} {sp : PySem.W.Frag → Sp} {x : Str}
  (hn : l.most = some n) (hn2 : n ≤ sizeLine) (hdf : d.params.defaults = []) (hr : Room k callerA)
  (hY : ∀ (w : World) (h : Heap), YP w h → (K w.params).In h)
  (F : ∀ (w : World) (mg : L2.SV) (fa : Addr) (h : Heap), (K w.params).In h → h.Ns mainGlobals mg → mg d.name = some (.ref fa) →
   ∃ fd : FuncData, (∀ (s : Shared) (u : Value), BindsTo s fd ⟨[u], []⟩ [(x, u)]) ∧
    ∀ base : Heap, (K w.params).In base → base.Ns mainGlobals mg → FnOk l.prog w (K w.params) mg base CX k fa fd [x] (sp (K w.params)))
  (hsp : ∀ (K : L2.Fg) (H : Hp) (a : Addr) (ns : List Int), ns.length ≤ n → Only H → SqL K H a (ns.map V.int) → sp K [.ref a] H (fun v ψ => v = .bl true) fun ψ ψ ψ => False)
  (hCX : ∀ (H : Hp) (s : Shared) (e : Value) (s' : Shared), CX [] H s (fun ψ ψ ψ => False) e s' → False) :
  PySem.W.WalkO q loose XP YP l.row.toRowW d [] (fun f vs => PySem.call f vs) :=
 walk_of (K := K) (CX := fun ψ => CX) (sp := fun w => sp (K w.params)) hn hn2 hdf hr hY F (fun w H a ns h1 h2 h3 => hsp (K w.params) H a ns h1 h2 h3) fun ψ H s e s' => hCX H s e s'
noncomputable def defArgs (s : Stmt) : Arguments := match s with
 | .FunctionDef _ a _ _ _ _ _ _ _ _ => a
 | _ => { posonlyargs := [], args := [], vararg := none, kwonlyargs := [], kw_defaults := [], kwarg := none, defaults := [] }
noncomputable def defBody (s : Stmt) : List Stmt := match s with
 | .FunctionDef _ _ b _ _ _ _ _ _ _ => b
 | _ => []
noncomputable def defScope (s : Stmt) : Scope := match s with
 | .FunctionDef _ _ _ _ _ _ sc _ _ _ => sc
 | _ => { kind := .function, names := [], isGenerator := false, isCoroutine := false }
noncomputable abbrev CX0 : CXT := fun ψ ψ ψ ψ ψ ψ => False
noncomputable abbrev E0 : XK := fun ψ ψ ψ => False
structure Fun (K : L2.Fg) (x qual : Str) (st : Stmt) (f : Addr) (fd : FuncData) : Prop where
 ex : ∃ (oc : Value) (od : Option Addr) (kV doc pm : Value) (an : Option Addr) (cdv ct : Value) (osl : Array (Option Value)),
  fd = PySem.W.fnOf x qual (defArgs st) (defBody st) (defScope st) .none kV doc pm an cdv ct ∧ K.lookup f = some ⟨oc, od, .func fd, osl⟩ ∧ PySem.W.codeIn K cdv qual = true
 kp : PySem.W.keepIn K (.ref f) = true
section
variable {P : Program} {w : World} {K : L2.Fg} {mg : L2.SV} {base : Heap}
theorem Fun.ok {x qual : Str} {st : Stmt} {f : Addr} {fd : FuncData} {N ps : List Str} {k : Nat} {sp : Sp} (F : Fun K x qual st f fd) (S : FnScope N ps (defScope st)) (len : ∀ vs H Q E, sp vs H Q E → vs.length = ps.length)
  (hbody : ∀ (cdv : Value) (A : Around) (outer : List Env) (s : Shared) (H : Hp) (vs : List V) (Q : VK) (E : XK), Room k (A.deeper (envOfC qual (defScope st) s.heap.objs.size f cdv)) → sp vs H Q E →
   ∃ t, PSs (cxOf CX0 P w K mg base N qual (defScope st) f cdv A outer s H E).nox (defBody st) t ∧ t { nx := fun ψ H' => Q .non H', rt := Q } (start N vs) H) : FnOk P w K mg base CX0 (k + 1) f fd ps sp := by
 obtain ⟨oc, od, kV, doc, pm, an, cdv, ct, osl, rfl, lk, hcd⟩ := F.ex
 refine fn_of lk hcd S len fun A outer s H vs Q E hr hsp => ?_
 obtain ⟨t, h, q⟩ := hbody cdv A outer s H vs Q E hr hsp
 exact ⟨t, h.nox, q⟩
theorem Fun.binds {x qual : Str} {st : Stmt} {f : Addr} {fd : FuncData} {ps : List Str} (F : Fun K x qual st f fd)
  (h : ∀ (kV doc pm : Value) (an : Option Addr) (cdv ct : Value) (us : List Value), us.length = ps.length → bindArgs (PySem.W.fnOf x qual (defArgs st) (defBody st) (defScope st) .none kV doc pm an cdv ct) ⟨us, []⟩ = pure (ps.zip us)) : Binds K fd ps [] := by
 obtain ⟨oc, od, kV, doc, pm, an, cdv, ct, osl, rfl, lk, hcd⟩ := F.ex
 exact .all (h kV doc pm an cdv ct)
theorem fun_mk {x qual : Str} {st : Stmt} {f : Addr} {oc : Value} {od an : Option Addr} {osl : Array (Option Value)} {kV doc pm cdv ct : Value} (l : K.lookup f = some ⟨oc, od, .func (PySem.W.fnOf x qual (defArgs st) (defBody st) (defScope st) .none kV doc pm an cdv ct), osl⟩)
  (c : PySem.W.codeIn K cdv qual = true) (k : PySem.W.keepIn K (.ref f) = true) : Fun K x qual st f (PySem.W.fnOf x qual (defArgs st) (defBody st) (defScope st) .none kV doc pm an cdv ct) := ⟨⟨oc, od, kV, doc, pm, an, cdv, ct, osl, rfl, l, c⟩, k⟩
end
noncomputable def Same (H H' : Hp) : Prop := ∀ b o, H b = some o → H' b = some o
theorem Same.refl (H : Hp) : Same H H := fun ψ ψ h => h
theorem Same.trans {H H1 H2 : Hp} (a : Same H H1) (b : Same H1 H2) : Same H H2 := fun c o h => b c o (a c o h)
theorem Same.free {H H' : Hp} (e : Same H H') {l : Addr} (h : H' l = Option.none) : H l = Option.none := by
 cases q : H l with
 | none => rfl
 | some o =>
  rw [e l o q] at h
  cases h
theorem Same.seq {K : L2.Fg} {H H' : Hp} {a : Addr} {xs : List V} (e : Same H H') (h : SqL K H a xs) : SqL K H' a xs := by
 rcases h with (h | ⟨o, h⟩) | h
 ·exact .inl (.inl (e _ _ h))
 ·exact .inl (.inr ⟨o, e _ _ h⟩)
 ·exact .inr h
theorem compLoop_any {prog : Program} {w : World} {A : Around} {R : Result → Shared → Prop} {s : Shared} {elt target iter : Expr} {ifs : List Expr} {scope : Scope} {pos : Pos} {it acc : Value} {env : Env} (I : Nat → Shared → Prop)
  (turn : ∀ n s, I n s → wpAny (model prog w) A (pyNext it) (fun r s₁ => match r with
   | none => R (.ok .next) s₁
   | some v => wpAny (model prog w) A (letOwnedTupleGo target it v) (fun ψ s₁' => wpAny (model prog w) A (assign target env v) (fun ψ s₂ =>
     wpAny (model prog w) A (forIn ifs true fun c r => if r = true then do let ok ← isTrue c env (eval c env); pure (ForInStep.yield ok) else pure (ForInStep.yield r)) (fun ok s₃ =>
      if ok = true then wpAny (model prog w) A (eval elt env) (fun x s₄ =>
       wpAny (model prog w) A (call (.builtin "list.append") [acc, x]) (fun ψ s₅ => ∃ m, m < n ∧ I m s₅) (fun ψ ψ => False) s₄) (fun ψ ψ => False) s₃
      else ∃ m, m < n ∧ I m s₃) (fun ψ ψ => False) s₂) (fun ψ ψ => False) s₁') (fun ψ ψ => False) s₁) (fun ψ ψ => False) s)
  (n : Nat) (h : I n s) : codeAny (model prog w) A (.compLoop (.ListComp elt [⟨target, iter, ifs, 0⟩] scope pos) 0 it acc env) R s := by
 refine codeAny_loop rfl I (fun n s hI => ?_) n h
 show wpAny _ A ((compTurn (.ListComp elt [⟨target, iter, ifs, 0⟩] scope pos) 0 it acc env).onRaise (fun x => do noteFrame x env; theTreesLotGoes x)) _ _ s
 refine wpAny_noted (wpAny_noRaise ?_)
 rw [compTurn_list]
 refine wpAny_bind (wpAny_standAt (wpAny_bind (thn (turn n s hI) fun r s₁ h₁ => ?_)))
 cases r with
 | none => exact wpAny_pure h₁
 | some v =>
  refine wpAny_bind (thn h₁ fun ψ s₁' h₁' => ?_)
  refine wpAny_bind (thn h₁' fun ψ s₂ h₂ => wpAny_bind (thn h₂ fun ok s₃ h₃ => ?_))
  cases ok with
  | false => exact wpAny_pure ⟨rfl, h₃⟩
  | true => exact wpAny_bind (wpAny_bind (thn h₃ fun x s₄ h₄ => wpAny_bind (thn h₄ fun ψ s₅ h₅ => wpAny_pure (wpAny_pure ⟨rfl, h₅⟩))))
theorem Inv.adopt {X : Cx} {pins : L2.AO} {σ : St} {H : Hp} {s : Shared} {d : Addr} {o : HO} (I : Inv X pins σ H s) (f : FpOk X pins H d) (new : ObjOk X.prog X.w (upd H d o) s.heap d o) : Inv X pins σ (upd H d o) s := by
 obtain ⟨f0, f1, f2, f3, f4, f5⟩ := f
 have nd : ∀ b u, H b = some u → b ≠ d := fun b u e z => by rw [z, f0] at e; cases e
 refine I.step (h' := s.heap) (g' := s.gens) (d' := s.drawn) (t' := s.toks) (ch := [d]) (fun b hb => ?_) (fun b u ψ ψ ψ e ψ => e) (fun b u ψ ψ ψ e ψ => ⟨u.slots, e⟩) (fun b u hc e n => ?_) (fun b u ψ e => ⟨u, e⟩)
  (fun b xs e => by rw [upd_ne (nd b _ e)]; exact e) (fun b u v e => by rw [upd_ne (nd b _ e)]; exact e) (fun b ps e => ⟨#[], by rw [upd_ne (nd b _ e), e]; simp⟩) (fun m hm => hm) (fun b u e => ?_) I.bare
 ·have z : b = d := by simpa using hb
  subst z
  exact ⟨f3, f1, f4, f5⟩
 ·rw [upd_ne (fun z => hc (by simp [z]))]; exact n
 ·by_cases hb : b = d
  ·subst hb; rw [upd_same] at e; cases e; exact new
  ·rw [upd_ne hb] at e
   exact (I.hok b u e).stay (fun ψ ψ ψ q => q) (fun c q => by rw [upd_ne (nd c _ q)]; exact q) fun c xs q => by rw [upd_ne (nd c _ q)]; exact q
inductive Caps (X : Cx) (sc : Scope) (cl : List (Str × Addr)) : List Nat → List Str → Prop
 | nil : Caps X sc cl [] []
 | cons {j : Nat} {js : List Nat} {y : Str} {ys : List Str} (hN : X.N[j]? = some y) (hk : X.env.kindOf y = some .cell ∨ X.env.kindOf y = some .free) (hl : cl.lookup y = X.env.cells.lookup y)
   (hv : sc.names.lookup y = some .cell ∨ sc.names.lookup y = some .free) (r : Caps X sc cl js ys) : Caps X sc cl (j :: js) (y :: ys)
noncomputable def blk (k : Nat) (js : List Nat) (σ : St) : St := List.replicate k none ++ js.map fun j => (σ[j]?).getD none
theorem Caps.get {X : Cx} {sc : Scope} {cl : List (Str × Addr)} {σ : St} : ∀ {js : List Nat} {ys : List Str} {i : Nat} {y : Str} {v : V}, Caps X sc cl js ys → ys[i]? = some y → (js.map fun (j : Nat) => (σ[j]?).getD none)[i]? = some (some v) →
  ∃ j : Nat, X.N[j]? = some y ∧ σ[j]? = some (some v) ∧ (X.env.kindOf y = some .cell ∨ X.env.kindOf y = some .free) ∧ cl.lookup y = X.env.cells.lookup y ∧ (sc.names.lookup y = some .cell ∨ sc.names.lookup y = some .free)
 | _, _, _, _, _, .nil, e, _ => by simp at e
 | _, _, 0, y, v, .cons (j := j) hN hk hl hv _, e, e2 => by
  simp at e e2
  subst e
  refine ⟨j, hN, ?_, hk, hl, hv⟩
  cases q : σ[j]? with
  | none => rw [q] at e2; simp at e2
  | some z => rw [q] at e2; simp at e2; rw [e2]
 | _, _, i + 1, y, v, .cons _ _ _ _ r, e, e2 => Caps.get (i := i) r (by simpa using e) (by simpa using e2)
theorem Caps.len {X : Cx} {sc : Scope} {cl : List (Str × Addr)} : ∀ {js : List Nat} {ys : List Str}, Caps X sc cl js ys → js.length = ys.length
 | _, _, .nil => rfl
 | _, _, .cons _ _ _ _ r => by simp [r.len]
noncomputable def cxComp (X : Cx) (N : List Str) (scope : Scope) (cl : List (Str × Addr)) (C : Addr) (pins : L2.AO) (fp : List Addr) (s2 : Shared) (H2 : Hp) : Cx where
 prog := X.prog
 w := X.w
 K := X.K
 mg := X.mg
 base := X.base
 A := X.A
 N := N
 s₀ := s2
 H₀ := H2
 env := compEnvC scope cl C X.env
 outer := X.stack
 stack := X.stack
 ex := fp
 fn := fun ψ => false
 calm := X.calm
 pn := X.pn ++ pins
 xe := fun ψ ψ => False
noncomputable def PTs (X : Cx) (ifs : List Expr) (t : TT) : Prop :=
 ∀ (pins : L2.AO) (s : Shared) (σ : St) (H : Hp) (Q : Bool → Hp → Prop), Inv X pins σ H s → t σ H Q →
  wpAny (model X.prog X.w) X.A (forIn ifs true fun c r => if r = true then do let ok ← isTrue c X.env (eval c X.env); pure (ForInStep.yield ok) else pure (ForInStep.yield r)) (TP X pins σ Q) X.xe s
noncomputable def tTrue : TT := fun ψ H Q => Q true H
theorem pts_nil {X : Cx} : PTs X [] tTrue := fun ψ ψ ψ H ψ I h => wpAny_tests_nil ⟨H, I, h⟩
theorem pts_one {X : Cx} {c : Expr} {t : TT} (h : PT X c t) : PTs X [c] t := fun pins s σ H Q I hq => wpAny_tests_one (h pins s σ H Q I hq)
noncomputable def tComp (wi : TI) (k : Nat) (js : List Nat) (g : TG) (tc : TT) (te : TE) : TE := fun σ H Q => wi σ H fun J H1 => ∃ W : Nat → Nat → List V → Hp → Prop, (∃ m, W 0 m [] H1) ∧ ∀ i m ys H, W i m ys H →
 (J.stop i H ∧ ys.length ≤ sizeLine ∧ ∀ p, H p = none → Q (.ref p) (upd H p (.lst ys))) ∨
 (J.go i H ∧ ys.length ≤ sizeLine ∧ ∀ x H', J.yld i H x H' → g x (blk k js σ) H' fun σ2 H2 => tc σ2 H2 fun b H3 => if b = true then te σ2 H3 fun v H4 => ∃ m', m' < m ∧ W (i + 1) m' (ys ++ [v]) H4 else ∃ m', m' < m ∧ W (i + 1) m' ys H3)
section
variable {X : Cx} {elt tg iter : Expr} {ifs : List Expr} {scope : Scope} {pos : Pos} {cl : List (Str × Addr)} {bs caps : List Str} {js : List Nat} {wi : TI} {g : TG} {tc : TT} {te : TE}
structure CompOk (X : Cx) (scope : Scope) (cl : List (Str × Addr)) (js : List Nat) (caps : List Str) : Prop where
 clos : closureFor scope X.env = pure cl
 cell : ∀ y ∈ scope.names, y.2 ≠ .cell
 kind : scope.kind = .function
 names : ∀ y ∈ scope.names, y.2 = .local → scope.names.lookup y.1 = some .local
 fr : ∀ y ∈ scope.names, y.2 = .free → (cl.lookup y.1).isSome = true
 sub : ∀ y c, cl.lookup y = some c → X.env.cells.lookup y = some c
 cap : Caps X (relabel scope X.env) cl js caps
theorem kind_relabel {scope : Scope} {env : Env} {x : Str} {k : NameKind} (hc : ∀ y ∈ scope.names, y.2 ≠ .cell) (hk : k = .cell ∨ k = .free) (h : (relabel scope env).names.lookup x = some k) : ∃ y ∈ scope.names, y.1 = x ∧ y.2 = .free := by
 have m := PySem.mem_of_lookup h
 obtain ⟨y, hy, e⟩ := List.mem_map.mp m
 obtain ⟨n, k'⟩ := y
 dsimp only at e
 by_cases q : (k' == NameKind.free && env.scope.kind == .function && env.kindOf n == some .cell) = true
 ·rw [if_pos q] at e
  have e1 : n = x := congrArg Prod.fst e
  refine ⟨(n, k'), hy, e1, ?_⟩
  simp only [Bool.and_eq_true, beq_iff_eq] at q
  exact q.1.1
 ·rw [if_neg q] at e
  have e1 : n = x := congrArg Prod.fst e
  have e2 : k' = k := congrArg Prod.snd e
  rcases hk with z | z
  ·exact absurd (e2.trans z) (hc (n, k') hy)
  ·exact ⟨(n, k'), hy, e1, e2.trans z⟩
theorem cxComp_ok {pins : L2.AO} {σ : St} {H2 : Hp} {s2 : Shared} {fp : List Addr} {C : Addr} (c : CompOk X scope cl js caps) (I2 : Inv X pins σ H2 s2) (hC : s2.heap.objs.size ≤ C) (f2 : ∀ b ∈ fp, FpOk X pins H2 b) (ho : ∀ b ∈ fp, ∃ o, s2.heap.get? b = some o) :
  (cxComp X (bs ++ caps) scope cl C pins fp s2 H2).Ok := by
 have lt : ∀ b ∈ fp, b < C := fun b hb => let ⟨o, e⟩ := ho b hb; Nat.lt_of_lt_of_le (Heap.lt_size e) hC
 refine ⟨I2.ok.mod, c.kind, I2.ok.glob, I2.ok.blt, hC, fun x y a h1 h2 => I2.ok.inj x y a (c.sub _ _ h1) (c.sub _ _ h2), fun x hx => ?_, fun x a h ψ => absurd (show false = true from h) Bool.false_ne_true, I2.ok.hd, I2.ok.frames, .inl rfl, fun b hb => ⟨Nat.ne_of_lt (lt b hb), fun x a h => (f2 b hb).2.2.2.2.1 x a (c.sub _ _ h)⟩,
  I2.bs, Nat.le_trans I2.ok.bsz I2.sz, fun b o e hb => ?_, fun b hb z => ?_, I2.stack, I2.stkFree⟩
 ·have hx' : (relabel scope X.env).names.lookup x = some .cell ∨ (relabel scope X.env).names.lookup x = some .free := hx
  obtain ⟨y, hy, e1, e2⟩ : ∃ y ∈ scope.names, y.1 = x ∧ y.2 = .free := by
   rcases hx' with q | q
   ·exact kind_relabel c.cell (.inl rfl) q
   ·exact kind_relabel c.cell (.inr rfl) q
  subst e1
  exact Option.isSome_iff_exists.mp (c.fr y hy e2)
 ·rcases (f2 b hb).2.2.2.1 with z | z
  ·exact I2.ok.noex b o e z
  ·exact absurd (Nat.lt_of_lt_of_le (Heap.lt_size (I2.ok.bs b o e).1) z) (Nat.lt_irrefl _)
 ·have f := f2 b hb
  rcases List.mem_cons.mp (I2.stkSub b z) with q | q
  ·exact f.2.1 q
  ·exact f.2.2.1 q
theorem comp_core {pins : L2.AO} {σ : St} {H2 : Hp} {s2 : Shared} {fp : List Addr} {it : Addr} {tn : Nat → Heap → Prop} {J : It} {RR : Value → Addr → Result → Shared → Prop} {Z : List V → Hp → Prop} {E : L2.VSP} (hc : X.calm = true) (c : CompOk X scope cl js caps)
  (hg : ∀ C pins fp s2 H2, PG (cxComp X (bs ++ caps) scope cl C pins fp s2 H2) tg g) (ht : ∀ C pins fp s2 H2, PTs (cxComp X (bs ++ caps) scope cl C pins fp s2 H2) ifs tc) (he : ∀ C pins fp s2 H2, PE (cxComp X (bs ++ caps) scope cl C pins fp s2 H2) elt te)
  (I2 : Inv X pins σ H2 s2) (T : Turn X.prog X.w X.K tg J fp it tn) (st2 : tn 0 s2.heap) (f2 : ∀ b ∈ fp, FpOk X pins H2 b) (W : Nat → Nat → List V → Hp → Prop) {m0 : Nat} (w0 : W 0 m0 [] H2)
  (turn : ∀ i m ys H, W i m ys H →
   (J.stop i H ∧ ys.length ≤ sizeLine ∧ Z ys H) ∨
   (J.go i H ∧ ys.length ≤ sizeLine ∧ ∀ x H', J.yld i H x H' → g x (blk bs.length js σ) H' fun σ2 H2 => tc σ2 H2 fun b H3 => if b = true then te σ2 H3 fun v H4 => ∃ m', m' < m ∧ W (i + 1) m' (ys ++ [v]) H4 else ∃ m', m' < m ∧ W (i + 1) m' ys H3))
  (hR : ∀ (D C : Addr) (s4 : Shared) (H3 : Hp) (ys : List V) (mC : L2.SV), Inv X pins σ (upd H3 D (.lst ys)) s4 → H3 D = none → FpOk X pins (upd H3 D (.lst ys)) C → s4.heap.Ns C mC → Z ys H3 → RR (.ref D) C (.ok .next) s4) :
  wpAny (model X.prog X.w) X.A (newList []) (fun acc s₃ => wpAny (model X.prog X.w) X.A (newFunctionEnv scope X.env.globals cl [] X.env.qual none .none (some X.env)) (fun cenv s₄ =>
   codeAny (model X.prog X.w) X.A (.compStart (.ListComp elt [⟨tg, iter, ifs, 0⟩] scope pos) 0 (.ref it) acc { cenv with scope := relabel scope X.env }) (RR acc cenv.locals) s₄) E s₃) E s2 := by
 refine wpAny_newObj_type (wpAny_newFunctionEnv c.cell (by intro y hy; simp at hy) (fun h₁ hns₁ hsb₁ => ?_) c.kind)
 dsimp only at hns₁ hsb₁ ⊢
 generalize hP : s2.heap.push { cls := .type "list", dict := none, data := .seq ([] : List Value).toArray } = P2 at hns₁ hsb₁ ⊢
 have hCs : P2.objs.size = s2.heap.objs.size + 1 := by rw [← hP, Heap.size_push]
 have hCle : s2.heap.objs.size ≤ P2.objs.size := by rw [hCs]; exact Nat.le_succ _
 have hDC : s2.heap.objs.size ≠ P2.objs.size := by rw [hCs]; exact Nat.ne_of_lt (Nat.lt_succ_self _)
 have below : ∀ b, b < s2.heap.objs.size → b ≠ P2.objs.size := fun b hb => by rw [hCs]; exact Nat.ne_of_lt (Nat.lt_succ_of_lt hb)
 have old : ∀ b o, s2.heap.get? b = some o → h₁.get? b = some o := fun b o e => hsb₁.extBut b o (below b (Heap.lt_size e)) (Heap.get?_push_of_some _ (hP ▸ Heap.get?_push_of_some _ e))
 have hacc : h₁.get? s2.heap.objs.size = some { cls := .type "list", data := .seq ([] : List Value).toArray } := hsb₁.extBut _ _ hDC (Heap.get?_push_of_some _ (hP ▸ Heap.get?_push_size _ rfl))
 have ob2 : ∀ b ∈ fp, ∃ o, s2.heap.get? b = some o := fun b hb => let ⟨o, e, _⟩ := T.obj 0 _ st2 b hb; ⟨o, e⟩
 have okY := cxComp_ok (bs := bs) c I2 hCle f2 ob2
 have fD : ∀ {H3 : Hp}, H3 s2.heap.objs.size = none → FpOk X pins H3 s2.heap.objs.size := fun hn => I2.fpOk (Nat.le_refl _) hn
 have fC : ∀ {H3 : Hp}, H3 P2.objs.size = none → FpOk X pins H3 P2.objs.size := fun hn => I2.fpOk hCle hn
 have stkne : ∀ b, b ∈ frs X.stack → b < s2.heap.objs.size := fun b hb => by
  rcases List.mem_cons.mp (I2.stkSub b hb) with q | q
  ·rw [q]; exact I2.lt
  ·obtain ⟨_, o, e, _⟩ := I2.ok.funs.mem q
   exact Nat.lt_of_lt_of_le (Heap.lt_size e) I2.sz
 have fpY : ∀ {H3 : Hp} {o : Obj}, (∀ b ∈ fp, H3 b = none) → ∀ b ∈ fp, FpOk (cxComp X (bs ++ caps) scope cl P2.objs.size pins fp s2 H2) [(s2.heap.objs.size, o)] H3 b := fun {H3 o} hn b hb => by
  obtain ⟨o', e'⟩ := ob2 b hb
  have f := f2 b hb
  refine ⟨hn b hb, below b (Heap.lt_size e'), okY.exfs b hb, .inl hb, fun x a h => f.2.2.2.2.1 x a (c.sub _ _ h), fun p hp => ?_⟩
  rcases List.mem_append.mp hp with z | z
  ·exact f.2.2.2.2.2 p z
  ·have z' : p = (s2.heap.objs.size, o) := by simpa using z
   subst z'
   exact Ne.symm (Nat.ne_of_lt (Heap.lt_size e'))
 have IY : Inv (cxComp X (bs ++ caps) scope cl P2.objs.size pins fp s2 H2) [(s2.heap.objs.size, { cls := .type "list", data := .seq ([] : List Value).toArray })] (blk bs.length js σ) H2 { s2 with heap := h₁, toks := s2.toks + ([] : List (Str × Value)).length } := by
  obtain ⟨m, hn, hl⟩ := I2.loc
  refine ⟨okY, rfl, I2.bare, Un.kept old, ⟨_, hns₁, fun i x v e1 e2 e3 => ?_⟩, fun x a h => ?_, I2.hok.fresh hCle, fun x a h => I2.freeC x a (c.sub _ _ h), fun p hp => ?_, I2.hok.kept old, ?_⟩
  ·have hi : ¬ i < bs.length := fun hi => by
    have e2' : (List.replicate bs.length none ++ _)[i]? = some (some v) := e2
    rw [List.getElem?_append_left (by simpa using hi), List.getElem?_replicate, if_pos hi] at e2'
    cases e2'
   have e1' : (bs ++ caps)[i]? = some x := e1
   rw [List.getElem?_append_right (by lia)] at e1'
   have e2' : (List.replicate bs.length none ++ js.map fun j => (σ[j]?).getD none)[i]? = some (some v) := e2
   rw [List.getElem?_append_right (by simpa using hi), List.length_replicate] at e2'
   obtain ⟨j, q1, q2, q3, q4, q5⟩ := c.cap.get e1' e2'
   have vis : Vis X.env.scope x := by rcases q3 with z | z; exact .inr (.inl z); exact .inr (.inr z)
   obtain ⟨u, r, l⟩ := hl j x v q1 q2 vis
   refine ⟨u, r, .inr ⟨q5, ?_⟩⟩
   rcases l with ⟨z, _⟩ | ⟨_, a, z, z2⟩
   ·rcases q3 with y | y <;> (rw [y] at z; cases z)
   ·obtain ⟨ob, eo, d⟩ := z2
    exact ⟨a, q4.trans z, ob, old _ _ eo, d⟩
  ·obtain ⟨v, ob, eo, d⟩ := I2.cell x a (c.sub _ _ h)
   exact ⟨v, ob, old _ _ eo, d⟩
  ·rcases List.mem_append.mp hp with z | z
   ·obtain ⟨q1, q2, q3, q4, q5⟩ := I2.pin p z
    refine ⟨old _ _ q1, q2, below _ (Heap.lt_size q1), fun y => ?_, q5⟩
    rcases List.mem_cons.mp (I2.stkSub p.1 y) with q | q
    ·exact q3 q
    ·exact q4 q
   ·have z' : p = (s2.heap.objs.size, { cls := .type "list", data := .seq ([] : List Value).toArray }) := by simpa using z
    subst z'
    refine ⟨hacc, I2.hok.fresh (Nat.le_refl _), hDC, fun y => absurd (stkne _ y) (Nat.lt_irrefl _), fun v y => ?_⟩
    have y' : Data.seq _ _ = Data.cell v := y
    cases y'
  ·show (List.replicate bs.length none ++ js.map fun j => (σ[j]?).getD none).length = (bs ++ caps).length
   rw [List.length_append, List.length_replicate, List.length_map, List.length_append, c.cap.len]
 have stat : ∀ {H3 : Hp} {o : Obj}, (∀ b ∈ fp, H3 b = none) → ∀ b ∈ fp, FpOk (cxComp X (bs ++ caps) scope cl P2.objs.size pins fp s2 H2) [(s2.heap.objs.size, o)] H3 b := fpY
 have loop : codeAny (model X.prog X.w) X.A (.compLoop (.ListComp elt [⟨tg, iter, ifs, 0⟩] scope pos) 0 (.ref it) (.ref s2.heap.objs.size) (compEnvC scope cl P2.objs.size X.env)) (RR (.ref s2.heap.objs.size) P2.objs.size)
   { s2 with heap := h₁, toks := s2.toks + ([] : List (Str × Value)).length } := by
  refine compLoop_any (fun n s' => ∃ (i : Nat) (ys : List V) (its : List Value) (nn : Nat) (H' : Hp), Inv (cxComp X (bs ++ caps) scope cl P2.objs.size pins fp s2 H2) [(s2.heap.objs.size, { cls := .type "list", data := .seq its.toArray nn })] (blk bs.length js σ) H' s' ∧ Vals ys its ∧ tn i s'.heap ∧ (∀ b ∈ fp, H' b = none) ∧ W i n ys H') ?_ m0
   ⟨0, [], [], 0, H2, IY, .nil, T.keep _ _ _ st2 fun b ψ o e => old b o e, fun b hb => (f2 b hb).1, w0⟩
  rintro n s3 ⟨i, ys, its, nn, H3, I3, rv, st3, fr3, w3⟩
  rcases turn i n ys H3 w3 with ⟨stop, hz, hZ⟩ | ⟨go, hz, step⟩
  ·refine thn (T.done (cxComp X (bs ++ caps) scope cl P2.objs.size pins fp s2 H2) rfl rfl rfl hc i _ s3 _ H3 _ I3 (stat fr3) st3 stop) fun r s4 ⟨hr, I4⟩ => ?_
   subst hr
   obtain ⟨q1, q2, q3, q4, _⟩ := I4.pin (s2.heap.objs.size, { cls := .type "list", data := .seq its.toArray nn }) (by simp)
   have JX : Inv X pins σ H3 s4 := I2.call' (ch := fp) I4.os I4.base I4.hok I4.bare fun b hb => let f := f2 b hb; ⟨f.2.2.2.1, f.2.1, f.2.2.2.2.1, f.2.2.2.2.2⟩
   have JD : Inv X pins σ (upd H3 s2.heap.objs.size (.lst ys)) s4 := JX.adopt (fD q2) ⟨hz, its, nn, rv, q1⟩
   obtain ⟨mC, hnC, _⟩ := I4.loc
   exact hR _ _ s4 H3 ys mC JD q2 (fC (by rw [upd_ne (Ne.symm hDC)]; exact I4.free)) hnC hZ
  ·refine thn (T.item (cxComp X (bs ++ caps) scope cl P2.objs.size pins fp s2 H2) rfl rfl rfl hc i _ s3 _ H3 _ I3 (stat fr3) st3 go) fun r s4 ⟨u, hr, h4⟩ => ?_
   subst hr
   refine thn h4 fun _ s5 ⟨x, H5, I5, r5, y5, st5, fr5⟩ => ?_
   have I5' := I5.pinned (stat fr5) (T.obj _ _ st5)
   refine thn (hg _ _ _ _ _ _ s5 _ H5 x u _ I5' r5 (step x H5 y5)) fun _ s6 ⟨σ6, H6, I6, q6⟩ => ?_
   refine thn (ht _ _ _ _ _ _ s6 σ6 H6 _ I6 q6) fun ok s7 ⟨H7, I7, q7⟩ => ?_
   have back : ∀ {σ8 : St} {H8 : Hp} {s8 : Shared}, Inv (cxComp X (bs ++ caps) scope cl P2.objs.size pins fp s2 H2) ([(s2.heap.objs.size, { cls := .type "list", data := .seq its.toArray nn })] ++ pinsAt fp s5.heap) σ8 H8 s8 → tn (i + 1) s8.heap ∧ ∀ b ∈ fp, H8 b = none := fun {σ8 H8 s8} I8 =>
    ⟨T.keep _ _ _ st5 fun b hb o e => (I8.pin (b, o) (List.mem_append_right _ (List.mem_append_right _ (mem_pinsAt hb e)))).1, fun b hb => by
     obtain ⟨o, e, d⟩ := T.obj _ _ st5 b hb
     exact (I8.pin (b, o) (List.mem_append_right _ (List.mem_append_right _ (mem_pinsAt hb e)))).2.1⟩
   have base : ∀ {σ8 : St} {H8 : Hp} {s8 : Shared} {o : Obj}, Inv (cxComp X (bs ++ caps) scope cl P2.objs.size pins fp s2 H2) [(s2.heap.objs.size, o)] σ8 H8 s8 → Inv (cxComp X (bs ++ caps) scope cl P2.objs.size pins fp s2 H2) [(s2.heap.objs.size, o)] (blk bs.length js σ) H8 s8 := fun {σ8 H8 s8 o} I8 => by
    obtain ⟨mC, hnC, _⟩ := I8.loc
    refine ⟨I8.ok, I8.os, I8.bare, I8.base, ⟨mC, hnC, fun i x v e1 e2 e3 => ?_⟩, I8.cell, I8.free, I8.freeC, I8.pin, I8.hok, IY.len⟩
    obtain ⟨u, r, l⟩ := IY.loc.choose_spec.2 i x v e1 e2 e3
    have hl0 := IY.loc.choose_spec.1
    refine ⟨u, r, ?_⟩
    rcases l with ⟨k, z⟩ | ⟨k, a, z, ob, eo, d⟩
    ·have hb : ¬ i < bs.length := fun hi => by
      have e2' : (List.replicate bs.length none ++ _)[i]? = some (some v) := e2
      rw [List.getElem?_append_left (by simpa using hi), List.getElem?_replicate, if_pos hi] at e2'
      cases e2'
     have e1' : (bs ++ caps)[i]? = some x := e1
     rw [List.getElem?_append_right (by lia)] at e1'
     have e2' : (List.replicate bs.length none ++ js.map fun j => (σ[j]?).getD none)[i]? = some (some v) := e2
     rw [List.getElem?_append_right (by simpa using hb), List.length_replicate] at e2'
     obtain ⟨j, q1, q2, q3, q4, q5⟩ := c.cap.get e1' e2'
     have k' : (relabel scope X.env).names.lookup x = some .local := k
     rcases q5 with y | y <;> (rw [y] at k'; cases k')
    ·
     obtain ⟨v8, o8, e8, d8⟩ := I8.cell x a z
     obtain ⟨vX, oX, eX, dX⟩ := I2.cell x a (c.sub _ _ z)
     have h8 := I8.base.any eX (I2.freeC x a (c.sub _ _ z)) (fun hx => (f2 a hx).2.2.2.2.1 x a (c.sub _ _ z) rfl)
     obtain ⟨sl, h8⟩ := h8
     have eo' : h₁.get? a = some oX := old _ _ eX
     have eo2 : h₁.get? a = some ob := eo
     rw [eo'] at eo2
     cases eo2
     exact .inr ⟨k, a, z, _, h8, d⟩
   cases ok with
   | false =>
    obtain ⟨m', hm, w7⟩ := q7
    obtain ⟨st7, fr7⟩ := back I7
    exact ⟨m', hm, i + 1, ys, its, nn, H7, base I7.unpinned, rv, st7, fr7, w7⟩
   | true =>
    refine thn (he _ _ _ _ _ _ s7 σ6 H7 _ I7 q7) fun y s8 ⟨v, H8, I8, r8, m', hm, w8⟩ => ?_
    obtain ⟨st8, fr8⟩ := back I8
    have I8' := I8.unpinned
    obtain ⟨q1, q2, q3, q4, _⟩ := I8'.pin (s2.heap.objs.size, { cls := .type "list", data := .seq its.toArray nn }) (by simp)
    refine PySem.wpAny_list_append_plain (items := its.toArray) (hsz := by rw [List.size_toArray, ← rv.length]; exact hz) ⟨_, q1⟩ fun h9 hl9 hs9 => ?_
    obtain ⟨n9, e9⟩ := hl9
    have I80 : Inv (cxComp X (bs ++ caps) scope cl P2.objs.size pins fp s2 H2) [] σ6 H8 s8 := I8'.pins_of fun p hp => absurd hp (by simp)
    have I9 : Inv (cxComp X (bs ++ caps) scope cl P2.objs.size pins fp s2 H2) [] σ6 H8 { s8 with heap := h9, toks := s8.toks } := I80.turned (it := s2.heap.objs.size) (fun b o hb e => (hs9.2 b hb).trans e) q2 q3 (.inr (Nat.le_refl _))
     (fun x a h z => by
      obtain ⟨v', ob, eo, _⟩ := I2.cell x a (c.sub _ _ h)
      exact absurd (Heap.lt_size eo) (by rw [z]; exact Nat.lt_irrefl _))
     (fun p hp z => by
      have hp' : p ∈ X.pn ++ pins := (List.mem_append.mp hp).elim (fun z => z) fun z => absurd z (by simp)
      exact absurd (Heap.lt_size (I2.pin p hp').1) (by rw [z]; exact Nat.lt_irrefl _))
    have ea : its.toArray.push y = (its ++ [y]).toArray := by simp
    rw [ea] at e9
    have I10 : Inv (cxComp X (bs ++ caps) scope cl P2.objs.size pins fp s2 H2) [(s2.heap.objs.size, { cls := .type "list", data := .seq (its ++ [y]).toArray n9 })] σ6 H8 { s8 with heap := h9 } := I9.pins_of fun p hp => by
     have z' : p = (s2.heap.objs.size, { cls := .type "list", data := .seq (its ++ [y]).toArray n9 }) := by simpa using hp
     subst z'
     refine ⟨e9, q2, q3, q4, fun v' y' => ?_⟩
     have y2 : Data.seq _ _ = Data.cell v' := y'
     cases y2
    have hDf : s2.heap.objs.size ∉ fp := fun hb => by
     obtain ⟨o', e'⟩ := ob2 _ hb
     exact absurd (Heap.lt_size e') (Nat.lt_irrefl _)
    exact ⟨m', hm, i + 1, ys ++ [v], its ++ [y], n9, H8, base I10, rv.append (.cons r8 .nil), T.keep _ _ _ st8 fun b hb o e => (hs9.2 b (fun z => hDf (z ▸ hb))).trans e, fr8, w8⟩
 exact codeAny_compStart_list loop (T.self _ 0 _ _ _ (T.keep _ _ _ st2 fun b ψ o e => old b o e) loop)
theorem pe_comp (hc : X.calm = true) (c : CompOk X scope cl js caps) (hi : PI X tg iter wi)
  (hg : ∀ C pins fp s2 H2, PG (cxComp X (bs ++ caps) scope cl C pins fp s2 H2) tg g) (ht : ∀ C pins fp s2 H2, PTs (cxComp X (bs ++ caps) scope cl C pins fp s2 H2) ifs tc) (he : ∀ C pins fp s2 H2, PE (cxComp X (bs ++ caps) scope cl C pins fp s2 H2) elt te)
  (hs : ∀ x, foldedSetIterable iter X.env x = pure x := by intro ψ; rfl) : PE X (.ListComp elt [⟨tg, iter, ifs, 0⟩] scope pos) (tComp wi bs.length js g tc te) := by
 intro pins s σ H Q I h
 rw [eval_ListComp]
 refine wpAny_comprehension_free (use := none) rfl hs c.clos c.kind c.names (thn (hi pins s σ H _ I h) fun v s1 h1 => thn h1 fun itv s2 h2 => ?_)
 obtain ⟨it, fp, tn, J, H2, e, I2, T, st2, f2, W, ⟨m0, w0⟩, turn⟩ := h2
 subst e
 refine comp_core (RR := fun acc C => compPost (model X.prog X.w) X.A X.xe none (EP X pins σ Q) acc C) (Z := fun ys H => ∀ p, H p = none → Q (.ref p) (upd H p (.lst ys))) hc c hg ht he I2 T st2 f2 W w0 turn fun D C s4 H3 ys mC J4 hD fC hnC hZ => ?_
 refine ⟨mC, hnC, fun h' hs' => ⟨.ref D, upd H3 D (.lst ys), ?_, rfl, hZ D hD⟩⟩
 exact J4.turned (t' := s4.toks) (it := C) (fun b o hb e => (hs'.2 b hb).trans e) fC.1 fC.2.1 fC.2.2.2.1 fC.2.2.2.2.1 fC.2.2.2.2.2
theorem ps_setC {i : Nat} {y : Str} {py spos : Pos} (hsw : swapsWith (.ListComp elt [⟨tg, iter, ifs, 0⟩] scope pos) (some (.Name y py)) spos.line X.env = pure true) (hN : X.N.Nodup) (hy : X.N[i]? = some y) (hl : X.env.scope.names.lookup y = some .local) (hc : X.calm = true) (c : CompOk X scope cl js caps) (hi : PI X tg iter wi)
  (hg : ∀ C pins fp s2 H2, PG (cxComp X (bs ++ caps) scope cl C pins fp s2 H2) tg g) (ht : ∀ C pins fp s2 H2, PTs (cxComp X (bs ++ caps) scope cl C pins fp s2 H2) ifs tc) (he : ∀ C pins fp s2 H2, PE (cxComp X (bs ++ caps) scope cl C pins fp s2 H2) elt te)
  (hs : ∀ x, foldedSetIterable iter X.env x = pure x := by intro ψ; rfl) : PS X (.Assign [.Name y py] (.ListComp elt [⟨tg, iter, ifs, 0⟩] scope pos) spos) (tAsg (tComp wi bs.length js g tc te) (gName i)) := by
 intro pins s σ H D I h
 rw [exec_Assign_Name_used _ _ _ _ hsw]
 refine wpAny_bind (wpAny_standAt (wpAny_bind ?_))
 show wpAny _ X.A (do let _ ← comprehension (.ListComp elt [⟨tg, iter, ifs, 0⟩] scope pos) scope X.env _ (newList []) false (eval iter X.env) (some (assign (.Name y py) X.env))) _ _ s
 refine wpAny_bind (thn (wpAny_comprehension_free (use := some (assign (.Name y py) X.env)) (Q := fun ψ s' => SP X pins D .next s') rfl hs c.clos c.kind c.names
  (thn (hi pins s σ H _ I h) fun xv s1 h1 => thn h1 fun itv s2 h2 => ?_)) fun ψ s' hq => wpAny_pure (wpAny_pure hq))
 obtain ⟨it, fp, tn, J, H2, e, I2, T, st2, f2, W, ⟨m0, w0⟩, turn⟩ := h2
 subst e
 refine comp_core (RR := fun acc C => compPost (model X.prog X.w) X.A X.xe (some (assign (.Name y py) X.env)) (fun ψ s' => SP X pins D .next s') acc C) (Z := fun ys H => ∀ p, H p = none → D.nx (σ.set i (some (.ref p))) (upd H p (.lst ys))) hc c hg ht he I2 T st2 f2 W w0 turn fun d C s4 H3 ys mC J4 hD fC hnC hZ => ?_
 show wpAny _ X.A (assign (.Name y py) X.env (.ref d)) _ _ s4
 refine wpAny_assign_Name (store_ok2 J4 hN hy (.inl hl) (v := .ref d) rfl (fun s5 J5 ⟨a, hsb, ha⟩ => ?_) (.inr hl))
 have hCa : C ≠ a := by
  rcases ha with z | z
  ·rw [z]; exact fC.2.1
  ·exact fun q => fC.2.2.2.2.1 _ _ z q.symm
 refine ⟨mC, hnC.sameBut hsb hCa, fun h' hs' => ⟨_, _, J5.turned (t' := s5.toks) (it := C) (fun b o hb e => (hs'.2 b hb).trans e) fC.1 fC.2.1 fC.2.2.2.1 fC.2.2.2.2.1 fC.2.2.2.2.2, hZ d hD⟩⟩
end
section
variable {X : Cx}
noncomputable def CDivB (i j : Int) : Prop := 0 < j ∧ j.natAbs < 2 ^ 9000
theorem log_small {n : Nat} (h0 : 0 < n) (h : n < 2 ^ 9000) : n.log2 < 9000 := (Nat.log2_lt (Nat.ne_of_gt h0)).mpr h
theorem op_fdivB : OpR X (binaryOp .FloorDiv) (rI CDivB fun i j => .int (i / j)) := opI fun i j ψ ψ ψ ψ ψ hc q => by
 have h1 : (0 : Int) < j := hc.1
 exact floordiv_int (by lia) (by rw [Int.fdiv_eq_ediv_of_nonneg i (by lia)]; exact q) (.inl (PyProof.noPylong_of_log2 (log_small (by lia) hc.2)))
theorem bits_small {i : Int} (h : i.natAbs < 2 ^ 9000) : Builtin.Int.intBits i ≤ 2 ^ 20 := by
 unfold Builtin.Int.intBits
 split
 ·exact Nat.zero_le _
 ·have h2 : i.natAbs.log2 < 9000 := by
   rcases Nat.eq_zero_or_pos i.natAbs with h0 | hp
   ·rw [h0]; decide
   ·exact log_small hp h
  have e : (2 : Nat) ^ 20 = 1048576 := by decide
  lia
noncomputable def CMulB (i j : Int) : Prop := (-(2 ^ 64) < i ∧ i < 2 ^ 64) ∨ (-(2 ^ 64) < j ∧ j < 2 ^ 64) ∨ (i.natAbs < 2 ^ 9000 ∧ j.natAbs < 2 ^ 9000)
theorem CMulB.ok {i j : Int} (h : CMulB i j) : IntMulOk i j := by
 rcases h with ⟨h1, h2⟩ | ⟨h1, h2⟩ | ⟨h1, h2⟩
 ·exact .of_left (intBits_le_64 h1 h2)
 ·exact .of_right (intBits_le_64 h1 h2)
 ·exact .of_bits (bits_small h1) (bits_small h2)
theorem op_mulB : OpR X (binaryOp .Mult) (rI CMulB fun i j => .int (i * j)) := opI fun ψ ψ ψ ψ ψ ψ ψ hc q => mul_int q hc.ok
theorem iop_mulB : OpR X (inplaceOp .Mult) (rI CMulB fun i j => .int (i * j)) := opI fun ψ ψ ψ ψ ψ ψ ψ hc q => imul_int q hc.ok
end
inductive D where
 | non | bl (b : Bool) | int (i : Int) | str (x : Str) | tup (xs : List D)
mutual
noncomputable def DV (K : L2.Fg) (H : Hp) : D → V → Prop
 | .non, v => v = .non
 | .bl b, v => v = .bl b
 | .int i, v => v = .int i
 | .str x, v => v = .str x
 | .tup ds, v => ∃ a xs, v = .ref a ∧ SqT K H a xs ∧ DVs K H ds xs
noncomputable def DVs (K : L2.Fg) (H : Hp) : List D → List V → Prop
 | [], vs => vs = []
 | d :: ds, vs => ∃ v r, vs = v :: r ∧ DV K H d v ∧ DVs K H ds r
end
mutual
noncomputable def D.eq : D → D → Bool
 | .non, .non => true
 | .bl a, .bl b => a == b
 | .bl a, .int b => (if a then 1 else 0) == b
 | .int a, .bl b => a == (if b then 1 else 0)
 | .int a, .int b => a == b
 | .str a, .str b => a == b
 | .tup xs, .tup ys => D.eqs xs ys
 | _, _ => false
noncomputable def D.eqs : List D → List D → Bool
 | [], [] => true
 | x :: xs, y :: ys => D.eq x y && D.eqs xs ys
 | _, _ => false
end
mutual
noncomputable def D.depth : D → Nat
 | .tup xs => D.depths xs + 1
 | _ => 0
noncomputable def D.depths : List D → Nat
 | [] => 0
 | x :: xs => max (D.depth x) (D.depths xs)
end
theorem DVs.length {K : L2.Fg} {H : Hp} : ∀ {ds : List D} {vs : List V}, DVs K H ds vs → ds.length = vs.length
 | [], vs, h => by rw [DVs] at h; subst h; rfl
 | d :: ds, vs, h => by
  rw [DVs] at h
  obtain ⟨v, r, rfl, _, h2⟩ := h
  simp [DVs.length h2]
theorem DVs.get {K : L2.Fg} {H : Hp} : ∀ {ds : List D} {vs : List V} {j : Nat} {d : D}, DVs K H ds vs → ds[j]? = some d → ∃ v, vs[j]? = some v ∧ DV K H d v
 | [], vs, j, d, h, e => by simp at e
 | d' :: ds, vs, j, d, h, e => by
  rw [DVs] at h
  obtain ⟨v, r, rfl, h1, h2⟩ := h
  cases j with
  | zero => simp at e; subst e; exact ⟨v, rfl, h1⟩
  | succ j =>
   obtain ⟨v', e', h'⟩ := DVs.get (j := j) h2 (by simpa using e)
   exact ⟨v', by simpa using e', h'⟩
theorem all_succ (n : Nat) (e : Nat → Bool) : (List.range (n + 1)).all e = (e 0 && (List.range n).all fun j => e (j + 1)) := by
 rw [List.range_succ_eq_map, List.all_cons, List.all_map]
 rfl
theorem eqs_all : ∀ (xs ys : List D), D.eqs xs ys = ((List.range (min xs.length ys.length)).all (fun j => D.eq (xs.getD j .non) (ys.getD j .non)) && xs.length == ys.length)
 | [], [] => by simp [D.eqs]
 | [], y :: ys => by simp [D.eqs]
 | x :: xs, [] => by simp [D.eqs]
 | x :: xs, y :: ys => by
  rw [D.eqs, eqs_all xs ys]
  have e : min (x :: xs).length (y :: ys).length = min xs.length ys.length + 1 := by simp only [List.length_cons]; lia
  rw [e, all_succ]
  simp [Bool.and_assoc]
section
variable {X : Cx} {pins : L2.AO} {σ : St} {H : Hp} {s : Shared}
theorem units_in1 (A : Around) : A.in1.units = A.units + 1 := rfl
mutual
theorem same_D (I : Inv X pins σ H s) : ∀ (d e : D) (x : V), DV X.K H d x → DV X.K H e x → D.eq d e = true
 | .non, e, x, hx, hy => by
  rw [DV] at hx; subst hx
  cases e with
  | tup b => rw [DV] at hy; obtain ⟨p, ys, z, _⟩ := hy; cases z
  | _ => rw [DV] at hy; first | rfl | cases hy
 | .bl a, e, x, hx, hy => by
  rw [DV] at hx; subst hx
  cases e with
  | tup b => rw [DV] at hy; obtain ⟨p, ys, z, _⟩ := hy; cases z
  | bl b => rw [DV] at hy; cases hy; rw [D.eq]; exact beq_self_eq_true _
  | _ => rw [DV] at hy; cases hy
 | .int a, e, x, hx, hy => by
  rw [DV] at hx; subst hx
  cases e with
  | tup b => rw [DV] at hy; obtain ⟨p, ys, z, _⟩ := hy; cases z
  | int b => rw [DV] at hy; cases hy; rw [D.eq]; exact beq_self_eq_true _
  | _ => rw [DV] at hy; cases hy
 | .str a, e, x, hx, hy => by
  rw [DV] at hx; subst hx
  cases e with
  | tup b => rw [DV] at hy; obtain ⟨p, ys, z, _⟩ := hy; cases z
  | str b => rw [DV] at hy; cases hy; rw [D.eq]; exact beq_self_eq_true _
  | _ => rw [DV] at hy; cases hy
 | .tup ds, e, x, hx, hy => by
  rw [DV] at hx
  obtain ⟨a, xs, rfl, ha, hxs⟩ := hx
  cases e with
  | tup es =>
   rw [DV] at hy
   obtain ⟨b, ys, z, hb, hys⟩ := hy
   cases z
   have e1 := I.tuple_inj ha hb
   subst e1
   rw [D.eq]
   exact sames_D I ds es xs hxs hys
  | _ => rw [DV] at hy; cases hy
theorem sames_D (I : Inv X pins σ H s) : ∀ (ds es : List D) (xs : List V), DVs X.K H ds xs → DVs X.K H es xs → D.eqs ds es = true
 | [], es, xs, hx, hy => by
  rw [DVs] at hx; subst hx
  cases es with
  | nil => rfl
  | cons e es => rw [DVs] at hy; obtain ⟨v, r, z, _⟩ := hy; cases z
 | d :: ds, es, xs, hx, hy => by
  rw [DVs] at hx
  obtain ⟨x, xr, rfl, hx1, hx2⟩ := hx
  cases es with
  | nil => rw [DVs] at hy; cases hy
  | cons e es =>
   rw [DVs] at hy
   obtain ⟨y, yr, z, hy1, hy2⟩ := hy
   cases z
   rw [D.eqs, same_D I d e x hx1 hy1, sames_D I ds es xr hx2 hy2]
   rfl
end
mutual
theorem eqAt_D (I : Inv X pins σ H s) : ∀ (d e : D) (A : Around) (x y : V) (u v : Value), RelV x u → RelV y v → DV X.K H d x → DV X.K H e y → A.units + d.depth < cLine → SeqAt.EqAt A s u v (D.eq d e)
 | .non, e, A, x, y, u, v, rx, ry, hx, hy, hu => by
  rw [DV] at hx; subst hx
  cases e with
  | non => rw [DV] at hy; subst hy; exact eqAt_V rx ry rfl rfl
  | bl b => rw [DV] at hy; subst hy; exact eqAt_V rx ry rfl rfl
  | int b => rw [DV] at hy; subst hy; exact eqAt_V rx ry rfl rfl
  | str b => rw [DV] at hy; subst hy; exact eqAt_V rx ry rfl rfl
  | tup b =>
   rw [DV] at hy
   obtain ⟨p, ys, rfl, hp, _⟩ := hy
   cases rx; cases ry
   obtain ⟨its, _, pt, _⟩ := I.tuple hp
   exact SeqAt.EqAt.none_tuple (show s.heap.IsTuple p its.toArray from pt) (by lia)
 | .bl a, e, A, x, y, u, v, rx, ry, hx, hy, hu => by
  rw [DV] at hx; subst hx
  cases e with
  | non => rw [DV] at hy; subst hy; exact eqAt_V rx ry rfl rfl
  | bl b => rw [DV] at hy; subst hy; exact eqAt_V rx ry rfl rfl
  | int b => rw [DV] at hy; subst hy; exact eqAt_V rx ry rfl rfl
  | str b => rw [DV] at hy; subst hy; exact eqAt_V rx ry rfl rfl
  | tup b =>
   rw [DV] at hy
   obtain ⟨p, ys, rfl, hp, _⟩ := hy
   cases rx; cases ry
   obtain ⟨its, _, pt, _⟩ := I.tuple hp
   exact SeqAt.EqAt.bool_tuple a (show s.heap.IsTuple p its.toArray from pt) (by lia)
 | .int a, e, A, x, y, u, v, rx, ry, hx, hy, hu => by
  rw [DV] at hx; subst hx
  cases e with
  | non => rw [DV] at hy; subst hy; exact eqAt_V rx ry rfl rfl
  | bl b => rw [DV] at hy; subst hy; exact eqAt_V rx ry rfl rfl
  | int b => rw [DV] at hy; subst hy; exact eqAt_V rx ry rfl rfl
  | str b => rw [DV] at hy; subst hy; exact eqAt_V rx ry rfl rfl
  | tup b =>
   rw [DV] at hy
   obtain ⟨p, ys, rfl, hp, _⟩ := hy
   obtain ⟨t, rfl⟩ := rx
   cases ry
   obtain ⟨its, _, pt, _⟩ := I.tuple hp
   exact SeqAt.EqAt.int_tuple a t (show s.heap.IsTuple p its.toArray from pt) (by lia)
 | .str a, e, A, x, y, u, v, rx, ry, hx, hy, hu => by
  rw [DV] at hx; subst hx
  cases e with
  | non => rw [DV] at hy; subst hy; exact eqAt_V rx ry rfl rfl
  | bl b => rw [DV] at hy; subst hy; exact eqAt_V rx ry rfl rfl
  | int b => rw [DV] at hy; subst hy; exact eqAt_V rx ry rfl rfl
  | str b => rw [DV] at hy; subst hy; exact eqAt_V rx ry rfl rfl
  | tup b =>
   rw [DV] at hy
   obtain ⟨p, ys, rfl, hp, _⟩ := hy
   obtain ⟨t, rfl⟩ := rx
   cases ry
   obtain ⟨its, _, pt, _⟩ := I.tuple hp
   exact SeqAt.EqAt.str_tuple a t (show s.heap.IsTuple p its.toArray from pt) (by lia)
 | .tup ds, e, A, x, y, u, v, rx, ry, hx, hy, hu => by
  rw [DV] at hx
  obtain ⟨a, xs, rfl, ha, hxs⟩ := hx
  cases rx
  obtain ⟨its, r1, pt, _⟩ := I.tuple ha
  have hu' : A.units + (D.depths ds + 1) < cLine := by rw [D.depth] at hu; exact hu
  cases e with
  | non => rw [DV] at hy; subst hy; cases ry; exact SeqAt.EqAt.tuple_none (show s.heap.IsTuple a its.toArray from pt) (by lia)
  | bl b => rw [DV] at hy; subst hy; cases ry; exact SeqAt.EqAt.tuple_bool b (show s.heap.IsTuple a its.toArray from pt) (by lia)
  | int b => rw [DV] at hy; subst hy; obtain ⟨t, rfl⟩ := ry; exact SeqAt.EqAt.tuple_int b t (show s.heap.IsTuple a its.toArray from pt) (by lia)
  | str b => rw [DV] at hy; subst hy; obtain ⟨t, rfl⟩ := ry; exact SeqAt.EqAt.tuple_str b t (show s.heap.IsTuple a its.toArray from pt) (by lia)
  | tup es =>
   rw [DV] at hy
   obtain ⟨b, ys, rfl, hb, hys⟩ := hy
   cases ry
   obtain ⟨its2, r2, pt2, _⟩ := I.tuple hb
   by_cases hab : a = b
   ·subst hab
    have e1 := same_D I (.tup ds) (.tup es) (.ref a) (by rw [DV]; exact ⟨a, xs, rfl, ha, hxs⟩) (by rw [DV]; exact ⟨a, ys, rfl, hb, hys⟩)
    rw [e1]
    exact SeqAt.EqAt.same _
   ·have key := SeqAt.RcAt.tuples (A := A) (e := fun j => D.eq (ds.getD j .non) (es.getD j .non)) (show s.heap.IsTuple a its.toArray from pt) (show s.heap.IsTuple b its2.toArray from pt2) (by lia) fun j h1 h2 => ?_
    ·have l1 := hxs.length
     have l2 := hys.length
     have l3 := r1.length
     have l4 := r2.length
     refine SeqAt.EqAt.of_refs hab ?_
     rw [D.eq, eqs_all]
     rw [List.size_toArray, List.size_toArray, ← l3, ← l4, ← l1, ← l2] at key
     exact key
    ·exact eqsAt_D I ds es A.in1 xs ys its its2 r1 r2 hxs hys (by rw [units_in1]; lia) j (by simpa using h1) (by simpa using h2)
theorem eqsAt_D (I : Inv X pins σ H s) : ∀ (ds es : List D) (A : Around) (xs ys : List V) (us vs : List Value), Vals xs us → Vals ys vs → DVs X.K H ds xs → DVs X.K H es ys → A.units + D.depths ds < cLine →
  ∀ j (h1 : j < us.length) (h2 : j < vs.length), SeqAt.EqAt A s us[j] vs[j] (D.eq (ds.getD j .non) (es.getD j .non))
 | [], _, _, xs, _, us, _, r1, _, hx, _, _ => fun j h1 ψ => by
  rw [DVs] at hx; subst hx
  cases r1
  simp at h1
 | d :: ds, [], _, _, ys, _, vs, _, r2, _, hy, _ => fun j ψ h2 => by
  rw [DVs] at hy; subst hy
  cases r2
  simp at h2
 | d :: ds, e :: es, A, xs, ys, us, vs, r1, r2, hx, hy, hu => fun j h1 h2 => by
  rw [DVs] at hx hy
  obtain ⟨x, xr, rfl, hx1, hx2⟩ := hx
  obtain ⟨y, yr, rfl, hy1, hy2⟩ := hy
  rw [D.depths] at hu
  cases r1 with
  | cons q1 t1 =>
   cases r2 with
   | cons q2 t2 =>
    cases j with
    | zero => exact eqAt_D I d e A x y _ _ q1 q2 hx1 hy1 (by lia)
    | succ j => exact eqsAt_D I ds es A xr yr _ _ t1 t2 hx2 hy2 (by lia) j (by simpa using h1) (by simpa using h2)
end
end
section
variable {X : Cx}
noncomputable def rEqT (K : L2.Fg) (neg : Bool) : R2 := fun x y H Q => ∃ ds es, DV K H (.tup ds) x ∧ DV K H (.tup es) y ∧ D.depths ds ≤ 40 ∧ Q (.bl (if neg then !D.eqs ds es else D.eqs ds es)) H
theorem op_eqT (hu : X.A.units + 64 < cLine) : OpR X (compareOp .Eq) (rEqT X.K false) := by
 intro pins s σ H x y v u Q I rx ry h
 obtain ⟨ds, es, hx, hy, hd, q⟩ := h
 rw [DV] at hx hy
 obtain ⟨a, xs, rfl, ha, hxs⟩ := hx
 obtain ⟨b, ys, rfl, hb, hys⟩ := hy
 cases rx; cases ry
 obtain ⟨its, r1, pt, _⟩ := I.tuple ha
 obtain ⟨its2, r2, pt2, _⟩ := I.tuple hb
 refine SeqAt.eq_tupleAt (e := fun j => D.eq (ds.getD j .non) (es.getD j .non)) (show s.heap.IsTuple a its.toArray from pt) (show s.heap.IsTuple b its2.toArray from pt2) (by lia) (fun j h1 h2 => ?_) ⟨.bl _, H, I, rfl, ?_⟩
 ·exact eqsAt_D I ds es X.A.in1 xs ys its its2 r1 r2 hxs hys (by rw [units_in1]; lia) j (by simpa using h1) (by simpa using h2)
 ·rw [List.size_toArray, List.size_toArray, ← r1.length, ← r2.length, ← hxs.length, ← hys.length, ← eqs_all]
  exact q
theorem op_neT (hu : X.A.units + 64 < cLine) : OpR X (compareOp .NotEq) (rEqT X.K true) := by
 intro pins s σ H x y v u Q I rx ry h
 obtain ⟨ds, es, hx, hy, hd, q⟩ := h
 rw [DV] at hx hy
 obtain ⟨a, xs, rfl, ha, hxs⟩ := hx
 obtain ⟨b, ys, rfl, hb, hys⟩ := hy
 cases rx; cases ry
 obtain ⟨its, r1, pt, _⟩ := I.tuple ha
 obtain ⟨its2, r2, pt2, _⟩ := I.tuple hb
 refine SeqAt.RcNeAt.tuples (e := fun j => D.eq (ds.getD j .non) (es.getD j .non)) (show s.heap.IsTuple a its.toArray from pt) (show s.heap.IsTuple b its2.toArray from pt2) (by lia) (fun j h1 h2 => ?_) X.prog X.w X.xe _ ⟨.bl _, H, I, rfl, ?_⟩
 ·exact eqsAt_D I ds es X.A.in1 xs ys its its2 r1 r2 hxs hys (by rw [units_in1]; lia) j (by simpa using h1) (by simpa using h2)
 ·rw [List.size_toArray, List.size_toArray, ← r1.length, ← r2.length, ← hxs.length, ← hys.length, ← eqs_all]
  exact q
noncomputable def rEqL (K : L2.Fg) (neg : Bool) : R2 := fun x y H Q => ∃ a b xs ys ds es, x = .ref a ∧ y = .ref b ∧ SqL K H a xs ∧ SqL K H b ys ∧ DVs K H ds xs ∧ DVs K H es ys ∧ D.depths ds ≤ 40 ∧ Q (.bl (if neg then !D.eqs ds es else D.eqs ds es)) H
theorem eqs_len : ∀ {xs ys : List D}, xs.length ≠ ys.length → D.eqs xs ys = false
 | [], [], h => absurd rfl h
 | [], _ :: _, _ => rfl
 | _ :: _, [], _ => rfl
 | x :: xs, y :: ys, h => by rw [D.eqs, eqs_len (fun z => h (by simp [z])), Bool.and_false]
theorem op_eqL (hu : X.A.units + 64 < cLine) : OpR X (compareOp .Eq) (rEqL X.K false) := by
 intro pins s σ H x y v u Q I rx ry h
 obtain ⟨a, b, xs, ys, ds, es, rfl, rfl, ha, hb, hxs, hys, hd, q⟩ := h
 cases rx; cases ry
 obtain ⟨its, r1, pt, _⟩ := I.list ha
 obtain ⟨its2, r2, pt2, _⟩ := I.list hb
 by_cases hl : its.length = its2.length
 ·refine SeqAt.eq_listAt (e := fun j => D.eq (ds.getD j .non) (es.getD j .non)) pt.isList pt2.isList (by simp [hl]) (by lia) (fun j h1 h2 => ?_) ⟨.bl _, H, I, rfl, ?_⟩
  ·exact eqsAt_D I ds es X.A.in1 xs ys its its2 r1 r2 hxs hys (by rw [units_in1]; lia) j (by simpa using h1) (by simpa using h2)
  ·have e := eqs_all ds es
   have l1 := hxs.length; have l2 := hys.length; have l3 := r1.length; have l4 := r2.length
   rw [show min ds.length es.length = its.toArray.size by rw [List.size_toArray]; lia, show (ds.length == es.length) = true by rw [beq_iff_eq]; lia, Bool.and_true] at e
   rw [← e]
   exact q
 ·refine SeqAt.eq_list_lengthsAt pt.isList pt2.isList (by simp [hl]) (by lia) ⟨.bl _, H, I, rfl, ?_⟩
  have e : D.eqs ds es = false := eqs_len (by have l1 := hxs.length; have l2 := hys.length; have l3 := r1.length; have l4 := r2.length; lia)
  simp only [Bool.false_eq_true, if_false] at q
  rw [e] at q
  exact q
theorem op_neL (hu : X.A.units + 64 < cLine) : OpR X (compareOp .NotEq) (rEqL X.K true) := by
 intro pins s σ H x y v u Q I rx ry h
 obtain ⟨a, b, xs, ys, ds, es, rfl, rfl, ha, hb, hxs, hys, hd, q⟩ := h
 cases rx; cases ry
 obtain ⟨its, r1, pt, _⟩ := I.list ha
 obtain ⟨its2, r2, pt2, _⟩ := I.list hb
 by_cases hl : its.length = its2.length
 ·refine SeqAt.RcNeAt.lists (e := fun j => D.eq (ds.getD j .non) (es.getD j .non)) pt.isList pt2.isList (by simp [hl]) (by lia) (fun j h1 h2 => ?_) X.prog X.w X.xe _ ⟨.bl _, H, I, rfl, ?_⟩
  ·exact eqsAt_D I ds es X.A.in1 xs ys its its2 r1 r2 hxs hys (by rw [units_in1]; lia) j (by simpa using h1) (by simpa using h2)
  ·have e := eqs_all ds es
   have l1 := hxs.length; have l2 := hys.length; have l3 := r1.length; have l4 := r2.length
   rw [show min ds.length es.length = its.toArray.size by rw [List.size_toArray]; lia, show (ds.length == es.length) = true by rw [beq_iff_eq]; lia, Bool.and_true] at e
   rw [← e]
   exact q
 ·refine SeqAt.RcNeAt.lists_lengths pt.isList pt2.isList (by simp [hl]) (by lia) X.prog X.w X.xe _ ⟨.bl _, H, I, rfl, ?_⟩
  have e : D.eqs ds es = false := eqs_len (by have l1 := hxs.length; have l2 := hys.length; have l3 := r1.length; have l4 := r2.length; lia)
  simp only [if_true] at q
  rw [e] at q
  exact q
theorem call_isinst : CallR X (.builtin "isinstance") (fun xs H Q => ∃ x c cv t b, xs = [x, c] ∧ (∀ u, RelV c u → u = cv) ∧ TyOf X.K H x t ∧ PySem.W.kitOne X.K t cv = some b ∧ Q (.bl b) H) := by
 intro pins s σ H xs us Q I r h
 obtain ⟨x, c, cv, t, b, rfl, rc, ty, e, q⟩ := h
 obtain ⟨u, v, rfl, rx, rv⟩ := vals2 r
 have e2 := rc v rv
 subst e2
 exact isinst_ok I rx ty e fun tk => ⟨.bl b, H, I.tok _, rfl, q⟩
end
structure Noted (F : List Addr) (e : Addr) (oe : Obj) (vs : Array Value) (hd : Value) (h h' : Heap) (T' : Addr) (fl : Value) : Prop where
 keep : ∀ b o, h.get? b = some o → b ≠ e → hd ≠ .ref b → b ∉ F → h'.get? b = some o
 slot : ∀ b o, h.get? b = some o → b ∈ F → ∃ sl, h'.get? b = some { o with slots := sl }
 exc : h'.get? e = some { oe with data := .fields (vs.setIfInBounds 1 (.ref T')) }
 new : h.objs.size ≤ T'
 ent : ∃ oT ts, h'.get? T' = some oT ∧ oT.data = .fields ts ∧ ts[3]? = some fl
theorem mapF {o : Obj} {vs : Array Value} (hd : o.data = .fields vs) (f : Array Value → Array Value) : Obj.mapFields f o = { o with data := .fields (f vs) } := by
 obtain ⟨a, b, c, d⟩ := o
 subst hd
 rfl
section
variable {M : Model} {A : Around} {E : L2.VSP} {s : Shared} {base : Heap} {env : Env} {outer : List Env} {L e : Addr} {oe : Obj} {vs : Array Value} {hd : Value}
theorem entry_full {hn : Bool} {Q : Unit → Shared → Prop} (hfr : A.frames = some (env :: outer)) (hl : s.heap.FunFrames base (env :: outer)) (hf : env.frame = some L) (he : s.heap.get? e = some oe) (hdt : oe.data = .fields vs) (h1 : 1 < vs.size) (nf : e ∉ frs (env :: outer))
  (h : ∀ h' T', Noted (frs (env :: outer)) e oe vs .none s.heap h' T' (rawInt L) → Q () { s with heap := h' }) :
  wpAny M A (do setField (.ref e) 1 (← EntryCells.newEntry hd (← frameOf env) .none (rawInt L) .none (← entryPlaceOf L hn))) Q E s := by
 refine wpAny_bind (wpAny_frameOf_fun hfr hl hf fun g gs => wpAny_bind (wpAny_entryPlaceOf fun pl ok => ?_))
 unfold EntryCells.newEntry newFields
 refine wpAny_bind (wpAny_newObj_type ?_ (ok.sizeOk5 _ _ _ _ _))
 have sz : g.objs.size = s.heap.objs.size := gs.1
 have ge : g.get? e = some oe := (gs.2.1 e nf).trans he
 have pe := Heap.get?_push_of_some (h := g) { cls := .type "traceback", dict := none, data := .fields ([hd, .ref L, .none, rawInt L, .none] ++ (if pl.isEmpty then List.replicate 6 Value.none else pl)).toArray } ge
 refine wpAny_setField pe hdt h1 (h _ g.objs.size ⟨fun b o eb n1 ψ n3 => ?_, fun b o eb hb => ?_, ?_, Nat.le_of_eq sz.symm, ?_⟩)
 ·rw [Heap.get?_update_other _ _ (Ne.symm n1)]
  exact Heap.get?_push_of_some _ ((gs.2.1 b n3).trans eb)
 ·obtain ⟨sl, q⟩ := gs.2.2 b o eb
  refine ⟨sl, ?_⟩
  rw [Heap.get?_update_other _ _ (fun z : e = b => nf (z.symm ▸ hb))]
  exact Heap.get?_push_of_some _ q
 ·rw [Heap.get?_update_self _ pe (by rw [mapF hdt]; exact Obj.isFreed_of_fields rfl), mapF hdt]
 ·have ne : e ≠ g.objs.size := Nat.ne_of_lt (Heap.lt_size ge)
  refine ⟨_, _, by rw [Heap.get?_update_other _ _ ne]; exact Heap.get?_push_size g rfl, rfl, ?_⟩
  simp
theorem note_full {Q : Unit → Shared → Prop} (hfr : A.frames = some (env :: outer)) (hl : s.heap.FunFrames base (env :: outer)) (hf : env.frame = some L) (he : s.heap.get? e = some oe) (hdt : oe.data = .fields vs) (h1 : vs[1]? = some hd) (nf : e ∉ frs (env :: outer))
  (hh : hd = .none ∨ ∃ T oT ts, hd = .ref T ∧ T ≠ e ∧ T ∉ frs (env :: outer) ∧ s.heap.get? T = some oT ∧ oT.data = .fields ts ∧ ts[3]? = some .none)
  (h : ∀ h' T', Noted (frs (env :: outer)) e oe vs hd s.heap h' T' (rawInt L) → Q () { s with heap := h' }) : wpAny M A (noteFrame (.ref e) env) Q E s := by
 have sz1 := (Array.getElem?_eq_some_iff.mp h1).1
 unfold noteFrame
 simp only [hf]
 refine wpAny_bind (wpAny_field he hdt h1 ?_)
 rcases hh with z | ⟨T, oT, ts, z, ne, nF, eT, dT, t3⟩
 ·subst z
  rw [if_neg (by decide)]
  exact entry_full hfr hl hf he hdt sz1 nf h
 ·subst z
  rw [if_pos (show (Value.ref T != Value.none) = true from by simp)]
  refine wpAny_bind (wpAny_field eT dT t3 ?_)
  rw [if_neg (show ¬ ((Value.none == rawInt L) = true) from by simp [rawInt])]
  refine wpAny_bind (wpAny_setField eT dT (Array.getElem?_eq_some_iff.mp t3).1 ?_)
  have oth : ∀ b, b ≠ T → (s.heap.update T (Obj.mapFields (·.setIfInBounds 3 Value.none))).get? b = s.heap.get? b := fun b hb => Heap.get?_update_other _ _ (Ne.symm hb)
  have szT : (s.heap.update T (Obj.mapFields (·.setIfInBounds 3 Value.none))).objs.size = s.heap.objs.size := by simp [Heap.update]
  have fl : (s.heap.update T (Obj.mapFields (·.setIfInBounds 3 Value.none))).FunFrames base (env :: outer) := hl.of_keeps fun b o eb nfb => ⟨o, (oth b (fun q => by rw [q, eT] at eb; cases eb; exact nfb ts dT)).trans eb, rfl⟩
  refine entry_full (s := { s with heap := s.heap.update T (Obj.mapFields (·.setIfInBounds 3 Value.none)) }) hfr fl hf ((oth e (Ne.symm ne)).trans he) hdt sz1 nf fun h' T' N => h h' T' ⟨fun b o eb n1 n2 n3 => ?_, fun b o eb hb => ?_, N.exc, by have := N.new; rw [szT] at this; exact this, N.ent⟩
  ·exact N.keep b o ((oth b (fun q => n2 (by rw [q]))).trans eb) n1 (fun q => by cases q) n3
  ·exact N.slot b o ((oth b (fun q => nF (q ▸ hb))).trans eb) hb
theorem flight_full {h0 : Heap} {F : List Addr} {T' : Addr} {fl : Value} {Q : Unit → Shared → Prop} (h1 : 1 < vs.size) (lt : e < h0.objs.size) (N : Noted F e oe vs hd h0 s.heap T' fl) (hF : ∀ b ∈ F, b < h0.objs.size) (h : ∀ h', Noted F e oe vs hd h0 h' T' .none → Q () { s with heap := h' }) : wpAny M A (setFlight (.ref e) none) Q E s := by
 obtain ⟨oT, ts, eT, dT, t3⟩ := N.ent
 have sz3 := (Array.getElem?_eq_some_iff.mp t3).1
 unfold setFlight
 refine wpAny_bind (wpAny_field N.exc rfl (x := .ref T') (by simp [h1]) ?_)
 rw [if_pos (show (Value.ref T' != Value.none) = true from by simp)]
 have oth : ∀ b, b < h0.objs.size → (s.heap.update T' (Obj.mapFields (·.setIfInBounds 3 ((none : Option Addr).elim Value.none fun f => rawInt f)))).get? b = s.heap.get? b := fun b hb => Heap.get?_update_other _ _ (Nat.ne_of_gt (Nat.lt_of_lt_of_le hb N.new))
 refine wpAny_setField eT dT sz3 (h _ ⟨fun b o eb n1 n2 n3 => (oth b (Heap.lt_size eb)).trans (N.keep b o eb n1 n2 n3), fun b o eb hb => ?_, (oth e lt).trans N.exc, N.new, ?_⟩)
 ·obtain ⟨sl, q⟩ := N.slot b o eb hb
  exact ⟨sl, (oth b (hF b hb)).trans q⟩
 ·refine ⟨_, _, Heap.get?_update_self _ eT (by rw [mapF dT]; exact Obj.isFreed_of_fields rfl), by rw [mapF dT], ?_⟩
  simp [sz3]
end
structure Flw (H : Hp) (n : Heap) (h : Heap) (e : Addr) (oc : Value) (od : Option Addr) (fresh : Bool) : Prop where
 un : H e = none
 yn : n.get? e = none
 ob : ∃ oe vs hd, h.get? e = some oe ∧ oe.cls = oc ∧ oe.dict = od ∧ oe.data = .fields vs ∧ vs[1]? = some hd ∧
  (if fresh = true then hd = .none else ∃ T oT ts, hd = .ref T ∧ T ≠ e ∧ H T = none ∧ n.get? T = none ∧ h.get? T = some oT ∧ oT.data = .fields ts ∧ ts[3]? = some .none)
noncomputable def CX1 (P : Program) (w : World) : CXT := fun outer H s E e s' => ∃ ea H' oc od, e = .ref ea ∧ s'.os = s.os ∧ AllBare s'.gens ∧ Un (frs outer) [] H H' s.heap s'.heap ∧ HOk P w H' s'.heap ∧ Flw H' s.heap s'.heap ea oc od false ∧ E oc od H'
section
variable {X : Cx} {pins : L2.AO} {σ : St} {H : Hp} {s : Shared}
theorem Inv.frmLt (I : Inv X pins σ H s) : ∀ b ∈ frs X.stack, b < s.heap.objs.size := fun b hb => by
 rcases List.mem_cons.mp (I.stkSub b hb) with q | q
 ·rw [q]; exact I.lt
 ·obtain ⟨_, o, e, _⟩ := I.ok.funs.mem q
  exact Nat.lt_of_lt_of_le (Heap.lt_size e) I.sz
theorem frm_fields (I : Inv X pins σ H s) {b : Addr} {o : Obj} {vs : Array Value} (e : s.heap.get? b = some o) (d : o.data = .fields vs) : b ∉ frs X.stack := fun hb => by
 obtain ⟨_, o', e', n⟩ := I.stack.mem hb
 rw [e] at e'; cases e'
 exact n vs d
theorem land {env : Env} {outer : List Env} {L e : Addr} {oc : Value} {od : Option Addr} {n : Heap} {fr : Bool} {E : L2.VSP} {Q : Unit → Shared → Prop} (I : Inv X pins σ H s) (hle : ∀ b o, n.get? b = some o → ∃ o', s.heap.get? b = some o') (hst : X.stack = env :: outer) (hf : env.frame = some L) (F : Flw H n s.heap e oc od fr)
  (h : ∀ h', (∀ b o, s.heap.get? b = some o → n.get? b ≠ none → b ∉ frs X.stack → h'.get? b = some o) → (∀ b o, s.heap.get? b = some o → b ∈ frs X.stack → ∃ sl, h'.get? b = some { o with slots := sl }) → (∀ b u o, H b = some u → s.heap.get? b = some o → h'.get? b = some o) →
   (∀ b o, s.heap.get? b = some o → (∀ vs, o.data ≠ .fields vs) → b ∉ frs X.stack → h'.get? b = some o) → (∀ p ∈ X.pn ++ pins, n.get? p.1 ≠ none → h'.get? p.1 = some p.2) → Flw H n h' e oc od false → Q () { s with heap := h' }) :
  wpAny (model X.prog X.w) X.A (noteFrame (.ref e) env) (fun ψ s1 => wpAny (model X.prog X.w) X.A (setFlight (.ref e) none) Q E s1) E s := by
 obtain ⟨oe, vs, hd, ge, c, d, dt, h1, hh⟩ := F.ob
 have hfr : X.A.frames = some (env :: outer) := by rw [← hst]; exact I.ok.frames
 have ffr := I.stack
 rw [hst] at ffr
 have nf : e ∉ frs (env :: outer) := by rw [← hst]; exact frm_fields I ge dt
 have sz1 := (Array.getElem?_eq_some_iff.mp h1).1
 have lt := Heap.lt_size ge
 have hF : ∀ b ∈ frs (env :: outer), b < s.heap.objs.size := by rw [← hst]; exact I.frmLt
 refine note_full hfr ffr hf ge dt h1 nf ?_ fun g T' N => ?_
 ·cases fr with
  | true => exact .inl hh
  | false =>
   obtain ⟨T, oT, ts, z, ne, hT, _, eT, dT, t3⟩ := hh
   exact .inr ⟨T, oT, ts, z, ne, by rw [← hst]; exact frm_fields I eT dT, eT, dT, t3⟩
 ·refine flight_full (s := { s with heap := g }) sz1 lt N hF fun g' N' => ?_
  have nh : ∀ b, H b ≠ none → hd ≠ .ref b := fun b hb z => by
   cases fr with
   | true => rw [show hd = .none from hh] at z; cases z
   | false =>
    obtain ⟨T, oT, ts, z', _, hT, _⟩ := hh
    rw [z'] at z; cases z
    exact hb hT
  have nl : ∀ b, n.get? b ≠ none → hd ≠ .ref b := fun b hb z => by
   cases fr with
   | true => rw [show hd = .none from hh] at z; cases z
   | false =>
    obtain ⟨T, oT, ts, z', _, _, hT, _⟩ := hh
    rw [z'] at z; cases z
    exact hb hT
  have nd : ∀ b o, s.heap.get? b = some o → (∀ vs, o.data ≠ .fields vs) → hd ≠ .ref b := fun b o eb hb z => by
   cases fr with
   | true => rw [show hd = .none from hh] at z; cases z
   | false =>
    obtain ⟨T, oT, ts, z', _, _, _, eT, dT, _⟩ := hh
    rw [z'] at z; cases z
    rw [eT] at eb; cases eb
    exact hb ts dT
  have yn := F.yn
  refine h g' (fun b o eb hb hn => N'.keep b o eb (fun z => hb (by rw [z]; exact yn)) (nl b hb) (by rw [← hst]; exact hn)) (fun b o eb hb => N'.slot b o eb (by rw [← hst]; exact hb)) (fun b u o hb eb => N'.keep b o eb (fun z => by rw [z, F.un] at hb; cases hb) (nh b (by rw [hb]; simp)) ?_)
   (fun b o eb hb hn => N'.keep b o eb (fun z => by rw [z, ge] at eb; cases eb; exact hb vs dt) (nd b o eb hb) (by rw [← hst]; exact hn)) (fun p hp lt => ?_) ⟨F.un, F.yn, _, _, _, N'.exc, c, d, rfl, (by simp [sz1]; rfl), ?_⟩
  ·intro z
   have z2 := I.stkFree b (by rw [hst]; exact z)
   rw [z2] at hb; cases hb
  ·obtain ⟨q1, q2, q3, q4, q5⟩ := I.pin p hp
   refine N'.keep p.1 p.2 q1 (fun z => lt (by rw [z]; exact yn)) (nl p.1 lt) fun z => ?_
   rcases List.mem_cons.mp (I.stkSub p.1 (by rw [hst]; exact z)) with y | y
   ·exact q3 y
   ·exact q4 y
  ·obtain ⟨oT, ts, eT, dT, t3⟩ := N'.ent
   have hn : s.heap.objs.size ≤ T' := N'.new
   refine ⟨T', oT, ts, rfl, Nat.ne_of_gt (Nat.lt_of_lt_of_le lt hn), I.hok.fresh hn, ?_, eT, dT, t3⟩
   cases z : n.get? T' with
   | none => rfl
   | some o =>
    obtain ⟨o', e'⟩ := hle T' o z
    exact absurd (Nat.lt_of_lt_of_le (Heap.lt_size e') hn) (Nat.lt_irrefl _)
end
theorem Flw.mono {H : Hp} {m n : Heap} {h : Heap} {e : Addr} {oc : Value} {od : Option Addr} {fr : Bool} (F : Flw H n h e oc od fr) (le : ∀ b, n.get? b = none → m.get? b = none) : Flw H m h e oc od fr := by
 obtain ⟨a, b, oe, vs, hd, e1, e2, e3, e4, e5, e6⟩ := F
 refine ⟨a, le _ b, oe, vs, hd, e1, e2, e3, e4, e5, ?_⟩
 cases fr with
 | true => exact e6
 | false =>
  obtain ⟨T, oT, ts, q1, q2, q3, q4, q5⟩ := e6
  exact ⟨T, oT, ts, q1, q2, q3, le _ q4, q5⟩
section
variable {P : Program} {w : World} {K : L2.Fg} {mg : L2.SV} {base : Heap} {N : List Str} {qual : Str} {scope : Scope} {f : Addr} {cd : Value} {A : Around} {outer : List Env} {s : Shared} {H : Hp} {E : XK}
theorem leave1 {pins : L2.AO} {σ : St} {H' : Hp} {s' : Shared} {n : Heap} {e : Addr} {oc : Value} {od : Option Addr} {fr : Bool} (I : Inv (cxOf (CX1 P w) P w K mg base N qual scope f cd A outer s H E) pins σ H' s')
  (F : Flw H' n s'.heap e oc od fr) (le : ∀ b, n.get? b = none → s.heap.get? b = none) (hle : ∀ b o, n.get? b = some o → ∃ o', s'.heap.get? b = some o') (q : E oc od H') : (cxOf (CX1 P w) P w K mg base N qual scope f cd A outer s H E).xe (.ref e) s' := by
 show wpAny (model P w) (A.deeper (envOfC qual scope s.heap.objs.size f cd)) (leaving (envOfC qual scope s.heap.objs.size f cd) (.ref e)) _ _ s'
 unfold leaving
 have hfs : ∀ b, b ∈ frs (envOfC qual scope s.heap.objs.size f cd :: outer) → b = s.heap.objs.size ∨ b ∈ frs outer := fun b hb => List.mem_cons.mp hb
 refine wpAny_bind (land (X := cxOf (CX1 P w) P w K mg base N qual scope f cd A outer s H E) I hle rfl rfl F fun h' k1 k2 k3 k4 k5 F' => ?_)
 have nfr : ∀ b, b < s.heap.objs.size → b ∉ frs outer → b ∉ frs (envOfC qual scope s.heap.objs.size f cd :: outer) := fun b hb hn z => by
  rcases hfs b z with y | y
  ·exact absurd hb (by rw [y]; exact Nat.lt_irrefl _)
  ·exact hn y
 have B := I.base
 refine ⟨e, H', oc, od, rfl, I.os, I.bare, ⟨fun b o eb n hb hx => ?_, fun b o eb n hb hx => ?_, fun b o eb n hx => B.free b o eb n hx, fun b o eb hx => ?_, B.tups, B.frzs, B.tbls⟩, fun b u eb => ?_, F'.mono le, q⟩
 ·exact k1 b o (B.keep b o eb n hb hx) (fun z => by rw [le b z] at eb; cases eb) (nfr b (Heap.lt_size eb) hb)
 ·obtain ⟨sl, e1⟩ := B.slot b o eb n hb hx
  obtain ⟨sl', e2⟩ := k2 b _ e1 (List.mem_cons_of_mem _ hb)
  exact ⟨sl', e2⟩
 ·obtain ⟨o', e1⟩ := B.there b o eb hx
  by_cases hb : b ∈ frs outer
  ·obtain ⟨sl', e2⟩ := k2 b _ e1 (List.mem_cons_of_mem _ hb)
   exact ⟨_, e2⟩
  ·exact ⟨o', k1 b o' e1 (fun z => by rw [le b z] at eb; cases eb) (nfr b (Heap.lt_size eb) hb)⟩
 ·refine (I.hok b u eb).stay (fun c v hc r => ?_) (fun ψ r => r) fun ψ ψ r => r
  rcases hc with rfl | hc
  ·exact k3 c _ v eb r
  ·exact k3 c _ v hc r
theorem passes1 {E1 : XK} (h : ∀ oc od H', E1 oc od H' → E oc od H') : Passes (CX1 P w) (cxOf (CX1 P w) P w K mg base N qual scope f cd A outer s H E) E1 := by
 intro pins σ H1 s1 e s' I hx
 obtain ⟨ea, H', oc, od, rfl, os, bare, un, hok, F, q⟩ := hx
 refine leave1 (I.call' (ch := []) os un hok bare fun b z => absurd z (by simp)) F (fun b z => ?_) (fun b o z => un.there b o z (by simp)) (h _ _ _ q)
 cases y : s.heap.get? b with
 | none => rfl
 | some o =>
  obtain ⟨o', e'⟩ := I.base.there b o y (by simp [cxOf])
  rw [z] at e'; cases e'
end
theorem obj_at {P : Program} {w : World} {H : Hp} {h : Heap} {a : Addr} {o : HO} (x : ObjOk P w H h a o) : ∃ ob, h.get? a = some ob := by
 cases o with
 | lst xs => obtain ⟨_, _, _, _, e⟩ := x; exact ⟨_, e⟩
 | tup xs => obtain ⟨_, _, _, ob, e, _⟩ := x; exact ⟨_, e⟩
 | dK kvs => obtain ⟨_, _, _, _, o, _, _, e, _⟩ := x; exact ⟨_, e⟩
 | dT kvs => obtain ⟨_, _, _, _, o, _, _, e, _⟩ := x; exact ⟨_, e⟩
 | set S n => obtain ⟨o, _, _, _, e, _⟩ := x; exact ⟨_, e⟩
 | ins C dx fs => obtain ⟨_, _, _, e, _⟩ := x; exact ⟨_, e⟩
 | own y => exact x
 | xd fs => obtain ⟨_, ⟨_, _, _, e, _⟩, _⟩ := x; exact ⟨_, e⟩
 | rng lo hi => obtain ⟨_, _, _, e⟩ := x; exact ⟨_, e⟩
 | frz ob u => obtain ⟨e, _⟩ := x; exact ⟨_, e⟩
 | tbl ps => exact ⟨_, x⟩
 | met f y => exact ⟨_, x⟩
 | ext φ => obtain ⟨_, e, _⟩ := x; exact e
theorem exc_obj {K : L2.Fg} {h : Heap} {C : Addr} {bmB : List Value} {newId : String} (KX : K.In h) (q : PySem.W.excIn K C bmB newId = true) :
  ∃ bm N nm qn bs hdct sn sub ab col dd k0 k1 k2 k3 k5 mN, h.get? C = some (excClassObj nm qn C N bs bm hdct sn sub ab col dd k0 k1 k2 k3 k5 newId) ∧ h.Ns N mN ∧ mN "__init__" = none ∧ OwnTail h bmB bm := by
 unfold PySem.W.excIn at q
 split at q
 ·rename_i dd cls slots there
  split at q
  ·rename_i C' up a0 a1 a2 a3 made a5 hmro hsl
   simp only [Bool.and_eq_true, beq_iff_eq, Bool.not_eq_true'] at q
   obtain ⟨⟨⟨⟨⟨y1, y2⟩, y3⟩, y4⟩, y5⟩, y6⟩ := q
   subst y1 y2
   obtain ⟨c1, c2, c3, c4, c5, c6, c7, c8, c9, c10, c11⟩ := cls
   dsimp only at hmro y3 y5 y6
   subst hmro y3
   have z : slots = #[a0, a1, a2, a3, some (.builtin made), a5] := by
    obtain ⟨l⟩ := slots
    dsimp only at hsl
    rw [hsl]
   subst z
   refine ⟨up, c4, c1, c5, c2, c6, c7, c8, c9, c10, dd, a0, a1, a2, a3, a5, _, KX _ _ there, Heap.Ns.of_isNs (PySem.W.isNs_of_in KX y5), ?_, PySem.W.tail_of_in KX y4⟩
   exact PySem.W.nsMap_none_of_in KX y5 y6
  ·cases q
 ·cases q
section
variable {P : Program} {w : World} {K : L2.Fg} {mg : L2.SV} {base : Heap} {N : List Str} {qual : Str} {scope : Scope} {f : Addr} {cd : Value} {A : Around} {outer : List Env} {s : Shared} {H : Hp} {E : XK}
noncomputable def tRaise (E : XK) (C : Addr) (te : TE) : TS := fun ψ σ H => te σ H fun ψ H1 => E (.ref C) none H1
theorem ps_raise {x : Str} {C : Addr} {e0 : Expr} {te : TE} {np cpos pos : Pos} {B newId initId : String} {bmB : List Value} (hA : A.handled = none) (FB : ExcBaseFacts B newId initId bmB) (hC : PySem.W.excIn K C bmB newId = true) (hm : mg x = some (.ref C))
  (hg : Gl (cxOf (CX1 P w) P w K mg base N qual scope f cd A outer s H E) x) (he : PE (cxOf (CX1 P w) P w K mg base N qual scope f cd A outer s H E).nox e0 te)
  (hd : (x == ("__debug__" : Str)) = false := by decide) (hs : starEach [e0] (envOfC qual scope s.heap.objs.size f cd) = [(false, eval e0 (envOfC qual scope s.heap.objs.size f cd))] := by rfl) :
  PS (cxOf (CX1 P w) P w K mg base N qual scope f cd A outer s H E) (.Raise (some (.Call (.Name x np) [e0] [] cpos)) none pos) (tRaise E C te) := by
 intro pins s1 σ H1 Dn I h
 obtain ⟨bm, Ns, nm, qn, bs, hdct, sn, sub, ab, col, dd, k0, k1, k2, k3, k5, mN, hcl, hns, hni, tl⟩ := exc_obj I.ok.mod.kin hC
 refine wpAny_Raise_call_subT (C := C) (nm := nm) (q := qn) (N := Ns) (bs := bs) (bm := bm) (hdct := hdct) (sn := sn) (sub := sub) (ab := ab) (col := col) (dd := dd) (k0 := k0) (k1 := k1) (k2 := k2) (k3 := k3) (k5 := k5) FB (mN := mN) (tl.hasType FB.hasBase) hA
  (by show (backTo cpos (starEach [e0] (envOfC qual scope s.heap.objs.size f cd))).any (·.1) = false; rw [hs]; rfl) hni (ld_glob I hg hm ⟨rfl, ?_⟩ hd)
 show wpAny _ _ (evalArgs (Value.ref C) true (backTo cpos (starEach [e0] (envOfC qual scope s.heap.objs.size f cd))) []) _ _ _
 rw [hs]
 refine Calls.evalArgs_plain ?_
 refine Calls.spliced_cons (thn (PE.nox he pins s1 σ H1 _ I h) fun u s2 ⟨v, H2, I2, r2, q2⟩ => Calls.spliced_nil ⟨rfl, (by show 1 ≤ sizeLine; decide), I2.bk _ _ hcl, hns.keeps I2.bk, tl.keeps I2.bk, fun h' e hm' => ?_⟩)
 obtain ⟨t, et, _, _⟩ := hm'.there
 have I3 := I2.kept (h' := h') (t' := s2.toks) hm'.keeps
 have un : H2 e = none := by
  cases z : H2 e with
  | none => rfl
  | some u =>
   obtain ⟨ob, eo⟩ := obj_at (I2.hok e u z)
   have z2 := hm'.new
   rw [eo] at z2; cases z2
 refine leave1 (n := s2.heap) (fr := true) I3 ⟨un, hm'.new, _, _, _, et, rfl, rfl, rfl, rfl, rfl⟩ (fun b z => ?_) (fun b o z => ⟨o, hm'.keeps b o z⟩) q2
 cases y : s.heap.get? b with
 | none => rfl
 | some o =>
  obtain ⟨o', e'⟩ := I2.base.there b o y (by simp [cxOf])
  rw [z] at e'; cases e'
end
noncomputable def XP (X : Cx) (pins : L2.AO) (σ : St) (E : XK) (e : Value) (s' : Shared) : Prop := ∃ s0 H0, Inv X pins σ H0 s0 ∧ CX1 X.prog X.w X.stack H0 s0 E e s'
noncomputable def PX (X : Cx) (e : Expr) (t : St → Hp → VK → XK → Prop) : Prop :=
 ∀ (pins : L2.AO) (s : Shared) (σ : St) (H : Hp) (Q : VK) (E : XK), Inv X pins σ H s → t σ H Q E → wpAny (model X.prog X.w) X.A (eval e X.env) (EP X pins σ Q) (XP X pins σ E) s
noncomputable def tCallX (sp : Sp) (t : TA) : St → Hp → VK → XK → Prop := fun σ H Q E => t σ H fun vs H1 => sp vs H1 Q E
section
variable {X : Cx} {k : Nat} {f : Addr} {fd : FuncData} {ps : List Str} {sp : Sp} {x : Str} {p pos : Pos} {e : Expr} {es : List Expr} {t : TA}
theorem PA.nox {es : List Expr} {t : TA} (h : PA X.nox es t) {Er : L2.VSP} {pos : Pos} {pins : L2.AO} {s : Shared} {σ : St} {H : Hp} {Q : List V → Hp → Prop} (I : Inv X pins σ H s) (q : t σ H Q) :
  wpAny (model X.prog X.w) X.A (spliced (backTo pos (starEach es X.env))) (AP X pins σ Q) Er s :=
 wpAny_mono (h pos pins s σ H Q (I.wish _) q) (fun _ _ ⟨vs, H', I', r, q⟩ => ⟨vs, H', I'.unwish, r, q⟩) fun ψ ψ z => False.elim z
theorem run_fnX {pins : L2.AO} {σ : St} {H : Hp} {s : Shared} {Q : VK} {E : XK} {us : List Value} {vs : List V} (F : FnOk X.prog X.w X.K X.mg X.base (CX1 X.prog X.w) k f fd ps sp) (hr : Room k X.A) (hb : Binds X.K fd ps [])
  (I : Inv X pins σ H s) (r : Vals vs us) (h : sp vs H Q E) : wpAny (model X.prog X.w) X.A (call (.ref f) us) (EP X pins σ Q) (XP X pins σ E) s := by
 have hl : us.length = ps.length := by rw [← r.length]; exact F.len _ _ _ _ h
 have hb' := hb s us I.kIn (by simpa using hl)
 rw [List.append_nil] at hb'
 refine wpAny_call (codeAny_mono (F.run X.A X.stack s H ⟨us, []⟩ us vs Q E hr I.env0 hb' r h) fun r s' hq => ?_)
 cases r with
 | error e => exact ⟨s, H, I, hq⟩
 | ok fl =>
  cases fl with
  | ret u => exact I.after hq
  | next => exact False.elim hq
  | brk => exact False.elim hq
  | cont => exact False.elim hq
theorem px_call (F : FnOk X.prog X.w X.K X.mg X.base (CX1 X.prog X.w) k f fd ps sp) (hr : Room k X.A) (hg : Gl X x) (hm : X.mg x = some (.ref f)) (hk : PySem.W.keepIn X.K (.ref f) = true) (hb : Binds X.K fd ps [])
  (ha : PA X.nox (e :: es) t) (hdb : (x == ("__debug__" : Str)) = false := by decide) (he : starEach (e :: es) X.env = (false, eval e X.env) :: starEach es X.env := by rfl) (hpl : (backTo pos (starEach es X.env)).any (·.1) = false := by rfl) :
  PX X (.Call (.Name x p) (e :: es) [] pos) (tCallX sp t) := by
 intro pins s σ H Q E I h
 refine wpAny_Call_Name_kw (ld_glob I hg hm ?_ hdb)
 exact PySem.W.callWith_K (h₀ := X.base) I.ok.mod.kin hk (thn (PA.nox ha I h) fun us s1 ⟨vs, H1, I1, r, q⟩ => ⟨I1.kIn, run_fnX F hr hb I1 r q⟩) he hpl
end
noncomputable def excO (e C : Addr) : HO := .ext fun h => ∃ o, h.get? e = some o ∧ o.cls = .ref C ∧ o.dict = none ∧ PySem.W.notCls o = true
noncomputable abbrev Cx.marked (X : Cx) (e : Value) : Cx := { X with A := X.A.mark (some e), calm := false, xe := fun ψ ψ => False }
section
variable {X : Cx} {pins : L2.AO} {σ : St} {H : Hp} {s : Shared}
theorem Inv.marked (I : Inv X pins σ H s) (e : Value) : Inv (X.marked e) pins σ H s :=
 ⟨⟨I.ok.mod, I.ok.kind, I.ok.glob, I.ok.blt, I.ok.above, I.ok.inj, I.ok.has, I.ok.cab, fun z => absurd (show false = true from z) Bool.false_ne_true, I.ok.frames, I.ok.stk, I.ok.exf, I.ok.bs, I.ok.bsz, I.ok.noex, I.ok.exfs, I.ok.funs, I.ok.frf⟩, I.os, I.bare, I.base, I.loc, I.cell, I.free, I.freeC, I.pin, I.hok, I.len⟩
theorem Inv.unmarked {e : Value} (ok : X.Ok) (I : Inv (X.marked e) pins σ H s) : Inv X pins σ H s := ⟨ok, I.os, I.bare, I.base, I.loc, I.cell, I.free, I.freeC, I.pin, I.hok, I.len⟩
theorem Inv.adoptX {d : Addr} {o : HO} (I : Inv X pins σ H s) (hn : H d = none) (h0 : X.s₀.heap.get? d = none) (hL : d ≠ X.env.locals) (hc : ∀ x c, X.env.cells.lookup x = some c → c ≠ d) (hp : ∀ p ∈ X.pn ++ pins, p.1 ≠ d)
  (new : ObjOk X.prog X.w (upd H d o) s.heap d o) : Inv X pins σ (upd H d o) s := by
 have nd : ∀ b u, H b = some u → b ≠ d := fun b u e z => by rw [z, hn] at e; cases e
 have B := I.base
 refine ⟨I.ok, I.os, I.bare, ⟨B.keep, B.slot, fun b u e n hx => ?_, B.there, fun b xs e => ?_, fun b u v e => ?_, fun b ps e => ?_⟩, I.loc, I.cell, by rw [upd_ne (Ne.symm hL)]; exact I.free, fun x c e => by rw [upd_ne (hc x c e)]; exact I.freeC x c e, fun p hq => ?_, fun b u e => ?_, I.len⟩
 ·rw [upd_ne (fun z => by rw [z, h0] at e; cases e)]; exact B.free b u e n hx
 ·have q := B.tups b xs e
  rw [upd_ne (nd _ _ q)]; exact q
 ·have q := B.frzs b u v e
  rw [upd_ne (nd _ _ q)]; exact q
 ·obtain ⟨mo, q⟩ := B.tbls b ps e
  exact ⟨mo, by rw [upd_ne (nd _ _ q)]; exact q⟩
 ·obtain ⟨q1, q2, q3⟩ := I.pin p hq
  exact ⟨q1, by rw [upd_ne (hp p hq)]; exact q2, q3⟩
 ·by_cases hb : b = d
  ·subst hb; rw [upd_same] at e; cases e; exact new
  ·rw [upd_ne hb] at e
   exact (I.hok b u e).stay (fun ψ ψ ψ q => q) (fun c q => by rw [upd_ne (nd c _ q)]; exact q) fun c xs q => by rw [upd_ne (nd c _ q)]; exact q
theorem Flw.again {M : Model} {A : Around} {n : Heap} {e : Addr} {oc : Value} {od : Option Addr} {E : L2.VSP} {Q : Unit → Shared → Prop} (F : Flw H n s.heap e oc od false)
  (h : ∀ h', (∀ b o, s.heap.get? b = some o → n.get? b ≠ none → h'.get? b = some o) → (∀ b u o, H b = some u → s.heap.get? b = some o → h'.get? b = some o) → Flw H n h' e oc od false → Q () { s with heap := h' }) : wpAny M A (setFlight (.ref e) none) Q E s := by
 obtain ⟨oe, vs, hd, ge, c, d, dt, h1, T, oT, ts, z, ne, hT, hy, eT, dT, t3⟩ := F.ob
 subst z
 have sz3 := (Array.getElem?_eq_some_iff.mp t3).1
 have oth : ∀ b, b ≠ T → (s.heap.update T (Obj.mapFields (·.setIfInBounds 3 ((none : Option Addr).elim Value.none fun f => rawInt f)))).get? b = s.heap.get? b := fun b hb => Heap.get?_update_other _ _ (Ne.symm hb)
 unfold setFlight
 refine wpAny_bind (wpAny_field ge dt h1 ?_)
 rw [if_pos (show (Value.ref T != Value.none) = true from by simp)]
 refine wpAny_setField eT dT sz3 (h _ (fun b o eb hb => (oth b (fun z => hb (by rw [z]; exact hy))).trans eb) (fun b u o hb eb => (oth b (fun z => by rw [z, hT] at hb; cases hb)).trans eb) ⟨F.un, F.yn, oe, vs, .ref T, (oth e (Ne.symm ne)).trans ge, c, d, dt, h1, T, _, _, rfl, ne, hT, hy,
  Heap.get?_update_self _ eT (by rw [mapF dT]; exact Obj.isFreed_of_fields rfl), by rw [mapF dT], ?_⟩)
 simp [sz3]
end
theorem Inv.gone {X : Cx} {pins : L2.AO} {σ : St} {H : Hp} {s : Shared} {j : Nat} {n : Str} {m : L2.SV} {v7 : Option Value} {h7 : Heap} {t' : Nat} (I : Inv X pins σ H s) (hN : X.N.Nodup) (hj : X.N[j]? = some n) (hm : s.heap.Ns X.env.locals m)
  (hl : ∀ (i : Nat) (x : Str) (v : V), X.N[i]? = some x → σ[i]? = some (some v) → Vis X.env.scope x → ∃ u, RelV v u ∧ Look X.env s.heap m x u)
  (hn : h7.Ns X.env.locals (fun x => if x = n then v7 else m x)) (hs : Heap.SameBut X.env.locals s.heap h7) : Inv X pins (σ.set j none) H { s with heap := h7, toks := t' } := by
 have B := I.base
 have neL : ∀ b o, X.s₀.heap.get? b = some o → b ≠ X.env.locals := fun b o e => Nat.ne_of_lt (Nat.lt_of_lt_of_le (Heap.lt_size e) I.ok.above)
 refine ⟨I.ok, I.os, I.bare, ⟨fun b o e n hb hx => (hs.2 b (neL b o e)).trans (B.keep b o e n hb hx), fun b o e n hb hx => ?_, B.free, fun b o e hx => ?_, B.tups, B.frzs, B.tbls⟩, ⟨_, hn, fun i x v e1 e2 e3 => ?_⟩, fun x c e => ?_, I.free, I.freeC, fun p hp => ?_, fun b u e => ?_, by rw [List.length_set]; exact I.len⟩
 ·obtain ⟨sl, q⟩ := B.slot b o e n hb hx
  exact ⟨sl, (hs.2 b (neL b o e)).trans q⟩
 ·obtain ⟨o', q⟩ := B.there b o e hx
  exact ⟨o', (hs.2 b (neL b o e)).trans q⟩
 ·by_cases hij : i = j
  ·subst hij
   by_cases hlt : i < σ.length
   ·rw [List.getElem?_set_self hlt] at e2; cases e2
   ·rw [List.getElem?_eq_none (by rw [List.length_set]; lia)] at e2; cases e2
  ·rw [List.getElem?_set_ne (Ne.symm hij)] at e2
   obtain ⟨u, r, l⟩ := hl i x v e1 e2 e3
   refine ⟨u, r, ?_⟩
   rcases l with ⟨k, z⟩ | ⟨k, c, z, y⟩
   ·refine .inl ⟨k, ?_⟩
    have nx : x ≠ n := fun z => hij (nodup_ix hN e1 (z ▸ hj))
    show (if x = n then v7 else m x) = some u
    rw [if_neg nx]; exact z
   ·exact .inr ⟨k, c, z, y.sameBut hs (I.cne x c z)⟩
 ·obtain ⟨v, y⟩ := I.cell x c e
  exact ⟨v, y.sameBut hs (I.cne x c e)⟩
 ·obtain ⟨q1, q2, q3, q4⟩ := I.pin p hp
  exact ⟨(hs.2 p.1 q3).trans q1, q2, q3, q4⟩
 ·refine (I.hok b u e).stay (fun c w hc q => (hs.2 c ?_).trans q) (fun ψ q => q) fun ψ ψ q => q
  rintro rfl
  rcases hc with z | z
  ·rw [← z, I.free] at e; cases e
  ·rw [I.free] at z; cases z
theorem bga_bind (self : Value) : bindSpecial (.builtin "BaseException.__getattribute__") self = pure (.builtin "BaseException.__getattribute__", [self]) := PySem.F.attr_ValueError.ga.bind self
structure ExcK (K : L2.Fg) (C : Addr) : Prop where
 ga : PySem.W.findIn K (.ref C) "__getattribute__" = some (some (.builtin "BaseException.__getattribute__"))
 hk : PySem.W.findIn K (.ref C) "__getattr__" = some none
 cl : (PySem.W.clsIn K C).isSome = true
 at_ : PySem.W.findIn K (.ref C) "__class__" = some (some (.builtin "object.__class__"))
 gt : PySem.W.specialIn K (.builtin "object.__class__") "__get__" = some (some (.builtin "getset_descriptor.__get__"))
 tk : PySem.W.takesIn K (.builtin "object.__class__") = some true
 mo : PySem.W.mroIn K C (.type "object") = some true
 mb : PySem.W.mroIn K C (.type "BaseException") = some true
section
variable {prog : Program} {w : World} {A : Around} {E : L2.VSP} {s : Shared} {K : L2.Fg} {x C : Addr} {ox : Obj}
theorem exc_findG {od : Option Obj} (c : ExcK K C) : PySem.W.findObj K C od "__class__" = some (.bind (.builtin "getset_descriptor.__get__") (.builtin "object.__class__")) := by
 obtain ⟨cd, hc⟩ := Option.isSome_iff_exists.mp c.cl
 unfold PySem.W.findObj
 rw [hc, Option.bind_some, c.at_, Option.bind_some]
 simp [c.gt, c.tk]
theorem exc_classG {od : Option Obj} {Q : Option Value → Shared → Prop} (c : ExcK K C) (KX : K.In s.heap) (I : PySem.W.InstAt s.heap x ox C od) (h : Q (some (.ref C)) { s with toks := s.toks + 1 }) : wpAny (model prog w) A (getAttr? (.ref x) "__class__") Q E s := by
 obtain ⟨hh, g, d, t, os⟩ := s
 have L0 := I.type (M := model prog w)
 have L1 := PySem.W.looks_findIn (M := model prog w) KX c.ga
 have L2 := PySem.W.looks_findIn (M := model prog w) KX c.hk
 have L3 := PySem.W.looks_find (M := model prog w) KX I (exc_findG c)
 have L4 := PySem.W.looks_mroIn (M := model prog w) KX c.mb
 have f3 := bga_bind (.ref x)
 unfold getAttr? getAttrBy? getAttrBy
 refine wpAny_bind (wpAny_mkText (wpAny_bind (wpAny_attempt (wpAny_holding (wpAny_bind (L0.at (wpAny_bind (L1.at ?_))))))))
 show wpAny _ _ (getAttrByItsOwn _ _ _ _ _ _) _ _ _
 unfold getAttrByItsOwn hookBefore
 refine wpAny_bind ?_
 show wpAny _ _ (typeLookup (.ref C) "__getattr__") _ _ _
 refine L2.at ?_
 refine wpAny_bind (wpAny_attempt (wpAny_holding ?_))
 unfold callGetattribute boundAndCalled
 rw [if_neg (by decide), f3]
 refine wpAny_bind (wpAny_pure ?_)
 refine wpAny_call (codeAny_call_builtin PySem.F.attr_ValueError.ga.plain PySem.F.entry_bexc_ga ?_)
 have hk : builtinKind "BaseException.__getattribute__" = some .slot := by decide +kernel
 have hsp : splitId "BaseException.__getattribute__" = some ("BaseException", "__getattribute__") := by decide +kernel
 have ha := PySem.F.args_bexc_ga (.ref x) (.str "__class__" t)
 simp only [checkBuiltinCall, hk, hsp]
 refine wpAny_bind ?_
 unfold isInstance
 repeat (any_goals (first | assumption | lk | wp_step))
 refine wpAny_run (PySem.W.class_get (s := ⟨hh, g, d, t + 1, os⟩) KX I c.mo ?_)
 repeat (any_goals (first | assumption | lk | wp_step))
theorem exc_class {Q : Option Value → Shared → Prop} (c : ExcK K C) (KX : K.In s.heap) (I : PySem.W.InstAt s.heap x ox C none) (h : Q (some (.ref C)) { s with toks := s.toks + 1 }) : wpAny (model prog w) A (getAttr? (.ref x) "__class__") Q E s := exc_classG c KX I h
theorem kitx_exc (c : ExcK K C) : PySem.W.KitX K (.ref x) (.ref C) (fun h => ∃ ox, PySem.W.InstAt h x ox C none) where
 ty := fun _ _ _ ⟨_, I⟩ => I.type
 it := fun ψ ψ KX ψ => by
  have e := c.cl
  unfold PySem.W.clsIn at e
  split at e
  ·rename_i c' d' cd' sl' ho
   intro A' Q' E' s' k q
   unfold isType loadHead
   exact wpAny_bind (wpAny_loadPart (k _ _ (KX _ _ ho)) (wpAny_pure q))
  ·cases e
 ne := fun h tp dd its n sl KX htp => by
  have e := c.cl
  refine Bool.eq_false_iff.mpr fun q => ?_
  have e2 : C = tp := Value.ref.inj (beq_iff_eq.mp q)
  subst e2
  unfold PySem.W.clsIn at e
  split at e
  ·rename_i c' d' cd' sl' ho
   have z := (KX _ _ ho).symm.trans htp
   cases z
  ·cases e
 ca := fun KX ⟨_, I⟩ k => exc_class c KX I k
end
section
variable {X : Cx}
theorem exc_inst {pins : L2.AO} {σ : St} {H : Hp} {s : Shared} {e C : Addr} (I : Inv X pins σ H s) (h : H e = some (excO e C)) : ∃ ox, PySem.W.InstAt s.heap e ox C none := by
 obtain ⟨⟨o, h1, h2, h3, h4⟩, _, _⟩ := I.hok e _ h
 exact ⟨o, h1, h2, h4, by rw [h3]; trivial⟩
theorem call_isinstE : CallR X (.builtin "isinstance") (fun xs H Q => ∃ e C c cv b, xs = [.ref e, c] ∧ H e = some (excO e C) ∧ ExcK X.K C ∧ (∀ u, RelV c u → u = cv) ∧ PySem.W.kitOne X.K (.ref C) cv = some b ∧ Q (.bl b) H) := by
 intro pins s σ H xs us Q I r h
 obtain ⟨e, C, c, cv, b, rfl, he, ck, rc, k, q⟩ := h
 obtain ⟨u, v, rfl, rx, rv⟩ := vals2 r
 cases rx
 have e2 := rc v rv
 subst e2
 exact PySem.W.kia_one (kitx_exc ck) I.kIn (exc_inst I he) k (fun z => nomatch z) fun tk => ⟨.bl b, H, I.tok _, rfl, q⟩
theorem vals_refs : ∀ {cs : List Addr} {us : List Value}, Vals (cs.map V.ref) us → us = cs.map Value.ref
 | [], us, r => by rw [List.map_nil] at r; cases r; rfl
 | c :: cs, us, r => by
  rw [List.map_cons] at r
  cases r with
  | cons q t => cases q; rw [vals_refs t]; rfl
theorem call_isinstET : CallR X (.builtin "isinstance") (fun xs H Q => ∃ (e C tp : Addr) (cs : List Addr) (b : Bool), xs = [.ref e, .ref tp] ∧ H e = some (excO e C) ∧ ExcK X.K C ∧ H tp = some (.tup (cs.map V.ref)) ∧ PySem.W.kitAny X.K (.ref C) (cs.map Value.ref) = some b ∧ Q (.bl b) H) := by
 intro pins s σ H xs us Q I r h
 obtain ⟨e, C, tp, cs, b, rfl, he, ck, ht, k, q⟩ := h
 obtain ⟨u, v, rfl, rx, rv⟩ := vals2 r
 cases rx
 cases rv
 obtain ⟨_, its, r1, o, h1, h2, n, h3⟩ := I.hok tp _ ht
 have e1 := vals_refs r1
 subst e1
 obtain ⟨oc, od, dt, sl⟩ := o
 dsimp only at h2 h3
 subst h2 h3
 exact PySem.W.kia_tup (kitx_exc ck) I.kIn (exc_inst I he) h1 k (fun z => nomatch z) fun tk => ⟨.bl b, H, I.tok _, rfl, q⟩
end
structure Kp (L : List Addr) (H H' : Hp) : Prop where
 keep : ∀ b o, b ∉ L → H b = some o → H' b = some o
 tup : ∀ b xs, H b = some (.tup xs) → H' b = some (.tup xs)
theorem Kp.refl {L : List Addr} {H : Hp} : Kp L H H := ⟨fun ψ ψ ψ h => h, fun ψ ψ h => h⟩
theorem Kp.trans {L : List Addr} {H H1 H2 : Hp} (a : Kp L H H1) (b : Kp L H1 H2) : Kp L H H2 := ⟨fun c o n h => b.keep c o n (a.keep c o n h), fun c xs h => b.tup c xs (a.tup c xs h)⟩
theorem Kp.new {L : List Addr} {H : Hp} {p : Addr} {o : HO} (n : H p = none) : Kp L H (upd H p o) := ⟨fun b u ψ h => by rw [upd_ne (ne_of_none h n)]; exact h, fun b xs h => by rw [upd_ne (ne_of_none h n)]; exact h⟩
theorem Kp.set {L : List Addr} {H : Hp} {l : Addr} {xs ys : List V} (m : l ∈ L) (h : H l = some (.lst xs)) : Kp L H (upd H l (.lst ys)) :=
 ⟨fun b u n e => by rw [upd_ne (fun z : b = l => n (by rw [z]; exact m))]; exact e, fun b zs e => by rw [upd_ne (ne_of e h (by intro z; cases z))]; exact e⟩
theorem Kp.get {H H' : Hp} (k : Kp [] H H') {b : Addr} {o : HO} (h : H b = some o) : H' b = some o := k.keep b o (by simp) h
theorem Kp.non {H H' : Hp} (k : Kp [] H H') {b : Addr} (h : H' b = none) : H b = none := by
 cases q : H b with
 | none => rfl
 | some o => rw [k.get q] at h; cases h
noncomputable def Ints (H : Hp) (v : V) (ns : List Int) : Prop := ∃ a, v = .ref a ∧ H a = some (.tup (ns.map V.int))
theorem Ints.kp {L : List Addr} {H H' : Hp} {v : V} {ns : List Int} (h : Ints H v ns) (k : Kp L H H') : Ints H' v ns := let ⟨a, e, q⟩ := h; ⟨a, e, k.tup _ _ q⟩
noncomputable def Scl (H : Hp) (v : V) (hd rg : List Int) : Prop := ∃ a x y, v = .ref a ∧ H a = some (.tup [x, y]) ∧ Ints H x hd ∧ Ints H y rg
theorem Scl.kp {L : List Addr} {H H' : Hp} {v : V} {hd rg : List Int} (h : Scl H v hd rg) (k : Kp L H H') : Scl H' v hd rg := let ⟨a, x, y, e, q, i, j⟩ := h; ⟨a, x, y, e, k.tup _ _ q, i.kp k, j.kp k⟩
section
variable {X : Cx} {K : L2.Fg} {σ : St} {H : Hp} {Q : VK} {x y : V}
theorem rd_call {sp : Sp} {E : XK} {tr : TA} (h : tr σ H fun vs H1 => sp vs H1 Q E) : tCall sp [] E tr σ H Q := by
 unfold tCall
 have e : (fun (vs : List V) H1 => sp (vs ++ []) H1 Q E) = fun vs H1 => sp vs H1 Q E := by funext vs H1; rw [List.append_nil]
 rw [e]; exact h
noncomputable def rIxA (K : L2.Fg) : R2 := fun x y H Q => rIxL K x y H Q ∨ rIxT K x y H Q
theorem ix_any : IxR X (rIxA X.K) := ix_list.or ix_tup
noncomputable def rEqA (K : L2.Fg) : R2 := fun x y H Q => rEq x y H Q ∨ rEqT K false x y H Q ∨ rEqL K false x y H Q
noncomputable def rNeA (K : L2.Fg) : R2 := fun x y H Q => rNe x y H Q ∨ rEqT K true x y H Q ∨ rEqL K true x y H Q
theorem op_eqA (hu : X.A.units + 64 < cLine) : OpR X (compareOp .Eq) (rEqA X.K) := op_eq.or ((op_eqT hu).or (op_eqL hu))
theorem op_neA (hu : X.A.units + 64 < cLine) : OpR X (compareOp .NotEq) (rNeA X.K) := op_ne.or ((op_neT hu).or (op_neL hu))
end
theorem dvs_ints {K : L2.Fg} {H : Hp} : ∀ ns : List Int, DVs K H (ns.map D.int) (ns.map V.int)
 | [] => by rw [List.map_nil, DVs]; rfl
 | n :: ns => by rw [List.map_cons, DVs]; exact ⟨_, _, rfl, by rw [DV], dvs_ints ns⟩
theorem depths_ints : ∀ ns : List Int, D.depths (ns.map D.int) = 0
 | [] => by rw [List.map_nil, D.depths]
 | n :: ns => by
  have e : D.depth (.int n) = 0 := by simp [D.depth]
  rw [List.map_cons, D.depths, depths_ints ns, e]; rfl
theorem eqs_ints : ∀ ns ms : List Int, D.eqs (ns.map D.int) (ms.map D.int) = decide (ns = ms)
 | [], [] => by simp [D.eqs]
 | [], m :: ms => by simp [D.eqs]
 | n :: ns, [] => by simp [D.eqs]
 | n :: ns, m :: ms => by
  rw [List.map_cons, List.map_cons, D.eqs, D.eq, eqs_ints ns ms]
  by_cases h1 : n = m <;> by_cases h2 : ns = ms <;> simp [h1, h2]
structure Fn (P : Program) (w : World) (K : L2.Fg) (mg : L2.SV) (base : Heap) (CX : CXT) (k : Nat) (x : Str) (f : Addr) (fd : FuncData) (ps : List Str) (sp : Sp) : Prop where
 F : FnOk P w K mg base CX k f fd ps sp
 hm : mg x = some (.ref f)
 kp : PySem.W.keepIn K (.ref f) = true
 hb : Binds K fd ps []
section
variable {P : Program} {w : World} {K : L2.Fg} {mg : L2.SV} {base : Heap}
theorem Fun.okX {x qual : Str} {st : Stmt} {f : Addr} {fd : FuncData} {N ps : List Str} {k : Nat} {sp : Sp} (F : Fun K x qual st f fd) (S : FnScope N ps (defScope st)) (len : ∀ vs H Q E, sp vs H Q E → vs.length = ps.length)
  (hbody : ∀ (cdv : Value) (A : Around) (outer : List Env) (s : Shared) (H : Hp) (vs : List V) (Q : VK) (E : XK), Room k (A.deeper (envOfC qual (defScope st) s.heap.objs.size f cdv)) → A.handled = none → sp vs H Q E →
   ∃ t, PSs (cxOf (CX1 P w) P w K mg base N qual (defScope st) f cdv A outer s H E) (defBody st) t ∧ t { nx := fun ψ H' => Q .non H', rt := Q } (start N vs) H) : FnOk P w K mg base (CX1 P w) (k + 1) f fd ps sp := by
 obtain ⟨oc, od, kV, doc, pm, an, cdv, ct, osl, rfl, lk, hcd⟩ := F.ex
 exact fn_of lk hcd S len fun A outer s H vs Q E hr hsp => hbody cdv A outer s H vs Q E hr hr.hd hsp
theorem PS.nox {X : Cx} {st : Stmt} {t : TS} (h : PS X.nox st t) : PS X st t := fun pins s σ H D I hw =>
 wpAny_mono (h pins s σ H D (I.wish _) hw) (fun ψ ψ q => q.unwish) fun ψ ψ z => False.elim z
end
inductive ClOf (cells : List (Str × Addr)) : List (Str × Addr) → Prop
 | nil : ClOf cells []
 | cons {y : Str} {c : Addr} {r : List (Str × Addr)} (h : cells.lookup y = some c) (t : ClOf cells r) : ClOf cells ((y, c) :: r)
theorem ClOf.sub {cells : List (Str × Addr)} : ∀ {cl : List (Str × Addr)}, ClOf cells cl → ∀ y c, cl.lookup y = some c → cells.lookup y = some c
 | _, .nil, y, c, h => by simp at h
 | _, .cons (y := y') (c := c') q t, y, c, h => by
  rw [List.lookup_cons] at h
  by_cases e : y = y'
  ·subst e
   simp at h
   subst h
   exact q
  ·have e' : (y == y') = false := by simpa using e
   rw [e'] at h
   exact t.sub y c h
theorem comp_ok {X : Cx} {scope : Scope} {cl : List (Str × Addr)} {js : List Nat} {caps : List Str} (clos : closureFor scope X.env = pure cl) (a : (scope.names.all fun y => y.2 != .cell) = true) (kind : scope.kind = .function)
  (b : (scope.names.all fun y => y.2 != .local || scope.names.lookup y.1 == some .local) = true) (c : (scope.names.all fun y => y.2 != .free || (cl.lookup y.1).isSome) = true) (d : ClOf X.env.cells cl) (cap : Caps X (relabel scope X.env) cl js caps) : CompOk X scope cl js caps := by
 refine ⟨clos, fun y hy => ?_, kind, fun y hy e => ?_, fun y hy e => ?_, d.sub, cap⟩
 ·have z := List.all_eq_true.mp a y hy
  simpa using z
 ·have z := List.all_eq_true.mp b y hy
  rw [e] at z
  simpa using z
 ·have z := List.all_eq_true.mp c y hy
  rw [e] at z
  simpa using z
section
variable {X : Cx} {K : L2.Fg} {H : Hp} {Q : VK}
noncomputable def rLen (K : L2.Fg) : List V → Hp → VK → Prop := fun xs H Q => ∃ p ys, xs = [.ref p] ∧ (SqL K H p ys ∨ SqT K H p ys) ∧ Q (.int ys.length) H
theorem call_lenA : CallR X (.builtin "len") (rLen X.K) := call_len_seq
noncomputable def rTupOf (K : L2.Fg) : List V → Hp → VK → Prop := fun xs H Q => ∃ p ys, xs = [.ref p] ∧ ((SqL K H p ys ∧ ∀ l, H l = none → Q (.ref l) (upd H l (.tup ys))) ∨ (SqT K H p ys ∧ Q (.ref p) H))
theorem call_tupA : CallR X (.type "tuple") (rTupOf X.K) := call_tuple_of
noncomputable def rLstOf (K : L2.Fg) : List V → Hp → VK → Prop := fun xs H Q => ∃ p ys, xs = [.ref p] ∧ (SqL K H p ys ∨ SqT K H p ys) ∧ ∀ l, H l = none → Q (.ref l) (upd H l (.lst ys))
theorem call_lstA : CallR X (.type "list") (rLstOf X.K) := call_list_of
noncomputable def rMax : List V → Hp → VK → Prop := fun xs H Q => ∃ i j, xs = [.int i, .int j] ∧ Q (.int (if j > i then j else i)) H
theorem call_maxA (hc : X.calm = true) : CallR X (.builtin "max") rMax := call_max2 hc
noncomputable def rMin : List V → Hp → VK → Prop := fun xs H Q => ∃ i j, xs = [.int i, .int j] ∧ Q (.int (if j < i then j else i)) H
theorem call_minA (hc : X.calm = true) : CallR X (.builtin "min") rMin := call_min2 hc
noncomputable def rInt1 : List V → Hp → VK → Prop := fun xs H Q => (∃ i, xs = [.int i] ∧ Q (.int i) H) ∨ ∃ k, xs = [.bl k] ∧ Q (.int (if k then 1 else 0)) H
theorem call_intA : CallR X (.type "int") rInt1 := call_int1
noncomputable def rIsA (K : L2.Fg) : List V → Hp → VK → Prop := fun xs H Q => (∃ x c cv t b, xs = [x, c] ∧ (∀ u, RelV c u → u = cv) ∧ TyOf K H x t ∧ PySem.W.kitOne K t cv = some b ∧ Q (.bl b) H) ∨
  (∃ e C c cv b, xs = [.ref e, c] ∧ H e = some (excO e C) ∧ ExcK K C ∧ (∀ u, RelV c u → u = cv) ∧ PySem.W.kitOne K (.ref C) cv = some b ∧ Q (.bl b) H) ∨
  (∃ (e C tp : Addr) (cs : List Addr) (b : Bool), xs = [.ref e, .ref tp] ∧ H e = some (excO e C) ∧ ExcK K C ∧ H tp = some (.tup (cs.map V.ref)) ∧ PySem.W.kitAny K (.ref C) (cs.map Value.ref) = some b ∧ Q (.bl b) H)
theorem ris_ty {x : V} {t : Value} {n : String} {b : Bool} (ty : TyOf K H x t) (k : PySem.W.kitOne K t (.type n) = some b) (h : Q (.bl b) H) : rIsA K [x, .ty n] H Q := .inl ⟨x, .ty n, .type n, t, b, rfl, fun ψ r => r, ty, k, h⟩
theorem call_isB : CallR X (.builtin "isinstance") (rIsA X.K) := call_isinst.or (call_isinstE.or call_isinstET)
end
end L2
namespace L2
open PySem PySem.Spec PyProof.Rows
noncomputable def Scls (H : Hp) (ps : List (List Int × List Int)) (vs : List V) : Prop := Paired (fun p v => Scl H v p.1 p.2) ps vs
theorem Scls.kp {L : List Addr} {H H' : Hp} (k : Kp L H H') {ps : List (List Int × List Int)} {vs : List V} (h : Scls H ps vs) : Scls H' ps vs := Paired.mapP h fun ψ ψ s => s.kp k
theorem Scls.get {H : Hp} : ∀ {ps : List (List Int × List Int)} {vs : List V} {i : Nat}, Scls H ps vs → i < ps.length → ∃ p v, p ∈ ps ∧ vs[i]? = some v ∧ Scl H v p.1 p.2
 | _, _, _, .nil, h => by simp at h
 | _, _, 0, .cons a t, h => ⟨_, _, List.mem_cons_self, rfl, a⟩
 | _, _, i + 1, .cons a t, h => by
  obtain ⟨p, v, m, e, s⟩ := Scls.get (i := i) t (by simpa using h)
  exact ⟨p, v, List.mem_cons_of_mem _ m, by simpa using e, s⟩
end L2
namespace L2
open PySem
theorem sw_list {es : List Expr} {p : Pos} {t : Option Expr} {l : Nat} {env : Env} : swapsWith (.List es p) t l env = pure false := rfl
theorem sw_binop {a b : Expr} {o : Operator} {p : Pos} {t : Option Expr} {l : Nat} {env : Env} : swapsWith (.BinOp a o b p) t l env = pure false := rfl
theorem sw_tuple {es : List Expr} {k} {p : Pos} {t : Option Expr} {l : Nat} {env : Env} : swapsWith (.Tuple es k p) t l env = pure false := rfl
theorem sw_sub {a b : Expr} {p : Pos} {t : Option Expr} {l : Nat} {env : Env} : swapsWith (.Subscript a b p) t l env = pure false := rfl
end L2
namespace L2
open PySem PySem.Spec PyProof.Rows
section
variable {X : Cx} {K : L2.Fg}
theorem call_isK (h : X.K = K) : CallR X (.builtin "isinstance") (rIsA K) := h ▸ call_isB
theorem call_lenK (h : X.K = K) : CallR X (.builtin "len") (rLen K) := h ▸ call_lenA
theorem ix_anyK (h : X.K = K) : IxR X (rIxA K) := h ▸ ix_any
end
section
variable {prog : Program} {w : World} {A : Around} {E : L2.VSP} {s : Shared}
theorem nextT_item {ti tu : Addr} {k : Nat} {its : Array Value} {v : Value} {Q : L2.VSP} (I : s.heap.IsTupleIter ti tu k) (T : s.heap.IsTuple tu its) (hv : its[k]? = some v)
  (q : ∀ g, g.IsTupleIter ti tu (k + 1) → Heap.SameBut ti s.heap g → Q v { s with heap := g }) : wpAny (model prog w) A (Builtin.SmallTypes.nextOf (.ref ti)) Q E s := by
 obtain ⟨oi, gi, ci, di⟩ := id I; obtain ⟨ot, gt, _, nt, dt⟩ := T; unfold Builtin.SmallTypes.nextOf
 refine wpAny_bind (wpAny_callSpecial?_slot (name := Str.ofString "__next__") I.typeIs F.slot_tuple_iterator_next (wpAny_call_entry F.slot_tuple_iterator_next I.typeIs F.entry_tuple_iterator_next ?_ (F.args_tuple_iterator_next_1 _)))
 show wpAny _ _ (field (.ref ti) 0 >>= _) _ _ s; refine wpAny_bind (wpAny_field gi di (x := .ref tu) rfl ?_)
 show wpAny _ _ (if (Value.ref tu == Value.none) = true then _ else _) _ _ s; rw [if_neg (show ¬ ((Value.ref tu == Value.none) = true) from Bool.false_ne_true)]
 show wpAny _ _ (field (.ref ti) 1 >>= _) _ _ s; refine wpAny_bind (wpAny_field gi di (x := .int k 0) rfl ?_)
 show wpAny _ _ (seqItems? (.ref tu) >>= _) _ _ s; refine wpAny_bind (wpAny_seqItems gt dt ?_)
 simp only [Int.toNat_natCast, hv]; refine wpAny_bind (wpAny_setField gi di (by simp) (wpAny_pure ⟨v, rfl, wpAny_pure (q _ ?_ (Heap.SameBut.update ..))⟩))
 exact ⟨_, Heap.get?_update_self _ gi (Obj.isFreed_of_fields (Obj.data_mapFields di _)), (Obj.cls_mapFields ..).trans ci, by rw [Obj.data_mapFields di]; simp [rawInt]⟩
theorem nextT_end {ti tu : Addr} {k : Nat} {its : Array Value} {Q : L2.VSP} (nh : A.handled = none) (I : s.heap.IsTupleIter ti tu k) (T : s.heap.IsTuple tu its) (hv : its[k]? = none)
  (q : ∀ g x, Heap.ExtBut ti s.heap g → (∃ o, g.get? x = some o ∧ o.cls = .type "StopIteration") → E (.ref x) { s with heap := g }) : wpAny (model prog w) A (Builtin.SmallTypes.nextOf (.ref ti)) Q E s := by
 obtain ⟨oi, gi, ci, di⟩ := id I; obtain ⟨ot, gt, _, nt, dt⟩ := T; unfold Builtin.SmallTypes.nextOf
 refine wpAny_bind (wpAny_callSpecial?_slot (name := Str.ofString "__next__") I.typeIs F.slot_tuple_iterator_next (wpAny_call_entry F.slot_tuple_iterator_next I.typeIs F.entry_tuple_iterator_next ?_ (F.args_tuple_iterator_next_1 _)))
 show wpAny _ _ (field (.ref ti) 0 >>= _) _ _ s; refine wpAny_bind (wpAny_field gi di (x := .ref tu) rfl ?_)
 show wpAny _ _ (if (Value.ref tu == Value.none) = true then _ else _) _ _ s; rw [if_neg (show ¬ ((Value.ref tu == Value.none) = true) from Bool.false_ne_true)]
 show wpAny _ _ (field (.ref ti) 1 >>= _) _ _ s; refine wpAny_bind (wpAny_field gi di (x := .int k 0) rfl ?_)
 show wpAny _ _ (seqItems? (.ref tu) >>= _) _ _ s; refine wpAny_bind (wpAny_seqItems gt dt ?_)
 simp only [Int.toNat_natCast, hv]; refine wpAny_bind (wpAny_rule (wpAny_bind (wpAny_setField gi di (by simp) ?_)))
 show wpAny _ _ (newExc (.type "StopIteration") [] >>= _) _ _ _; refine wpAny_bind ?_; simp only [newExc, newTuple]; refine wpAny_bind (wpAny_newObj_type ?_ (by size_fits))
 refine wpAny_bind (m := firstArgMember _ _) (wpAny_of_eq (a := Value.none) (by first | rfl | (simp only [firstArgMember]; rfl)) ?_); refine wpAny_newObj_type ?_ (by size_fits)
 simp only [raiseNew]; refine wpAny_bind (wpAny_handled ?_); first | rw [show A.in1.handled = none from nh] | rw [nh]
 refine wpAny_bind (wpAny_pure (wpAny_throw ?_)); exact q _ _ (((Heap.SameBut.update ..).extBut.push _).push _) ⟨_, Heap.get?_push_size _ rfl, rfl⟩
theorem enumT_next {en ti tu : Addr} {k : Nat} {its : Array Value} {v was : Value} {Q : L2.VSP} (N : IsEnum s.heap en ti k was) (I : s.heap.IsTupleIter ti tu k) (T : s.heap.IsTuple tu its) (hv : its[k]? = some v) (ne : en ≠ ti)
  (q : ∀ g, IsEnumOut g en ti ((k : Int) + 1) v s.heap.objs.size → g.IsTupleIter ti tu (k + 1) → g.get? s.heap.objs.size = some { cls := .type "tuple", data := .seq #[.int k s.toks, v] } → g.objs.size = s.heap.objs.size + 1 →
   (∀ b o, b ≠ en → b ≠ ti → s.heap.get? b = some o → g.get? b = some o) → Q (.ref s.heap.objs.size) { s with heap := g, toks := s.toks + 1 }) :
  wpAny (model prog w) A (Builtin.«enumerate.__next__» ⟨[.ref en], []⟩) (fun fin s' => ∃ r, fin = .done (.ret r) ∧ Q r s') E s := by
 obtain ⟨g0, gn, dr, tk, os⟩ := s
 show wpAny _ _ (field (.ref en) 2 >>= _) _ _ _; refine wpAny_bind (wpAny_field N rfl (x := .ref ti) rfl ?_); refine wpAny_bind (nextT_item I T hv fun g1 I1 S1 => ?_)
 replace S1 : Heap.SameBut ti g0 g1 := S1; have N1 : IsEnum g1 en ti k was := (S1.2 en ne).trans N
 show wpAny _ _ (field (.ref en) 3 >>= _) _ _ ⟨g1, gn, dr, tk, os⟩; refine wpAny_bind (wpAny_field N1 rfl (x := rawInt k) rfl ?_)
 show wpAny _ _ (field (.ref en) 4 >>= _) _ _ ⟨g1, gn, dr, tk, os⟩; refine wpAny_bind (wpAny_field N1 rfl (x := .none) rfl ?_)
 show wpAny _ _ (mkInt k >>= _) _ _ ⟨g1, gn, dr, tk, os⟩; refine wpAny_bind (wpAny_mkInt ?_)
 show wpAny _ _ (setField (.ref en) 3 (rawInt ((k : Int) + 1)) >>= _) _ _ ⟨g1, gn, dr, tk + 1, os⟩; refine wpAny_bind (wpAny_setField_rec N1 (by simp) fun g2 N2 S2 => ?_)
 replace S2 : Heap.SameBut en g1 g2 := S2; replace N2 : IsEnum g2 en ti ((k : Int) + 1) was := N2
 show wpAny _ _ (setField (.ref en) 4 .none >>= _) _ _ ⟨g2, gn, dr, tk + 1, os⟩; refine wpAny_bind (wpAny_setField_rec N2 (by simp) fun g3 N3 S3 => ?_)
 replace S3 : Heap.SameBut en g2 g3 := S3; replace N3 : IsEnum g3 en ti ((k : Int) + 1) was := N3
 show wpAny _ _ (newTuple [.int k tk, v] >>= _) _ _ ⟨g3, gn, dr, tk + 1, os⟩; refine wpAny_bind (wpAny_newTuple ?_)
 have N4 : IsEnum (g3.push { cls := .type "tuple", data := .seq #[.int k tk, v] }) en ti ((k : Int) + 1) was := Heap.get?_push_of_some _ N3
 generalize eg : g3.push { cls := .type "tuple", data := .seq #[.int k tk, v] } = g4 at N4
 have z3 : g3.objs.size = g0.objs.size := by rw [S3.1, S2.1, S1.1]
 have lt : en < g0.objs.size := Heap.lt_size N
 have t4 : g4.get? g0.objs.size = some { cls := .type "tuple", data := .seq #[.int k tk, v] } := by rw [← eg, ← z3]; exact Heap.get?_push_size _ rfl
 have z4 : g4.objs.size = g0.objs.size + 1 := by rw [← eg, Heap.size_push, z3]
 have k4 : ∀ b o, b ≠ en → b ≠ ti → g0.get? b = some o → g4.get? b = some o := fun b o h1 h2 h3 => by rw [← eg]; exact Heap.get?_push_of_some _ (S3.extBut b o h1 (S2.extBut b o h1 (S1.extBut b o h2 h3)))
 have i4 : g4.IsTupleIter ti tu (k + 1) := by rw [← eg]; obtain ⟨o, go, r⟩ := (I1.extBut S2.extBut (Ne.symm ne)).extBut S3.extBut (Ne.symm ne); exact ⟨o, Heap.get?_push_of_some _ go, r⟩
 show wpAny _ _ (Builtin.SmallTypes.ownedTupleIsFree (.ref en) >>= _) _ _ ⟨g4, gn, dr, tk + 1, os⟩; rw [z3]; clear eg N3 S3 N2 S2 N1 S1 I1 z3 g3 g2 g1
 refine wpAny_bind ?_; unfold Builtin.SmallTypes.ownedTupleIsFree; refine wpAny_bind (wpAny_field N4 rfl (x := .none) rfl (wpAny_pure ?_)); simp only [if_true]; refine wpAny_bind (wpAny_rule ?_)
 refine wpAny_bind (wpAny_field N4 rfl (x := was) rfl ?_); refine wpAny_bind (wpAny_setField_rec N4 (by simp) fun g5 N5 S5 => ?_)
 replace S5 : Heap.SameBut en g4 g5 := S5; replace N5 : IsEnum g5 en ti ((k : Int) + 1) v := N5
 show wpAny _ _ (Builtin.SmallTypes.ownedTupleHandOut (.ref en) (.ref g0.objs.size) >>= _) _ _ ⟨g5, gn, dr, tk + 1, os⟩
 refine wpAny_bind ?_; unfold Builtin.SmallTypes.ownedTupleHandOut; refine wpAny_bind (wpAny_setField_rec N5 (by simp) fun g6 N6 S6 => ?_)
 replace S6 : Heap.SameBut en g5 g6 := S6; replace N6 : IsEnumOut g6 en ti ((k : Int) + 1) v g0.objs.size := N6
 refine wpAny_setField_rec N6 (by simp) fun g7 N7 S7 => ?_; replace S7 : Heap.SameBut en g6 g7 := S7; replace N7 : IsEnumOut g7 en ti ((k : Int) + 1) v g0.objs.size := N7
 refine wpAny_bind (wpAny_letGo (wpAny_pure ⟨_, rfl, q g7 N7 (((i4.extBut S5.extBut (Ne.symm ne)).extBut S6.extBut (Ne.symm ne)).extBut S7.extBut (Ne.symm ne)) ?_ (by rw [S7.1, S6.1, S5.1, z4]) fun b o h1 h2 h3 => S7.extBut b o h1 (S6.extBut b o h1 (S5.extBut b o h1 (k4 b o h1 h2 h3)))⟩))
 exact S7.extBut _ _ (Nat.ne_of_gt lt) (S6.extBut _ _ (Nat.ne_of_gt lt) (S5.extBut _ _ (Nat.ne_of_gt lt) t4))
theorem pyNextE_item {en ti tu : Addr} {k : Nat} {its : Array Value} {v was : Value} {Q : Option Value → Shared → Prop} (N : IsEnum s.heap en ti k was) (I : s.heap.IsTupleIter ti tu k) (T : s.heap.IsTuple tu its) (hv : its[k]? = some v) (ne : en ≠ ti)
  (q : ∀ g, IsEnumOut g en ti ((k : Int) + 1) v s.heap.objs.size → g.IsTupleIter ti tu (k + 1) → g.get? s.heap.objs.size = some { cls := .type "tuple", data := .seq #[.int k s.toks, v] } → g.objs.size = s.heap.objs.size + 1 →
   (∀ b o, b ≠ en → b ≠ ti → s.heap.get? b = some o → g.get? b = some o) → Q (some (.ref s.heap.objs.size)) { s with heap := g, toks := s.toks + 1 }) : wpAny (model prog w) A (pyNext (.ref en)) Q E s := by
 have ty : s.TypeIs (.ref en) "enumerate" := ⟨_, N, rfl⟩
 unfold pyNext; exact wpAny_bind (wpAny_attempt (wpAny_callSpecial?_slot (name := Str.ofString "__next__") ty F.slot_enumerate_next (wpAny_call_entry F.slot_enumerate_next ty F.entry_enumerate_next (enumT_next N I T hv ne fun g a b c d k => wpAny_pure (q g a b c d k)) (F.args_enumerate_next_1 _))))
theorem pyNextE_end {en ti tu : Addr} {k : Nat} {its : Array Value} {was : Value} {Q : Option Value → Shared → Prop} (nh : A.handled = none) (N : IsEnum s.heap en ti k was) (I : s.heap.IsTupleIter ti tu k) (T : s.heap.IsTuple tu its) (hv : its[k]? = none)
  (q : ∀ g, Heap.ExtBut ti s.heap g → Q none { s with heap := g }) : wpAny (model prog w) A (pyNext (.ref en)) Q E s := by
 have ty : s.TypeIs (.ref en) "enumerate" := ⟨_, N, rfl⟩
 unfold pyNext; refine wpAny_bind (wpAny_attempt (wpAny_callSpecial?_slot (name := Str.ofString "__next__") ty F.slot_enumerate_next (wpAny_call_entry F.slot_enumerate_next ty F.entry_enumerate_next ?_ (F.args_enumerate_next_1 _))))
 show wpAny _ _ (field (.ref en) 2 >>= _) _ _ _; refine wpAny_bind (wpAny_field N rfl (x := .ref ti) rfl ?_)
 refine wpAny_bind (nextT_end nh I T hv fun g x eb hx => ?_); obtain ⟨o, go, co⟩ := hx
 refine wpAny_bind (wpAny_isInstance (T := "StopIteration") (b := true) ⟨o, go, co⟩ isSubtype_stop ?_); exact wpAny_pure (q _ eb)
theorem meetsE_new (tu : Addr) (its : Array Value) (n : Nat) (dc : Option Addr) (sl : Array (Option Value)) :
  Meets (Builtin.«enumerate.__new__» ⟨[.type "enumerate", .ref tu], []⟩) (fun ψ R s => s.heap.get? tu = some { cls := .type "tuple", dict := dc, data := .seq its n, slots := sl } ∧
   R (.ok (.ret (.ref (s.heap.push { cls := .type "tuple_iterator", data := .fields #[.ref tu, .int 0 0] }).objs.size)))
    { s with heap := (s.heap.push { cls := .type "tuple_iterator", data := .fields #[.ref tu, .int 0 0] }).push { cls := .type "enumerate", data := .fields #[.none, .bool false, .ref s.heap.objs.size, rawInt 0, .none, .none] } }) :=
 .of_wp fun prog w A R s h => by
  obtain ⟨g0, gn, dr, tk, os⟩ := s; obtain ⟨gt, h⟩ := h; have sb := sub_enumerate
  have T : Heap.IsTuple (Shared.heap ⟨g0, gn, dr, tk, os⟩) tu its := ⟨_, gt, rfl, n, rfl⟩
  wp_walk using AutoSeq1.wpAny_loadPart' gt
  refine wpAny_stack_any fun st => wpAny_pure ?_
  split
  ·rename_i c _ _ _ _ _
   cases (c == Value.type "enumerate") <;> (wp_walk using AutoSeq1.wpAny_loadPart' gt, wpAny_pyIter_tuple T; exact ⟨_, rfl, h⟩)
  ·wp_walk using AutoSeq1.wpAny_loadPart' gt, wpAny_pyIter_tuple T; exact ⟨_, rfl, h⟩
theorem callE_tup {tu : Addr} {its : Array Value} {Q : L2.VSP} (T : s.heap.IsTuple tu its)
  (q : ∀ g, IsEnum g (s.heap.objs.size + 1) s.heap.objs.size 0 .none → g.IsTupleIter s.heap.objs.size tu 0 → g.objs.size = s.heap.objs.size + 2 → (∀ b o, s.heap.get? b = some o → g.get? b = some o) → Q (.ref (s.heap.objs.size + 1)) { s with heap := g }) :
  wpAny (model prog w) A (call (.type "enumerate") [.ref tu]) Q E s := by
 obtain ⟨⟨c, dc, dt, sl⟩, gt, hc, n, hd⟩ := T; replace hc : c = .type "tuple" := hc; replace hd : dt = .seq its n := hd; subst hc hd
 refine callType_new F.called_enumerate (by decide) (F.typeCall_enumerate_1 _) (F.newCall_enumerate_1 _) (fun obj => F.args_object_init_2 obj _) F.entry_enumerate_new (meetsE_new tu its n dc sl) ⟨gt, ?_⟩
 have z : (s.heap.push { cls := .type "tuple_iterator", data := .fields #[.ref tu, .int 0 0] }).objs.size = s.heap.objs.size + 1 := Heap.size_push ..
 show _ ∧ _; rw [z]
 have N : IsEnum ((s.heap.push { cls := .type "tuple_iterator", data := .fields #[.ref tu, .int 0 0] }).push { cls := .type "enumerate", data := .fields #[.none, .bool false, .ref s.heap.objs.size, rawInt 0, .none, .none] }) (s.heap.objs.size + 1) s.heap.objs.size 0 .none := by
  have y := Heap.get?_push_size (s.heap.push { cls := .type "tuple_iterator", data := .fields #[.ref tu, .int 0 0] }) (o := { cls := .type "enumerate", data := .fields #[.none, .bool false, .ref s.heap.objs.size, rawInt 0, .none, .none] }) rfl
  rw [z] at y; exact y
 exact ⟨⟨_, N, rfl⟩, q _ N ⟨_, Heap.get?_push_of_some _ (Heap.get?_push_size _ rfl), rfl, rfl⟩ (by rw [Heap.size_push, z]) fun b o x => Heap.get?_push_of_some _ (Heap.get?_push_of_some _ x)⟩
end
section
variable {X : Cx} {pins : L2.AO} {σ : St} {H : Hp} {s : Shared} {h' : Heap}
theorem Inv.turnedL {t' : Nat} {fp : List Addr} (I : Inv X pins σ H s) (k : ∀ b o, b ∉ fp → s.heap.get? b = some o → h'.get? b = some o) (hf : ∀ b ∈ fp, FpOk X pins H b) : Inv X pins σ H { s with heap := h', toks := t' } := by
 have nf : ∀ b u, H b = some u → b ∉ fp := fun b u e z => by rw [(hf b z).1] at e; cases e
 refine I.step (g' := s.gens) (d' := s.drawn) (ch := fp) (fun b hb => ⟨(hf b hb).2.2.2.1, (hf b hb).2.1, (hf b hb).2.2.2.2.1, (hf b hb).2.2.2.2.2⟩) (fun b o ψ ψ hc e ψ => k b o hc e) (fun b o ψ ψ hc e ψ => ⟨o.slots, k b o hc e⟩) (fun ψ ψ ψ ψ n => n)
  (fun b o hc e => ⟨o, k b o hc e⟩) (fun ψ ψ e => e) (fun ψ ψ ψ e => e) (fun b ps e => ⟨#[], by rw [e]; simp⟩) (fun m hm => ?_) (fun b u e => ?_) I.bare
 ·obtain ⟨o, es, ep, ho, r⟩ := hm; exact ⟨o, es, ep, k _ o (fun z => (hf _ z).2.1 rfl) ho, r⟩
 ·refine (I.hok b u e).stay (fun c v hc q => k c v ?_ q) (fun ψ q => q) fun ψ ψ q => q
  rcases hc with z | z
  ·rw [z]; exact nf b u e
  ·exact nf c _ z
theorem Inv.adoptT {fp : List Addr} {t' : Nat} {vs : List V} {us : List Value} {n : Nat} (I : Inv X pins σ H s) (k : ∀ b o, b ∉ fp → s.heap.get? b = some o → h'.get? b = some o) (hf : ∀ b ∈ fp, FpOk X pins H b)
  (ht : ∃ o, h'.get? s.heap.objs.size = some o ∧ o.cls = .type "tuple" ∧ ∃ n, o.data = .seq us.toArray n) (r : Vals vs us) (hl : vs.length ≤ sizeLine) : H s.heap.objs.size = none ∧ Inv X pins σ (upd H s.heap.objs.size (.tup vs)) { s with heap := h', toks := t' } := by
 have I1 := I.turnedL (t' := t') k hf
 have hn : H s.heap.objs.size = none := I.hok.fresh (Nat.le_refl _)
 have lt : ∀ {b : Addr} {o : Obj}, s.heap.get? b = some o → s.heap.objs.size ≠ b := fun e z => absurd (Heap.lt_size e) (by rw [← z]; exact Nat.lt_irrefl _)
 refine ⟨hn, I1.adoptX hn ?_ ?_ (fun x c e z => ?_) (fun p hp z => ?_) ⟨hl, us, r, ht⟩⟩
 ·cases z : X.s₀.heap.get? s.heap.objs.size with
  | none => rfl
  | some o => exact absurd (Nat.lt_of_lt_of_le (Heap.lt_size z) I.sz) (Nat.lt_irrefl _)
 ·intro z; exact absurd I.lt (by rw [← z]; exact Nat.lt_irrefl _)
 ·obtain ⟨v, q⟩ := I.cell x c e; exact absurd q.lt (by rw [z]; exact Nat.lt_irrefl _)
 ·exact lt (I.pin p hp).1 z.symm
end
noncomputable def Ite (K : L2.Fg) (a : Addr) : It :=
 ⟨fun i H => ∃ xs x, SqT K H a xs ∧ xs[i]? = some x, fun i H v H' => ∃ p x, H p = none ∧ v = .ref p ∧ (∀ xs, SqT K H a xs → xs[i]? = some x) ∧ H' = upd H p (.tup [.int i, x]), fun i H => ∃ xs, SqT K H a xs ∧ xs.length ≤ i⟩
theorem turn_enum {P : Program} {w : World} {K : L2.Fg} {es : List Expr} {x1 : Nat} {pos : Pos} (a en it : Addr) (ne : en ≠ it) : Turn P w K (.Tuple es x1 pos) (Ite K a) [en, it] en (fun i h => (∃ was, IsEnum h en it i was) ∧ h.IsTupleIter it a i) where
 mem := by simp
 obj := fun i h st b hb => by
  obtain ⟨⟨was, N⟩, o, go, c, d⟩ := st
  rcases List.mem_cons.mp hb with z | z
  ·subst z; exact ⟨_, N, fun v z => by cases z⟩
  ·have z2 := List.mem_singleton.mp z
   subst z2; exact ⟨o, go, fun v z => by rw [d] at z; cases z⟩
 keep := fun i h h' st k => by
  obtain ⟨⟨was, N⟩, o, go, r⟩ := st
  exact ⟨⟨was, k en (by simp) _ N⟩, o, k it (by simp) o go, r⟩
 item := by
  intro X hP hw hK hc i pins s σ H E I hf st hg
  subst hP hw hK
  obtain ⟨xs, x, hq, hx⟩ := hg
  obtain ⟨its, rv, p, hz⟩ := I.tuple hq
  obtain ⟨u, hu, ru⟩ := rv.get hx
  obtain ⟨⟨was, N⟩, J⟩ := st
  refine pyNextE_item N J (show s.heap.IsTuple a its.toArray from p) (v := u) (by simpa using hu) ne fun g N1 J1 t1 z1 k1 => ?_
  refine ⟨_, rfl, wpAny_letOwnedTupleGo_enum (s := { s with heap := g, toks := s.toks + 1 }) N1 fun g2 N2 S2 => ?_⟩
  have lt : en < s.heap.objs.size := Heap.lt_size N
  have k2 : ∀ b o, b ∉ [en, it] → s.heap.get? b = some o → g2.get? b = some o := fun b o hb e => (S2.2 b fun z => hb (by simp [z])).trans (k1 b o (fun z => hb (by simp [z])) (fun z => hb (by simp [z])) e)
  obtain ⟨hn, I2⟩ := I.adoptT (h' := g2) (t' := s.toks + 1) (fp := [en, it]) (vs := [.int i, x]) (us := [.int i s.toks, u]) (n := 0) k2 hf ⟨_, (S2.2 _ (Nat.ne_of_gt lt)).trans t1, rfl, _, rfl⟩ (.cons ⟨_, rfl⟩ (.cons ru .nil)) (by show 2 ≤ sizeLine; decide)
  refine ⟨.ref _, _, I2, rfl, ⟨_, x, hn, rfl, fun ys hy => by rw [I.tuple_inj hy hq]; exact hx, rfl⟩, ⟨⟨u, by simpa using N2⟩, ?_⟩, fun b hb => ?_⟩
  ·obtain ⟨o, go, r⟩ := J1; exact ⟨o, (S2.2 it (Ne.symm ne)).trans go, r⟩
  ·have ltb : b ≠ s.heap.objs.size := by
    obtain ⟨oi, gi, _⟩ := J
    rcases List.mem_cons.mp hb with z | z
    ·rw [z]; exact Nat.ne_of_lt lt
    ·rw [List.mem_singleton.mp z]; exact Nat.ne_of_lt (Heap.lt_size gi)
   rw [upd_ne ltb]; exact (hf b hb).1
 done := by
  intro X hP hw hK hc i pins s σ H E I hf st hg
  subst hP hw hK
  obtain ⟨xs, hq, hx⟩ := hg
  obtain ⟨its, rv, p, hz⟩ := I.tuple hq
  obtain ⟨⟨was, N⟩, J⟩ := st
  have hl := rv.length
  refine pyNextE_end (I.ok.hd hc) N J (show s.heap.IsTuple a its.toArray from p) (by simp; omega) fun g eb => ⟨rfl, I.turnedL (t' := s.toks) (fp := [en, it]) (fun b o hb e => eb b o (fun z => hb (by simp [z])) e) hf⟩
 self := fun ψ ψ ψ ψ ψ st h => by
  obtain ⟨⟨was, N⟩, _⟩ := st
  exact wpAny_pyIter_enum N h
noncomputable def iEnum (K : L2.Fg) (ta : TA) : TI := fun σ H R => ta σ H fun vs H1 => ∃ a, vs = [.ref a] ∧ (∃ xs, SqT K H1 a xs) ∧ R (Ite K a) H1
section
variable {X : Cx}
theorem pi_enumerate {a : Expr} {ta : TA} {p pos tp : Pos} {es : List Expr} {x1 : Nat} (hg : Gl X "enumerate") (hm : X.mg "enumerate" = none) (ha : PA X [a] ta) (hs : starEach [a] X.env = [(false, eval a X.env)] := by rfl) :
  PI X (.Tuple es x1 tp) (.Call (.Name "enumerate" p) [a] [] pos) (iEnum X.K ta) := by
 intro pins s σ H R I h
 refine Call_ (ld_blt I hg hm boot_enumerate (PyProof.Rows.callWith_type1 (thn (ha pos pins s σ H _ I h) fun us s1 ⟨vs, H1, I1, r1, q1⟩ => ?_) hs rfl))
 obtain ⟨t, e, ⟨xs, hq⟩, q⟩ := q1
 subst e
 cases r1 with
 | cons r rr =>
  cases rr
  cases r
  obtain ⟨its, rv, pt, hz⟩ := I1.tuple hq
  refine callE_tup (show s1.heap.IsTuple t its.toArray from pt) fun g N J z k => wpAny_pyIter_enum (s := { s1 with heap := g }) N ?_
  refine ⟨s1.heap.objs.size + 1, [s1.heap.objs.size + 1, s1.heap.objs.size], _, _, H1, rfl, I1.kept (t' := s1.toks) fun b o e => k b o e, turn_enum t _ _ (Nat.succ_ne_self _), ⟨⟨_, N⟩, J⟩, fun b hb => ?_, q⟩
  have le : s1.heap.objs.size ≤ b := by
   rcases List.mem_cons.mp hb with z | z
   ·rw [z]; exact Nat.le_succ _
   ·rw [List.mem_singleton.mp z]; exact Nat.le_refl _
  exact I1.fpOk le (I1.hok.fresh le)
end
theorem boot_zip : bootBuiltins "zip" = some (.type "zip") := by decide +kernel
theorem addT0 (t b : Addr) (xs ys : Array Value) (n n2 : Nat) (dd dd2 : Option Addr) (sl sl2 : Array (Option Value)) (h0 : xs.isEmpty = true) :
  Meets (Builtin.«tuple.__add__» ⟨[.ref t, .ref b], []⟩) (fun ψ R s => s.heap.get? t = some ⟨.type "tuple", dd, .seq xs n, sl⟩ ∧ s.heap.get? b = some ⟨.type "tuple", dd2, .seq ys n2, sl2⟩ ∧ R (.ok (.ret (.ref b))) s) :=
 .of_wp fun prog w A R s h => by
  obtain ⟨g0, gn, dr, tk, os⟩ := s; obtain ⟨e1, e2, h⟩ := h; have sb := AutoSeq1.sub_tuple_tuple
  wp_walk using AutoSeq1.wpAny_loadPart' e1, AutoSeq1.wpAny_loadPart' e2; exact ⟨_, rfl, h⟩
section
variable {X : Cx} {K : L2.Fg} {H : Hp} {Q : VK}
theorem getT_whole {prog : Program} {w : World} {A : Around} {E : L2.VSP} {s : Shared} {t sl : Addr} {items : Array Value} {vl vu : Value} {lo hi : Option Int} {Q : L2.VSP} (ht : IsTup s.heap t items) (hs : s.heap.IsSliceOf sl vl vu .none) (pl : IsPart vl lo) (pu : IsPart vu hi)
  (hw : HT.sIx items.size 0 lo = 0 ∧ HT.sIx items.size items.size hi = items.size) (h : Q (.ref t) s) : wpAny (model prog w) A (getItem (.ref t) (.ref sl)) Q E s := by
 obtain ⟨os, hos, hcs, hds⟩ := id hs; have ts : s.TypeIs (.ref sl) "slice" := ⟨os, hos, hcs⟩
 unfold getItem; (try with_reducible refine wpAny_holding ?_); (first | refine wpAny_bind (wpAny_pure ?_) | skip); refine wpAny_bind (wpAny_sequenceKey ht.typeIs (by decide) ?_)
 refine wpAny_bind (wpAny_callSpecial?_slot (name := Str.ofString "__getitem__") ht.typeIs PyProof.Rows.slot_tuple_getitem (wpAny_call_entry PyProof.Rows.slot_tuple_getitem ht.typeIs entry_tuple_getitem ?_ (args_tuple_getitem _ _)))
 show wpAny _ _ (Builtin.Tuple.tupleItemsOf (.ref t) >>= _) _ _ s; refine wpAny_bind (tupleItemsOf_ ht ?_); refine wpAny_bind (wpAny_typeOf ts ?_); rw [if_pos (by decide)]
 refine wpAny_bind (HT.sliceApplied_gen hs pl pu ?_)
 show wpAny _ _ (if (((HT.sIx items.size 0 lo : Nat) : Int) == 0 && (1 : Int) == 1 && (HT.sIx items.size items.size hi - HT.sIx items.size 0 lo) == items.size) = true then _ else _) _ _ s
 rw [if_pos (by rw [hw.1, hw.2]; simp)]
 unfold Builtin.Tuple.tupleIsExact
 refine wpAny_bind (wpAny_bind (wpAny_typeOf ht.typeIs (wpAny_pure ?_)))
 rw [if_pos (by decide)]
 refine wpAny_bind (wpAny_rule ?_)
 first
  | exact wpAny_pure ⟨_, rfl, wpAny_pure h⟩
  | exact wpAny_bind (wpAny_pure (wpAny_pure ⟨_, rfl, wpAny_pure h⟩))
noncomputable def rSlW (K : L2.Fg) : V → Option Int → Option Int → Hp → VK → Prop := fun x lo hi H Q => ∃ a xs, x = .ref a ∧ SqT K H a xs ∧ (HT.sIx xs.length 0 lo = 0 ∧ HT.sIx xs.length xs.length hi = xs.length) ∧ Q (.ref a) H
theorem sl_wholeT : SlR X (rSlW X.K) := by
 intro pins s σ H x v vl vu lo hi sl Q I rx hs pl pu h
 obtain ⟨a, xs, rfl, hx, hw, q⟩ := h
 cases rx
 obtain ⟨its, r, ht, hz⟩ := I.tuple hx
 have hlen : its.toArray.size = xs.length := by rw [List.size_toArray]; exact r.length.symm
 exact ⟨"tuple", _, PyProof.Rows.slot_tuple_getitem.lookup, ht.typeIs, getT_whole ht hs pl pu (by rw [hlen]; exact hw) ⟨.ref a, H, I, rfl, q⟩⟩
end
theorem pg_tupK {X : Cx} {K : L2.Fg} {es : List Expr} {k : Nat} {t : TGs} {n : Nat} {pos : Pos} (hK : X.K = K) (hc : X.calm = true) (h : PGs X es t) (hn : (assignEach es X.env).length = n := by rfl) (hst : (assignEach es X.env).findIdx? (·.1) = none := by rfl) : PG X (.Tuple es k pos) (gTup K n t) :=
 hK ▸ pg_tup hc h hn hst
theorem call_lstK {X : Cx} {K : L2.Fg} (h : X.K = K) : CallR X (.type "list") (rLstOf K) := h ▸ call_lstA
theorem call_tupK {X : Cx} {K : L2.Fg} (h : X.K = K) : CallR X (.type "tuple") (rTupOf K) := h ▸ call_tupA
inductive U where
 | non | bl (b : Bool) | int (i : Int) | str (x : Str) | ty (n : String) | nm (x : Str) | exc (c : Str) (pl : Option Int) | pile
 | tup (xs : List U) | lst (xs : List U) | scr (ns : List Int) | dic (ks vs : List U)
structure Om where
 cs : List Int
 rs : List Int
structure Wd where
 K : PySem.W.Frag
 mg : Str → Option Value
 pa : Addr
 L : List Addr
 pl : Om → Hp → Prop
 st : ∀ ω H H', pl ω H → (∀ b o, H b = some o → (b ∈ L ∨ ∃ x y, o = .frz x y) → H' b = some o) → pl ω H'
noncomputable def DOb (ob : Obj) (kvs : List (Int × V)) : Prop := ∃ es ep, ob.ExactDict ∧ ob.data = .dict es ep ∧ Paired (fun (e : DictEntry) (p : Int × V) => keyIs (.inl p.1) e.key = true ∧ (∀ w, e.hash = keyH w (.inl p.1)) ∧ RelV p.2 e.val) es.toList kvs ∧ (kvs.map (·.1)).Nodup
noncomputable def dE (a : Addr) (ob : Obj) (kvs : List (Int × V)) : HO := .ext fun h => h.get? a = some ob ∧ (a == sysModules) = false ∧ kvs.length ≤ sizeLine ∧ DOb ob kvs
noncomputable def excD (e C d : Addr) : HO := .ext fun h => ∃ o, h.get? e = some o ∧ o.cls = .ref C ∧ o.dict = some d ∧ PySem.W.notCls o = true
mutual
noncomputable def RU (W : Wd) (H : Hp) : U → V → Prop
 | .non, v => v = .non
 | .bl b, v => v = .bl b
 | .int i, v => v = .int i
 | .str x, v => v = .str x
 | .ty n, v => v = .ty n
 | .nm x, v => ∃ a, v = .ref a ∧ W.mg x = some (.ref a)
 | .exc c none, v => ∃ a C, v = .ref a ∧ W.mg c = some (.ref C) ∧ H a = some (excO a C)
 | .exc c (some n), v => ∃ a C d, v = .ref a ∧ W.mg c = some (.ref C) ∧ H a = some (excD a C d) ∧ H d = some (.xd [("place", .int n)])
 | .pile, v => v = .ref W.pa
 | .tup xs, v => ∃ a vs, v = .ref a ∧ H a = some (.tup vs) ∧ RUs W H xs vs
 | .lst xs, v => ∃ a vs, v = .ref a ∧ H a = some (.lst vs) ∧ RUs W H xs vs
 | .scr ns, v => ∃ a, v = .ref a ∧ SqL W.K H a (ns.map V.int)
 | .dic ks vs, v => ∃ a ob kvs, v = .ref a ∧ H a = some (dE a ob kvs) ∧ ks = kvs.map (fun p => .int p.1) ∧ RUs W H vs (kvs.map (·.2))
noncomputable def RUs (W : Wd) (H : Hp) : List U → List V → Prop
 | [], vs => vs = []
 | u :: us, vs => ∃ v r, vs = v :: r ∧ RU W H u v ∧ RUs W H us r
end
mutual
theorem RU.mono {W : Wd} {H H' : Hp} (s : Same H H') : ∀ {u : U} {v : V}, RU W H u v → RU W H' u v
 | .non, _, h => by rw [RU] at h ⊢; exact h
 | .bl _, _, h => by rw [RU] at h ⊢; exact h
 | .int _, _, h => by rw [RU] at h ⊢; exact h
 | .str _, _, h => by rw [RU] at h ⊢; exact h
 | .ty _, _, h => by rw [RU] at h ⊢; exact h
 | .nm _, _, h => by rw [RU] at h ⊢; exact h
 | .exc _ none, _, h => by rw [RU] at h ⊢; obtain ⟨a, C, e, m, q⟩ := h; exact ⟨a, C, e, m, s _ _ q⟩
 | .exc _ (some _), _, h => by rw [RU] at h ⊢; obtain ⟨a, C, d, e, m, q, r⟩ := h; exact ⟨a, C, d, e, m, s _ _ q, s _ _ r⟩
 | .pile, _, h => by rw [RU] at h ⊢; exact h
 | .tup xs, _, h => by rw [RU] at h ⊢; obtain ⟨a, vs, e, q, r⟩ := h; exact ⟨a, vs, e, s _ _ q, RUs.mono s r⟩
 | .lst xs, _, h => by rw [RU] at h ⊢; obtain ⟨a, vs, e, q, r⟩ := h; exact ⟨a, vs, e, s _ _ q, RUs.mono s r⟩
 | .scr ns, _, h => by rw [RU] at h ⊢; obtain ⟨a, e, q⟩ := h; exact ⟨a, e, s.seq q⟩
 | .dic ks vs, _, h => by rw [RU] at h ⊢; obtain ⟨a, ob, kvs, e, q, z, r⟩ := h; exact ⟨a, ob, kvs, e, s _ _ q, z, RUs.mono s r⟩
theorem RUs.mono {W : Wd} {H H' : Hp} (s : Same H H') : ∀ {us : List U} {vs : List V}, RUs W H us vs → RUs W H' us vs
 | [], _, h => by rw [RUs] at h ⊢; exact h
 | u :: us, _, h => by rw [RUs] at h ⊢; obtain ⟨v, r, e, q, z⟩ := h; exact ⟨v, r, e, RU.mono s q, RUs.mono s z⟩
end
section
variable {W : Wd} {H : Hp}
theorem RUs.nil : RUs W H [] [] := by rw [RUs]
theorem RUs.cons {u : U} {us : List U} {v : V} {vs : List V} (h : RU W H u v) (t : RUs W H us vs) : RUs W H (u :: us) (v :: vs) := by rw [RUs]; exact ⟨v, vs, rfl, h, t⟩
theorem RUs.len : ∀ {us : List U} {vs : List V}, RUs W H us vs → us.length = vs.length
 | [], _, h => by rw [RUs] at h; subst h; rfl
 | _ :: us, _, h => by rw [RUs] at h; obtain ⟨v, r, e, _, z⟩ := h; subst e; simp [z.len]
theorem RUs.at {i : Nat} : ∀ {us : List U} {vs : List V} {u : U} {i : Nat}, RUs W H us vs → us[i]? = some u → ∃ v, vs[i]? = some v ∧ RU W H u v
 | [], _, _, _, _, e => by simp at e
 | _ :: us, _, u, 0, h, e => by rw [RUs] at h; obtain ⟨v, r, e', q, z⟩ := h; subst e'; simp at e; subst e; exact ⟨v, rfl, q⟩
 | _ :: us, _, u, i + 1, h, e => by rw [RUs] at h; obtain ⟨v, r, e', q, z⟩ := h; subst e'; obtain ⟨w, g, k⟩ := RUs.at (i := 0) z (show us[i]? = some u by simpa using e); exact ⟨w, by simpa using g, k⟩
theorem RUs.app : ∀ {us ws : List U} {vs xs : List V}, RUs W H us vs → RUs W H ws xs → RUs W H (us ++ ws) (vs ++ xs)
 | [], _, _, _, h, t => by rw [RUs] at h; subst h; exact t
 | _ :: us, _, _, _, h, t => by rw [RUs] at h; obtain ⟨v, r, e, q, z⟩ := h; subst e; exact .cons q (z.app t)
theorem RUs.one {u : U} {v : V} (h : RU W H u v) : RUs W H [u] [v] := .cons h .nil
theorem RUs.drop : ∀ {us : List U} {vs : List V} (n : Nat), RUs W H us vs → RUs W H (us.drop n) (vs.drop n)
 | _, _, 0, h => h
 | [], _, _ + 1, h => by rw [RUs] at h; subst h; exact .nil
 | _ :: us, _, n + 1, h => by rw [RUs] at h; obtain ⟨v, r, e, q, z⟩ := h; subst e; exact z.drop n
theorem RUs.take : ∀ {us : List U} {vs : List V} (n : Nat), RUs W H us vs → RUs W H (us.take n) (vs.take n)
 | _, _, 0, h => .nil
 | [], _, _ + 1, h => by rw [RUs] at h; subst h; exact .nil
 | _ :: us, _, n + 1, h => by rw [RUs] at h; obtain ⟨v, r, e, q, z⟩ := h; subst e; exact .cons q (z.take n)
theorem RUs.rev : ∀ {us : List U} {vs : List V}, RUs W H us vs → RUs W H us.reverse vs.reverse
 | [], _, h => by rw [RUs] at h; subst h; exact .nil
 | _ :: us, _, h => by rw [RUs] at h; obtain ⟨v, r, e, q, z⟩ := h; subst e; rw [List.reverse_cons, List.reverse_cons]; exact z.rev.app (.one q)
theorem RUs.set : ∀ {us : List U} {vs : List V} {u : U} {v : V} (n : Nat), RUs W H us vs → RU W H u v → RUs W H (us.set n u) (vs.set n v)
 | [], _, _, _, _, h, _ => by rw [RUs] at h; subst h; exact .nil
 | _ :: us, _, _, _, 0, h, k => by rw [RUs] at h; obtain ⟨v, r, e, q, z⟩ := h; subst e; exact .cons k z
 | _ :: us, _, _, _, n + 1, h, k => by rw [RUs] at h; obtain ⟨v, r, e, q, z⟩ := h; subst e; exact .cons q (z.set n k)
theorem RUs.ints : ∀ {ns : List Int} {vs : List V}, RUs W H (ns.map U.int) vs → vs = ns.map V.int
 | [], _, h => by rw [List.map_nil, RUs] at h; exact h
 | _ :: ns, _, h => by rw [List.map_cons, RUs] at h; obtain ⟨v, r, e, q, z⟩ := h; rw [RU] at q; rw [e, q, z.ints]; rfl
theorem RUs.ofInts : ∀ {ns : List Int}, RUs W H (ns.map U.int) (ns.map V.int)
 | [] => .nil
 | _ :: ns => .cons (by rw [RU]) .ofInts
end
inductive Res (α : Type) where
 | ok (a : α) (ω : Om) | err (c : Str) (pl : Option Int) (ω : Om) | stk
noncomputable def Res.bnd {α β : Type} (r : Res α) (k : α → Om → Res β) : Res β := match r with
 | .ok a ω => k a ω
 | .err c p ω => .err c p ω
 | .stk => .stk
@[simp] theorem Res.bnd_ok {α β : Type} {a : α} {ω : Om} {k : α → Om → Res β} : (Res.ok a ω).bnd k = k a ω := rfl
@[simp] theorem Res.bnd_err {α β : Type} {c : Str} {p : Option Int} {ω : Om} {k : α → Om → Res β} : (Res.err c p ω : Res α).bnd k = .err c p ω := rfl
@[simp] theorem Res.bnd_stk {α β : Type} {k : α → Om → Res β} : (Res.stk : Res α).bnd k = .stk := rfl
noncomputable def Res.of {α : Type} (o : Option α) (ω : Om) : Res α := match o with
 | some a => .ok a ω
 | none => .stk
@[simp] theorem Res.of_some {α : Type} {a : α} {ω : Om} : Res.of (some a) ω = .ok a ω := rfl
@[simp] theorem Res.of_none {α : Type} {ω : Om} : (Res.of (none : Option α) ω) = .stk := rfl
noncomputable abbrev En := List (Option U)
inductive Fl where
 | nx (ρ : En) (ω : Om) | rt (u : U) (ω : Om) | bk (ρ : En) (ω : Om) | ct (ρ : En) (ω : Om) | err (c : Str) (pl : Option Int) (ω : Om) | stk
structure Md where
 B : List Nat
 M : List Nat
structure Ext (W : Wd) (Hc H Hc' H' : Hp) : Prop where
 same : ∀ b o, b ∉ W.L → H b = some o → H' b = some o
 sc : Same Hc Hc'
 sub : Same Hc' H'
 new : ∀ b, Hc b = none → H b ≠ none → Hc' b = none
 frz : ∀ b, H b ≠ none → H' b ≠ none
theorem Ext.refl {W : Wd} {Hc H : Hp} (s : Same Hc H) : Ext W Hc H Hc H := ⟨fun ψ ψ ψ h => h, fun ψ ψ h => h, s, fun ψ h ψ => h, fun ψ h => h⟩
theorem Ext.trans {W : Wd} {Hc H Hc1 H1 Hc2 H2 : Hp} (a : Ext W Hc H Hc1 H1) (b : Ext W Hc1 H1 Hc2 H2) : Ext W Hc H Hc2 H2 :=
 ⟨fun c o n h => b.same c o n (a.same c o n h), fun c o h => b.sc c o (a.sc c o h), b.sub, fun c h k => b.new c (a.new c h k) (a.frz c k), fun c h => b.frz c (a.frz c h)⟩
structure PlOk (W : Wd) (ω : Om) (Hc H : Hp) : Prop where
 pl : W.pl ω H
 out : ∀ b ∈ W.L, Hc b = none ∧ H b ≠ none
noncomputable def XR (Hc : Hp) (pl : Option Int) (od : Option Addr) : Prop := match pl with
 | none => od = none
 | some n => ∃ d, od = some d ∧ Hc d = some (.xd [("place", .int n)])
noncomputable def Aft {α : Type} (W : Wd) (E : XK) (Hc H : Hp) (r : Res α) (k : α → Om → Hp → Hp → Prop) : Prop := match r with
 | .ok a ω => ∀ Hc' H', Ext W Hc H Hc' H' → PlOk W ω Hc' H' → k a ω Hc' H'
 | .err c pl ω => ∀ C od Hc' H', Ext W Hc H Hc' H' → PlOk W ω Hc' H' → W.mg c = some (.ref C) → XR Hc' pl od → E (.ref C) od H'
 | .stk => False
theorem Aft.ext {α : Type} {W : Wd} {E : XK} {Hc H Hc1 H1 : Hp} {r : Res α} {k : α → Om → Hp → Hp → Prop} (e : Ext W Hc H Hc1 H1) (h : Aft W E Hc H r k) : Aft W E Hc1 H1 r k := by
 cases r with
 | ok a ω => exact fun Hc' H' e' p => h Hc' H' (e.trans e') p
 | err c pl ω => exact fun C od Hc' H' e' p => h C od Hc' H' (e.trans e') p
 | stk => exact h
theorem Aft.imp {α : Type} {W : Wd} {E : XK} {Hc H : Hp} {r : Res α} {k k' : α → Om → Hp → Hp → Prop} (h : Aft W E Hc H r k) (i : ∀ a ω Hc' H', Ext W Hc H Hc' H' → PlOk W ω Hc' H' → k a ω Hc' H' → k' a ω Hc' H') : Aft W E Hc H r k' := by
 cases r with
 | ok a ω => exact fun Hc' H' e p => i a ω Hc' H' e p (h Hc' H' e p)
 | err c pl ω => exact h
 | stk => exact h
theorem Aft.bnd {α β : Type} {W : Wd} {E : XK} {Hc H : Hp} {r : Res α} {g : α → Om → Res β} {k : β → Om → Hp → Hp → Prop} (h : Aft W E Hc H (r.bnd g) k) : Aft W E Hc H r fun a ω Hc' H' => Aft W E Hc' H' (g a ω) k := by
 cases r with
 | ok a ω => exact fun Hc' H' e p => Aft.ext e h
 | err c pl ω => exact h
 | stk => exact h
noncomputable def OwO (W : Wd) (Hc : Hp) (a : Addr) : U → HO → Prop
 | .lst us, o => ∃ vs, o = .lst vs ∧ RUs W Hc us vs
 | .dic ks us, o => ∃ ob kvs, o = dE a ob kvs ∧ ks = kvs.map (fun p => .int p.1) ∧ RUs W Hc us (kvs.map (·.2))
 | _, _ => False
theorem OwO.mono {W : Wd} {Hc Hc' : Hp} {u : U} {o : HO} {a : Addr} (s : Same Hc Hc') (h : OwO W Hc a u o) : OwO W Hc' a u o := by
 cases u with
 | lst us => obtain ⟨vs, e, r⟩ := h; exact ⟨vs, e, r.mono s⟩
 | dic ks us => obtain ⟨ob, kvs, e, k, r⟩ := h; exact ⟨ob, kvs, e, k, r.mono s⟩
 | _ => exact h
theorem OwO.ru {W : Wd} {Hc : Hp} {u : U} {o : HO} {a : Addr} (h : OwO W Hc a u o) (q : Hc a = some o) : RU W Hc u (.ref a) := by
 cases u with
 | lst us => obtain ⟨vs, e, r⟩ := h; subst e; rw [RU]; exact ⟨a, vs, rfl, q, r⟩
 | dic ks us => obtain ⟨ob, kvs, e, k, r⟩ := h; subst e; rw [RU]; exact ⟨a, ob, kvs, rfl, q, k, r⟩
 | _ => exact h.elim
theorem OwO.nfrz {W : Wd} {Hc : Hp} {u : U} {x : Obj} {y : HO} {a : Addr} (h : OwO W Hc a u (.frz x y)) : False := by
 cases u with
 | lst us => obtain ⟨vs, e, r⟩ := h; cases e
 | dic ks us => obtain ⟨ob, kvs, e, k, r⟩ := h; cases e
 | _ => exact h
noncomputable def RB (W : Wd) (Hc H : Hp) (u : U) (v : V) : Prop := RU W Hc u v ∨ ∃ a o, v = .ref a ∧ a ∉ W.L ∧ H a = some o ∧ OwO W Hc a u o
theorem RB.ext {W : Wd} {Hc H Hc' H' : Hp} {u : U} {v : V} (h : RB W Hc H u v) (e : Ext W Hc H Hc' H') : RB W Hc' H' u v := by
 rcases h with h | ⟨a, o, e2, n, q, r⟩
 ·exact .inl (h.mono e.sc)
 ·exact .inr ⟨a, o, e2, n, e.same _ _ n q, r.mono e.sc⟩
structure Sr (W : Wd) (m : Md) (ρ : En) (ω : Om) (σ : St) (H0 Hc H : Hp) (ow : Nat → Addr) : Prop where
 sub : Same Hc H
 s0 : ∀ b o, b ∉ W.L → H0 b = some o → H b = some o
 p0 : ∀ b ∈ W.L, H0 b ≠ none
 len : ρ.length = σ.length
 pl : PlOk W ω Hc H
 cl : ∀ i u, i ∉ m.B → i ∉ m.M → ρ[i]? = some (some u) → ∃ v, σ[i]? = some (some v) ∧ RU W Hc u v
 bo : ∀ i u, i ∈ m.B → i ∉ m.M → ρ[i]? = some (some u) → ∃ v, σ[i]? = some (some v) ∧ (RU W Hc u v ∨ ∃ a o, v = .ref a ∧ a ∉ W.L ∧ H0 a = some o ∧ OwO W Hc a u o)
 mu : ∀ i u, i ∈ m.M → ρ[i]? = some (some u) → ∃ o, σ[i]? = some (some (.ref (ow i))) ∧ H (ow i) = some o ∧ Hc (ow i) = none ∧ H0 (ow i) = none ∧ OwO W Hc (ow i) u o
 di : ∀ i j u w, i ∈ m.M → j ∈ m.M → i ≠ j → ρ[i]? = some (some u) → ρ[j]? = some (some w) → ow i ≠ ow j
section
variable {W : Wd} {m : Md} {ρ : En} {ω ω' : Om} {σ : St} {H0 Hc H Hc' H' : Hp} {ow : Nat → Addr}
theorem Sr.nl (S : Sr W m ρ ω σ H0 Hc H ow) {i : Nat} (h : H0 (ow i) = none) : ow i ∉ W.L := fun z => S.p0 _ z h
theorem Sr.ext (S : Sr W m ρ ω σ H0 Hc H ow) (e : Ext W Hc H Hc' H') (p : PlOk W ω' Hc' H') : Sr W m ρ ω' σ H0 Hc' H' ow := by
 refine ⟨e.sub, fun b o n h => e.same b o n (S.s0 b o n h), S.p0, S.len, p, fun i u n1 n2 h => ?_, fun i u n1 n2 h => ?_, fun i u n h => ?_, S.di⟩
 ·obtain ⟨v, q, r⟩ := S.cl i u n1 n2 h; exact ⟨v, q, r.mono e.sc⟩
 ·obtain ⟨v, q, r⟩ := S.bo i u n1 n2 h
  refine ⟨v, q, ?_⟩
  rcases r with r | ⟨a, o, z2, z3, z4, z5⟩
  ·exact .inl (r.mono e.sc)
  ·exact .inr ⟨a, o, z2, z3, z4, z5.mono e.sc⟩
 ·obtain ⟨o, z2, z3, z4, z5, z6⟩ := S.mu i u n h
  exact ⟨o, z2, e.same _ _ (S.nl z5) z3, e.new _ z4 (by rw [z3]; simp), z5, z6.mono e.sc⟩
theorem Sr.muL (S : Sr W m ρ ω σ H0 Hc H ow) (i : Nat) (us : List U) (hi : i ∈ m.M) (h : ρ[i]? = some (some (.lst us))) : ∃ us' vs, U.lst us = .lst us' ∧ σ[i]? = some (some (.ref (ow i))) ∧ H (ow i) = some (.lst vs) ∧ Hc (ow i) = none ∧ H0 (ow i) = none ∧ RUs W Hc us' vs := by
 obtain ⟨o, z2, z3, z4, z5, vs, e, r⟩ := S.mu i _ hi h
 subst e
 exact ⟨us, vs, rfl, z2, z3, z4, z5, r⟩
theorem Sr.get (S : Sr W m ρ ω σ H0 Hc H ow) {i : Nat} {u : U} (h : ρ[i]? = some (some u)) : ∃ v, σ[i]? = some (some v) ∧ RB W Hc H u v := by
 by_cases n2 : i ∈ m.M
 ·obtain ⟨o, z2, z3, z4, z5, z6⟩ := S.mu i u n2 h
  exact ⟨_, z2, .inr ⟨_, o, rfl, S.nl z5, z3, z6⟩⟩
 ·by_cases n1 : i ∈ m.B
  ·obtain ⟨v, q, r⟩ := S.bo i u n1 n2 h
   refine ⟨v, q, ?_⟩
   rcases r with r | ⟨a, o, z2, z3, z4, z5⟩
   ·exact .inl r
   ·exact .inr ⟨a, o, z2, z3, S.s0 _ _ z3 z4, z5⟩
  ·obtain ⟨v, q, r⟩ := S.cl i u n1 n2 h
   exact ⟨v, q, .inl r⟩
end
theorem Ext.laid {W : Wd} {Hc H : Hp} {p : Addr} {o : HO} (s : Same Hc H) (n : H p = none) : Ext W Hc H (upd Hc p o) (upd H p o) ∧ Ext W Hc H Hc (upd H p o) := by
 have nc : Hc p = none := s.free n
 refine ⟨⟨fun b u ψ h => by rw [upd_ne (ne_of_none h n)]; exact h, fun b u h => by rw [upd_ne (ne_of_none h nc)]; exact h, fun b u h => ?_, fun b h k => ?_, fun b h => ?_⟩, ⟨fun b u ψ h => by rw [upd_ne (ne_of_none h n)]; exact h, fun b u h => h, fun b u h => by rw [upd_ne (ne_of_none h nc)]; exact s b u h, fun b h k => h, fun b h => ?_⟩⟩
 ·by_cases e : b = p
  ·subst e; rw [upd_same] at h ⊢; exact h
  ·rw [upd_ne e] at h ⊢; exact s b u h
 ·rw [upd_ne (fun z => k (by rw [z]; exact n))]; exact h
 ·by_cases e : b = p
  ·subst e; rw [upd_same]; simp
  ·rw [upd_ne e]; exact h
 ·by_cases e : b = p
  ·subst e; rw [upd_same]; simp
  ·rw [upd_ne e]; exact h
theorem PlOk.same {W : Wd} {ω : Om} {Hc H Hc' H' : Hp} (P : PlOk W ω Hc H) (e : Ext W Hc H Hc' H') (s : Same H H') : PlOk W ω Hc' H' :=
 ⟨W.st _ _ _ P.pl fun b o h ψ => s b o h, fun b hb => ⟨e.new b (P.out b hb).1 (P.out b hb).2, e.frz b (P.out b hb).2⟩⟩
theorem Same.laid {H : Hp} {p : Addr} {o : HO} (n : H p = none) : Same H (upd H p o) := fun b u h => by rw [upd_ne (ne_of_none h n)]; exact h
noncomputable abbrev Ef := En → Om → Res U
noncomputable abbrev Tf := En → Om → Res Bool
noncomputable abbrev Af := En → Om → Res (List U)
noncomputable abbrev Sf := En → Om → Fl
noncomputable def DE (W : Wd) (m : Md) (E : XK) (t : TE) (f : Ef) : Prop := ∀ H0 ρ ω σ Hc H ow, Sr W m ρ ω σ H0 Hc H ow → ∀ Q : VK, Aft W E Hc H (f ρ ω) (fun u ψ Hc' H' => ∀ v, RU W Hc' u v → Q v H') → t σ H Q
noncomputable def DB (W : Wd) (m : Md) (E : XK) (t : TE) (f : Ef) : Prop := ∀ H0 ρ ω σ Hc H ow, Sr W m ρ ω σ H0 Hc H ow → ∀ Q : VK, Aft W E Hc H (f ρ ω) (fun u ψ Hc' H' => ∀ v, RB W Hc' H' u v → Q v H') → t σ H Q
noncomputable def DF (W : Wd) (m : Md) (E : XK) (t : TE) (f : Ef) : Prop := ∀ H0 ρ ω σ Hc H ow, Sr W m ρ ω σ H0 Hc H ow → ∀ Q : VK, Aft W E Hc H (f ρ ω) (fun u ψ Hc' H' => ∀ us a vs, u = .lst us → Hc' a = none → H a = none → H' a = some (.lst vs) → RUs W Hc' us vs → Q (.ref a) H') → t σ H Q
noncomputable def DT (W : Wd) (m : Md) (E : XK) (t : TT) (f : Tf) : Prop := ∀ H0 ρ ω σ Hc H ow, Sr W m ρ ω σ H0 Hc H ow → ∀ Q : Bool → Hp → Prop, Aft W E Hc H (f ρ ω) (fun b ψ ψ H' => Q b H') → t σ H Q
noncomputable def RBs (W : Wd) (Hc H : Hp) : List Bool → List U → List V → Prop
 | b :: bs, u :: us, v :: vs => (if b = true then RB W Hc H u v else RU W Hc u v) ∧ RBs W Hc H bs us vs
 | [], [], [] => True
 | _, _, _ => False
noncomputable def DA (W : Wd) (m : Md) (E : XK) (bs : List Bool) (t : TA) (f : Af) : Prop := ∀ H0 ρ ω σ Hc H ow, Sr W m ρ ω σ H0 Hc H ow → ∀ Q : List V → Hp → Prop, Aft W E Hc H (f ρ ω) (fun us ψ Hc' H' => ∀ vs, RBs W Hc' H' bs us vs → Q vs H') → t σ H Q
noncomputable def Cont (W : Wd) (m : Md) (E : XK) (Hc0 H0 : Hp) (D : Ends) (r : Fl) : Prop := match r with
 | .nx ρ' ω' => ∀ σ' Hc' H' ow', Sr W m ρ' ω' σ' H0 Hc' H' ow' → Ext W Hc0 H0 Hc' H' → D.nx σ' H'
 | .bk ρ' ω' => ∀ σ' Hc' H' ow', Sr W m ρ' ω' σ' H0 Hc' H' ow' → Ext W Hc0 H0 Hc' H' → D.bk σ' H'
 | .ct ρ' ω' => ∀ σ' Hc' H' ow', Sr W m ρ' ω' σ' H0 Hc' H' ow' → Ext W Hc0 H0 Hc' H' → D.ct σ' H'
 | .rt u ω' => ∀ v Hc' H', Ext W Hc0 H0 Hc' H' → PlOk W ω' Hc' H' → RU W Hc' u v → D.rt v H'
 | .err c pl ω' => ∀ C od Hc' H', Ext W Hc0 H0 Hc' H' → PlOk W ω' Hc' H' → W.mg c = some (.ref C) → XR Hc' pl od → E (.ref C) od H'
 | .stk => False
noncomputable def DS (W : Wd) (m : Md) (E : XK) (t : TS) (g : Sf) : Prop := ∀ H0 Hc0 ρ ω σ Hc H ow, Sr W m ρ ω σ H0 Hc H ow → Ext W Hc0 H0 Hc H → ∀ D : Ends, Cont W m E Hc0 H0 D (g ρ ω) → t D σ H
section
variable {W : Wd} {Hc H : Hp} {v : V}
theorem RB.int {i : Int} (h : RB W Hc H (.int i) v) : v = .int i := by rcases h with h | ⟨_, _, _, _, _, e⟩; (rw [RU] at h; exact h); cases e
theorem RB.bl {i : Bool} (h : RB W Hc H (.bl i) v) : v = .bl i := by rcases h with h | ⟨_, _, _, _, _, e⟩; (rw [RU] at h; exact h); cases e
theorem RB.non (h : RB W Hc H .non v) : v = .non := by rcases h with h | ⟨_, _, _, _, _, e⟩; (rw [RU] at h; exact h); cases e
theorem RB.str {i : Str} (h : RB W Hc H (.str i) v) : v = .str i := by rcases h with h | ⟨_, _, _, _, _, e⟩; (rw [RU] at h; exact h); cases e
theorem RB.ty {i : String} (h : RB W Hc H (.ty i) v) : v = .ty i := by rcases h with h | ⟨_, _, _, _, _, e⟩; (rw [RU] at h; exact h); cases e
theorem RB.tup {us : List U} (h : RB W Hc H (.tup us) v) : ∃ a vs, v = .ref a ∧ Hc a = some (.tup vs) ∧ RUs W Hc us vs := by
 rcases h with h | ⟨_, _, _, _, _, e⟩
 ·rw [RU] at h; exact h
 ·cases e
theorem RB.lst {us : List U} (h : RB W Hc H (.lst us) v) (s : Same Hc H) : ∃ a vs, v = .ref a ∧ H a = some (.lst vs) ∧ RUs W Hc us vs := by
 rcases h with h | ⟨a, o, e2, _, q, vs, e, r⟩
 ·rw [RU] at h; obtain ⟨a, vs, e, q, r⟩ := h; exact ⟨a, vs, e, s _ _ q, r⟩
 ·subst e; exact ⟨a, vs, e2, q, r⟩
theorem RB.dic {ks us : List U} (h : RB W Hc H (.dic ks us) v) (s : Same Hc H) : ∃ a ob kvs, v = .ref a ∧ H a = some (dE a ob kvs) ∧ ks = kvs.map (fun p => .int p.1) ∧ RUs W Hc us (kvs.map (·.2)) := by
 rcases h with h | ⟨a, o, e2, _, q, ob, kvs, e, k, r⟩
 ·rw [RU] at h; obtain ⟨a, ob, kvs, e, q, k, r⟩ := h; exact ⟨a, ob, kvs, e, s _ _ q, k, r⟩
 ·subst e; exact ⟨a, ob, kvs, e2, q, k, r⟩
theorem RB.scr {ns : List Int} (h : RB W Hc H (.scr ns) v) : ∃ a, v = .ref a ∧ SqL W.K Hc a (ns.map V.int) := by
 rcases h with h | ⟨_, _, _, _, _, e⟩
 ·rw [RU] at h; exact h
 ·cases e
theorem RB.nm {x : Str} (h : RB W Hc H (.nm x) v) : ∃ a, v = .ref a ∧ W.mg x = some (.ref a) := by
 rcases h with h | ⟨_, _, _, _, _, e⟩
 ·rw [RU] at h; exact h
 ·cases e
theorem RB.pile (h : RB W Hc H .pile v) : v = .ref W.pa := by
 rcases h with h | ⟨_, _, _, _, _, e⟩
 ·rw [RU] at h; exact h
 ·cases e
theorem RU.int {i : Int} : RU W H (.int i) (.int i) := by rw [RU]
theorem RU.bl {i : Bool} : RU W H (.bl i) (.bl i) := by rw [RU]
theorem RU.non : RU W H .non .non := by rw [RU]
theorem RU.str {i : Str} : RU W H (.str i) (.str i) := by rw [RU]
theorem RU.ty {i : String} : RU W H (.ty i) (.ty i) := by rw [RU]
theorem RU.tup {us : List U} {a : Addr} {vs : List V} (h : H a = some (.tup vs)) (r : RUs W H us vs) : RU W H (.tup us) (.ref a) := by rw [RU]; exact ⟨a, vs, rfl, h, r⟩
theorem RU.lst {us : List U} {a : Addr} {vs : List V} (h : H a = some (.lst vs)) (r : RUs W H us vs) : RU W H (.lst us) (.ref a) := by rw [RU]; exact ⟨a, vs, rfl, h, r⟩
end
theorem Ext.own {W : Wd} {Hc H Hc' H' : Hp} {a : Addr} {o : HO} (e : Ext W Hc H Hc' H') (n1 : Hc' a = none) (n2 : H a = none) (h : H' a = some o) : Ext W Hc H (upd Hc' a o) H' := by
 refine ⟨e.same, fun b u q => ?_, fun b u q => ?_, fun b q k => ?_, e.frz⟩
 ·rw [upd_ne (ne_of_none (e.sc b u q) n1)]; exact e.sc b u q
 ·by_cases z : b = a
  ·subst z; rw [upd_same] at q; cases q; exact h
  ·rw [upd_ne z] at q; exact e.sub b u q
 ·rw [upd_ne (fun z => k (by rw [z]; exact n2))]; exact e.new b q k
theorem PlOk.own {W : Wd} {ω : Om} {Hc H : Hp} {a : Addr} {o : HO} (p : PlOk W ω Hc H) (n : a ∉ W.L) : PlOk W ω (upd Hc a o) H := ⟨p.pl, fun b hb => ⟨by rw [upd_ne (fun z : b = a => n (by rw [← z]; exact hb))]; exact (p.out b hb).1, (p.out b hb).2⟩⟩
theorem Ext.frz' {W : Wd} {Hc H Hc' H' : Hp} {a : Addr} (e : Ext W Hc H Hc' H') (h : H' a = none) : H a = none := by
 cases q : H a with
 | none => rfl
 | some o => exact absurd h (e.frz a (by rw [q]; simp))
theorem Same.own {Hc' : Hp} {a : Addr} {o : HO} (n1 : Hc' a = none) : Same Hc' (upd Hc' a o) := Same.laid n1
section
variable {W : Wd} {m : Md} {E : XK} {ta tb : TE} {fa fb : Ef} {i : Nat} {r : R2} {g : U → U → Option U}
theorem DE.b (h : DE W m E ta fa) : DB W m E ta fa := fun H0 ρ ω σ Hc H ow S Q k => h H0 ρ ω σ Hc H ow S Q (k.imp fun u ψ Hc' H' ψ ψ q v r => q v (.inl r))
theorem DF.e (h : DF W m E ta fa) : DE W m E ta fa := by
 intro H0 ρ ω σ Hc H ow S Q k
 refine h H0 ρ ω σ Hc H ow S Q ?_
 revert k
 cases fa ρ ω with
 | ok u ω' =>
  intro k Hc' H' e p us a vs hu n1 n2 ha rr
  subst hu
  have nl : a ∉ W.L := fun z => (S.pl.out a z).2 n2
  exact k (upd Hc' a (.lst vs)) H' (e.own n1 n2 ha) (p.own nl) (.ref a) (.lst upd_same (rr.mono (Same.own n1)))
 | err c pl ω' => exact fun k => k
 | stk => exact fun k => k
noncomputable def eVar (i : Nat) : Ef := fun ρ ω => match ρ[i]? with
 | some (some u) => .ok u ω
 | _ => .stk
theorem de_var (h1 : i ∉ m.B) (h2 : i ∉ m.M) : DE W m E (tVar i) (eVar i) := by
 intro H0 ρ ω σ Hc H ow S Q h
 unfold eVar at h
 split at h
 ·rename_i u e
  obtain ⟨v, q, r⟩ := S.cl i u h1 h2 e
  exact ⟨v, q, h Hc H (Ext.refl S.sub) S.pl v r⟩
 ·exact h.elim
theorem db_var : DB W m E (tVar i) (eVar i) := by
 intro H0 ρ ω σ Hc H ow S Q h
 unfold eVar at h
 split at h
 ·rename_i u e
  obtain ⟨v, q, r⟩ := S.get e
  exact ⟨v, q, h Hc H (Ext.refl S.sub) S.pl v r⟩
 ·exact h.elim
noncomputable def eC (u : U) : Ef := fun ψ ω => .ok u ω
theorem de_c {u : U} {v : V} (h : ∀ H, RU W H u v) : DE W m E (tC v) (eC u) := fun H0 ρ ω σ Hc H ow S Q k => k Hc H (Ext.refl S.sub) S.pl v (h Hc)
noncomputable def eOp (g : U → U → Option U) (fa fb : Ef) : Ef := fun ρ ω => (fa ρ ω).bnd fun a ω1 => (fb ρ ω1).bnd fun b ω2 => .of (g a b) ω2
noncomputable def OpU (W : Wd) (r : R2) (g : U → U → Option U) : Prop := ∀ Hc H ω u1 u2 x y, Same Hc H → PlOk W ω Hc H → RB W Hc H u1 x → RB W Hc H u2 y → ∀ u, g u1 u2 = some u → ∀ Q : VK, (∀ v Hc' H', Ext W Hc H Hc' H' → PlOk W ω Hc' H' → RU W Hc' u v → Q v H') → r x y H Q
theorem de_op (o : OpU W r g) (ha : DB W m E ta fa) (hb : DB W m E tb fb) : DE W m E (tOp r ta tb) (eOp g fa fb) := by
 intro H0 ρ ω σ Hc H ow S Q h
 refine ha H0 ρ ω σ Hc H ow S _ ((Aft.bnd h).imp fun a ω1 Hc1 H1 e1 p1 h1 x rx => ?_)
 refine hb H0 ρ ω1 σ Hc1 H1 ow (S.ext e1 p1) _ ((Aft.bnd h1).imp fun b ω2 Hc2 H2 e2 p2 h2 y ry => ?_)
 revert h2
 cases hg : g a b with
 | none => exact fun h2 => h2.elim
 | some u => exact fun h2 => o Hc2 H2 ω2 a b x y e2.sub p2 (rx.ext e2) ry u hg Q fun v Hc' H' e p rv => h2 Hc' H' e p v rv
noncomputable def eUn (g : U → Option U) (fa : Ef) : Ef := fun ρ ω => (fa ρ ω).bnd fun a ω1 => .of (g a) ω1
theorem de_un {q : V → Hp → VK → Prop} {g : U → Option U} (o : ∀ Hc H ω u1 x, Same Hc H → PlOk W ω Hc H → RB W Hc H u1 x → ∀ u, g u1 = some u → ∀ Q : VK, (∀ v Hc' H', Ext W Hc H Hc' H' → PlOk W ω Hc' H' → RU W Hc' u v → Q v H') → q x H Q) (ha : DB W m E ta fa) : DE W m E (tUn q ta) (eUn g fa) := by
 intro H0 ρ ω σ Hc H ow S Q h
 refine ha H0 ρ ω σ Hc H ow S _ ((Aft.bnd h).imp fun a ω1 Hc1 H1 e1 p1 h1 x rx => ?_)
 revert h1
 cases hg : g a with
 | none => exact fun h2 => h2.elim
 | some u => exact fun h2 => o Hc1 H1 ω1 a x e1.sub p1 rx u hg Q fun v Hc' H' e p rv => h2 Hc' H' e p v rv
noncomputable def uNeg : U → Option U
 | .int a => some (.int (-a))
 | _ => none
theorem de_neg (ha : DB W m E ta fa) : DE W m E (tUn (rU fun i => .int (-i)) ta) (eUn uNeg fa) := de_un (fun Hc H ω u1 x s p rx u hg Q k => by
 unfold uNeg at hg
 split at hg
 ·cases hg; have := rx.int; subst this; exact ⟨_, rfl, k _ Hc H (Ext.refl s) p .int⟩
 ·cases hg) ha
theorem OpU.I0 {g : U → U → Option U} {q : Int → Int → V} {f : Int → Int → U} (hq : ∀ H a b, RU W H (f a b) (q a b)) (hg : ∀ a b u, g a b = some u → ∃ i j, a = .int i ∧ b = .int j ∧ u = f i j) : OpU W (rI0 q) g := by
 intro Hc H ω u1 u2 x y s p rx ry u e Q k
 obtain ⟨i, j, rfl, rfl, rfl⟩ := hg _ _ _ e
 have := rx.int; subst this; have := ry.int; subst this
 exact ⟨i, j, rfl, rfl, k _ Hc H (Ext.refl s) p (hq _ _ _)⟩
theorem OpU.IC {g : U → U → Option U} {C : Int → Int → Prop} {q : Int → Int → V} {f : Int → Int → U} (hq : ∀ H a b, RU W H (f a b) (q a b)) (hg : ∀ a b u, g a b = some u → ∃ i j, a = .int i ∧ b = .int j ∧ C i j ∧ u = f i j) : OpU W (rI C q) g := by
 intro Hc H ω u1 u2 x y s p rx ry u e Q k
 obtain ⟨i, j, rfl, rfl, c, rfl⟩ := hg _ _ _ e
 have := rx.int; subst this; have := ry.int; subst this
 exact ⟨i, j, rfl, rfl, c, k _ Hc H (Ext.refl s) p (hq _ _ _)⟩
noncomputable def uSub : U → U → Option U
 | .int a, .int b => some (.int (a - b))
 | _, _ => none
theorem ou_sub : OpU W (rI0 fun i j => .int (i - j)) uSub := .I0 (fun ψ ψ ψ => .int) fun a b u h => by
 unfold uSub at h; split at h <;> cases h; exact ⟨_, _, rfl, rfl, rfl⟩
noncomputable def uLt : U → U → Option U
 | .int a, .int b => some (.bl (decide (a < b)))
 | _, _ => none
noncomputable def uLe : U → U → Option U
 | .int a, .int b => some (.bl (decide (a ≤ b)))
 | _, _ => none
noncomputable def uGt : U → U → Option U
 | .int a, .int b => some (.bl (decide (b < a)))
 | _, _ => none
noncomputable def uGe : U → U → Option U
 | .int a, .int b => some (.bl (decide (b ≤ a)))
 | _, _ => none
theorem ou_lt : OpU W (rI0 fun i j => .bl (decide (i < j))) uLt := .I0 (fun ψ ψ ψ => .bl) fun a b u h => by
 unfold uLt at h; split at h <;> cases h; exact ⟨_, _, rfl, rfl, rfl⟩
theorem ou_le : OpU W (rI0 fun i j => .bl (decide (i ≤ j))) uLe := .I0 (fun ψ ψ ψ => .bl) fun a b u h => by
 unfold uLe at h; split at h <;> cases h; exact ⟨_, _, rfl, rfl, rfl⟩
theorem ou_gt : OpU W (rI0 fun i j => .bl (decide (j < i))) uGt := .I0 (fun ψ ψ ψ => .bl) fun a b u h => by
 unfold uGt at h; split at h <;> cases h; exact ⟨_, _, rfl, rfl, rfl⟩
theorem ou_ge : OpU W (rI0 fun i j => .bl (decide (j ≤ i))) uGe := .I0 (fun ψ ψ ψ => .bl) fun a b u h => by
 unfold uGe at h; split at h <;> cases h; exact ⟨_, _, rfl, rfl, rfl⟩
open Classical in
noncomputable def uDiv : U → U → Option U
 | .int a, .int b => if CDivB a b then some (.int (a / b)) else none
 | _, _ => none
theorem ou_div : OpU W (rI CDivB fun i j => .int (i / j)) uDiv := .IC (fun ψ ψ ψ => .int) fun a b u h => by
 unfold uDiv at h; split at h
 ·split at h <;> cases h; exact ⟨_, _, rfl, rfl, by assumption, rfl⟩
 ·cases h
open Classical in
noncomputable def uMod : U → U → Option U
 | .int a, .int b => if 0 < b then some (.int (a % b)) else none
 | _, _ => none
theorem ou_mod : OpU W (rI (fun ψ j => 0 < j) fun i j => .int (i % j)) uMod := .IC (fun ψ ψ ψ => .int) fun a b u h => by
 unfold uMod at h; split at h
 ·split at h <;> cases h; exact ⟨_, _, rfl, rfl, by assumption, rfl⟩
 ·cases h
open Classical in
noncomputable def uPow : U → U → Option U
 | .int a, .int b => if CPow a b then some (.int (a ^ b.toNat)) else none
 | _, _ => none
theorem ou_pow : OpU W (rI CPow fun i j => .int (i ^ j.toNat)) uPow := .IC (fun ψ ψ ψ => .int) fun a b u h => by
 unfold uPow at h; split at h
 ·split at h <;> cases h; exact ⟨_, _, rfl, rfl, by assumption, rfl⟩
 ·cases h
open Classical in
noncomputable def uMul : U → U → Option U
 | .int a, .int b => if CMulB a b then some (.int (a * b)) else none
 | _, _ => none
theorem ou_mul : OpU W (rI CMulB fun i j => .int (i * j)) uMul := .IC (fun ψ ψ ψ => .int) fun a b u h => by
 unfold uMul at h; split at h
 ·split at h <;> cases h; exact ⟨_, _, rfl, rfl, by assumption, rfl⟩
 ·cases h
theorem laid_e {ω : Om} {Hc H : Hp} {p : Addr} {o : HO} (s : Same Hc H) (P : PlOk W ω Hc H) (n : H p = none) : Ext W Hc H (upd Hc p o) (upd H p o) ∧ PlOk W ω (upd Hc p o) (upd H p o) :=
 ⟨(Ext.laid s n).1, P.same (Ext.laid s n).1 (Same.laid n)⟩
theorem laid_f {ω : Om} {Hc H : Hp} {p : Addr} {o : HO} (s : Same Hc H) (P : PlOk W ω Hc H) (n : H p = none) : Ext W Hc H Hc (upd H p o) ∧ PlOk W ω Hc (upd H p o) :=
 ⟨(Ext.laid s n).2, P.same (Ext.laid s n).2 (Same.laid n)⟩
noncomputable def rCatE : R2 := fun x y H Q => ∃ a b ys, x = .ref a ∧ y = .ref b ∧ H a = some (.tup []) ∧ H b = some (.tup ys) ∧ Q (.ref b) H
theorem op_catE {X : Cx} : OpR X (binaryOp .Add) rCatE := by
 intro pins s σ H x y v u Q I rx ry h
 obtain ⟨a, b, ys, rfl, rfl, ha, hb, q⟩ := h
 cases rx
 cases ry
 obtain ⟨its, r1, p1, _⟩ := I.tuple (SqT.of (K := X.K) ha)
 obtain ⟨jts, r2, p2, _⟩ := I.tuple (SqT.of (K := X.K) hb)
 have e1 : its = [] := r1.nil_iff.mpr rfl
 obtain ⟨⟨c1, d1, t1, l1⟩, g1, hc1, n1, hd1⟩ := id p1
 obtain ⟨⟨c2, d2, t2, l2⟩, g2, hc2, n2, hd2⟩ := id p2
 simp only at hc1 hd1 hc2 hd2
 subst hc1 hd1 hc2 hd2
 exact concat_meets ⟨_, g1, rfl⟩ ⟨_, g2, rfl⟩ noFill_tuple_add seq_tuple_add PySem.F.slot_tuple_add PySem.F.entry_tuple_add (PySem.F.args_tuple_add_2 _ _) (addT0 a b its.toArray jts.toArray n1 n2 d1 d2 l1 l2 (by simp [e1])) ⟨g1, g2, ⟨.ref b, H, I, rfl, q⟩⟩
noncomputable def rAddU (K : L2.Fg) : R2 := fun x y H Q => rI0 (fun i j => .int (i + j)) x y H Q ∨ rCat x y H Q ∨ rCatT K x y H Q ∨ rCatE x y H Q
theorem op_addU {X : Cx} {K : L2.Fg} (h : X.K = K) : OpR X (binaryOp .Add) (rAddU K) := h ▸ op_add.or (op_cat.or (op_catT.or op_catE))
open Classical in
noncomputable def uAdd : U → U → Option U
 | .int a, .int b => some (.int (a + b))
 | .lst a, .lst b => if a.length + b.length ≤ sizeLine then some (.lst (a ++ b)) else none
 | .tup a, .tup b => if a.length + b.length ≤ sizeLine then some (.tup (a ++ b)) else none
 | _, _ => none
theorem cat_q {ω : Om} {Hc H : Hp} {us ws : List U} {x y : V} {Q : VK} (s : Same Hc H) (p : PlOk W ω Hc H) (rx : RB W Hc H (.lst us) x) (ry : RB W Hc H (.lst ws) y) (hl : us.length + ws.length ≤ sizeLine)
  (k : ∀ a vs, H a = none → RUs W Hc (us ++ ws) vs → Q (.ref a) (upd H a (.lst vs))) : rCat x y H Q := by
 obtain ⟨a, vs, rfl, h1, r1⟩ := rx.lst s
 obtain ⟨b, zs, rfl, h2, r2⟩ := ry.lst s
 exact ⟨a, b, vs, zs, rfl, rfl, h1, h2, by rw [← r1.len, ← r2.len]; exact hl, fun q n => k q _ n (r1.app r2)⟩
theorem ou_add : OpU W (rAddU W.K) uAdd := by
 intro Hc H ω u1 u2 x y s p rx ry u e Q k
 unfold uAdd at e; split at e
 ·cases e
  have := rx.int; subst this; have := ry.int; subst this
  exact .inl ⟨_, _, rfl, rfl, k _ Hc H (Ext.refl s) p .int⟩
 ·split at e <;> cases e
  exact .inr (.inl (cat_q s p rx ry (by assumption) fun a vs n rr => k _ _ _ (laid_e s p n).1 (laid_e s p n).2 (.lst upd_same (rr.mono (Same.laid (s.free n))))))
 ·split at e <;> cases e
  obtain ⟨a, vs, rfl, h1, r1⟩ := rx.tup
  obtain ⟨b, zs, rfl, h2, r2⟩ := ry.tup
  by_cases z : vs = []
  ·subst z
   have l := r1.len
   have l0 : (_ : List U) = [] := List.length_eq_zero_iff.mp l
   exact .inr (.inr (.inr ⟨a, b, zs, rfl, rfl, s _ _ h1, s _ _ h2, k _ Hc H (Ext.refl s) p (.tup h2 (by rw [l0]; exact r2))⟩))
  ·refine .inr (.inr (.inl ⟨a, b, vs, zs, rfl, rfl, .of (s _ _ h1), .of (s _ _ h2), z, by rw [← r1.len, ← r2.len]; assumption, fun z2 => ?_, fun ψ q n => ?_⟩))
   ·subst z2
    have l0 : (_ : List U) = [] := List.length_eq_zero_iff.mp r2.len
    exact k _ Hc H (Ext.refl s) p (.tup h1 (by rw [l0, List.append_nil]; exact r1))
   ·exact k _ _ _ (laid_e s p n).1 (laid_e s p n).2 (.tup upd_same ((r1.app r2).mono (Same.laid (s.free n))))
 ·cases e
end
section
variable {W : Wd} {m : Md} {E : XK} {ta : TE} {fa : Ef} {i : Nat} {r : R2} {g : U → U → Option U}
theorem RUs.atI {H : Hp} {us : List U} {vs : List V} {k : Int} {u : U} (r : RUs W H us vs) (h : L2.atI us k = some u) : ∃ v, L2.atI vs k = some v ∧ RU W H u v := by
 unfold L2.atI at h ⊢
 rw [← r.len]
 cases e : ixN us.length k with
 | none => rw [e] at h; cases h
 | some j => rw [e] at h; exact r.at (i := 0) h
noncomputable def uIx : U → U → Option U
 | .lst us, .int k => atI us k
 | .tup us, .int k => atI us k
 | _, _ => none
theorem ou_ix : OpU W (rIxA W.K) uIx := by
 intro Hc H ω u1 u2 x y s p rx ry u e Q k
 unfold uIx at e; split at e
 ·obtain ⟨a, vs, rfl, h1, r1⟩ := rx.lst s
  have := ry.int; subst this
  obtain ⟨v, hv, rv⟩ := r1.atI e
  exact .inl ⟨a, vs, _, v, rfl, rfl, .of h1, hv, k v Hc H (Ext.refl s) p rv⟩
 ·obtain ⟨a, vs, rfl, h1, r1⟩ := rx.tup
  have := ry.int; subst this
  obtain ⟨v, hv, rv⟩ := r1.atI e
  exact .inr ⟨a, vs, _, v, rfl, rfl, .of (s _ _ h1), hv, k v Hc H (Ext.refl s) p rv⟩
 ·cases e
noncomputable abbrev Pf := En → Om → Res (Option Int)
noncomputable def DP (W : Wd) (m : Md) (E : XK) (t : TO) (f : Pf) : Prop := ∀ H0 ρ ω σ Hc H ow, Sr W m ρ ω σ H0 Hc H ow → ∀ Q : Option Int → Hp → Prop, Aft W E Hc H (f ρ ω) (fun o ψ ψ H' => Q o H') → t σ H Q
noncomputable def pNo : Pf := fun ψ ω => .ok none ω
theorem dp_no : DP W m E tNoPart pNo := fun H0 ρ ω σ Hc H ow S Q k => k Hc H (Ext.refl S.sub) S.pl
noncomputable def asI : U → Option (Option Int)
 | .int i => some (some i)
 | _ => none
noncomputable def pSome (fa : Ef) : Pf := fun ρ ω => (fa ρ ω).bnd fun u ω1 => .of (asI u) ω1
theorem dp_some (ha : DB W m E ta fa) : DP W m E (tPart ta) (pSome fa) := by
 intro H0 ρ ω σ Hc H ow S Q h
 refine ha H0 ρ ω σ Hc H ow S _ ((Aft.bnd h).imp fun a ω1 Hc1 H1 e1 p1 h1 x rx => ?_)
 revert h1
 cases a with
 | int i => intro h1; have := rx.int; subst this; exact ⟨i, rfl, h1 Hc1 H1 (Ext.refl e1.sub) p1⟩
 | _ => exact fun h1 => h1.elim
noncomputable def cutG {α : Type} (xs : List α) (lo hi : Option Int) : List α := (xs.drop (HT.sIx xs.length 0 lo)).take (HT.sIx xs.length xs.length hi - HT.sIx xs.length 0 lo)
noncomputable def rSlU (K : L2.Fg) : V → Option Int → Option Int → Hp → VK → Prop := fun x lo hi H Q => rSlL K x lo hi H Q ∨ rSlT K x lo hi H Q ∨ rSlW K x lo hi H Q
theorem sl_u {X : Cx} {K : L2.Fg} (h : X.K = K) : SlR X (rSlU K) := h ▸ sl_list.or (sl_tup.or sl_wholeT)
noncomputable def uSl : U → Option Int → Option Int → Option U
 | .lst us, lo, hi => some (.lst (cutG us lo hi))
 | .tup us, lo, hi => some (.tup (cutG us lo hi))
 | _, _, _ => none
noncomputable def uSlL : U → Option Int → Option Int → Option U
 | .lst us, lo, hi => some (.lst (cutG us lo hi))
 | _, _, _ => none
noncomputable def eSl (g : U → Option Int → Option Int → Option U) (fa : Ef) (fl fh : Pf) : Ef := fun ρ ω => (fa ρ ω).bnd fun a ω1 => (fl ρ ω1).bnd fun l ω2 => (fh ρ ω2).bnd fun h ω3 => .of (g a l h) ω3
theorem cut_r {H : Hp} {us : List U} {vs : List V} {lo hi : Option Int} (r : RUs W H us vs) : RUs W H (cutG us lo hi) (cutV vs lo hi) := by
 unfold cutG cutV
 rw [← r.len]
 exact (r.drop _).take _
theorem de_sl {tl th : TO} {fl fh : Pf} (ha : DB W m E ta fa) (hl : DP W m E tl fl) (hh : DP W m E th fh) : DE W m E (tSl (rSlU W.K) ta tl th) (eSl uSl fa fl fh) := by
 intro H0 ρ ω σ Hc H ow S Q h
 refine ha H0 ρ ω σ Hc H ow S _ ((Aft.bnd h).imp fun a ω1 Hc1 H1 e1 p1 h1 x rx => ?_)
 have S1 := S.ext e1 p1
 refine hl H0 ρ ω1 σ Hc1 H1 ow S1 _ ((Aft.bnd h1).imp fun l ω2 Hc2 H2 e2 p2 h2 => ?_)
 refine hh H0 ρ ω2 σ Hc2 H2 ow (S1.ext e2 p2) _ ((Aft.bnd h2).imp fun hi ω3 Hc3 H3 e3 p3 h3 => ?_)
 have rx3 := (rx.ext e2).ext e3
 have s := e3.sub
 revert h3
 cases a with
 | lst us =>
  intro h3
  obtain ⟨a, vs, rfl, q1, r1⟩ := rx3.lst s
  exact .inl ⟨a, vs, rfl, .of q1, fun p n => h3 _ _ (laid_e s p3 n).1 (laid_e s p3 n).2 _ (.lst upd_same ((cut_r r1).mono (Same.laid (s.free n))))⟩
 | tup us =>
  intro h3
  obtain ⟨a, vs, rfl, q1, r1⟩ := rx3.tup
  by_cases z : HT.sIx vs.length 0 l = 0 ∧ HT.sIx vs.length vs.length hi = vs.length
  ·refine .inr (.inr ⟨a, vs, rfl, .of (s _ _ q1), z, h3 Hc3 H3 (Ext.refl s) p3 _ (.tup q1 ?_)⟩)
   have e : cutV vs l hi = vs := by unfold cutV; rw [z.1, z.2]; simp
   have r2 := cut_r (lo := l) (hi := hi) r1
   rw [e] at r2
   exact r2
  ·exact .inr (.inl ⟨a, vs, rfl, .of (s _ _ q1), z, fun p n => h3 _ _ (laid_e s p3 n).1 (laid_e s p3 n).2 _ (.tup upd_same ((cut_r r1).mono (Same.laid (s.free n))))⟩)
 | _ => exact fun h3 => h3.elim
mutual
noncomputable def U.toD : U → Option D
 | .non => some .non
 | .bl b => some (.bl b)
 | .int i => some (.int i)
 | .str x => some (.str x)
 | .tup xs => (U.toDs xs).map D.tup
 | _ => none
noncomputable def U.toDs : List U → Option (List D)
 | [] => some []
 | u :: us => (U.toD u).bind fun d => (U.toDs us).map fun ds => d :: ds
end
mutual
theorem toD_r {H : Hp} : ∀ {u : U} {v : V} {d : D}, u.toD = some d → RU W H u v → DV W.K H d v
 | .non, _, _, e, h => by rw [U.toD] at e; cases e; rw [RU] at h; rw [DV]; exact h
 | .bl _, _, _, e, h => by rw [U.toD] at e; cases e; rw [RU] at h; rw [DV]; exact h
 | .int _, _, _, e, h => by rw [U.toD] at e; cases e; rw [RU] at h; rw [DV]; exact h
 | .str _, _, _, e, h => by rw [U.toD] at e; cases e; rw [RU] at h; rw [DV]; exact h
 | .tup xs, _, d, e, h => by
  rw [U.toD] at e
  cases q : U.toDs xs with
  | none => rw [q] at e; cases e
  | some ds =>
   rw [q] at e; cases e
   rw [RU] at h
   obtain ⟨a, vs, e1, h1, r1⟩ := h
   rw [DV]
   exact ⟨a, vs, e1, .of h1, toDs_r q r1⟩
 | .ty _, _, _, e, h => by rw [U.toD] at e; cases e; all_goals (intros; contradiction)
 | .nm _, _, _, e, h => by rw [U.toD] at e; cases e; all_goals (intros; contradiction)
 | .exc _ _, _, _, e, h => by rw [U.toD] at e; cases e; all_goals (intros; contradiction)
 | .pile, _, _, e, h => by rw [U.toD] at e; cases e; all_goals (intros; contradiction)
 | .lst _, _, _, e, h => by rw [U.toD] at e; cases e; all_goals (intros; contradiction)
 | .scr _, _, _, e, h => by rw [U.toD] at e; cases e; all_goals (intros; contradiction)
 | .dic _ _, _, _, e, h => by rw [U.toD] at e; cases e; all_goals (intros; contradiction)
theorem toDs_r {H : Hp} : ∀ {us : List U} {vs : List V} {ds : List D}, U.toDs us = some ds → RUs W H us vs → DVs W.K H ds vs
 | [], _, _, e, h => by rw [U.toDs] at e; cases e; rw [RUs] at h; rw [DVs]; exact h
 | u :: us, _, ds, e, h => by
  rw [U.toDs] at e
  cases q : U.toD u with
  | none => rw [q] at e; cases e
  | some d =>
   cases q2 : U.toDs us with
   | none => rw [q, q2] at e; cases e
   | some ds2 =>
    rw [q, q2] at e; cases e
    rw [RUs] at h
    obtain ⟨v, r, e1, h1, r1⟩ := h
    rw [DVs]
    exact ⟨v, r, e1, toD_r q h1, toDs_r q2 r1⟩
end
noncomputable def uEqs (a b : List U) : Option Bool := (U.toDs a).bind fun d => (U.toDs b).bind fun e => if D.depths d ≤ 40 then some (D.eqs d e) else none
noncomputable def uEqI (a : Int) : U → Option Bool
 | .int b => some (decide (a = b))
 | .non => some false
 | .str _ => some false
 | _ => none
noncomputable def uEqK (a : Bool) : U → Option Bool
 | .bl b => some (decide (a = b))
 | .non => some false
 | .str _ => some false
 | _ => none
noncomputable def uEqS (a : Str) : U → Option Bool
 | .str b => some (decide (a = b))
 | .non => some false
 | .int _ => some false
 | .bl _ => some false
 | _ => none
noncomputable def uEqN : U → Option Bool
 | .non => some true
 | .int _ => some false
 | .bl _ => some false
 | .str _ => some false
 | _ => none
noncomputable def uEqT (a : List U) : U → Option Bool
 | .tup b => uEqs a b
 | _ => none
noncomputable def uEqL (a : List U) : U → Option Bool
 | .lst b => uEqs a b
 | _ => none
noncomputable def uEqB : U → U → Option Bool
 | .tup a => uEqT a
 | .lst a => uEqL a
 | .int a => uEqI a
 | .bl a => uEqK a
 | .str a => uEqS a
 | .non => uEqN
 | _ => fun ψ => none
noncomputable def uEq (a b : U) : Option U := (uEqB a b).map U.bl
noncomputable def uNe (a b : U) : Option U := (uEqB a b).map fun k => U.bl (!k)
theorem uEqs_q {Hc H : Hp} {a b : List U} {k : Bool} {vs ws : List V} (s : Same Hc H) (h : uEqs a b = some k) (r1 : RUs W Hc a vs) (r2 : RUs W Hc b ws) : ∃ d e, DVs W.K H d vs ∧ DVs W.K H e ws ∧ D.depths d ≤ 40 ∧ k = D.eqs d e := by
 unfold uEqs at h
 cases q : U.toDs a with
 | none => rw [q] at h; cases h
 | some d =>
  cases q2 : U.toDs b with
  | none => rw [q, q2] at h; cases h
  | some e =>
   rw [q, q2] at h
   simp only [Option.bind_some] at h
   split at h
   ·cases h; exact ⟨d, e, toDs_r q (r1.mono s), toDs_r q2 (r2.mono s), by assumption, rfl⟩
   ·cases h
theorem noS {α : Type} {a : α} {G : Prop} (h : (none : Option α) = some a) : G := nomatch h
theorem eqB_q {ω : Om} {Hc H : Hp} {u1 u2 : U} {k : Bool} {x y : V} {Q : VK} (s : Same Hc H) (rx : RB W Hc H u1 x) (ry : RB W Hc H u2 y) (h : uEqB u1 u2 = some k) :
  (Q (.bl k) H → rEqA W.K x y H Q) ∧ (Q (.bl (!k)) H → rNeA W.K x y H Q) := by
 have no : ∀ {v : V}, y = v → scal x v = true → k = decide (x = v) → (Q (.bl k) H → rEqA W.K x y H Q) ∧ (Q (.bl (!k)) H → rNeA W.K x y H Q) := fun e z d => by
  subst e; rw [d]; exact ⟨fun q => .inl ⟨z, q⟩, fun q => .inl ⟨z, q⟩⟩
 cases u1 with
 | tup a1 =>
  cases u2 with
  | tup b1 =>
   obtain ⟨a, vs, rfl, h1, r1⟩ := rx.tup
   obtain ⟨b, ws, rfl, h2, r2⟩ := ry.tup
   obtain ⟨d, e, q1, q2, q3, rfl⟩ := uEqs_q s h r1 r2
   have d1 : DV W.K H (.tup d) (.ref a) := by rw [DV]; exact ⟨a, vs, rfl, .of (s _ _ h1), q1⟩
   have d2 : DV W.K H (.tup e) (.ref b) := by rw [DV]; exact ⟨b, ws, rfl, .of (s _ _ h2), q2⟩
   exact ⟨fun q => .inr (.inl ⟨d, e, d1, d2, q3, q⟩), fun q => .inr (.inl ⟨d, e, d1, d2, q3, q⟩)⟩
  | _ => exact noS h
 | lst a1 =>
  cases u2 with
  | lst b1 =>
   obtain ⟨a, vs, rfl, h1, r1⟩ := rx.lst s
   obtain ⟨b, ws, rfl, h2, r2⟩ := ry.lst s
   obtain ⟨d, e, q1, q2, q3, rfl⟩ := uEqs_q s h r1 r2
   exact ⟨fun q => .inr (.inr ⟨a, b, vs, ws, d, e, rfl, rfl, .of h1, .of h2, q1, q2, q3, q⟩), fun q => .inr (.inr ⟨a, b, vs, ws, d, e, rfl, rfl, .of h1, .of h2, q1, q2, q3, q⟩)⟩
  | _ => exact noS h
 | int a =>
  have := rx.int; subst this
  cases u2 with
  | int b => cases h; exact no ry.int rfl (by simp)
  | non => cases h; exact no ry.non rfl rfl
  | str b => cases h; exact no ry.str rfl rfl
  | _ => exact noS h
 | bl a =>
  have := rx.bl; subst this
  cases u2 with
  | bl b => cases h; exact no ry.bl rfl (by simp)
  | non => cases h; exact no ry.non rfl rfl
  | str b => cases h; exact no ry.str rfl rfl
  | _ => exact noS h
 | str a =>
  have := rx.str; subst this
  cases u2 with
  | str b => cases h; exact no ry.str rfl (by simp)
  | non => cases h; exact no ry.non rfl rfl
  | int b => cases h; exact no ry.int rfl rfl
  | bl b => cases h; exact no ry.bl rfl rfl
  | _ => exact noS h
 | non =>
  have := rx.non; subst this
  cases u2 with
  | non => cases h; exact no ry.non rfl rfl
  | int b => cases h; exact no ry.int rfl rfl
  | bl b => cases h; exact no ry.bl rfl rfl
  | str b => cases h; exact no ry.str rfl rfl
  | _ => exact noS h
 | _ => exact noS h
theorem ou_eq : OpU W (rEqA W.K) uEq := by
 intro Hc H ω u1 u2 x y s p rx ry u e Q k
 unfold uEq at e
 cases q : uEqB u1 u2 with
 | none => rw [q] at e; cases e
 | some b => rw [q] at e; cases e; exact (eqB_q (ω := ω) s rx ry q).1 (k _ Hc H (Ext.refl s) p .bl)
theorem ou_ne : OpU W (rNeA W.K) uNe := by
 intro Hc H ω u1 u2 x y s p rx ry u e Q k
 unfold uNe at e
 cases q : uEqB u1 u2 with
 | none => rw [q] at e; cases e
 | some b => rw [q] at e; cases e; exact (eqB_q (ω := ω) s rx ry q).2 (k _ Hc H (Ext.refl s) p .bl)
theorem op_eqK {X : Cx} {K : L2.Fg} (h : X.K = K) (hu : X.A.units + 64 < cLine) : OpR X (compareOp .Eq) (rEqA K) := h ▸ op_eqA hu
theorem op_neK {X : Cx} {K : L2.Fg} (h : X.K = K) (hu : X.A.units + 64 < cLine) : OpR X (compareOp .NotEq) (rNeA K) := h ▸ op_neA hu
end
section
variable {W : Wd} {m : Md} {E : XK} {ta tb tc : TE} {fa fb fc : Ef} {tt tt' : TT} {ft ft' : Tf} {i : Nat} {r r' : R2} {g g' : U → U → Option U} {bs : List Bool} {tr : TA} {fr : Af}
noncomputable def asB : U → Option Bool
 | .bl b => some b
 | _ => none
noncomputable def tfB (fa : Ef) : Tf := fun ρ ω => (fa ρ ω).bnd fun u ω1 => .of (asB u) ω1
theorem dt_b (ha : DB W m E ta fa) : DT W m E (tB ta) (tfB fa) := by
 intro H0 ρ ω σ Hc H ow S Q h
 refine ha H0 ρ ω σ Hc H ow S _ ((Aft.bnd h).imp fun a ω1 Hc1 H1 e1 p1 h1 x rx => ?_)
 revert h1
 cases a with
 | bl b => intro h1; have := rx.bl; subst this; exact ⟨b, rfl, h1 Hc1 H1 (Ext.refl e1.sub) p1⟩
 | _ => exact fun h1 => h1.elim
theorem dt_t (ha : DB W m E ta fa) : DT W m E (tTest ta) (tfB fa) := dt_b ha
noncomputable def tfAnd (ft ft' : Tf) : Tf := fun ρ ω => (ft ρ ω).bnd fun b ω1 => if b = true then ft' ρ ω1 else .ok false ω1
noncomputable def tfOr (ft ft' : Tf) : Tf := fun ρ ω => (ft ρ ω).bnd fun b ω1 => if b = true then .ok true ω1 else ft' ρ ω1
noncomputable def tfNot (ft : Tf) : Tf := fun ρ ω => (ft ρ ω).bnd fun b ω1 => .ok (!b) ω1
noncomputable def tfTrue : Tf := fun ψ ω => .ok true ω
theorem dt_true : DT W m E tTrue tfTrue := fun H0 ρ ω σ Hc H ow S Q k => k Hc H (Ext.refl S.sub) S.pl
theorem dt_and (h1 : DT W m E tt ft) (h2 : DT W m E tt' ft') : DT W m E (tAnd tt tt') (tfAnd ft ft') := by
 intro H0 ρ ω σ Hc H ow S Q h
 refine h1 H0 ρ ω σ Hc H ow S _ ((Aft.bnd h).imp fun b ω1 Hc1 H1 e1 p1 k => ?_)
 cases b with
 | true => exact h2 H0 ρ ω1 σ Hc1 H1 ow (S.ext e1 p1) Q k
 | false => exact k Hc1 H1 (Ext.refl e1.sub) p1
theorem dt_or (h1 : DT W m E tt ft) (h2 : DT W m E tt' ft') : DT W m E (tOr tt tt') (tfOr ft ft') := by
 intro H0 ρ ω σ Hc H ow S Q h
 refine h1 H0 ρ ω σ Hc H ow S _ ((Aft.bnd h).imp fun b ω1 Hc1 H1 e1 p1 k => ?_)
 cases b with
 | false => exact h2 H0 ρ ω1 σ Hc1 H1 ow (S.ext e1 p1) Q k
 | true => exact k Hc1 H1 (Ext.refl e1.sub) p1
theorem dt_not (h1 : DT W m E tt ft) : DT W m E (tNot tt) (tfNot ft) := by
 intro H0 ρ ω σ Hc H ow S Q h
 exact h1 H0 ρ ω σ Hc H ow S _ ((Aft.bnd h).imp fun b ω1 Hc1 H1 e1 p1 k => k Hc1 H1 (Ext.refl e1.sub) p1)
noncomputable def eAnd (fa fb : Ef) : Ef := fun ρ ω => (fa ρ ω).bnd fun u ω1 => match u with
 | .bl b => if b = true then fb ρ ω1 else .ok (.bl false) ω1
 | _ => .stk
theorem de_and (h1 : DB W m E ta fa) (h2 : DE W m E tb fb) : DE W m E (tAndV ta tb) (eAnd fa fb) := by
 intro H0 ρ ω σ Hc H ow S Q h
 refine h1 H0 ρ ω σ Hc H ow S _ ((Aft.bnd h).imp fun u ω1 Hc1 H1 e1 p1 k x rx => ?_)
 revert k
 cases u with
 | bl b =>
  intro k
  have := rx.bl; subst this
  refine ⟨b, rfl, ?_⟩
  cases b with
  | true => exact h2 H0 ρ ω1 σ Hc1 H1 ow (S.ext e1 p1) Q k
  | false => exact k Hc1 H1 (Ext.refl e1.sub) p1 _ .bl
 | _ => exact fun k => k.elim
noncomputable def eIf (ft : Tf) (fa fb : Ef) : Ef := fun ρ ω => (ft ρ ω).bnd fun b ω1 => if b = true then fa ρ ω1 else fb ρ ω1
theorem de_if (h1 : DT W m E tt ft) (h2 : DE W m E ta fa) (h3 : DE W m E tb fb) : DE W m E (tIf tt ta tb) (eIf ft fa fb) := by
 intro H0 ρ ω σ Hc H ow S Q h
 refine h1 H0 ρ ω σ Hc H ow S _ ((Aft.bnd h).imp fun b ω1 Hc1 H1 e1 p1 k => ?_)
 cases b with
 | true => exact h2 H0 ρ ω1 σ Hc1 H1 ow (S.ext e1 p1) Q k
 | false => exact h3 H0 ρ ω1 σ Hc1 H1 ow (S.ext e1 p1) Q k
noncomputable def eChain (g g' : U → U → Option U) (fa fb fc : Ef) : Ef := fun ρ ω => (fa ρ ω).bnd fun a ω1 => (fb ρ ω1).bnd fun b ω2 => match g a b with
 | some (.bl k) => if k = true then (fc ρ ω2).bnd fun c ω3 => .of (g' b c) ω3 else .ok (.bl false) ω2
 | _ => .stk
theorem de_chain (o : OpU W r g) (o' : OpU W r' g') (ha : DB W m E ta fa) (hb : DB W m E tb fb) (hc : DB W m E tc fc) : DE W m E (tChain r r' ta tb tc) (eChain g g' fa fb fc) := by
 intro H0 ρ ω σ Hc H ow S Q h
 refine ha H0 ρ ω σ Hc H ow S _ ((Aft.bnd h).imp fun a ω1 Hc1 H1 e1 p1 h1 x rx => ?_)
 have S1 := S.ext e1 p1
 refine hb H0 ρ ω1 σ Hc1 H1 ow S1 _ ((Aft.bnd h1).imp fun b ω2 Hc2 H2 e2 p2 h2 y ry => ?_)
 have S2 := S1.ext e2 p2
 revert h2
 cases hg : g a b with
 | none => exact fun h2 => h2.elim
 | some u =>
  cases u with
  | bl k =>
   intro h2
   refine o Hc2 H2 ω2 a b x y e2.sub p2 (rx.ext e2) ry _ hg _ fun v Hc3 H3 e3 p3 rv => ?_
   rw [RU] at rv
   refine ⟨k, rv, ?_⟩
   cases k with
   | false => exact h2 Hc3 H3 e3 p3 _ .bl
   | true =>
    rw [if_pos rfl]
    refine hc H0 ρ ω2 σ Hc3 H3 ow (S2.ext e3 p3) _ ((Aft.bnd (Aft.ext e3 h2)).imp fun c ω3 Hc4 H4 e4 p4 h4 z rz => ?_)
    revert h4
    cases hg' : g' b c with
    | none => exact fun h4 => h4.elim
    | some u => exact fun h4 => o' Hc4 H4 ω3 b c y z e4.sub p4 ((ry.ext e3).ext e4) rz u hg' Q fun v Hc' H' e p rv => h4 Hc' H' e p v rv
  | _ => exact fun h2 => h2.elim
theorem RBs.ext {Hc H Hc' H' : Hp} (e : Ext W Hc H Hc' H') : ∀ {bs : List Bool} {us : List U} {vs : List V}, RBs W Hc H bs us vs → RBs W Hc' H' bs us vs
 | [], [], [], _ => trivial
 | b :: bs, u :: us, v :: vs, h => by
  unfold RBs at h ⊢
  refine ⟨?_, RBs.ext e h.2⟩
  have h1 := h.1
  cases b with
  | true => exact RB.ext h1 e
  | false => exact RU.mono e.sc h1
 | [], _ :: _, _, h => by unfold RBs at h; exact h.elim
 | [], [], _ :: _, h => by unfold RBs at h; exact h.elim
 | _ :: _, [], _, h => by unfold RBs at h; exact h.elim
 | _ :: _, _ :: _, [], h => by unfold RBs at h; exact h.elim
noncomputable def aNil : Af := fun ψ ω => .ok [] ω
noncomputable def aCons (fa : Ef) (fr : Af) : Af := fun ρ ω => (fa ρ ω).bnd fun u ω1 => (fr ρ ω1).bnd fun us ω2 => .ok (u :: us) ω2
theorem da_nil : DA W m E [] tNil aNil := fun H0 ρ ω σ Hc H ow S Q k => k Hc H (Ext.refl S.sub) S.pl [] trivial
theorem da_b (ha : DB W m E ta fa) (hr : DA W m E bs tr fr) : DA W m E (true :: bs) (tCons ta tr) (aCons fa fr) := by
 intro H0 ρ ω σ Hc H ow S Q h
 refine ha H0 ρ ω σ Hc H ow S _ ((Aft.bnd h).imp fun u ω1 Hc1 H1 e1 p1 h1 x rx => ?_)
 refine hr H0 ρ ω1 σ Hc1 H1 ow (S.ext e1 p1) _ ((Aft.bnd h1).imp fun us ω2 Hc2 H2 e2 p2 h2 xs rs => ?_)
 exact h2 Hc2 H2 (Ext.refl e2.sub) p2 _ ⟨rx.ext e2, rs⟩
theorem da_e (ha : DE W m E ta fa) (hr : DA W m E bs tr fr) : DA W m E (false :: bs) (tCons ta tr) (aCons fa fr) := by
 intro H0 ρ ω σ Hc H ow S Q h
 refine ha H0 ρ ω σ Hc H ow S _ ((Aft.bnd h).imp fun u ω1 Hc1 H1 e1 p1 h1 x rx => ?_)
 refine hr H0 ρ ω1 σ Hc1 H1 ow (S.ext e1 p1) _ ((Aft.bnd h1).imp fun us ω2 Hc2 H2 e2 p2 h2 xs rs => ?_)
 exact h2 Hc2 H2 (Ext.refl e2.sub) p2 _ ⟨rx.mono e2.sc, rs⟩
noncomputable def offs : List Bool → Bool
 | [] => true
 | b :: bs => !b && offs bs
theorem RBs.off {Hc H : Hp} : ∀ {bs : List Bool} {us : List U} {vs : List V}, offs bs = true → RBs W Hc H bs us vs → RUs W Hc us vs
 | [], [], [], _, _ => .nil
 | b :: bs, u :: us, v :: vs, o, h => by
  unfold RBs at h
  unfold offs at o
  simp only [Bool.and_eq_true, Bool.not_eq_true'] at o
  have h1 := h.1
  rw [o.1] at h1
  exact .cons h1 (RBs.off o.2 h.2)
 | [], _ :: _, _, _, h => by unfold RBs at h; exact h.elim
 | [], [], _ :: _, _, h => by unfold RBs at h; exact h.elim
 | _ :: _, [], _, _, h => by unfold RBs at h; exact h.elim
 | _ :: _, _ :: _, [], _, h => by unfold RBs at h; exact h.elim
open Classical in
noncomputable def mkT (us : List U) : Option U := if us.length ≤ sizeLine then some (.tup us) else none
open Classical in
noncomputable def mkL (us : List U) : Option U := if us.length ≤ sizeLine then some (.lst us) else none
open Classical in
noncomputable def eTup (fr : Af) : Ef := fun ρ ω => (fr ρ ω).bnd fun us ω1 => .of (mkT us) ω1
open Classical in
noncomputable def eLst (fr : Af) : Ef := fun ρ ω => (fr ρ ω).bnd fun us ω1 => .of (mkL us) ω1
theorem de_tup (ho : offs bs = true) (hr : DA W m E bs tr fr) : DE W m E (tTup tr) (eTup fr) := by
 intro H0 ρ ω σ Hc H ow S Q h
 refine hr H0 ρ ω σ Hc H ow S _ ((Aft.bnd h).imp fun us ω1 Hc1 H1 e1 p1 h1 xs rs => ?_)
 have rr := rs.off ho
 revert h1
 unfold mkT
 split
 ·rename_i hl
  intro h1
  exact ⟨by rw [← rr.len]; exact hl, fun p n => h1 _ _ (laid_e e1.sub p1 n).1 (laid_e e1.sub p1 n).2 _ (.tup upd_same (rr.mono (Same.laid (e1.sub.free n))))⟩
 ·exact fun h1 => h1.elim
theorem df_lst (ho : offs bs = true) (hr : DA W m E bs tr fr) : DF W m E (tLst tr) (eLst fr) := by
 intro H0 ρ ω σ Hc H ow S Q h
 refine hr H0 ρ ω σ Hc H ow S _ ((Aft.bnd h).imp fun us ω1 Hc1 H1 e1 p1 h1 xs rs => ?_)
 have rr := rs.off ho
 revert h1
 unfold mkL
 split
 ·rename_i hl
  intro h1
  exact ⟨by rw [← rr.len]; exact hl, fun p n => h1 _ _ (laid_f e1.sub p1 n).1 (laid_f e1.sub p1 n).2 _ _ _ rfl (e1.sub.free n) (e1.frz' n) upd_same rr⟩
 ·exact fun h1 => h1.elim
noncomputable def CallU (W : Wd) (bs : List Bool) (r : List V → Hp → VK → Prop) (g : List U → Option U) : Prop := ∀ Hc H ω us vs, Same Hc H → PlOk W ω Hc H → RBs W Hc H bs us vs → ∀ u, g us = some u → ∀ Q : VK, (∀ v Hc' H', Ext W Hc H Hc' H' → PlOk W ω Hc' H' → RU W Hc' u v → Q v H') → r vs H Q
noncomputable def CallF (W : Wd) (bs : List Bool) (r : List V → Hp → VK → Prop) (g : List U → Option U) : Prop := ∀ Hc H ω us vs, Same Hc H → PlOk W ω Hc H → RBs W Hc H bs us vs → ∀ u, g us = some u → ∀ Q : VK, (∀ us a vs Hc' H', Ext W Hc H Hc' H' → PlOk W ω Hc' H' → u = .lst us → Hc' a = none → H a = none → H' a = some (.lst vs) → RUs W Hc' us vs → Q (.ref a) H') → r vs H Q
noncomputable def eB (g : List U → Option U) (fr : Af) : Ef := fun ρ ω => (fr ρ ω).bnd fun us ω1 => .of (g us) ω1
theorem de_cb {q : List V → Hp → VK → Prop} {g : List U → Option U} (o : CallU W bs q g) (hr : DA W m E bs tr fr) : DE W m E (tCB q tr) (eB g fr) := by
 intro H0 ρ ω σ Hc H ow S Q h
 refine hr H0 ρ ω σ Hc H ow S _ ((Aft.bnd h).imp fun us ω1 Hc1 H1 e1 p1 h1 xs rs => ?_)
 revert h1
 cases hg : g us with
 | none => exact fun h1 => h1.elim
 | some u => exact fun h1 => o Hc1 H1 ω1 us xs e1.sub p1 rs u hg Q fun v Hc' H' e p rv => h1 Hc' H' e p v rv
theorem df_cb {q : List V → Hp → VK → Prop} {g : List U → Option U} (o : CallF W bs q g) (hr : DA W m E bs tr fr) : DF W m E (tCB q tr) (eB g fr) := by
 intro H0 ρ ω σ Hc H ow S Q h
 refine hr H0 ρ ω σ Hc H ow S _ ((Aft.bnd h).imp fun us ω1 Hc1 H1 e1 p1 h1 xs rs => ?_)
 revert h1
 cases hg : g us with
 | none => exact fun h1 => h1.elim
 | some u => exact fun h1 => o Hc1 H1 ω1 us xs e1.sub p1 rs u hg Q fun us a vs Hc' H' e p q1 q2 q3 q4 q5 => h1 Hc' H' e p us a vs q1 q2 (e1.frz' q3) q4 q5
theorem RBs.one {Hc H : Hp} {u : U} {vs : List V} (h : RBs W Hc H [true] [u] vs) : ∃ v, vs = [v] ∧ RB W Hc H u v := by
 match vs, h with
 | [], h => unfold RBs at h; exact h.elim
 | [v], h => unfold RBs at h; exact ⟨v, rfl, h.1⟩
 | v :: w :: r, h => unfold RBs at h; have h2 := h.2; unfold RBs at h2; exact h2.elim
theorem RBs.two {Hc H : Hp} {u u' : U} {vs : List V} (h : RBs W Hc H [true, true] [u, u'] vs) : ∃ v v', vs = [v, v'] ∧ RB W Hc H u v ∧ RB W Hc H u' v' := by
 match vs, h with
 | [], h => unfold RBs at h; exact h.elim
 | v :: r, h =>
  unfold RBs at h
  obtain ⟨v', e, q⟩ := RBs.one h.2
  exact ⟨v, v', by rw [e], h.1, q⟩
noncomputable def uLen : List U → Option U
 | [.lst us] => some (.int us.length)
 | [.tup us] => some (.int us.length)
 | [.scr ns] => some (.int ns.length)
 | _ => none
theorem cu_len : CallU W [true] (rLen W.K) uLen := by
 intro Hc H ω us vs s p rs u e Q k
 unfold uLen at e; split at e
 ·cases e; obtain ⟨v, rfl, rv⟩ := rs.one; obtain ⟨a, vs, rfl, h1, r1⟩ := rv.lst s
  exact ⟨a, vs, rfl, .inl (.of h1), by rw [← r1.len]; exact k _ Hc H (Ext.refl s) p .int⟩
 ·cases e; obtain ⟨v, rfl, rv⟩ := rs.one; obtain ⟨a, vs, rfl, h1, r1⟩ := rv.tup
  exact ⟨a, vs, rfl, .inr (.of (s _ _ h1)), by rw [← r1.len]; exact k _ Hc H (Ext.refl s) p .int⟩
 ·cases e; obtain ⟨v, rfl, rv⟩ := rs.one; obtain ⟨a, rfl, h1⟩ := rv.scr
  exact ⟨a, _, rfl, .inl (s.seq h1), by rw [List.length_map]; exact k _ Hc H (Ext.refl s) p .int⟩
 ·cases e
noncomputable def uTuple : List U → Option U
 | [.lst us] => some (.tup us)
 | [.tup us] => some (.tup us)
 | _ => none
theorem cu_tuple : CallU W [true] (rTupOf W.K) uTuple := by
 intro Hc H ω us vs s p rs u e Q k
 unfold uTuple at e; split at e
 ·cases e; obtain ⟨v, rfl, rv⟩ := rs.one; obtain ⟨a, vs, rfl, h1, r1⟩ := rv.lst s
  exact ⟨a, vs, rfl, .inl ⟨.of h1, fun l n => k _ _ _ (laid_e s p n).1 (laid_e s p n).2 (.tup upd_same (r1.mono (Same.laid (s.free n))))⟩⟩
 ·cases e; obtain ⟨v, rfl, rv⟩ := rs.one; obtain ⟨a, vs, rfl, h1, r1⟩ := rv.tup
  exact ⟨a, vs, rfl, .inr ⟨.of (s _ _ h1), k _ Hc H (Ext.refl s) p (.tup h1 r1)⟩⟩
 ·cases e
noncomputable def uList : List U → Option U
 | [.lst us] => some (.lst us)
 | [.tup us] => some (.lst us)
 | [.scr ns] => some (.lst (ns.map U.int))
 | _ => none
theorem cf_list : CallF W [true] (rLstOf W.K) uList := by
 intro Hc H ω us vs s p rs u e Q k
 unfold uList at e; split at e
 ·cases e; obtain ⟨v, rfl, rv⟩ := rs.one; obtain ⟨a, vs, rfl, h1, r1⟩ := rv.lst s
  exact ⟨a, vs, rfl, .inl (.of h1), fun l n => k _ _ _ _ _ (laid_f s p n).1 (laid_f s p n).2 rfl (s.free n) n upd_same r1⟩
 ·cases e; obtain ⟨v, rfl, rv⟩ := rs.one; obtain ⟨a, vs, rfl, h1, r1⟩ := rv.tup
  exact ⟨a, vs, rfl, .inr (.of (s _ _ h1)), fun l n => k _ _ _ _ _ (laid_f s p n).1 (laid_f s p n).2 rfl (s.free n) n upd_same r1⟩
 ·cases e; obtain ⟨v, rfl, rv⟩ := rs.one; obtain ⟨a, rfl, h1⟩ := rv.scr
  exact ⟨a, _, rfl, .inl (s.seq h1), fun l n => k _ _ _ _ _ (laid_f s p n).1 (laid_f s p n).2 rfl (s.free n) n upd_same .ofInts⟩
 ·cases e
noncomputable def asInts : List U → Option (List Int)
 | [] => some []
 | .int i :: us => (asInts us).map (i :: ·)
 | _ => none
theorem asInts_map : ∀ ns : List Int, asInts (ns.map U.int) = some ns
 | [] => rfl
 | n :: ns => by rw [List.map_cons, asInts, asInts_map ns]; rfl
theorem asInts_of : ∀ {us : List U} {ns : List Int}, asInts us = some ns → us = ns.map U.int
 | [], ns, h => by cases h; rfl
 | u :: us, ns, h => by
  unfold asInts at h
  split at h
  ·rename_i e; cases e
  ·rename_i i us' e
   cases e
   cases q : asInts us with
   | none => rw [q] at h; exact noS h
   | some ms => rw [q] at h; cases h; rw [List.map_cons, ← asInts_of q]
  ·cases h
noncomputable def uMax2 : List U → Option U
 | [.int a, .int b] => some (.int (max a b))
 | _ => none
theorem cu_max2 : CallU W [true, true] rMax uMax2 := by
 intro Hc H ω us vs s p rs u e Q k
 unfold uMax2 at e; split at e
 ·cases e; obtain ⟨v, v', rfl, r1, r2⟩ := rs.two
  have := r1.int; subst this; have := r2.int; subst this
  refine ⟨_, _, rfl, ?_⟩
  rename_i a b
  have z : (if b > a then b else a) = max a b := by split <;> lia
  rw [z]; exact k _ Hc H (Ext.refl s) p .int
 ·cases e
noncomputable def uMin2 : List U → Option U
 | [.int a, .int b] => some (.int (min a b))
 | _ => none
theorem cu_min2 : CallU W [true, true] rMin uMin2 := by
 intro Hc H ω us vs s p rs u e Q k
 unfold uMin2 at e; split at e
 ·cases e; obtain ⟨v, v', rfl, r1, r2⟩ := rs.two
  have := r1.int; subst this; have := r2.int; subst this
  refine ⟨_, _, rfl, ?_⟩
  rename_i a b
  have z : (if b < a then b else a) = min a b := by split <;> lia
  rw [z]; exact k _ Hc H (Ext.refl s) p .int
 ·cases e
noncomputable def rAbs : List V → Hp → VK → Prop := fun xs H Q => ∃ i, xs = [.int i] ∧ Q (.int (if i < 0 then -i else i)) H
theorem call_absU {X : Cx} : CallR X (.builtin "abs") rAbs := call_abs
noncomputable def uAbs : List U → Option U
 | [.int a] => some (.int (if a < 0 then -a else a))
 | _ => none
theorem cu_abs : CallU W [true] rAbs uAbs := by
 intro Hc H ω us vs s p rs u e Q k
 unfold uAbs at e; split at e
 ·cases e; obtain ⟨v, rfl, r1⟩ := rs.one
  have := r1.int; subst this
  exact ⟨_, rfl, k _ Hc H (Ext.refl s) p .int⟩
 ·cases e
noncomputable def uInt : List U → Option U
 | [.int a] => some (.int a)
 | [.bl b] => some (.int (if b then 1 else 0))
 | _ => none
theorem cu_int : CallU W [true] rInt1 uInt := by
 intro Hc H ω us vs s p rs u e Q k
 unfold uInt at e; split at e
 ·cases e; obtain ⟨v, rfl, r1⟩ := rs.one
  have := r1.int; subst this
  exact .inl ⟨_, rfl, k _ Hc H (Ext.refl s) p .int⟩
 ·cases e; obtain ⟨v, rfl, r1⟩ := rs.one
  have := r1.bl; subst this
  exact .inr ⟨_, rfl, k _ Hc H (Ext.refl s) p .int⟩
 ·cases e
noncomputable abbrev Ff := List U → Om → Res U
noncomputable def spU (K : L2.Fg) (mg : L2.SV) (wk : Wd → Prop) (n : Nat) (bs : List Bool) (F : Ff) : Sp := fun vs H Q E => ∃ (W : Wd) (us : List U) (ω : Om) (Hc : Hp), W.K = K ∧ W.mg = mg ∧ wk W ∧ vs.length = n ∧ Same Hc H ∧ PlOk W ω Hc H ∧ RBs W Hc H bs us vs ∧
 Aft W E Hc H (F us ω) (fun u ψ Hc' H' => ∀ v, RU W Hc' u v → Q v H')
noncomputable def eCall (F : Ff) (fr : Af) : Ef := fun ρ ω => (fr ρ ω).bnd F
theorem RBs.len {Hc H : Hp} : ∀ {bs : List Bool} {us : List U} {vs : List V}, RBs W Hc H bs us vs → vs.length = bs.length ∧ us.length = bs.length
 | [], [], [], _ => ⟨rfl, rfl⟩
 | b :: bs, u :: us, v :: vs, h => by unfold RBs at h; simp [(RBs.len h.2).1, (RBs.len h.2).2]
 | [], _ :: _, _, h => by unfold RBs at h; exact h.elim
 | [], [], _ :: _, h => by unfold RBs at h; exact h.elim
 | _ :: _, [], _, h => by unfold RBs at h; exact h.elim
 | _ :: _, _ :: _, [], h => by unfold RBs at h; exact h.elim
theorem de_call {K : L2.Fg} {mg : L2.SV} {wk : Wd → Prop} {F : Ff} (hK : W.K = K) (hm : W.mg = mg) (hw : wk W) (hr : DA W m E bs tr fr) : DE W m E (tCall (spU K mg wk bs.length bs F) [] E tr) (eCall F fr) := by
 intro H0 ρ ω σ Hc H ow S Q h
 refine rd_call (hr H0 ρ ω σ Hc H ow S _ ((Aft.bnd h).imp fun us ω1 Hc1 H1 e1 p1 h1 xs rs => ?_))
 exact ⟨W, us, ω1, Hc1, hK, hm, hw, rs.len.1, e1.sub, p1, rs, h1⟩
end
section
variable {W : Wd} {m : Md} {ρ : En} {ω : Om} {σ : St} {H0 Hc0 Hc H Hc' : Hp} {ow : Nat → Addr} {i : Nat} {u : U} {v : V}
theorem set_at {α : Type} {xs : List (Option α)} {i j : Nat} {a u : α} (h : (xs.set i (some a))[j]? = some (some u)) : (j = i ∧ u = a ∧ i < xs.length) ∨ (j ≠ i ∧ xs[j]? = some (some u)) := by
 rw [List.getElem?_set] at h
 by_cases e : i = j
 ·subst e
  rw [if_pos rfl] at h
  by_cases l : i < xs.length
  ·rw [if_pos l] at h; cases h; exact .inl ⟨rfl, rfl, l⟩
  ·rw [if_neg l] at h; cases h
 ·rw [if_neg e] at h; exact .inr ⟨fun z => e z.symm, h⟩
theorem at_set {α : Type} {xs : List (Option α)} {i : Nat} {a : α} (h : i < xs.length) : (xs.set i (some a))[i]? = some (some a) := by
 rw [List.getElem?_set, if_pos rfl, if_pos h]
theorem at_set_ne {α : Type} {xs : List (Option α)} {i j : Nat} {a : Option α} (h : j ≠ i) : (xs.set i a)[j]? = xs[j]? := by
 rw [List.getElem?_set, if_neg fun z => h z.symm]
theorem Sr.set (S : Sr W m ρ ω σ H0 Hc H ow) (h1 : i ∉ m.B) (h2 : i ∉ m.M) (r : RU W Hc u v) : Sr W m (ρ.set i (some u)) ω (σ.set i (some v)) H0 Hc H ow := by
 refine ⟨S.sub, S.s0, S.p0, by simp [S.len], S.pl, fun j w n1 n2 h => ?_, fun j w n1 n2 h => ?_, fun j w n h => ?_, fun j k a b n1 n2 ne hj hk => ?_⟩
 ·rcases set_at h with ⟨rfl, rfl, l⟩ | ⟨e, h⟩
  ·exact ⟨v, at_set (by rw [← S.len]; exact l), r⟩
  ·rw [at_set_ne e]; exact S.cl j w n1 n2 h
 ·rcases set_at h with ⟨rfl, rfl, l⟩ | ⟨e, h⟩
  ·exact absurd n1 h1
  ·rw [at_set_ne e]; exact S.bo j w n1 n2 h
 ·rcases set_at h with ⟨rfl, rfl, l⟩ | ⟨e, h⟩
  ·exact absurd n h2
  ·rw [at_set_ne e]; exact S.mu j w n h
 ·rcases set_at hj with ⟨rfl, rfl, l⟩ | ⟨e, hj⟩
  ·exact absurd n1 h2
  ·rcases set_at hk with ⟨rfl, rfl, l⟩ | ⟨e, hk⟩
   ·exact absurd n2 h2
   ·exact S.di j k a b n1 n2 ne hj hk
theorem Sr.drop (S : Sr W m ρ ω σ H0 Hc H ow) (x : Option V) : Sr W m (ρ.set i none) ω (σ.set i x) H0 Hc H ow := by
 have key : ∀ {j : Nat} {w : U}, (ρ.set i none)[j]? = some (some w) → j ≠ i ∧ ρ[j]? = some (some w) := fun {j w} h => by
  rw [List.getElem?_set] at h
  by_cases e : i = j
  ·rw [if_pos e] at h; split at h <;> cases h
  ·rw [if_neg e] at h; exact ⟨fun z => e z.symm, h⟩
 refine ⟨S.sub, S.s0, S.p0, by simp [S.len], S.pl, fun j w n1 n2 h => ?_, fun j w n1 n2 h => ?_, fun j w n h => ?_, fun j k a b n1 n2 ne hj hk => S.di j k a b n1 n2 ne (key hj).2 (key hk).2⟩
 ·obtain ⟨e, h⟩ := key h; rw [at_set_ne e]; exact S.cl j w n1 n2 h
 ·obtain ⟨e, h⟩ := key h; rw [at_set_ne e]; exact S.bo j w n1 n2 h
 ·obtain ⟨e, h⟩ := key h; rw [at_set_ne e]; exact S.mu j w n h
theorem Sr.ownO {a : Addr} {o : HO} (S : Sr W m ρ ω σ H0 Hc H ow) (hi : i ∈ m.M) (hb : i ∉ m.B) (n1 : Hc a = none) (n0 : H0 a = none) (ha : H a = some o) (r : OwO W Hc a u o) (ap : ∀ j w, j ∈ m.M → j ≠ i → ρ[j]? = some (some w) → ow j ≠ a) :
  Sr W m (ρ.set i (some u)) ω (σ.set i (some (.ref a))) H0 Hc H (fun j => if j = i then a else ow j) := by
 refine ⟨S.sub, S.s0, S.p0, by simp [S.len], S.pl, fun j w n1 n2 h => ?_, fun j w n1 n2 h => ?_, fun j w n h => ?_, fun j k x y m1 m2 ne hj hk => ?_⟩
 ·rcases set_at h with ⟨rfl, rfl, l⟩ | ⟨e, h⟩
  ·exact absurd hi n2
  ·rw [at_set_ne e]; exact S.cl j w n1 n2 h
 ·rcases set_at h with ⟨rfl, rfl, l⟩ | ⟨e, h⟩
  ·exact absurd hi n2
  ·rw [at_set_ne e]; exact S.bo j w n1 n2 h
 ·rcases set_at h with ⟨rfl, rfl, l⟩ | ⟨e, h⟩
  ·refine ⟨o, ?_, ?_, ?_, ?_, by rw [if_pos rfl]; exact r⟩
   ·rw [if_pos rfl]; exact at_set (by rw [← S.len]; exact l)
   ·rw [if_pos rfl]; exact ha
   ·rw [if_pos rfl]; exact n1
   ·rw [if_pos rfl]; exact n0
  ·obtain ⟨o', z2, z3, z4, z5, z6⟩ := S.mu j w n h
   refine ⟨o', ?_, ?_, ?_, ?_, by rw [if_neg e]; exact z6⟩
   ·rw [at_set_ne e, if_neg e]; exact z2
   ·rw [if_neg e]; exact z3
   ·rw [if_neg e]; exact z4
   ·rw [if_neg e]; exact z5
 ·rcases set_at hj with ⟨rfl, rfl, l⟩ | ⟨e, hj1⟩
  ·rcases set_at hk with ⟨rfl, rfl, l⟩ | ⟨e', hk⟩
   ·exact absurd rfl ne
   ·rw [if_pos rfl, if_neg e']; exact fun z => ap k y m2 e' hk z.symm
  ·clear hj
   rcases set_at hk with ⟨e1, e2, l⟩ | ⟨e', hk⟩
   ·rw [e1, if_pos rfl, if_neg e]; exact ap j x m1 e (by assumption)
   ·rw [if_neg e, if_neg e']; exact S.di j k x y m1 m2 ne hj1 hk
theorem Sr.own {a : Addr} {us : List U} {vs : List V} (S : Sr W m ρ ω σ H0 Hc H ow) (hi : i ∈ m.M) (hb : i ∉ m.B) (n1 : Hc a = none) (n0 : H0 a = none) (ha : H a = some (.lst vs)) (r : RUs W Hc us vs) (ap : ∀ j w, j ∈ m.M → j ≠ i → ρ[j]? = some (some w) → ow j ≠ a) :
  Sr W m (ρ.set i (some (.lst us))) ω (σ.set i (some (.ref a))) H0 Hc H (fun j => if j = i then a else ow j) := S.ownO hi hb n1 n0 ha ⟨vs, rfl, r⟩ ap
theorem Sr.mutO {w0 : U} {o' : HO} (S : Sr W m ρ ω σ H0 Hc H ow) (hi : i ∈ m.M) (e : ρ[i]? = some (some w0)) (r : OwO W Hc (ow i) u o') : Sr W m (ρ.set i (some u)) ω σ H0 Hc (upd H (ow i) o') ow := by
 obtain ⟨o0, z2, z3, z4, z5, z6⟩ := S.mu i _ hi e
 have nl := S.nl z5
 have li : i < ρ.length := (List.getElem?_eq_some_iff.mp e).1
 refine ⟨fun b o h => ?_, fun b o n h => ?_, S.p0, by simp [S.len], ⟨W.st _ _ _ S.pl.pl fun b o h hb => ?_, fun b hb => ⟨(S.pl.out b hb).1, ?_⟩⟩, fun j w n1 n2 h => ?_, fun j w n1 n2 h => ?_, fun j w n h => ?_, fun j k x y m1 m2 ne hj hk => ?_⟩
 ·rw [upd_ne (fun z => by rw [z, z4] at h; cases h)]; exact S.sub b o h
 ·rw [upd_ne (fun z => by rw [z, z5] at h; cases h)]; exact S.s0 b o n h
 ·refine (upd_ne fun z => ?_).trans h
  rcases hb with hb | ⟨x, y, hb⟩
  ·exact nl (z ▸ hb)
  ·rw [z, z3] at h; cases h; rw [hb] at z6; exact z6.nfrz
 ·by_cases z : b = ow i
  ·rw [z, upd_same]; simp
  ·rw [upd_ne z]; exact (S.pl.out b hb).2
 ·rcases set_at h with ⟨rfl, rfl, l⟩ | ⟨e', h⟩
  ·exact absurd hi n2
  ·exact S.cl j w n1 n2 h
 ·rcases set_at h with ⟨rfl, rfl, l⟩ | ⟨e', h⟩
  ·exact absurd hi n2
  ·exact S.bo j w n1 n2 h
 ·rcases set_at h with ⟨rfl, rfl, l⟩ | ⟨e', h⟩
  ·exact ⟨o', z2, upd_same, z4, z5, r⟩
  ·obtain ⟨o1, y2, y3, y4, y5, y6⟩ := S.mu j w n h
   exact ⟨o1, y2, by rw [upd_ne (S.di j i w _ n hi e' h e)]; exact y3, y4, y5, y6⟩
 ·rcases set_at hj with ⟨rfl, rfl, l⟩ | ⟨e1, hj1⟩
  ·rcases set_at hk with ⟨rfl, rfl, l⟩ | ⟨e2, hk⟩
   ·exact absurd rfl ne
   ·exact S.di j k _ y m1 m2 ne e hk
  ·rcases set_at hk with ⟨e3, e4, l⟩ | ⟨e2, hk⟩
   ·rw [e3]; exact S.di j i x _ m1 hi e1 hj1 e
   ·exact S.di j k x y m1 m2 ne hj1 hk
theorem Sr.mut {us us' : List U} {vs' : List V} (S : Sr W m ρ ω σ H0 Hc H ow) (hi : i ∈ m.M) (e : ρ[i]? = some (some (.lst us))) (r : RUs W Hc us' vs') : Sr W m (ρ.set i (some (.lst us'))) ω σ H0 Hc (upd H (ow i) (.lst vs')) ow := S.mutO hi e ⟨vs', rfl, r⟩
theorem Sr.mutE {w0 : U} {o' : HO} (S : Sr W m ρ ω σ H0 Hc H ow) (hi : i ∈ m.M) (e : ρ[i]? = some (some w0)) (x : Ext W Hc0 H0 Hc H) : Ext W Hc0 H0 Hc (upd H (ow i) o') := by
 obtain ⟨o0, z2, z3, z4, z5, z6⟩ := S.mu i _ hi e
 refine ⟨fun b o n h => ?_, x.sc, fun b o h => ?_, x.new, fun b h => ?_⟩
 ·rw [upd_ne (fun z => by rw [z, z5] at h; cases h)]; exact x.same b o n h
 ·rw [upd_ne (fun z => by rw [z, z4] at h; cases h)]; exact x.sub b o h
 ·by_cases z : b = ow i
  ·rw [z, upd_same]; simp
  ·rw [upd_ne z]; exact x.frz b h
theorem Sr.freeze (M' : List Nat) (hM : ∀ i ∈ M', i ∈ m.M) (hB : ∀ i ∈ m.M, i ∉ m.B) (S : Sr W m ρ ω σ H0 Hc H ow) (x : Ext W Hc0 H0 Hc H) : ∃ Hc', Sr W ⟨m.B, M'⟩ ρ ω σ H0 Hc' H ow ∧ Ext W Hc0 H0 Hc' H := by
 classical
 let P : Addr → Prop := fun b => ∃ i w, i ∈ m.M ∧ i ∉ M' ∧ ρ[i]? = some (some w) ∧ ow i = b
 have hP : ∀ b, P b → Hc b = none ∧ H0 b = none ∧ b ∉ W.L := fun b ⟨i, w, h1, h2, h3, h4⟩ => by
  obtain ⟨o0, z2, z3, z4, z5, z6⟩ := S.mu i _ h1 h3
  rw [← h4]; exact ⟨z4, z5, S.nl z5⟩
 have sc : Same Hc (fun b => if P b then H b else Hc b) := fun b o h => by
  have : ¬ P b := fun p => by rw [(hP b p).1] at h; cases h
  show (if P b then H b else Hc b) = _
  rw [if_neg this]; exact h
 refine ⟨fun b => if P b then H b else Hc b, ⟨fun b o h => ?_, S.s0, S.p0, S.len, ⟨S.pl.pl, fun b hb => ⟨?_, (S.pl.out b hb).2⟩⟩, fun j w n1 n2 h => ?_, fun j w n1 n2 h => ?_, fun j w n h => ?_, fun j k a b m1 m2 ne hj hk => S.di j k a b (hM j m1) (hM k m2) ne hj hk⟩, ⟨x.same, fun b o h => sc b o (x.sc b o h), fun b o h => ?_, fun b h1 h2 => ?_, x.frz⟩⟩
 ·by_cases p : P b
  ·simpa [p] using h
  ·simp only [p, if_false] at h; exact S.sub b o h
 ·have : ¬ P b := fun p => (hP b p).2.2 hb
  show (if P b then H b else Hc b) = none
  rw [if_neg this]; exact (S.pl.out b hb).1
 ·by_cases q : j ∈ m.M
  ·obtain ⟨o0, z2, z3, z4, z5, z6⟩ := S.mu j _ q h
   refine ⟨_, z2, ?_⟩
   exact (z6.mono sc).ru (by show (if P (ow j) then H (ow j) else Hc (ow j)) = _; rw [if_pos ⟨j, _, q, n2, h, rfl⟩]; exact z3)
  ·obtain ⟨v, q1, q2⟩ := S.cl j w n1 q h
   exact ⟨v, q1, q2.mono sc⟩
 ·have q : j ∉ m.M := fun z => hB j z n1
  obtain ⟨v, q1, q2⟩ := S.bo j w n1 q h
  refine ⟨v, q1, ?_⟩
  rcases q2 with q2 | ⟨a, o, y2, y3, y4, y5⟩
  ·exact .inl (q2.mono sc)
  ·exact .inr ⟨a, o, y2, y3, y4, y5.mono sc⟩
 ·obtain ⟨o0, z2, z3, z4, z5, z6⟩ := S.mu j _ (hM j n) h
  refine ⟨o0, z2, z3, ?_, z5, z6.mono sc⟩
  have : ¬ P (ow j) := fun ⟨k, w', h1, h2, h3, h4⟩ => by
   have ne : k ≠ j := fun z => h2 (z ▸ n)
   exact S.di k j w' w h1 (hM j n) ne h3 h h4
  show (if P (ow j) then H (ow j) else Hc (ow j)) = none
  rw [if_neg this]; exact z4
 ·by_cases p : P b
  ·simpa [p] using h
  ·simp only [p, if_false] at h; exact x.sub b o h
 ·have : ¬ P b := fun p => h2 (hP b p).2.1
  show (if P b then H b else Hc b) = none
  rw [if_neg this]; exact x.new b h1 h2
end
section
variable {W : Wd} {m : Md} {E : XK} {ta : TE} {fa : Ef} {tt : TT} {ft : Tf} {i : Nat} {r : R2} {g : U → U → Option U} {t1 t2 : TS} {g1 g2 : Sf}
noncomputable def Fl.of {α : Type} (r : Res α) (k : α → Om → Fl) : Fl := match r with
 | .ok a ω => k a ω
 | .err c p ω => .err c p ω
 | .stk => .stk
@[simp] theorem Fl.of_ok {α : Type} {a : α} {ω : Om} {k : α → Om → Fl} : Fl.of (.ok a ω) k = k a ω := rfl
@[simp] theorem Fl.of_err {α : Type} {c : Str} {p : Option Int} {ω : Om} {k : α → Om → Fl} : Fl.of (.err c p ω : Res α) k = .err c p ω := rfl
@[simp] theorem Fl.of_stk {α : Type} {k : α → Om → Fl} : Fl.of (.stk : Res α) k = .stk := rfl
theorem Cont.of {α : Type} {Hc0 H0 Hc H : Hp} {D : Ends} {r : Res α} {k : α → Om → Fl} (x : Ext W Hc0 H0 Hc H) (h : Cont W m E Hc0 H0 D (Fl.of r k)) : Aft W E Hc H r fun a ω ψ ψ => Cont W m E Hc0 H0 D (k a ω) := by
 cases r with
 | ok a ω => exact fun Hc' H' e p => h
 | err c pl ω => exact fun C od Hc' H' e p hm hx => h C od Hc' H' (x.trans e) p hm hx
 | stk => exact h
noncomputable def sSeq (g1 g2 : Sf) : Sf := fun ρ ω => match g1 ρ ω with
 | .nx ρ' ω' => g2 ρ' ω'
 | o => o
theorem ds_seq (h1 : DS W m E t1 g1) (h2 : DS W m E t2 g2) : DS W m E (tSeq t1 t2) (sSeq g1 g2) := by
 intro H0 Hc0 ρ ω σ Hc H ow S x D h
 refine h1 H0 Hc0 ρ ω σ Hc H ow S x { D with nx := t2 D } ?_
 unfold sSeq at h
 revert h
 cases g1 ρ ω with
 | nx ρ' ω' => exact fun h σ' Hc' H' ow' S' x' => h2 H0 Hc0 ρ' ω' σ' Hc' H' ow' S' x' D h
 | _ => exact fun h => h
noncomputable def sNext : Sf := fun ρ ω => .nx ρ ω
theorem ds_next : DS W m E tNext sNext := fun H0 Hc0 ρ ω σ Hc H ow S x D h => h σ Hc H ow S x
noncomputable def sIf (ft : Tf) (g1 g2 : Sf) : Sf := fun ρ ω => Fl.of (ft ρ ω) fun b ω1 => if b = true then g1 ρ ω1 else g2 ρ ω1
theorem ds_if (hc : DT W m E tt ft) (h1 : DS W m E t1 g1) (h2 : DS W m E t2 g2) : DS W m E (tIfS tt t1 t2) (sIf ft g1 g2) := by
 intro H0 Hc0 ρ ω σ Hc H ow S x D h
 refine hc H0 ρ ω σ Hc H ow S _ ((Cont.of x h).imp fun b ω1 Hc1 H1 e1 p1 k => ?_)
 cases b with
 | true => exact h1 H0 Hc0 ρ ω1 σ Hc1 H1 ow (S.ext e1 p1) (x.trans e1) D k
 | false => exact h2 H0 Hc0 ρ ω1 σ Hc1 H1 ow (S.ext e1 p1) (x.trans e1) D k
noncomputable def sSet (i : Nat) (fa : Ef) : Sf := fun ρ ω => Fl.of (fa ρ ω) fun u ω1 => .nx (ρ.set i (some u)) ω1
theorem ds_set (h1 : i ∉ m.B) (h2 : i ∉ m.M) (ha : DE W m E ta fa) : DS W m E (tAsg ta (gName i)) (sSet i fa) := by
 intro H0 Hc0 ρ ω σ Hc H ow S x D h
 refine ha H0 ρ ω σ Hc H ow S _ ((Cont.of x h).imp fun u ω1 Hc1 H1 e1 p1 k v rv => ?_)
 exact k _ Hc1 H1 ow ((S.ext e1 p1).set h1 h2 rv) (x.trans e1)
theorem ds_own (h1 : i ∉ m.B) (h2 : i ∈ m.M) (ha : DF W m E ta fa) : DS W m E (tAsg ta (gName i)) (sSet i fa) := by
 intro H0 Hc0 ρ ω σ Hc H ow S x D h
 refine ha H0 ρ ω σ Hc H ow S _ ((Cont.of x h).imp fun u ω1 Hc1 H1 e1 p1 k us a vs hu n1 n2 ha rr => ?_)
 subst hu
 have S1 := S.ext e1 p1
 have n0 : H0 a = none := by
  cases q : H0 a with
  | none => rfl
  | some o =>
   by_cases l : a ∈ W.L
   ·exact absurd n2 (S.pl.out a l).2
   ·rw [S.s0 a o l q] at n2; cases n2
 refine k _ Hc1 H1 _ (S1.own h2 h1 n1 n0 ha rr fun j w hj ψ hw z => ?_) (x.trans e1)
 obtain ⟨o0, z2, z3, z4, z5, z6⟩ := S.mu j _ hj hw
 rw [z, n2] at z3; cases z3
noncomputable def sRet (fa : Ef) : Sf := fun ρ ω => Fl.of (fa ρ ω) fun u ω1 => .rt u ω1
theorem ds_ret (hB : ∀ i ∈ m.M, i ∉ m.B) (ha : DE W ⟨m.B, []⟩ E ta fa) : DS W m E (tRet ta) (sRet fa) := by
 intro H0 Hc0 ρ ω σ Hc H ow S x D h
 obtain ⟨Hf, Sf', xf⟩ := S.freeze [] (fun ψ z => absurd z (by simp)) hB x
 refine ha H0 ρ ω σ Hf H ow Sf' _ ((Cont.of xf h).imp fun u ω1 Hc1 H1 e1 p1 k v rv => ?_)
 exact k v Hc1 H1 (xf.trans e1) p1 rv
noncomputable def sExpr (fa : Ef) : Sf := fun ρ ω => Fl.of (fa ρ ω) fun ψ ω1 => .nx ρ ω1
theorem ds_expr (ha : DB W m E ta fa) : DS W m E (tDrop ta) (sExpr fa) := by
 intro H0 Hc0 ρ ω σ Hc H ow S x D h
 refine ha H0 ρ ω σ Hc H ow S _ ((Cont.of x h).imp fun u ω1 Hc1 H1 e1 p1 k v rv => ?_)
 exact k _ Hc1 H1 ow (S.ext e1 p1) (x.trans e1)
noncomputable def sAug (i : Nat) (g : U → U → Option U) (fa : Ef) : Sf := fun ρ ω => match ρ[i]? with
 | some (some a) => Fl.of (fa ρ ω) fun b ω1 => match g a b with
  | some c => .nx (ρ.set i (some c)) ω1
  | none => .stk
 | _ => .stk
theorem ds_aug (h1 : i ∉ m.B) (h2 : i ∉ m.M) (o : OpU W r g) (ha : DB W m E ta fa) : DS W m E (tAug i ta r) (sAug i g fa) := by
 intro H0 Hc0 ρ ω σ Hc H ow S x D h
 unfold sAug at h
 split at h
 ·rename_i a e
  obtain ⟨va, q, ra⟩ := S.get e
  refine ⟨va, q, ha H0 ρ ω σ Hc H ow S _ ((Cont.of x h).imp fun b ω1 Hc1 H1 e1 p1 k y ry => ?_)⟩
  revert k
  cases hg : g a b with
  | none => exact fun k => k.elim
  | some c => exact fun k => o Hc1 H1 ω1 a b va y e1.sub p1 (ra.ext e1) ry c hg _ fun v Hc' H' e p rv => k _ Hc' H' ow (((S.ext e1 p1).ext e p).set h1 h2 rv) ((x.trans e1).trans e)
 ·exact h.elim
open Classical in
noncomputable def sApp (i : Nat) (fa : Ef) : Sf := fun ρ ω => match ρ[i]? with
 | some (some (.lst us)) => Fl.of (fa ρ ω) fun u ω1 => if us.length < sizeLine then .nx (ρ.set i (some (.lst (us ++ [u])))) ω1 else .stk
 | _ => .stk
theorem ds_app {K : L2.Fg} (h2 : i ∈ m.M) (ha : DE W m E ta fa) : DS W m E (tDrop (tBM K "list" rAppend (tVar i) (tCons ta tNil))) (sApp i fa) := by
 intro H0 Hc0 ρ ω σ Hc H ow S x D h
 unfold sApp at h
 split at h
 ·rename_i us e
  obtain ⟨us0, vs0, z1, z2, z3, z4, z5, z6⟩ := S.muL i _ h2 e
  cases z1
  refine ⟨_, z2, .inl ⟨rfl, vs0, .of z3⟩, ha H0 ρ ω σ Hc H ow S _ ((Cont.of x h).imp fun u ω1 Hc1 H1 e1 p1 k v rv => ?_)⟩
  revert k
  split
  ·intro k
   have S1 := S.ext e1 p1
   refine ⟨ow i, vs0, v, rfl, rfl, e1.same _ _ (S.nl z5) z3, by rw [← z6.len]; assumption, ?_⟩
   exact k _ Hc1 _ ow (S1.mut h2 e ((z6.mono e1.sc).app (.one rv))) (S1.mutE h2 e (x.trans e1))
  ·exact fun k => k.elim
 ·exact h.elim
open Classical in
noncomputable def sExt (i : Nat) (fa : Ef) : Sf := fun ρ ω => match ρ[i]? with
 | some (some (.lst us)) => Fl.of (fa ρ ω) fun u ω1 => match u with
  | .lst ws => if us.length + ws.length ≤ sizeLine then .nx (ρ.set i (some (.lst (us ++ ws)))) ω1 else .stk
  | _ => .stk
 | _ => .stk
theorem ds_ext {K : L2.Fg} (h2 : i ∈ m.M) (ha : DB W m E ta fa) : DS W m E (tDrop (tBM K "list" rExtend (tVar i) (tCons ta tNil))) (sExt i fa) := by
 intro H0 Hc0 ρ ω σ Hc H ow S x D h
 unfold sExt at h
 split at h
 ·rename_i us e
  obtain ⟨us0, vs0, z1, z2, z3, z4, z5, z6⟩ := S.muL i _ h2 e
  cases z1
  refine ⟨_, z2, .inl ⟨rfl, vs0, .of z3⟩, ha H0 ρ ω σ Hc H ow S _ ((Cont.of x h).imp fun u ω1 Hc1 H1 e1 p1 k v rv => ?_)⟩
  revert k
  split
  ·rename_i ws
   split
   ·intro k
    have S1 := S.ext e1 p1
    obtain ⟨b, zs, rfl, hb, rb⟩ := rv.lst e1.sub
    refine ⟨ow i, b, vs0, zs, rfl, rfl, e1.same _ _ (S.nl z5) z3, hb, by rw [← z6.len, ← rb.len]; assumption, ?_⟩
    exact k _ Hc1 _ ow (S1.mut h2 e ((z6.mono e1.sc).app rb)) (S1.mutE h2 e (x.trans e1))
   ·exact fun k => k.elim
  ·exact fun k => k.elim
 ·exact h.elim
noncomputable def sRevM (i : Nat) : Sf := fun ρ ω => match ρ[i]? with
 | some (some (.lst us)) => .nx (ρ.set i (some (.lst us.reverse))) ω
 | _ => .stk
theorem ds_revM {K : L2.Fg} (h2 : i ∈ m.M) : DS W m E (tDrop (tBM0 K "list" rReverse (tVar i))) (sRevM i) := by
 intro H0 Hc0 ρ ω σ Hc H ow S x D h
 unfold sRevM at h
 split at h
 ·rename_i us e
  obtain ⟨us0, vs0, z1, z2, z3, z4, z5, z6⟩ := S.muL i _ h2 e
  cases z1
  exact ⟨_, z2, .inl ⟨rfl, vs0, .of z3⟩, ow i, vs0, rfl, rfl, z3, h _ Hc _ ow (S.mut h2 e z6.rev) (S.mutE h2 e x)⟩
 ·exact h.elim
noncomputable def DG (W : Wd) (m : Md) (g : TG) (a : U → En → Option En) : Prop := ∀ H0 ρ ω σ Hc H ow u v ρ', Sr W m ρ ω σ H0 Hc H ow → RU W Hc u v → a u ρ = some ρ' → ∀ Q : St → Hp → Prop, (∀ σ', Sr W m ρ' ω σ' H0 Hc H ow → Q σ' H) → g v σ H Q
noncomputable def DGs (W : Wd) (m : Md) (g : TGs) (a : List U → En → Option En) : Prop := ∀ H0 ρ ω σ Hc H ow us vs ρ', Sr W m ρ ω σ H0 Hc H ow → RUs W Hc us vs → a us ρ = some ρ' → ∀ Q : St → Hp → Prop, (∀ σ', Sr W m ρ' ω σ' H0 Hc H ow → Q σ' H) → g vs σ H Q
noncomputable def aName (i : Nat) : U → En → Option En := fun u ρ => some (ρ.set i (some u))
theorem dg_name (h1 : i ∉ m.B) (h2 : i ∉ m.M) : DG W m (gName i) (aName i) := fun H0 ρ ω σ Hc H ow u v ρ' S r e Q k => by
 cases e
 exact k _ (S.set h1 h2 r)
noncomputable def aNilT : List U → En → Option En := fun us ρ => match us with
 | [] => some ρ
 | _ => none
noncomputable def aConsT (a : U → En → Option En) (b : List U → En → Option En) : List U → En → Option En := fun us ρ => match us with
 | u :: r => (a u ρ).bind (b r)
 | _ => none
theorem dgs_nil : DGs W m gNil aNilT := fun H0 ρ ω σ Hc H ow us vs ρ' S r e Q k => by
 unfold aNilT at e
 split at e
 ·cases e; rw [RUs] at r; exact ⟨r, k _ S⟩
 ·cases e
theorem dgs_cons {g : TG} {gg : TGs} {a : U → En → Option En} {b : List U → En → Option En} (h1 : DG W m g a) (h2 : DGs W m gg b) : DGs W m (gCons g gg) (aConsT a b) := fun H0 ρ ω σ Hc H ow us vs ρ' S r e Q k => by
 unfold aConsT at e
 split at e
 ·rename_i u rest
  rw [RUs] at r
  obtain ⟨v, vr, rfl, r1, r2⟩ := r
  cases q : a u ρ with
  | none => rw [q] at e; exact noS e
  | some ρ1 =>
   rw [q] at e
   exact ⟨v, vr, rfl, h1 H0 ρ ω σ Hc H ow u v ρ1 S r1 q _ fun σ1 S1 => h2 H0 ρ1 ω σ1 Hc H ow rest vr ρ' S1 r2 e Q k⟩
 ·cases e
noncomputable def aTup (n : Nat) (b : List U → En → Option En) : U → En → Option En := fun u ρ => match u with
 | .tup us => if us.length = n then b us ρ else none
 | _ => none
theorem dg_tup {n : Nat} {K : L2.Fg} {gg : TGs} {b : List U → En → Option En} (h2 : DGs W m gg b) : DG W m (gTup K n gg) (aTup n b) := fun H0 ρ ω σ Hc H ow u v ρ' S r e Q k => by
 unfold aTup at e
 split at e
 ·split at e
  ·rw [RU] at r
   obtain ⟨a, vs, rfl, h1, r1⟩ := r
   exact ⟨a, vs, rfl, .of (S.sub _ _ h1), by rw [← r1.len]; assumption, h2 H0 ρ ω σ Hc H ow _ vs ρ' S r1 e Q k⟩
  ·cases e
 ·cases e
noncomputable def sAsg (a : U → En → Option En) (fa : Ef) : Sf := fun ρ ω => Fl.of (fa ρ ω) fun u ω1 => match a u ρ with
 | some ρ' => .nx ρ' ω1
 | none => .stk
end
noncomputable def ItR (W : Wd) (Hb Hc : Hp) (J : It) (us : List U) : Prop := ∀ Hc2 H2, Same Hc Hc2 → Same Hc2 H2 → (∀ b o, b ∉ W.L → Hb b = some o → H2 b = some o) →
 (∀ i u, us[i]? = some u → J.go i H2 ∧ ∀ x H3, J.yld i H2 x H3 → ∃ Hc3, Ext W Hc2 H2 Hc3 H3 ∧ Same H2 H3 ∧ RU W Hc3 u x) ∧ J.stop us.length H2
noncomputable def DI (W : Wd) (m : Md) (E : XK) (c : Bool) (t : TI) (f : Af) : Prop := ∀ H0 ρ ω σ Hc H ow, Sr W m ρ ω σ H0 Hc H ow → ∀ R : It → Hp → Prop, Aft W E Hc H (f ρ ω) (fun us ψ Hc' H' => ∀ J, ItR W (if c = true then H' else H0) Hc' J us → R J H') → t σ H R
section
variable {W : Wd} {m : Md} {E : XK} {c : Bool} {ta : TE} {fa : Ef} {i : Nat} {tr : TA} {fr : Af}
noncomputable def iSeq (K : L2.Fg) (tl : TE) : TI := fun σ H R => tl σ H fun x H1 => ∃ a, x = .ref a ∧ (((∃ xs, SqL K H1 a xs) ∧ R (Itl K a) H1) ∨ ((∃ xs, SqT K H1 a xs) ∧ R (Itt K a) H1))
theorem pi_seq {X : Cx} {K : L2.Fg} {l tg : Expr} {tl : TE} (hK : X.K = K) (hl : PE X l tl) : PI X tg l (iSeq K tl) := by
 subst hK
 intro pins s σ H R I h
 refine thn (hl pins s σ H _ I h) fun v s1 ⟨x, H1, I1, r1, q1⟩ => ?_
 obtain ⟨a, e, q1⟩ := q1
 subst e
 cases r1
 rcases q1 with ⟨⟨xs, hq⟩, q⟩ | ⟨⟨xs, hq⟩, q⟩
 ·obtain ⟨its, rv, p, hz⟩ := I1.list hq
  refine wpAny_pyIter_list p.isList ?_
  refine ⟨s1.heap.objs.size, [s1.heap.objs.size], _, _, H1, rfl, I1.kept (t' := s1.toks) fun b o e => Heap.get?_push_of_some _ e, turn_list a _, ⟨_, Heap.get?_push_size _ rfl, rfl, rfl⟩, fun b hb => ?_, q⟩
  have e : b = s1.heap.objs.size := by simpa using hb
  subst e
  exact I1.fpOk (Nat.le_refl _) (I1.hok.fresh (Nat.le_refl _))
 ·obtain ⟨its, rv, p, hz⟩ := I1.tuple hq
  refine wpAny_pyIter_tuple (show s1.heap.IsTuple a its.toArray from p) ?_
  refine ⟨s1.heap.objs.size, [s1.heap.objs.size], _, _, H1, rfl, I1.kept (t' := s1.toks) fun b o e => Heap.get?_push_of_some _ e, turn_tuple a _, ⟨_, Heap.get?_push_size _ rfl, rfl, rfl⟩, fun b hb => ?_, q⟩
  have e : b = s1.heap.objs.size := by simpa using hb
  subst e
  exact I1.fpOk (Nat.le_refl _) (I1.hok.fresh (Nat.le_refl _))
noncomputable def asSeq : U → Option (List U)
 | .lst us => some us
 | .tup us => some us
 | _ => none
noncomputable def iOf (fa : Ef) : Af := fun ρ ω => (fa ρ ω).bnd fun u ω1 => .of (asSeq u) ω1
theorem itl_r {Hb Hc : Hp} {a : Addr} {us : List U} {vs : List V} (r : RUs W Hc us vs) (k : ∀ Hc2 H2, Same Hc Hc2 → Same Hc2 H2 → (∀ b o, b ∉ W.L → Hb b = some o → H2 b = some o) → H2 a = some (.lst vs)) : ItR W Hb Hc (Itl W.K a) us := by
 intro Hc2 H2 s1 s2 s3
 have ha := k Hc2 H2 s1 s2 s3
 have one : ∀ xs, SqL W.K H2 a xs → SqL W.K H2 a vs → True := fun ψ ψ ψ => trivial
 refine ⟨fun i u hu => ?_, vs, .of ha, by rw [r.len]; exact Nat.le_refl _⟩
 obtain ⟨v, hv, rv⟩ := r.at (i := 0) hu
 refine ⟨⟨vs, v, .of ha, hv⟩, fun x H3 y => ?_⟩
 obtain ⟨rfl, y⟩ := y
 have e : vs[i]? = some x := y vs (.of ha)
 rw [hv] at e; cases e
 exact ⟨Hc2, Ext.refl s2, fun ψ ψ h => h, rv.mono s1⟩
theorem itt_r {Hb Hc : Hp} {a : Addr} {us : List U} {vs : List V} (r : RUs W Hc us vs) (h : Hc a = some (.tup vs)) : ItR W Hb Hc (Itt W.K a) us := by
 intro Hc2 H2 s1 s2 s3
 have ha := s2 _ _ (s1 _ _ h)
 refine ⟨fun i u hu => ?_, vs, .of ha, by rw [r.len]; exact Nat.le_refl _⟩
 obtain ⟨v, hv, rv⟩ := r.at (i := 0) hu
 refine ⟨⟨vs, v, .of ha, hv⟩, fun x H3 y => ?_⟩
 obtain ⟨rfl, y⟩ := y
 have e : vs[i]? = some x := y vs (.of ha)
 rw [hv] at e; cases e
 exact ⟨Hc2, Ext.refl s2, fun ψ ψ h => h, rv.mono s1⟩
theorem di_e (ha : DE W m E ta fa) : DI W m E c (iSeq W.K ta) (iOf fa) := by
 intro H0 ρ ω σ Hc H ow S R h
 refine ha H0 ρ ω σ Hc H ow S _ ((Aft.bnd h).imp fun u ω1 Hc1 H1 e1 p1 h1 v rv => ?_)
 revert h1
 cases u with
 | lst us =>
  intro h1
  rw [RU] at rv
  obtain ⟨a, vs, rfl, q, r⟩ := rv
  exact ⟨a, rfl, .inl ⟨⟨vs, .of (e1.sub _ _ q)⟩, h1 Hc1 H1 (Ext.refl e1.sub) p1 _ (itl_r r fun Hc2 H2 s1 s2 ψ => s2 _ _ (s1 _ _ q))⟩⟩
 | tup us =>
  intro h1
  rw [RU] at rv
  obtain ⟨a, vs, rfl, q, r⟩ := rv
  exact ⟨a, rfl, .inr ⟨⟨vs, .of (e1.sub _ _ q)⟩, h1 Hc1 H1 (Ext.refl e1.sub) p1 _ (itt_r r q)⟩⟩
 | _ => exact fun h1 => h1.elim
theorem di_b (ha : DB W m E ta fa) : DI W m E true (iSeq W.K ta) (iOf fa) := by
 intro H0 ρ ω σ Hc H ow S R h
 refine ha H0 ρ ω σ Hc H ow S _ ((Aft.bnd h).imp fun u ω1 Hc1 H1 e1 p1 h1 v rv => ?_)
 revert h1
 cases u with
 | lst us =>
  intro h1
  rcases rv with rv | ⟨a, o, rfl, nl, q, vs, e, r⟩
  ·rw [RU] at rv
   obtain ⟨a, vs, rfl, q, r⟩ := rv
   exact ⟨a, rfl, .inl ⟨⟨vs, .of (e1.sub _ _ q)⟩, h1 Hc1 H1 (Ext.refl e1.sub) p1 _ (itl_r r fun Hc2 H2 s1 s2 ψ => s2 _ _ (s1 _ _ q))⟩⟩
  ·subst e
   exact ⟨a, rfl, .inl ⟨⟨vs, .of q⟩, h1 Hc1 H1 (Ext.refl e1.sub) p1 _ (itl_r r fun Hc2 H2 s1 s2 s3 => s3 _ _ nl q)⟩⟩
 | tup us =>
  intro h1
  obtain ⟨a, vs, rfl, q, r⟩ := rv.tup
  exact ⟨a, rfl, .inr ⟨⟨vs, .of (e1.sub _ _ q)⟩, h1 Hc1 H1 (Ext.refl e1.sub) p1 _ (itt_r r q)⟩⟩
 | _ => exact fun h1 => h1.elim
theorem di_v (h2 : i ∉ m.M) : DI W m E c (iSeq W.K (tVar i)) (iOf (eVar i)) := by
 intro H0 ρ ω σ Hc H ow S R h
 unfold iOf eVar at h
 split at h
 ·rename_i u e
  by_cases hb : i ∈ m.B
  ·obtain ⟨v, q, rv⟩ := S.bo i u hb h2 e
   refine ⟨v, q, ?_⟩
   rcases rv with rv | ⟨a, o, rfl, nl, q, r⟩
   ·revert h
    cases u with
    | lst us =>
     intro h1
     rw [RU] at rv
     obtain ⟨a, vs, rfl, q, r⟩ := rv
     exact ⟨a, rfl, .inl ⟨⟨vs, .of (S.sub _ _ q)⟩, h1 Hc H (Ext.refl S.sub) S.pl _ (itl_r r fun Hc2 H2 s1 s2 ψ => s2 _ _ (s1 _ _ q))⟩⟩
    | tup us =>
     intro h1
     rw [RU] at rv
     obtain ⟨a, vs, rfl, q, r⟩ := rv
     exact ⟨a, rfl, .inr ⟨⟨vs, .of (S.sub _ _ q)⟩, h1 Hc H (Ext.refl S.sub) S.pl _ (itt_r r q)⟩⟩
    | _ => exact fun h1 => h1.elim
   ·cases u with
    | lst us' =>
     obtain ⟨vs, rfl, r⟩ := r
     refine ⟨a, rfl, .inl ⟨⟨vs, .of (S.s0 _ _ nl q)⟩, h Hc H (Ext.refl S.sub) S.pl _ (itl_r r fun Hc2 H2 s1 s2 s3 => ?_)⟩⟩
     cases c with
     | true => exact s3 _ _ nl (S.s0 _ _ nl q)
     | false => exact s3 _ _ nl q
    | dic _ _ => exact h.elim
    | _ => exact r.elim
  ·have d : DE W m E (tVar i) (eVar i) := de_var hb h2
   refine di_e (c := c) d H0 ρ ω σ Hc H ow S R ?_
   unfold iOf eVar
   rw [e]
   exact h
 ·exact h.elim
noncomputable def rngU (lo : Int) (n : Nat) : List U := (List.range n).map fun i : Nat => U.int (lo + (i : Int))
theorem itr_r {Hb Hc : Hp} {lo : Int} {n : Nat} : ItR W Hb Hc (Itr lo n) (rngU lo n) := by
 intro Hc2 H2 s1 s2 s3
 refine ⟨fun i u hu => ?_, by show n ≤ (rngU lo n).length; simp [rngU]⟩
 unfold rngU at hu
 rw [List.getElem?_map] at hu
 have li : i < n := by
  by_cases l : i < n
  ·exact l
  ·rw [List.getElem?_eq_none (by simpa using l)] at hu; cases hu
 rw [List.getElem?_range li] at hu
 cases hu
 refine ⟨li, fun x H3 y => ?_⟩
 obtain ⟨rfl, rfl⟩ := y
 exact ⟨Hc2, Ext.refl s2, fun ψ ψ h => h, .int⟩
noncomputable def InR (j : Int) : Prop := -(2 ^ 62) ≤ j ∧ j < 2 ^ 62
open Classical in
noncomputable def uR1 : List U → Option (List U)
 | [.int j] => if InR j then some (rngU 0 j.toNat) else none
 | _ => none
noncomputable def iArgs (g : List U → Option (List U)) (fr : Af) : Af := fun ρ ω => (fr ρ ω).bnd fun us ω1 => .of (g us) ω1
theorem di_r1 (hr : DA W m E [true] tr fr) : DI W m E c (iRng1 tr) (iArgs uR1 fr) := by
 intro H0 ρ ω σ Hc H ow S R h
 refine hr H0 ρ ω σ Hc H ow S _ ((Aft.bnd h).imp fun us ω1 Hc1 H1 e1 p1 h1 vs rs => ?_)
 revert h1
 cases hg : uR1 us with
 | none => exact fun h1 => h1.elim
 | some ws =>
  intro h1
  unfold uR1 at hg
  split at hg
  ·split at hg <;> cases hg
   rename_i j hj
   obtain ⟨v, rfl, rv⟩ := rs.one
   have := rv.int; subst this
   exact ⟨j, rfl, hj.1, hj.2, h1 Hc1 H1 (Ext.refl e1.sub) p1 _ itr_r⟩
  ·cases hg
noncomputable def enumU (us : List U) : List U := us.mapIdx fun i u => .tup [.int i, u]
theorem ite_r {Hb Hc : Hp} {a : Addr} {us : List U} {vs : List V} (r : RUs W Hc us vs) (h : Hc a = some (.tup vs)) : ItR W Hb Hc (Ite W.K a) (enumU us) := by
 intro Hc2 H2 s1 s2 s3
 have ha := s2 _ _ (s1 _ _ h)
 refine ⟨fun i u hu => ?_, vs, .of ha, by unfold enumU; rw [List.length_mapIdx, r.len]; exact Nat.le_refl _⟩
 unfold enumU at hu
 rw [List.getElem?_mapIdx] at hu
 cases q : us[i]? with
 | none => rw [q] at hu; exact noS hu
 | some w =>
  rw [q] at hu; cases hu
  obtain ⟨v, hv, rv⟩ := r.at (i := 0) q
  refine ⟨⟨vs, v, .of ha, hv⟩, fun x H3 y => ?_⟩
  obtain ⟨b, z, hn, rfl, hz, rfl⟩ := y
  have e : vs[i]? = some z := hz vs (.of ha)
  rw [hv] at e; cases e
  refine ⟨upd Hc2 b (.tup [.int i, v]), (Ext.laid s2 hn).1, Same.laid hn, .tup upd_same (.cons .int (.one ((rv.mono s1).mono (Same.laid (s2.free hn)))))⟩
noncomputable def uEnum : List U → Option (List U)
 | [.tup us] => some (enumU us)
 | _ => none
theorem di_enum (hr : DA W m E [true] tr fr) : DI W m E c (iEnum W.K tr) (iArgs uEnum fr) := by
 intro H0 ρ ω σ Hc H ow S R h
 refine hr H0 ρ ω σ Hc H ow S _ ((Aft.bnd h).imp fun us ω1 Hc1 H1 e1 p1 h1 vs rs => ?_)
 revert h1
 cases hg : uEnum us with
 | none => exact fun h1 => h1.elim
 | some ws =>
  intro h1
  unfold uEnum at hg
  split at hg
  ·cases hg
   obtain ⟨v, rfl, rv⟩ := rs.one
   obtain ⟨a, vs, rfl, q, r⟩ := rv.tup
   exact ⟨a, rfl, ⟨vs, .of (e1.sub _ _ q)⟩, h1 Hc1 H1 (Ext.refl e1.sub) p1 _ (ite_r r q)⟩
  ·cases hg
end
theorem Ext.again {W : Wd} {Hc0 H0 Hc H : Hp} (x : Ext W Hc0 H0 Hc H) : Ext W Hc H0 Hc H := ⟨x.same, fun ψ ψ h => h, x.sub, fun ψ h ψ => h, x.frz⟩
theorem Ext.comp {W : Wd} {Hc0 H0 Hc H Hc' H' : Hp} (x : Ext W Hc0 H0 Hc H) (y : Ext W Hc H0 Hc' H') : Ext W Hc0 H0 Hc' H' := ⟨y.same, x.sc.trans y.sc, y.sub, fun b h k => y.new b (x.new b h k) k, y.frz⟩
noncomputable def forU (st : U → En → Om → Fl) : List U → En → Om → Fl
 | [], ρ, ω => .nx ρ ω
 | x :: xs, ρ, ω => match st x ρ ω with
  | .nx ρ' ω' => forU st xs ρ' ω'
  | .ct ρ' ω' => forU st xs ρ' ω'
  | .bk ρ' ω' => .nx ρ' ω'
  | o => o
noncomputable def stepU (a : U → En → Option En) (b : Sf) : U → En → Om → Fl := fun x ρ ω => match a x ρ with
 | some ρ' => b ρ' ω
 | none => .stk
noncomputable def sFor (fi : Af) (a : U → En → Option En) (b : Sf) : Sf := fun ρ ω => Fl.of (fi ρ ω) fun us ω1 => forU (stepU a b) us ρ ω1
section
variable {W : Wd} {m : Md} {E : XK} {wi : TI} {fi : Af} {g : TG} {a : U → En → Option En} {tb : TS} {b : Sf}
theorem drop_cons {α : Type} {xs : List α} {i : Nat} {x : α} (h : xs[i]? = some x) : xs.drop i = x :: xs.drop (i + 1) := by
 obtain ⟨l, e⟩ := List.getElem?_eq_some_iff.mp h
 rw [List.drop_eq_getElem_cons l, e]
theorem ds_for (hi : DI W m E false wi fi) (hg : DG W m g a) (hb : DS W m E tb b) : DS W m E (tFor wi g tb) (sFor fi a b) := by
 intro H0 Hc0 ρ ω σ Hc H ow S x D h
 refine hi H0 ρ ω σ Hc H ow S _ ((Cont.of x h).imp fun us ω1 Hc1 H1 e1 p1 k J hJ => ?_)
 have S1 := S.ext e1 p1
 refine ⟨fun i n σ H => n = us.length - i ∧ i ≤ us.length ∧ ∃ ρ ω Hc ow, Sr W m ρ ω σ H0 Hc H ow ∧ Ext W Hc0 H0 Hc H ∧ Same Hc1 Hc ∧ Cont W m E Hc0 H0 D (forU (stepU a b) (us.drop i) ρ ω), ⟨us.length, by simp, Nat.zero_le _, ρ, ω1, Hc1, ow, S1, x.trans e1, fun ψ ψ h => h, k⟩, ?_⟩
 rintro i n σ2 H2 ⟨rfl, hle, ρ2, ω2, Hc2, ow2, S2, x2, sc, k2⟩
 have J2 := hJ Hc2 H2 sc S2.sub S2.s0
 by_cases lt : i < us.length
 ·have hx : us[i]? = some us[i] := by simp [lt]
  obtain ⟨go, yl⟩ := J2.1 i _ hx
  rw [drop_cons hx] at k2
  refine .inr ⟨go, fun σ' H' => i + 1 ≤ us.length ∧ ∃ ρ ω Hc ow, Sr W m ρ ω σ' H0 Hc H' ow ∧ Ext W Hc0 H0 Hc H' ∧ Same Hc1 Hc ∧ Cont W m E Hc0 H0 D (forU (stepU a b) (us.drop (i + 1)) ρ ω), fun σ' H' hq => ⟨_, by omega, rfl, hq.1, hq.2⟩, fun y H3 hy => ?_⟩
  obtain ⟨Hc3, e3, s3, ry⟩ := yl y H3 hy
  have p3 : PlOk W ω2 Hc3 H3 := S2.pl.same e3 s3
  have S3 := S2.ext e3 p3
  have x3 := x2.trans e3
  unfold forU stepU at k2
  cases q : a us[i] ρ2 with
  | none => simp only [q] at k2; exact k2.elim
  | some ρ' =>
   simp only [q] at k2
   refine hg H0 ρ2 ω2 σ2 Hc3 H3 ow2 _ y ρ' S3 ry q _ fun σ' S' => ?_
   refine hb H0 Hc3 ρ' ω2 σ' Hc3 H3 ow2 S' x3.again _ ?_
   revert k2
   cases b ρ' ω2 with
   | nx ρ4 ω4 => exact fun k2 σ4 Hc4 H4 ow4 S4 x4 => ⟨lt, ρ4, ω4, Hc4, ow4, S4, x3.comp x4, (sc.trans e3.sc).trans x4.sc, k2⟩
   | ct ρ4 ω4 => exact fun k2 σ4 Hc4 H4 ow4 S4 x4 => ⟨lt, ρ4, ω4, Hc4, ow4, S4, x3.comp x4, (sc.trans e3.sc).trans x4.sc, k2⟩
   | bk ρ4 ω4 => exact fun k2 σ4 Hc4 H4 ow4 S4 x4 => k2 σ4 Hc4 H4 ow4 S4 (x3.comp x4)
   | rt u ω4 => exact fun k2 v Hc4 H4 x4 => k2 v Hc4 H4 (x3.comp x4)
   | err c pl ω4 => exact fun k2 C od Hc4 H4 x4 => k2 C od Hc4 H4 (x3.comp x4)
   | stk => exact fun k2 => k2
 ·have e : i = us.length := by omega
  subst e
  rw [List.drop_length] at k2
  exact .inl ⟨J2.2, k2 σ2 Hc2 H2 ow2 S2 x2⟩
noncomputable def wh (c : Tf) (b : Sf) : Nat → En → Om → Option Fl
 | 0, _, _ => none
 | n + 1, ρ, ω => match c ρ ω with
  | .ok true ω1 => match b ρ ω1 with
   | .nx ρ' ω' => wh c b n ρ' ω'
   | .ct ρ' ω' => wh c b n ρ' ω'
   | .bk ρ' ω' => some (.nx ρ' ω')
   | o => some o
  | .ok false ω1 => some (.nx ρ ω1)
  | .err e p ω1 => some (.err e p ω1)
  | .stk => some .stk
end
noncomputable def blkU (k : Nat) (js : List Nat) (ρ : En) : En := List.replicate k none ++ js.map fun j => (ρ[j]?).getD none
noncomputable def cmpU (st : U → Om → Res (Option U)) : List U → Om → Res (List U)
 | [], ω => .ok [] ω
 | x :: xs, ω => (st x ω).bnd fun o ω1 => (cmpU st xs ω1).bnd fun r ω2 => .ok (o.toList ++ r) ω2
noncomputable def cstU (a : U → En → Option En) (ft : Tf) (fe : Ef) (ρ : En) : U → Om → Res (Option U) := fun x ω => match a x ρ with
 | some ρ' => (ft ρ' ω).bnd fun b ω1 => if b = true then (fe ρ' ω1).bnd fun u ω2 => .ok (some u) ω2 else .ok none ω1
 | none => .stk
noncomputable def asOk {α β : Type} (r : Res α) (k : α → Om → Res β) : Res β := match r with
 | .ok a ω => k a ω
 | _ => .stk
@[simp] theorem asOk_ok {α β : Type} {a : α} {ω : Om} {k : α → Om → Res β} : asOk (.ok a ω) k = k a ω := rfl
open Classical in
noncomputable def eComp (fi : Af) (k : Nat) (js : List Nat) (a : U → En → Option En) (ft : Tf) (fe : Ef) : Ef := fun ρ ω => (fi ρ ω).bnd fun us ω1 =>
 if us.length ≤ sizeLine then asOk (cmpU (cstU a ft fe (blkU k js ρ)) us ω1) fun r ω2 => .ok (.lst r) ω2 else .stk
section
variable {W : Wd} {m mb : Md} {E : XK} {wi : TI} {fi : Af} {k : Nat} {js : List Nat} {g : TG} {a : U → En → Option En} {tc : TT} {ft : Tf} {te : TE} {fe : Ef}
theorem blk_at {ρ : En} {i : Nat} {u : U} (h : (blkU k js ρ)[i]? = some (some u)) : ∃ p j, i = k + p ∧ js[p]? = some j ∧ ρ[j]? = some (some u) := by
 unfold blkU at h
 by_cases l : i < k
 ·rw [List.getElem?_append_left (by simpa using l), List.getElem?_replicate] at h
  split at h <;> cases h
 ·rw [List.getElem?_append_right (by simpa using l), List.length_replicate, List.getElem?_map] at h
  refine ⟨i - k, ?_⟩
  cases q : js[i - k]? with
  | none => rw [q] at h; exact noS h
  | some j =>
   rw [q] at h
   refine ⟨j, by lia, rfl, ?_⟩
   cases q2 : ρ[j]? with
   | none => rw [show (some j).map (fun j => (ρ[j]?).getD none) = some ((ρ[j]?).getD none) from rfl, q2] at h; cases h
   | some w =>
    rw [show (some j).map (fun j => (ρ[j]?).getD none) = some ((ρ[j]?).getD none) from rfl, q2] at h
    cases h; rfl
theorem blkV_at {σ : St} {p j : Nat} {v : V} (h : js[p]? = some j) (hv : σ[j]? = some (some v)) : (blk k js σ)[k + p]? = some (some v) := by
 unfold blk
 rw [List.getElem?_append_right (by simp), List.length_replicate, Nat.add_sub_cancel_left, List.getElem?_map, h]
 show some ((σ[j]?).getD none) = _
 rw [hv]; rfl
theorem Sr.blk {ρ : En} {ω ω' : Om} {σ : St} {H0 Hc1 H1 Hc H : Hp} {ow : Nat → Addr} (S : Sr W m ρ ω σ H0 Hc1 H1 ow) (hB : ∀ p j, js[p]? = some j → (j ∈ m.B ∨ j ∈ m.M) → k + p ∈ mb.B) (hM : mb.M = []) (e : Ext W Hc1 H1 Hc H) (p : PlOk W ω' Hc H) :
  Sr W mb (blkU k js ρ) ω' (blk k js σ) H1 Hc H ow := by
 refine ⟨e.sub, e.same, fun b hb => (S.pl.out b hb).2, by unfold blkU L2.blk; simp, p, fun i u n1 n2 h => ?_, fun i u n1 n2 h => ?_, fun i u n h => (by rw [hM] at n; cases n), fun i j u w n => (by rw [hM] at n; cases n)⟩
 ·obtain ⟨q, j, rfl, hj, hu⟩ := blk_at h
  obtain ⟨v, hv, rv⟩ := S.cl j u (fun z => n1 (hB q j hj (.inl z))) (fun z => n1 (hB q j hj (.inr z))) hu
  exact ⟨v, blkV_at hj hv, rv.mono e.sc⟩
 ·obtain ⟨q, j, rfl, hj, hu⟩ := blk_at h
  obtain ⟨v, hv, rv⟩ := S.get hu
  refine ⟨v, blkV_at hj hv, ?_⟩
  rcases rv with rv | ⟨b, o, e2, nl, q1, q2⟩
  ·exact .inl (rv.mono e.sc)
  ·exact .inr ⟨b, o, e2, nl, q1, q2.mono e.sc⟩
@[reducible] def cmpI (W : Wd) (st : U → Om → Res (Option U)) (us tot : List U) (ωf : Om) (Hc1 H1 : Hp) : Nat → Nat → List V → Hp → Prop := fun i n ys H => n = us.length - i ∧ i ≤ us.length ∧ ∃ ω Hc acc rest, Ext W Hc1 H1 Hc H ∧ PlOk W ω Hc H ∧ RUs W Hc acc ys ∧ acc.length ≤ i ∧ cmpU st (us.drop i) ω = .ok rest ωf ∧ acc ++ rest = tot
theorem df_comp (hi : DI W m E true wi fi) (hg : DG W mb g a) (ht : DT W mb E0 tc ft) (he : DE W mb E0 te fe) (hB : ∀ p j, js[p]? = some j → (j ∈ m.B ∨ j ∈ m.M) → k + p ∈ mb.B) (hM : mb.M = []) :
  DF W m E (tComp wi k js g tc te) (eComp fi k js a ft fe) := by
 intro H0 ρ ω σ Hc H ow S Q h
 refine hi H0 ρ ω σ Hc H ow S _ ((Aft.bnd h).imp fun us ω1 Hc1 H1 e1 p1 h1 J hJ => ?_)
 have S1 := S.ext e1 p1
 rw [if_pos rfl] at hJ
 by_cases hl : us.length ≤ sizeLine
 ·rw [if_pos hl] at h1
  cases hr : cmpU (cstU a ft fe (blkU k js ρ)) us ω1 with
  | stk => rw [hr] at h1; exact h1.elim
  | err _ _ _ => rw [hr] at h1; exact h1.elim
  | ok tot ωf =>
   rw [hr] at h1
   refine ⟨cmpI W (cstU a ft fe (blkU k js ρ)) us tot ωf Hc1 H1,
    ⟨us.length, by simp, Nat.zero_le _, ω1, Hc1, [], tot, Ext.refl e1.sub, p1, .nil, Nat.zero_le _, hr, rfl⟩, ?_⟩
   rintro i n ys H2 ⟨rfl, hle, ω2, Hc2, acc, rest, e2, p2, r2, l2, w2, tt⟩
   have J2 := hJ Hc2 H2 e2.sc e2.sub e2.same
   by_cases lt : i < us.length
   ·have hx : us[i]? = some us[i] := by simp [lt]
    obtain ⟨go, yl⟩ := J2.1 i _ hx
    rw [drop_cons hx] at w2
    refine .inr ⟨go, by rw [← r2.len]; lia, fun y H3 hy => ?_⟩
    obtain ⟨Hc3, e3, s3, ry⟩ := yl y H3 hy
    have p3 : PlOk W ω2 Hc3 H3 := p2.same e3 s3
    have Sb := S1.blk (mb := mb) hB hM (e2.trans e3) p3
    unfold cmpU at w2
    cases q : a us[i] (blkU k js ρ) with
    | none => rw [show cstU a ft fe (blkU k js ρ) us[i] ω2 = .stk by unfold cstU; rw [q]] at w2; cases w2
    | some ρ' =>
     rw [show cstU a ft fe (blkU k js ρ) us[i] ω2 = (ft ρ' ω2).bnd fun b ω1 => if b = true then (fe ρ' ω1).bnd fun u ω2 => .ok (some u) ω2 else .ok none ω1 by unfold cstU; rw [q]] at w2
     refine hg H1 _ ω2 _ Hc3 H3 ow _ y ρ' Sb ry q _ fun σ' S' => ?_
     cases q2 : ft ρ' ω2 with
     | stk => rw [q2] at w2; cases w2
     | err _ _ _ => rw [q2] at w2; cases w2
     | ok b ω4 =>
      rw [q2] at w2
      refine ht H1 ρ' ω2 σ' Hc3 H3 ow S' _ ?_
      rw [q2]
      intro Hc4 H4 e4 p4
      have S4 := S'.ext e4 p4
      cases b with
      | false =>
       rw [if_neg Bool.false_ne_true]
       simp only [Res.bnd_ok, Bool.false_eq_true, if_false] at w2
       cases q5 : cmpU (cstU a ft fe (blkU k js ρ)) (us.drop (i + 1)) ω4 with
       | stk => rw [q5] at w2; cases w2
       | err _ _ _ => rw [q5] at w2; cases w2
       | ok r5 ω5 =>
        rw [q5] at w2
        simp only [Res.bnd_ok, Option.toList_none, List.nil_append] at w2
        cases w2
        exact ⟨_, by lia, rfl, lt, ω4, Hc4, acc, _, (e2.trans e3).trans e4, p4, (r2.mono e3.sc).mono e4.sc, by lia, q5, tt⟩
      | true =>
       rw [if_pos rfl]
       simp only [Res.bnd_ok, if_true] at w2
       cases q6 : fe ρ' ω4 with
       | stk => rw [q6] at w2; cases w2
       | err _ _ _ => rw [q6] at w2; cases w2
       | ok u ω6 =>
        rw [q6] at w2
        simp only [Res.bnd_ok] at w2
        refine he H1 ρ' ω4 σ' Hc4 H4 ow S4 _ ?_
        rw [q6]
        intro Hc6 H6 e6 p6 v rv
        cases q5 : cmpU (cstU a ft fe (blkU k js ρ)) (us.drop (i + 1)) ω6 with
        | stk => rw [q5] at w2; cases w2
        | err _ _ _ => rw [q5] at w2; cases w2
        | ok r5 ω5 =>
         rw [q5] at w2
         simp only [Res.bnd_ok, Option.toList_some] at w2
         cases w2
         exact ⟨_, by lia, rfl, lt, ω6, Hc6, acc ++ [u], _, ((e2.trans e3).trans e4).trans e6, p6, (((r2.mono e3.sc).mono e4.sc).mono e6.sc).app (.one rv), by simp; lia, q5, by rw [List.append_assoc]; exact tt⟩
   ·have e : i = us.length := by lia
    subst e
    rw [List.drop_length] at w2
    unfold cmpU at w2
    cases w2
    rw [List.append_nil] at tt
    subst tt
    refine .inl ⟨J2.2, by rw [← r2.len]; lia, fun p n => ?_⟩
    exact h1 Hc2 _ (e2.trans (laid_f e2.sub p2 n).1) (laid_f e2.sub p2 n).2 _ _ _ rfl (e2.sub.free n) ((e1.trans e2).frz' n) upd_same r2
 ·rw [if_neg hl] at h1; exact h1.elim
end
noncomputable def ContK (W : Wd) (E : XK) (Hc0 H0 : Hp) (D : Ends) (r : Fl) : Prop := match r with
 | .nx _ ω' => ∀ σ' Hc' H', Ext W Hc0 H0 Hc' H' → PlOk W ω' Hc' H' → D.nx σ' H'
 | .bk _ _ => False
 | .ct _ _ => False
 | .rt u ω' => ∀ v Hc' H', Ext W Hc0 H0 Hc' H' → PlOk W ω' Hc' H' → RU W Hc' u v → D.rt v H'
 | .err c pl ω' => ∀ C od Hc' H', Ext W Hc0 H0 Hc' H' → PlOk W ω' Hc' H' → W.mg c = some (.ref C) → XR Hc' pl od → E (.ref C) od H'
 | .stk => False
noncomputable def DK (W : Wd) (m : Md) (E : XK) (t : TS) (g : Sf) : Prop := ∀ H0 Hc0 ρ ω σ Hc H ow, Sr W m ρ ω σ H0 Hc H ow → Ext W Hc0 H0 Hc H → ∀ D : Ends, ContK W E Hc0 H0 D (g ρ ω) → t D σ H
section
variable {W : Wd} {m : Md} {E : XK} {t1 t2 t : TS} {g1 g2 gs : Sf}
theorem dk_one (h : DS W m E t gs) : DK W m E t gs := by
 intro H0 Hc0 ρ ω σ Hc H ow S x D k
 refine h H0 Hc0 ρ ω σ Hc H ow S x D ?_
 revert k
 cases gs ρ ω with
 | nx ρ' ω' => exact fun k σ' Hc' H' ow' S' x' => k σ' Hc' H' x' S'.pl
 | bk ρ' ω' => exact fun k => k.elim
 | ct ρ' ω' => exact fun k => k.elim
 | _ => exact fun k => k
theorem dk_seq (h1 : DS W m E t1 g1) (h2 : DK W m E t2 g2) : DK W m E (tSeq t1 t2) (sSeq g1 g2) := by
 intro H0 Hc0 ρ ω σ Hc H ow S x D h
 refine h1 H0 Hc0 ρ ω σ Hc H ow S x { D with nx := t2 D } ?_
 unfold sSeq at h
 revert h
 cases g1 ρ ω with
 | nx ρ' ω' => exact fun h σ' Hc' H' ow' S' x' => h2 H0 Hc0 ρ' ω' σ' Hc' H' ow' S' x' D h
 | bk ρ' ω' => exact fun k => k.elim
 | ct ρ' ω' => exact fun k => k.elim
 | _ => exact fun h => h
end
noncomputable def runU (n : Nat) (g : Sf) : Ff := fun us ω => match g (us.map some ++ List.replicate (n - us.length) none) ω with
 | .nx _ ω' => .ok .non ω'
 | .rt u ω' => .ok u ω'
 | .err c p ω' => .err c p ω'
 | _ => .stk
theorem RBs.at {W : Wd} {Hc H : Hp} : ∀ {bs : List Bool} {us : List U} {vs : List V} {i : Nat} {u : U}, RBs W Hc H bs us vs → us[i]? = some u → ∃ v b, vs[i]? = some v ∧ bs[i]? = some b ∧ if b = true then RB W Hc H u v else RU W Hc u v
 | [], [], [], _, _, _, e => by simp at e
 | b :: bs, u :: us, v :: vs, 0, w, h, e => by unfold RBs at h; simp at e; subst e; exact ⟨v, b, rfl, rfl, h.1⟩
 | b :: bs, u :: us, v :: vs, i + 1, w, h, e => by
  unfold RBs at h
  obtain ⟨v', b', q1, q2, q3⟩ := RBs.at h.2 (show us[i]? = some w by simpa using e)
  exact ⟨v', b', by simpa using q1, by simpa using q2, q3⟩
 | [], _ :: _, _, _, _, h, _ => by unfold RBs at h; exact h.elim
 | [], [], _ :: _, _, _, h, _ => by unfold RBs at h; exact h.elim
 | _ :: _, [], _, _, _, h, _ => by unfold RBs at h; exact h.elim
 | _ :: _, _ :: _, [], _, _, h, _ => by unfold RBs at h; exact h.elim
theorem Sr.start {W : Wd} {m : Md} {ω : Om} {Hc H : Hp} {bs : List Bool} {us : List U} {vs : List V} {N : List Str} (s : Same Hc H) (p : PlOk W ω Hc H) (r : RBs W Hc H bs us vs) (hB : ∀ i, bs[i]? = some true → i ∈ m.B) (hM : ∀ i ∈ m.M, bs.length ≤ i) (hn : vs.length ≤ N.length) :
  Sr W m (us.map some ++ List.replicate (N.length - us.length) none) ω (L2.start N vs) H Hc H (fun ψ => 0) := by
 have l1 := r.len.1
 have l2 := r.len.2
 have key : ∀ {i : Nat} {u : U}, (us.map some ++ List.replicate (N.length - us.length) none)[i]? = some (some u) → us[i]? = some u := fun {i u} h => by
  by_cases l : i < us.length
  ·rw [List.getElem?_append_left (by simpa using l), List.getElem?_map] at h
   cases q : us[i]? with
   | none => rw [q] at h; exact noS h
   | some w => rw [q] at h; cases h; rfl
  ·rw [List.getElem?_append_right (by simpa using l), List.getElem?_replicate] at h
   split at h <;> cases h
 have kv : ∀ {i : Nat} {v : V}, vs[i]? = some v → (L2.start N vs)[i]? = some (some v) := fun {i v} h => by
  have l : i < vs.length := (List.getElem?_eq_some_iff.mp h).1
  unfold L2.start
  rw [List.getElem?_append_left (by simpa using l), List.getElem?_map, h]; rfl
 refine ⟨s, fun ψ ψ ψ h => h, fun b hb => (p.out b hb).2, by unfold L2.start; simp; lia, p, fun i u n1 n2 h => ?_, fun i u n1 n2 h => ?_, fun i u n h => ?_, fun i j u w n m' ne h => ?_⟩
 ·obtain ⟨v, b, q1, q2, q3⟩ := r.at (key h)
  cases b with
  | true => exact absurd (hB i q2) n1
  | false => exact ⟨v, kv q1, q3⟩
 ·obtain ⟨v, b, q1, q2, q3⟩ := r.at (key h)
  refine ⟨v, kv q1, ?_⟩
  cases b with
  | true => exact q3
  | false => exact .inl q3
 ·have z := (List.getElem?_eq_some_iff.mp (key h)).1
  have := hM i n
  lia
 ·have z := (List.getElem?_eq_some_iff.mp (key h)).1
  have := hM i n
  lia
section
variable {P : Program} {w : World} {K : L2.Fg} {mg : L2.SV} {base : Heap}
theorem Fun.okU {x qual : Str} {st : Stmt} {f : Addr} {fd : FuncData} {N ps : List Str} {k : Nat} {wk : Wd → Prop} {bs : List Bool} {m : Md} {g : Sf} (F : Fun K x qual st f fd) (S : FnScope N ps (defScope st)) (hl : bs.length = ps.length) (hB : ∀ i, bs[i]? = some true → i ∈ m.B) (hM : ∀ i ∈ m.M, bs.length ≤ i) (hN : ps.length ≤ N.length)
  (hbody : ∀ (cdv : Value) (A : Around) (outer : List Env) (s : Shared) (H : Hp) (E : XK) (W : Wd), W.K = K → W.mg = mg → wk W → Room k (A.deeper (envOfC qual (defScope st) s.heap.objs.size f cdv)) → A.handled = none →
   ∃ t, PSs (cxOf (CX1 P w) P w K mg base N qual (defScope st) f cdv A outer s H E) (defBody st) t ∧ DK W m E t g) : FnOk P w K mg base (CX1 P w) (k + 1) f fd ps (spU K mg wk bs.length bs (runU N.length g)) := by
 refine F.okX S (fun vs H Q E h => ?_) fun cdv A outer s H vs Q E hr hA hsp => ?_
 ·obtain ⟨W, us, ω, Hc, _, _, _, hl', _⟩ := h
  rw [hl', hl]
 ·obtain ⟨W, us, ω, Hc, hK, hm, hw, hl', sub, pl, rbs, aft⟩ := hsp
  obtain ⟨t, ht, dk⟩ := hbody cdv A outer s H E W hK hm hw hr hA
  refine ⟨t, ht, dk H Hc _ ω _ Hc H _ (Sr.start (N := N) sub pl rbs hB hM (by rw [hl', hl]; exact hN)) (Ext.refl sub) _ ?_⟩
  unfold runU at aft
  revert aft
  cases g (us.map some ++ List.replicate (N.length - us.length) none) ω with
  | nx ρ' ω' => exact fun h σ' Hc' H' e p => h Hc' H' e p _ .non
  | rt u ω' => exact fun h v Hc' H' e p r => h Hc' H' e p v r
  | err c pl ω' => exact fun h => h
  | bk _ _ => exact fun h => h
  | ct _ _ => exact fun h => h
  | stk => exact fun h => h
end
noncomputable abbrev FC (ι : Type) := ι → Cx
section
variable {W : Wd} {m : Md} {E : XK} {te : TE} {fe : Ef}
noncomputable def sRaise (c : Str) (fe : Ef) : Sf := fun ρ ω => Fl.of (fe ρ ω) fun ψ ω1 => .err c none ω1
theorem ds_raise {C : Addr} {c : Str} (hm : W.mg c = some (.ref C)) (he : DB W m E te fe) : DS W m E (tRaise E C te) (sRaise c fe) := by
 intro H0 Hc0 ρ ω σ Hc H ow S x D h
 refine he H0 ρ ω σ Hc H ow S _ ((Cont.of x h).imp fun u ω1 Hc1 H1 e1 p1 k v rv => ?_)
 exact k C none Hc1 H1 (x.trans e1) p1 hm rfl
end
structure Ctx {ι : Type} (X : L2.FC ι) (W : Wd) (E : XK) : Prop where
 hK : ∀ x, (X x).K = W.K
 hm : ∀ x, (X x).mg = W.mg
 calm : ∀ x, (X x).calm = true
 hu : ∀ x, (X x).A.units + 64 < cLine
 ps : ∀ x, Passes (CX1 (X x).prog (X x).w) (X x) E
section
variable {ι : Type} (X : L2.FC ι) (W : Wd) (m : Md) (E : XK)
noncomputable def QE (e : Expr) (f : Ef) : Prop := ∃ t, (∀ x, PE (X x) e t) ∧ DE W m E t f
noncomputable def QB (e : Expr) (f : Ef) : Prop := ∃ t, (∀ x, PE (X x) e t) ∧ DB W m E t f
noncomputable def QF (e : Expr) (f : Ef) : Prop := ∃ t, (∀ x, PE (X x) e t) ∧ DF W m E t f
noncomputable def QT (e : Expr) (f : Tf) : Prop := ∃ t, (∀ x, PT (X x) e t) ∧ DT W m E t f
noncomputable def QW (e : Expr) (f : Tf) : Prop := ∃ t, (∀ x, PW (X x) e t) ∧ DT W m E t f
noncomputable def QTs (es : List Expr) (f : Tf) : Prop := ∃ t, (∀ x, PTs (X x) es t) ∧ DT W m E t f
noncomputable def QA (bs : List Bool) (es : List Expr) (f : Af) : Prop := ∃ t, (∀ x, PA (X x) es t) ∧ DA W m E bs t f
noncomputable def QP (e : Option Expr) (f : Pf) : Prop := ∃ t, (∀ x, PO (X x) e t) ∧ DP W m E t f
noncomputable def QI (c : Bool) (tg e : Expr) (f : Af) : Prop := ∃ t, (∀ x, PI (X x) tg e t) ∧ DI W m E c t f
noncomputable def QG (e : Expr) (a : U → En → Option En) : Prop := ∃ t, (∀ x, PG (X x) e t) ∧ DG W m t a
noncomputable def QGs (es : List Expr) (a : List U → En → Option En) : Prop := ∃ t, (∀ x, PGs (X x) es t) ∧ DGs W m t a
noncomputable def QS (s : Stmt) (g : Sf) : Prop := ∃ t, (∀ x, PS (X x) s t) ∧ DS W m E t g
noncomputable def QSs (s : List Stmt) (g : Sf) : Prop := ∃ t, (∀ x, PSs (X x) s t) ∧ DS W m E t g
noncomputable def QK (s : List Stmt) (g : Sf) : Prop := ∃ t, (∀ x, PSs (X x) s t) ∧ DK W m E t g
end
section
variable {ι : Type} {X : L2.FC ι} {W : Wd} {m : Md} {E : XK} {a b c e : Expr} {fa fb fc f : Ef} {ft ft' : Tf} {fr : Af} {bs : List Bool} {es : List Expr} {pos p p2 : Pos} {i : Nat} {x : Str}
theorem QE.tb (h : QE X W m E e f) : QB X W m E e f := let ⟨t, p, d⟩ := h; ⟨t, p, d.b⟩
theorem QF.te (h : QF X W m E e f) : QE X W m E e f := let ⟨t, p, d⟩ := h; ⟨t, p, d.e⟩
theorem QF.tb (h : QF X W m E e f) : QB X W m E e f := h.te.tb
theorem qe_var (i : Nat) (h1 : i ∉ m.B := by decide) (h2 : i ∉ m.M := by decide) (hN : ∀ y, (X y).N[i]? = some x := by intro ψ; rfl) (hv : ∀ y, Vis (X y).env.scope x := by intro ψ; first | exact Or.inl rfl | exact Or.inr (Or.inl rfl) | exact Or.inr (Or.inr rfl)) (hd : (x == ("__debug__" : Str)) = false := by decide)
  (hcd : (x == ("__classdict__" : Str)) = false := by decide) : QE X W m E (.Name x pos) (eVar i) := ⟨_, fun y => pe_var (hN y) (hv y) hd hcd, de_var h1 h2⟩
theorem qb_var (i : Nat) (hN : ∀ y, (X y).N[i]? = some x := by intro ψ; rfl) (hv : ∀ y, Vis (X y).env.scope x := by intro ψ; first | exact Or.inl rfl | exact Or.inr (Or.inl rfl) | exact Or.inr (Or.inr rfl)) (hd : (x == ("__debug__" : Str)) = false := by decide)
  (hcd : (x == ("__classdict__" : Str)) = false := by decide) : QB X W m E (.Name x pos) (eVar i) := ⟨_, fun y => pe_var (hN y) (hv y) hd hcd, db_var⟩
theorem qe_int {k : Int} {j} : QE X W m E (.Constant (.int k) j pos) (eC (.int k)) := ⟨_, fun ψ => pe_int, de_c fun ψ => .int⟩
theorem qe_bl {k : Bool} {j} : QE X W m E (.Constant (.bool k) j pos) (eC (.bl k)) := ⟨_, fun ψ => pe_bl, de_c fun ψ => .bl⟩
theorem qe_non {j} : QE X W m E (.Constant .none j pos) (eC .non) := ⟨_, fun ψ => pe_non, de_c fun ψ => .non⟩
theorem qe_str {k : Str} {j} : QE X W m E (.Constant (.str k) j pos) (eC (.str k)) := ⟨_, fun ψ => pe_str, de_c fun ψ => .str⟩
theorem qe_ty {n : String} (hm : ∀ y, (X y).mg x = none) (hv : bootBuiltins x = some (.type n)) (hg : ∀ y, Gl (X y) x := by intro ψ; rfl) (hn : x ≠ "__name__" := by decide) (hd : (x == ("__debug__" : Str)) = false := by decide) : QE X W m E (.Name x pos) (eC (.ty n)) :=
 ⟨_, fun y => pe_bltn (v := .ty n) (hg y) (hm y) hv rfl hn hd, de_c fun ψ => .ty⟩
theorem qe_bop {op : Operator} {r : R2} {g : U → U → Option U} (o : ∀ y, OpR (X y) (binaryOp op) r) (u : OpU W r g) (ha : QB X W m E a fa) (hb : QB X W m E b fb) : QE X W m E (.BinOp a op b pos) (eOp g fa fb) :=
 let ⟨_, pa, da⟩ := ha; let ⟨_, pb, db⟩ := hb; ⟨_, fun y => pe_op (o y) (pa y) (pb y), de_op u da db⟩
theorem qe_add (cx : Ctx X W E) (ha : QB X W m E a fa) (hb : QB X W m E b fb) : QE X W m E (.BinOp a .Add b pos) (eOp uAdd fa fb) := qe_bop (fun y => op_addU (cx.hK y)) ou_add ha hb
theorem qe_sub (ha : QB X W m E a fa) (hb : QB X W m E b fb) : QE X W m E (.BinOp a .Sub b pos) (eOp uSub fa fb) := qe_bop (fun ψ => op_sub) ou_sub ha hb
theorem qe_mul (ha : QB X W m E a fa) (hb : QB X W m E b fb) : QE X W m E (.BinOp a .Mult b pos) (eOp uMul fa fb) := qe_bop (fun ψ => op_mulB) ou_mul ha hb
theorem qe_div (ha : QB X W m E a fa) (hb : QB X W m E b fb) : QE X W m E (.BinOp a .FloorDiv b pos) (eOp uDiv fa fb) := qe_bop (fun ψ => op_fdivB) ou_div ha hb
theorem qe_mod (ha : QB X W m E a fa) (hb : QB X W m E b fb) : QE X W m E (.BinOp a .Mod b pos) (eOp uMod fa fb) := qe_bop (fun ψ => op_mod) ou_mod ha hb
theorem qe_pow (ha : QB X W m E a fa) (hb : QB X W m E b fb) : QE X W m E (.BinOp a .Pow b pos) (eOp uPow fa fb) := qe_bop (fun ψ => op_pow) ou_pow ha hb
theorem qe_neg (ha : QB X W m E a fa) : QE X W m E (.UnaryOp .USub a pos) (eUn uNeg fa) := let ⟨_, pa, da⟩ := ha; ⟨_, fun y => pe_un un_neg (pa y), de_neg da⟩
theorem qe_cmp {op : CmpOp} {r : R2} {g : U → U → Option U} (o : ∀ y, OpR (X y) (compareOp op) r) (u : OpU W r g) (hm : behindInMarks op b = false) (ha : QB X W m E a fa) (hb : QB X W m E b fb) : QE X W m E (.Compare a [op] [b] pos) (eOp g fa fb) :=
 let ⟨_, pa, da⟩ := ha; let ⟨_, pb, db⟩ := hb; ⟨_, fun y => pe_cmpR (o y) (pa y) (pb y) hm, de_op u da db⟩
theorem qt_cmp {op : CmpOp} {r : R2} {g : U → U → Option U} (o : ∀ y, OpR (X y) (compareOp op) r) (u : OpU W r g) (hm : behindInMarks op b = false) (ha : QB X W m E a fa) (hb : QB X W m E b fb) : QT X W m E (.Compare a [op] [b] pos) (tfB (eOp g fa fb)) :=
 let ⟨_, pa, da⟩ := ha; let ⟨_, pb, db⟩ := hb; ⟨_, fun y => pt_cmpR (o y) (pa y) (pb y) hm, dt_t (de_op u da db).b⟩
theorem qe_eq (cx : Ctx X W E) (ha : QB X W m E a fa) (hb : QB X W m E b fb) : QE X W m E (.Compare a [.Eq] [b] pos) (eOp uEq fa fb) := qe_cmp (fun y => op_eqK (cx.hK y) (cx.hu y)) ou_eq (nomark _) ha hb
theorem qt_lt (ha : QB X W m E a fa) (hb : QB X W m E b fb) : QT X W m E (.Compare a [.Lt] [b] pos) (tfB (eOp uLt fa fb)) := qt_cmp (fun ψ => op_lt) ou_lt (nomark _) ha hb
theorem qt_le (ha : QB X W m E a fa) (hb : QB X W m E b fb) : QT X W m E (.Compare a [.LtE] [b] pos) (tfB (eOp uLe fa fb)) := qt_cmp (fun ψ => op_le) ou_le (nomark _) ha hb
theorem qt_gt (ha : QB X W m E a fa) (hb : QB X W m E b fb) : QT X W m E (.Compare a [.Gt] [b] pos) (tfB (eOp uGt fa fb)) := qt_cmp (fun ψ => op_gt) ou_gt (nomark _) ha hb
theorem qt_ge (ha : QB X W m E a fa) (hb : QB X W m E b fb) : QT X W m E (.Compare a [.GtE] [b] pos) (tfB (eOp uGe fa fb)) := qt_cmp (fun ψ => op_ge) ou_ge (nomark _) ha hb
theorem qt_eq (cx : Ctx X W E) (ha : QB X W m E a fa) (hb : QB X W m E b fb) : QT X W m E (.Compare a [.Eq] [b] pos) (tfB (eOp uEq fa fb)) := qt_cmp (fun y => op_eqK (cx.hK y) (cx.hu y)) ou_eq (nomark _) ha hb
theorem qt_ne (cx : Ctx X W E) (ha : QB X W m E a fa) (hb : QB X W m E b fb) : QT X W m E (.Compare a [.NotEq] [b] pos) (tfB (eOp uNe fa fb)) := qt_cmp (fun y => op_neK (cx.hK y) (cx.hu y)) ou_ne (nomark _) ha hb
theorem qt_lelt (ha : QB X W m E a fa) (hb : QB X W m E b fb) (hc : QB X W m E c fc) (hm : lastMarks [.LtE, .Lt] [b, c] = false := by with_unfolding_all rfl) : QT X W m E (.Compare a [.LtE, .Lt] [b, c] pos) (tfB (eChain uLe uLt fa fb fc)) :=
 let ⟨_, pa, da⟩ := ha; let ⟨_, pb, db⟩ := hb; let ⟨_, pc, dc⟩ := hc; ⟨_, fun y => pt_chain op_le op_lt (pa y) (pb y) (pc y) hm, dt_t (de_chain ou_le ou_lt da db dc).b⟩
theorem qt_val (ha : QB X W m E a fa) (he : ∀ y whole, isTrue a (X y).env whole = (do let v ← whole; standAt a.pos; holding [v] (truthy v)) := by intro ψ ψ; rfl) : QT X W m E a (tfB fa) := let ⟨_, pa, da⟩ := ha; ⟨_, fun y => pt_val (pa y) (he y), dt_b da⟩
theorem qt_not (ha : QT X W m E a ft) : QT X W m E (.UnaryOp .Not a pos) (tfNot ft) := let ⟨_, pa, da⟩ := ha; ⟨_, fun y => pt_not (pa y), dt_not da⟩
theorem QW.t (ha : QW X W m E a ft) : QT X W m E a ft := let ⟨_, pa, da⟩ := ha; ⟨_, fun y => (pa y).pt, da⟩
theorem qw_and1 (ha : QT X W m E a ft) : QW X W m E (.BoolOp .And [a] pos) ft := let ⟨_, pa, da⟩ := ha; ⟨_, fun y => pw_and1 (pa y), da⟩
theorem qw_or1 (ha : QT X W m E a ft) : QW X W m E (.BoolOp .Or [a] pos) ft := let ⟨_, pa, da⟩ := ha; ⟨_, fun y => pw_or1 (pa y), da⟩
theorem qw_and (ha : QT X W m E a ft) (hb : QW X W m E (.BoolOp .And (b :: es) pos) ft') : QW X W m E (.BoolOp .And (a :: b :: es) pos) (tfAnd ft ft') := let ⟨_, pa, da⟩ := ha; let ⟨_, pb, db⟩ := hb; ⟨_, fun y => pw_and (pa y) (pb y), dt_and da db⟩
theorem qw_or (ha : QT X W m E a ft) (hb : QW X W m E (.BoolOp .Or (b :: es) pos) ft') : QW X W m E (.BoolOp .Or (a :: b :: es) pos) (tfOr ft ft') := let ⟨_, pa, da⟩ := ha; let ⟨_, pb, db⟩ := hb; ⟨_, fun y => pw_or (pa y) (pb y), dt_or da db⟩
theorem qe_one {op} (ha : QE X W m E a fa) : QE X W m E (.BoolOp op [a] pos) fa := let ⟨_, pa, da⟩ := ha; ⟨_, fun y => pe_one (pa y), da⟩
theorem qe_and (ha : QB X W m E a fa) (hb : QE X W m E (.BoolOp .And (b :: es) pos) fb) : QE X W m E (.BoolOp .And (a :: b :: es) pos) (eAnd fa fb) := let ⟨_, pa, da⟩ := ha; let ⟨_, pb, db⟩ := hb; ⟨_, fun y => pe_and (pa y) (pb y), de_and da db⟩
theorem qe_if (hc : QT X W m E c ft) (ha : QE X W m E a fa) (hb : QE X W m E b fb) : QE X W m E (.IfExp c a b pos) (eIf ft fa fb) := let ⟨_, pc, dc⟩ := hc; let ⟨_, pa, da⟩ := ha; let ⟨_, pb, db⟩ := hb; ⟨_, fun y => pe_ifExp (pc y) (pa y) (pb y), de_if dc da db⟩
theorem qe_ix (cx : Ctx X W E) (ha : QB X W m E a fa) (hb : QB X W m E b fb) (hs : PlainIx b := by exact fun ψ ψ => rfl) : QE X W m E (.Subscript a b pos) (eOp uIx fa fb) := let ⟨_, pa, da⟩ := ha; let ⟨_, pb, db⟩ := hb; ⟨_, fun y => pe_ix (ix_anyK (cx.hK y)) (pa y) (pb y) hs, de_op ou_ix da db⟩
theorem qp_none : QP X W m E none pNo := ⟨_, fun ψ => po_none, dp_no⟩
theorem qp_some (ha : QB X W m E a fa) : QP X W m E (some a) (pSome fa) := let ⟨_, pa, da⟩ := ha; ⟨_, fun y => po_some (pa y), dp_some da⟩
theorem qe_sl {lo hi : Option Expr} {fl fh : Pf} (cx : Ctx X W E) (ha : QB X W m E a fa) (hl : QP X W m E lo fl) (hh : QP X W m E hi fh) : QE X W m E (.Subscript a (.Slice lo hi none p2) pos) (eSl uSl fa fl fh) :=
 let ⟨_, pa, da⟩ := ha; let ⟨_, pl, dl⟩ := hl; let ⟨_, ph, dh⟩ := hh; ⟨_, fun y => pe_slice (sl_u (cx.hK y)) (pa y) (pl y) (ph y), de_sl da dl dh⟩
theorem qa_nil : QA X W m E [] [] aNil := ⟨_, fun ψ => pa_nil, da_nil⟩
theorem qa_b (ha : QB X W m E a fa) (hr : QA X W m E bs es fr) (hs : ∀ y, starEach (a :: es) (X y).env = (false, eval a (X y).env) :: starEach es (X y).env := by intro ψ; rfl) : QA X W m E (true :: bs) (a :: es) (aCons fa fr) := let ⟨_, pa, da⟩ := ha; let ⟨_, pr, dr⟩ := hr; ⟨_, fun y => pa_cons (pa y) (pr y) (hs y), da_b da dr⟩
theorem qa_e (ha : QE X W m E a fa) (hr : QA X W m E bs es fr) (hs : ∀ y, starEach (a :: es) (X y).env = (false, eval a (X y).env) :: starEach es (X y).env := by intro ψ; rfl) : QA X W m E (false :: bs) (a :: es) (aCons fa fr) := let ⟨_, pa, da⟩ := ha; let ⟨_, pr, dr⟩ := hr; ⟨_, fun y => pa_cons (pa y) (pr y) (hs y), da_e da dr⟩
theorem qe_tup {x1} (ha : QA X W m E bs es fr) (ho : offs bs = true := by rfl) : QE X W m E (.Tuple es x1 pos) (eTup fr) := let ⟨_, pa, da⟩ := ha; ⟨_, fun y => pe_tup (pa y), de_tup ho da⟩
theorem qf_lst (ha : QA X W m E bs es fr) (ho : offs bs = true := by rfl) : QF X W m E (.List es pos) (eLst fr) := let ⟨_, pa, da⟩ := ha; ⟨_, fun y => pe_lst (pa y), df_lst ho da⟩
theorem qe_cb {id : String} {r : List V → Hp → VK → Prop} {g : List U → Option U} (o : ∀ y, CallR (X y) (.builtin id) r) (u : CallU W bs r g) (hm : ∀ y, (X y).mg x = none) (hv : bootBuiltins x = some (.builtin id)) (ha : QA X W m E bs (a :: es) fr) (hg : ∀ y, Gl (X y) x := by intro ψ; rfl) (hn : x ≠ "__name__" := by decide) (hd : (x == ("__debug__" : Str)) = false := by decide)
  (hs : ∀ y, starEach (a :: es) (X y).env = (false, eval a (X y).env) :: starEach es (X y).env := by intro ψ; rfl) (hp : ∀ y, (backTo pos (starEach es (X y).env)).any (·.1) = false := by intro ψ; rfl) : QE X W m E (.Call (.Name x p) (a :: es) [] pos) (eB g fr) :=
 let ⟨_, pa, da⟩ := ha; ⟨_, fun y => pe_callB (o y) (hg y) (hm y) hv (pa y) hn hd (hs y) (hp y), de_cb u da⟩
theorem qe_ct {T : String} {r : List V → Hp → VK → Prop} {g : List U → Option U} (o : ∀ y, CallR (X y) (.type T) r) (u : CallU W bs r g) (hm : ∀ y, (X y).mg x = none) (hv : bootBuiltins x = some (.type T)) (ha : QA X W m E bs (a :: es) fr) (hg : ∀ y, Gl (X y) x := by intro ψ; rfl) (hn : x ≠ "__name__" := by decide) (hd : (x == ("__debug__" : Str)) = false := by decide)
  (hs : ∀ y, starEach (a :: es) (X y).env = (false, eval a (X y).env) :: starEach es (X y).env := by intro ψ; rfl) (hp : ∀ y, (backTo pos (starEach es (X y).env)).any (·.1) = false := by intro ψ; rfl) : QE X W m E (.Call (.Name x p) (a :: es) [] pos) (eB g fr) :=
 let ⟨_, pa, da⟩ := ha; ⟨_, fun y => pe_callTy (o y) (hg y) (hm y) hv (pa y) hn hd (hs y) (hp y), de_cb u da⟩
theorem qf_ct {T : String} {r : List V → Hp → VK → Prop} {g : List U → Option U} (o : ∀ y, CallR (X y) (.type T) r) (u : CallF W bs r g) (hm : ∀ y, (X y).mg x = none) (hv : bootBuiltins x = some (.type T)) (ha : QA X W m E bs (a :: es) fr) (hg : ∀ y, Gl (X y) x := by intro ψ; rfl) (hn : x ≠ "__name__" := by decide) (hd : (x == ("__debug__" : Str)) = false := by decide)
  (hs : ∀ y, starEach (a :: es) (X y).env = (false, eval a (X y).env) :: starEach es (X y).env := by intro ψ; rfl) (hp : ∀ y, (backTo pos (starEach es (X y).env)).any (·.1) = false := by intro ψ; rfl) : QF X W m E (.Call (.Name x p) (a :: es) [] pos) (eB g fr) :=
 let ⟨_, pa, da⟩ := ha; ⟨_, fun y => pe_callTy (o y) (hg y) (hm y) hv (pa y) hn hd (hs y) (hp y), df_cb u da⟩
structure Bl (mg : L2.SV) : Prop where
 len : mg "len" = none
 range : mg "range" = none
 sum : mg "sum" = none
 tuple : mg "tuple" = none
 list : mg "list" = none
 max : mg "max" = none
 min : mg "min" = none
 isinstance : mg "isinstance" = none
 int : mg "int" = none
 bool : mg "bool" = none
 abs : mg "abs" = none
 zip : mg "zip" = none
 enumerate : mg "enumerate" = none
 any : mg "any" = none
 all : mg "all" = none
 sorted : mg "sorted" = none
 set : mg "set" = none
 dict : mg "dict" = none
 reversed : mg "reversed" = none
 ValueError : mg "ValueError" = none
theorem Ctx.no {B : Bl W.mg} (cx : Ctx X W E) {x : Str} (h : W.mg x = none) (y : ι) : (X y).mg x = none := (congrFun (cx.hm y) x).trans h
variable {B : Bl W.mg}
theorem qe_len (cx : Ctx X W E) (B : Bl W.mg) (ha : QB X W m E a fa) (hg : ∀ y, Gl (X y) "len" := by intro ψ; rfl) (hs : ∀ y, starEach [a] (X y).env = (false, eval a (X y).env) :: starEach [] (X y).env := by intro ψ; rfl) (hp : ∀ y, (backTo pos (starEach [] (X y).env)).any (·.1) = false := by intro ψ; rfl) : QE X W m E (.Call (.Name "len" p) [a] [] pos) (eB uLen (aCons fa aNil)) :=
 qe_cb (fun y => call_lenK (cx.hK y)) cu_len (fun y => (congrFun (cx.hm y) _).trans B.len) boot_len (qa_b ha qa_nil hs) hg (by decide) (by decide) hs hp
theorem qe_tuple (cx : Ctx X W E) (B : Bl W.mg) (ha : QB X W m E a fa) (hg : ∀ y, Gl (X y) "tuple" := by intro ψ; rfl) (hs : ∀ y, starEach [a] (X y).env = (false, eval a (X y).env) :: starEach [] (X y).env := by intro ψ; rfl) (hp : ∀ y, (backTo pos (starEach [] (X y).env)).any (·.1) = false := by intro ψ; rfl) : QE X W m E (.Call (.Name "tuple" p) [a] [] pos) (eB uTuple (aCons fa aNil)) :=
 qe_ct (fun y => call_tupK (cx.hK y)) cu_tuple (fun y => (congrFun (cx.hm y) _).trans B.tuple) boot_tuple (qa_b ha qa_nil hs) hg (by decide) (by decide) hs hp
theorem qf_list (cx : Ctx X W E) (B : Bl W.mg) (ha : QB X W m E a fa) (hg : ∀ y, Gl (X y) "list" := by intro ψ; rfl) (hs : ∀ y, starEach [a] (X y).env = (false, eval a (X y).env) :: starEach [] (X y).env := by intro ψ; rfl) (hp : ∀ y, (backTo pos (starEach [] (X y).env)).any (·.1) = false := by intro ψ; rfl) : QF X W m E (.Call (.Name "list" p) [a] [] pos) (eB uList (aCons fa aNil)) :=
 qf_ct (fun y => call_lstK (cx.hK y)) cf_list (fun y => (congrFun (cx.hm y) _).trans B.list) boot_list (qa_b ha qa_nil hs) hg (by decide) (by decide) hs hp
theorem qe_abs (cx : Ctx X W E) (B : Bl W.mg) (ha : QB X W m E a fa) (hg : ∀ y, Gl (X y) "abs" := by intro ψ; rfl) (hs : ∀ y, starEach [a] (X y).env = (false, eval a (X y).env) :: starEach [] (X y).env := by intro ψ; rfl) (hp : ∀ y, (backTo pos (starEach [] (X y).env)).any (·.1) = false := by intro ψ; rfl) : QE X W m E (.Call (.Name "abs" p) [a] [] pos) (eB uAbs (aCons fa aNil)) :=
 qe_cb (fun ψ => call_absU) cu_abs (fun y => (congrFun (cx.hm y) _).trans B.abs) boot_abs (qa_b ha qa_nil hs) hg (by decide) (by decide) hs hp
theorem qe_toint (cx : Ctx X W E) (B : Bl W.mg) (ha : QB X W m E a fa) (hg : ∀ y, Gl (X y) "int" := by intro ψ; rfl) (hs : ∀ y, starEach [a] (X y).env = (false, eval a (X y).env) :: starEach [] (X y).env := by intro ψ; rfl) (hp : ∀ y, (backTo pos (starEach [] (X y).env)).any (·.1) = false := by intro ψ; rfl) : QE X W m E (.Call (.Name "int" p) [a] [] pos) (eB uInt (aCons fa aNil)) :=
 qe_ct (fun ψ => call_intA) cu_int (fun y => (congrFun (cx.hm y) _).trans B.int) boot_int (qa_b ha qa_nil hs) hg (by decide) (by decide) hs hp
theorem qe_max2 (cx : Ctx X W E) (B : Bl W.mg) (ha : QA X W m E [true, true] [a, b] fr) (hg : ∀ y, Gl (X y) "max" := by intro ψ; rfl) (hs : ∀ y, starEach [a, b] (X y).env = (false, eval a (X y).env) :: starEach [b] (X y).env := by intro ψ; rfl) (hp : ∀ y, (backTo pos (starEach [b] (X y).env)).any (·.1) = false := by intro ψ; rfl) : QE X W m E (.Call (.Name "max" p) [a, b] [] pos) (eB uMax2 fr) :=
 qe_cb (fun y => call_maxA (cx.calm y)) cu_max2 (fun y => (congrFun (cx.hm y) _).trans B.max) boot_max ha hg (by decide) (by decide) hs hp
theorem qe_min2 (cx : Ctx X W E) (B : Bl W.mg) (ha : QA X W m E [true, true] [a, b] fr) (hg : ∀ y, Gl (X y) "min" := by intro ψ; rfl) (hs : ∀ y, starEach [a, b] (X y).env = (false, eval a (X y).env) :: starEach [b] (X y).env := by intro ψ; rfl) (hp : ∀ y, (backTo pos (starEach [b] (X y).env)).any (·.1) = false := by intro ψ; rfl) : QE X W m E (.Call (.Name "min" p) [a, b] [] pos) (eB uMin2 fr) :=
 qe_cb (fun y => call_minA (cx.calm y)) cu_min2 (fun y => (congrFun (cx.hm y) _).trans B.min) boot_min ha hg (by decide) (by decide) hs hp
theorem qe_call {k : Nat} {f' : Addr} {fd : FuncData} {ps : List Str} {wk : Wd → Prop} {F : Ff} (cx : Ctx X W E) (C : ∀ y, Fn (X y).prog (X y).w (X y).K (X y).mg (X y).base (CX1 (X y).prog (X y).w) k x f' fd ps (spU W.K W.mg wk bs.length bs F)) (hr : ∀ y, Room k (X y).A) (hw : wk W) (ha : QA X W m E bs (a :: es) fr) (hg : ∀ y, Gl (X y) x := by intro ψ; rfl)
  (hd : (x == ("__debug__" : Str)) = false := by decide) (hs : ∀ y, starEach (a :: es) (X y).env = (false, eval a (X y).env) :: starEach es (X y).env := by intro ψ; rfl) (hp : ∀ y, (backTo pos (starEach es (X y).env)).any (·.1) = false := by intro ψ; rfl) : QE X W m E (.Call (.Name x p) (a :: es) [] pos) (eCall F fr) :=
 let ⟨_, pa, da⟩ := ha; ⟨_, fun y => pe_call (C y).F (hr y) (hg y) (C y).hm (C y).kp (C y).hb .nil (cx.ps y) (pa y) hd (hs y) (hp y), de_call rfl rfl hw da⟩
theorem qi_e {c : Bool} {tg : Expr} (cx : Ctx X W E) (ha : QE X W m E a fa) : QI X W m E c tg a (iOf fa) := let ⟨_, pa, da⟩ := ha; ⟨_, fun y => pi_seq (cx.hK y) (pa y), di_e da⟩
theorem qi_b {tg : Expr} (cx : Ctx X W E) (ha : QB X W m E a fa) : QI X W m E true tg a (iOf fa) := let ⟨_, pa, da⟩ := ha; ⟨_, fun y => pi_seq (cx.hK y) (pa y), di_b da⟩
theorem qi_v {c : Bool} {tg : Expr} (i : Nat) (cx : Ctx X W E) (h2 : i ∉ m.M := by decide) (hN : ∀ y, (X y).N[i]? = some x := by intro ψ; rfl) (hv : ∀ y, Vis (X y).env.scope x := by intro ψ; first | exact Or.inl rfl | exact Or.inr (Or.inl rfl) | exact Or.inr (Or.inr rfl)) (hd : (x == ("__debug__" : Str)) = false := by decide)
  (hcd : (x == ("__classdict__" : Str)) = false := by decide) : QI X W m E c tg (.Name x pos) (iOf (eVar i)) := ⟨_, fun y => pi_seq (cx.hK y) (pe_var (hN y) (hv y) hd hcd), di_v h2⟩
theorem qi_r1 {c : Bool} {tg : Expr} (cx : Ctx X W E) (B : Bl W.mg) (ha : QA X W m E [true] [a] fr) (hg : ∀ y, Gl (X y) "range" := by intro ψ; rfl) (hs : ∀ y, starEach [a] (X y).env = [(false, eval a (X y).env)] := by intro ψ; rfl) : QI X W m E c tg (.Call (.Name "range" p) [a] [] pos) (iArgs uR1 fr) :=
 let ⟨_, pa, da⟩ := ha; ⟨_, fun y => pi_range1 (hg y) ((congrFun (cx.hm y) _).trans B.range) (pa y) (hs y), di_r1 da⟩
theorem pi_enumK {Y : Cx} {K : L2.Fg} {a : Expr} {ta : TA} {p pos tp : Pos} {es : List Expr} {x1 : Nat} (h : Y.K = K) (hg : Gl Y "enumerate") (hm : Y.mg "enumerate" = none) (ha : PA Y [a] ta) (hs : starEach [a] Y.env = [(false, eval a Y.env)]) : PI Y (.Tuple es x1 tp) (.Call (.Name "enumerate" p) [a] [] pos) (iEnum K ta) := h ▸ pi_enumerate hg hm ha hs
theorem qi_enum {c : Bool} {tp : Pos} {x1 : Nat} {ts : List Expr} (cx : Ctx X W E) (B : Bl W.mg) (ha : QA X W m E [true] [a] fr) (hg : ∀ y, Gl (X y) "enumerate" := by intro ψ; rfl) (hs : ∀ y, starEach [a] (X y).env = [(false, eval a (X y).env)] := by intro ψ; rfl) : QI X W m E c (.Tuple ts x1 tp) (.Call (.Name "enumerate" p) [a] [] pos) (iArgs uEnum fr) :=
 let ⟨_, pa, da⟩ := ha; ⟨_, fun y => pi_enumK (cx.hK y) (hg y) ((congrFun (cx.hm y) _).trans B.enumerate) (pa y) (hs y), di_enum da⟩
theorem qg_name (i : Nat) (hN : ∀ y, (X y).N.Nodup) (h1 : i ∉ m.B := by decide) (h2 : i ∉ m.M := by decide) (hi : ∀ y, (X y).N[i]? = some x := by intro ψ; rfl) (hx : ∀ y, Loc (X y).env.scope x := by intro ψ; first | exact Or.inl rfl | exact Or.inr rfl) (hf : ∀ y, (X y).fn x = true ∨ (X y).env.scope.names.lookup x = some .local := by intro ψ; first | exact .inl rfl | exact .inr rfl) :
  QG X W m (.Name x pos) (aName i) := ⟨_, fun y => pg_name (hN y) (hi y) (hx y) (hf y), dg_name h1 h2⟩
theorem qgs_nil : QGs X W m [] aNilT := ⟨_, fun ψ => pgs_nil, dgs_nil⟩
theorem qgs_cons {u : U → En → Option En} {v : List U → En → Option En} (h1 : QG X W m a u) (h2 : QGs X W m es v) (hs : ∀ y, (assignEach (a :: es) (X y).env).map (·.2) = assign a (X y).env :: (assignEach es (X y).env).map (·.2) := by intro ψ; rfl) : QGs X W m (a :: es) (aConsT u v) :=
 let ⟨_, p1, d1⟩ := h1; let ⟨_, p2, d2⟩ := h2; ⟨_, fun y => pgs_cons (p1 y) (p2 y) (hs y), dgs_cons d1 d2⟩
theorem qg_tup {n k : Nat} {v : List U → En → Option En} (cx : Ctx X W E) (h2 : QGs X W m es v) (hn : ∀ y, (assignEach es (X y).env).length = n := by intro ψ; rfl) (hst : ∀ y, (assignEach es (X y).env).findIdx? (·.1) = none := by intro ψ; rfl) : QG X W m (.Tuple es k pos) (aTup n v) :=
 let ⟨_, p2, d2⟩ := h2; ⟨_, fun y => pg_tupK (cx.hK y) (cx.calm y) (p2 y) (hn y) (hst y), dg_tup d2⟩
variable {s : Stmt} {ss sb : List Stmt} {g g1 g2 : Sf}
theorem qss_nil : QSs X W m E [] sNext := ⟨_, fun ψ => pss_nil, ds_next⟩
theorem qss_one (h : QS X W m E s g) : QSs X W m E [s] g := let ⟨_, p, d⟩ := h; ⟨_, fun y => pss_one (p y), d⟩
theorem qss_cons (h1 : QS X W m E s g1) (h2 : QSs X W m E ss g2) : QSs X W m E (s :: ss) (sSeq g1 g2) := let ⟨_, p, d⟩ := h1; let ⟨_, p2, d2⟩ := h2; ⟨_, fun y => pss_cons (p y) (p2 y), ds_seq d d2⟩
theorem qk_one (h : QS X W m E s g) : QK X W m E [s] g := let ⟨_, p, d⟩ := h; ⟨_, fun y => pss_one (p y), dk_one d⟩
theorem qk_cons (h1 : QS X W m E s g1) (h2 : QK X W m E ss g2) : QK X W m E (s :: ss) (sSeq g1 g2) := let ⟨_, p, d⟩ := h1; let ⟨_, p2, d2⟩ := h2; ⟨_, fun y => pss_cons (p y) (p2 y), dk_seq d d2⟩
theorem qs_ret (ha : QE X W ⟨m.B, []⟩ E a fa) (hB : ∀ i ∈ m.M, i ∉ m.B := by decide) : QS X W m E (.Return (some a) pos) (sRet fa) := let ⟨_, pa, da⟩ := ha; ⟨_, fun y => ps_ret (pa y), ds_ret hB da⟩
theorem qs_if (hc : QT X W m E c ft) (h1 : QSs X W m E ss g1) (h2 : QSs X W m E sb g2) : QS X W m E (.If c ss sb pos) (sIf ft g1 g2) := let ⟨_, pc, dc⟩ := hc; let ⟨_, p1, d1⟩ := h1; let ⟨_, p2, d2⟩ := h2; ⟨_, fun y => ps_if (pc y) (p1 y) (p2 y), ds_if dc d1 d2⟩
theorem qs_set (i : Nat) (hN : ∀ y, (X y).N.Nodup) (ha : QE X W m E a fa) (hs : ∀ y, swapsWith a (some (.Name x p)) pos.line (X y).env = pure false := by intro ψ; rfl) (h1 : i ∉ m.B := by decide) (h2 : i ∉ m.M := by decide) (hi : ∀ y, (X y).N[i]? = some x := by intro ψ; rfl) (hx : ∀ y, Loc (X y).env.scope x := by intro ψ; first | exact Or.inl rfl | exact Or.inr rfl)
  (hf : ∀ y, (X y).fn x = true ∨ (X y).env.scope.names.lookup x = some .local := by intro ψ; first | exact .inl rfl | exact .inr rfl) : QS X W m E (.Assign [.Name x p] a pos) (sSet i fa) := let ⟨_, pa, da⟩ := ha; ⟨_, fun y => ps_set (hN y) (hi y) (hx y) (pa y) (hs y) (hf y), ds_set h1 h2 da⟩
theorem qs_own (i : Nat) (hN : ∀ y, (X y).N.Nodup) (ha : QF X W m E a fa) (hs : ∀ y, swapsWith a (some (.Name x p)) pos.line (X y).env = pure false := by intro ψ; rfl) (h1 : i ∉ m.B := by decide) (h2 : i ∈ m.M := by decide) (hi : ∀ y, (X y).N[i]? = some x := by intro ψ; rfl) (hx : ∀ y, Loc (X y).env.scope x := by intro ψ; first | exact Or.inl rfl | exact Or.inr rfl)
  (hf : ∀ y, (X y).fn x = true ∨ (X y).env.scope.names.lookup x = some .local := by intro ψ; first | exact .inl rfl | exact .inr rfl) : QS X W m E (.Assign [.Name x p] a pos) (sSet i fa) := let ⟨_, pa, da⟩ := ha; ⟨_, fun y => ps_set (hN y) (hi y) (hx y) (pa y) (hs y) (hf y), ds_own h1 h2 da⟩
theorem qs_aug {op : Operator} {r : R2} {u : U → U → Option U} (i : Nat) (hN : ∀ y, (X y).N.Nodup) (o : ∀ y, OpR (X y) (inplaceOp op) r) (ou : OpU W r u) (ha : QB X W m E a fa) (h1 : i ∉ m.B := by decide) (h2 : i ∉ m.M := by decide) (hi : ∀ y, (X y).N[i]? = some x := by intro ψ; rfl) (hx : ∀ y, Loc (X y).env.scope x := by intro ψ; first | exact Or.inl rfl | exact Or.inr rfl)
  (hf : ∀ y, (X y).fn x = true ∨ (X y).env.scope.names.lookup x = some .local := by intro ψ; first | exact .inl rfl | exact .inr rfl) : QS X W m E (.AugAssign (.Name x p) op a pos) (sAug i u fa) := let ⟨_, pa, da⟩ := ha; ⟨_, fun y => ps_aug (hN y) (hi y) (hx y) (pa y) (o y) (hf y), ds_aug h1 h2 ou da⟩
theorem qs_expr (ha : QB X W m E a fa) (hs : ∀ y, swapsWith a none pos.line (X y).env = pure false := by intro ψ; rfl) : QS X W m E (.Expr a pos) (sExpr fa) := let ⟨_, pa, da⟩ := ha; ⟨_, fun y => ps_expr (pa y) (hs y), ds_expr da⟩
theorem ps_bmK {Y : Cx} {K : L2.Fg} {s : Stmt} {T : String} {r : V → List V → Hp → VK → Prop} {to : TE} {t : TA} (h : Y.K = K) (q : PS Y s (tDrop (tBM Y.K T r to t))) : PS Y s (tDrop (tBM K T r to t)) := h ▸ q
theorem ps_bm0K {Y : Cx} {K : L2.Fg} {s : Stmt} {T : String} {r : V → List V → Hp → VK → Prop} {to : TE} (h : Y.K = K) (q : PS Y s (tDrop (tBM0 Y.K T r to))) : PS Y s (tDrop (tBM0 K T r to)) := h ▸ q
theorem qs_app {apos cpos : Pos} (i : Nat) (cx : Ctx X W E) (ha : QE X W m E a fa) (h2 : i ∈ m.M := by decide) (hN : ∀ y, (X y).N[i]? = some x := by intro ψ; rfl) (hv : ∀ y, Vis (X y).env.scope x := by intro ψ; first | exact Or.inl rfl | exact Or.inr (Or.inl rfl) | exact Or.inr (Or.inr rfl)) (hd : (x == ("__debug__" : Str)) = false := by decide) (hcd : (x == ("__classdict__" : Str)) = false := by decide)
  (hline : (apos.endLine == cpos.line) = true := by rfl) (hst : ∀ y, starEach [a] (X y).env = (false, eval a (X y).env) :: starEach [] (X y).env := by intro ψ; rfl) (hp : ∀ y, (backTo cpos (starEach [] (X y).env)).any (·.1) = false := by intro ψ; rfl)
  (hbase : ∀ y, attributeBase (.Name x p) "append" (X y).env (eval (.Name x p) (X y).env) = eval (.Name x p) (X y).env := by intro ψ; rfl)
  (hfew : ∀ y, ((backTo cpos (starEach [a] (X y).env)).all (fun x => !x.1) && (backToKw cpos (keywordEach [] (X y).env)).all (fun x => x.1.isSome) && decide (([a] : List Expr).length + ([] : List Keyword).length + (if ([] : List Keyword).isEmpty then 0 else 1) < 30)) = true := by intro ψ; rfl)
  (hs : ∀ y, swapsWith (.Call (.Attribute (.Name x p) "append" apos) [a] [] cpos) none pos.line (X y).env = pure false := by intro ψ; rfl) : QS X W m E (.Expr (.Call (.Attribute (.Name x p) "append" apos) [a] [] cpos) pos) (sApp i fa) :=
 let ⟨_, pa, da⟩ := ha; ⟨_, fun y => ps_bmK (cx.hK y) (ps_expr (pe_bm PySem.F.plainAttrs_list PySem.F.slot_list_append PySem.F.type_list_append mt_append (pe_var (hN y) (hv y) hd hcd) (pa_cons (pa y) pa_nil (hst y)) (hbase y) (hfew y) hline (hst y) (hp y)) (hs y)), ds_app h2 da⟩
theorem qs_for {tg iter : Expr} {fi : Af} {u : U → En → Option En} (cx : Ctx X W E) (pw : ∀ y, PassesOwn (model (X y).prog (X y).w) (X y).A (X y).env (X y).xe) (hi : QI X W m E false tg iter fi) (hg : QG X W m tg u) (hb : QSs X W m E ss g) (hs : ∀ y v, foldedSetIterable iter (X y).env v = pure v := by intro ψ ψ; rfl) : QS X W m E (.For tg iter ss [] pos) (sFor fi u g) :=
 let ⟨_, pi, di⟩ := hi; let ⟨_, pg, dg⟩ := hg; let ⟨_, pb, db⟩ := hb; ⟨_, fun y => ps_for (pw y) (cx.calm y) (pi y) (pg y) (pb y) (hs y), ds_for di dg db⟩
end
noncomputable def okJ (m mb : Md) (k : Nat) (js : List Nat) : Bool := (List.range js.length).all fun p => !(m.B.contains (js.getD p 0) || m.M.contains (js.getD p 0)) || mb.B.contains (k + p)
theorem okJ_of {m mb : Md} {k : Nat} {js : List Nat} (h : okJ m mb k js = true) : ∀ p j, js[p]? = some j → (j ∈ m.B ∨ j ∈ m.M) → k + p ∈ mb.B := fun p j hj hm => by
 have lt : p < js.length := (List.getElem?_eq_some_iff.mp hj).1
 have z := List.all_eq_true.mp h p (List.mem_range.mpr lt)
 have e : js.getD p 0 = j := by rw [List.getD_eq_getElem?_getD, hj]; rfl
 rw [e] at z
 have q : (m.B.contains j || m.M.contains j) = true := by
  rcases hm with hm | hm
  ·simp [hm]
  ·simp [hm]
 rw [q] at z
 simpa using z
noncomputable abbrev BlkA := Addr × List (Addr × Obj) × List Addr × Shared × Hp
noncomputable abbrev blkX (X : Cx) (N : List Str) (scope : Scope) (cl : List (Str × Addr)) : BlkA → Cx := fun b => cxComp X N scope cl b.1 b.2.1 b.2.2.1 b.2.2.2.1 b.2.2.2.2
section
variable {X : Unit → Cx} {W : Wd} {m mb : Md} {E : XK} {elt tg iter : Expr} {ifs : List Expr} {scope : Scope} {pos : Pos} {cl : List (Str × Addr)} {bs caps : List Str} {js : List Nat} {fi : Af} {u : U → En → Option En} {ft : Tf} {fe : Ef}
theorem Ctx.blk (cx : Ctx X W E) : Ctx (blkX (X ()) (bs ++ caps) scope cl) W E0 := ⟨fun ψ => cx.hK (), fun ψ => cx.hm (), fun ψ => cx.calm (), fun ψ => cx.hu (), fun ψ ψ ψ ψ ψ ψ ψ ψ h => by obtain ⟨_, _, _, _, _, _, _, _, _, _, q⟩ := h; exact q.elim⟩
theorem qts_nil {ι : Type} {Y : L2.FC ι} : QTs Y W m E [] tfTrue := ⟨_, fun ψ => pts_nil, dt_true⟩
theorem qts_one {ι : Type} {Y : L2.FC ι} {c : Expr} (h : QT Y W m E c ft) : QTs Y W m E [c] ft := let ⟨_, p, d⟩ := h; ⟨_, fun y => pts_one (p y), d⟩
theorem qf_comp (mb : Md) (cx : Ctx X W E) (c : CompOk (X ()) scope cl js caps) (hi : QI X W m E true tg iter fi) (hg : QG (blkX (X ()) (bs ++ caps) scope cl) W mb tg u) (ht : QTs (blkX (X ()) (bs ++ caps) scope cl) W mb E0 ifs ft) (he : QE (blkX (X ()) (bs ++ caps) scope cl) W mb E0 elt fe)
  (hB : okJ m mb bs.length js = true := by rfl) (hM : mb.M = [] := by rfl) (hs : ∀ x, foldedSetIterable iter (X ()).env x = pure x := by intro ψ; rfl) : QF X W m E (.ListComp elt [⟨tg, iter, ifs, 0⟩] scope pos) (eComp fi bs.length js u ft fe) :=
 let ⟨_, pi, di⟩ := hi; let ⟨_, pg, dg⟩ := hg; let ⟨_, pt, dt⟩ := ht; let ⟨_, pe, de⟩ := he
 ⟨_, fun y => pe_comp (cx.calm y) c (pi y) (fun C pins fp s2 H2 => pg (C, pins, fp, s2, H2)) (fun C pins fp s2 H2 => pt (C, pins, fp, s2, H2)) (fun C pins fp s2 H2 => pe (C, pins, fp, s2, H2)) hs, df_comp di dg dt de (okJ_of hB) hM⟩
theorem qs_setC {y : Str} {py spos : Pos} (own : Bool) (i : Nat) (mb : Md) (cx : Ctx X W E) (hN : (X ()).N.Nodup) (c : CompOk (X ()) scope cl js caps) (hi : QI X W m E true tg iter fi) (hg : QG (blkX (X ()) (bs ++ caps) scope cl) W mb tg u) (ht : QTs (blkX (X ()) (bs ++ caps) scope cl) W mb E0 ifs ft) (he : QE (blkX (X ()) (bs ++ caps) scope cl) W mb E0 elt fe)
  (hB : okJ m mb bs.length js = true := by rfl) (hM : mb.M = [] := by rfl) (hs : ∀ x, foldedSetIterable iter (X ()).env x = pure x := by intro ψ; rfl) (hsw : swapsWith (.ListComp elt [⟨tg, iter, ifs, 0⟩] scope pos) (some (.Name y py)) spos.line (X ()).env = pure true := by rfl)
  (hy : (X ()).N[i]? = some y := by rfl) (hl : (X ()).env.scope.names.lookup y = some .local := by rfl) (h1 : i ∉ m.B := by decide) (h2 : (own = true → i ∈ m.M) ∧ (own = false → i ∉ m.M) := by decide) : QS X W m E (.Assign [.Name y py] (.ListComp elt [⟨tg, iter, ifs, 0⟩] scope pos) spos) (sSet i (eComp fi bs.length js u ft fe)) :=
 let ⟨_, pi, di⟩ := hi; let ⟨_, pg, dg⟩ := hg; let ⟨_, pt, dt⟩ := ht; let ⟨_, pe, de⟩ := he
 ⟨_, fun ψ => ps_setC hsw hN hy hl (cx.calm ()) c (pi ()) (fun C pins fp s2 H2 => pg (C, pins, fp, s2, H2)) (fun C pins fp s2 H2 => pt (C, pins, fp, s2, H2)) (fun C pins fp s2 H2 => pe (C, pins, fp, s2, H2)) hs, by
  cases own with
  | true => exact ds_own h1 (h2.1 rfl) (df_comp di dg dt de (okJ_of hB) hM)
  | false => exact ds_set h1 (h2.2 rfl) (df_comp di dg dt de (okJ_of hB) hM).e⟩
end
section
variable {P : Program} {w : World} {K : L2.Fg} {mg : L2.SV} {base : Heap} {N : List Str} {qual : Str} {scope : Scope} {f : Addr} {cd : Value} {A : Around} {outer : List Env} {s : Shared} {H : Hp} {E : XK} {W : Wd} {m : Md} {k : Nat}
noncomputable abbrev defX (P : Program) (w : World) (K : L2.Fg) (mg : L2.SV) (base : Heap) (N : List Str) (qual : Str) (scope : Scope) (f : Addr) (cd : Value) (A : Around) (outer : List Env) (s : Shared) (H : Hp) (E : XK) : Unit → Cx := fun ψ => cxOf (CX1 P w) P w K mg base N qual scope f cd A outer s H E
theorem ctx_def (hK : W.K = K) (hm : W.mg = mg) (hr : Room k (A.deeper (envOfC qual scope s.heap.objs.size f cd))) : Ctx (defX P w K mg base N qual scope f cd A outer s H E) W E := ⟨fun ψ => hK.symm, fun ψ => hm.symm, fun ψ => rfl, fun ψ => hr.units, fun ψ => passes1 fun ψ ψ ψ h => h⟩
theorem pw_def : ∀ y, PassesOwn (model (defX P w K mg base N qual scope f cd A outer s H E y).prog (defX P w K mg base N qual scope f cd A outer s H E y).w) (defX P w K mg base N qual scope f cd A outer s H E y).A (defX P w K mg base N qual scope f cd A outer s H E y).env (defX P w K mg base N qual scope f cd A outer s H E y).xe := fun ψ => PassesOwn.leaving
noncomputable def okB (bs : List Bool) (m : Md) : Bool := ((List.range bs.length).all fun i => !(bs.getD i false) || m.B.contains i) && m.M.all fun i => decide (bs.length ≤ i)
theorem Fun.okQ {x qual : Str} {st : Stmt} {f : Addr} {fd : FuncData} {N ps : List Str} {k : Nat} {wk : Wd → Prop} {bs : List Bool} {m : Md} {g : Sf} (F : Fun K x qual st f fd) (S : FnScope N ps (defScope st)) (hl : bs.length = ps.length) (hB : okB bs m = true) (hN : ps.length ≤ N.length)
  (hbody : ∀ (cdv : Value) (A : Around) (outer : List Env) (s : Shared) (H : Hp) (E : XK) (W : Wd), W.K = K → W.mg = mg → wk W → Room k (A.deeper (envOfC qual (defScope st) s.heap.objs.size f cdv)) → A.handled = none →
   QK (defX P w K mg base N qual (defScope st) f cdv A outer s H E) W m E (defBody st) g) : FnOk P w K mg base (CX1 P w) (k + 1) f fd ps (spU K mg wk bs.length bs (runU N.length g)) := by
 unfold okB at hB
 rw [Bool.and_eq_true] at hB
 refine F.okU S hl (fun i h => ?_) (fun i h => by simpa using List.all_eq_true.mp hB.2 i h) hN fun cdv A outer s H E W hK hm hw hr hA => ?_
 ·have lt : i < bs.length := (List.getElem?_eq_some_iff.mp h).1
  have z := List.all_eq_true.mp hB.1 i (List.mem_range.mpr lt)
  rw [List.getD_eq_getElem?_getD, h] at z
  simpa using z
 ·obtain ⟨t, p, d⟩ := hbody cdv A outer s H E W hK hm hw hr hA
  exact ⟨t, p (), d⟩
theorem QK.out {X : Cx} {ss : List Stmt} {g : Sf} (h : QK (fun _ : Unit => X) W m E ss g) : ∃ t, PSs X ss t ∧ DK W m E t g := let ⟨t, p, d⟩ := h; ⟨t, p (), d⟩
noncomputable def XOk (K : L2.Fg) (mg : L2.SV) (x : Str) : Prop := ∃ C : Addr, mg x = some (.ref C) ∧ PySem.W.excIn K C [.type "ValueError", .type "Exception", .type "BaseException", .type "object"] "ValueError.__new__" = true
theorem qs_raise {x : Str} {e0 : Expr} {fe : Ef} {np cpos pos : Pos} (hA : A.handled = none) (hmg : W.mg = mg) (hX : XOk K mg x) (he : QB (fun _ : Unit => (cxOf (CX1 P w) P w K mg base N qual scope f cd A outer s H E).nox) W m E e0 fe)
  (hg : Gl (cxOf (CX1 P w) P w K mg base N qual scope f cd A outer s H E) x := by rfl) (hd : (x == ("__debug__" : Str)) = false := by decide) (hs : starEach [e0] (envOfC qual scope s.heap.objs.size f cd) = [(false, eval e0 (envOfC qual scope s.heap.objs.size f cd))] := by rfl) :
  QS (defX P w K mg base N qual scope f cd A outer s H E) W m E (.Raise (some (.Call (.Name x np) [e0] [] cpos)) none pos) (sRaise x fe) :=
 let ⟨_, hm, hC⟩ := hX; let ⟨_, pe, de⟩ := he; ⟨_, fun ψ => ps_raise hA PySem.F.excBase_ValueError hC hm hg (pe ()) hd hs, ds_raise (by rw [hmg]; exact hm) de⟩
end
section
variable {ι : Type} {X : L2.FC ι} {W : Wd} {m : Md} {E : XK} {a : Expr} {fa : Ef} {pos p : Pos} {x : Str}
theorem qs_extend {apos cpos : Pos} (i : Nat) (cx : Ctx X W E) (ha : QB X W m E a fa) (h2 : i ∈ m.M := by decide) (hN : ∀ y, (X y).N[i]? = some x := by intro ψ; rfl) (hv : ∀ y, Vis (X y).env.scope x := by intro ψ; first | exact Or.inl rfl | exact Or.inr (Or.inl rfl) | exact Or.inr (Or.inr rfl)) (hd : (x == ("__debug__" : Str)) = false := by decide) (hcd : (x == ("__classdict__" : Str)) = false := by decide)
  (hline : (apos.endLine == cpos.line) = true := by rfl) (hst : ∀ y, starEach [a] (X y).env = (false, eval a (X y).env) :: starEach [] (X y).env := by intro ψ; rfl) (hp : ∀ y, (backTo cpos (starEach [] (X y).env)).any (·.1) = false := by intro ψ; rfl)
  (hbase : ∀ y, attributeBase (.Name x p) "extend" (X y).env (eval (.Name x p) (X y).env) = eval (.Name x p) (X y).env := by intro ψ; rfl)
  (hfew : ∀ y, ((backTo cpos (starEach [a] (X y).env)).all (fun x => !x.1) && (backToKw cpos (keywordEach [] (X y).env)).all (fun x => x.1.isSome) && decide (([a] : List Expr).length + ([] : List Keyword).length + (if ([] : List Keyword).isEmpty then 0 else 1) < 30)) = true := by intro ψ; rfl)
  (hs : ∀ y, swapsWith (.Call (.Attribute (.Name x p) "extend" apos) [a] [] cpos) none pos.line (X y).env = pure false := by intro ψ; rfl) : QS X W m E (.Expr (.Call (.Attribute (.Name x p) "extend" apos) [a] [] cpos) pos) (sExt i fa) :=
 let ⟨_, pa, da⟩ := ha; ⟨_, fun y => ps_bmK (cx.hK y) (ps_expr (pe_bm PySem.F.plainAttrs_list PySem.F.slot_list_extend PySem.F.type_list_extend mt_extend (pe_var (hN y) (hv y) hd hcd) (pa_cons (pa y) pa_nil (hst y)) (hbase y) (hfew y) hline (hst y) (hp y)) (hs y)), ds_ext h2 da⟩
theorem qs_reverse {apos cpos : Pos} (i : Nat) (cx : Ctx X W E) (h2 : i ∈ m.M := by decide) (hN : ∀ y, (X y).N[i]? = some x := by intro ψ; rfl) (hv : ∀ y, Vis (X y).env.scope x := by intro ψ; first | exact Or.inl rfl | exact Or.inr (Or.inl rfl) | exact Or.inr (Or.inr rfl)) (hd : (x == ("__debug__" : Str)) = false := by decide) (hcd : (x == ("__classdict__" : Str)) = false := by decide)
  (hline : (apos.endLine == cpos.line) = true := by rfl) (hbase : ∀ y, attributeBase (.Name x p) "reverse" (X y).env (eval (.Name x p) (X y).env) = eval (.Name x p) (X y).env := by intro ψ; rfl)
  (hs : ∀ y, swapsWith (.Call (.Attribute (.Name x p) "reverse" apos) [] [] cpos) none pos.line (X y).env = pure false := by intro ψ; rfl) : QS X W m E (.Expr (.Call (.Attribute (.Name x p) "reverse" apos) [] [] cpos) pos) (sRevM i) :=
 ⟨_, fun y => ps_bm0K (cx.hK y) (ps_expr (pe_bm0 PySem.F.plainAttrs_list PySem.F.slot_list_reverse PySem.F.type_list_reverse mt_reverse (pe_var (hN y) (hv y) hd hcd) (hbase y) hline) (hs y)), ds_revM h2⟩
end
section
variable {X : Cx}
noncomputable def SqU (K : L2.Fg) (H : Hp) (p : Addr) (vs : List V) : Prop := SqL K H p vs ∨ SqT K H p vs
theorem seq_iter {pins : L2.AO} {σ : St} {H : Hp} {s : Shared} {p : Addr} {vs : List V} (hc : X.calm = true) (I : Inv X pins σ H s) (h : SqU X.K H p vs) :
  ∃ its : List Value, Vals vs its ∧ ∀ (Q : L2.VSP) (E : L2.VSP), (∀ (g : Heap) (St : Nat → Heap → Prop), Walks X.prog X.w X.A.in1 s.heap.objs.size [s.heap.objs.size, p] [s.heap.objs.size] its.length (fun i v => its[i]? = some v) St → St 0 g → (∀ b ∈ [s.heap.objs.size, p], b < g.objs.size) →
   (∀ h' tk, (∀ b o, b ∉ [s.heap.objs.size] → g.get? b = some o → h'.get? b = some o) → Inv X pins σ H { s with heap := h', toks := tk }) → Q (.ref s.heap.objs.size) { s with heap := g }) → wpAny (model X.prog X.w) X.A.in1 (pyIter (.ref p)) Q E s := by
 have hh : X.A.in1.handled = none := I.ok.hd hc
 rcases h with h | h
 ·obtain ⟨its, rv, pl, hz⟩ := I.list h
  have lt : p < s.heap.objs.size := by obtain ⟨o, e, _⟩ := pl.isList; exact Heap.lt_size e
  refine ⟨its, rv, fun Q E k => wpAny_pyIter_list pl.isList ?_⟩
  have e : (fun (i : Nat) (v : Value) => its.toArray[i]? = some v) = (fun i v => its[i]? = some v) := by funext i v; simp
  have Wk := Walks.list (prog := X.prog) (w := X.w) (A := X.A.in1) hh s.heap.objs.size p (Nat.ne_of_lt lt) its.toArray
  rw [e] at Wk
  refine k _ _ Wk ⟨⟨_, Heap.get?_push_size _ rfl, rfl, rfl⟩, pl.isList.push _⟩ (fun b hb => ?_) fun h' tk hk => I.kept (t' := tk) fun b o e => hk b o (fun hm => ?_) (Heap.get?_push_of_some _ e)
  ·rw [Heap.size_push]
   rcases List.mem_cons.mp hb with z | z
   ·rw [z]; exact Nat.lt_succ_self _
   ·rw [List.mem_singleton.mp z]; exact Nat.lt_succ_of_lt lt
  ·rw [List.mem_singleton.mp hm] at e
   exact Nat.lt_irrefl _ (Heap.lt_size e)
 ·obtain ⟨its, rv, pl, hz⟩ := I.tuple h
  have pt : s.heap.IsTuple p its.toArray := pl
  have lt : p < s.heap.objs.size := by obtain ⟨o, e, _⟩ := pl; exact Heap.lt_size e
  refine ⟨its, rv, fun Q E k => wpAny_pyIter_tuple pt ?_⟩
  have e : (fun (i : Nat) (v : Value) => its.toArray[i]? = some v) = (fun i v => its[i]? = some v) := by funext i v; simp
  have Wk := Walks.tuple (prog := X.prog) (w := X.w) (A := X.A.in1) hh s.heap.objs.size p (Nat.ne_of_lt lt) its.toArray
  rw [e] at Wk
  refine k _ _ Wk ⟨⟨_, Heap.get?_push_size _ rfl, rfl, rfl⟩, pt.at fun o e => Heap.get?_push_of_some _ e⟩ (fun b hb => ?_) fun h' tk hk => I.kept (t' := tk) fun b o e => hk b o (fun hm => ?_) (Heap.get?_push_of_some _ e)
  ·rw [Heap.size_push]
   rcases List.mem_cons.mp hb with z | z
   ·rw [z]; exact Nat.lt_succ_self _
   ·rw [List.mem_singleton.mp z]; exact Nat.lt_succ_of_lt lt
  ·rw [List.mem_singleton.mp hm] at e
   exact Nat.lt_irrefl _ (Heap.lt_size e)
theorem vals_int_at {ns : List Int} {its : List Value} (r : Vals (ns.map V.int) its) {i : Nat} {v : Value} (h : its[i]? = some v) : ∃ t, v = .int (ns.getD i 0) t := by
 have l := r.length
 rw [List.length_map] at l
 have li : i < its.length := (List.getElem?_eq_some_iff.mp h).1
 have e : (ns.map V.int)[i]? = some (.int (ns.getD i 0)) := by
  have : i < ns.length := by lia
  simp [List.getD, this]
 obtain ⟨u, hu, ru⟩ := r.get e
 rw [h] at hu; cases hu
 exact ru
theorem preSum_take (ns : List Int) : ∀ k, k ≤ ns.length → preSum (fun i => ns.getD i 0) k = (ns.take k).sum
 | 0, _ => by simp [preSum]
 | k + 1, h => by
  have hk : k < ns.length := h
  rw [preSum, preSum_take ns k (by lia), List.take_succ_eq_append_getElem hk, List.sum_append]
  simp [List.getD, hk]
theorem preSum_getD (ns : List Int) : preSum (fun i => ns.getD i 0) ns.length = ns.sum := by rw [preSum_take ns _ (Nat.le_refl _), List.take_length]
noncomputable def rSumU (K : L2.Fg) : List V → Hp → VK → Prop := fun xs H Q => ∃ (p : Addr) (ns : List Int), xs = [.ref p] ∧ SqU K H p (ns.map V.int) ∧ Q (.int ns.sum) H
theorem call_sumU {K : L2.Fg} (hK : X.K = K) (hc : X.calm = true) : CallR X (.builtin "sum") (rSumU K) := by
 subst hK
 intro pins s σ H xs us Q I r h
 obtain ⟨p, ns, rfl, hq, q⟩ := h
 obtain ⟨u, rfl, ru⟩ := vals1 r
 cases ru
 obtain ⟨its, rv, k⟩ := seq_iter hc I hq
 refine call_sum_walkG (k _ _ fun g St W st lt keep => ⟨_, _, _, _, _, St, fun i => ns.getD i 0, rfl, W, st, lt, fun i v h => vals_int_at rv h, fun h' tk t' hk => ?_⟩)
 have l := rv.length
 rw [List.length_map] at l
 rw [← l, preSum_getD]
 exact ⟨.int _, H, keep h' tk hk, ⟨_, rfl⟩, q⟩
end
section
variable {W : Wd} {m : Md} {E : XK}
theorem RB.seq {Hc H : Hp} {us : List U} {v : V} {u : U} (s : Same Hc H) (h : u = .lst us ∨ u = .tup us) (r : RB W Hc H u v) : ∃ a vs, v = .ref a ∧ SqU W.K H a vs ∧ RUs W Hc us vs := by
 rcases h with rfl | rfl
 ·obtain ⟨a, vs, rfl, h1, r1⟩ := r.lst s; exact ⟨a, vs, rfl, .inl (.of h1), r1⟩
 ·obtain ⟨a, vs, rfl, h1, r1⟩ := r.tup; exact ⟨a, vs, rfl, .inr (.of (s _ _ h1)), r1⟩
noncomputable def seqInts : U → Option (List Int)
 | .lst us => asInts us
 | .tup us => asInts us
 | _ => none
theorem seqInts_r {Hc H : Hp} {u : U} {v : V} {ns : List Int} (s : Same Hc H) (h : seqInts u = some ns) (r : RB W Hc H u v) : ∃ a, v = .ref a ∧ SqU W.K H a (ns.map V.int) := by
 unfold seqInts at h
 split at h
 ·obtain ⟨a, vs, rfl, q, rr⟩ := r.seq s (.inl rfl)
  rw [asInts_of h] at rr
  have e := rr.ints; subst e
  exact ⟨a, rfl, q⟩
 ·obtain ⟨a, vs, rfl, q, rr⟩ := r.seq s (.inr rfl)
  rw [asInts_of h] at rr
  have e := rr.ints; subst e
  exact ⟨a, rfl, q⟩
 ·cases h
noncomputable def uSumU : List U → Option U
 | [u] => (seqInts u).map fun ns => .int ns.sum
 | _ => none
theorem cu_sumU : CallU W [true] (rSumU W.K) uSumU := by
 intro Hc H ω us vs s p rs u e Q k
 unfold uSumU at e; split at e
 ·rename_i w
  obtain ⟨v, rfl, rv⟩ := rs.one
  cases q : seqInts w with
  | none => rw [q] at e; exact noS e
  | some ns =>
   rw [q] at e; cases e
   obtain ⟨a, rfl, sq⟩ := seqInts_r s q rv
   exact ⟨a, ns, rfl, sq, k _ Hc H (Ext.refl s) p .int⟩
 ·cases e
variable {ι : Type} {X : L2.FC ι} {a : Expr} {fa : Ef} {pos p : Pos}
theorem qe_sumU (cx : Ctx X W E) (B : Bl W.mg) (ha : QB X W m E a fa) (hg : ∀ y, Gl (X y) "sum" := by intro ψ; rfl) (hs : ∀ y, starEach [a] (X y).env = (false, eval a (X y).env) :: starEach [] (X y).env := by intro ψ; rfl) (hp : ∀ y, (backTo pos (starEach [] (X y).env)).any (·.1) = false := by intro ψ; rfl) : QE X W m E (.Call (.Name "sum" p) [a] [] pos) (eB uSumU (aCons fa aNil)) :=
 qe_cb (fun y => call_sumU (cx.hK y) (cx.calm y)) cu_sumU (fun y => (congrFun (cx.hm y) _).trans B.sum) boot_sum (qa_b ha qa_nil hs) hg (by decide) (by decide) hs hp
structure Kt (K : L2.Fg) : Prop where
 ib : PySem.W.kitOne K (.type "int") (.type "bool") = some false
 bi : PySem.W.kitOne K (.type "bool") (.type "int") = some true
noncomputable def isTy : U → String → Option U
 | .int _, n => if n = "int" then some (.bl true) else if n = "bool" then some (.bl false) else none
 | .bl _, n => if n = "bool" then some (.bl true) else if n = "int" then some (.bl true) else none
 | .tup _, n => if n = "tuple" then some (.bl true) else none
 | .lst _, n => if n = "list" then some (.bl true) else none
 | _, _ => none
noncomputable def tyU : U → Option String
 | .ty n => some n
 | _ => none
noncomputable def uIsT : List U → Option U
 | [a, b] => (tyU b).bind (isTy a)
 | _ => none
theorem uIsT_of {us : List U} {u : U} (e : uIsT us = some u) : ∃ a n, us = [a, .ty n] ∧ isTy a n = some u := by
 rcases us with _ | ⟨a, _ | ⟨b, _ | ⟨c, t⟩⟩⟩
 ·exact noS e
 ·exact noS e
 ·cases b with
  | ty n => exact ⟨a, n, rfl, e⟩
  | _ => exact noS e
 ·exact noS e
theorem kit_same {K : L2.Fg} {n : String} : PySem.W.kitOne K (.type n) (.type n) = some true := by simp [PySem.W.kitOne]
theorem cu_isT (kt : Kt W.K) : CallU W [true, true] (rIsA W.K) uIsT := by
 intro Hc H ω us vs s p rs u e Q k
 obtain ⟨a, n, rfl, e⟩ := uIsT_of e
 obtain ⟨v, v', rfl, r1, r2⟩ := rs.two
 have := r2.ty; subst this
 cases a with
 | int x =>
  have := r1.int; subst this
  by_cases c1 : n = "int"
  ·subst c1; cases e; exact ris_ty (.int _) kit_same (k _ Hc H (Ext.refl s) p .bl)
  ·replace e : (if n = "int" then some (U.bl true) else if n = "bool" then some (U.bl false) else none) = some u := e
   rw [if_neg c1] at e
   by_cases c2 : n = "bool"
   ·subst c2; cases e; exact ris_ty (.int _) kt.ib (k _ Hc H (Ext.refl s) p .bl)
   ·rw [if_neg c2] at e; cases e
 | bl x =>
  have := r1.bl; subst this
  by_cases c1 : n = "bool"
  ·subst c1; cases e; exact ris_ty (.bl _) kit_same (k _ Hc H (Ext.refl s) p .bl)
  ·replace e : (if n = "bool" then some (U.bl true) else if n = "int" then some (U.bl true) else none) = some u := e
   rw [if_neg c1] at e
   by_cases c2 : n = "int"
   ·subst c2; cases e; exact ris_ty (.bl _) kt.bi (k _ Hc H (Ext.refl s) p .bl)
   ·rw [if_neg c2] at e; cases e
 | tup x =>
  obtain ⟨a, vs, rfl, h1, _⟩ := r1.tup
  by_cases c1 : n = "tuple"
  ·subst c1; cases e; exact ris_ty (.tup (s _ _ h1)) kit_same (k _ Hc H (Ext.refl s) p .bl)
  ·replace e : (if n = "tuple" then some (U.bl true) else none) = some u := e
   rw [if_neg c1] at e; cases e
 | lst x =>
  obtain ⟨a, vs, rfl, h1, _⟩ := r1.lst s
  by_cases c1 : n = "list"
  ·subst c1; cases e; exact ris_ty (.lst h1) kit_same (k _ Hc H (Ext.refl s) p .bl)
  ·replace e : (if n = "list" then some (U.bl true) else none) = some u := e
   rw [if_neg c1] at e; cases e
 | _ => exact noS e
variable {b : Expr} {fr : Af}
theorem qe_isT (cx : Ctx X W E) (B : Bl W.mg) (kt : Kt W.K) (ha : QA X W m E [true, true] [a, b] fr) (hg : ∀ y, Gl (X y) "isinstance" := by intro ψ; rfl) (hs : ∀ y, starEach [a, b] (X y).env = (false, eval a (X y).env) :: starEach [b] (X y).env := by intro ψ; rfl) (hp : ∀ y, (backTo pos (starEach [b] (X y).env)).any (·.1) = false := by intro ψ; rfl) : QE X W m E (.Call (.Name "isinstance" p) [a, b] [] pos) (eB uIsT fr) :=
 qe_cb (fun y => call_isK (cx.hK y)) (cu_isT kt) (fun y => (congrFun (cx.hm y) _).trans B.isinstance) boot_isinstance ha hg (by decide) (by decide) hs hp
end
theorem line_big : 1000000 ≤ sizeLine := by decide
theorem atI_cast {α : Type} (xs : List α) (n : Nat) : atI xs (n : Int) = xs[n]? := by
 unfold atI ixN
 rw [if_pos (Int.natCast_nonneg n)]
 by_cases h : n < xs.length
 ·rw [if_pos (by lia)]; simp
 ·rw [if_neg (by lia)]; simp [h]
theorem atI_zero {α : Type} (xs : List α) : atI xs (0 : Int) = xs[0]? := atI_cast xs 0
theorem atI_one {α : Type} (xs : List α) : atI xs (1 : Int) = xs[1]? := atI_cast xs 1
theorem atI_in {α : Type} {xs : List α} {k : Int} (h0 : 0 ≤ k) (h1 : k < xs.length) : atI xs k = some (xs[k.toNat]'(by lia)) := by
 obtain ⟨n, rfl⟩ := Int.eq_ofNat_of_zero_le h0
 rw [atI_cast]
 have : n < xs.length := by lia
 simp [this]
theorem atI_end {α : Type} (xs : List α) (x : α) : atI (xs ++ [x]) (-1 : Int) = some x := by
 unfold atI ixN
 have h2 : -(((xs ++ [x]).length : Nat) : Int) ≤ -1 := by simp; lia
 rw [if_neg (by lia), if_pos h2]
 have e : (-1 + ((xs ++ [x]).length : Int)).toNat = xs.length := by simp; lia
 rw [e]; simp
theorem atI_map {α β : Type} {f : α → β} {xs : List α} {k : Int} : atI (xs.map f) k = (atI xs k).map f := by
 unfold atI
 rw [List.length_map]
 cases ixN xs.length k with
 | none => rfl
 | some j => simp
theorem uIx_l {us : List U} {k : Int} : uIx (.lst us) (.int k) = atI us k := rfl
theorem uIx_t {us : List U} {k : Int} : uIx (.tup us) (.int k) = atI us k := rfl
theorem uDiv_s {a b : Int} (h0 : 0 < b) (h1 : b < 18446744073709551616) : uDiv (.int a) (.int b) = some (.int (a / b)) := by
 unfold uDiv
 have e : (18446744073709551616 : Nat) ≤ 2 ^ 9000 := by
  rw [show (18446744073709551616 : Nat) = 2 ^ 64 by decide]; exact Nat.pow_le_pow_right (by decide) (by decide)
 simp only
 rw [if_pos ⟨h0, by lia⟩]
theorem uMod_s {a b : Int} (h0 : 0 < b) : uMod (.int a) (.int b) = some (.int (a % b)) := by unfold uMod; simp only; rw [if_pos h0]
theorem uMul_l {a b : Int} (h1 : -18446744073709551616 < a) (h2 : a < 18446744073709551616) : uMul (.int a) (.int b) = some (.int (a * b)) := by
 unfold uMul; simp only; rw [if_pos (.inl ⟨by lia, by lia⟩)]
theorem uMul_r {a b : Int} (h1 : -18446744073709551616 < b) (h2 : b < 18446744073709551616) : uMul (.int a) (.int b) = some (.int (a * b)) := by
 unfold uMul; simp only; rw [if_pos (.inr (.inl ⟨by lia, by lia⟩))]
theorem uPow_s {a b : Int} (h0 : 0 ≤ b) (h1 : b ≤ 1000000) (h2 : -18446744073709551616 < a) (h3 : a < 18446744073709551616) : uPow (.int a) (.int b) = some (.int (a ^ b.toNat)) := by
 unfold uPow; simp only; rw [if_pos ⟨h0, h1, by lia⟩]
theorem uAdd_i {a b : Int} : uAdd (.int a) (.int b) = some (.int (a + b)) := rfl
theorem uAdd_l {a b : List U} (h : a.length + b.length ≤ 1000000) : uAdd (.lst a) (.lst b) = some (.lst (a ++ b)) := by unfold uAdd; simp only; rw [if_pos (Nat.le_trans h line_big)]
theorem uAdd_t {a b : List U} (h : a.length + b.length ≤ 1000000) : uAdd (.tup a) (.tup b) = some (.tup (a ++ b)) := by unfold uAdd; simp only; rw [if_pos (Nat.le_trans h line_big)]
theorem mkT_s {us : List U} (h : us.length ≤ 1000000) : mkT us = some (.tup us) := by unfold mkT; rw [if_pos (Nat.le_trans h line_big)]
theorem mkL_s {us : List U} (h : us.length ≤ 1000000) : mkL us = some (.lst us) := by unfold mkL; rw [if_pos (Nat.le_trans h line_big)]
theorem ite_lt {α : Type} {n : Nat} {a b : α} (h : n < 1000000) : (if n < sizeLine then a else b) = a := by rw [if_pos (Nat.lt_of_lt_of_le h line_big)]
theorem ite_le {α : Type} {n : Nat} {a b : α} (h : n ≤ 1000000) : (if n ≤ sizeLine then a else b) = a := by rw [if_pos (Nat.le_trans h line_big)]
theorem uR1_s {j : Int} (h0 : -4611686018427387904 ≤ j) (h1 : j < 4611686018427387904) : uR1 [.int j] = some (rngU 0 j.toNat) := by unfold uR1; simp only; rw [if_pos ⟨by lia, by lia⟩]
theorem rngU_len {lo : Int} {n : Nat} : (rngU lo n).length = n := by simp [rngU]
section
variable {i n : Nat} {fa fb fc : Ef} {ft ft' : Tf} {fr : Af} {ρ : En} {ω : Om} {u : U} {us : List U} {g g1 g2 : Sf} {h h' : U → U → Option U} {q : List U → Option U} {q1 : U → Option U} {x : Str} {a : U → En → Option En} {b : List U → En → Option En} {fl fh : Pf} {F : Ff}
theorem sNext_ap : sNext ρ ω = .nx ρ ω := rfl
theorem sIf_ap : sIf ft g1 g2 ρ ω = Fl.of (ft ρ ω) fun b ω1 => if b = true then g1 ρ ω1 else g2 ρ ω1 := rfl
theorem sSet_ap : sSet i fa ρ ω = Fl.of (fa ρ ω) fun u ω1 => .nx (ρ.set i (some u)) ω1 := rfl
theorem sRet_ap : sRet fa ρ ω = Fl.of (fa ρ ω) fun u ω1 => .rt u ω1 := rfl
theorem sExpr_ap : sExpr fa ρ ω = Fl.of (fa ρ ω) fun ψ ω1 => .nx ρ ω1 := rfl
theorem sAug_ap : sAug i h fa ρ ω = match ρ[i]? with
 | some (some a) => Fl.of (fa ρ ω) fun b ω1 => match h a b with
  | some c => .nx (ρ.set i (some c)) ω1
  | none => .stk
 | _ => .stk := rfl
theorem sApp_ap : sApp i fa ρ ω = match ρ[i]? with
 | some (some (.lst us)) => Fl.of (fa ρ ω) fun u ω1 => if us.length < sizeLine then .nx (ρ.set i (some (.lst (us ++ [u])))) ω1 else .stk
 | _ => .stk := rfl
theorem sExt_ap : sExt i fa ρ ω = match ρ[i]? with
 | some (some (.lst us)) => Fl.of (fa ρ ω) fun u ω1 => match u with
  | .lst ws => if us.length + ws.length ≤ sizeLine then .nx (ρ.set i (some (.lst (us ++ ws)))) ω1 else .stk
  | _ => .stk
 | _ => .stk := rfl
theorem sRevM_ap : sRevM i ρ ω = match ρ[i]? with
 | some (some (.lst us)) => .nx (ρ.set i (some (.lst us.reverse))) ω
 | _ => .stk := rfl
theorem sAsg_ap : sAsg a fa ρ ω = Fl.of (fa ρ ω) fun u ω1 => match a u ρ with
 | some ρ' => .nx ρ' ω1
 | none => .stk := rfl
theorem sFor_ap : sFor fr a g ρ ω = Fl.of (fr ρ ω) fun us ω1 => forU (stepU a g) us ρ ω1 := rfl
theorem stepU_ap : stepU a g u ρ ω = match a u ρ with
 | some ρ' => g ρ' ω
 | none => .stk := rfl
theorem sRaise_ap : sRaise x fa ρ ω = Fl.of (fa ρ ω) fun ψ ω1 => .err x none ω1 := rfl
theorem aName_ap : aName i u ρ = some (ρ.set i (some u)) := rfl
theorem aTup_ap : aTup n b (.tup us) ρ = if us.length = n then b us ρ else none := rfl
theorem aNilT_ap : aNilT [] ρ = some ρ := rfl
theorem aConsT_ap : aConsT a b (u :: us) ρ = (a u ρ).bind (b us) := rfl
theorem eVar_ap : eVar i ρ ω = match ρ[i]? with
 | some (some u) => .ok u ω
 | _ => .stk := rfl
theorem eC_ap : eC u ρ ω = .ok u ω := rfl
theorem eOp_ap : eOp h fa fb ρ ω = (fa ρ ω).bnd fun a ω1 => (fb ρ ω1).bnd fun b ω2 => .of (h a b) ω2 := rfl
theorem eUn_ap : eUn q1 fa ρ ω = (fa ρ ω).bnd fun a ω1 => .of (q1 a) ω1 := rfl
theorem eAnd_ap : eAnd fa fb ρ ω = (fa ρ ω).bnd fun u ω1 => match u with
 | .bl b => if b = true then fb ρ ω1 else .ok (.bl false) ω1
 | _ => .stk := rfl
theorem eIf_ap : eIf ft fa fb ρ ω = (ft ρ ω).bnd fun b ω1 => if b = true then fa ρ ω1 else fb ρ ω1 := rfl
theorem eChain_ap : eChain h h' fa fb fc ρ ω = (fa ρ ω).bnd fun a ω1 => (fb ρ ω1).bnd fun b ω2 => match h a b with
 | some (.bl k) => if k = true then (fc ρ ω2).bnd fun c ω3 => .of (h' b c) ω3 else .ok (.bl false) ω2
 | _ => .stk := rfl
theorem eTup_ap : eTup fr ρ ω = (fr ρ ω).bnd fun us ω1 => .of (mkT us) ω1 := rfl
theorem eLst_ap : eLst fr ρ ω = (fr ρ ω).bnd fun us ω1 => .of (mkL us) ω1 := rfl
theorem eB_ap : eB q fr ρ ω = (fr ρ ω).bnd fun us ω1 => .of (q us) ω1 := rfl
theorem eCall_ap : eCall F fr ρ ω = (fr ρ ω).bnd F := rfl
theorem eSl_ap {g : U → Option Int → Option Int → Option U} : eSl g fa fl fh ρ ω = (fa ρ ω).bnd fun a ω1 => (fl ρ ω1).bnd fun l ω2 => (fh ρ ω2).bnd fun h ω3 => .of (g a l h) ω3 := rfl
theorem eComp_ap {k : Nat} {js : List Nat} : eComp fr k js a ft fa ρ ω = (fr ρ ω).bnd fun us ω1 => if us.length ≤ sizeLine then asOk (cmpU (cstU a ft fa (blkU k js ρ)) us ω1) fun r ω2 => .ok (.lst r) ω2 else .stk := rfl
theorem cstU_ap : cstU a ft fa ρ u ω = match a u ρ with
 | some ρ' => (ft ρ' ω).bnd fun b ω1 => if b = true then (fa ρ' ω1).bnd fun u ω2 => .ok (some u) ω2 else .ok none ω1
 | none => .stk := rfl
theorem tfB_ap : tfB fa ρ ω = (fa ρ ω).bnd fun u ω1 => .of (asB u) ω1 := rfl
theorem tfAnd_ap : tfAnd ft ft' ρ ω = (ft ρ ω).bnd fun b ω1 => if b = true then ft' ρ ω1 else .ok false ω1 := rfl
theorem tfOr_ap : tfOr ft ft' ρ ω = (ft ρ ω).bnd fun b ω1 => if b = true then .ok true ω1 else ft' ρ ω1 := rfl
theorem tfNot_ap : tfNot ft ρ ω = (ft ρ ω).bnd fun b ω1 => .ok (!b) ω1 := rfl
theorem tfTrue_ap : tfTrue ρ ω = .ok true ω := rfl
theorem aNil_ap : aNil ρ ω = .ok [] ω := rfl
theorem aCons_ap : aCons fa fr ρ ω = (fa ρ ω).bnd fun u ω1 => (fr ρ ω1).bnd fun us ω2 => .ok (u :: us) ω2 := rfl
theorem pNo_ap : pNo ρ ω = .ok none ω := rfl
theorem pSome_ap : pSome fa ρ ω = (fa ρ ω).bnd fun u ω1 => .of (asI u) ω1 := rfl
theorem iOf_ap : iOf fa ρ ω = (fa ρ ω).bnd fun u ω1 => .of (asSeq u) ω1 := rfl
theorem iArgs_ap {q : List U → Option (List U)} : iArgs q fr ρ ω = (fr ρ ω).bnd fun us ω1 => .of (q us) ω1 := rfl
end
noncomputable def thenF (g : Sf) (r : Fl) : Fl := match r with
 | .nx ρ' ω' => g ρ' ω'
 | o => o
theorem sSeq_then {g1 g2 : Sf} {ρ : En} {ω : Om} : sSeq g1 g2 ρ ω = thenF g2 (g1 ρ ω) := rfl
@[simp] theorem thenF_nx {g : Sf} {ρ : En} {ω : Om} : thenF g (.nx ρ ω) = g ρ ω := rfl
@[simp] theorem thenF_rt {g : Sf} {u : U} {ω : Om} : thenF g (.rt u ω) = .rt u ω := rfl
@[simp] theorem thenF_err {g : Sf} {c : Str} {p : Option Int} {ω : Om} : thenF g (.err c p ω) = .err c p ω := rfl
noncomputable def endF (r : Fl) : Res U := match r with
 | .nx _ ω' => .ok .non ω'
 | .rt u ω' => .ok u ω'
 | .err c p ω' => .err c p ω'
 | _ => .stk
theorem runU_end {n : Nat} {g : Sf} {us : List U} {ω : Om} : runU n g us ω = endF (g (us.map some ++ List.replicate (n - us.length) none) ω) := rfl
@[simp] theorem endF_rt {u : U} {ω : Om} : endF (.rt u ω) = .ok u ω := rfl
@[simp] theorem endF_nx {ρ : En} {ω : Om} : endF (.nx ρ ω) = .ok .non ω := rfl
@[simp] theorem endF_err {c : Str} {p : Option Int} {ω : Om} : endF (.err c p ω) = .err c p ω := rfl
theorem cmpU_rng {st : U → Om → Res (Option U)} {f : Nat → U} {lo : Int} {n : Nat} {ω : Om} (h : ∀ i : Nat, i < n → st (.int (lo + i)) ω = .ok (some (f i)) ω) : cmpU st (rngU lo n) ω = .ok ((List.range n).map f) ω := by
 have key : ∀ xs : List Nat, (∀ i ∈ xs, i < n) → cmpU st (xs.map fun i : Nat => U.int (lo + (i : Int))) ω = .ok (xs.map f) ω := by
  intro xs
  induction xs with
  | nil => intro ψ; rfl
  | cons x xs ih =>
   intro hx
   rw [List.map_cons, cmpU, h x (hx x (by simp)), Res.bnd_ok, ih fun i hi => hx i (List.mem_cons_of_mem _ hi), Res.bnd_ok]
   rfl
 exact key _ fun i hi => List.mem_range.mp hi
theorem cmpU_rngF {st : U → Om → Res (Option U)} {f : Nat → Option U} {lo : Int} {n : Nat} {ω : Om} (h : ∀ i : Nat, i < n → st (.int (lo + i)) ω = .ok (f i) ω) : cmpU st (rngU lo n) ω = .ok ((List.range n).filterMap f) ω := by
 have key : ∀ xs : List Nat, (∀ i ∈ xs, i < n) → cmpU st (xs.map fun i : Nat => U.int (lo + (i : Int))) ω = .ok (xs.filterMap f) ω := by
  intro xs
  induction xs with
  | nil => intro ψ; rfl
  | cons x xs ih =>
   intro hx
   rw [List.map_cons, cmpU, h x (hx x (by simp)), Res.bnd_ok, ih fun i hi => hx i (List.mem_cons_of_mem _ hi), Res.bnd_ok]
   cases e : f x with
   | none => rw [List.filterMap_cons_none e]; rfl
   | some u => rw [List.filterMap_cons_some e]; rfl
 exact key _ fun i hi => List.mem_range.mp hi
theorem toDs_ints : ∀ ns : List Int, U.toDs (ns.map U.int) = some (ns.map D.int)
 | [] => by rw [List.map_nil, U.toDs]; rfl
 | n :: ns => by rw [List.map_cons, U.toDs, U.toD, toDs_ints ns]; rfl
theorem uEqs_ints (a b : List Int) : uEqs (a.map U.int) (b.map U.int) = some (decide (a = b)) := by
 unfold uEqs
 rw [toDs_ints, toDs_ints]
 simp [depths_ints, eqs_ints]
theorem uEq_ii {a b : Int} : uEq (.int a) (.int b) = some (.bl (decide (a = b))) := rfl
theorem uNe_ii {a b : Int} : uNe (.int a) (.int b) = some (.bl (!decide (a = b))) := rfl
theorem uEq_tt {a b : List Int} : uEq (.tup (a.map U.int)) (.tup (b.map U.int)) = some (.bl (decide (a = b))) := by show (uEqs _ _).map U.bl = _; rw [uEqs_ints]; rfl
theorem uNe_tt {a b : List Int} : uNe (.tup (a.map U.int)) (.tup (b.map U.int)) = some (.bl (!decide (a = b))) := by show (uEqs _ _).map (fun k => U.bl (!k)) = _; rw [uEqs_ints]; rfl
theorem uEq_ll {a b : List Int} : uEq (.lst (a.map U.int)) (.lst (b.map U.int)) = some (.bl (decide (a = b))) := by show (uEqs _ _).map U.bl = _; rw [uEqs_ints]; rfl
theorem uNe_ll {a b : List Int} : uNe (.lst (a.map U.int)) (.lst (b.map U.int)) = some (.bl (!decide (a = b))) := by show (uEqs _ _).map (fun k => U.bl (!k)) = _; rw [uEqs_ints]; rfl
theorem uNe_l0 {a : List Int} : uNe (.lst (a.map U.int)) (.lst []) = some (.bl (!decide (a = []))) := uNe_ll (b := [])
theorem uEq_l0 {a : List Int} : uEq (.lst (a.map U.int)) (.lst []) = some (.bl (decide (a = []))) := uEq_ll (b := [])
theorem seqInts_l {ns : List Int} : seqInts (.lst (ns.map U.int)) = some ns := asInts_map ns
theorem fn1_to0 {P : Program} {w : World} {K : L2.Fg} {mg : L2.SV} {base : Heap} {k : Nat} {f : Addr} {fd : FuncData} {ps : List Str} {sp : Sp} (F : FnOk P w K mg base (CX1 P w) k f fd ps sp) : FnOk P w K mg base CX0 k f fd ps (fun vs H Q ψ => sp vs H Q E0) :=
 ⟨fun vs H Q E h => F.len vs H Q E0 h, fun A outer s H args us vs Q E hr he hb hv hs => codeAny_mono (F.run A outer s H args us vs Q E0 hr he hb hv hs) fun r s' q => by
  cases r with
  | error e => obtain ⟨_, _, _, _, _, _, _, _, _, _, z⟩ := q; exact z.elim
  | ok fl => cases fl <;> exact q⟩
noncomputable def spLaw (K : L2.Fg) : Sp := fun vs H Q ψ => ∃ sc, ∃ ns : List Int, vs = [.ref sc] ∧ SqL K H sc (ns.map V.int) ∧ ns.length ≤ 63 ∧ ∀ H', Q (.bl true) H'
noncomputable def wd0 (K : L2.Fg) (mg : L2.SV) : Wd := ⟨K, mg, 0, [], fun ψ ψ => True, fun ψ ψ ψ ψ ψ => trivial⟩
theorem law_end {P : Program} {w : World} {K : L2.Fg} {mg : L2.SV} {base : Heap} {k : Nat} {f : Addr} {fd : FuncData} {ps : List Str} {wk : Wd → Prop} {b : Bool} {F : Ff} (G : FnOk P w K mg base (CX1 P w) k f fd ps (spU K mg wk 1 [b] F)) (hw : ∀ W, wk W) (h : ∀ ns : List Int, ns.length ≤ 63 → ∀ ω, ∃ ω', F [.scr ns] ω = .ok (.bl true) ω') :
  FnOk P w K mg base CX0 k f fd ps (spLaw K) := by
 refine (fn1_to0 G).imp fun vs H Q E q => ?_
 obtain ⟨sc, ns, rfl, hs, hl, k⟩ := q
 obtain ⟨ω', e⟩ := h ns hl ⟨[], []⟩
 have r : RU (wd0 K mg) H (.scr ns) (.ref sc) := by rw [RU]; exact ⟨sc, rfl, hs⟩
 refine ⟨wd0 K mg, [.scr ns], ⟨[], []⟩, H, rfl, rfl, hw _, rfl, fun ψ ψ h => h, ⟨trivial, fun b hb => absurd hb (by simp [wd0])⟩, ⟨?_, trivial⟩, ?_⟩
 ·cases b with
  | true => exact .inl r
  | false => exact r
 ·rw [e]
  intro Hc' H' ψ ψ v rv
  rw [RU] at rv; subst rv
  exact k H'
noncomputable def Itd (hi : Int) (n : Nat) : It := ⟨fun i ψ => i < n, fun i H x H' => H' = H ∧ x = .int (hi - i), fun i ψ => n ≤ i⟩
theorem turn_down {P : Program} {w : World} {K : L2.Fg} {tg : Expr} (it : Addr) (hi : Int) (n : Nat) : Turn P w K tg (Itd hi n) [it] it (fun i h => IsRangeIter h it (hi + (i : Nat) * (-1)) ((n : Int) - (i : Nat)) (-1)) where
 mem := by simp
 obj := fun i h st b hb => by
  have e : b = it := by simpa using hb
  subst e
  exact ⟨_, st, fun v z => by
   have z' : Data.fields _ = Data.cell v := z
   cases z'⟩
 keep := fun i h h' st k => k it (by simp) _ st
 item := by
  intro X hP hw hK hc i pins s σ H E I hf st hg
  subst hP hw hK
  obtain ⟨f0, f1, f2, f3, f4, f5⟩ := hf it (by simp)
  have W := Walks.range (prog := X.prog) (w := X.w) (I.ok.hd hc) it hi (-1) n
  refine W.item i s _ _ hg st fun v h' tk hv st' kk => ?_
  obtain ⟨t, rfl⟩ := hv
  have I1 : Inv X pins σ H { s with heap := h', toks := tk } := I.turned (fun b o hb e => kk b o (by simpa using hb) e) f0 f1 f3 f4 f5
  refine ⟨_, rfl, go_of (s := { s with heap := h', toks := tk }) (n := "range_iterator") st' rfl rfl (by decide) ⟨.int (hi - i), H, I1, ⟨t, ?_⟩, ⟨rfl, rfl⟩, st', fun b hb => (hf b hb).1⟩⟩
  congr 1
  lia
 done := by
  intro X hP hw hK hc i pins s σ H E I hf st hg
  subst hP hw hK
  obtain ⟨f0, f1, f2, f3, f4, f5⟩ := hf it (by simp)
  exact wpAny_pyNext_range_end (I.ok.hd hc) st (by have : n ≤ i := hg; lia) fun h' eb => ⟨rfl, I.turned (t' := s.toks) (fun b o hb e => eb b o hb e) f0 f1 f3 f4 f5⟩
 self := fun ψ ψ ψ ψ ψ st h => wpAny_pyIter_rangeiter st h
theorem rangeSize_down (a b : Int) : Builtin.Range.rangeSize a b (-1) = if a > b then a - b else 0 := by
 unfold Builtin.Range.rangeSize
 rw [if_neg (by decide)]
 split
 ·rw [show (-(-1) : Int) = 1 by decide, Int.ediv_one]; lia
 ·rfl
theorem small_down {a b : Int} (ha : -(2 ^ 62) ≤ a) (ha' : a < 2 ^ 62) (hb : -(2 ^ 62) ≤ b) (hb' : b < 2 ^ 62) : Builtin.Range.small a b (-1) = true := by
 unfold Builtin.Range.small
 rw [rangeSize_down]
 simp only [Builtin.Range.rangeFitsLong, Bool.and_eq_true, Bool.or_eq_true, decide_eq_true_eq, beq_iff_eq, show ¬ ((-1 : Int) > 0) by decide, if_false]
 split <;> simp <;> lia
noncomputable def iRng3 (ta : TA) : TI := fun σ H R => ta σ H fun vs H1 => ∃ i j : Int, vs = [.int i, .int j, .int (-1)] ∧ (-(2 ^ 62) ≤ i ∧ i < 2 ^ 62 ∧ -(2 ^ 62) ≤ j ∧ j < 2 ^ 62) ∧ R (Itd i (i - j).toNat) H1
theorem pi_range3 {X : Cx} {tg a b c : Expr} {ta : TA} {p pos : Pos} (hg : Gl X "range") (hm : X.mg "range" = none) (ha : PA X [a, b, c] ta) (hs : starEach [a, b, c] X.env = [(false, eval a X.env), (false, eval b X.env), (false, eval c X.env)]) (hs2 : starEach [b, c] X.env = [(false, eval b X.env), (false, eval c X.env)]) :
  PI X tg (.Call (.Name "range" p) [a, b, c] [] pos) (iRng3 ta) := by
 intro pins s σ H R I h
 refine Call_ (ld_blt I hg hm boot_range (PyProof.Rows.callWith_type1 (thn (ha pos pins s σ H _ I h) fun us s1 ⟨vs, H1, I1, r1, q1⟩ => ?_) (by rw [hs, hs2]) (by rw [hs2]; rfl)))
 obtain ⟨i, j, e, ⟨q1, q2, q3, q4⟩, q⟩ := q1
 subst e
 cases r1 with
 | cons r rr =>
  cases rr with
  | cons r' rr =>
   cases rr with
   | cons r'' rr =>
    cases rr
    obtain ⟨t, rfl⟩ := r
    obtain ⟨t', rfl⟩ := r'
    obtain ⟨t'', rfl⟩ := r''
    refine call_range_3 (by decide) ?_ (Or.inl (PyProof.noPylong_small (by decide)))
    refine wpAny_pyIter_range (IsRange.new ..) (small_down q1 q2 q3 q4) ?_
    have I2 : Inv X pins σ H1 { s1 with heap := s1.heap.push { cls := .type "range", data := .fields #[.int i t, .int j t', .int (-1) t''] }, toks := s1.toks } := I1.kept fun b o e => Heap.get?_push_of_some _ e
    refine ⟨(s1.heap.push { cls := .type "range", data := .fields #[.int i t, .int j t', .int (-1) t''] }).objs.size, [(s1.heap.push { cls := .type "range", data := .fields #[.int i t, .int j t', .int (-1) t''] }).objs.size], _, _, H1, rfl,
     I2.kept (t' := s1.toks) fun b o e => Heap.get?_push_of_some _ e, turn_down _ i (i - j).toNat, ?_, fun b hb => ?_, q⟩
    ·have e1 : i + ((0 : Nat) : Int) * (-1) = i := by simp
     have e2 : (((i - j).toNat : Nat) : Int) - ((0 : Nat) : Int) = Builtin.Range.rangeSize i j (-1) := by rw [rangeSize_down]; split <;> lia
     show IsRangeIter _ _ (i + ((0 : Nat) : Int) * (-1)) ((((i - j).toNat : Nat) : Int) - ((0 : Nat) : Int)) (-1)
     rw [e1, e2]
     exact Heap.get?_push_size _ rfl
    ·have e : b = (s1.heap.push { cls := .type "range", data := .fields #[.int i t, .int j t', .int (-1) t''] }).objs.size := by simpa using hb
     subst e
     exact I2.fpOk (Nat.le_refl _) (I2.hok.fresh (Nat.le_refl _))
noncomputable def dnU (hi : Int) (n : Nat) : List U := (List.range n).map fun i : Nat => U.int (hi - (i : Int))
section
variable {W : Wd} {m : Md} {E : XK} {c : Bool} {tr : TA} {fr : Af}
theorem itd_r {Hb Hc : Hp} {hi : Int} {n : Nat} : ItR W Hb Hc (Itd hi n) (dnU hi n) := by
 intro Hc2 H2 s1 s2 s3
 refine ⟨fun i u hu => ?_, by show n ≤ (dnU hi n).length; simp [dnU]⟩
 unfold dnU at hu
 rw [List.getElem?_map] at hu
 have li : i < n := by
  by_cases l : i < n
  ·exact l
  ·rw [List.getElem?_eq_none (by simpa using l)] at hu; cases hu
 rw [List.getElem?_range li] at hu
 cases hu
 refine ⟨li, fun x H3 y => ?_⟩
 obtain ⟨rfl, rfl⟩ := y
 exact ⟨Hc2, Ext.refl s2, fun ψ ψ h => h, .int⟩
open Classical in
noncomputable def uR3 : List U → Option (List U)
 | [.int i, .int j, .int k] => if InR i ∧ InR j ∧ k = -1 then some (dnU i (i - j).toNat) else none
 | _ => none
theorem uR3_s {i j : Int} (h0 : -4611686018427387904 ≤ i) (h1 : i < 4611686018427387904) (h2 : -4611686018427387904 ≤ j) (h3 : j < 4611686018427387904) : uR3 [.int i, .int j, .int (-1)] = some (dnU i (i - j).toNat) := by
 unfold uR3; simp only; rw [if_pos ⟨⟨by lia, by lia⟩, ⟨by lia, by lia⟩, rfl⟩]
theorem dnU_len {hi : Int} {n : Nat} : (dnU hi n).length = n := by simp [dnU]
theorem RBs.three {Hc H : Hp} {u u' u'' : U} {vs : List V} (h : RBs W Hc H [true, true, true] [u, u', u''] vs) : ∃ v v' v'', vs = [v, v', v''] ∧ RB W Hc H u v ∧ RB W Hc H u' v' ∧ RB W Hc H u'' v'' := by
 match vs, h with
 | [], h => unfold RBs at h; exact h.elim
 | v :: r, h =>
  unfold RBs at h
  obtain ⟨v', v'', e, q, q'⟩ := RBs.two h.2
  exact ⟨v, v', v'', by rw [e], h.1, q, q'⟩
theorem di_r3 (hr : DA W m E [true, true, true] tr fr) : DI W m E c (iRng3 tr) (iArgs uR3 fr) := by
 intro H0 ρ ω σ Hc H ow S R h
 refine hr H0 ρ ω σ Hc H ow S _ ((Aft.bnd h).imp fun us ω1 Hc1 H1 e1 p1 h1 vs rs => ?_)
 revert h1
 cases hg : uR3 us with
 | none => exact fun h1 => h1.elim
 | some ws =>
  intro h1
  unfold uR3 at hg
  split at hg
  ·split at hg <;> cases hg
   rename_i i j k hj
   obtain ⟨rfl⟩ := hj.2.2
   obtain ⟨v, v', v'', rfl, rv, rv', rv''⟩ := rs.three
   have := rv.int; subst this
   have := rv'.int; subst this
   have := rv''.int; subst this
   exact ⟨i, j, rfl, ⟨hj.1.1, hj.1.2, hj.2.1.1, hj.2.1.2⟩, h1 Hc1 H1 (Ext.refl e1.sub) p1 _ itd_r⟩
  ·cases hg
variable {ι : Type} {X : L2.FC ι} {a b d : Expr} {pos p : Pos}
theorem qi_r3 {tg : Expr} (cx : Ctx X W E) (B : Bl W.mg) (ha : QA X W m E [true, true, true] [a, b, d] fr) (hg : ∀ y, Gl (X y) "range" := by intro ψ; rfl) (hs : ∀ y, starEach [a, b, d] (X y).env = [(false, eval a (X y).env), (false, eval b (X y).env), (false, eval d (X y).env)] := by intro ψ; rfl) (hs2 : ∀ y, starEach [b, d] (X y).env = [(false, eval b (X y).env), (false, eval d (X y).env)] := by intro ψ; rfl) :
  QI X W m E c tg (.Call (.Name "range" p) [a, b, d] [] pos) (iArgs uR3 fr) := let ⟨_, pa, da⟩ := ha; ⟨_, fun y => pi_range3 (hg y) ((congrFun (cx.hm y) _).trans B.range) (pa y) (hs y) (hs2 y), di_r3 da⟩
end
end L2
set_option maxHeartbeats 1000000
namespace L2
open PySem PySem.Spec PyProof.Rows
section
variable {W : Wd} {m : Md} {i : Nat} {ρ : En} {ω : Om} {σ : St} {H0 Hc H : Hp} {ow : Nat → Addr}
theorem Sr.pile (S : Sr W m ρ ω σ H0 Hc H ow) (h : ρ[i]? = some (some .pile)) : σ[i]? = some (some (.ref W.pa)) := by
 obtain ⟨v, q, r⟩ := S.get h
 rw [q, r.pile]
end
end L2
set_option maxHeartbeats 1000000
namespace L2
open PySem PySem.Spec PyProof.Rows
theorem sorted_seq {prog : Program} {w : World} {A : Around} {E : L2.VSP} {s : Shared} {Q : L2.VSP} {it : Addr} {T : String} {o : Obj} {items : Array Value} {n : Nat} {ns : List Int}
  (hT : T = "list" ∨ T = "tuple") (ho : s.heap.get? it = some o) (hc : o.cls = Value.type T) (hd : o.data = Data.seq items n) (hI : IntsAre items.toList ns) (h64 : items.toList.length < 64)
  (h : ∀ (h1 h2 : Heap) (out : Array Value) (ns' : List Int) (e : Nat), (∀ (b : Addr) (o' : Obj), s.heap.get? b = some o' → h1.get? b = some o') → (∀ (b : Addr) (o' : Obj), h1.get? b = some o' → h2.get? b = some o') → h2.get? h1.objs.size = some (seqObj "list" out e) →
   IntsAre out.toList ns' → ns'.Perm ns → List.Pairwise (fun x1 x2 => x1 ≤ x2) ns' → Q (Value.ref h1.objs.size) { heap := h2, gens := s.gens, drawn := s.drawn, toks := s.toks, os := s.os }) :
  wpAny (model prog w) A (call (Value.builtin "sorted") [Value.ref it]) Q E s := by
 refine Calls.call_function_entry kind_sorted plain_sorted entry_sorted (args_sorted1 _) ?_
 have h64' : items.size < 64 := by simpa using h64
 refine wpAny_bind (wpAny_pure (wpAny_bind (wpAny_collect_seq it hT ho hc hd (fun h1 kp => ?_) (by rw [sizeLine_eq]; lia))))
 refine wpAny_bind (wpAny_newList ?_ (by rw [sizeLine_eq]; lia))
 have hoL : (h1.push (seqObj "list" items.toList.toArray 0)).get? h1.objs.size = some (seqObj "list" items.toList.toArray 0) := Heap.get?_push_size _ rfl
 refine wpAny_bind (wpAny_holding (wpAny_call_entry slot_list_sort ⟨_, hoL, rfl⟩ entry_list_sort (list_sort_tree (s := { heap := h1.push (seqObj "list" items.toList.toArray 0), gens := s.gens, drawn := s.drawn, toks := s.toks, os := s.os }) hoL hI h64 fun out ns' a1 a2 a3 => ⟨.none, rfl, wpAny_pure ⟨_, rfl, ?_⟩⟩) (args_list_sort _)))
 obtain ⟨e, he⟩ := sortedHeap_at (out := out) hoL
 refine h h1 _ out ns' e kp (fun b o' hb => ?_) he a1 a2 a3
 have lt := Heap.lt_size hb
 refine (sortedHeap_old (Nat.ne_of_lt lt) ?_).trans (Heap.get?_push_of_some _ hb)
 rw [Heap.size_push]; exact Nat.lt_succ_of_lt lt
theorem perm_sorted : ∀ {a b : List Int}, a.Perm b → a.Pairwise (· ≤ ·) → b.Pairwise (· ≤ ·) → a = b
 | [], b, p, _, _ => by rw [List.nil_perm.mp p]
 | x :: a, [], p, _, _ => absurd p.length_eq (by simp)
 | x :: a, y :: b, p, ha, hb => by
  have hx := List.pairwise_cons.mp ha
  have hy := List.pairwise_cons.mp hb
  have e : x = y := by
   have m1 : x ∈ y :: b := p.mem_iff.mp (by simp)
   have m2 : y ∈ x :: a := p.mem_iff.mpr (by simp)
   rcases List.mem_cons.mp m1 with h | h
   ·exact h
   ·rcases List.mem_cons.mp m2 with h' | h'
    ·exact h'.symm
    ·exact Int.le_antisymm (hx.1 y h') (hy.1 x h)
  subst e
  rw [perm_sorted ((List.perm_cons x).mp p) hx.2 hy.2]
noncomputable def ins (x : Int) : List Int → List Int
 | [] => [x]
 | y :: ys => if x ≤ y then x :: y :: ys else y :: ins x ys
noncomputable def srt : List Int → List Int
 | [] => []
 | x :: xs => ins x (srt xs)
theorem ins_perm (x : Int) : ∀ ys : List Int, (ins x ys).Perm (x :: ys)
 | [] => .refl _
 | y :: ys => by
  unfold ins; split
  ·exact .refl _
  ·exact ((ins_perm x ys).cons y).trans (.swap x y ys)
theorem srt_perm : ∀ xs : List Int, (srt xs).Perm xs
 | [] => .refl _
 | x :: xs => (ins_perm x _).trans ((srt_perm xs).cons x)
theorem ins_pw (x : Int) : ∀ ys : List Int, ys.Pairwise (· ≤ ·) → (ins x ys).Pairwise (· ≤ ·)
 | [], _ => by simp [ins]
 | y :: ys, h => by
  have hy := List.pairwise_cons.mp h
  unfold ins; split
  ·rename_i c
   refine List.pairwise_cons.mpr ⟨fun z hz => ?_, h⟩
   rcases List.mem_cons.mp hz with e | e
   ·rw [e]; exact c
   ·exact Int.le_trans c (hy.1 z e)
  ·rename_i c
   refine List.pairwise_cons.mpr ⟨fun z hz => ?_, ins_pw x ys hy.2⟩
   rcases List.mem_cons.mp ((ins_perm x ys).mem_iff.mp hz) with e | e
   ·rw [e]; lia
   ·exact hy.1 z e
theorem srt_pw : ∀ xs : List Int, (srt xs).Pairwise (· ≤ ·)
 | [] => .nil
 | x :: xs => ins_pw x _ (srt_pw xs)
theorem srt_of {a b : List Int} (p : a.Perm b) (h : a.Pairwise (· ≤ ·)) : a = srt b := perm_sorted (p.trans (srt_perm b).symm) h (srt_pw b)
noncomputable def rSorted (K : L2.Fg) : List V → Hp → VK → Prop := fun xs H Q => ∃ (p : Addr) (ns : List Int), xs = [.ref p] ∧ (SqL K H p (ns.map V.int) ∨ SqT K H p (ns.map V.int)) ∧ ns.length < 64 ∧ ∀ l, H l = none → Q (.ref l) (upd H l (.lst ((srt ns).map V.int)))
theorem vals_of_ints : ∀ {vs : List Value} {ns : List Int}, IntsAre vs ns → Vals (ns.map V.int) vs
 | _, _, .nil => .nil
 | _, _, .cons n t h => .cons ⟨t, rfl⟩ (vals_of_ints h)
theorem call_sorted {X : Cx} : CallR X (.builtin "sorted") (rSorted X.K) := by
 intro pins s σ H xs us Q I r h
 obtain ⟨p, ns, rfl, hq, hl, q⟩ := h
 obtain ⟨u, rfl, rx⟩ := vals1 r
 cases rx
 have key : ∀ (its : List Value) (T : String) (o : Obj) (n : Nat), Vals (ns.map V.int) its → (T = "list" ∨ T = "tuple") → s.heap.get? p = some o → o.cls = Value.type T → o.data = Data.seq its.toArray n → wpAny (model X.prog X.w) X.A (call (.builtin "sorted") [.ref p]) (EP X pins σ Q) X.xe s := fun its T o n r' hT ho hc hd => by
  have hi := intsAre_of r'
  have hlen := r'.length
  refine sorted_seq hT ho hc hd (by simpa using hi) (by simp at hlen ⊢; lia) fun h1 h2 out ns' e kp1 kp2 he a1 a2 a3 => ?_
  have es := srt_of a2 a3
  subst es
  have I1 : Inv X pins σ H { s with heap := h1 } := I.kept (t' := s.toks) kp1
  have I2 := I1.laid (t' := s.toks) (a := h1.objs.size) (o := .lst ((srt ns).map V.int)) (h' := h2) kp2 (Nat.le_refl _)
   (show ObjOk X.prog X.w _ h2 _ (.lst _) from ⟨by
    rw [List.length_map, (srt_perm ns).length_eq, sizeLine_eq]; lia, out.toList, e, vals_of_ints a1, by simpa [seqObj] using he⟩)
  exact ⟨.ref h1.objs.size, _, I2, rfl, q _ (I1.hok.fresh (Nat.le_refl _))⟩
 rcases hq with hq | hq
 ·obtain ⟨its, r', pl, hz⟩ := I.list hq
  obtain ⟨o, ho, hc, n, hd⟩ := pl.isList
  exact key its "list" o n r' (.inl rfl) ho hc hd
 ·obtain ⟨its, r', pl, hz⟩ := I.tuple hq
  obtain ⟨o, ho, hc, n, hd⟩ := pl
  exact key its "tuple" o n r' (.inr rfl) ho hc hd
theorem call_sortedK {Y : Cx} {K : L2.Fg} (h : Y.K = K) : CallR Y (.builtin "sorted") (rSorted K) := h ▸ call_sorted
noncomputable def uSorted : List U → Option U
 | [.lst us] => (asInts us).bind fun ns => if ns.length < 64 then some (.lst ((srt ns).map U.int)) else none
 | [.tup us] => (asInts us).bind fun ns => if ns.length < 64 then some (.lst ((srt ns).map U.int)) else none
 | _ => none
theorem uSorted_l {ns : List Int} (h : ns.length < 64) : uSorted [.lst (ns.map U.int)] = some (.lst ((srt ns).map U.int)) := by
 unfold uSorted; simp only; rw [asInts_map]; exact if_pos h
theorem uSorted_t {ns : List Int} (h : ns.length < 64) : uSorted [.tup (ns.map U.int)] = some (.lst ((srt ns).map U.int)) := by
 unfold uSorted; simp only; rw [asInts_map]; exact if_pos h
section
variable {W : Wd}
theorem cf_sorted : CallF W [true] (rSorted W.K) uSorted := by
 intro Hc H ω us vs s p rs u e Q k
 have fin : ∀ (a : Addr) (ns : List Int), (SqL W.K H a (ns.map V.int) ∨ SqT W.K H a (ns.map V.int)) → ((if ns.length < 64 then some (U.lst ((srt ns).map U.int)) else none) = some u) → rSorted W.K [.ref a] H Q := fun a ns hq hu => by
  by_cases c : ns.length < 64
  ·rw [if_pos c] at hu; cases hu
   exact ⟨a, ns, rfl, hq, c, fun l n => k _ _ _ _ _ (laid_f s p n).1 (laid_f s p n).2 rfl (s.free n) n upd_same .ofInts⟩
  ·rw [if_neg c] at hu; cases hu
 unfold uSorted at e; split at e
 ·rename_i us
  obtain ⟨v, rfl, rv⟩ := rs.one; obtain ⟨a, vs, rfl, h1, r1⟩ := rv.lst s
  cases q : asInts us with
  | none => rw [q] at e; exact noS e
  | some ns =>
   rw [q] at e
   have := asInts_of q; subst this
   have := r1.ints; subst this
   exact fin a ns (.inl (.of h1)) e
 ·rename_i us
  obtain ⟨v, rfl, rv⟩ := rs.one; obtain ⟨a, vs, rfl, h1, r1⟩ := rv.tup
  cases q : asInts us with
  | none => rw [q] at e; exact noS e
  | some ns =>
   rw [q] at e
   have := asInts_of q; subst this
   have := r1.ints; subst this
   exact fin a ns (.inr (.of (s _ _ h1))) e
 ·cases e
end
section
variable {ι : Type} {X : L2.FC ι} {W : Wd} {m : Md} {E : XK} {a : Expr} {fa : Ef} {pos p : Pos}
theorem qf_sorted (cx : Ctx X W E) (B : Bl W.mg) (ha : QB X W m E a fa) (hg : ∀ y, Gl (X y) "sorted" := by intro ψ; rfl) (hs : ∀ y, starEach [a] (X y).env = (false, eval a (X y).env) :: starEach [] (X y).env := by intro ψ; rfl) (hp : ∀ y, (backTo pos (starEach [] (X y).env)).any (·.1) = false := by intro ψ; rfl) : QF X W m E (.Call (.Name "sorted" p) [a] [] pos) (eB uSorted (aCons fa aNil)) :=
 let ⟨_, pa, da⟩ := qa_b ha qa_nil hs; ⟨_, fun y => pe_callB (call_sortedK (cx.hK y)) (hg y) ((congrFun (cx.hm y) _).trans B.sorted) boot_sorted (pa y) (by decide) (by decide) (hs y) (hp y), df_cb cf_sorted da⟩
end
noncomputable abbrev TY := Ends → XK → St → Hp → Prop
noncomputable def PY (X : Cx) (ss : List Stmt) (t : TY) : Prop :=
 ∀ (pins : L2.AO) (s : Shared) (σ : St) (H : Hp) (D : Ends) (E : XK), Inv X pins σ H s → t D E σ H → wpAny (model X.prog X.w) X.A (execs ss X.env) (SP X pins D) (XP X pins σ E) s
noncomputable def excG (e C : Addr) (od : Option Addr) : HO := .ext fun h => ∃ o, h.get? e = some o ∧ o.cls = .ref C ∧ o.dict = od ∧ PySem.W.notCls o = true
section
variable {X : Cx} {xn cn n : Str} {i j : Nat} {call c : Expr} {b0 : Stmt} {a b suite body : List Stmt} {p1 p2 p3 p4 pos : Pos} {tc : St → Hp → VK → XK → Prop} {ts : TS} {ty : TY}
noncomputable def tyExpr (tc : St → Hp → VK → XK → Prop) : TY := fun D E σ H => tc σ H (fun ψ H1 => D.nx σ H1) E
noncomputable def tyAsg (i : Nat) (tc : St → Hp → VK → XK → Prop) : TY := fun D E σ H => tc σ H (fun v H1 => D.nx (σ.set i (some v)) H1) E
theorem py_expr (hc : PX X call tc) (hs : swapsWith call none pos.line X.env = pure false := by rfl) : PY X [.Expr call pos] (tyExpr tc) := by
 intro pins s σ H D E I h
 exact wpAny_execs_cons (wpAny_Expr_any (thn (hc pins s σ H _ E I h) fun v s1 ⟨x, H1, I1, r1, q1⟩ => wpAny_execs_nil ⟨σ, H1, I1, q1⟩) I.quiet hs)
theorem py_asg (hN : X.N.Nodup) (hi : X.N[i]? = some xn) (hx : X.env.scope.names.lookup xn = some .local) (hc : PX X call tc) (hsw : swapsWith call (some (.Name xn p1)) p2.line X.env = pure false := by rfl) : PY X [.Assign [.Name xn p1] call p2] (tyAsg i tc) := by
 intro pins s σ H D E I h
 refine wpAny_execs_cons (wpAny_Assign_Name (wpAny_mono (hc pins s σ H _ E I h) (fun v s1 ⟨y, H1, I1, r1, q1⟩ => ?_) fun e s1 hx1 => hx1) hsw)
 exact store_ok I1 hN hi (.inl hx) r1 (fun s2 I2 => wpAny_execs_nil ⟨_, H1, I2, q1⟩) (.inr hx)
noncomputable def tTryG (K : L2.Fg) (j : Nat) (B : Addr) (ty : TY) (ts : TS) : TS := fun D σ H => ∃ E : XK, ty D E σ H ∧
 ∀ oc od H1, E oc od H1 → ∃ C, oc = .ref C ∧ PySem.W.exmOne K (.ref C) (.ref B) = some true ∧ ∀ e, H1 e = none → ts ⟨fun σ2 H2 => D.nx (σ2.set j none) H2, D.rt, fun σ2 H2 => D.bk (σ2.set j none) H2, fun σ2 H2 => D.ct (σ2.set j none) H2⟩ (σ.set j (some (.ref e))) (upd H1 e (excG e C od))
theorem ps_tryG {B : Addr} (hN : X.N.Nodup) (hj : X.N[j]? = some n) (hn : X.env.scope.names.lookup n = some .local) (hst : X.stack = X.env :: X.outer) (hf : X.env.frame = some X.env.locals) (hex : X.ex = [])
  (hc : PY X body ty) (hg : Gl X cn) (hm : X.mg cn = some (.ref B)) (hs : ∀ e, PSs (X.marked (.ref e)) (b0 :: suite) ts) (hcd : (cn == ("__debug__" : Str)) = false := by decide) :
  PS X (.Try body [.ExceptHandler (some (.Name cn p3)) (some n) (b0 :: suite) p4] [] [] pos) (tTryG X.K j B ty ts) := by
 intro pins s σ H D I h
 obtain ⟨E, h1, h2⟩ := h
 refine wpAny_Try_except (wpAny_mono (hc pins s σ H D E I h1) (fun f s1 q => ?_) fun e s1 hx1 => ?_)
 ·cases f with
  | next => exact wpAny_execs_nil q
  | ret v => exact q
  | brk => exact q
  | cont => exact q
 ·obtain ⟨s0, H0, I0, ea, H1, oc, od, rfl, os, bare, un, hok, F, q⟩ := hx1
  obtain ⟨C, rfl, hmt, hq⟩ := h2 _ _ _ q
  have I1 : Inv X pins σ H1 s1 := I0.call' (ch := []) os un hok bare fun b z => absurd z (by simp)
  have nn : ∀ {b : Addr} {o : Obj}, s0.heap.get? b = some o → s0.heap.get? b ≠ none := fun e z => by rw [e] at z; cases z
  refine land I1 (fun b o z => un.there b o z (by simp)) hst hf F fun g k1 k2 k3 k4 k5 F2 => ?_
  have un2 : Un (frs X.stack) [] H0 H1 s0.heap g := ⟨fun b o eb nb hb hx => k1 b o (un.keep b o eb nb hb hx) (nn eb) hb, fun b o eb nb hb hx => by
    obtain ⟨sl, e1⟩ := un.slot b o eb nb hb hx
    obtain ⟨sl', e2⟩ := k2 b _ e1 hb
    exact ⟨sl', e2⟩, un.free, fun b o eb hx => by
    obtain ⟨o', e1⟩ := un.there b o eb hx
    by_cases hb : b ∈ frs X.stack
    ·obtain ⟨sl', e2⟩ := k2 b _ e1 hb
     exact ⟨_, e2⟩
    ·exact ⟨o', k1 b o' e1 (nn eb) hb⟩, un.tups, un.frzs, un.tbls⟩
  have hok2 : HOk X.prog X.w H1 g := fun b u eb => (hok b u eb).stay (fun c v hc r => by
   rcases hc with rfl | hc
   ·exact k3 c _ v eb r
   ·exact k3 c _ v hc r) (fun ψ r => r) fun ψ ψ r => r
  have I2 : Inv X pins σ H1 { s1 with heap := g } := I0.call' (ch := []) (s' := { s1 with heap := g }) os un2 hok2 bare fun b z => absurd z (by simp)
  obtain ⟨oe, vs, hd, ge, c, d, dt, _⟩ := F2.ob
  have M2 := I2.marked (.ref ea)
  refine wpAny_handleBy_cons (codeAny_handlers_test (ld_glob (X := X.marked (.ref ea)) M2 hg hm ?_ hcd)) (by intro q; cases q)
  have LT : PySem.W.Looks (model X.prog X.w) g (typeOf (.ref ea)) (.ref C) := c ▸ (PySem.W.Looks.ld ge).andThen .now
  refine PySem.W.Looks.at (PySem.W.exm_one I2.kIn LT hmt) ?_
  refine codeAny_handlers_suite_as (Flw.again (s := { s1 with heap := g }) F2 fun g' l1 l3 F3 => ?_)
  have un3 : Un (frs X.stack) [] H0 H1 s0.heap g' := ⟨fun b o eb nb hb hx => l1 b o (un2.keep b o eb nb hb hx) (nn eb), fun b o eb nb hb hx => by
    obtain ⟨sl, e1⟩ := un2.slot b o eb nb hb hx
    exact ⟨sl, l1 b _ e1 (nn eb)⟩, un2.free, fun b o eb hx => by
    obtain ⟨o', e1⟩ := un2.there b o eb hx
    exact ⟨o', l1 b o' e1 (nn eb)⟩, un2.tups, un2.frzs, un2.tbls⟩
  have hok3 : HOk X.prog X.w H1 g' := fun b u eb => (hok2 b u eb).stay (fun c v hc r => by
   rcases hc with rfl | hc
   ·exact l3 c _ v eb r
   ·exact l3 c _ v hc r) (fun ψ r => r) fun ψ ψ r => r
  have I3 : Inv X pins σ H1 { s1 with heap := g' } := I0.call' (ch := []) (s' := { s1 with heap := g' }) os un3 hok3 bare fun b z => absurd z (by simp)
  obtain ⟨oe3, vs3, hd3, ge3, c3, d3, dt3, _⟩ := F3.ob
  have I4 : Inv X pins σ (upd H1 ea (excG ea C od)) { s1 with heap := g' } := by
   refine I3.adoptX F3.un ?_ (fun z => ?_) (fun x a ec z => ?_) (fun q hq z => ?_) ⟨⟨oe3, ge3, c3, d3, ?_⟩, ⟨oe3, ge3⟩, fun h1 h2 ⟨o, e1, r⟩ st => ⟨o, st o e1, r⟩⟩
   ·cases z : X.s₀.heap.get? ea with
    | none => rfl
    | some o =>
     by_cases hx : ea ∈ X.ex
     ·rw [hex] at hx; exact absurd hx (by simp)
     ·obtain ⟨o', e'⟩ := I0.base.there ea o z hx
      rw [F3.yn] at e'; cases e'
   ·obtain ⟨m, ⟨o, _, _, e', _⟩, _⟩ := I0.loc
    rw [← z, F3.yn] at e'; cases e'
   ·obtain ⟨v, o, e', _⟩ := I0.cell x a ec
    rw [z, F3.yn] at e'; cases e'
   ·have e' := (I0.pin q hq).1
    rw [z, F3.yn] at e'; cases e'
   ·unfold PySem.W.notCls
    rw [dt3]
  refine store_ok (X := X.marked (.ref ea)) (I4.marked (.ref ea)) hN hj (.inl hn) (v := .ref ea) rfl (fun s5 M5 => ?_) (.inr hn)
  refine wpAny_mono (hs ea pins s5 _ _ _ M5 (hq ea F3.un)) (fun fl s6 q6 => ?_) fun ψ ψ z => False.elim z
  have goes : ∀ {σ6 : St} {H6 : Hp} {Z : Unit → Shared → Prop} {ZE : L2.VSP}, Inv (X.marked (.ref ea)) pins σ6 H6 s6 → (∀ s7, Inv X pins (σ6.set j none) H6 s7 → Z () s7) → wpAny (model X.prog X.w) X.A (do bindName X.env n .none; unbindBehindTheSuite X.env n p4) Z ZE s6 := fun {σ6 H6 Z ZE} M6 k => by
   have I6 : Inv X pins σ6 H6 s6 := M6.unmarked I.ok
   obtain ⟨m, hm6, hl6⟩ := id I6.loc
   exact wpAny_nameGoes_keeps (show X.env.kindOf n = some .local from hn) hm6 (by rw [I.ok.kind]; rfl) fun h7 v7 hn7 hs7 => k _ (I6.gone hN hj hm6 hl6 hn7 hs7)
  cases fl with
  | next =>
   obtain ⟨σ6, H6, M6, q6⟩ := q6
   exact goes M6 fun s7 I7 => ⟨_, H6, I7, q6⟩
  | ret v =>
   obtain ⟨w, σ6, H6, M6, r6, q6⟩ := q6
   exact goes M6 fun s7 I7 => ⟨w, _, H6, I7, r6, q6⟩
  | brk =>
   obtain ⟨σ6, H6, M6, q6⟩ := q6
   exact goes M6 fun s7 I7 => ⟨_, H6, I7, q6⟩
  | cont =>
   obtain ⟨σ6, H6, M6, q6⟩ := q6
   exact goes M6 fun s7 I7 => ⟨_, H6, I7, q6⟩
end
noncomputable def ContY (W : Wd) (m : Md) (E : XK) (Hc0 H0 Hc H : Hp) (D : Ends) (r : Fl) : Prop := match r with
 | .err c pl ω' => ∀ C od Hc' H', Ext W Hc H Hc' H' → PlOk W ω' Hc' H' → W.mg c = some (.ref C) → XR Hc' pl od → E (.ref C) od H'
 | .nx ρ' ω' => Cont W m E Hc0 H0 D (.nx ρ' ω')
 | .bk ρ' ω' => Cont W m E Hc0 H0 D (.bk ρ' ω')
 | .ct ρ' ω' => Cont W m E Hc0 H0 D (.ct ρ' ω')
 | .rt u ω' => Cont W m E Hc0 H0 D (.rt u ω')
 | .stk => False
noncomputable def DY (W : Wd) (m : Md) (t : TY) (g : Sf) : Prop := ∀ H0 Hc0 ρ ω σ Hc H ow, Sr W m ρ ω σ H0 Hc H ow → Ext W Hc0 H0 Hc H → ∀ (D : Ends) (E : XK), ContY W m E Hc0 H0 Hc H D (g ρ ω) → t D E σ H
noncomputable def DX (W : Wd) (m : Md) (t : St → Hp → VK → XK → Prop) (f : Ef) : Prop := ∀ H0 ρ ω σ Hc H ow, Sr W m ρ ω σ H0 Hc H ow → ∀ (Q : VK) (E : XK), Aft W E Hc H (f ρ ω) (fun u ψ Hc' H' => ∀ v, RU W Hc' u v → Q v H') → t σ H Q E
noncomputable def eCallN (F : Ff) (fr : Af) : Ef := fun ρ ω => asOk (fr ρ ω) F
noncomputable def outT (j : Nat) : Fl → Fl
 | .nx ρ' ω' => .nx (ρ'.set j none) ω'
 | .bk ρ' ω' => .bk (ρ'.set j none) ω'
 | .ct ρ' ω' => .ct (ρ'.set j none) ω'
 | .rt u ω' => .rt u ω'
 | _ => .stk
noncomputable def sTry (gb : Sf) (j : Nat) (cs : List Str) (gh : Sf) : Sf := fun ρ ω => match gb ρ ω with
 | .err c pl ω1 => if c ∈ cs then outT j (gh (ρ.set j (some (.exc c pl))) ω1) else .stk
 | o => o
section
variable {W : Wd} {m : Md} {E : XK} {tc : St → Hp → VK → XK → Prop} {fa : Ef} {ts : TS} {ty : TY} {gb gh : Sf} {i j : Nat} {tr : TA} {fr : Af} {bs : List Bool}
theorem dx_call {K : L2.Fg} {mg : L2.SV} {wk : Wd → Prop} {F : Ff} (hK : W.K = K) (hm : W.mg = mg) (hw : wk W) (hr : DA W m E0 bs tr fr) : DX W m (tCallX (spU K mg wk bs.length bs F) tr) (eCallN F fr) := by
 intro H0 ρ ω σ Hc H ow S Q E h
 refine hr H0 ρ ω σ Hc H ow S _ ?_
 unfold eCallN at h
 revert h
 cases fr ρ ω with
 | stk => exact fun h => h
 | err c pl ω1 => exact fun h => h.elim
 | ok us ω1 => exact fun h Hc1 H1 e1 p1 xs rs => ⟨W, us, ω1, Hc1, hK, hm, hw, rs.len.1, e1.sub, p1, rs, Aft.ext e1 h⟩
theorem dy_expr (h : DX W m tc fa) : DY W m (tyExpr tc) (sExpr fa) := by
 intro H0 Hc0 ρ ω σ Hc H ow S x D E k
 refine h H0 ρ ω σ Hc H ow S _ E ?_
 unfold sExpr at k
 revert k
 cases fa ρ ω with
 | stk => exact fun k => k
 | err c pl ω1 => exact fun k => k
 | ok u ω1 => exact fun k Hc1 H1 e1 p1 v rv => k _ Hc1 H1 ow (S.ext e1 p1) (x.trans e1)
theorem dy_asg (h1 : i ∉ m.B) (h2 : i ∉ m.M) (h : DX W m tc fa) : DY W m (tyAsg i tc) (sSet i fa) := by
 intro H0 Hc0 ρ ω σ Hc H ow S x D E k
 refine h H0 ρ ω σ Hc H ow S _ E ?_
 unfold sSet at k
 revert k
 cases fa ρ ω with
 | stk => exact fun k => k
 | err c pl ω1 => exact fun k => k
 | ok u ω1 => exact fun k Hc1 H1 e1 p1 v rv => k _ Hc1 H1 ow ((S.ext e1 p1).set h1 h2 rv) (x.trans e1)
theorem ContY.ext {Hc0 H0 Hc H Hc1 H1 : Hp} {D : Ends} {r : Fl} (e : Ext W Hc H Hc1 H1) (h : ContY W m E Hc0 H0 Hc H D r) : ContY W m E Hc0 H0 Hc1 H1 D r := by
 cases r with
 | err c pl ω => exact fun C od Hc' H' e' => h C od Hc' H' (e.trans e')
 | _ => exact h
theorem ds_try {B : Addr} {cs : List Str} (h1 : j ∉ m.B) (h2 : j ∉ m.M) (hcs : ∀ c ∈ cs, ∀ C, W.mg c = some (.ref C) → PySem.W.exmOne W.K (.ref C) (.ref B) = some true) (hb : DY W m ty gb) (hh : DS W m E0 ts gh) : DS W m E (tTryG W.K j B ty ts) (sTry gb j cs gh) := by
 intro H0 Hc0 ρ ω σ Hc H ow S x D h
 refine ⟨fun oc od H1 => ∃ C c pl ω1 Hc1, gb ρ ω = .err c pl ω1 ∧ oc = .ref C ∧ Ext W Hc H Hc1 H1 ∧ PlOk W ω1 Hc1 H1 ∧ W.mg c = some (.ref C) ∧ XR Hc1 pl od, hb H0 Hc0 ρ ω σ Hc H ow S x D _ ?_, fun oc od H1 hE => ?_⟩
 ·unfold sTry at h
  revert h
  cases gb ρ ω with
  | err c pl ω1 => exact fun ψ C od Hc' H' e p hm hx => ⟨C, c, pl, ω1, Hc', rfl, rfl, e, p, hm, hx⟩
  | _ => exact fun h => h
 ·obtain ⟨C, c, pl, ω1, Hc1, hg, rfl, e1, p1, hm, hx⟩ := hE
  unfold sTry at h
  rw [hg] at h
  dsimp only at h
  by_cases hc : c ∈ cs
  ·rw [if_pos hc] at h
   refine ⟨C, rfl, hcs c hc C hm, fun e ne => ?_⟩
   have l := laid_e (o := excG e C od) e1.sub p1 ne
   have S2 := S.ext (e1.trans l.1) l.2
   have ru : RU W (upd Hc1 e (excG e C od)) (.exc c pl) (.ref e) := by
    cases pl with
    | none => rw [RU]; rw [show od = none from hx]; exact ⟨e, C, rfl, hm, upd_same⟩
    | some k =>
     obtain ⟨d, rfl, hd⟩ := hx
     rw [RU]
     refine ⟨e, C, d, rfl, hm, upd_same, ?_⟩
     rw [upd_ne (ne_of_none hd (e1.sub.free ne))]; exact hd
   refine hh H0 Hc0 _ ω1 _ _ _ ow (S2.set h1 h2 ru) (x.trans (e1.trans l.1)) _ ?_
   revert h
   cases gh (ρ.set j (some (.exc c pl))) ω1 with
   | nx ρ' ω' => exact fun h σ' Hc' H' ow' S' x' => h _ Hc' H' ow' (S'.drop none) x'
   | bk ρ' ω' => exact fun h σ' Hc' H' ow' S' x' => h _ Hc' H' ow' (S'.drop none) x'
   | ct ρ' ω' => exact fun h σ' Hc' H' ow' S' x' => h _ Hc' H' ow' (S'.drop none) x'
   | rt u ω' => exact fun h => h
   | err _ _ _ => exact fun h => h.elim
   | stk => exact fun h => h
  ·rw [if_neg hc] at h; exact h.elim
end
section
variable {K : L2.Fg} {x C : Addr} {ox : Obj} {od : Option Obj}
theorem kitx_excG (c : ExcK K C) : PySem.W.KitX K (.ref x) (.ref C) (fun h => ∃ ox od, PySem.W.InstAt h x ox C od) where
 ty := fun _ _ _ ⟨_, _, I⟩ => I.type
 it := fun ψ ψ KX ψ => by
  have e := c.cl
  unfold PySem.W.clsIn at e
  split at e
  ·rename_i c' d' cd' sl' ho
   intro A' Q' E' s' k q
   unfold isType loadHead
   exact wpAny_bind (wpAny_loadPart (k _ _ (KX _ _ ho)) (wpAny_pure q))
  ·cases e
 ne := fun h tp dd its n sl KX htp => (kitx_exc (x := x) c).ne h tp dd its n sl KX htp
 ca := fun KX ⟨_, _, I⟩ k => exc_classG c KX I k
end
noncomputable def ExIn (H : Hp) (e C : Addr) : Prop := ∃ od, H e = some (excG e C od) ∧ ∀ d, od = some d → H d ≠ none
section
variable {X : Cx}
theorem exc_instG {pins : L2.AO} {σ : St} {H : Hp} {s : Shared} {e C : Addr} (I : Inv X pins σ H s) (h : ExIn H e C) : ∃ ox od, PySem.W.InstAt s.heap e ox C od := by
 obtain ⟨od, h, hd⟩ := h
 obtain ⟨⟨o, h1, h2, h3, h4⟩, _, _⟩ := I.hok e _ h
 cases od with
 | none => exact ⟨o, none, h1, h2, h4, by rw [h3]; trivial⟩
 | some d =>
  cases q : H d with
  | none => exact absurd q (hd d rfl)
  | some u =>
   obtain ⟨ob, eo⟩ := obj_at (I.hok d u q)
   exact ⟨o, some ob, h1, h2, h4, by rw [h3]; exact eo⟩
noncomputable def rIsX (K : L2.Fg) : List V → Hp → VK → Prop := fun xs H Q => (∃ e C c cv b, xs = [.ref e, c] ∧ ExIn H e C ∧ ExcK K C ∧ (∀ u, RelV c u → u = cv) ∧ PySem.W.kitOne K (.ref C) cv = some b ∧ Q (.bl b) H) ∨
 (∃ (e C tp : Addr) (cs : List Addr) (b : Bool), xs = [.ref e, .ref tp] ∧ ExIn H e C ∧ ExcK K C ∧ H tp = some (.tup (cs.map V.ref)) ∧ PySem.W.kitAny K (.ref C) (cs.map Value.ref) = some b ∧ Q (.bl b) H)
theorem call_isX {K : L2.Fg} (hK : X.K = K) : CallR X (.builtin "isinstance") (rIsX K) := by
 subst hK
 intro pins s σ H xs us Q I r h
 rcases h with ⟨e, C, c, cv, b, rfl, he, ck, rc, k, q⟩ | ⟨e, C, tp, cs, b, rfl, he, ck, ht, k, q⟩
 ·obtain ⟨u, v, rfl, rx, rv⟩ := vals2 r
  cases rx
  have e2 := rc v rv
  subst e2
  exact PySem.W.kia_one (kitx_excG ck) I.kIn (exc_instG I he) k (fun z => nomatch z) fun tk => ⟨.bl b, H, I.tok _, rfl, q⟩
 ·obtain ⟨u, v, rfl, rx, rv⟩ := vals2 r
  cases rx
  cases rv
  obtain ⟨_, its, r1, o, h1, h2, n, h3⟩ := I.hok tp _ ht
  have e1 := vals_refs r1
  subst e1
  obtain ⟨oc, od, dt, sl⟩ := o
  dsimp only at h2 h3
  subst h2 h3
  exact PySem.W.kia_tup (kitx_excG ck) I.kIn (exc_instG I he) h1 k (fun z => nomatch z) fun tk => ⟨.bl b, H, I.tok _, rfl, q⟩
end
noncomputable def tbl {α : Type} [DecidableEq α] : List (Str × α × Bool) → Str → α → Option Bool
 | [], _, _ => none
 | (c', b', r) :: l, c, b => if c' = c ∧ b' = b then some r else tbl l c b
noncomputable def XN (K : L2.Fg) (mg : L2.SV) : List (Str × Str × Bool) → Prop
 | [] => True
 | (c, b, r) :: l => (∃ C B, mg c = some (.ref C) ∧ mg b = some (.ref B) ∧ ExcK K C ∧ PySem.W.kitOne K (.ref C) (.ref B) = some r) ∧ XN K mg l
noncomputable def XT (K : L2.Fg) (mg : L2.SV) : List (Str × String × Bool) → Prop
 | [] => True
 | (c, b, r) :: l => (∃ C, mg c = some (.ref C) ∧ ExcK K C ∧ PySem.W.kitOne K (.ref C) (.type b) = some r) ∧ XT K mg l
theorem XN.of {K : L2.Fg} {mg : L2.SV} : ∀ {l : List (Str × Str × Bool)} {c b : Str} {r : Bool}, XN K mg l → tbl l c b = some r → ∃ C B, mg c = some (.ref C) ∧ mg b = some (.ref B) ∧ ExcK K C ∧ PySem.W.kitOne K (.ref C) (.ref B) = some r
 | [], _, _, _, _, e => by cases e
 | (c', b', r') :: l, c, b, r, h, e => by
  unfold tbl at e
  split at e
  ·rename_i z; cases e; obtain ⟨rfl, rfl⟩ := z; exact h.1
  ·exact XN.of h.2 e
theorem XT.of {K : L2.Fg} {mg : L2.SV} : ∀ {l : List (Str × String × Bool)} {c : Str} {b : String} {r : Bool}, XT K mg l → tbl l c b = some r → ∃ C, mg c = some (.ref C) ∧ ExcK K C ∧ PySem.W.kitOne K (.ref C) (.type b) = some r
 | [], _, _, _, _, e => by cases e
 | (c', b', r') :: l, c, b, r, h, e => by
  unfold tbl at e
  split at e
  ·rename_i z; cases e; obtain ⟨rfl, rfl⟩ := z; exact h.1
  ·exact XT.of h.2 e
noncomputable def nms : List U → Option (List Str)
 | [] => some []
 | .nm b :: r => (nms r).map (b :: ·)
 | _ => none
theorem nms_of : ∀ {us : List U} {bs : List Str}, nms us = some bs → us = bs.map U.nm
 | [], bs, h => by cases h; rfl
 | u :: us, bs, h => by
  unfold nms at h
  split at h
  ·rename_i e; cases e
  ·rename_i i us' e
   cases e
   cases q : nms us with
   | none => rw [q] at h; exact noS h
   | some ms => rw [q] at h; cases h; rw [List.map_cons, ← nms_of q]
  ·cases h
noncomputable def tbAny (tn : List (Str × Str × Bool)) (c : Str) : List Str → Option Bool
 | [] => some false
 | b :: r => match tbl tn c b with
  | some true => some true
  | some false => tbAny tn c r
  | none => none
noncomputable def isX (tn : List (Str × Str × Bool)) (tt : List (Str × String × Bool)) (c : Str) : U → Option U
 | .nm b => (tbl tn c b).map U.bl
 | .ty b => (tbl tt c b).map U.bl
 | .tup us => (nms us).bind fun bs => if bs = [] then none else (tbAny tn c bs).map U.bl
 | _ => none
noncomputable def excU : U → Option Str
 | .exc c _ => some c
 | _ => none
noncomputable def uIsX (tn : List (Str × Str × Bool)) (tt : List (Str × String × Bool)) : List U → Option U
 | [a, b] => (excU a).bind fun c => isX tn tt c b
 | _ => none
theorem uIsX_of {tn : List (Str × Str × Bool)} {tt : List (Str × String × Bool)} {us : List U} {u : U} (e : uIsX tn tt us = some u) : ∃ c pl b, us = [.exc c pl, b] ∧ isX tn tt c b = some u := by
 rcases us with _ | ⟨a, _ | ⟨b, _ | ⟨c, t⟩⟩⟩
 ·exact noS e
 ·exact noS e
 ·cases a with
  | exc c pl => exact ⟨c, pl, b, rfl, e⟩
  | _ => exact noS e
 ·exact noS e
section
variable {W : Wd} {tn : List (Str × Str × Bool)} {tt : List (Str × String × Bool)}
theorem RB.exc {Hc H : Hp} {c : Str} {pl : Option Int} {v : V} (s : Same Hc H) (h : RB W Hc H (.exc c pl) v) : ∃ e C, v = .ref e ∧ W.mg c = some (.ref C) ∧ ExIn H e C := by
 rcases h with h | ⟨_, _, _, _, _, e⟩
 ·cases pl with
  | none => rw [RU] at h; obtain ⟨a, C, rfl, hm, q⟩ := h; exact ⟨a, C, rfl, hm, none, s _ _ q, fun d z => by cases z⟩
  | some n => rw [RU] at h; obtain ⟨a, C, d, rfl, hm, q, q2⟩ := h; exact ⟨a, C, rfl, hm, some d, s _ _ q, fun d' z => by cases z; rw [s _ _ q2]; simp⟩
 ·cases e
noncomputable def NmR (mg : L2.SV) : List Str → List Addr → Prop
 | [], [] => True
 | b :: bs, c :: cs => mg b = some (.ref c) ∧ NmR mg bs cs
 | _, _ => False
theorem RUs.nms {Hc : Hp} : ∀ {bs : List Str} {vs : List V}, RUs W Hc (bs.map U.nm) vs → ∃ cs : List Addr, vs = cs.map V.ref ∧ NmR W.mg bs cs
 | [], vs, h => by rw [List.map_nil, RUs] at h; subst h; exact ⟨[], rfl, trivial⟩
 | b :: bs, vs, h => by
  rw [List.map_cons, RUs] at h
  obtain ⟨v, r, rfl, h1, h2⟩ := h
  rw [RU] at h1
  obtain ⟨a, rfl, hm⟩ := h1
  obtain ⟨cs, rfl, f⟩ := RUs.nms h2
  exact ⟨a :: cs, rfl, hm, f⟩
theorem tbAny_q {c : Str} {C : Addr} (hn : XN W.K W.mg tn) (hc : W.mg c = some (.ref C)) : ∀ {bs : List Str} {cs : List Addr} {r : Bool}, tbAny tn c bs = some r → NmR W.mg bs cs → PySem.W.kitAny W.K (.ref C) (cs.map Value.ref) = some r
 | [], [], r, h, f => by cases h; rfl
 | b :: bs, a :: cs, r, h, f => by
   obtain ⟨f1, f2⟩ := f
   unfold tbAny at h
   cases q : tbl tn c b with
   | none => rw [q] at h; exact noS h
   | some k =>
    obtain ⟨C', B', hc', hb', _, kk⟩ := hn.of q
    rw [hc] at hc'; cases hc'
    rw [f1] at hb'; cases hb'
    rw [List.map_cons, PySem.W.kitAny, kk]
    rw [q] at h
    cases k with
    | true => cases h; rfl
    | false => exact tbAny_q hn hc h f2
 | [], _ :: _, _, _, f => by exact f.elim
 | _ :: _, [], _, _, f => by exact f.elim
theorem cu_isX (hn : XN W.K W.mg tn) (ht : XT W.K W.mg tt) : CallU W [true, true] (rIsX W.K) (uIsX tn tt) := by
 intro Hc H ω us vs s p rs u e Q k
 obtain ⟨c, pl, b, rfl, e⟩ := uIsX_of e
 obtain ⟨v, v', rfl, r1, r2⟩ := rs.two
 obtain ⟨a, C, rfl, hm, hx⟩ := r1.exc s
 cases b with
 | nm b =>
  replace e : (tbl tn c b).map U.bl = some u := e
  obtain ⟨B, rfl, hb⟩ := r2.nm
  cases q : tbl tn c b with
  | none => rw [q] at e; exact noS e
  | some r =>
   rw [q] at e; cases e
   obtain ⟨C', B', hc', hb', ck, kk⟩ := hn.of q
   rw [hm] at hc'; cases hc'
   rw [hb] at hb'; cases hb'
   exact .inl ⟨a, C, .ref B, .ref B, r, rfl, hx, ck, fun ψ z => z, kk, k _ Hc H (Ext.refl s) p .bl⟩
 | ty b =>
  replace e : (tbl tt c b).map U.bl = some u := e
  have := r2.ty; subst this
  cases q : tbl tt c b with
  | none => rw [q] at e; exact noS e
  | some r =>
   rw [q] at e; cases e
   obtain ⟨C', hc', ck, kk⟩ := ht.of q
   rw [hm] at hc'; cases hc'
   exact .inl ⟨a, C, .ty b, .type b, r, rfl, hx, ck, fun ψ z => z, kk, k _ Hc H (Ext.refl s) p .bl⟩
 | tup us' =>
  have e' : ((nms us').bind fun bs => if bs = [] then none else (tbAny tn c bs).map U.bl) = some u := e
  obtain ⟨tp, vs, rfl, h1, r3⟩ := r2.tup
  cases q : nms us' with
  | none => rw [q] at e'; cases e'
  | some bs =>
   rw [q, Option.bind_some] at e'
   have q' := nms_of q
   subst q'
   obtain ⟨cs, rfl, f⟩ := RUs.nms r3
   split at e'
   ·cases e'
   ·rename_i hne
    cases q2 : tbAny tn c bs with
    | none => rw [q2] at e'; cases e'
    | some r =>
     rw [q2] at e'; cases e'
     have ck : ExcK W.K C := by
      cases bs with
      | nil => exact absurd rfl hne
      | cons b bs =>
       unfold tbAny at q2
       cases q3 : tbl tn c b with
       | none => rw [q3] at q2; exact noS q2
       | some r' =>
        obtain ⟨C', _, hc', _, ck, _⟩ := hn.of q3
        rw [hm] at hc'; cases hc'
        exact ck
     exact .inr ⟨a, C, tp, cs, r, rfl, hx, ck, s _ _ h1, tbAny_q hn hm q2 f, k _ Hc H (Ext.refl s) p .bl⟩
 | _ => exact noS e
end
structure Ctw {ι : Type} (X : L2.FC ι) (W : Wd) : Prop where
 hK : ∀ x, (X x).K = W.K
 hm : ∀ x, (X x).mg = W.mg
section
variable {ι : Type} {X : L2.FC ι} {W : Wd} {m : Md} {E : XK} {a b e : Expr} {fr : Af} {pos p : Pos} {x : Str}
theorem Ctx.w (cx : Ctx X W E) : Ctw X W := ⟨cx.hK, cx.hm⟩
theorem Ctx.nox (cx : Ctx X W E) : Ctx (fun y => (X y).nox) W E0 := ⟨cx.hK, cx.hm, cx.calm, cx.hu, fun ψ ψ ψ ψ ψ ψ ψ ψ h => by obtain ⟨_, _, _, _, _, _, _, _, _, _, q⟩ := h; exact q.elim⟩
theorem Ctx.mkd {X : Unit → Cx} (cx : Ctx X W E) : Ctw (fun e : Addr => (X ()).marked (.ref e)) W := ⟨fun ψ => cx.hK (), fun ψ => cx.hm ()⟩
theorem qe_nmw {C : Addr} (cx : Ctw X W) (hm : W.mg x = some (.ref C)) (hg : ∀ y, Gl (X y) x := by intro ψ; rfl) (hd : (x == ("__debug__" : Str)) = false := by decide) : QE X W m E (.Name x pos) (eC (.nm x)) :=
 ⟨_, fun y => pe_glob (v := .ref C) (hg y) ((congrFun (cx.hm y) x).trans hm) rfl hd, de_c fun ψ => by rw [RU]; exact ⟨C, rfl, hm⟩⟩
theorem qe_isX {tn : List (Str × Str × Bool)} {tt : List (Str × String × Bool)} (cx : Ctw X W) (B : Bl W.mg) (hn : XN W.K W.mg tn) (ht : XT W.K W.mg tt) (ha : QA X W m E [true, true] [a, b] fr) (hg : ∀ y, Gl (X y) "isinstance" := by intro ψ; rfl) (hs : ∀ y, starEach [a, b] (X y).env = (false, eval a (X y).env) :: starEach [b] (X y).env := by intro ψ; rfl) (hp : ∀ y, (backTo pos (starEach [b] (X y).env)).any (·.1) = false := by intro ψ; rfl) : QE X W m E (.Call (.Name "isinstance" p) [a, b] [] pos) (eB (uIsX tn tt) fr) :=
 qe_cb (fun y => call_isX (cx.hK y)) (cu_isX hn ht) (fun y => (congrFun (cx.hm y) _).trans B.isinstance) boot_isinstance ha hg (by decide) (by decide) hs hp
end
theorem boot_ValueError : bootBuiltins "ValueError" = some (.type "ValueError") := by decide +kernel
section
variable {ι : Type} {X : L2.FC ι} {W : Wd} {m : Md} {E : XK} {pos : Pos} {x : Str}
theorem qe_nmx (cx : Ctw X W) (hm : ∃ C : Addr, W.mg x = some (.ref C)) (hg : ∀ y, Gl (X y) x := by intro ψ; rfl) (hd : (x == ("__debug__" : Str)) = false := by decide) : QE X W m E (.Name x pos) (eC (.nm x)) := let ⟨_, h⟩ := hm; qe_nmw cx h hg hd
end
noncomputable def QX (X : Cx) (W : Wd) (m : Md) (e : Expr) (f : Ef) : Prop := ∃ t, PX X e t ∧ DX W m t f
noncomputable def QY (X : Cx) (W : Wd) (m : Md) (ss : List Stmt) (g : Sf) : Prop := ∃ t, PY X ss t ∧ DY W m t g
section
variable {X : Cx} {W : Wd} {m : Md} {a call : Expr} {f : Ef} {fr : Af} {bs : List Bool} {es : List Expr} {pos p p1 p2 : Pos} {i : Nat} {x xn : Str}
theorem qx_call {k : Nat} {f' : Addr} {fd : FuncData} {ps : List Str} {wk : Wd → Prop} {F : Ff} (C : Fn X.prog X.w X.K X.mg X.base (CX1 X.prog X.w) k x f' fd ps (spU W.K W.mg wk bs.length bs F)) (hr : Room k X.A) (hw : wk W) (ha : QA (fun _ : Unit => X.nox) W m E0 bs (a :: es) fr) (hg : Gl X x := by rfl)
  (hd : (x == ("__debug__" : Str)) = false := by decide) (hs : starEach (a :: es) X.env = (false, eval a X.env) :: starEach es X.env := by rfl) (hp : (backTo pos (starEach es X.env)).any (·.1) = false := by rfl) : QX X W m (.Call (.Name x p) (a :: es) [] pos) (eCallN F fr) :=
 let ⟨_, pa, da⟩ := ha; ⟨_, px_call C.F hr hg C.hm C.kp C.hb (pa ()) hd hs hp, dx_call rfl rfl hw da⟩
theorem qy_expr (h : QX X W m call f) (hs : swapsWith call none pos.line X.env = pure false := by rfl) : QY X W m [.Expr call pos] (sExpr f) := let ⟨_, p, d⟩ := h; ⟨_, py_expr p hs, dy_expr d⟩
theorem qy_asg (i : Nat) (hN : X.N.Nodup) (h : QX X W m call f) (hi : X.N[i]? = some xn := by rfl) (hx : X.env.scope.names.lookup xn = some .local := by rfl) (h1 : i ∉ m.B := by decide) (h2 : i ∉ m.M := by decide) (hs : swapsWith call (some (.Name xn p1)) p2.line X.env = pure false := by rfl) : QY X W m [.Assign [.Name xn p1] call p2] (sSet i f) :=
 let ⟨_, p, d⟩ := h; ⟨_, py_asg hN hi hx p hs, dy_asg h1 h2 d⟩
end
noncomputable def XC (K : L2.Fg) (mg : L2.SV) (B : Addr) : List Str → Prop
 | [] => True
 | c :: l => (∃ C, mg c = some (.ref C) ∧ PySem.W.exmOne K (.ref C) (.ref B) = some true) ∧ XC K mg B l
theorem XC.of {K : L2.Fg} {mg : L2.SV} {B : Addr} : ∀ {l : List Str}, XC K mg B l → ∀ c ∈ l, ∀ C, mg c = some (.ref C) → PySem.W.exmOne K (.ref C) (.ref B) = some true
 | [], _, c, hc, _, _ => by cases hc
 | d :: l, h, c, hc, C, hm => by
  rcases List.mem_cons.mp hc with rfl | hc
  ·obtain ⟨C', hm', k⟩ := h.1
   rw [hm] at hm'; cases hm'; exact k
  ·exact XC.of h.2 c hc C hm
section
variable {P : Program} {w : World} {K : L2.Fg} {mg : L2.SV} {base : Heap} {N : List Str} {qual : Str} {scope : Scope} {f : Addr} {cd : Value} {A : Around} {outer : List Env} {s : Shared} {H : Hp} {E : XK} {W : Wd} {m : Md}
theorem qs_try {B : Addr} {cs : List Str} {cn n : Str} {b0 : Stmt} {body suite : List Stmt} {p3 p4 pos : Pos} {gb gh : Sf} (j : Nat) (hK : W.K = K) (hmg : W.mg = mg) (hN : N.Nodup) (hm : W.mg cn = some (.ref B)) (hcs : XC W.K W.mg B cs)
  (hb : QY (cxOf (CX1 P w) P w K mg base N qual scope f cd A outer s H E) W m body gb) (hh : QSs (fun e : Addr => (cxOf (CX1 P w) P w K mg base N qual scope f cd A outer s H E).marked (.ref e)) W m E0 (b0 :: suite) gh)
  (hj : N[j]? = some n := by rfl) (hn : scope.names.lookup n = some .local := by rfl) (h1 : j ∉ m.B := by decide) (h2 : j ∉ m.M := by decide) (hg : Gl (cxOf (CX1 P w) P w K mg base N qual scope f cd A outer s H E) cn := by rfl) (hcd : (cn == ("__debug__" : Str)) = false := by decide) :
  QS (defX P w K mg base N qual scope f cd A outer s H E) W m E (.Try body [.ExceptHandler (some (.Name cn p3)) (some n) (b0 :: suite) p4] [] [] pos) (sTry gb j cs gh) := by
 subst hK; subst hmg
 obtain ⟨_, pb, db⟩ := hb
 obtain ⟨_, ph, dh⟩ := hh
 exact ⟨_, fun ψ => ps_tryG hN hj hn rfl rfl rfl pb hg hm (fun e => ph e) hcd, ds_try h1 h2 hcs.of db dh⟩
end
section
variable {gb gh : Sf} {j : Nat} {cs : List Str} {ρ : En} {ω : Om} {F : Ff} {fr : Af}
theorem sTry_nx {ρ' : En} {ω' : Om} (h : gb ρ ω = .nx ρ' ω') : sTry gb j cs gh ρ ω = .nx ρ' ω' := by unfold sTry; rw [h]
theorem sTry_err {c : Str} {pl : Option Int} {ω1 : Om} (h : gb ρ ω = .err c pl ω1) (hc : c ∈ cs) : sTry gb j cs gh ρ ω = outT j (gh (ρ.set j (some (.exc c pl))) ω1) := by unfold sTry; rw [h]; simp only; rw [if_pos hc]
theorem outT_nx {ρ' : En} {ω' : Om} : outT j (.nx ρ' ω') = .nx (ρ'.set j none) ω' := rfl
theorem outT_rt {u : U} {ω' : Om} : outT j (.rt u ω') = .rt u ω' := rfl
theorem eCallN_ap : eCallN F fr ρ ω = asOk (fr ρ ω) F := rfl
end
theorem atI_ints {ns : List Int} {k : Int} (h0 : 0 ≤ k) (h1 : k < ns.length) : atI (ns.map U.int) k = some (.int (ns.getD k.toNat 0)) := by
 obtain ⟨n, rfl⟩ : ∃ n : Nat, k = n := ⟨k.toNat, by lia⟩
 have l : n < ns.length := by lia
 rw [atI_cast, List.getElem?_map, List.getElem?_eq_getElem l]
 simp [List.getD, l]
section
variable {a b c d e f g h i j : Int} {k : Int}
theorem atI_i2 (h0 : 0 ≤ k) (h1 : k < 2) : atI [U.int a, .int b] k = some (.int (([a, b] : List Int).getD k.toNat 0)) := atI_ints (ns := [a, b]) h0 h1
theorem atI_i3 (h0 : 0 ≤ k) (h1 : k < 3) : atI [U.int a, .int b, .int c] k = some (.int (([a, b, c] : List Int).getD k.toNat 0)) := atI_ints (ns := [a, b, c]) h0 h1
theorem atI_i4 (h0 : 0 ≤ k) (h1 : k < 4) : atI [U.int a, .int b, .int c, .int d] k = some (.int (([a, b, c, d] : List Int).getD k.toNat 0)) := atI_ints (ns := [a, b, c, d]) h0 h1
theorem atI_i5 (h0 : 0 ≤ k) (h1 : k < 5) : atI [U.int a, .int b, .int c, .int d, .int e] k = some (.int (([a, b, c, d, e] : List Int).getD k.toNat 0)) := atI_ints (ns := [a, b, c, d, e]) h0 h1
theorem atI_i6 (h0 : 0 ≤ k) (h1 : k < 6) : atI [U.int a, .int b, .int c, .int d, .int e, .int f] k = some (.int (([a, b, c, d, e, f] : List Int).getD k.toNat 0)) := atI_ints (ns := [a, b, c, d, e, f]) h0 h1
theorem atI_i7 (h0 : 0 ≤ k) (h1 : k < 7) : atI [U.int a, .int b, .int c, .int d, .int e, .int f, .int g] k = some (.int (([a, b, c, d, e, f, g] : List Int).getD k.toNat 0)) := atI_ints (ns := [a, b, c, d, e, f, g]) h0 h1
theorem atI_i8 (h0 : 0 ≤ k) (h1 : k < 8) : atI [U.int a, .int b, .int c, .int d, .int e, .int f, .int g, .int h] k = some (.int (([a, b, c, d, e, f, g, h] : List Int).getD k.toNat 0)) := atI_ints (ns := [a, b, c, d, e, f, g, h]) h0 h1
theorem atI_i10 (h0 : 0 ≤ k) (h1 : k < 10) : atI [U.int a, .int b, .int c, .int d, .int e, .int f, .int g, .int h, .int i, .int j] k = some (.int (([a, b, c, d, e, f, g, h, i, j] : List Int).getD k.toNat 0)) := atI_ints (ns := [a, b, c, d, e, f, g, h, i, j]) h0 h1
end
theorem cutTo' {us : List U} {k : Int} (h0 : 0 ≤ k) : cutG us none (some k) = us.take k.toNat := by
 obtain ⟨t, rfl⟩ : ∃ n : Nat, k = n := ⟨k.toNat, by lia⟩
 unfold cutG
 have e1 : HT.sIx us.length 0 none = 0 := rfl
 have e2 : HT.sIx us.length us.length (some (t : Int)) = min t us.length := HT.sIx_nat _ _ _
 rw [e1, e2, List.drop_zero, Nat.sub_zero, ← List.take_eq_take_min, Int.toNat_natCast]
theorem cutFrom' {us : List U} {k : Int} (h0 : 0 ≤ k) : cutG us (some k) none = us.drop k.toNat := by
 obtain ⟨t, rfl⟩ : ∃ n : Nat, k = n := ⟨k.toNat, by lia⟩
 unfold cutG
 have e1 : HT.sIx us.length 0 (some (t : Int)) = min t us.length := HT.sIx_nat _ _ _
 have e2 : HT.sIx us.length us.length none = us.length := rfl
 rw [e1, e2, Int.toNat_natCast, List.take_of_length_le (by simp)]
 by_cases h : t ≤ us.length
 ·rw [Nat.min_eq_left h]
 ·rw [Nat.min_eq_right (by lia), List.drop_length, List.drop_eq_nil_of_le (by lia)]
theorem cmpU_gen {α : Type} {st : U → Om → Res (Option U)} {g : α → U} {f : α → Option U} {ω : Om} : ∀ {ns : List α}, (∀ x ∈ ns, st (g x) ω = .ok (f x) ω) → cmpU st (ns.map g) ω = .ok (ns.filterMap f) ω
 | [], _ => rfl
 | x :: xs, h => by
  rw [List.map_cons, cmpU, h x (by simp), Res.bnd_ok, cmpU_gen fun y hy => h y (List.mem_cons_of_mem _ hy), Res.bnd_ok]
  cases e : f x with
  | none => simp [e]
  | some u => simp [e]
structure NdK (K : L2.Fg) (mg : L2.SV) (C S f : Addr) : Prop where
 mS : mg "ScaleError" = some (.ref S)
 lk : ∃ nm qn N bs sn sub ab col dd k0 k1 k2 k3 k5, K.lookup C = some (excClassObj nm qn C N bs [.ref S, .type "ValueError", .type "Exception", .type "BaseException", .type "object"] true sn sub ab col dd k0 k1 k2 k3 k5 "ValueError.__new__")
 ex : PySem.W.excIn K S [.type "ValueError", .type "Exception", .type "BaseException", .type "object"] "ValueError.__new__" = true
 init : PySem.W.findIn K (.ref C) "__init__" = some (some (.ref f))
 fn : PySem.W.isFn K (.ref f) = true
 sa : PySem.W.findIn K (.ref C) "__setattr__" = some (some (.builtin "object.__setattr__"))
 np : PySem.W.findIn K (.ref C) "place" = some none
 rd : PySem.W.readsIn K S (.type "type") = true
 sg : PySem.W.specialIn K (.ref S) "__getattribute__" = some (some (.builtin "type.__getattribute__"))
 fi : PySem.W.findCls K (.ref S) (.type "type") "__init__" = some (.val (.builtin "ValueError.__init__"))
theorem NdK.elim {K : L2.Fg} {mg : L2.SV} {C S f : Addr} {G : Prop} (n : NdK K mg C S f) (k : ∀ nm qn N bs sn sub ab col dd k0 k1 k2 k3 k5, K.lookup C = some (excClassObj nm qn C N bs [.ref S, .type "ValueError", .type "Exception", .type "BaseException", .type "object"] true sn sub ab col dd k0 k1 k2 k3 k5 "ValueError.__new__") → G) : G := by
 obtain ⟨nm, qn, N, bs, sn, sub, ab, col, dd, k0, k1, k2, k3, k5, lk⟩ := n.lk
 exact k _ _ _ _ _ _ _ _ _ _ _ _ _ _ lk
noncomputable def zipU (us ws : List U) : List U := List.zipWith (fun a b => U.tup [a, b]) us ws
section
variable {a b : Int} {k : Bool} {us : List U} {ns : List Int} {lo hi : Option Int} {ρ : En} {n : Nat} {js : List Nat}
theorem asB_r : asB (.bl k) = some k := rfl
theorem asI_r : asI (.int a) = some (some a) := rfl
theorem asSeq_l : asSeq (.lst us) = some us := rfl
theorem asSeq_t : asSeq (.tup us) = some us := rfl
theorem uSub_r : uSub (.int a) (.int b) = some (.int (a - b)) := rfl
theorem uNeg_r : uNeg (.int a) = some (.int (-a)) := rfl
theorem uLt_r : uLt (.int a) (.int b) = some (.bl (decide (a < b))) := rfl
theorem uLe_r : uLe (.int a) (.int b) = some (.bl (decide (a ≤ b))) := rfl
theorem uGt_r : uGt (.int a) (.int b) = some (.bl (decide (b < a))) := rfl
theorem uGe_r : uGe (.int a) (.int b) = some (.bl (decide (b ≤ a))) := rfl
theorem uLen_l : uLen [.lst us] = some (.int us.length) := rfl
theorem uLen_t : uLen [.tup us] = some (.int us.length) := rfl
theorem uLen_s : uLen [.scr ns] = some (.int ns.length) := rfl
theorem uTuple_l : uTuple [.lst us] = some (.tup us) := rfl
theorem uTuple_t : uTuple [.tup us] = some (.tup us) := rfl
theorem uList_l : uList [.lst us] = some (.lst us) := rfl
theorem uList_t : uList [.tup us] = some (.lst us) := rfl
theorem uList_s : uList [.scr ns] = some (.lst (ns.map U.int)) := rfl
theorem uMax2_r : uMax2 [.int a, .int b] = some (.int (max a b)) := rfl
theorem uMin2_r : uMin2 [.int a, .int b] = some (.int (min a b)) := rfl
theorem uAbs_r : uAbs [.int a] = some (.int (if a < 0 then -a else a)) := rfl
theorem uInt_i : uInt [.int a] = some (.int a) := rfl
theorem uInt_b : uInt [.bl k] = some (.int (if k then 1 else 0)) := rfl
theorem uIsT_ii : uIsT [.int a, .ty "int"] = some (.bl true) := rfl
theorem uIsT_ib : uIsT [.int a, .ty "bool"] = some (.bl false) := rfl
theorem uIsT_bb : uIsT [.bl k, .ty "bool"] = some (.bl true) := rfl
theorem uIsT_bi : uIsT [.bl k, .ty "int"] = some (.bl true) := rfl
theorem uIsT_tt : uIsT [.tup us, .ty "tuple"] = some (.bl true) := rfl
theorem uIsT_ll : uIsT [.lst us, .ty "list"] = some (.bl true) := rfl
theorem blkU_r : blkU n js ρ = List.replicate n none ++ js.map fun j => (ρ[j]?).getD none := rfl
theorem uSl_l : uSl (.lst us) lo hi = some (.lst (cutG us lo hi)) := rfl
theorem uSl_t : uSl (.tup us) lo hi = some (.tup (cutG us lo hi)) := rfl
theorem uSlL_l : uSlL (.lst us) lo hi = some (.lst (cutG us lo hi)) := rfl
end
section
variable {κ : Type} [DecidableEq κ]
noncomputable def valV (kvs : List (κ × V)) (k : κ) : Option V := (kvs.find? fun kv => decide (kv.1 = k)).map (·.2)
noncomputable def putK (kvs : List (κ × V)) (k : κ) (v : V) : List (κ × V) :=
 if (kvs.any fun kv => decide (kv.1 = k)) = true then kvs.map (fun kv => if kv.1 = k then (kv.1, v) else kv) else kvs ++ [(k, v)]
theorem valV_pos {p : κ × V} {r : List (κ × V)} {k : κ} (e : p.1 = k) : valV (p :: r) k = some p.2 := by simp [valV, List.find?_cons, e]
theorem valV_neg {p : κ × V} {r : List (κ × V)} {k : κ} (e : ¬ p.1 = k) : valV (p :: r) k = valV r k := by simp [valV, List.find?_cons, e]
theorem valV_any (k : κ) : ∀ kvs : List (κ × V), (kvs.any fun kv => decide (kv.1 = k)) = (valV kvs k).isSome
 | [] => rfl
 | p :: r => by
  rw [List.any_cons]
  by_cases e : p.1 = k
  ·simp only [valV_pos e, decide_eq_true e, Bool.true_or, Option.isSome_some]
  ·rw [valV_neg e, decide_eq_false e, Bool.false_or]; exact valV_any k r
theorem length_putK (kvs : List (κ × V)) (k : κ) (v : V) : (putK kvs k v).length ≤ kvs.length + 1 := by
 unfold putK
 split
 ·rw [List.length_map]; omega
 ·rw [List.length_append, List.length_cons, List.length_nil]; omega
theorem RelO.isSome_eq {o : Option V} {u : Option Value} (r : RelO o u) : o.isSome = u.isSome := by
 cases o with
 | none => cases u with
  | none => rfl
  | some _ => exact (show False from r).elim
 | some _ => cases u with
  | none => exact (show False from r).elim
  | some _ => rfl
theorem RelO.getD {o : Option V} {u : Option Value} {d : V} {d' : Value} (r : RelO o u) (rd : RelV d d') : RelV (o.getD d) (u.getD d') := by
 cases o with
 | none => cases u with
  | none => exact rd
  | some _ => exact (show False from r).elim
 | some _ => cases u with
  | none => exact (show False from r).elim
  | some _ => exact r
theorem KV.val {kvs : List (κ × V)} {vs : List (κ × Value)} (r : KV kvs vs) (k : κ) : RelO (valV kvs k) (valueAt vs k) := by
 unfold KV at r
 induction r with
 | nil => exact True.intro
 | @cons p q ps qs h t ih =>
  obtain ⟨h1, h2⟩ := h
  by_cases e : p.1 = k
  ·have e' : q.1 = k := h1.symm.trans e
   have b : valueAt (q :: qs) k = some q.2 := by simp [valueAt, List.find?_cons, e']
   rw [valV_pos e, b]; exact h2
  ·have e' : ¬ q.1 = k := fun z => e (h1.trans z)
   have b : valueAt (q :: qs) k = valueAt qs k := by simp [valueAt, List.find?_cons, e']
   rw [valV_neg e, b]; exact ih
theorem KV.any {kvs : List (κ × V)} {vs : List (κ × Value)} (r : KV kvs vs) (k : κ) : (kvs.any fun kv => decide (kv.1 = k)) = vs.any fun kv => decide (kv.1 = k) := by
 unfold KV at r
 induction r with
 | nil => rfl
 | cons h t ih => rw [List.any_cons, List.any_cons, ih, h.1]
theorem KV.repl {kvs : List (κ × V)} {vs : List (κ × Value)} (r : KV kvs vs) (k : κ) {y : V} {u : Value} (ry : RelV y u) :
  KV (kvs.map fun kv => if kv.1 = k then (kv.1, y) else kv) (vs.map fun kv => if kv.1 = k then (kv.1, u) else kv) := by
 unfold KV at r ⊢
 induction r with
 | nil => exact .nil
 | @cons p q ps qs h t ih =>
  rw [List.map_cons, List.map_cons]
  refine .cons ?_ ih
  obtain ⟨h1, h2⟩ := h
  by_cases e : p.1 = k
  ·rw [if_pos e, if_pos (h1.symm.trans e)]; exact ⟨h1, ry⟩
  ·rw [if_neg e, if_neg (fun z => e (h1.trans z))]; exact ⟨h1, h2⟩
theorem KV.put {kvs : List (κ × V)} {vs : List (κ × Value)} (r : KV kvs vs) (k : κ) {y : V} {u : Value} (ry : RelV y u) : KV (putK kvs k y) (stored vs k u) := by
 unfold putK stored
 rw [r.any k]
 by_cases e : (vs.any fun kv => decide (kv.1 = k)) = true
 ·rw [if_pos e, if_pos e]; exact r.repl k ry
 ·rw [if_neg e, if_neg e]; exact Paired.snoc r ⟨rfl, ry⟩
theorem KV.length {kvs : List (κ × V)} {vs : List (κ × Value)} (r : KV kvs vs) : kvs.length = vs.length := Paired.length r
end
theorem kV_is {P : Program} {w : World} {k : Key} {u : Value} (r : RelV (kV k) u) : (mixKind P w).is k u = true := by
 cases k with
 | inl i => obtain ⟨t, e⟩ := (show ∃ t, u = Value.int i t from r); subst e; exact mixKind_int P w i t
 | inr x => obtain ⟨t, e⟩ := (show ∃ t, u = Value.str x t from r); subst e; exact mixKind_str P w x t
theorem items_are {P : Program} {w : World} : ∀ {ks : List Key} {us : List Value}, Vals (ks.map kV) us → ItemsAre (mixKind P w) ks us
 | [], _, r => by rw [List.map_nil] at r; cases r; exact .nil
 | k :: ks, _, r => by
  rw [List.map_cons] at r
  cases r with
  | cons h t => exact .cons (kV_is h) (items_are t)
noncomputable abbrev KT (H : Hp) : List (List Key × V) → List (List Key × Addr × Value) → Prop := Paired fun p q => p.1 = q.1 ∧ H q.2.1 = some (.tup (p.1.map kV)) ∧ RelV p.2 q.2.2
theorem KT.val {H : Hp} {kvs : List (List Key × V)} {xs : List (List Key × Addr × Value)} (r : KT H kvs xs) (k : List Key) : RelO (valV kvs k) ((atKey xs k).map (·.2)) := by
 induction r with
 | nil => exact True.intro
 | @cons p q ps qs h t ih =>
  obtain ⟨h1, _, h2⟩ := h
  by_cases e : p.1 = k
  ·have e' : q.1 = k := h1.symm.trans e
   have b : atKey (q :: qs) k = some q.2 := by simp [atKey, List.find?_cons, e']
   rw [valV_pos e, b]; exact h2
  ·have e' : ¬ q.1 = k := fun z => e (h1.trans z)
   have b : atKey (q :: qs) k = atKey qs k := by simp [atKey, List.find?_cons, e']
   rw [valV_neg e, b]; exact ih
theorem KT.repl {H : Hp} {kvs : List (List Key × V)} {xs : List (List Key × Addr × Value)} (r : KT H kvs xs) (k : List Key) {y : V} {u : Value} (ry : RelV y u) :
  KT H (kvs.map fun kv => if kv.1 = k then (kv.1, y) else kv) (xs.map (putAt k u)) := by
 induction r with
 | nil => exact .nil
 | @cons p q ps qs h t ih =>
  rw [List.map_cons, List.map_cons]
  refine .cons ?_ ih
  obtain ⟨h1, h2, h3⟩ := h
  unfold putAt
  by_cases e : p.1 = k
  ·rw [if_pos e, if_pos (h1.symm.trans e)]; exact ⟨h1, h2, ry⟩
  ·rw [if_neg e, if_neg (fun z => e (h1.trans z))]; exact ⟨h1, h2, h3⟩
theorem KT.put {H : Hp} {kvs : List (List Key × V)} {xs : List (List Key × Addr × Value)} (r : KT H kvs xs) (k : List Key) {b : Addr} {y : V} {u : Value} (hb : H b = some (.tup (k.map kV))) (ry : RelV y u) :
  KT H (putK kvs k y) (storedH xs k b u) := by
 have e : (kvs.any fun kv => decide (kv.1 = k)) = (atKey xs k).isSome := by
  rw [valV_any, (r.val k).isSome_eq, Option.isSome_map]
 unfold putK storedH
 rw [e]
 by_cases q : (atKey xs k).isSome = true
 ·rw [if_pos q, if_pos q]; exact r.repl k ry
 ·rw [if_neg q, if_neg q]; exact Paired.snoc r ⟨rfl, hb, ry⟩
theorem KT.keeps {H H' : Hp} {kvs : List (List Key × V)} {xs : List (List Key × Addr × Value)} (r : KT H kvs xs) (ht : ∀ b ys, H b = some (.tup ys) → H' b = some (.tup ys)) : KT H' kvs xs :=
 Paired.mapP r fun ψ ψ z => ⟨z.1, ht _ _ z.2.1, z.2.2⟩
section
variable {P : Program} {w : World} {H : Hp} {h : Heap} {a : Addr}
theorem rd_of {u : HO} (ok : HOk P w H h) (e : Rd H a u) : ObjOk P w H h a u := e.ok ok
theorem dk_rd {kvs : List (Key × V)} (ok : HOk P w H h) (e : Rd H a (.dK kvs)) : kvs.length ≤ sizeLine ∧ (a == sysModules) = false ∧ ∃ vs, KV kvs vs ∧ h.DictOf (mixKind P w) a vs :=
 show ObjOk P w H h a (.dK kvs) from rd_of ok e
theorem dk_of {kvs : List (Key × V)} (ok : HOk P w H h) (e : H a = some (.dK kvs)) : kvs.length ≤ sizeLine ∧ (a == sysModules) = false ∧ ∃ vs, KV kvs vs ∧ h.DictOf (mixKind P w) a vs := dk_rd ok (.inl e)
theorem key_of {ks : List Key} (ok : HOk P w H h) (e : H a = some (.tup (ks.map kV))) : (tupleKind (mixKind P w)).is h ks a := by
 obtain ⟨_, its, r, o, h1, h2, n, h3⟩ := (show ObjOk P w H h a (.tup (ks.map kV)) from ok a _ e)
 exact ⟨o, its.toArray, n, h1, h2, h3, by simpa using items_are r⟩
theorem dt_rd {kvs : List (List Key × V)} (ok : HOk P w H h) (e : Rd H a (.dT kvs)) : kvs.length ≤ sizeLine ∧ (a == sysModules) = false ∧
  ∃ xs, KT H kvs xs ∧ h.DictOfH (tupleKind (mixKind P w)) a xs := by
 obtain ⟨z, y, xs, r, o, es, ep, h1, h2, h3, h4, h5⟩ := (show ObjOk P w H h a (.dT kvs) from rd_of ok e)
 refine ⟨z, y, xs, r, o, es, ep, h1, h2, h3, h4, fun x hx => ?_, h5⟩
 have all : ∀ {l : List (List Key × V)} {m : List (List Key × Addr × Value)}, KT H l m → ∀ x ∈ m, (tupleKind (mixKind P w)).is h x.1 x.2.1 := by
  intro l m q
  induction q with
  | nil => intro x hx; exact nomatch hx
  | @cons p q ps qs hq t ih =>
   intro x hx
   rcases List.mem_cons.mp hx with e | hx
   ·subst e
    exact key_of ok (by rw [← hq.1]; exact hq.2.1)
   ·exact ih x hx
 exact all r x hx
theorem dt_of {kvs : List (List Key × V)} (ok : HOk P w H h) (e : H a = some (.dT kvs)) : kvs.length ≤ sizeLine ∧ (a == sysModules) = false ∧
  ∃ xs, KT H kvs xs ∧ h.DictOfH (tupleKind (mixKind P w)) a xs := dt_rd ok (.inl e)
end
noncomputable def DGet (H : Hp) (a : Addr) (y : V) (r : Option V) : Prop :=
 (∃ kvs k, Rd H a (.dK kvs) ∧ y = kV k ∧ r = valV kvs k) ∨ ∃ kvs k b, Rd H a (.dT kvs) ∧ y = .ref b ∧ H b = some (.tup (k.map kV)) ∧ r = valV kvs k
noncomputable def DPut (H : Hp) (a : Addr) (y v : V) (H' : Hp) : Prop :=
 (∃ kvs k, H a = some (.dK kvs) ∧ y = kV k ∧ kvs.length < sizeLine ∧ H' = upd H a (.dK (putK kvs k v))) ∨
 ∃ kvs k b, H a = some (.dT kvs) ∧ y = .ref b ∧ H b = some (.tup (k.map kV)) ∧ kvs.length < sizeLine ∧ H' = upd H a (.dT (putK kvs k v))
theorem DGet.t {H : Hp} {a b : Addr} {kvs : List (List Key × V)} {k : List Key} (e : H a = some (.dT kvs)) (eb : H b = some (.tup (k.map kV))) : DGet H a (.ref b) (valV kvs k) := .inr ⟨kvs, k, b, .inl e, rfl, eb, rfl⟩
theorem DPut.t {H : Hp} {a b : Addr} {kvs : List (List Key × V)} {k : List Key} {v : V} (e : H a = some (.dT kvs)) (eb : H b = some (.tup (k.map kV))) (hl : kvs.length < sizeLine) :
  DPut H a (.ref b) v (upd H a (.dT (putK kvs k v))) := .inr ⟨kvs, k, b, e, rfl, eb, hl, rfl⟩
section
variable {X : Cx} {pins : L2.AO} {σ : St} {H : Hp} {s : Shared} {a : Addr} {y v : V} {u r : Value} {o : Option V} {A : Around} {E : L2.VSP}
theorem Inv.big (I : Inv X pins σ H s) : sysModules < s.heap.objs.size := by
 have h : mainGlobals < s.heap.objs.size := (I.mod.glob.keeps I.bk).lt
 exact Nat.lt_trans (by decide) h
theorem d_in {Q : L2.VSP} (hu : A.units + 1 < cLine) (I : Inv X pins σ H s) (g : DGet H a y o) (ry : RelV y u) (h : ∀ s', Inv X pins σ H s' → Q (.bool o.isSome) s') :
  wpAny (model X.prog X.w) A (compareOp .In u (.ref a)) Q E s := by
 rcases g with ⟨kvs, k, e, ey, l⟩ | ⟨kvs, k, b, e, ey, eb, l⟩
 ·subst ey
  obtain ⟨z, hd, vs, rel, dd⟩ := dk_rd I.hok e
  refine wpAny_in_of (kV_is ry) hd dd.mapOf ?_
  rw [← (rel.val k).isSome_eq, ← l]
  exact h _ (I.tok _)
 ·subst ey
  cases (show u = Value.ref b from ry)
  obtain ⟨z, hd, xs, rel, dd⟩ := dt_rd I.hok e
  refine wpAny_in_heap (tupleKind_room_in1 hu) (key_of I.hok eb) hd dd ?_
  have q := (rel.val k).isSome_eq
  rw [Option.isSome_map] at q
  rw [← q, ← l]
  exact h _ (I.tok _)
theorem d_write {h' : Heap} {t' : Nat} {ob : HO} (I : Inv X pins σ H s) (mu : Mut (H a)) (hs : Heap.SameBut a s.heap h') (he : ∃ q, h'.get? a = some q) (new : ObjOk X.prog X.w (upd H a ob) h' a ob) :
  Inv X pins σ (upd H a ob) { s with heap := h', toks := t' } :=
 I.write (x := a) (e := a) mu (.inl rfl) (fun b q hb z => (hs.2 b hb).trans z) he new
theorem dk_new {P : Program} {w : World} {H' : Hp} {h' : Heap} {kvs : List (Key × V)} {vs : List (Key × Value)} (z : kvs.length ≤ sizeLine) (hd : (a == sysModules) = false) (rel : KV kvs vs) (dd : h'.DictOf (mixKind P w) a vs) :
  ObjOk P w H' h' a (.dK kvs) := ⟨z, hd, vs, rel, dd⟩
theorem d_setItem {H' : Hp} {Q : Unit → Shared → Prop} (hu : A.units + 1 < cLine) (I : Inv X pins σ H s) (g : DPut H a y v H') (ry : RelV y u) (rv : RelV v r) (h : ∀ s', Inv X pins σ H' s' → Q () s') :
  wpAny (model X.prog X.w) A (setItem (.ref a) u r) Q E s := by
 rcases g with ⟨kvs, k, e, ey, l, eH⟩ | ⟨kvs, k, b, e, ey, eb, l, eH⟩
 ·subst ey eH
  obtain ⟨z, hd, vs, rel, dd⟩ := dk_of I.hok e
  have hz : vs.length ≤ sizeLine := by rw [← rel.length]; exact z
  have hl : (putK kvs k v).length ≤ sizeLine := by have := length_putK kvs k v; omega
  refine wpAny_setItem_pairs (hsz := hz) (kV_is ry) dd fun h' dd' hs => h _ ?_
  have he : ∃ q, h'.get? a = some q := let ⟨q, _, _, hq, _⟩ := dd'; ⟨q, hq⟩
  exact d_write I (by rw [e]; exact True.intro) hs he (dk_new hl hd (rel.put k rv) dd')
 ·subst ey eH
  cases (show u = Value.ref b from ry)
  obtain ⟨z, hd, xs, rel, dd⟩ := dt_of I.hok e
  have hz : xs.length ≤ sizeLine := by rw [← Paired.length rel]; exact z
  have hl : (putK kvs k v).length ≤ sizeLine := by have := length_putK kvs k v; omega
  refine wpAny_setItem_heap (hsz := hz) (tupleKind_room_in1 hu) (key_of I.hok eb) dd fun h' dd' hs => h _ ?_
  obtain ⟨q, es, ep, hq, h2, h3, h4, _, h5⟩ := dd'
  refine d_write I (by rw [e]; exact True.intro) hs ⟨q, hq⟩ ⟨hl, hd, _, (rel.put k eb rv).keeps fun c ys ec => ?_, q, es, ep, hq, h2, h3, h4, h5⟩
  rw [upd_ne (ne_of ec e (fun z => nomatch z))]
  exact ec
end
noncomputable def tDIn (ty td : TE) : TE := fun σ H Q => ty σ H fun y H1 => td σ H1 fun x H2 => ∃ a o, x = .ref a ∧ DGet H2 a y o ∧ Q (.bl o.isSome) H2
noncomputable def sDPut (td ty tv : TE) : TS := fun D σ H => tv σ H fun v H1 => td σ H1 fun x H2 => ty σ H2 fun y H3 => ∃ a H4, x = .ref a ∧ DPut H3 a y v H4 ∧ D.nx σ H4
section
variable {X : Cx} {o i value : Expr} {pos pos' : Pos} {td ty tv : TE}
theorem pc_din (hu : X.A.units + 1 < cLine) (hi : PE X i ty) (ho : PE X o td) : PC X .In i o (tDIn ty td) := by
 intro pins s σ H Q I h
 refine thn (hi pins s σ H _ I h) fun iv s1 ⟨y, H1, I1, ry, q1⟩ => thn (ho pins s1 σ H1 _ I1 q1) fun u s2 ⟨x, H2, I2, rx, a, ov, ex, g, q2⟩ => ?_
 subst ex
 obtain rfl : u = Value.ref a := rx
 exact d_in hu I2 g ry fun s3 I3 => ⟨.bl ov.isSome, H2, I3, rfl, q2⟩
theorem ps_dput (hu : X.A.units + 1 < cLine) (ho : PE X o td) (hi : PE X i ty) (hv : PE X value tv) (hs : swapsWith value (some (.Subscript o i pos')) pos.line X.env = pure false) :
  PS X (.Assign [.Subscript o i pos'] value pos) (sDPut td ty tv) := by
 intro pins s σ H D I h
 refine wpAny_Assign_Subscript (thn (hv pins s σ H _ I h) fun r s1 ⟨v, H1, I1, rv, q1⟩ => thn (ho pins s1 σ H1 _ I1 q1) fun u s2 ⟨x, H2, I2, rx, q2⟩ => thn (hi pins s2 σ H2 _ I2 q2) fun iv s3 ⟨y, H3, I3, ry, a, H4, ex, g, q3⟩ => ?_) hs
 subst ex
 obtain rfl : u = Value.ref a := rx
 exact d_setItem hu I3 g ry rv fun s4 I4 => ⟨σ, H4, I4, q3⟩
end
theorem dt_empty {P : Program} {w : World} {H : Hp} (h : Heap) (hb : sysModules < h.objs.size) : ObjOk P w H (h.push { cls := .type "dict", data := .dict #[] }) h.objs.size (.dT []) :=
 ⟨Nat.zero_le _, beq_eq_false_iff_ne.mpr (Ne.symm (Nat.ne_of_lt hb)), [], .nil, _, #[], 0, Heap.get?_push_size _ rfl, ⟨rfl, rfl, rfl⟩, rfl, rfl, List.nodup_nil⟩
noncomputable def tDNewT : TE := fun ψ H Q => ∀ p, H p = none → Q (.ref p) (upd H p (.dT []))
section
variable {X : Cx} {pos : Pos}
theorem pe_dnewT : PE X (.Dict [] [] pos) tDNewT := fun pins s σ H Q I h =>
 wpAny_Dict_empty ⟨.ref s.heap.objs.size, _, I.laid (a := s.heap.objs.size) (o := .dT []) (t' := s.toks) (fun ψ ψ q => Heap.get?_push_of_some _ q) (Nat.le_refl _) (dt_empty s.heap I.big), rfl, h _ (I.hok.fresh (Nat.le_refl _))⟩
end
structure M2 (X : Cx) (o : Expr) (m : Str) (apos : Pos) (e f : Expr) (cpos : Pos) : Prop where
 base : attributeBase o m X.env (eval o X.env) = eval o X.env
 few : ((backTo cpos (starEach [e, f] X.env)).all (fun x => !x.1) && (backToKw cpos (keywordEach [] X.env)).all (fun x => x.1.isSome)
  && decide (([e, f] : List Expr).length + ([] : List Keyword).length + (if ([] : List Keyword).isEmpty then 0 else 1) < 30)) = true
 line : (apos.endLine == cpos.line) = true
 trees : backTo cpos (starEach [e, f] X.env) = [(false, eval e X.env), (false, eval f X.env)]
noncomputable def look : List Int → List Int → Int → Int → Option Int
 | x :: y :: cs, p :: rs, a, b => if x = a ∧ y = b then some p else look cs rs a b
 | _, _, _, _ => none
mutual
noncomputable def noP : U → Bool
 | .tup us => noPs us
 | .lst us => noPs us
 | .dic _ us => noPs us
 | .pile => false
 | _ => true
noncomputable def noPs : List U → Bool
 | [] => true
 | u :: us => noP u && noPs us
end
theorem noPs_ints : ∀ ns : List Int, noPs (ns.map U.int) = true
 | [] => by rw [List.map_nil, noPs]
 | n :: ns => by rw [List.map_cons, noPs, noP, noPs_ints ns]; rfl; all_goals simp
mutual
theorem RU.tr {W W' : Wd} {H : Hp} (hK : W'.K = W.K) (hm : W'.mg = W.mg) : ∀ {u : U} {v : V}, noP u = true → RU W H u v → RU W' H u v
 | .non, _, _, h => by rw [RU] at h ⊢; exact h
 | .bl _, _, _, h => by rw [RU] at h ⊢; exact h
 | .int _, _, _, h => by rw [RU] at h ⊢; exact h
 | .str _, _, _, h => by rw [RU] at h ⊢; exact h
 | .ty _, _, _, h => by rw [RU] at h ⊢; exact h
 | .nm _, _, _, h => by rw [RU] at h ⊢; rw [hm]; exact h
 | .exc _ none, _, _, h => by rw [RU] at h ⊢; rw [hm]; exact h
 | .exc _ (some _), _, _, h => by rw [RU] at h ⊢; rw [hm]; exact h
 | .pile, _, n, _ => by rw [noP] at n; cases n
 | .tup xs, _, n, h => by rw [RU] at h ⊢; rw [noP] at n; obtain ⟨a, vs, e, q, r⟩ := h; exact ⟨a, vs, e, q, RUs.tr hK hm n r⟩
 | .lst xs, _, n, h => by rw [RU] at h ⊢; rw [noP] at n; obtain ⟨a, vs, e, q, r⟩ := h; exact ⟨a, vs, e, q, RUs.tr hK hm n r⟩
 | .scr ns, _, _, h => by rw [RU] at h ⊢; rw [hK]; exact h
 | .dic _ _, _, n, h => by rw [RU] at h ⊢; rw [noP] at n; obtain ⟨a, ob, kvs, e, q, k, r⟩ := h; exact ⟨a, ob, kvs, e, q, k, RUs.tr hK hm n r⟩
theorem RUs.tr {W W' : Wd} {H : Hp} (hK : W'.K = W.K) (hm : W'.mg = W.mg) : ∀ {us : List U} {vs : List V}, noPs us = true → RUs W H us vs → RUs W' H us vs
 | [], _, _, h => by rw [RUs] at h ⊢; exact h
 | u :: us, _, n, h => by
  rw [noPs, Bool.and_eq_true] at n
  rw [RUs] at h ⊢
  obtain ⟨v, r, e, q, z⟩ := h
  exact ⟨v, r, e, RU.tr hK hm n.1 q, RUs.tr hK hm n.2 z⟩
end
theorem OwO.tr {W W' : Wd} {H : Hp} {u : U} {o : HO} {a : Addr} (h : OwO W H a u o) (hK : W'.K = W.K) (hm : W'.mg = W.mg) (n : noP u = true) : OwO W' H a u o := by
 cases u with
 | lst us => obtain ⟨vs, e, r⟩ := h; rw [noP] at n; exact ⟨vs, e, r.tr hK hm n⟩
 | dic ks us => obtain ⟨ob, kvs, e, k, r⟩ := h; rw [noP] at n; exact ⟨ob, kvs, e, k, r.tr hK hm n⟩
 | _ => exact h
noncomputable def noE : En → Bool
 | [] => true
 | none :: ρ => noE ρ
 | some u :: ρ => noP u && noE ρ
theorem noE_at : ∀ {ρ : En} {i : Nat} {u : U}, noE ρ = true → ρ[i]? = some (some u) → noP u = true
 | [], i, u, _, h => by simp at h
 | none :: ρ, 0, u, _, h => by simp at h
 | none :: ρ, i + 1, u, n, h => noE_at (ρ := ρ) (i := i) (by rw [noE] at n; exact n) (by simpa using h)
 | some w :: ρ, 0, u, n, h => by
  rw [noE, Bool.and_eq_true] at n
  simp at h; subst h; exact n.1
 | some w :: ρ, i + 1, u, n, h => by
  rw [noE, Bool.and_eq_true] at n
  exact noE_at (ρ := ρ) (i := i) n.2 (by simpa using h)
noncomputable def bckF (ω : Om) : Fl → Fl
 | .rt u _ => if noP u = true then .rt u ω else .stk
 | .err c pl _ => .err c pl ω
 | _ => .stk
noncomputable def sDict (i : Nat) (g : Sf) : Sf := fun ρ ω => if noE ρ = true then bckF ω (g (ρ.set i (some .pile)) ⟨[], []⟩) else .stk
section
noncomputable def keyU : Option (Option U) → Option (Int × Int)
 | some (some (.tup [.int a, .int b])) => some (a, b)
 | _ => none
noncomputable def isP : Option (Option U) → Bool
 | some (some .pile) => true
 | _ => false
theorem isP_of {o : Option (Option U)} (h : isP o = true) : o = some (some .pile) := by
 unfold isP at h
 split at h
 ·rfl
 ·cases h
end
section
variable {ι : Type} {X : L2.FC ι} {W : Wd} {m : Md} {E : XK} {ss : List Stmt} {g : Sf} {k : Nat}
variable (X) in
noncomputable def tEx (ss : List Stmt) : TS := fun D σ H => ∃ t : TS, (∀ y, PSs (X y) ss t) ∧ t D σ H
theorem pss_ex (y : ι) : PSs (X y) ss (tEx X ss) := fun pins s σ H D I h => let ⟨_, pt, ht⟩ := h; pt y pins s σ H D I ht
theorem dk_ex (h : QK X W m E ss g) : DK W m E (tEx X ss) g := fun H0 Hc0 ρ ω σ Hc H ow S x D k => let ⟨t, pt, dt⟩ := h; ⟨t, pt, dt H0 Hc0 ρ ω σ Hc H ow S x D k⟩
end
section
variable {i : Nat} {g : Sf} {ρ : En} {ω : Om}
theorem sDict_ap (h : noE ρ = true) : sDict i g ρ ω = bckF ω (g (ρ.set i (some .pile)) ⟨[], []⟩) := by unfold sDict; rw [if_pos h]
theorem isP_p : isP (some (some .pile)) = true := rfl
theorem bckF_rt {u : U} {ω' : Om} (h : noP u = true) : bckF ω (.rt u ω') = .rt u ω := by unfold bckF; simp only [if_pos h]
end
noncomputable abbrev Ps := List (Int × U)
noncomputable def asc (ps : Ps) (k : Int) : Option U := (ps.find? fun p => decide (p.1 = k)).map (·.2)
noncomputable def RPs (W : Wd) (H : Hp) : Ps → List (Int × V) → Prop
 | [], kvs => kvs = []
 | p :: ps, kvs => ∃ v r, kvs = (p.1, v) :: r ∧ RU W H p.2 v ∧ RPs W H ps r
section
variable {W : Wd} {H H' : Hp}
theorem RPs.mono (s : Same H H') : ∀ {ps : Ps} {kvs : List (Int × V)}, RPs W H ps kvs → RPs W H' ps kvs
 | [], _, h => h
 | p :: ps, _, ⟨v, r, e, h, t⟩ => ⟨v, r, e, h.mono s, t.mono s⟩
theorem RPs.of : ∀ {ps : Ps} {kvs : List (Int × V)}, (ps.map fun p => U.int p.1) = kvs.map (fun p => U.int p.1) → RUs W H (ps.map (·.2)) (kvs.map (·.2)) → RPs W H ps kvs
 | [], kvs, e, _ => by
  cases kvs with
  | nil => rfl
  | cons _ _ => cases e
 | p :: ps, kvs, e, r => by
  cases kvs with
  | nil => cases e
  | cons q kvs =>
   rw [List.map_cons, List.map_cons] at e r
   injection e with e1 e2
   rw [RUs] at r
   obtain ⟨v, z, e3, r1, r2⟩ := r
   injection e3 with e3 e4
   subst e4
   injection e1 with e1
   exact ⟨v, kvs, by rw [← e3, e1], r1, RPs.of e2 r2⟩
theorem RPs.len : ∀ {ps : Ps} {kvs : List (Int × V)}, RPs W H ps kvs → ps.length = kvs.length
 | [], _, h => by subst h; rfl
 | p :: ps, _, ⟨v, r, e, h, t⟩ => by subst e; simp [t.len]
theorem RPs.val : ∀ {ps : Ps} {kvs : List (Int × V)}, RPs W H ps kvs → ∀ k : Int, (asc ps k = none ∧ valV kvs k = none) ∨ ∃ u v, asc ps k = some u ∧ valV kvs k = some v ∧ RU W H u v
 | [], _, h, k => by subst h; exact .inl ⟨rfl, rfl⟩
 | p :: ps, _, ⟨v, r, e, h, t⟩, k => by
  subst e
  by_cases c : p.1 = k
  ·refine .inr ⟨p.2, v, ?_, valV_pos c, h⟩
   unfold asc; rw [List.find?_cons_of_pos (by simp [c])]; rfl
  ·have e1 : asc (p :: ps) k = asc ps k := by unfold asc; rw [List.find?_cons_of_neg (by simp [c])]
   rw [e1, valV_neg c]
   exact t.val k
theorem RPs.any : ∀ {ps : Ps} {kvs : List (Int × V)}, RPs W H ps kvs → ∀ k : Int, (ps.any fun p => decide (p.1 = k)) = kvs.any fun kv => decide (kv.1 = k)
 | [], _, h, k => by subst h; rfl
 | p :: ps, _, ⟨v, r, e, h, t⟩, k => by
  subst e
  rw [List.any_cons, List.any_cons, t.any k]
end
noncomputable def DO (W : Wd) (m : Md) (E : XK) (t : TE) (f : Ef) : Prop := ∀ H0 ρ ω σ Hc H ow, Sr W m ρ ω σ H0 Hc H ow → ∀ Q : VK, Aft W E Hc H (f ρ ω) (fun u ψ Hc' H' => ∀ a o, OwO W Hc' a u o → Hc' a = none → H a = none → H' a = some o → Q (.ref a) H') → t σ H Q
section
variable {W : Wd} {m : Md} {E : XK} {ta : TE} {fa : Ef}
theorem DO.e (h : DO W m E ta fa) : DE W m E ta fa := by
 intro H0 ρ ω σ Hc H ow S Q k
 refine h H0 ρ ω σ Hc H ow S Q ?_
 revert k
 cases fa ρ ω with
 | ok u ω' =>
  intro k Hc' H' e p a o ho n1 n2 ha
  have nl : a ∉ W.L := fun z => (S.pl.out a z).2 n2
  exact k (upd Hc' a o) H' (e.own n1 n2 ha) (p.own nl) (.ref a) ((ho.mono (Same.own n1)).ru upd_same)
 | err c pl ω' => exact fun k => k
 | stk => exact fun k => k
end
section
variable {ι : Type} (X : L2.FC ι) (W : Wd) (m : Md) (E : XK)
noncomputable def QO (e : Expr) (f : Ef) : Prop := ∃ t, (∀ x, PE (X x) e t) ∧ DO W m E t f
end
section
variable {ι : Type} {X : L2.FC ι} {W : Wd} {m : Md} {E : XK} {e : Expr} {f : Ef} {p : Pos}
theorem QO.te (h : QO X W m E e f) : QE X W m E e f := let ⟨t, p, d⟩ := h; ⟨t, p, d.e⟩
theorem QO.tb (h : QO X W m E e f) : QB X W m E e f := h.te.tb
end
section
noncomputable def two : U → Option (U × U)
 | .tup [a, b] => some (a, b)
 | _ => none
end
noncomputable def rvObj (l : Addr) (i : Int) : Obj := { cls := .type "reversed", data := .fields #[.ref l, rawInt i] }
section
variable {s : Shared}
noncomputable def IsRv (h : Heap) (a l : Addr) (i : Int) : Prop := h.get? a = some (rvObj l i)
theorem IsRv.typeIs {a l : Addr} {i : Int} (x : IsRv s.heap a l i) : s.TypeIs (.ref a) "reversed" := ⟨_, x, rfl⟩
end
noncomputable def Up (xs : Array Nat) : Prop := xs.toList.Pairwise (· < ·)
noncomputable def NL (t : SetTable) (j : Nat) : Prop := (t.place[SetTable.below t.place j]? == some j) = false
theorem NL.of {t : SetTable} {j : Nat} (h : ∀ i, t.slot j ≠ .live i) : NL t j := by
 unfold NL
 cases c : (t.place[SetTable.below t.place j]? == some j) with
 | false => rfl
 | true => exact absurd (by unfold SetTable.slot; simp only [c, if_true]) (h (SetTable.below t.place j))
theorem Up.range (n : Nat) : Up (Array.range n) := by unfold Up; simpa using List.pairwise_lt_range
theorem IntsAre.mem : ∀ {vs : List Value} {ns : List Int}, IntsAre vs ns → ∀ k, k ∈ ns ↔ ∃ v ∈ vs, ∃ t, v = .int k t
 | _, _, .nil, k => by simp
 | _, _, .cons n t h, k => by
  rw [List.mem_cons, IntsAre.mem h k]
  constructor
  ·rintro (rfl | ⟨v, hv, t', e⟩)
   ·exact ⟨_, by simp, t, rfl⟩
   ·exact ⟨v, by simp [hv], t', e⟩
  ·rintro ⟨v, hv, t', e⟩
   rcases List.mem_cons.mp hv with c | c
   ·subst c; cases e; exact .inl rfl
   ·exact .inr ⟨v, c, t', e⟩
end L2
set_option maxHeartbeats 4000000
namespace L2
open PySem PySem.Spec PyProof.Rows
noncomputable def ItO (h : Heap) (I S : Addr) (first : Value) (i n ep : Nat) : Prop := ∃ o, h.get? I = some o ∧ o.cls = .type "set_iterator" ∧ o.data = .fields #[first, .int i 0, .ref S, .int n 0, .int ep 0]
theorem ItO.typeIs {s : Shared} {I S : Addr} {first : Value} {i n ep : Nat} (x : ItO s.heap I S first i n ep) : s.TypeIs (.ref I) "set_iterator" := let ⟨o, e, r, _⟩ := x; ⟨o, e, r⟩
structure Wk (prog : Program) (w : World) (A : Around) (I : Addr) (fp : List Addr) (ord : List Value) (St : Nat → Heap → Prop) : Prop where
 frame : ∀ i h h', St i h → (∀ b ∈ fp, ∀ o, h.get? b = some o → h'.get? b = some o) → St i h'
 item : ∀ i (s : Shared) (Q : Option Value → Shared → Prop) (E : L2.VSP) (v : Value), ord[i]? = some v → St i s.heap →
  (∀ h', St (i + 1) h' → (∀ b o, b ≠ I → s.heap.get? b = some o → h'.get? b = some o) → Q (some v) { s with heap := h' }) → wpAny (model prog w) A (pyNext (.ref I)) Q E s
 done : ∀ (s : Shared) (Q : Option Value → Shared → Prop) (E : L2.VSP), St ord.length s.heap →
  (∀ h', (∀ b o, b ≠ I → s.heap.get? b = some o → h'.get? b = some o) → Q none { s with heap := h' }) → wpAny (model prog w) A (pyNext (.ref I)) Q E s
noncomputable def dd (ns : List Int) : List Int := ns.foldl step_dedup []
section
variable {u v : U}
theorem two_t : two (.tup [u, v]) = some (u, v) := rfl
end
noncomputable def Itzl (K : L2.Fg) (a b : Addr) : It :=
 ⟨fun i H => ∃ xs ys x y, SqL K H a xs ∧ SqL K H b ys ∧ xs[i]? = some x ∧ ys[i]? = some y, fun i H v H' => ∃ p x y, H p = none ∧ v = .ref p ∧ (∀ xs, SqL K H a xs → xs[i]? = some x) ∧ (∀ ys, SqL K H b ys → ys[i]? = some y) ∧ H' = upd H p (.tup [x, y]),
  fun i H => ∃ xs ys, SqL K H a xs ∧ SqL K H b ys ∧ (xs.length ≤ i ∨ ys.length ≤ i)⟩
theorem turn_zipL {P : Program} {w : World} {K : L2.Fg} {es : List Expr} {x1 : Nat} {pos : Pos} (a b zp tI tO ia ib : Addr) (D : ZipApart zp tI tO ia ib a b) :
  Turn P w K (.Tuple es x1 pos) (Itzl K a b) [zp, tO, ia, ib, tI] zp (fun i h => (IsZip h zp tI tO .none ∧ IsPair h tI (.ref ia) (.ref ib) ∧ ∃ u v, IsPair h tO u v) ∧ h.IsListIter ia a i ∧ h.IsListIter ib b i) where
 mem := by simp
 obj := fun i h st c hc => by
  obtain ⟨⟨Z, P1, u, v, P2⟩, ⟨o1, g1, _, d1⟩, ⟨o2, g2, _, d2⟩⟩ := st
  simp only [List.mem_cons, List.not_mem_nil, or_false] at hc
  rcases hc with rfl | rfl | rfl | rfl | rfl
  ·exact ⟨_, Z, fun v z => by cases z⟩
  ·exact ⟨_, P2, fun v z => by cases z⟩
  ·exact ⟨o1, g1, fun v z => by rw [d1] at z; cases z⟩
  ·exact ⟨o2, g2, fun v z => by rw [d2] at z; cases z⟩
  ·exact ⟨_, P1, fun v z => by cases z⟩
 keep := fun i h h' st k => by
  obtain ⟨⟨Z, P1, u, v, P2⟩, ⟨o1, g1, r1⟩, ⟨o2, g2, r2⟩⟩ := st
  exact ⟨⟨k zp (by simp) _ Z, k tI (by simp) _ P1, u, v, k tO (by simp) _ P2⟩, ⟨o1, k ia (by simp) o1 g1, r1⟩, ⟨o2, k ib (by simp) o2 g2, r2⟩⟩
 item := by
  intro X hP hw hK hc i pins s σ H E I hf st hg
  subst hP hw hK
  obtain ⟨xs, ys, x, y, hq, hr, hx, hy⟩ := hg
  obtain ⟨its, rv, p, hz⟩ := I.list hq
  obtain ⟨jts, rw', pl, hz2⟩ := I.list hr
  obtain ⟨u, hu, ru⟩ := rv.get hx
  obtain ⟨v, hv, rv2⟩ := rw'.get hy
  obtain ⟨⟨Z, P1, a1, b1, P2⟩, J1, J2⟩ := st
  refine wpAny_pyNext_zip_item D Z P1 P2 J1 J2 p.isList pl.isList (x := u) (y := v) (by simpa using hu) (by simpa using hv) fun g Z1 Q2 L1 L2 t1 ψ k1 => ?_
  refine ⟨_, rfl, wpAny_letOwnedTupleGo_zip (s := { s with heap := g }) Z1 fun g2 Z2 S2 => ?_⟩
  have lt : zp < s.heap.objs.size := Heap.lt_size Z
  have k2 : ∀ c o, c ∉ [zp, tO, ia, ib, tI] → s.heap.get? c = some o → g2.get? c = some o := fun c o hb e => (S2.2 c fun z => hb (by simp [z])).trans (k1 c o (fun z => hb (by simp [z])) (fun z => hb (by simp [z])) (fun z => hb (by simp [z])) (fun z => hb (by simp [z])) e)
  obtain ⟨hn, I2⟩ := I.adoptT (h' := g2) (t' := s.toks) (fp := [zp, tO, ia, ib, tI]) (vs := [x, y]) (us := [u, v]) (n := 0) k2 hf ⟨_, (S2.2 _ (Nat.ne_of_gt lt)).trans t1, rfl, _, rfl⟩ (.cons ru (.cons rv2 .nil)) (by show 2 ≤ sizeLine; decide)
  refine ⟨.ref _, _, I2, rfl, ⟨_, x, y, hn, rfl, fun zs hy => by rw [I.list_inj hy hq]; exact hx, fun zs hy' => by rw [I.list_inj hy' hr]; exact hy, rfl⟩, ⟨⟨Z2, ?_, u, v, (S2.2 _ D.TOz).trans Q2⟩, ?_, ?_⟩, fun c hb => ?_⟩
  ·exact (S2.2 _ D.TIz).trans (k1 tI _ D.TIz D.TITO D.TIi1 D.TIi2 P1)
  ·obtain ⟨o, go, r⟩ := L1; exact ⟨o, (S2.2 ia D.i1z).trans go, r⟩
  ·obtain ⟨o, go, r⟩ := L2; exact ⟨o, (S2.2 ib D.i2z).trans go, r⟩
  ·have ltb : c ≠ s.heap.objs.size := by
    obtain ⟨o1, q1, _⟩ := J1
    obtain ⟨o2, q2, _⟩ := J2
    simp only [List.mem_cons, List.not_mem_nil, or_false] at hb
    rcases hb with rfl | rfl | rfl | rfl | rfl
    ·exact Nat.ne_of_lt lt
    ·exact Nat.ne_of_lt (Heap.lt_size P2)
    ·exact Nat.ne_of_lt (Heap.lt_size q1)
    ·exact Nat.ne_of_lt (Heap.lt_size q2)
    ·exact Nat.ne_of_lt (Heap.lt_size P1)
   rw [upd_ne ltb]; exact (hf c hb).1
 done := by
  intro X hP hw hK hc i pins s σ H E I hf st hg
  subst hP hw hK
  obtain ⟨xs, ys, hq, hr, hx⟩ := hg
  obtain ⟨its, rv, p, hz⟩ := I.list hq
  obtain ⟨jts, rw', pl, hz2⟩ := I.list hr
  obtain ⟨⟨Z, P1, a1, b1, P2⟩, J1, J2⟩ := st
  have hl := rv.length
  have hl2 := rw'.length
  refine wpAny_pyNext_zip_end (I.ok.hd hc) D Z P1 P2 J1 J2 p.isList pl.isList (by
   rcases hx with hx | hx
   ·left; simp; lia
   ·right; simp; lia) fun g eb => ⟨rfl, I.turnedL (t' := s.toks) (fp := [zp, tO, ia, ib, tI]) (fun c o hb e => eb c o (fun z => hb (by simp [z])) (fun z => hb (by simp [z])) (fun z => hb (by simp [z])) (fun z => hb (by simp [z])) e) hf⟩
 self := fun ψ ψ ψ ψ ψ st h => wpAny_pyIter_zip st.1.1 h
noncomputable def iZipL (K : L2.Fg) (ta : TA) : TI := fun σ H R => ta σ H fun vs H1 => ∃ a b, vs = [.ref a, .ref b] ∧ (∃ xs, SqL K H1 a xs) ∧ (∃ ys, SqL K H1 b ys) ∧ R (Itzl K a b) H1
section
variable {X : Cx}
theorem pi_zipL {a b : Expr} {ta : TA} {p pos tp : Pos} {es : List Expr} {x1 : Nat} (hg : Gl X "zip") (hm : X.mg "zip" = none) (ha : PA X [a, b] ta) (hs : starEach [a, b] X.env = [(false, eval a X.env), (false, eval b X.env)] := by rfl) (hs2 : starEach [b] X.env = [(false, eval b X.env)] := by rfl) :
  PI X (.Tuple es x1 tp) (.Call (.Name "zip" p) [a, b] [] pos) (iZipL X.K ta) := by
 intro pins s σ H R I h
 refine Call_ (ld_blt I hg hm boot_zip (PyProof.Rows.callWith_type1 (thn (ha pos pins s σ H _ I h) fun us s1 ⟨vs, H1, I1, r1, q1⟩ => ?_) (by rw [hs, hs2]) (by rw [hs2]; rfl)))
 obtain ⟨t, l, e, ⟨xs, hq⟩, ⟨ys, hr⟩, q⟩ := q1
 subst e
 cases r1 with
 | cons r rr =>
  cases rr with
  | cons r' rr =>
   cases rr
   cases r
   cases r'
   obtain ⟨its, rv, pt, hz⟩ := I1.list hq
   obtain ⟨jts, rw', pl, hz2⟩ := I1.list hr
   refine call_zip_2 pt.isList pl.isList fun g Z P1 P2 J1 J2 ψ k => wpAny_pyIter_zip (s := { s1 with heap := g }) Z ?_
   have lt1 : t < s1.heap.objs.size := by obtain ⟨o, e, _⟩ := pt.isList; exact Heap.lt_size e
   have lt2 : l < s1.heap.objs.size := by obtain ⟨o, e, _⟩ := pl.isList; exact Heap.lt_size e
   refine ⟨s1.heap.objs.size + 4, [s1.heap.objs.size + 4, s1.heap.objs.size + 3, s1.heap.objs.size, s1.heap.objs.size + 1, s1.heap.objs.size + 2], _, _, H1, rfl, I1.kept (t' := s1.toks) fun b o e => k b o e,
    turn_zipL t l _ (s1.heap.objs.size + 2) _ _ _ ?_, ⟨⟨Z, P1, _, _, P2⟩, J1, J2⟩, fun c hb => ?_, q⟩
   ·constructor <;> first | lia | (simp only [Addr] at *; lia)
   ·have le : s1.heap.objs.size ≤ c := by
     simp only [List.mem_cons, List.not_mem_nil, or_false] at hb
     rcases hb with rfl | rfl | rfl | rfl | rfl <;> first | exact Nat.le_refl _ | exact Nat.le_add_right _ _
    exact I1.fpOk le (I1.hok.fresh le)
end
noncomputable def uZipL : List U → Option (List U)
 | [.lst us, .lst ws] => some (zipU us ws)
 | _ => none
theorem uZipL_s {us ws : List U} : uZipL [.lst us, .lst ws] = some (zipU us ws) := rfl
section
variable {W : Wd}
theorem itzl_r {Hb Hc : Hp} {a b : Addr} {us ws : List U} {vs xs : List V} (r1 : RUs W Hc us vs) (r2 : RUs W Hc ws xs) (k1 : ∀ Hc2 H2, Same Hc Hc2 → Same Hc2 H2 → (∀ b o, b ∉ W.L → Hb b = some o → H2 b = some o) → H2 a = some (.lst vs)) (k : ∀ Hc2 H2, Same Hc Hc2 → Same Hc2 H2 → (∀ b o, b ∉ W.L → Hb b = some o → H2 b = some o) → H2 b = some (.lst xs)) : ItR W Hb Hc (Itzl W.K a b) (zipU us ws) := by
 intro Hc2 H2 s1 s2 s3
 have ha := k1 Hc2 H2 s1 s2 s3
 have hb := k Hc2 H2 s1 s2 s3
 refine ⟨fun i u hu => ?_, vs, xs, .of ha, .of hb, by unfold zipU; rw [List.length_zipWith, ← r1.len, ← r2.len]; omega⟩
 unfold zipU at hu
 rw [List.getElem?_zipWith] at hu
 cases q1 : us[i]? with
 | none => rw [q1] at hu; exact noS hu
 | some x =>
  cases q2 : ws[i]? with
  | none => rw [q1, q2] at hu; cases hu
  | some y =>
   rw [q1, q2] at hu; cases hu
   obtain ⟨v, hv, rv⟩ := r1.at (i := 0) q1
   obtain ⟨v', hv', rv'⟩ := r2.at (i := 0) q2
   refine ⟨⟨vs, xs, v, v', .of ha, .of hb, hv, hv'⟩, fun z H3 hz => ?_⟩
   obtain ⟨p, x', y', hn, rfl, e1, e2, rfl⟩ := hz
   have e1 := e1 vs (.of ha)
   have e2 := e2 xs (.of hb)
   rw [hv] at e1; cases e1
   rw [hv'] at e2; cases e2
   exact ⟨upd Hc2 p (.tup [v, v']), (Ext.laid s2 hn).1, Same.laid hn, .tup upd_same (.cons ((rv.mono s1).mono (Same.laid (s2.free hn))) (.one ((rv'.mono s1).mono (Same.laid (s2.free hn)))))⟩
end
section
variable {W : Wd}
theorem pi_zipLK {Y : Cx} {K : L2.Fg} {tg e : Expr} {ta : TA} (h : Y.K = K) (q : PI Y tg e (iZipL Y.K ta)) : PI Y tg e (iZipL K ta) := h ▸ q
end
noncomputable def Msk (m : Nat) : Prop := m = 7 ∨ m = 31 ∨ m = 127 ∨ m = 511
noncomputable def pth (t : SetTable) (h : Int) : Nat → SetTable.Probe
 | 0 => t.probeStart h
 | n + 1 => t.advance (pth t h n)
noncomputable def lps (m : Nat) (h : Int) : Nat → Nat × Nat
 | 0 => (SetTable.bits h % (m + 1), SetTable.bits h)
 | n + 1 => SetTable.leap m (lps m h n).1 (lps m h n).2
theorem adv_run (t : SetTable) (h : Int) : ∀ (r n : Nat), (pth t h n).more = r → pth t h (n + r) = { pth t h n with j := (pth t h n).j + r, more := 0 }
 | 0, n, e => by
  rw [Nat.add_zero]
  cases q : pth t h n
  rw [q] at e
  simp only at e
  subst e
  rfl
 | r + 1, n, e => by
  have e1 : pth t h (n + 1) = { pth t h n with j := (pth t h n).j + 1, more := r } := by
   show t.advance (pth t h n) = _
   unfold SetTable.advance
   rw [if_pos (by omega), e]
   rfl
  have := adv_run t h r (n + 1) (by rw [e1])
  rw [show n + (r + 1) = n + 1 + r by omega, this, e1]
  simp only
  congr 1
  omega
structure Tb (t : SetTable) (hs : List Int) : Prop where
 up : Up t.place
 dm : t.dummies = #[]
 ms : Msk t.mask
 le : ∀ j ∈ t.place.toList, j ≤ t.mask
 sz : t.place.size = hs.length
 fl : t.place.size ≤ t.mask
 pa : ∀ q ∈ t.place.toList.zip hs, ∃ n, n < 10 * SetTable.turns t.mask ∧ (pth t q.2 n).j = q.1 ∧ ∀ m, m < n → (pth t q.2 m).j ∈ t.place.toList
noncomputable def AtRun (t : SetTable) (h : Int) (r n : Nat) : Prop := pth t h n = { j := (lps t.mask h r).1, more := SetTable.runEnd t.mask (lps t.mask h r).1 - (lps t.mask h r).1, i := (lps t.mask h r).1, perturb := (lps t.mask h r).2, dummy := none }
theorem AtRun.next {t : SetTable} {h : Int} {r n : Nat} (a : AtRun t h r n) : AtRun t h (r + 1) (n + (SetTable.runEnd t.mask (lps t.mask h r).1 - (lps t.mask h r).1) + 1) := by
 have e : pth t h n = _ := a
 have e1 := adv_run t h _ n rfl
 rw [show (pth t h n).more = SetTable.runEnd t.mask (lps t.mask h r).1 - (lps t.mask h r).1 by rw [e]] at e1
 show t.advance (pth t h (n + _)) = _
 rw [e1]
 unfold SetTable.advance
 rw [if_neg (by simp), e]
 rfl
noncomputable def occ (owner : Array (Option Nat)) (j : Nat) : Prop := (owner.getD j (some 0)).isNone = false
structure Ow (t : SetTable) (hs : List Int) (owner : Array (Option Nat)) (js : List Nat) : Prop where
 sz : owner.size = t.mask + 1
 ln : js.length = hs.length
 nd : js.Nodup
 le : ∀ j ∈ js, j ≤ t.mask
 at' : ∀ j : Nat, j ≤ t.mask → ∀ k : Nat, owner.getD j none = some k ↔ js[k]? = some j
 pa : ∀ (k j : Nat) (h : Int), js[k]? = some j → hs[k]? = some h → ∃ n, n < 10 * SetTable.turns t.mask ∧ (pth t h n).j = j ∧ ∀ m, m < n → occ owner (pth t h m).j
theorem Ow.nil (t : SetTable) : Ow t [] (Array.replicate (t.mask + 1) none) [] := by
 refine ⟨by simp, rfl, by simp, fun ψ h => absurd h (by simp), fun j hj k => ?_, fun k j h hk => absurd hk (by simp)⟩
 simp [Array.getD]
end L2
set_option maxHeartbeats 2000000
namespace L2
open PySem PySem.Spec PyProof.Rows
end L2
set_option maxHeartbeats 2000000
namespace L2
open PySem PySem.Spec PyProof.Rows
section
variable {prog : Program} {w : World}
noncomputable abbrev tK (prog : Program) (w : World) : HeapKind prog w (List Int) := tupleKind (intKind prog w)
end
end L2
set_option maxHeartbeats 2000000
namespace L2
open PySem PySem.Spec PyProof.Rows
section
variable {prog : Program} {w : World}
noncomputable def El (prog : Program) (w : World) (h : Heap) (q : (Int × Value) × List Int) : Prop := q.1.1 = (tK prog w).hash q.2 ∧ ∃ c, q.1.2 = .ref c ∧ (tK prog w).is h q.2 c
structure SetT' (prog : Program) (w : World) (h : Heap) (es : Array (Int × Value)) (t : SetTable) (ks : List (List Int)) : Prop where
 tb : Tb t (es.toList.map (·.1))
 ln : ks.length = es.size
 el : ∀ q ∈ es.toList.zip ks, El prog w h q
 nd : ks.Nodup
 fu : t.place.size * 5 < t.mask * 3
theorem tk_keep {h h' : Heap} {a c : Addr} {k : List Int} {o : Obj} (ho : h.get? a = some o) (hex : o.ExactSet) (hs : Heap.SameBut a h h') (hk : (tK prog w).is h k c) : (tK prog w).is h' k c := by
 obtain ⟨o2, items, n, h1, h2, h3, h4⟩ := (show IsTupleKey (intKind prog w) h k c from hk)
 have ne : c ≠ a := fun z => by
  subst z
  rw [h1] at ho
  cases ho
  rw [hex.1] at h2
  exact absurd h2 (by decide)
 exact (show IsTupleKey (intKind prog w) h' k c from ⟨o2, items, n, (hs.2 c ne).trans h1, h2, h3, h4⟩)
theorem SetT'.keep {h h' : Heap} {a : Addr} {o : Obj} {es : Array (Int × Value)} {t : SetTable} {ks : List (List Int)} (ho : h.get? a = some o) (hex : o.ExactSet) (hs : Heap.SameBut a h h') (S : SetT' prog w h es t ks) : SetT' prog w h' es t ks :=
 ⟨S.tb, S.ln, fun q hq => let ⟨e1, c, e2, e3⟩ := S.el q hq; ⟨e1, c, e2, tk_keep ho hex hs e3⟩, S.nd, S.fu⟩
end
end L2
set_option maxHeartbeats 2000000
namespace L2
open PySem PySem.Spec PyProof.Rows
local macro_rules
 | `(tactic| walk_at "ro") => do
  let j := Lean.mkIdent (Lean.mkPrivateNameCore `PySem.SetOps `PySem.reordered)
  `(tactic| unfold $j)
end L2
set_option maxHeartbeats 2000000
namespace L2
open PySem PySem.Spec PyProof.Rows
local macro_rules
 | `(tactic| walk_at "ro") => do
  let j := Lean.mkIdent (Lean.mkPrivateNameCore `PySem.SetOps `PySem.reordered)
  `(tactic| unfold $j)
section
variable {prog : Program} {w : World}
noncomputable def SetT (prog : Program) (w : World) (h : Heap) (a : Addr) (rows : List (List Int)) : Prop :=
 ∃ o es ep t ks, h.get? a = some o ∧ o.ExactSet ∧ o.data = .set es ep t ∧ SetT' prog w h es t ks ∧ ks.Perm rows
noncomputable def addR (rows : List (List Int)) (k : List Int) : List (List Int) := if k ∈ rows then rows else rows ++ [k]
end
end L2
set_option maxHeartbeats 4000000
namespace L2
open PySem PySem.Spec PyProof.Rows
noncomputable def ddT (rows : List (List Int)) : List (List Int) := rows.foldl addR []
theorem addR_len {rows : List (List Int)} {k : List Int} : (addR rows k).length ≤ rows.length + 1 := by unfold addR; split <;> simp
theorem foldR_len (rows : List (List Int)) : ∀ acc : List (List Int), (rows.foldl addR acc).length ≤ acc.length + rows.length := by
 induction rows with
 | nil => intro acc; simp
 | cons r rs ih => intro acc; have := ih (addR acc r); have := addR_len (rows := acc) (k := r); simp only [List.foldl_cons, List.length_cons]; omega
section
variable {prog : Program} {w : World}
theorem SetT.ex {h : Heap} {a : Addr} {rows : List (List Int)} (hS : SetT prog w h a rows) : ∃ o, h.get? a = some o ∧ o.ExactSet := by
 obtain ⟨o, es, ep, tt, ks, ho, hex, hd, S, pm⟩ := hS
 exact ⟨o, ho, hex⟩
end
theorem items_int {P : Program} {w : World} : ∀ {ks : List Int} {us : List Value}, Vals (ks.map V.int) us → ItemsAre (intKind P w) ks us
 | [], _, r => by rw [List.map_nil] at r; cases r; exact .nil
 | k :: ks, _, r => by
  rw [List.map_cons] at r
  cases r with
  | cons h t => obtain ⟨t', rfl⟩ := h; exact .cons (intKind_is _ _ _ _) (items_int t)
noncomputable def Rw (K : L2.Fg) (H : Hp) (xs : List V) (rows : List (List Int)) : Prop := Paired (fun x r => ∃ b, x = .ref b ∧ SqT K H b (r.map V.int)) xs rows
theorem Rw.len {K : L2.Fg} {H : Hp} {xs : List V} {rows : List (List Int)} (h : Rw K H xs rows) : xs.length = rows.length := by
 induction h with
 | nil => rfl
 | cons _ _ ih => simp [ih]
theorem Rw.get {K : L2.Fg} {H : Hp} {xs : List V} {rows : List (List Int)} (h : Rw K H xs rows) : ∀ i, i < rows.length → ∃ b, xs[i]? = some (.ref b) ∧ SqT K H b ((rows.getD i []).map V.int) := by
 induction h with
 | nil => intro i hi; simp at hi
 | @cons x r xs rs h t ih =>
  intro i hi
  cases i with
  | zero => obtain ⟨b, rfl, q⟩ := h; exact ⟨b, rfl, q⟩
  | succ i => obtain ⟨b, e, q⟩ := ih i (by simpa using hi); exact ⟨b, by simpa using e, by simpa using q⟩
noncomputable def asRow : U → Option (List Int)
 | .tup us => asInts us
 | _ => none
noncomputable def uRow (r : List Int) : U := .tup (r.map U.int)
theorem asRow_of {u : U} {r : List Int} (h : asRow u = some r) : u = uRow r := by
 unfold asRow at h; split at h
 ·rw [asInts_of h]; rfl
 ·cases h
noncomputable def rowsD : List Int → List Int → List (List Int)
 | cs, n :: rs => cs.take n.toNat :: rowsD (cs.drop n.toNat) rs
 | _, [] => []
noncomputable def decR (ω : Om) : List (List Key × V) := (rowsD ω.cs ω.rs).map fun r => (r.map Sum.inl, V.bl true)
noncomputable def encR (rows : List (List Int)) : Om := ⟨rows.flatten, rows.map fun r => (r.length : Int)⟩
theorem rowsD_enc : ∀ rows : List (List Int), rowsD (encR rows).cs (encR rows).rs = rows
 | [] => rfl
 | r :: rows => by
  have := rowsD_enc rows
  unfold encR at this ⊢
  simp only [List.flatten_cons, List.map_cons, rowsD, Int.toNat_natCast, List.take_left, List.drop_left] at this ⊢
  rw [this]
theorem enc_snoc (rows : List (List Int)) (r : List Int) : encR (rows ++ [r]) = ⟨(encR rows).cs ++ r, (encR rows).rs ++ [(r.length : Int)]⟩ := by
 unfold encR; simp
theorem inl_inj : ∀ {a b : List Int}, a.map (Sum.inl : Int → Key) = b.map Sum.inl → a = b
 | [], [], _ => rfl
 | [], _ :: _, e => by simp at e
 | _ :: _, [], e => by simp at e
 | x :: xs, y :: ys, e => by
  simp only [List.map_cons, List.cons.injEq, Sum.inl.injEq] at e
  rw [e.1, inl_inj e.2]
theorem valR (r : List Int) : ∀ rows : List (List Int), valV (rows.map fun r => ((r.map Sum.inl : List Key), V.bl true)) (r.map Sum.inl) = if r ∈ rows then some (V.bl true) else none
 | [] => rfl
 | q :: rows => by
  rw [List.map_cons]
  by_cases c : q = r
  ·subst c
   rw [if_pos (List.mem_cons_self ..)]; exact valV_pos rfl
  ·rw [valV_neg (fun z => c (inl_inj z)), valR r rows]
   have e : (r ∈ q :: rows) = (r ∈ rows) := by simp [List.mem_cons, show ¬ r = q from fun z => c z.symm]
   simp only [e]
theorem kV_map (r : List Int) : (r.map (Sum.inl : Int → Key)).map kV = r.map V.int := by rw [List.map_map]; rfl
noncomputable def dV (W : Wd) (ω0 : Om) (d : Addr) : Wd where
 K := W.K
 mg := W.mg
 pa := d
 L := d :: W.L
 pl := fun ω H => W.pl ω0 H ∧ H d = some (.dT (decR ω))
 st := fun ω H H' h k => ⟨W.st _ _ _ h.1 fun b o hb c => k b o hb (c.imp_left (List.mem_cons_of_mem _)), k _ _ h.2 (.inl (List.mem_cons_self ..))⟩
section
variable {W : Wd} {m : Md} {E : XK} {t : TS} {g : Sf} {i j k : Nat}
theorem dk_dictR (h1 : i ∉ m.B) (h2 : i ∉ m.M) (h : ∀ ω0 d, d ∉ W.L → DK (dV W ω0 d) m E t g) : DK W m E (tSeq (tAsg tDNewT (gName i)) t) (sDict i g) := by
 intro H0 Hc0 ρ ω σ Hc H ow S x D k
 show ∀ d, H d = none → t D (σ.set i (some (.ref d))) (upd H d (.dT []))
 intro d n
 unfold sDict at k
 by_cases np : noE ρ = true
 ·rw [if_pos np] at k
  have nL : d ∉ W.L := fun z => (S.pl.out d z).2 n
  have n0 : H0 d = none := by
   cases q : H0 d with
   | none => rfl
   | some o => exact absurd (S.s0 d o nL q) (by rw [n]; simp)
  have nc : Hc d = none := S.sub.free n
  have tr : ∀ {u v}, noP u = true → RU W Hc u v → RU (dV W ω d) Hc u v := fun a b => RU.tr (W := W) (W' := dV W ω d) rfl rfl a b
  have trs : ∀ {u v}, noPs u = true → RUs W Hc u v → RUs (dV W ω d) Hc u v := fun a b => RUs.tr (W := W) (W' := dV W ω d) rfl rfl a b
  have S' : Sr (dV W ω d) m (ρ.set i (some .pile)) ⟨[], []⟩ (σ.set i (some (.ref d))) (upd H0 d (.dT [])) Hc (upd H d (.dT [])) ow := by
   refine ⟨fun b o hb => ?_, fun b o nb hb => ?_, fun b hb => ?_, by simp [S.len], ⟨⟨W.st _ _ _ S.pl.pl fun b o hb ψ => ?_, upd_same⟩, fun b hb => ?_⟩, fun j w n1 n2 hj => ?_, fun j w n1 n2 hj => ?_, fun j w nm hj => ?_, fun a b u w ma mb ne ha hb => ?_⟩
   ·rw [upd_ne (ne_of_none hb nc)]; exact S.sub b o hb
   ·have nd : b ≠ d := fun z => nb (z ▸ List.mem_cons_self ..)
    rw [upd_ne nd] at hb ⊢
    exact S.s0 b o (fun z => nb (List.mem_cons_of_mem _ z)) hb
   ·by_cases z : b = d
    ·rw [z, upd_same]; simp
    ·rw [upd_ne z]
     rcases List.mem_cons.mp hb with hb | hb
     ·exact absurd hb z
     ·exact S.p0 b hb
   ·rw [upd_ne (ne_of_none hb n)]; exact hb
   ·by_cases z : b = d
    ·rw [z, upd_same]; exact ⟨nc, by simp⟩
    ·rcases List.mem_cons.mp hb with hb | hb
     ·exact absurd hb z
     ·rw [upd_ne z]; exact S.pl.out b hb
   ·rcases set_at hj with ⟨rfl, rfl, l⟩ | ⟨e, hj⟩
    ·exact ⟨_, at_set (by rw [← S.len]; exact l), by rw [RU]; rfl⟩
    ·obtain ⟨v, q, r⟩ := S.cl j w n1 n2 hj
     exact ⟨v, by rw [at_set_ne e]; exact q, tr (noE_at np hj) r⟩
   ·rcases set_at hj with ⟨rfl, rfl, l⟩ | ⟨e, hj⟩
    ·exact absurd n1 h1
    ·obtain ⟨v, q, r⟩ := S.bo j w n1 n2 hj
     refine ⟨v, by rw [at_set_ne e]; exact q, ?_⟩
     have pw := noE_at np hj
     rcases r with r | ⟨a, o, z2, z3, z4, z5⟩
     ·exact .inl (tr pw r)
     ·have nd : a ≠ d := ne_of_none z4 n0
      exact .inr ⟨a, o, z2, fun z => (List.mem_cons.mp z).elim nd z3, by rw [upd_ne nd]; exact z4, z5.tr rfl rfl pw⟩
   ·rcases set_at hj with ⟨rfl, rfl, l⟩ | ⟨e, hj⟩
    ·exact absurd nm h2
    ·obtain ⟨o, z2, z3, z4, z5, z6⟩ := S.mu j w nm hj
     have pw := noE_at np hj
     have nd : ow j ≠ d := ne_of_none z3 n
     exact ⟨o, by rw [at_set_ne e]; exact z2, by rw [upd_ne nd]; exact z3, z4, by rw [upd_ne nd]; exact z5, z6.tr rfl rfl pw⟩
   ·rcases set_at ha with ⟨rfl, rfl, l⟩ | ⟨e, ha⟩
    ·exact absurd ma h2
    ·rcases set_at hb with ⟨rfl, rfl, l⟩ | ⟨e', hb⟩
     ·exact absurd mb h2
     ·exact S.di a b u w ma mb ne ha hb
  have x' : Ext (dV W ω d) Hc0 (upd H0 d (.dT [])) Hc (upd H d (.dT [])) := by
   refine ⟨fun b o nb hb => ?_, x.sc, fun b o hb => ?_, fun b hb hn => ?_, fun b hb => ?_⟩
   ·have nd : b ≠ d := fun z => nb (z ▸ List.mem_cons_self ..)
    rw [upd_ne nd] at hb ⊢
    exact x.same b o (fun z => nb (List.mem_cons_of_mem _ z)) hb
   ·rw [upd_ne (ne_of_none hb nc)]; exact S.sub b o hb
   ·by_cases z : b = d
    ·rw [z]; exact nc
    ·rw [upd_ne z] at hn; exact x.new b hb hn
   ·by_cases z : b = d
    ·rw [z, upd_same]; simp
    ·rw [upd_ne z] at hb ⊢; exact x.frz b hb
  have back : ∀ {Hc' H' : Hp} {ω' : Om}, Ext (dV W ω d) Hc0 (upd H0 d (.dT [])) Hc' H' → PlOk (dV W ω d) ω' Hc' H' → Ext W Hc0 H0 Hc' H' ∧ PlOk W ω Hc' H' := fun {Hc' H' ω'} y p => by
   refine ⟨⟨fun b o nb hb => ?_, y.sc, y.sub, fun b hb hn => ?_, fun b hb => ?_⟩, ⟨p.pl.1, fun b hb => p.out b (List.mem_cons_of_mem _ hb)⟩⟩
   ·have nd : b ≠ d := ne_of_none hb n0
    exact y.same b o (fun z => (List.mem_cons.mp z).elim nd nb) (by rw [upd_ne nd]; exact hb)
   ·have nd : b ≠ d := fun z => hn (z ▸ n0)
    exact y.new b hb (by rw [upd_ne nd]; exact hn)
   ·have nd : b ≠ d := fun z => hb (z ▸ n0)
    exact y.frz b (by rw [upd_ne nd]; exact hb)
  refine h ω d nL (upd H0 d (.dT [])) Hc0 _ ⟨[], []⟩ _ Hc _ ow S' x' D ?_
  revert k
  cases g (ρ.set i (some .pile)) ⟨[], []⟩ with
  | nx ρ' ω' => exact fun k => k.elim
  | bk ρ' ω' => exact fun k => k.elim
  | ct ρ' ω' => exact fun k => k.elim
  | rt u ω' =>
   intro k v Hc' H' y p r
   unfold bckF at k
   by_cases nu : noP u = true
   ·simp only [if_pos nu] at k
    obtain ⟨y', p'⟩ := back y p
    exact k v Hc' H' y' p' (RU.tr (W := dV W ω d) (W' := W) rfl rfl nu r)
   ·simp only [if_neg nu] at k
    exact k.elim
  | err c pl ω' =>
   intro k C od Hc' H' y p hm hx
   obtain ⟨y', p'⟩ := back y p
   exact k C od Hc' H' y' p' hm hx
  | stk => exact fun k => k.elim
 ·rw [if_neg np] at k
  exact k.elim
noncomputable def rowU : Option (Option U) → Option (List Int)
 | some (some u) => asRow u
 | _ => none
noncomputable def eRIn (j i : Nat) : Ef := fun ρ ω => match rowU ρ[j]? with
 | some r => if isP ρ[i]? = true then .ok (.bl (decide (r ∈ rowsD ω.cs ω.rs))) ω else .stk
 | none => .stk
noncomputable def sRPt (i j : Nat) : Sf := fun ρ ω => match rowU ρ[j]? with
 | some r => if isP ρ[i]? = true ∧ r ∉ rowsD ω.cs ω.rs ∧ rowsD (ω.cs ++ r) (ω.rs ++ [(r.length : Int)]) = rowsD ω.cs ω.rs ++ [r] ∧ (rowsD ω.cs ω.rs).length < 1000000 then .nx ρ ⟨ω.cs ++ r, ω.rs ++ [(r.length : Int)]⟩ else .stk
 | _ => .stk
structure DrW (W' : Wd) : Prop where
 ex : ∃ W ω0 d, W' = dV W ω0 d ∧ d ∉ W.L
theorem rowU_of {o : Option (Option U)} {r : List Int} (h : rowU o = some r) : o = some (some (uRow r)) := by
 unfold rowU at h
 split at h
 ·rw [asRow_of h]
 ·cases h
variable {ρ : En} {ω : Om} {σ : St} {H0 Hc H : Hp} {ow : Nat → Addr}
theorem dr_at {W0 : Wd} {ω0 : Om} {d : Addr} (h1 : i ∉ m.B) (h2 : i ∉ m.M) (h3 : j ∉ m.B) (h4 : j ∉ m.M) (S : Sr (dV W0 ω0 d) m ρ ω σ H0 Hc H ow) {r : List Int} (ka : rowU ρ[j]? = some r) (pi : isP ρ[i]? = true) :
  σ[i]? = some (some (.ref d)) ∧ ∃ q, σ[j]? = some (some (.ref q)) ∧ H q = some (.tup ((r.map (Sum.inl : Int → Key)).map kV)) ∧ Hc q = some (.tup ((r.map (Sum.inl : Int → Key)).map kV)) ∧ H d = some (.dT (decR ω)) := by
 obtain ⟨v, q1, r1⟩ := S.cl i _ h1 h2 (isP_of pi)
 obtain ⟨v2, q2, r2⟩ := S.cl j _ h3 h4 (rowU_of ka)
 rw [RU] at r1
 subst r1
 unfold uRow at r2
 rw [RU] at r2
 obtain ⟨q, vs, rfl, hq, rs⟩ := r2
 have ev := rs.ints
 subst ev
 rw [kV_map]
 exact ⟨q1, q, q2, S.sub _ _ hq, hq, S.pl.pl.2⟩
theorem de_rIn (w : DrW W) (h1 : i ∉ m.B) (h2 : i ∉ m.M) (h3 : j ∉ m.B) (h4 : j ∉ m.M) : DE W m E (tDIn (tVar j) (tVar i)) (eRIn j i) := by
 obtain ⟨W0, ω0, d, rfl, nd⟩ := w.ex
 intro H0 ρ ω σ Hc H ow S Q h
 unfold eRIn at h
 cases ka : rowU ρ[j]? with
 | none => rw [ka] at h; exact h.elim
 | some r =>
  rw [ka] at h
  simp only at h
  by_cases pi : isP ρ[i]? = true
  ·rw [if_pos pi] at h
   obtain ⟨s1, q, s2, hq, hc, hd⟩ := dr_at h1 h2 h3 h4 S ka pi
   refine ⟨_, s2, _, s1, d, _, rfl, DGet.t hd hq, ?_⟩
   have e : (valV (decR ω) (r.map Sum.inl)).isSome = decide (r ∈ rowsD ω.cs ω.rs) := by
    unfold decR
    rw [valR]
    by_cases c : r ∈ rowsD ω.cs ω.rs
    ·rw [if_pos c, decide_eq_true c]; rfl
    ·rw [if_neg c, decide_eq_false c]; rfl
   rw [e]
   exact h Hc H (Ext.refl S.sub) S.pl _ (by rw [RU])
  ·rw [if_neg pi] at h; exact h.elim
theorem ds_rPut {tv : TE} (hv : ∀ σ H (Q : VK), Q (.bl true) H → tv σ H Q) (w : DrW W) (h1 : i ∉ m.B) (h2 : i ∉ m.M) (h3 : j ∉ m.B) (h4 : j ∉ m.M) : DS W m E (sDPut (tVar i) (tVar j) tv) (sRPt i j) := by
 obtain ⟨W0, ω0, d, rfl, nd⟩ := w.ex
 intro H0 Hc0 ρ ω σ Hc H ow S x D h
 unfold sRPt at h
 cases ka : rowU ρ[j]? with
 | none => rw [ka] at h; exact h.elim
 | some r =>
     rw [ka] at h
     simp only at h
     by_cases c : isP ρ[i]? = true ∧ r ∉ rowsD ω.cs ω.rs ∧ rowsD (ω.cs ++ r) (ω.rs ++ [(r.length : Int)]) = rowsD ω.cs ω.rs ++ [r] ∧ (rowsD ω.cs ω.rs).length < 1000000
     ·rw [if_pos c] at h
      obtain ⟨pi, lk, wf, ln⟩ := c
      obtain ⟨s1, q, s2, hq, hc, hd⟩ := dr_at h1 h2 h3 h4 S ka pi
      refine hv _ _ _ ⟨_, s1, _, s2, d, _, rfl, DPut.t hd hq (by unfold decR; rw [List.length_map, sizeLine_eq]; omega), ?_⟩
      have ep : putK (decR ω) (r.map Sum.inl) (.bl true) = decR ⟨ω.cs ++ r, ω.rs ++ [(r.length : Int)]⟩ := by
       unfold putK
       have e := valR r (rowsD ω.cs ω.rs)
       rw [if_neg lk] at e
       rw [valV_any, show valV (decR ω) (r.map Sum.inl) = none from e]
       unfold decR
       simp only
       rw [wf, List.map_append]; rfl
      rw [ep]
      have dn : ∀ {b o}, Hc b = some o → b ≠ d := fun {b o} hb z => by
       have := (S.pl.out d (List.mem_cons_self ..)).1
       rw [z, this] at hb; cases hb
      refine h σ Hc _ ow ⟨fun b o hb => ?_, fun b o nb hb => ?_, S.p0, S.len, ⟨⟨W0.st _ _ _ S.pl.pl.1 fun b o hb hl => ?_, upd_same⟩, fun b hb => ⟨(S.pl.out b hb).1, ?_⟩⟩, S.cl, S.bo, fun j' w nm hj => ?_, S.di⟩ ⟨fun b o nb hb => ?_, x.sc, fun b o hb => ?_, x.new, fun b hb => ?_⟩
      ·rw [upd_ne (dn hb)]; exact S.sub b o hb
      ·rw [upd_ne (fun z => nb (by rw [z]; exact List.mem_cons_self ..))]; exact S.s0 b o nb hb
      ·refine (upd_ne fun z => ?_).trans hb
       subst z
       rcases hl with hl | ⟨x, y, hl⟩
       ·exact nd hl
       ·rw [hd] at hb; cases hb; cases hl
      ·by_cases z : b = d
       ·rw [z, upd_same]; simp
       ·rw [upd_ne z]; exact (S.pl.out b hb).2
      ·obtain ⟨o, z2, z3, z4, z5, z6⟩ := S.mu j' w nm hj
       have ne : ow j' ≠ d := fun z => S.p0 d (List.mem_cons_self ..) (z ▸ z5)
       exact ⟨o, z2, by rw [upd_ne ne]; exact z3, z4, z5, z6⟩
      ·rw [upd_ne (fun z => nb (by rw [z]; exact List.mem_cons_self ..))]; exact x.same b o nb hb
      ·rw [upd_ne (dn hb)]; exact S.sub b o hb
      ·by_cases z : b = d
       ·rw [z, upd_same]; simp
       ·rw [upd_ne z]; exact x.frz b hb
     ·rw [if_neg c] at h; exact h.elim
end
section
variable {ι : Type} {X : L2.FC ι} {W : Wd} {m : Md} {E : XK} {xi xj : Str} {p p2 p3 pos tp : Pos} {ss : List Stmt} {g : Sf} {i j : Nat}
theorem Ctx.dV (cx : Ctx X W E) {ω0 : Om} {d : Addr} : Ctx X (L2.dV W ω0 d) E := ⟨cx.hK, cx.hm, cx.calm, cx.hu, cx.ps⟩
theorem drw {ω0 : Om} {d : Addr} (h : d ∉ W.L) : DrW (L2.dV W ω0 d) := ⟨⟨W, ω0, d, rfl, h⟩⟩
theorem qk_dictR (i : Nat) (hN : ∀ y, (X y).N.Nodup) (h : ∀ ω0 d, d ∉ W.L → QK X (L2.dV W ω0 d) m E ss g) (hs : ∀ y, swapsWith (.Dict [] [] p2) (some (.Name xi p)) pos.line (X y).env = pure false := by intro ψ; rfl) (h1 : i ∉ m.B := by decide) (h2 : i ∉ m.M := by decide) (hi : ∀ y, (X y).N[i]? = some xi := by intro ψ; rfl) (hx : ∀ y, Loc (X y).env.scope xi := by intro ψ; first | exact Or.inl rfl | exact Or.inr rfl)
  (hf : ∀ y, (X y).fn xi = true ∨ (X y).env.scope.names.lookup xi = some .local := by intro ψ; first | exact .inl rfl | exact .inr rfl) : QK X W m E (.Assign [.Name xi p] (.Dict [] [] p2) pos :: ss) (sDict i g) :=
 ⟨_, fun y => pss_cons (ps_set (hN y) (hi y) (hx y) pe_dnewT (hs y) (hf y)) (pss_ex y), dk_dictR h1 h2 fun ω0 d hd => dk_ex (h ω0 d hd)⟩
theorem qe_rIn (j i : Nat) (w : DrW W) (cx : Ctx X W E) (hm : lastMarks [.In] [Expr.Name xi p2] = false := by with_unfolding_all rfl) (h1 : i ∉ m.B := by decide) (h2 : i ∉ m.M := by decide) (h3 : j ∉ m.B := by decide) (h4 : j ∉ m.M := by decide) (ni : ∀ y, (X y).N[i]? = some xi := by intro ψ; rfl) (nj : ∀ y, (X y).N[j]? = some xj := by intro ψ; rfl)
  (vi : ∀ y, Vis (X y).env.scope xi := by intro ψ; first | exact Or.inl rfl | exact Or.inr (Or.inl rfl) | exact Or.inr (Or.inr rfl)) (vj : ∀ y, Vis (X y).env.scope xj := by intro ψ; first | exact Or.inl rfl | exact Or.inr (Or.inl rfl) | exact Or.inr (Or.inr rfl)) (di : (xi == ("__debug__" : Str)) = false := by decide) (dj : (xj == ("__debug__" : Str)) = false := by decide) (ci : (xi == ("__classdict__" : Str)) = false := by decide) (cj : (xj == ("__classdict__" : Str)) = false := by decide) :
  QE X W m E (.Compare (.Name xj p) [.In] [.Name xi p2] pos) (eRIn j i) :=
 ⟨_, fun y => pe_cmp (pc_din (by have := cx.hu y; omega) (pe_var (nj y) (vj y) dj cj) (pe_var (ni y) (vi y) di ci)) hm, de_rIn w h1 h2 h3 h4⟩
theorem qt_rIn (j i : Nat) (w : DrW W) (cx : Ctx X W E) (hm : lastMarks [.In] [Expr.Name xi p2] = false := by with_unfolding_all rfl) (h1 : i ∉ m.B := by decide) (h2 : i ∉ m.M := by decide) (h3 : j ∉ m.B := by decide) (h4 : j ∉ m.M := by decide) (ni : ∀ y, (X y).N[i]? = some xi := by intro ψ; rfl) (nj : ∀ y, (X y).N[j]? = some xj := by intro ψ; rfl)
  (vi : ∀ y, Vis (X y).env.scope xi := by intro ψ; first | exact Or.inl rfl | exact Or.inr (Or.inl rfl) | exact Or.inr (Or.inr rfl)) (vj : ∀ y, Vis (X y).env.scope xj := by intro ψ; first | exact Or.inl rfl | exact Or.inr (Or.inl rfl) | exact Or.inr (Or.inr rfl)) (di : (xi == ("__debug__" : Str)) = false := by decide) (dj : (xj == ("__debug__" : Str)) = false := by decide) (ci : (xi == ("__classdict__" : Str)) = false := by decide) (cj : (xj == ("__classdict__" : Str)) = false := by decide) :
  QT X W m E (.Compare (.Name xj p) [.In] [.Name xi p2] pos) (tfB (eRIn j i)) :=
 ⟨_, fun y => pt_cmp (pc_din (by have := cx.hu y; omega) (pe_var (nj y) (vj y) dj cj) (pe_var (ni y) (vi y) di ci)) hm, dt_b (de_rIn w h1 h2 h3 h4).b⟩
theorem qs_rPut {jj} (i j : Nat) (w : DrW W) (cx : Ctx X W E) (h1 : i ∉ m.B := by decide) (h2 : i ∉ m.M := by decide) (h3 : j ∉ m.B := by decide) (h4 : j ∉ m.M := by decide) (ni : ∀ y, (X y).N[i]? = some xi := by intro ψ; rfl) (nj : ∀ y, (X y).N[j]? = some xj := by intro ψ; rfl)
  (vi : ∀ y, Vis (X y).env.scope xi := by intro ψ; first | exact Or.inl rfl | exact Or.inr (Or.inl rfl) | exact Or.inr (Or.inr rfl)) (vj : ∀ y, Vis (X y).env.scope xj := by intro ψ; first | exact Or.inl rfl | exact Or.inr (Or.inl rfl) | exact Or.inr (Or.inr rfl))
  (di : (xi == ("__debug__" : Str)) = false := by decide) (dj : (xj == ("__debug__" : Str)) = false := by decide) (ci : (xi == ("__classdict__" : Str)) = false := by decide) (cj : (xj == ("__classdict__" : Str)) = false := by decide)
  (hs : ∀ y, swapsWith (.Constant (.bool true) jj p3) (some (.Subscript (.Name xi p) (.Name xj p2) tp)) pos.line (X y).env = pure false := by intro ψ; rfl) :
  QS X W m E (.Assign [.Subscript (.Name xi p) (.Name xj p2) tp] (.Constant (.bool true) jj p3) pos) (sRPt i j) :=
 ⟨_, fun y => ps_dput (by have := cx.hu y; omega) (pe_var (ni y) (vi y) di ci) (pe_var (nj y) (vj y) dj cj) pe_bl (hs y), ds_rPut (fun ψ ψ ψ q => q) w h1 h2 h3 h4⟩
end
section
variable {i j : Nat} {ρ : En} {ω : Om}
theorem eRIn_ap : eRIn j i ρ ω = match rowU ρ[j]? with
 | some r => if isP ρ[i]? = true then .ok (.bl (decide (r ∈ rowsD ω.cs ω.rs))) ω else .stk
 | none => .stk := rfl
theorem rowU_t {r : List Int} : rowU (some (some (uRow r))) = some r := by show asInts (r.map U.int) = _; exact asInts_map r
theorem rowU_t' {r : List Int} : rowU (some (some (.tup (r.map U.int)))) = some r := rowU_t
theorem sRPt_enc {r : List Int} {rows : List (List Int)} (h1 : rowU ρ[j]? = some r) (h2 : isP ρ[i]? = true) (h3 : r ∉ rows) (h4 : rows.length < 1000000) : sRPt i j ρ (encR rows) = .nx ρ (encR (rows ++ [r])) := by
 have e := rowsD_enc (rows ++ [r])
 rw [enc_snoc] at e ⊢
 unfold sRPt
 rw [h1]
 simp only
 rw [rowsD_enc]
 rw [if_pos ⟨h2, h3, e, h4⟩]
end
section
variable {W : Wd} {m : Md} {E : XK} {tr : TA} {fr : Af} {c : Bool}
theorem RBs.twoF {Hc H : Hp} {u u' : U} {vs : List V} (h : RBs W Hc H [false, false] [u, u'] vs) : ∃ v v', vs = [v, v'] ∧ RU W Hc u v ∧ RU W Hc u' v' := by
 match vs, h with
 | [], h => unfold RBs at h; exact h.elim
 | [v], h => unfold RBs at h; have h2 := h.2; unfold RBs at h2; exact h2.elim
 | [v, w], h => unfold RBs at h; have h2 := h.2; unfold RBs at h2; exact ⟨v, w, rfl, by simpa using h.1, by simpa using h2.1⟩
 | v :: w :: z :: r, h => unfold RBs at h; have h2 := h.2; unfold RBs at h2; have h3 := h2.2; unfold RBs at h3; exact h3.elim
theorem di_zipLf (hr : DA W m E [false, false] tr fr) : DI W m E c (iZipL W.K tr) (iArgs uZipL fr) := by
 intro H0 ρ ω σ Hc H ow S R h
 refine hr H0 ρ ω σ Hc H ow S _ ((Aft.bnd h).imp fun us ω1 Hc1 H1 e1 p1 h1 vs rs => ?_)
 revert h1
 cases hg : uZipL us with
 | none => exact fun h1 => h1.elim
 | some ws =>
  intro h1
  unfold uZipL at hg
  split at hg
  ·cases hg
   obtain ⟨v, v', rfl, rv, rv'⟩ := rs.twoF
   rw [RU] at rv rv'
   obtain ⟨a, vs, rfl, q, r⟩ := rv
   obtain ⟨b, xs, rfl, q', r'⟩ := rv'
   exact ⟨a, b, rfl, ⟨vs, .of (e1.sub _ _ q)⟩, ⟨xs, .of (e1.sub _ _ q')⟩, h1 Hc1 H1 (Ext.refl e1.sub) p1 _ (itzl_r r r' (fun Hc2 H2 s1 s2 ψ => s2 _ _ (s1 _ _ q)) (fun Hc2 H2 s1 s2 ψ => s2 _ _ (s1 _ _ q')))⟩
  ·cases hg
end
section
variable {ι : Type} {X : L2.FC ι} {W : Wd} {m : Md} {E : XK} {a b : Expr} {fr : Af} {p pos tp : Pos} {es : List Expr} {x1 : Nat} {c : Bool}
theorem qi_zipLf (cx : Ctx X W E) (B : Bl W.mg) (ha : QA X W m E [false, false] [a, b] fr) (hg : ∀ y, Gl (X y) "zip" := by intro ψ; rfl) (hs : ∀ y, starEach [a, b] (X y).env = [(false, eval a (X y).env), (false, eval b (X y).env)] := by intro ψ; rfl) (hs2 : ∀ y, starEach [b] (X y).env = [(false, eval b (X y).env)] := by intro ψ; rfl) : QI X W m E c (.Tuple es x1 tp) (.Call (.Name "zip" p) [a, b] [] pos) (iArgs uZipL fr) :=
 let ⟨_, pa, da⟩ := ha; ⟨_, fun y => pi_zipLK (cx.hK y) (pi_zipL (hg y) ((congrFun (cx.hm y) _).trans B.zip) (pa y) (hs y) (hs2 y)), di_zipLf da⟩
end
mutual
noncomputable def noL : U → Bool
 | .tup us => noLs us
 | .lst _ => false
 | .scr _ => false
 | .dic _ _ => false
 | .exc _ _ => false
 | .pile => false
 | _ => true
noncomputable def noLs : List U → Bool
 | [] => true
 | u :: us => noL u && noLs us
end
noncomputable def cutL (Hc : Hp) : Hp := fun a => match Hc a with
 | some (.tup xs) => some (.tup xs)
 | _ => none
theorem cutL_t {Hc : Hp} {a : Addr} {xs : List V} (h : Hc a = some (.tup xs)) : cutL Hc a = some (.tup xs) := by unfold cutL; rw [h]
theorem cutL_sub {Hc : Hp} : Same (cutL Hc) Hc := fun a o h => by
 unfold cutL at h
 cases q : Hc a with
 | none => rw [q] at h; cases h
 | some x =>
  rw [q] at h
  cases x with
  | tup xs => exact h
  | _ => cases h
theorem cutL_l {Hc : Hp} {a : Addr} {xs : List V} (h : cutL Hc a = some (.lst xs)) : False := by
 unfold cutL at h
 cases q : Hc a with
 | none => rw [q] at h; cases h
 | some x =>
  rw [q] at h
  cases x with
  | _ => cases h
mutual
theorem RU.cut {W : Wd} {Hc : Hp} : ∀ (u : U) {v : V}, noL u = true → RU W Hc u v → RU W (cutL Hc) u v
 | .tup us, v, n, h => by
  rw [RU] at h ⊢
  obtain ⟨a, vs, e, q, r⟩ := h
  rw [noL] at n
  exact ⟨a, vs, e, cutL_t q, RUs.cut us n r⟩
 | .non, v, _, h => by rw [RU] at h ⊢; exact h
 | .bl _, v, _, h => by rw [RU] at h ⊢; exact h
 | .int _, v, _, h => by rw [RU] at h ⊢; exact h
 | .str _, v, _, h => by rw [RU] at h ⊢; exact h
 | .ty _, v, _, h => by rw [RU] at h ⊢; exact h
 | .nm _, v, _, h => by rw [RU] at h ⊢; exact h
 | .lst _, v, n, _ => by rw [noL] at n; cases n
 | .scr _, v, n, _ => by rw [noL] at n; cases n
 | .dic _ _, v, n, _ => by rw [noL] at n; cases n
 | .exc _ _, v, n, _ => by rw [noL] at n; cases n
 | .pile, v, n, _ => by rw [noL] at n; cases n
theorem RUs.cut {W : Wd} {Hc : Hp} : ∀ (us : List U) {vs : List V}, noLs us = true → RUs W Hc us vs → RUs W (cutL Hc) us vs
 | [], vs, _, h => by rw [RUs] at h ⊢; exact h
 | u :: us, vs, n, h => by
  rw [RUs] at h ⊢
  obtain ⟨v, r, e, h1, h2⟩ := h
  rw [noLs, Bool.and_eq_true] at n
  exact ⟨v, r, e, RU.cut u n.1 h1, RUs.cut us n.2 h2⟩
end
theorem RB.cut {W : Wd} {Hc H : Hp} {u : U} {v : V} (n : noL u = true) (h : RB W Hc H u v) : RB W (cutL Hc) H u v := by
 rcases h with h | ⟨a, o, rfl, nl, q, r⟩
 ·exact .inl (RU.cut u n h)
 ·cases u with
  | lst us => rw [noL] at n; cases n
  | dic ks us => rw [noL] at n; cases n
  | _ => exact r.elim
theorem RBs.cut {W : Wd} {Hc H : Hp} : ∀ {bs : List Bool} {us : List U} {vs : List V}, noLs us = true → RBs W Hc H bs us vs → RBs W (cutL Hc) H bs us vs
 | b :: bs, u :: us, v :: vs, n, h => by
  rw [noLs, Bool.and_eq_true] at n
  unfold RBs at h ⊢
  refine ⟨?_, RBs.cut n.2 h.2⟩
  cases b with
  | true => rw [if_pos rfl] at *; exact RB.cut n.1 h.1
  | false => rw [if_neg Bool.false_ne_true] at *; exact RU.cut u n.1 h.1
 | [], [], [], _, h => h
 | [], _ :: _, _, _, h => by unfold RBs at h; exact h.elim
 | [], [], _ :: _, _, h => by unfold RBs at h; exact h.elim
 | _ :: _, [], _, _, h => by unfold RBs at h; exact h.elim
 | _ :: _, _ :: _, [], _, h => by unfold RBs at h; exact h.elim
section
variable {W : Wd} {ω : Om} {Hc1 H1 Hc' H' : Hp}
noncomputable def joinH (Hc1 Hc' : Hp) : Hp := fun x => match Hc1 x with
 | some o => some o
 | none => Hc' x
theorem joinH_l {x : Addr} {o : HO} (h : Hc1 x = some o) : joinH Hc1 Hc' x = some o := by unfold joinH; rw [h]
theorem joinH_n {x : Addr} (h : Hc1 x = none) : joinH Hc1 Hc' x = Hc' x := by unfold joinH; rw [h]
theorem joinH_r (s : Same Hc1 H1) (p : PlOk W ω Hc1 H1) (e : Ext W (cutL Hc1) H1 Hc' H') : Same Hc' (joinH Hc1 Hc') := fun x o h => by
 cases q : Hc1 x with
 | none => rw [joinH_n q]; exact h
 | some o' =>
  have nl : x ∉ W.L := fun z => by rw [(p.out x z).1] at q; cases q
  have h1 := e.same x o' nl (s _ _ q)
  have h2 := e.sub x o h
  rw [h1] at h2; cases h2
  exact joinH_l q
theorem joinH_ext (s : Same Hc1 H1) (p : PlOk W ω Hc1 H1) (e : Ext W (cutL Hc1) H1 Hc' H') : Ext W Hc1 H1 (joinH Hc1 Hc') H' := by
 refine ⟨e.same, fun x o h => joinH_l h, fun x o h => ?_, fun x h k => ?_, e.frz⟩
 ·cases q : Hc1 x with
  | none => rw [joinH_n q] at h; exact e.sub x o h
  | some o' =>
   rw [joinH_l q] at h; cases h
   exact e.same x _ (fun z => by rw [(p.out x z).1] at q; cases q) (s _ _ q)
 ·rw [joinH_n h]
  refine e.new x ?_ k
  cases q : cutL Hc1 x with
  | none => rfl
  | some o => rw [cutL_sub x o q] at h; cases h
theorem cutL_pl (p : PlOk W ω Hc1 H1) : PlOk W ω (cutL Hc1) H1 := by
 refine ⟨p.pl, fun b hb => ⟨?_, (p.out b hb).2⟩⟩
 cases q : cutL Hc1 b with
 | none => rfl
 | some o => have := cutL_sub b o q; rw [(p.out b hb).1] at this; cases this
theorem joinH_pl {ω' : Om} (p : PlOk W ω Hc1 H1) (p' : PlOk W ω' Hc' H') : PlOk W ω' (joinH Hc1 Hc') H' := ⟨p'.pl, fun b hb => ⟨by rw [joinH_n (p.out b hb).1]; exact (p'.out b hb).1, (p'.out b hb).2⟩⟩
end
theorem XR.mono {Hc Hc' : Hp} {pl : Option Int} {od : Option Addr} (s : Same Hc Hc') (h : XR Hc pl od) : XR Hc' pl od := by
 cases pl with
 | none => exact h
 | some n => obtain ⟨d, e, q⟩ := h; exact ⟨d, e, s _ _ q⟩
theorem thaw_fresh {W : Wd} {Hc1 H1 Hc' H' : Hp} {a : Addr} {va : List V} (e : Ext W (cutL Hc1) H1 Hc' H') (q : Hc' a = some (.lst va)) : H1 a = none := by
 have c0 : cutL Hc1 a = none := by
  cases z : cutL Hc1 a with
  | none => rfl
  | some o => have := e.sc a o z; rw [q] at this; cases this; exact (cutL_l z).elim
 cases z : H1 a with
 | none => rfl
 | some o => have := e.new a c0 (by rw [z]; simp); rw [q] at this; cases this
noncomputable def less1 (J : Hp) (a : Addr) : Hp := fun z => if z = a then none else J z
theorem Ext.less1 {W : Wd} {Hc1 H1 J H' : Hp} {a : Addr} (e : Ext W Hc1 H1 J H') (s : Same Hc1 H1) (fa : H1 a = none) : Ext W Hc1 H1 (L2.less1 J a) H' := by
 refine ⟨e.same, fun z o h => ?_, fun z o h => ?_, fun z h k => ?_, e.frz⟩
 ·have h1 := s z o h
  unfold L2.less1
  rw [if_neg (fun y => by rw [y, fa] at h1; cases h1)]
  exact e.sc z o h
 ·unfold L2.less1 at h
  split at h
  ·cases h
  ·exact e.sub z o h
 ·unfold L2.less1
  split
  ·rfl
  ·exact e.new z h k
theorem PlOk.less1 {W : Wd} {ω : Om} {J H' : Hp} {a : Addr} (p : PlOk W ω J H') : PlOk W ω (L2.less1 J a) H' := ⟨p.pl, fun z hz => ⟨by unfold L2.less1; split; rfl; exact (p.out z hz).1, (p.out z hz).2⟩⟩
inductive Tw where
 | l (x : U) (us : List U) | n (x : U) | no
noncomputable def asTw : U → Tw
 | .tup [x, .lst us] => .l x us
 | .tup [x, .non] => .n x
 | _ => .no
noncomputable def twP (i j : Nat) (ρ : En) (ω : Om) : Tw → Fl
 | .l x us => if (noL x && noLs us) = true then .nx ((ρ.set i (some x)).set j (some (.lst us))) ω else .stk
 | .n x => if noL x = true then .nx ((ρ.set i (some x)).set j none) ω else .stk
 | .no => .stk
noncomputable def twN (i j : Nat) (ρ : En) : Res U → Fl
 | .ok u ω => twP i j ρ ω (asTw u)
 | .err c p ω => .err c p ω
 | .stk => .stk
noncomputable def twA (F : Ff) : Ff := fun us ω => if noLs us = true then F us ω else .stk
noncomputable def sTw (i j : Nat) (F : Ff) (fr : Af) : Sf := fun ρ ω => twN i j ρ ((fr ρ ω).bnd (twA F))
theorem asTw_l {u x : U} {us : List U} (h : asTw u = .l x us) : u = .tup [x, .lst us] := by
 unfold asTw at h
 split at h
 ·cases h; rfl
 ·cases h
 ·cases h
theorem asTw_n {u x : U} (h : asTw u = .n x) : u = .tup [x, .non] := by
 unfold asTw at h
 split at h
 ·cases h
 ·cases h; rfl
 ·cases h
section
variable {W : Wd} {m : Md} {E : XK} {K : L2.Fg} {mg : L2.SV} {wk : Wd → Prop} {bs : List Bool} {F : Ff} {tr : TA} {fr : Af}
theorem ds_tw {i j : Nat} (hK : W.K = K) (hm : W.mg = mg) (hw : wk W) (hr : DA W m E bs tr fr) (hj : j ∈ m.M) (bj : j ∉ m.B) (hi : i ∉ m.M) (bi : i ∉ m.B) (ij : i ≠ j) : DS W m E (tAsg (tCall (spU K mg wk bs.length bs F) [] E tr) (gTup K 2 (gCons (gName i) (gCons (gName j) gNil)))) (sTw i j F fr) := by
 intro H0 Hc0 ρ ω σ Hc H ow S x D h
 unfold sTw at h
 refine rd_call (hr H0 ρ ω σ Hc H ow S _ ?_)
 revert h
 cases fr ρ ω with
 | stk => exact fun h => h.elim
 | err c pl ω1 => exact fun h C od Hc' H' e p hm hx => h C od Hc' H' (x.trans e) p hm hx
 | ok us ω1 =>
  intro h Hc1 H1 e1 p1 vs rs
  replace h : Cont W m E Hc0 H0 D (twN i j ρ (twA F us ω1)) := h
  unfold twA at h
  by_cases n : noLs us = true
  ·rw [if_pos n] at h
   refine ⟨W, us, ω1, cutL Hc1, hK, hm, hw, rs.len.1, fun a o q => e1.sub a o (cutL_sub a o q), cutL_pl p1, rs.cut n, ?_⟩
   revert h
   cases F us ω1 with
   | stk => exact fun h => h.elim
   | err c pl ω2 => exact fun h C od Hc' H' e p hm hx => h C od _ H' (x.trans (e1.trans (joinH_ext e1.sub p1 e))) (joinH_pl p1 p) hm (hx.mono (joinH_r e1.sub p1 e))
   | ok u ω2 =>
    intro h Hc' H' e p v rv
    replace h : Cont W m E Hc0 H0 D (twP i j ρ ω2 (asTw u)) := h
    have S1 := S.ext e1 p1
    cases q : asTw u with
    | no => rw [q] at h; exact h.elim
    | n xx =>
     rw [q] at h
     have := asTw_n q
     subst this
     replace h : Cont W m E Hc0 H0 D (if noL xx = true then .nx ((ρ.set i (some xx)).set j none) ω2 else .stk) := h
     by_cases c : noL xx = true
     ·rw [if_pos c] at h
      rw [RU] at rv
      obtain ⟨p0, xs, rfl, hp, rr⟩ := rv
      rw [RUs] at rr
      obtain ⟨xa, r1, rfl, ha, rr⟩ := rr
      rw [RUs] at rr
      obtain ⟨xb, r2, rfl, hb, rr⟩ := rr
      rw [RUs] at rr
      subst rr
      have EJ := joinH_ext e1.sub p1 e
      have pJ := joinH_pl p1 p
      have S2 := S1.ext EJ pJ
      have S3 := S2.set (i := i) bi hi (ha.mono (joinH_r e1.sub p1 e))
      have S4 := S3.drop (i := j) (some xb)
      exact ⟨p0, _, rfl, .of (e.sub _ _ hp), rfl, _, _, rfl, _, _, rfl, rfl, h _ _ _ _ S4 (x.trans (e1.trans EJ))⟩
     ·rw [if_neg c] at h; exact h.elim
    | l xx ua =>
     rw [q] at h
     have := asTw_l q
     subst this
     replace h : Cont W m E Hc0 H0 D (if (noL xx && noLs ua) = true then .nx ((ρ.set i (some xx)).set j (some (.lst ua))) ω2 else .stk) := h
     by_cases c : (noL xx && noLs ua) = true
     ·rw [if_pos c] at h
      simp only [Bool.and_eq_true] at c
      obtain ⟨nx, na⟩ := c
      rw [RU] at rv
      obtain ⟨p0, xs, rfl, hp, rr⟩ := rv
      rw [RUs] at rr
      obtain ⟨xa, r1, rfl, ha, rr⟩ := rr
      rw [RUs] at rr
      obtain ⟨xb, r2, rfl, hb, rr⟩ := rr
      rw [RUs] at rr
      subst rr
      rw [RU] at hb
      obtain ⟨a, va, rfl, qa, ra⟩ := hb
      have fa := thaw_fresh e qa
      have EJ := (joinH_ext e1.sub p1 e).less1 e1.sub fa
      have pJ := (joinH_pl p1 p).less1 (a := a)
      have S2 := S1.ext EJ pJ
      have low : H0 a = none := by
       cases z : H0 a with
       | none => rfl
       | some o =>
        have nl : a ∉ W.L := fun y => (p1.out a y).2 fa
        have := S1.s0 a o nl z
        rw [fa] at this; cases this
      have sm : Same (cutL Hc') (less1 (joinH Hc1 Hc') a) := fun z o y => by
       have y' := cutL_sub z o y
       have za : z ≠ a := fun w => by rw [w] at y; rw [w, qa] at y'; cases y'; exact cutL_l y
       unfold less1
       rw [if_neg za]
       exact joinH_r e1.sub p1 e z o y'
      have S3 := S2.set (i := i) bi hi ((RU.cut xx nx ha).mono sm)
      have S4 := S3.own (i := j) (a := a) (us := ua) (vs := va) hj bj (by unfold less1; rw [if_pos rfl]) low (e.sub _ _ qa) ((RUs.cut ua na ra).mono sm) (fun k w hk ne hw z => by
       have hki : k ≠ i := fun y => hi (y ▸ hk)
       rw [List.getElem?_set_ne (Ne.symm hki)] at hw
       obtain ⟨_, _, z3, _⟩ := S1.mu k w hk hw
       rw [z, fa] at z3; cases z3)
      exact ⟨p0, _, rfl, .of (e.sub _ _ hp), rfl, _, _, rfl, _, _, rfl, rfl, h _ _ _ _ S4 (x.trans (e1.trans EJ))⟩
     ·rw [if_neg c] at h; exact h.elim
  ·rw [if_neg n] at h; exact h.elim
end
section
variable {ι : Type} {X : L2.FC ι} {W : Wd} {m : Md} {E : XK} {a : Expr} {es : List Expr} {bs : List Bool} {fr : Af} {x xi xj : Str} {p pos p1 p2 q1 tp : Pos}
theorem qs_tw {k k2 : Nat} {f' : Addr} {fd : FuncData} {ps : List Str} {wk : Wd → Prop} {F : Ff} (i j : Nat) (cx : Ctx X W E) (hN : ∀ y, (X y).N.Nodup) (C : ∀ y, Fn (X y).prog (X y).w (X y).K (X y).mg (X y).base (CX1 (X y).prog (X y).w) k x f' fd ps (spU W.K W.mg wk bs.length bs F)) (hr : ∀ y, Room k (X y).A) (hw : wk W) (ha : QA X W m E bs (a :: es) fr)
  (hj : j ∈ m.M := by decide) (bj : j ∉ m.B := by decide) (hi : i ∉ m.M := by decide) (bi : i ∉ m.B := by decide) (ij : i ≠ j := by decide)
  (hg : ∀ y, Gl (X y) x := by intro ψ; rfl) (hd : (x == ("__debug__" : Str)) = false := by decide) (hs : ∀ y, starEach (a :: es) (X y).env = (false, eval a (X y).env) :: starEach es (X y).env := by intro ψ; rfl) (hp : ∀ y, (backTo pos (starEach es (X y).env)).any (·.1) = false := by intro ψ; rfl)
  (ni : ∀ y, (X y).N[i]? = some xi := by intro ψ; rfl) (nj : ∀ y, (X y).N[j]? = some xj := by intro ψ; rfl)
  (li : ∀ y, Loc (X y).env.scope xi := by intro ψ; first | exact Or.inl rfl | exact Or.inr rfl) (lj : ∀ y, Loc (X y).env.scope xj := by intro ψ; first | exact Or.inl rfl | exact Or.inr rfl)
  (fi : ∀ y, (X y).fn xi = true ∨ (X y).env.scope.names.lookup xi = some .local := by intro ψ; first | exact .inl rfl | exact .inr rfl) (fj : ∀ y, (X y).fn xj = true ∨ (X y).env.scope.names.lookup xj = some .local := by intro ψ; first | exact .inl rfl | exact .inr rfl)
  (s1 : ∀ y, swapsWithSole [.Tuple [.Name xi p1, .Name xj p2] k2 tp] (.Call (.Name x p) (a :: es) [] pos) q1.line (X y).env = pure false := by intro ψ; rfl) (s2 : ∀ y, swappedStores [.Tuple [.Name xi p1, .Name xj p2] k2 tp] (.Call (.Name x p) (a :: es) [] pos) (X y).env = pure none := by intro ψ; rfl) (s3 : ∀ y, (assignEach [.Tuple [.Name xi p1, .Name xj p2] k2 tp] (X y).env).map (·.2) = [assign (.Tuple [.Name xi p1, .Name xj p2] k2 tp) (X y).env] := by intro ψ; rfl)
  (e1 : ∀ y, (assignEach [.Name xi p1, .Name xj p2] (X y).env).map (·.2) = assign (.Name xi p1) (X y).env :: (assignEach [.Name xj p2] (X y).env).map (·.2) := by intro ψ; rfl) (e2 : ∀ y, (assignEach [.Name xj p2] (X y).env).map (·.2) = assign (.Name xj p2) (X y).env :: (assignEach [] (X y).env).map (·.2) := by intro ψ; rfl)
  (hn : ∀ y, (assignEach [.Name xi p1, .Name xj p2] (X y).env).length = 2 := by intro ψ; rfl) (hst : ∀ y, (assignEach [.Name xi p1, .Name xj p2] (X y).env).findIdx? (·.1) = none := by intro ψ; rfl) :
  QS X W m E (.Assign [.Tuple [.Name xi p1, .Name xj p2] k2 tp] (.Call (.Name x p) (a :: es) [] pos) q1) (sTw i j F fr) := by
 obtain ⟨_, pa, da⟩ := ha
 exact ⟨_, fun y => ps_asg (pe_call (C y).F (hr y) (hg y) (C y).hm (C y).kp (C y).hb .nil (cx.ps y) (pa y) hd (hs y) (hp y)) (pg_tupK (cx.hK y) (cx.calm y) (pgs_cons (pg_name (hN y) (ni y) (li y) (fi y)) (pgs_cons (pg_name (hN y) (nj y) (lj y) (fj y)) pgs_nil (e2 y)) (e1 y)) (hn y) (hst y)) (s1 y) (s2 y) (s3 y), ds_tw rfl rfl hw da hj bj hi bi ij⟩
end
section
variable {ρ : En} {ω : Om} {F : Ff} {fr : Af} {i j : Nat} {u x : U} {us : List U}
theorem sTw_ap : sTw i j F fr ρ ω = twN i j ρ ((fr ρ ω).bnd (twA F)) := rfl
theorem twA_ap : twA F us ω = if noLs us = true then F us ω else .stk := rfl
theorem twN_ok : twN i j ρ (.ok u ω) = twP i j ρ ω (asTw u) := rfl
theorem asTw_tl : asTw (.tup [x, .lst us]) = .l x us := rfl
theorem asTw_tn : asTw (.tup [x, .non]) = .n x := rfl
theorem twP_l : twP i j ρ ω (.l x us) = if (noL x && noLs us) = true then .nx ((ρ.set i (some x)).set j (some (.lst us))) ω else .stk := rfl
theorem twP_n : twP i j ρ ω (.n x) = if noL x = true then .nx ((ρ.set i (some x)).set j none) ω else .stk := rfl
theorem noLs_ints : ∀ ns : List Int, noLs (ns.map U.int) = true
 | [] => rfl
 | x :: ns => by rw [List.map_cons, noLs, noLs_ints ns]; rfl
theorem noLs_rows : ∀ rs : List (List Int), noLs (rs.map uRow) = true
 | [] => rfl
 | r :: rs => by rw [List.map_cons, noLs, uRow, noL, noLs_ints, noLs_rows rs]; rfl
end
section
variable {W : Wd} {m : Md} {E : XK} {i k : Nat} {tt : TT} {ft : Tf} {te : TE} {fe : Ef} {tn : TS}
theorem ds_forI (hi : i ∈ m.M) (bk : k ∉ m.B) (mk : k ∉ m.M) (hB : ∀ i ∈ m.M, i ∉ m.B) (ht : DT W m E tt ft) (he : DE W ⟨m.B, []⟩ E te fe) (hn : ∀ (D : Ends) σ H, D.nx σ H → tn D σ H) :
  DS W m E (tFor (iSeq W.K (tVar i)) (gName k) (tIfS tt (tRet te) tn)) (sFor (iOf (eVar i)) (aName k) (sIf ft (sRet fe) sNext)) := by
 intro H0 Hc0 ρ ω σ Hc H ow S x D h
 unfold sFor at h
 cases q : ρ[i]? with
 | none => rw [show iOf (eVar i) ρ ω = .stk by unfold iOf eVar; rw [q]; rfl] at h; exact h.elim
 | some o =>
  cases o with
  | none => rw [show iOf (eVar i) ρ ω = .stk by unfold iOf eVar; rw [q]; rfl] at h; exact h.elim
  | some u =>
   obtain ⟨ob, z2, z3, z4, z5, z6⟩ := S.mu i u hi q
   cases u with
   | dic ks us => rw [show iOf (eVar i) ρ ω = .stk by unfold iOf eVar; rw [q]; rfl] at h; exact h.elim
   | lst us =>
    obtain ⟨vs, e0, r0⟩ := z6
    subst e0
    rw [show iOf (eVar i) ρ ω = .ok us ω by unfold iOf eVar; rw [q]; rfl] at h
    replace h : Cont W m E Hc0 H0 D (forU (stepU (aName k) (sIf ft (sRet fe) sNext)) us ρ ω) := h
    refine ⟨_, z2, ow i, rfl, .inl ⟨⟨vs, .of z3⟩, ?_⟩⟩
    refine ⟨fun j n σ' H' => n = us.length - j ∧ j ≤ us.length ∧ ∃ ρ' ω' Hc', Sr W m ρ' ω' σ' H0 Hc' H' ow ∧ Ext W Hc0 H0 Hc' H' ∧ ρ'[i]? = some (some (.lst us)) ∧ Cont W m E Hc0 H0 D (forU (stepU (aName k) (sIf ft (sRet fe) sNext)) (us.drop j) ρ' ω'), ⟨us.length, by simp, Nat.zero_le _, ρ, ω, Hc, S, x, q, h⟩, ?_⟩
    rintro j n σ2 H2 ⟨rfl, hle, ρ2, ω2, Hc2, S2, x2, q2, k2⟩
    obtain ⟨us', vs2, e0, y2, y3, y4, y5, y6⟩ := S2.muL i us hi q2
    cases e0
    by_cases lt : j < us.length
    ·have hx : us[j]? = some us[j] := by simp [lt]
     obtain ⟨v, hv, rv⟩ := y6.at (i := 0) hx
     rw [drop_cons hx] at k2
     refine .inr ⟨⟨vs2, v, .of y3, hv⟩, fun σ' H' => j + 1 ≤ us.length ∧ ∃ ρ' ω' Hc', Sr W m ρ' ω' σ' H0 Hc' H' ow ∧ Ext W Hc0 H0 Hc' H' ∧ ρ'[i]? = some (some (.lst us)) ∧ Cont W m E Hc0 H0 D (forU (stepU (aName k) (sIf ft (sRet fe) sNext)) (us.drop (j + 1)) ρ' ω'), fun σ' H' hq => ⟨_, by omega, rfl, hq.1, hq.2⟩, fun y H3 hy => ?_⟩
     obtain ⟨rfl, hy⟩ := hy
     have e := hy vs2 (.of y3)
     rw [hv] at e
     cases e
     refine dg_name bk mk H0 ρ2 ω2 σ2 Hc2 _ ow us[j] v (ρ2.set k (some us[j])) S2 rv rfl _ fun σ' S' => ?_
     have ik : i ≠ k := fun z => mk (z ▸ hi)
     have q3 : (ρ2.set k (some us[j]))[i]? = some (some (.lst us)) := by rw [List.getElem?_set_ne (Ne.symm ik)]; exact q2
     unfold forU stepU aName sIf at k2
     simp only at k2
     refine ht H0 _ ω2 σ' Hc2 _ ow S' _ ?_
     revert k2
     cases hft : ft (ρ2.set k (some us[j])) ω2 with
     | stk => exact fun k2 => k2
     | err c pl ω3 => exact fun k2 C od Hc3 H3 e3 p3 hm hx => k2 C od Hc3 H3 (x2.trans e3) p3 hm hx
     | ok b ω3 =>
      intro k2 Hc3 H3 e3 p3
      have S3 := S'.ext e3 p3
      have x3 := x2.trans e3
      cases b with
      | false =>
       exact hn _ _ _ ⟨lt, _, ω3, Hc3, S3, x3, q3, k2⟩
      | true =>
       refine ds_ret hB he H0 Hc0 _ ω3 σ' Hc3 H3 ow S3 x3 _ ?_
       revert k2
       unfold sRet
       simp only [Fl.of_ok, if_true]
       cases fe (ρ2.set k (some us[j])) ω3 with
       | ok u ω4 => exact fun k2 => k2
       | err c pl ω4 => exact fun k2 => k2
       | stk => exact fun k2 => k2
    ·have e : j = us.length := by omega
     subst e
     rw [List.drop_length] at k2
     exact .inl ⟨⟨vs2, .of y3, by rw [← y6.len]; exact Nat.le_refl _⟩, k2 σ2 Hc2 H2 ow S2 x2⟩
   | _ => exact z6.elim
noncomputable def sClr (j : Nat) : Sf := fun ρ ω => match ρ[j]? with
 | some (some (.lst _)) => .nx (ρ.set j (some (.lst []))) ω
 | _ => .stk
theorem ds_clr {K : L2.Fg} {j : Nat} (hj : j ∈ m.M) : DS W m E (tDrop (tBM0 K "list" rClear (tVar j))) (sClr j) := by
 intro H0 Hc0 ρ ω σ Hc H ow S x D h
 unfold sClr at h
 split at h
 ·rename_i ws e
  obtain ⟨us0, vs0, z1, z2, z3, z4, z5, z6⟩ := S.muL j _ hj e
  cases z1
  exact ⟨_, z2, .inl ⟨rfl, vs0, .of z3⟩, ow j, vs0, rfl, rfl, z3, h _ Hc _ ow (S.mut hj e .nil) (S.mutE hj e x)⟩
 ·exact h.elim
end
noncomputable def rEqTL (K : L2.Fg) : R2 := fun x y H Q => ∃ a b p q la lb xs ys ds es, x = .ref a ∧ y = .ref b ∧ SqT K H a [.str p, .ref la] ∧ SqT K H b [.str q, .ref lb] ∧ SqL K H la xs ∧ SqL K H lb ys ∧ DVs K H ds xs ∧ DVs K H es ys ∧ D.depths ds ≤ 40 ∧ ds.length = es.length ∧ Q (.bl (decide (p = q) && D.eqs ds es)) H
section
variable {X : Cx}
theorem op_eqTL (hu : X.A.units + 64 < cLine) : OpR X (compareOp .Eq) (rEqTL X.K) := by
 intro pins s σ H x y v u Q I rx ry h
 obtain ⟨a, b, p, q, la, lb, xs, ys, ds, es, rfl, rfl, ha, hb, hla, hlb, hxs, hys, hd, hlen, k⟩ := h
 cases rx; cases ry
 obtain ⟨its, r1, pt, _⟩ := I.tuple ha
 obtain ⟨its2, r2, pt2, _⟩ := I.tuple hb
 obtain ⟨u1, u2, rfl, ru1, ru2⟩ := r1.two
 obtain ⟨w1, w2, rfl, rw1, rw2⟩ := r2.two
 cases ru2; cases rw2
 obtain ⟨ls1, s1, lp1, _⟩ := I.list hla
 obtain ⟨ls2, s2, lp2, _⟩ := I.list hlb
 have l1 := hxs.length; have l2 := hys.length; have l3 := s1.length; have l4 := s2.length
 refine SeqAt.eq_tupleAt (e := fun j => if j = 0 then decide (p = q) else D.eqs ds es) (show s.heap.IsTuple a [u1, .ref la].toArray from pt) (show s.heap.IsTuple b [w1, .ref lb].toArray from pt2) (by lia) (fun j h1 h2 => ?_) ⟨.bl _, H, I, rfl, ?_⟩
 ·have hj : j = 0 ∨ j = 1 := by simp at h1; lia
  rcases hj with rfl | rfl
  ·have := eqAt_V (A := X.A.in1) (s := s) ru1 rw1 rfl rfl
   have e : eqV (.str p) (.str q) = decide (p = q) := by unfold eqV; rfl
   rw [e] at this
   exact this
  ·show SeqAt.EqAt X.A.in1 s (.ref la) (.ref lb) (D.eqs ds es)
   by_cases hab : la = lb
   ·subst hab
    have e1 := I.list_inj hla hlb
    subst e1
    rw [sames_D I ds es xs hxs hys]
    exact SeqAt.EqAt.same _
   ·refine SeqAt.EqAt.of_refs hab ?_
    have e := eqs_all ds es
    have key := SeqAt.RcAt.lists (A := X.A.in1) (e := fun j => D.eq (ds.getD j .non) (es.getD j .non)) lp1.isList lp2.isList (by simp; lia) (by rw [units_in1]; lia) fun j h1 h2 => eqsAt_D I ds es X.A.in1.in1 xs ys ls1 ls2 s1 s2 hxs hys (by rw [units_in1, units_in1]; lia) j (by simpa using h1) (by simpa using h2)
    rw [show min ds.length es.length = ls1.toArray.size by rw [List.size_toArray]; lia, show (ds.length == es.length) = true by rw [beq_iff_eq]; lia, Bool.and_true] at e
    rw [e]
    exact key
 ·simpa [List.range_succ] using k
end
noncomputable def uEqTL : U → U → Option U
 | .tup [.str p, .lst a], .tup [.str q, .lst b] => (U.toDs a).bind fun d => (U.toDs b).bind fun e => if D.depths d ≤ 40 ∧ d.length = e.length then some (.bl (decide (p = q) && D.eqs d e)) else none
 | _, _ => none
section
variable {W : Wd}
theorem ou_eqTL : OpU W (rEqTL W.K) uEqTL := by
 intro Hc H ω u1 u2 x y s p rx ry u e Q k
 unfold uEqTL at e
 split at e
 ·rename_i p1 a1 q1 b1
  obtain ⟨a, vs, rfl, h1, r1⟩ := rx.tup
  obtain ⟨b, ws, rfl, h2, r2⟩ := ry.tup
  rw [RUs] at r1 r2
  obtain ⟨v1, t1, rfl, rv1, r1⟩ := r1
  obtain ⟨w1, t2, rfl, rw1, r2⟩ := r2
  rw [RUs] at r1 r2
  obtain ⟨v2, t1, rfl, rv2, r1⟩ := r1
  obtain ⟨w2, t2, rfl, rw2, r2⟩ := r2
  rw [RUs] at r1 r2
  subst r1 r2
  rw [RU] at rv1
  rw [RU] at rw1
  rw [RU] at rv2
  rw [RU] at rw2
  subst rv1 rw1
  obtain ⟨la, xs, rfl, hla, rxs⟩ := rv2
  obtain ⟨lb, ys, rfl, hlb, rys⟩ := rw2
  cases q1' : U.toDs a1 with
  | none => rw [q1'] at e; exact noS e
  | some d1 =>
   cases q2' : U.toDs b1 with
   | none => rw [q1', q2'] at e; exact noS e
   | some e1 =>
    rw [q1', q2'] at e
    simp only [Option.bind_some] at e
    split at e
    ·rename_i c
     cases e
     exact ⟨a, b, p1, q1, la, lb, xs, ys, d1, e1, rfl, rfl, .of (s _ _ h1), .of (s _ _ h2), .of (s _ _ hla), .of (s _ _ hlb), toDs_r q1' (rxs.mono s), toDs_r q2' (rys.mono s), c.1, c.2, k _ Hc H (Ext.refl s) p .bl⟩
    ·cases e
 ·cases e
theorem op_eqTLK {X : Cx} {K : L2.Fg} (h : X.K = K) (hu : X.A.units + 64 < cLine) : OpR X (compareOp .Eq) (rEqTL K) := h ▸ op_eqTL hu
end
section
variable {ι : Type} {X : L2.FC ι} {W : Wd} {m : Md} {E : XK} {a b c e : Expr} {fa fb : Ef} {ft : Tf} {fe : Ef} {pos p p1 p2 q1 q2 : Pos} {x x2 : Str}
theorem qe_eqTL (cx : Ctx X W E) (ha : QB X W m E a fa) (hb : QB X W m E b fb) : QE X W m E (.Compare a [.Eq] [b] pos) (eOp uEqTL fa fb) := qe_cmp (fun y => op_eqTLK (cx.hK y) (cx.hu y)) ou_eqTL (nomark _) ha hb
theorem qs_clr {apos cpos : Pos} (i : Nat) (cx : Ctx X W E) (h2 : i ∈ m.M := by decide) (hN : ∀ y, (X y).N[i]? = some x := by intro ψ; rfl) (hv : ∀ y, Vis (X y).env.scope x := by intro ψ; first | exact Or.inl rfl | exact Or.inr (Or.inl rfl) | exact Or.inr (Or.inr rfl)) (hd : (x == ("__debug__" : Str)) = false := by decide) (hcd : (x == ("__classdict__" : Str)) = false := by decide)
  (hline : (apos.endLine == cpos.line) = true := by rfl) (hbase : ∀ y, attributeBase (.Name x p) "clear" (X y).env (eval (.Name x p) (X y).env) = eval (.Name x p) (X y).env := by intro ψ; rfl)
  (hs : ∀ y, swapsWith (.Call (.Attribute (.Name x p) "clear" apos) [] [] cpos) none pos.line (X y).env = pure false := by intro ψ; rfl) : QS X W m E (.Expr (.Call (.Attribute (.Name x p) "clear" apos) [] [] cpos) pos) (sClr i) :=
 ⟨_, fun y => ps_bm0K (cx.hK y) (ps_expr (pe_bm0 PySem.F.plainAttrs_list PySem.F.slot_list_clear PySem.F.type_list_clear mt_clear (pe_var (hN y) (hv y) hd hcd) (hbase y) hline) (hs y)), ds_clr h2⟩
theorem qs_forI (i k : Nat) (cx : Ctx X W E) (hN : ∀ y, (X y).N.Nodup) (pw : ∀ y, PassesOwn (model (X y).prog (X y).w) (X y).A (X y).env (X y).xe) (ht : QT X W m E c ft) (he : QE X W ⟨m.B, []⟩ E e fe) (hi : i ∈ m.M := by decide) (bk : k ∉ m.B := by decide) (mk : k ∉ m.M := by decide) (hB : ∀ i ∈ m.M, i ∉ m.B := by decide)
  (ni : ∀ y, (X y).N[i]? = some x := by intro ψ; rfl) (hv : ∀ y, Vis (X y).env.scope x := by intro ψ; first | exact Or.inl rfl | exact Or.inr (Or.inl rfl) | exact Or.inr (Or.inr rfl)) (hd : (x == ("__debug__" : Str)) = false := by decide) (hcd : (x == ("__classdict__" : Str)) = false := by decide)
  (nk : ∀ y, (X y).N[k]? = some x2 := by intro ψ; rfl) (lk : ∀ y, Loc (X y).env.scope x2 := by intro ψ; first | exact Or.inl rfl | exact Or.inr rfl) (fk : ∀ y, (X y).fn x2 = true ∨ (X y).env.scope.names.lookup x2 = some .local := by intro ψ; first | exact .inl rfl | exact .inr rfl)
  (hs : ∀ y v, foldedSetIterable (.Name x p1) (X y).env v = pure v := by intro ψ ψ; rfl) : QS X W m E (.For (.Name x2 p2) (.Name x p1) [.If c [.Return (some e) q2] [] q1] [] pos) (sFor (iOf (eVar i)) (aName k) (sIf ft (sRet fe) sNext)) :=
 let ⟨_, pt, dt⟩ := ht; let ⟨_, pe, de⟩ := he
 ⟨_, fun y => ps_for (pw y) (cx.calm y) (pi_seq (cx.hK y) (pe_var (ni y) (hv y) hd hcd)) (pg_name (hN y) (nk y) (lk y) (fk y)) (pss_one (ps_if (pt y) (pss_one (ps_ret (pe y))) pss_nil)) (hs y), ds_forI hi bk mk hB dt de fun ψ ψ ψ q => q⟩
end
section
variable {j : Nat} {ρ : En} {ω : Om}
theorem sClr_ap : sClr j ρ ω = match ρ[j]? with
 | some (some (.lst _)) => .nx (ρ.set j (some (.lst []))) ω
 | _ => .stk := rfl
end
end L2
namespace My
open PySem L2 PyProof.Rows
set_option maxHeartbeats 4000000
section EvBlock
noncomputable def top (i : Nat) : Stmt := PySem.Challenge.pw_mixedscales_k36_closed_rounds.main.body.getD i (.Pass ⟨0, 0, 0, 0⟩)
noncomputable def wkT (_ : Wd) : Prop := True
noncomputable def tabN : List (Str × Str × Bool) := [(("NoEnd" : Str), ("NoEnd" : Str), true), (("NoEnd" : Str), ("NoAsk" : Str), false), (("NoEnd" : Str), ("NoDigit" : Str), false), (("NoEnd" : Str), ("NoOrder" : Str), false), (("NoEnd" : Str), ("NoPlace" : Str), false), (("NoEnd" : Str), ("TooGreat" : Str), false), (("NoEnd" : Str), ("TooSmall" : Str), false), (("TooGreat" : Str), ("NoEnd" : Str), false), (("TooGreat" : Str), ("NoAsk" : Str), false), (("TooGreat" : Str), ("NoDigit" : Str), false), (("TooGreat" : Str), ("NoOrder" : Str), false), (("TooGreat" : Str), ("NoPlace" : Str), false), (("TooGreat" : Str), ("TooGreat" : Str), true), (("TooGreat" : Str), ("TooSmall" : Str), false)]
noncomputable def tabT : List (Str × String × Bool) := [("NoEnd", "ValueError", true), ("TooGreat", "ValueError", true)]
structure Tx (K : L2.Fg) (mg : L2.SV) : Prop where
 t : True
 x_NoEnd : XOk K mg "NoEnd"
 x_TooGreat : XOk K mg "TooGreat"
 m_NoEnd : ∃ C : Addr, mg "NoEnd" = some (.ref C)
 m_NoAsk : ∃ C : Addr, mg "NoAsk" = some (.ref C)
 m_NoDigit : ∃ C : Addr, mg "NoDigit" = some (.ref C)
 m_NoOrder : ∃ C : Addr, mg "NoOrder" = some (.ref C)
 m_NoPlace : ∃ C : Addr, mg "NoPlace" = some (.ref C)
 m_TooGreat : ∃ C : Addr, mg "TooGreat" = some (.ref C)
 m_TooSmall : ∃ C : Addr, mg "TooSmall" = some (.ref C)
 m_ScaleError : ∃ C : Addr, mg "ScaleError" = some (.ref C)
 xn : XN K mg tabN
 xt : XT K mg tabT
 xc_ScaleError : ∃ B : Addr, mg "ScaleError" = some (.ref B) ∧ XC K mg B ["NoEnd", "TooGreat"]
section
variable {P : Program} {w : World} {K : L2.Fg} {mg : L2.SV} {base : Heap}
noncomputable abbrev s_q8 : Stmt := top 15
noncomputable abbrev N_q8 : List Str := ["bases", "product", "base"]
noncomputable abbrev p_q8 : List Str := ["bases"]
theorem sc_q8 : FnScope N_q8 p_q8 (defScope s_q8) := ⟨rfl, rfl, rfl, by decide +kernel, rfl, by decide +kernel, by decide +kernel⟩
noncomputable abbrev b_q8 : List Bool := [true]
noncomputable def B_q8_0 : Sf := (sAug 1 uMul (eVar 2))
noncomputable def g_q8 : Sf := (sSeq (sSet 1 (eC (.int 1)))
   (sSeq (sFor (iOf (eVar 0)) (aName 2) B_q8_0)
   (sRet (eVar 1))))
noncomputable def F_q8 : Ff := runU N_q8.length g_q8
theorem ok_q8 {f : Addr} {fd : FuncData} (F : Fun K "product_of" "product_of" s_q8 f fd) (B : Bl mg) (kt : Kt K) (T : Tx K mg)  : FnOk P w K mg base (CX1 P w) 1 f fd p_q8 (spU K mg wkT b_q8.length b_q8 F_q8) := by
 have nd := sc_q8.nd
 refine F.okQ (N := N_q8) (ps := p_q8) (bs := b_q8) (wk := wkT) (m := ⟨[0], []⟩) (g := g_q8) sc_q8 rfl rfl (by decide) fun cdv A outer s H E W hK hm hw hr hA => ?_
 subst hK; subst hm
 have cx := ctx_def (W := W) (P := P) (w := w) (base := base) (N := N_q8) (outer := outer) (H := H) (E := E) rfl rfl hr
 exact (qk_cons (qs_set 1 (fun ψ => nd) qe_int)
   (qk_cons (qs_for cx pw_def (qi_v 0 cx) (qg_name 2 (fun ψ => nd)) (qss_one (qs_aug 1 (fun ψ => nd) (fun ψ => iop_mulB) ou_mul (qb_var 2))))
   (qk_one (qs_ret (qe_var 1)))))
noncomputable abbrev s_q0 : Stmt := top 16
noncomputable abbrev N_q0 : List Str := ["bases", "step"]
noncomputable abbrev p_q0 : List Str := ["bases", "step"]
theorem sc_q0 : FnScope N_q0 p_q0 (defScope s_q0) := ⟨rfl, rfl, rfl, by decide +kernel, rfl, by decide +kernel, by decide +kernel⟩
noncomputable abbrev b_q0 : List Bool := [true, true]
noncomputable def g_q0 : Sf := (sIf (tfOr (tfB (eOp uLt (eVar 1) (eC (.int 0)))) (tfB (eOp uGe (eVar 1) (eCall F_q8 (aCons (eVar 0) aNil))))) (sRaise "TooGreat" (eC (.str "the round has no such step"))) sNext)
noncomputable def F_q0 : Ff := runU N_q0.length g_q0
theorem ok_q0 {f : Addr} {fd : FuncData} (F : Fun K "refuse_no_step" "refuse_no_step" s_q0 f fd) (B : Bl mg) (kt : Kt K) (T : Tx K mg) {a_q8 : Addr} {d_q8 : FuncData} (c_q8 : Fn P w K mg base (CX1 P w) 1 "product_of" a_q8 d_q8 p_q8 (spU K mg wkT b_q8.length b_q8 F_q8)) : FnOk P w K mg base (CX1 P w) 2 f fd p_q0 (spU K mg wkT b_q0.length b_q0 F_q0) := by
 have nd := sc_q0.nd
 refine F.okQ (N := N_q0) (ps := p_q0) (bs := b_q0) (wk := wkT) (m := ⟨[0, 1], []⟩) (g := g_q0) sc_q0 rfl rfl (by decide) fun cdv A outer s H E W hK hm hw hr hA => ?_
 subst hK; subst hm
 have cx := ctx_def (W := W) (P := P) (w := w) (base := base) (N := N_q0) (outer := outer) (H := H) (E := E) rfl rfl hr
 have hw_q8 : wkT W := trivial
 exact (qk_one (qs_if (QW.t (qw_or (qt_lt (qb_var 1) (QE.tb qe_int)) (qw_or1 (qt_ge (qb_var 1) (QE.tb (qe_call cx (fun ψ => c_q8) (fun ψ => hr.mono (by decide)) hw_q8 (qa_b (qb_var 0) qa_nil))))))) (qss_one (qs_raise hA rfl T.x_TooGreat (QE.tb qe_str))) qss_nil))
noncomputable abbrev s_q13 : Stmt := top 11
noncomputable abbrev N_q13 : List Str := ["base", "digit", "gone"]
noncomputable abbrev p_q13 : List Str := ["base", "digit", "gone"]
theorem sc_q13 : FnScope N_q13 p_q13 (defScope s_q13) := ⟨rfl, rfl, rfl, by decide +kernel, rfl, by decide +kernel, by decide +kernel⟩
noncomputable abbrev b_q13 : List Bool := [true, false, true]
noncomputable def g_q13 : Sf := (sRet (eIf (tfB (eOp uEq (eOp uMod (eVar 2) (eC (.int 2))) (eC (.int 0)))) (eVar 1) (eOp uSub (eOp uSub (eVar 0) (eC (.int 1))) (eVar 1))))
noncomputable def F_q13 : Ff := runU N_q13.length g_q13
theorem ok_q13 {f : Addr} {fd : FuncData} (F : Fun K "turned" "turned" s_q13 f fd) (B : Bl mg) (kt : Kt K) (T : Tx K mg)  : FnOk P w K mg base (CX1 P w) 1 f fd p_q13 (spU K mg wkT b_q13.length b_q13 F_q13) := by
 have nd := sc_q13.nd
 refine F.okQ (N := N_q13) (ps := p_q13) (bs := b_q13) (wk := wkT) (m := ⟨[0, 2], []⟩) (g := g_q13) sc_q13 rfl rfl (by decide) fun cdv A outer s H E W hK hm hw hr hA => ?_
 subst hK; subst hm
 have cx := ctx_def (W := W) (P := P) (w := w) (base := base) (N := N_q13) (outer := outer) (H := H) (E := E) rfl rfl hr
 exact (qk_one (qs_ret (qe_if (qt_eq cx (QE.tb (qe_mod (qb_var 2) (QE.tb qe_int))) (QE.tb qe_int)) (qe_var 1) (qe_sub (QE.tb (qe_sub (qb_var 0) (QE.tb qe_int))) (qb_var 1)))))
noncomputable abbrev s_q12 : Stmt := top 10
noncomputable abbrev N_q12 : List Str := ["bases", "step", "row", "gone", "base", "digit"]
noncomputable abbrev p_q12 : List Str := ["bases", "step"]
theorem sc_q12 : FnScope N_q12 p_q12 (defScope s_q12) := ⟨rfl, rfl, rfl, by decide +kernel, rfl, by decide +kernel, by decide +kernel⟩
noncomputable abbrev b_q12 : List Bool := [true, false]
noncomputable def B_q12_0 : Sf := (sSeq (sSet 5 (eOp uMod (eVar 3) (eVar 4)))
   (sSeq (sSet 3 (eOp uDiv (eVar 3) (eVar 4)))
   (sApp 2 (eCall F_q13 (aCons (eVar 4) (aCons (eVar 5) (aCons (eVar 3) aNil)))))))
noncomputable def g_q12 : Sf := (sSeq (sExpr (eCall F_q0 (aCons (eVar 0) (aCons (eVar 1) aNil))))
   (sSeq (sSet 2 (eLst aNil))
   (sSeq (sSet 3 (eVar 1))
   (sSeq (sFor (iOf (eVar 0)) (aName 4) B_q12_0)
   (sRet (eB uTuple (aCons (eVar 2) aNil)))))))
noncomputable def F_q12 : Ff := runU N_q12.length g_q12
theorem ok_q12 {f : Addr} {fd : FuncData} (F : Fun K "row_at" "row_at" s_q12 f fd) (B : Bl mg) (kt : Kt K) (T : Tx K mg) {a_q0 : Addr} {d_q0 : FuncData} (c_q0 : Fn P w K mg base (CX1 P w) 2 "refuse_no_step" a_q0 d_q0 p_q0 (spU K mg wkT b_q0.length b_q0 F_q0)) {a_q13 : Addr} {d_q13 : FuncData} (c_q13 : Fn P w K mg base (CX1 P w) 1 "turned" a_q13 d_q13 p_q13 (spU K mg wkT b_q13.length b_q13 F_q13)) : FnOk P w K mg base (CX1 P w) 3 f fd p_q12 (spU K mg wkT b_q12.length b_q12 F_q12) := by
 have nd := sc_q12.nd
 refine F.okQ (N := N_q12) (ps := p_q12) (bs := b_q12) (wk := wkT) (m := ⟨[0], [2]⟩) (g := g_q12) sc_q12 rfl rfl (by decide) fun cdv A outer s H E W hK hm hw hr hA => ?_
 subst hK; subst hm
 have cx := ctx_def (W := W) (P := P) (w := w) (base := base) (N := N_q12) (outer := outer) (H := H) (E := E) rfl rfl hr
 have hw_q0 : wkT W := trivial
 have hw_q13 : wkT W := trivial
 exact (qk_cons (qs_expr (QE.tb (qe_call cx (fun ψ => c_q0) (fun ψ => hr.mono (by decide)) hw_q0 (qa_b (qb_var 0) (qa_b (qb_var 1) qa_nil)))))
   (qk_cons (qs_own 2 (fun ψ => nd) (qf_lst qa_nil) (hs := fun ψ => sw_list))
   (qk_cons (qs_set 3 (fun ψ => nd) (qe_var 1))
   (qk_cons (qs_for cx pw_def (qi_v 0 cx) (qg_name 4 (fun ψ => nd)) (qss_cons (qs_set 5 (fun ψ => nd) (qe_mod (qb_var 3) (qb_var 4)) (hs := fun ψ => sw_binop))
   (qss_cons (qs_set 3 (fun ψ => nd) (qe_div (qb_var 3) (qb_var 4)) (hs := fun ψ => sw_binop))
   (qss_one (qs_app 2 cx (qe_call cx (fun ψ => c_q13) (fun ψ => hr.mono (by decide)) hw_q13 (qa_b (qb_var 4) (qa_e (qe_var 5) (qa_b (qb_var 3) qa_nil)))))))))
   (qk_one (qs_ret (qe_tuple cx B (qb_var 2))))))))
noncomputable abbrev s_q9 : Stmt := top 14
noncomputable abbrev N_q9 : List Str := ["row", "place", "digit"]
noncomputable abbrev p_q9 : List Str := ["row", "place", "digit"]
theorem sc_q9 : FnScope N_q9 p_q9 (defScope s_q9) := ⟨rfl, rfl, rfl, by decide +kernel, rfl, by decide +kernel, by decide +kernel⟩
noncomputable abbrev b_q9 : List Bool := [true, true, false]
noncomputable def g_q9 : Sf := (sRet (eOp uAdd (eOp uAdd (eSl uSl (eVar 0) pNo (pSome (eVar 1))) (eTup (aCons (eVar 2) aNil))) (eSl uSl (eVar 0) (pSome (eVar 1)) pNo)))
noncomputable def F_q9 : Ff := runU N_q9.length g_q9
theorem ok_q9 {f : Addr} {fd : FuncData} (F : Fun K "with_digit" "with_digit" s_q9 f fd) (B : Bl mg) (kt : Kt K) (T : Tx K mg)  : FnOk P w K mg base (CX1 P w) 1 f fd p_q9 (spU K mg wkT b_q9.length b_q9 F_q9) := by
 have nd := sc_q9.nd
 refine F.okQ (N := N_q9) (ps := p_q9) (bs := b_q9) (wk := wkT) (m := ⟨[0, 1], []⟩) (g := g_q9) sc_q9 rfl rfl (by decide) fun cdv A outer s H E W hK hm hw hr hA => ?_
 subst hK; subst hm
 have cx := ctx_def (W := W) (P := P) (w := w) (base := base) (N := N_q9) (outer := outer) (H := H) (E := E) rfl rfl hr
 exact (qk_one (qs_ret (qe_add cx (QE.tb (qe_add cx (QE.tb (qe_sl cx (qb_var 0) qp_none (qp_some (qb_var 1)))) (QE.tb (qe_tup (qa_e (qe_var 2) qa_nil))))) (QE.tb (qe_sl cx (qb_var 0) (qp_some (qb_var 1)) qp_none)))))
noncomputable abbrev s_q3 : Stmt := top 13
noncomputable abbrev N_q3 : List Str := ["bases", "even", "others", "way", "rows", "digit", "turn"]
noncomputable abbrev p_q3 : List Str := ["bases", "even"]
theorem sc_q3 : FnScope N_q3 p_q3 (defScope s_q3) := ⟨rfl, rfl, rfl, by decide +kernel, rfl, by decide +kernel, by decide +kernel⟩
noncomputable abbrev b_q3 : List Bool := [true, true]
noncomputable def B_q3_0 : Sf := (sSeq (sSet 6 (eComp (iOf (eSl uSl (eVar 3) (pSome (eC (.int 1))) pNo)) 1 [1, 5] (aName 0) tfTrue (eCall F_q9 (aCons (eVar 0) (aCons (eVar 1) (aCons (eVar 2) aNil))))))
   (sSeq (sIf (tfB (eOp uEq (eOp uMod (eVar 5) (eC (.int 2))) (eC (.int 1)))) (sRevM 6) sNext)
   (sExt 4 (eVar 6))))
noncomputable def B_q3_1 : Sf := (sApp 4 (eCall F_q9 (aCons (eOp uIx (eVar 3) (eC (.int 0))) (aCons (eVar 1) (aCons (eVar 5) aNil)))))
noncomputable def g_q3 : Sf := (sSeq (sSet 2 (eOp uAdd (eSl uSl (eVar 0) pNo (pSome (eVar 1))) (eSl uSl (eVar 0) (pSome (eOp uAdd (eVar 1) (eC (.int 1)))) pNo)))
   (sSeq (sSet 3 (eComp (iArgs uR1 (aCons (eCall F_q8 (aCons (eVar 2) aNil)) aNil)) 1 [2] (aName 0) tfTrue (eCall F_q12 (aCons (eVar 1) (aCons (eVar 0) aNil)))))
   (sSeq (sSet 4 (eLst (aCons (eCall F_q9 (aCons (eOp uIx (eVar 3) (eC (.int 0))) (aCons (eVar 1) (aCons (eC (.int 0)) aNil)))) aNil)))
   (sSeq (sFor (iArgs uR1 (aCons (eOp uIx (eVar 0) (eVar 1)) aNil)) (aName 5) B_q3_0)
   (sSeq (sFor (iArgs uR3 (aCons (eOp uSub (eOp uIx (eVar 0) (eVar 1)) (eC (.int 1))) (aCons (eC (.int 0)) (aCons (eUn uNeg (eC (.int 1))) aNil)))) (aName 5) B_q3_1)
   (sRet (eVar 4)))))))
noncomputable def F_q3 : Ff := runU N_q3.length g_q3
theorem ok_q3 {f : Addr} {fd : FuncData} (F : Fun K "round_along" "round_along" s_q3 f fd) (B : Bl mg) (kt : Kt K) (T : Tx K mg) {a_q12 : Addr} {d_q12 : FuncData} (c_q12 : Fn P w K mg base (CX1 P w) 3 "row_at" a_q12 d_q12 p_q12 (spU K mg wkT b_q12.length b_q12 F_q12)) {a_q9 : Addr} {d_q9 : FuncData} (c_q9 : Fn P w K mg base (CX1 P w) 1 "with_digit" a_q9 d_q9 p_q9 (spU K mg wkT b_q9.length b_q9 F_q9)) {a_q8 : Addr} {d_q8 : FuncData} (c_q8 : Fn P w K mg base (CX1 P w) 1 "product_of" a_q8 d_q8 p_q8 (spU K mg wkT b_q8.length b_q8 F_q8)) : FnOk P w K mg base (CX1 P w) 4 f fd p_q3 (spU K mg wkT b_q3.length b_q3 F_q3) := by
 have nd := sc_q3.nd
 refine F.okQ (N := N_q3) (ps := p_q3) (bs := b_q3) (wk := wkT) (m := ⟨[0, 1], [4, 6]⟩) (g := g_q3) sc_q3 rfl rfl (by decide) fun cdv A outer s H E W hK hm hw hr hA => ?_
 subst hK; subst hm
 have cx := ctx_def (W := W) (P := P) (w := w) (base := base) (N := N_q3) (outer := outer) (H := H) (E := E) rfl rfl hr
 have hw_q12 : wkT W := trivial
 have hw_q9 : wkT W := trivial
 have hw_q8 : wkT W := trivial
 exact (qk_cons (qs_set 2 (fun ψ => nd) (qe_add cx (QE.tb (qe_sl cx (qb_var 0) qp_none (qp_some (qb_var 1)))) (QE.tb (qe_sl cx (qb_var 0) (qp_some (QE.tb (qe_add cx (qb_var 1) (QE.tb qe_int)))) qp_none))) (hs := fun ψ => sw_binop))
   (qk_cons (qs_setC (bs := ["step"]) false 3 ⟨[], []⟩ cx nd (comp_ok rfl (by rfl) rfl (by rfl) (by rfl) (.cons rfl .nil) (.cons (j := 2) rfl (by first | exact .inl rfl | exact .inr rfl) rfl (by first | exact .inl rfl | exact .inr rfl) .nil)) (qi_r1 cx B (qa_b (QE.tb (qe_call cx (fun ψ => c_q8) (fun ψ => hr.mono (by decide)) hw_q8 (qa_b (qb_var 2) qa_nil))) qa_nil)) (qg_name 0 (fun ψ => (show (["step", "others"] : List Str).Nodup by decide +kernel))) qts_nil (qe_call cx.blk (fun ψ => c_q12) (fun ψ => hr.mono (by decide)) hw_q12 (qa_b (qb_var 1) (qa_e (qe_var 0) qa_nil))))
   (qk_cons (qs_own 4 (fun ψ => nd) (qf_lst (qa_e (qe_call cx (fun ψ => c_q9) (fun ψ => hr.mono (by decide)) hw_q9 (qa_b (QE.tb (qe_ix cx (qb_var 3) (QE.tb qe_int))) (qa_b (qb_var 1) (qa_e qe_int qa_nil)))) qa_nil)) (hs := fun ψ => sw_list))
   (qk_cons (qs_for cx pw_def (qi_r1 cx B (qa_b (QE.tb (qe_ix cx (qb_var 0) (qb_var 1))) qa_nil)) (qg_name 5 (fun ψ => nd)) (qss_cons (qs_setC (bs := ["row"]) true 6 ⟨[1], []⟩ cx nd (comp_ok rfl (by rfl) rfl (by rfl) (by rfl) (.cons rfl (.cons rfl .nil)) (.cons (j := 1) rfl (by first | exact .inl rfl | exact .inr rfl) rfl (by first | exact .inl rfl | exact .inr rfl) (.cons (j := 5) rfl (by first | exact .inl rfl | exact .inr rfl) rfl (by first | exact .inl rfl | exact .inr rfl) .nil))) (qi_e cx (qe_sl cx (qb_var 3) (qp_some (QE.tb qe_int)) qp_none)) (qg_name 0 (fun ψ => (show (["row", "even", "digit"] : List Str).Nodup by decide +kernel))) qts_nil (qe_call cx.blk (fun ψ => c_q9) (fun ψ => hr.mono (by decide)) hw_q9 (qa_b (qb_var 0) (qa_b (qb_var 1) (qa_e (qe_var 2) qa_nil)))))
   (qss_cons (qs_if (qt_eq cx (QE.tb (qe_mod (qb_var 5) (QE.tb qe_int))) (QE.tb qe_int)) (qss_one (qs_reverse 6 cx)) qss_nil)
   (qss_one (qs_extend 4 cx (qb_var 6))))))
   (qk_cons (qs_for cx pw_def (qi_r3 cx B (qa_b (QE.tb (qe_sub (QE.tb (qe_ix cx (qb_var 0) (qb_var 1))) (QE.tb qe_int))) (qa_b (QE.tb qe_int) (qa_b (QE.tb (qe_neg (QE.tb qe_int))) qa_nil)))) (qg_name 5 (fun ψ => nd)) (qss_one (qs_app 4 cx (qe_call cx (fun ψ => c_q9) (fun ψ => hr.mono (by decide)) hw_q9 (qa_b (QE.tb (qe_ix cx (qb_var 3) (QE.tb qe_int))) (qa_b (qb_var 1) (qa_e (qe_var 5) qa_nil)))))))
   (qk_one (qs_ret (qe_var 4))))))))
noncomputable abbrev s_q1 : Stmt := top 12
noncomputable abbrev N_q1 : List Str := ["bases", "evens"]
noncomputable abbrev p_q1 : List Str := ["bases"]
theorem sc_q1 : FnScope N_q1 p_q1 (defScope s_q1) := ⟨rfl, rfl, rfl, by decide +kernel, rfl, by decide +kernel, by decide +kernel⟩
noncomputable abbrev b_q1 : List Bool := [true]
noncomputable def g_q1 : Sf := (sSeq (sIf (tfB (eOp uEq (eB uLen (aCons (eVar 0) aNil)) (eC (.int 0)))) (sRet (eLst (aCons (eTup aNil) aNil))) sNext)
   (sSeq (sIf (tfB (eOp uEq (eVar 0) (eTup (aCons (eC (.int 2)) aNil)))) (sRet (eLst (aCons (eTup (aCons (eC (.int 0)) aNil)) (aCons (eTup (aCons (eC (.int 1)) aNil)) aNil)))) sNext)
   (sSeq (sSet 1 (eComp (iArgs uEnum (aCons (eVar 0) aNil)) 2 [] (aTup 2 (aConsT (aName 0) (aConsT (aName 1) aNilT))) (tfB (eOp uEq (eOp uMod (eVar 1) (eC (.int 2))) (eC (.int 0)))) (eVar 0)))
   (sSeq (sIf (tfOr (tfB (eOp uEq (eB uLen (aCons (eVar 0) aNil)) (eC (.int 1)))) (tfB (eOp uEq (eB uLen (aCons (eVar 1) aNil)) (eC (.int 0))))) (sRaise "NoEnd" (eC (.str "no round of these bases closes"))) sNext)
   (sRet (eCall F_q3 (aCons (eVar 0) (aCons (eOp uIx (eVar 1) (eC (.int 0))) aNil))))))))
noncomputable def F_q1 : Ff := runU N_q1.length g_q1
theorem ok_q1 {f : Addr} {fd : FuncData} (F : Fun K "closed_round" "closed_round" s_q1 f fd) (B : Bl mg) (kt : Kt K) (T : Tx K mg) {a_q3 : Addr} {d_q3 : FuncData} (c_q3 : Fn P w K mg base (CX1 P w) 4 "round_along" a_q3 d_q3 p_q3 (spU K mg wkT b_q3.length b_q3 F_q3)) : FnOk P w K mg base (CX1 P w) 5 f fd p_q1 (spU K mg wkT b_q1.length b_q1 F_q1) := by
 have nd := sc_q1.nd
 refine F.okQ (N := N_q1) (ps := p_q1) (bs := b_q1) (wk := wkT) (m := ⟨[0], []⟩) (g := g_q1) sc_q1 rfl rfl (by decide) fun cdv A outer s H E W hK hm hw hr hA => ?_
 subst hK; subst hm
 have cx := ctx_def (W := W) (P := P) (w := w) (base := base) (N := N_q1) (outer := outer) (H := H) (E := E) rfl rfl hr
 have hw_q3 : wkT W := trivial
 exact (qk_cons (qs_if (qt_eq cx (QE.tb (qe_len cx B (qb_var 0))) (QE.tb qe_int)) (qss_one (qs_ret (QF.te (qf_lst (qa_e (qe_tup qa_nil) qa_nil))))) qss_nil)
   (qk_cons (qs_if (qt_eq cx (qb_var 0) (QE.tb (qe_tup (qa_e qe_int qa_nil)))) (qss_one (qs_ret (QF.te (qf_lst (qa_e (qe_tup (qa_e qe_int qa_nil)) (qa_e (qe_tup (qa_e qe_int qa_nil)) qa_nil)))))) qss_nil)
   (qk_cons (qs_setC (bs := ["place", "base"]) false 1 ⟨[], []⟩ cx nd (comp_ok rfl (by rfl) rfl (by rfl) (by rfl) .nil .nil) (qi_enum cx B (qa_b (qb_var 0) qa_nil)) (qg_tup (n := 2) cx.blk (qgs_cons (qg_name 0 (fun ψ => (show (["place", "base"] : List Str).Nodup by decide +kernel))) (qgs_cons (qg_name 1 (fun ψ => (show (["place", "base"] : List Str).Nodup by decide +kernel))) qgs_nil))) (qts_one (qt_eq cx.blk (QE.tb (qe_mod (qb_var 1) (QE.tb qe_int))) (QE.tb qe_int))) (qe_var 0))
   (qk_cons (qs_if (QW.t (qw_or (qt_eq cx (QE.tb (qe_len cx B (qb_var 0))) (QE.tb qe_int)) (qw_or1 (qt_eq cx (QE.tb (qe_len cx B (qb_var 1))) (QE.tb qe_int))))) (qss_one (qs_raise hA rfl T.x_NoEnd (QE.tb qe_str))) qss_nil)
   (qk_one (qs_ret (qe_call cx (fun ψ => c_q3) (fun ψ => hr.mono (by decide)) hw_q3 (qa_b (qb_var 0) (qa_b (QE.tb (qe_ix cx (qb_var 1) (QE.tb qe_int))) qa_nil)))))))))
noncomputable abbrev s_q2 : Stmt := top 18
noncomputable abbrev N_q2 : List Str := ["script", "k", "cells", "size", "cell", "turn", "rest", "step", "seed"]
noncomputable abbrev p_q2 : List Str := ["script", "k"]
theorem sc_q2 : FnScope N_q2 p_q2 (defScope s_q2) := ⟨rfl, rfl, rfl, by decide +kernel, rfl, by decide +kernel, by decide +kernel⟩
noncomputable abbrev b_q2 : List Bool := [true, true]
noncomputable def B_q2_0 : Sf := (sSet 6 (eOp uDiv (eVar 6) (eC (.int 1000000))))
noncomputable def g_q2 : Sf := (sSeq (sSet 2 (eOp uAdd (eB uList (aCons (eVar 0) aNil)) (eLst (aCons (eC (.int 0)) aNil))))
   (sSeq (sSet 3 (eB uMax2 (aCons (eC (.int 1)) (aCons (eB uLen (aCons (eVar 0) aNil)) aNil))))
   (sSeq (sSet 4 (eOp uIx (eVar 2) (eOp uMod (eVar 1) (eVar 3))))
   (sSeq (sSet 5 (eOp uDiv (eVar 1) (eVar 3)))
   (sSeq (sSet 6 (eVar 4))
   (sSeq (sFor (iArgs uR1 (aCons (eB uMin2 (aCons (eVar 5) (aCons (eC (.int 60)) aNil))) aNil)) (aName 7) B_q2_0)
   (sSeq (sIf (tfAnd (tfB (eOp uGe (eVar 4) (eOp uPow (eC (.int 10)) (eC (.int 18))))) (tfAnd (tfB (eOp uLt (eVar 5) (eC (.int 60)))) (tfB (eOp uGt (eVar 6) (eC (.int 0)))))) (sRet (eOp uMod (eVar 6) (eC (.int 1000000)))) sNext)
   (sSeq (sSet 8 (eOp uMod (eOp uMul (eOp uAdd (eOp uAdd (eOp uAdd (eOp uMod (eVar 4) (eC (.int 2147483629))) (eC (.int 977))) (eOp uMul (eC (.int 104729)) (eVar 5))) (eOp uMul (eC (.int 15485863)) (eVar 1))) (eC (.int 48271))) (eC (.int 2147483647))))
   (sSeq (sSet 8 (eOp uMod (eOp uAdd (eOp uAdd (eOp uMul (eVar 8) (eVar 8)) (eOp uMul (eC (.int 7919)) (eVar 5))) (eOp uMul (eC (.int 31)) (eVar 1))) (eC (.int 2147483587))))
   (sRet (eOp uMod (eOp uDiv (eOp uMod (eOp uMul (eVar 8) (eC (.int 69621))) (eC (.int 2147483563))) (eC (.int 64))) (eC (.int 1000000)))))))))))))
noncomputable def F_q2 : Ff := runU N_q2.length g_q2
theorem ok_q2 {f : Addr} {fd : FuncData} (F : Fun K "_law_number" "_law_number" s_q2 f fd) (B : Bl mg) (kt : Kt K) (T : Tx K mg)  : FnOk P w K mg base (CX1 P w) 1 f fd p_q2 (spU K mg wkT b_q2.length b_q2 F_q2) := by
 have nd := sc_q2.nd
 refine F.okQ (N := N_q2) (ps := p_q2) (bs := b_q2) (wk := wkT) (m := ⟨[0, 1], []⟩) (g := g_q2) sc_q2 rfl rfl (by decide) fun cdv A outer s H E W hK hm hw hr hA => ?_
 subst hK; subst hm
 have cx := ctx_def (W := W) (P := P) (w := w) (base := base) (N := N_q2) (outer := outer) (H := H) (E := E) rfl rfl hr
 exact (qk_cons (qs_set 2 (fun ψ => nd) (qe_add cx (QF.tb (qf_list cx B (qb_var 0))) (QF.tb (qf_lst (qa_e qe_int qa_nil)))) (hs := fun ψ => sw_binop))
   (qk_cons (qs_set 3 (fun ψ => nd) (qe_max2 cx B (qa_b (QE.tb qe_int) (qa_b (QE.tb (qe_len cx B (qb_var 0))) qa_nil))))
   (qk_cons (qs_set 4 (fun ψ => nd) (qe_ix cx (qb_var 2) (QE.tb (qe_mod (qb_var 1) (qb_var 3)))) (hs := fun ψ => sw_sub))
   (qk_cons (qs_set 5 (fun ψ => nd) (qe_div (qb_var 1) (qb_var 3)) (hs := fun ψ => sw_binop))
   (qk_cons (qs_set 6 (fun ψ => nd) (qe_var 4))
   (qk_cons (qs_for cx pw_def (qi_r1 cx B (qa_b (QE.tb (qe_min2 cx B (qa_b (qb_var 5) (qa_b (QE.tb qe_int) qa_nil)))) qa_nil)) (qg_name 7 (fun ψ => nd)) (qss_one (qs_set 6 (fun ψ => nd) (qe_div (qb_var 6) (QE.tb qe_int)) (hs := fun ψ => sw_binop))))
   (qk_cons (qs_if (QW.t (qw_and (qt_ge (qb_var 4) (QE.tb (qe_pow (QE.tb qe_int) (QE.tb qe_int)))) (qw_and (qt_lt (qb_var 5) (QE.tb qe_int)) (qw_and1 (qt_gt (qb_var 6) (QE.tb qe_int)))))) (qss_one (qs_ret (qe_mod (qb_var 6) (QE.tb qe_int)))) qss_nil)
   (qk_cons (qs_set 8 (fun ψ => nd) (qe_mod (QE.tb (qe_mul (QE.tb (qe_add cx (QE.tb (qe_add cx (QE.tb (qe_add cx (QE.tb (qe_mod (qb_var 4) (QE.tb qe_int))) (QE.tb qe_int))) (QE.tb (qe_mul (QE.tb qe_int) (qb_var 5))))) (QE.tb (qe_mul (QE.tb qe_int) (qb_var 1))))) (QE.tb qe_int))) (QE.tb qe_int)) (hs := fun ψ => sw_binop))
   (qk_cons (qs_set 8 (fun ψ => nd) (qe_mod (QE.tb (qe_add cx (QE.tb (qe_add cx (QE.tb (qe_mul (qb_var 8) (qb_var 8))) (QE.tb (qe_mul (QE.tb qe_int) (qb_var 5))))) (QE.tb (qe_mul (QE.tb qe_int) (qb_var 1))))) (QE.tb qe_int)) (hs := fun ψ => sw_binop))
   (qk_one (qs_ret (qe_mod (QE.tb (qe_div (QE.tb (qe_mod (QE.tb (qe_mul (qb_var 8) (QE.tb qe_int))) (QE.tb qe_int))) (QE.tb qe_int))) (QE.tb qe_int)))))))))))))
noncomputable abbrev s_q5 : Stmt := top 19
noncomputable abbrev N_q5 : List Str := ["script", "start", "most", "found", "rows", "head", "k", "base"]
noncomputable abbrev p_q5 : List Str := ["script", "start", "most"]
theorem sc_q5 : FnScope N_q5 p_q5 (defScope s_q5) := ⟨rfl, rfl, rfl, by decide +kernel, rfl, by decide +kernel, by decide +kernel⟩
noncomputable abbrev b_q5 : List Bool := [true, true, true]
noncomputable def B_q5_0 : Sf := (sSeq (sSet 7 (eOp uAdd (eC (.int 2)) (eOp uMod (eCall F_q2 (aCons (eVar 0) (aCons (eOp uAdd (eOp uAdd (eVar 1) (eC (.int 1))) (eVar 6)) aNil))) (eOp uIx (eLst (aCons (eC (.int 8)) (aCons (eC (.int 2)) aNil))) (eB uInt (aCons (eOp uEq (eOp uMod (eOp uDiv (eVar 5) (eC (.int 5))) (eC (.int 4))) (eC (.int 2))) aNil))))))
   (sSeq (sIf (tfB (eOp uGt (eOp uMul (eVar 4) (eVar 7)) (eVar 2))) (sSet 7 (eOp uAdd (eC (.int 2)) (eOp uMod (eCall F_q2 (aCons (eVar 0) (aCons (eOp uAdd (eOp uAdd (eVar 1) (eC (.int 1))) (eVar 6)) aNil))) (eC (.int 2))))) sNext)
   (sIf (tfB (eOp uLe (eOp uMul (eVar 4) (eVar 7)) (eVar 2))) (sSeq (sApp 3 (eVar 7))
   (sSet 4 (eOp uMul (eVar 4) (eVar 7)))) sNext)))
noncomputable def g_q5 : Sf := (sSeq (sSet 3 (eLst aNil))
   (sSeq (sSet 4 (eC (.int 1)))
   (sSeq (sSet 5 (eCall F_q2 (aCons (eVar 0) (aCons (eVar 1) aNil))))
   (sSeq (sFor (iArgs uR1 (aCons (eOp uIx (eLst (aCons (eOp uAdd (eC (.int 1)) (eOp uMod (eVar 5) (eC (.int 5)))) (aCons (eOp uAdd (eC (.int 6)) (eOp uMod (eOp uDiv (eVar 5) (eC (.int 20))) (eC (.int 3)))) aNil))) (eB uInt (aCons (eOp uEq (eOp uMod (eOp uDiv (eVar 5) (eC (.int 5))) (eC (.int 4))) (eC (.int 2))) aNil))) aNil)) (aName 6) B_q5_0)
   (sRet (eB uTuple (aCons (eVar 3) aNil)))))))
noncomputable def F_q5 : Ff := runU N_q5.length g_q5
theorem ok_q5 {f : Addr} {fd : FuncData} (F : Fun K "_law_bases" "_law_bases" s_q5 f fd) (B : Bl mg) (kt : Kt K) (T : Tx K mg) {a_q2 : Addr} {d_q2 : FuncData} (c_q2 : Fn P w K mg base (CX1 P w) 1 "_law_number" a_q2 d_q2 p_q2 (spU K mg wkT b_q2.length b_q2 F_q2)) : FnOk P w K mg base (CX1 P w) 2 f fd p_q5 (spU K mg wkT b_q5.length b_q5 F_q5) := by
 have nd := sc_q5.nd
 refine F.okQ (N := N_q5) (ps := p_q5) (bs := b_q5) (wk := wkT) (m := ⟨[0, 1, 2], [3]⟩) (g := g_q5) sc_q5 rfl rfl (by decide) fun cdv A outer s H E W hK hm hw hr hA => ?_
 subst hK; subst hm
 have cx := ctx_def (W := W) (P := P) (w := w) (base := base) (N := N_q5) (outer := outer) (H := H) (E := E) rfl rfl hr
 have hw_q2 : wkT W := trivial
 exact (qk_cons (qs_own 3 (fun ψ => nd) (qf_lst qa_nil) (hs := fun ψ => sw_list))
   (qk_cons (qs_set 4 (fun ψ => nd) qe_int)
   (qk_cons (qs_set 5 (fun ψ => nd) (qe_call cx (fun ψ => c_q2) (fun ψ => hr.mono (by decide)) hw_q2 (qa_b (qb_var 0) (qa_b (qb_var 1) qa_nil))))
   (qk_cons (qs_for cx pw_def (qi_r1 cx B (qa_b (QE.tb (qe_ix cx (QF.tb (qf_lst (qa_e (qe_add cx (QE.tb qe_int) (QE.tb (qe_mod (qb_var 5) (QE.tb qe_int)))) (qa_e (qe_add cx (QE.tb qe_int) (QE.tb (qe_mod (QE.tb (qe_div (qb_var 5) (QE.tb qe_int))) (QE.tb qe_int)))) qa_nil)))) (QE.tb (qe_toint cx B (QE.tb (qe_eq cx (QE.tb (qe_mod (QE.tb (qe_div (qb_var 5) (QE.tb qe_int))) (QE.tb qe_int))) (QE.tb qe_int))))))) qa_nil)) (qg_name 6 (fun ψ => nd)) (qss_cons (qs_set 7 (fun ψ => nd) (qe_add cx (QE.tb qe_int) (QE.tb (qe_mod (QE.tb (qe_call cx (fun ψ => c_q2) (fun ψ => hr.mono (by decide)) hw_q2 (qa_b (qb_var 0) (qa_b (QE.tb (qe_add cx (QE.tb (qe_add cx (qb_var 1) (QE.tb qe_int))) (qb_var 6))) qa_nil)))) (QE.tb (qe_ix cx (QF.tb (qf_lst (qa_e qe_int (qa_e qe_int qa_nil)))) (QE.tb (qe_toint cx B (QE.tb (qe_eq cx (QE.tb (qe_mod (QE.tb (qe_div (qb_var 5) (QE.tb qe_int))) (QE.tb qe_int))) (QE.tb qe_int)))))))))) (hs := fun ψ => sw_binop))
   (qss_cons (qs_if (qt_gt (QE.tb (qe_mul (qb_var 4) (qb_var 7))) (qb_var 2)) (qss_one (qs_set 7 (fun ψ => nd) (qe_add cx (QE.tb qe_int) (QE.tb (qe_mod (QE.tb (qe_call cx (fun ψ => c_q2) (fun ψ => hr.mono (by decide)) hw_q2 (qa_b (qb_var 0) (qa_b (QE.tb (qe_add cx (QE.tb (qe_add cx (qb_var 1) (QE.tb qe_int))) (qb_var 6))) qa_nil)))) (QE.tb qe_int)))) (hs := fun ψ => sw_binop))) qss_nil)
   (qss_one (qs_if (qt_le (QE.tb (qe_mul (qb_var 4) (qb_var 7))) (qb_var 2)) (qss_cons (qs_app 3 cx (qe_var 7))
   (qss_one (qs_set 4 (fun ψ => nd) (qe_mul (qb_var 4) (qb_var 7)) (hs := fun ψ => sw_binop)))) qss_nil)))))
   (qk_one (qs_ret (qe_tuple cx B (qb_var 3))))))))
noncomputable abbrev s_q10 : Stmt := top 20
noncomputable abbrev N_q10 : List Str := ["bases", "found", "base"]
noncomputable abbrev p_q10 : List Str := ["bases"]
theorem sc_q10 : FnScope N_q10 p_q10 (defScope s_q10) := ⟨rfl, rfl, rfl, by decide +kernel, rfl, by decide +kernel, by decide +kernel⟩
noncomputable abbrev b_q10 : List Bool := [true]
noncomputable def B_q10_0 : Sf := (sSet 1 (eOp uMul (eVar 1) (eVar 2)))
noncomputable def g_q10 : Sf := (sSeq (sSet 1 (eC (.int 1)))
   (sSeq (sFor (iOf (eVar 0)) (aName 2) B_q10_0)
   (sRet (eVar 1))))
noncomputable def F_q10 : Ff := runU N_q10.length g_q10
theorem ok_q10 {f : Addr} {fd : FuncData} (F : Fun K "_law_many" "_law_many" s_q10 f fd) (B : Bl mg) (kt : Kt K) (T : Tx K mg)  : FnOk P w K mg base (CX1 P w) 1 f fd p_q10 (spU K mg wkT b_q10.length b_q10 F_q10) := by
 have nd := sc_q10.nd
 refine F.okQ (N := N_q10) (ps := p_q10) (bs := b_q10) (wk := wkT) (m := ⟨[0], []⟩) (g := g_q10) sc_q10 rfl rfl (by decide) fun cdv A outer s H E W hK hm hw hr hA => ?_
 subst hK; subst hm
 have cx := ctx_def (W := W) (P := P) (w := w) (base := base) (N := N_q10) (outer := outer) (H := H) (E := E) rfl rfl hr
 exact (qk_cons (qs_set 1 (fun ψ => nd) qe_int)
   (qk_cons (qs_for cx pw_def (qi_v 0 cx) (qg_name 2 (fun ψ => nd)) (qss_one (qs_set 1 (fun ψ => nd) (qe_mul (qb_var 1) (qb_var 2)) (hs := fun ψ => sw_binop))))
   (qk_one (qs_ret (qe_var 1)))))
noncomputable abbrev s_q11 : Stmt := top 23
noncomputable abbrev N_q11 : List Str := ["one", "other", "apart"]
noncomputable abbrev p_q11 : List Str := ["one", "other"]
theorem sc_q11 : FnScope N_q11 p_q11 (defScope s_q11) := ⟨rfl, rfl, rfl, by decide +kernel, rfl, by decide +kernel, by decide +kernel⟩
noncomputable abbrev b_q11 : List Bool := [true, true]
noncomputable def g_q11 : Sf := (sSeq (sSet 2 (eComp (iArgs uR1 (aCons (eB uLen (aCons (eVar 0) aNil)) aNil)) 1 [0, 1] (aName 0) tfTrue (eB uAbs (aCons (eOp uSub (eOp uIx (eVar 1) (eVar 0)) (eOp uIx (eVar 2) (eVar 0))) aNil))))
   (sRet (eAnd (eOp uEq (eSl uSl (eB uSorted (aCons (eVar 2) aNil)) (pSome (eUn uNeg (eC (.int 1)))) pNo) (eLst (aCons (eC (.int 1)) aNil))) (eOp uEq (eB uSumU (aCons (eVar 2) aNil)) (eC (.int 1))))))
noncomputable def F_q11 : Ff := runU N_q11.length g_q11
theorem ok_q11 {f : Addr} {fd : FuncData} (F : Fun K "_law_next" "_law_next" s_q11 f fd) (B : Bl mg) (kt : Kt K) (T : Tx K mg)  : FnOk P w K mg base (CX1 P w) 1 f fd p_q11 (spU K mg wkT b_q11.length b_q11 F_q11) := by
 have nd := sc_q11.nd
 refine F.okQ (N := N_q11) (ps := p_q11) (bs := b_q11) (wk := wkT) (m := ⟨[0, 1], []⟩) (g := g_q11) sc_q11 rfl rfl (by decide) fun cdv A outer s H E W hK hm hw hr hA => ?_
 subst hK; subst hm
 have cx := ctx_def (W := W) (P := P) (w := w) (base := base) (N := N_q11) (outer := outer) (H := H) (E := E) rfl rfl hr
 exact (qk_cons (qs_setC (bs := ["place"]) false 2 ⟨[1, 2], []⟩ cx nd (comp_ok rfl (by rfl) rfl (by rfl) (by rfl) (.cons rfl (.cons rfl .nil)) (.cons (j := 0) rfl (by first | exact .inl rfl | exact .inr rfl) rfl (by first | exact .inl rfl | exact .inr rfl) (.cons (j := 1) rfl (by first | exact .inl rfl | exact .inr rfl) rfl (by first | exact .inl rfl | exact .inr rfl) .nil))) (qi_r1 cx B (qa_b (QE.tb (qe_len cx B (qb_var 0))) qa_nil)) (qg_name 0 (fun ψ => (show (["place", "one", "other"] : List Str).Nodup by decide +kernel))) qts_nil (qe_abs cx.blk B (QE.tb (qe_sub (QE.tb (qe_ix cx.blk (qb_var 1) (qb_var 0))) (QE.tb (qe_ix cx.blk (qb_var 2) (qb_var 0)))))))
   (qk_one (qs_ret (qe_and (QE.tb (qe_eq cx (QE.tb (qe_sl cx (QF.tb (qf_sorted cx B (qb_var 2))) (qp_some (QE.tb (qe_neg (QE.tb qe_int)))) qp_none)) (QF.tb (qf_lst (qa_e qe_int qa_nil))))) (qe_one (qe_eq cx (QE.tb (qe_sumU cx B (qb_var 2))) (QE.tb qe_int)))))))
noncomputable abbrev s_q7 : Stmt := top 22
noncomputable abbrev N_q7 : List Str := ["bases", "rows", "met", "row", "one", "other"]
noncomputable abbrev p_q7 : List Str := ["bases", "rows"]
theorem sc_q7 : FnScope N_q7 p_q7 (defScope s_q7) := ⟨rfl, rfl, rfl, by decide +kernel, rfl, by decide +kernel, by decide +kernel⟩
noncomputable abbrev b_q7 : List Bool := [true, true]
noncomputable def B_q7_0 : Sf := (sSeq (sIf (tfOr (tfB (eOp uNe (eB uLen (aCons (eVar 3) aNil)) (eB uLen (aCons (eVar 0) aNil)))) (tfB (eRIn 3 2))) (sRet (eC (.bl false))) sNext)
   (sSeq (sIf (tfB (eOp uNe (eComp (iArgs uR1 (aCons (eB uLen (aCons (eVar 0) aNil)) aNil)) 1 [3, 0] (aName 0) (tfNot (tfB (eChain uLe uLt (eC (.int 0)) (eOp uIx (eVar 1) (eVar 0)) (eOp uIx (eVar 2) (eVar 0))))) (eVar 0)) (eLst aNil))) (sRet (eC (.bl false))) sNext)
   (sRPt 2 3)))
noncomputable def B_q7_1 : Sf := (sIf (tfNot (tfB (eCall F_q11 (aCons (eVar 4) (aCons (eVar 5) aNil))))) (sRet (eC (.bl false))) sNext)
noncomputable def g_q7 : Sf := (sDict 2 (sSeq (sFor (iOf (eVar 1)) (aName 3) B_q7_0)
   (sSeq (sFor (iArgs uZipL (aCons (eSl uSl (eVar 1) pNo (pSome (eUn uNeg (eC (.int 1))))) (aCons (eSl uSl (eVar 1) (pSome (eC (.int 1))) pNo) aNil))) (aTup 2 (aConsT (aName 4) (aConsT (aName 5) aNilT))) B_q7_1)
   (sRet (eOp uEq (eB uLen (aCons (eVar 1) aNil)) (eCall F_q10 (aCons (eVar 0) aNil)))))))
noncomputable def F_q7 : Ff := runU N_q7.length g_q7
theorem ok_q7 {f : Addr} {fd : FuncData} (F : Fun K "_law_shown" "_law_shown" s_q7 f fd) (B : Bl mg) (kt : Kt K) (T : Tx K mg) {a_q10 : Addr} {d_q10 : FuncData} (c_q10 : Fn P w K mg base (CX1 P w) 1 "_law_many" a_q10 d_q10 p_q10 (spU K mg wkT b_q10.length b_q10 F_q10)) {a_q11 : Addr} {d_q11 : FuncData} (c_q11 : Fn P w K mg base (CX1 P w) 1 "_law_next" a_q11 d_q11 p_q11 (spU K mg wkT b_q11.length b_q11 F_q11)) : FnOk P w K mg base (CX1 P w) 2 f fd p_q7 (spU K mg wkT b_q7.length b_q7 F_q7) := by
 have nd := sc_q7.nd
 refine F.okQ (N := N_q7) (ps := p_q7) (bs := b_q7) (wk := wkT) (m := ⟨[0, 1], []⟩) (g := g_q7) sc_q7 rfl rfl (by decide) fun cdv A outer s H E W hK hm hw hr hA => ?_
 subst hK; subst hm
 have cx := ctx_def (W := W) (P := P) (w := w) (base := base) (N := N_q7) (outer := outer) (H := H) (E := E) rfl rfl hr
 have hw_q10 : wkT W := trivial
 have hw_q11 : wkT W := trivial
 exact (qk_dictR 2 (fun ψ => nd) (fun ω0 d0 hd0 => have cx := Ctx.dV (ω0 := ω0) (d := d0) cx; have dw := drw (ω0 := ω0) hd0; have hw_q10 : wkT (L2.dV W ω0 d0) := trivial; have hw_q11 : wkT (L2.dV W ω0 d0) := trivial;
   (qk_cons (qs_for cx pw_def (qi_v 1 cx) (qg_name 3 (fun ψ => nd)) (qss_cons (qs_if (QW.t (qw_or (qt_ne cx (QE.tb (qe_len cx B (qb_var 3))) (QE.tb (qe_len cx B (qb_var 0)))) (qw_or1 (qt_rIn 3 2 dw cx)))) (qss_one (qs_ret qe_bl)) qss_nil)
   (qss_cons (qs_if (qt_ne cx (QF.tb (qf_comp (bs := ["place"]) ⟨[2], []⟩ cx (comp_ok rfl (by rfl) rfl (by rfl) (by rfl) (.cons rfl (.cons rfl .nil)) (.cons (j := 3) rfl (by first | exact .inl rfl | exact .inr rfl) rfl (by first | exact .inl rfl | exact .inr rfl) (.cons (j := 0) rfl (by first | exact .inl rfl | exact .inr rfl) rfl (by first | exact .inl rfl | exact .inr rfl) .nil))) (qi_r1 cx B (qa_b (QE.tb (qe_len cx B (qb_var 0))) qa_nil)) (qg_name 0 (fun ψ => (show (["place", "row", "bases"] : List Str).Nodup by decide +kernel))) (qts_one (qt_not (qt_lelt (QE.tb qe_int) (QE.tb (qe_ix cx.blk (qb_var 1) (qb_var 0))) (QE.tb (qe_ix cx.blk (qb_var 2) (qb_var 0)))))) (qe_var 0))) (QF.tb (qf_lst qa_nil))) (qss_one (qs_ret qe_bl)) qss_nil)
   (qss_one (qs_rPut 2 3 dw cx)))))
   (qk_cons (qs_for cx pw_def (qi_zipLf cx B (qa_e (qe_sl cx (qb_var 1) qp_none (qp_some (QE.tb (qe_neg (QE.tb qe_int))))) (qa_e (qe_sl cx (qb_var 1) (qp_some (QE.tb qe_int)) qp_none) qa_nil))) (qg_tup (n := 2) cx (qgs_cons (qg_name 4 (fun ψ => nd)) (qgs_cons (qg_name 5 (fun ψ => nd)) qgs_nil))) (qss_one (qs_if (qt_not (qt_val (QE.tb (qe_call cx (fun ψ => c_q11) (fun ψ => hr.mono (by decide)) hw_q11 (qa_b (qb_var 4) (qa_b (qb_var 5) qa_nil)))))) (qss_one (qs_ret qe_bl)) qss_nil)))
   (qk_one (qs_ret (qe_eq cx (QE.tb (qe_len cx B (qb_var 1))) (QE.tb (qe_call cx (fun ψ => c_q10) (fun ψ => hr.mono (by decide)) hw_q10 (qa_b (qb_var 0) qa_nil))))))))))
noncomputable abbrev s_q4 : Stmt := top 24
noncomputable abbrev N_q4 : List Str := ["bases", "told", "refused", "e"]
noncomputable abbrev p_q4 : List Str := ["bases"]
theorem sc_q4 : FnScope N_q4 p_q4 (defScope s_q4) := ⟨rfl, rfl, rfl, by decide +kernel, rfl, by decide +kernel, by decide +kernel⟩
noncomputable abbrev b_q4 : List Bool := [true]
noncomputable def g_q4 : Sf := (sSeq (sSet 1 (eC .non))
   (sSeq (sSet 2 (eC (.str "")))
   (sSeq (sTry (sSet 1 (eCallN F_q1 (aCons (eVar 0) aNil))) 3 ["NoEnd", "TooGreat"] (sSeq (sSet 2 (eC (.str "odd")))
   (sIf (tfAnd (tfB (eB (uIsX tabN tabT) (aCons (eVar 3) (aCons (eC (.nm "NoEnd")) aNil)))) (tfB (eB (uIsX tabN tabT) (aCons (eVar 3) (aCons (eC (.ty "ValueError")) aNil))))) (sIf (tfNot (tfB (eB (uIsX tabN tabT) (aCons (eVar 3) (aCons (eTup (aCons (eC (.nm "NoAsk")) (aCons (eC (.nm "NoDigit")) (aCons (eC (.nm "NoOrder")) (aCons (eC (.nm "NoPlace")) (aCons (eC (.nm "TooGreat")) (aCons (eC (.nm "TooSmall")) aNil))))))) aNil))))) (sSet 2 (eC (.str "NoEnd"))) sNext) sNext)))
   (sRet (eTup (aCons (eVar 2) (aCons (eVar 1) aNil)))))))
noncomputable def F_q4 : Ff := runU N_q4.length g_q4
theorem ok_q4 {f : Addr} {fd : FuncData} (F : Fun K "_law_asked" "_law_asked" s_q4 f fd) (B : Bl mg) (kt : Kt K) (T : Tx K mg) {a_q1 : Addr} {d_q1 : FuncData} (c_q1 : Fn P w K mg base (CX1 P w) 5 "closed_round" a_q1 d_q1 p_q1 (spU K mg wkT b_q1.length b_q1 F_q1)) : FnOk P w K mg base (CX1 P w) 6 f fd p_q4 (spU K mg wkT b_q4.length b_q4 F_q4) := by
 have nd := sc_q4.nd
 refine F.okQ (N := N_q4) (ps := p_q4) (bs := b_q4) (wk := wkT) (m := ⟨[0], []⟩) (g := g_q4) sc_q4 rfl rfl (by decide) fun cdv A outer s H E W hK hm hw hr hA => ?_
 subst hK; subst hm
 have cx := ctx_def (W := W) (P := P) (w := w) (base := base) (N := N_q4) (outer := outer) (H := H) (E := E) rfl rfl hr
 have cxn := Ctx.nox cx
 have cw := Ctx.mkd cx
 obtain ⟨B_ScaleError, mB_ScaleError, xc_ScaleError⟩ := T.xc_ScaleError
 have hw_q1 : wkT W := trivial
 exact (qk_cons (qs_set 1 (fun ψ => nd) qe_non)
   (qk_cons (qs_set 2 (fun ψ => nd) qe_str)
   (qk_cons (qs_try (cs := ["NoEnd", "TooGreat"]) 3 rfl rfl nd mB_ScaleError xc_ScaleError (qy_asg 1 nd (qx_call c_q1 (hr.mono (by decide)) hw_q1 (qa_b (qb_var 0) qa_nil))) (qss_cons (qs_set 2 (fun ψ => nd) qe_str)
   (qss_one (qs_if (QW.t (qw_and (qt_val (QE.tb (qe_isX cw B T.xn T.xt (qa_b (qb_var 3) (qa_b (QE.tb (qe_nmx cw T.m_NoEnd)) qa_nil))))) (qw_and1 (qt_val (QE.tb (qe_isX cw B T.xn T.xt (qa_b (qb_var 3) (qa_b (QE.tb (qe_ty (n := "ValueError") (fun y => (congrFun (cw.hm y) _).trans B.ValueError) boot_ValueError)) qa_nil)))))))) (qss_one (qs_if (qt_not (qt_val (QE.tb (qe_isX cw B T.xn T.xt (qa_b (qb_var 3) (qa_b (QE.tb (qe_tup (qa_e (qe_nmx cw T.m_NoAsk) (qa_e (qe_nmx cw T.m_NoDigit) (qa_e (qe_nmx cw T.m_NoOrder) (qa_e (qe_nmx cw T.m_NoPlace) (qa_e (qe_nmx cw T.m_TooGreat) (qa_e (qe_nmx cw T.m_TooSmall) qa_nil)))))))) qa_nil)))))) (qss_one (qs_set 2 (fun ψ => nd) qe_str)) qss_nil)) qss_nil))))
   (qk_one (qs_ret (qe_tup (qa_e (qe_var 2) (qa_e (qe_var 1) qa_nil))))))))
noncomputable abbrev s_q6 : Stmt := top 25
noncomputable abbrev N_q6 : List Str := ["bases", "even", "row", "kept", "refused", "told"]
noncomputable abbrev p_q6 : List Str := ["bases"]
theorem sc_q6 : FnScope N_q6 p_q6 (defScope s_q6) := ⟨rfl, rfl, rfl, by decide +kernel, rfl, by decide +kernel, by decide +kernel⟩
noncomputable abbrev b_q6 : List Bool := [true]
noncomputable def B_q6_0 : Sf := (sIf (tfB (eOp uNe (eComp (iOf (eVar 2)) 1 [] (aName 0) (tfOr (tfNot (tfB (eB uIsT (aCons (eVar 0) (aCons (eC (.ty "int")) aNil))))) (tfB (eB uIsT (aCons (eVar 0) (aCons (eC (.ty "bool")) aNil))))) (eVar 0)) (eLst aNil))) (sRet (eC (.bl false))) sNext)
noncomputable def g_q6 : Sf := (sSeq (sSet 1 (eComp (iOf (eVar 0)) 1 [] (aName 0) (tfB (eOp uEq (eOp uMod (eVar 0) (eC (.int 2))) (eC (.int 0)))) (eVar 0)))
   (sSeq (sTw 4 5 F_q4 (aCons (eVar 0) aNil))
   (sSeq (sIf (tfAnd (tfB (eOp uNe (eVar 0) (eTup aNil))) (tfAnd (tfB (eOp uNe (eVar 0) (eTup (aCons (eC (.int 2)) aNil)))) (tfOr (tfB (eOp uEq (eB uLen (aCons (eVar 0) aNil)) (eC (.int 1)))) (tfB (eOp uEq (eVar 1) (eLst aNil)))))) (sRet (eOp uEq (eVar 4) (eC (.str "NoEnd")))) sNext)
   (sSeq (sIf (tfOr (tfB (eOp uNe (eVar 4) (eC (.str "")))) (tfNot (tfB (eB uIsT (aCons (eVar 5) (aCons (eC (.ty "list")) aNil)))))) (sRet (eC (.bl false))) sNext)
   (sSeq (sIf (tfB (eOp uNe (eComp (iOf (eVar 5)) 1 [] (aName 0) (tfNot (tfB (eB uIsT (aCons (eVar 0) (aCons (eC (.ty "tuple")) aNil))))) (eVar 0)) (eLst aNil))) (sRet (eC (.bl false))) sNext)
   (sSeq (sFor (iOf (eVar 5)) (aName 2) B_q6_0)
   (sSeq (sIf (tfOr (tfNot (tfB (eCall F_q7 (aCons (eVar 0) (aCons (eVar 5) aNil))))) (tfAnd (tfB (eOp uGt (eB uLen (aCons (eVar 5) aNil)) (eC (.int 1)))) (tfNot (tfB (eCall F_q11 (aCons (eOp uIx (eVar 5) (eUn uNeg (eC (.int 1)))) (aCons (eOp uIx (eVar 5) (eC (.int 0))) aNil))))))) (sRet (eC (.bl false))) sNext)
   (sSeq (sSet 3 (eB uList (aCons (eVar 5) aNil)))
   (sSeq (sClr 5)
   (sRet (eOp uEqTL (eCall F_q4 (aCons (eVar 0) aNil)) (eTup (aCons (eC (.str "")) (aCons (eVar 3) aNil))))))))))))))
noncomputable def F_q6 : Ff := runU N_q6.length g_q6
theorem ok_q6 {f : Addr} {fd : FuncData} (F : Fun K "_law_right" "_law_right" s_q6 f fd) (B : Bl mg) (kt : Kt K) (T : Tx K mg) {a_q4 : Addr} {d_q4 : FuncData} (c_q4 : Fn P w K mg base (CX1 P w) 6 "_law_asked" a_q4 d_q4 p_q4 (spU K mg wkT b_q4.length b_q4 F_q4)) {a_q7 : Addr} {d_q7 : FuncData} (c_q7 : Fn P w K mg base (CX1 P w) 2 "_law_shown" a_q7 d_q7 p_q7 (spU K mg wkT b_q7.length b_q7 F_q7)) {a_q11 : Addr} {d_q11 : FuncData} (c_q11 : Fn P w K mg base (CX1 P w) 1 "_law_next" a_q11 d_q11 p_q11 (spU K mg wkT b_q11.length b_q11 F_q11)) : FnOk P w K mg base (CX1 P w) 7 f fd p_q6 (spU K mg wkT b_q6.length b_q6 F_q6) := by
 have nd := sc_q6.nd
 refine F.okQ (N := N_q6) (ps := p_q6) (bs := b_q6) (wk := wkT) (m := ⟨[0], [5]⟩) (g := g_q6) sc_q6 rfl rfl (by decide) fun cdv A outer s H E W hK hm hw hr hA => ?_
 subst hK; subst hm
 have cx := ctx_def (W := W) (P := P) (w := w) (base := base) (N := N_q6) (outer := outer) (H := H) (E := E) rfl rfl hr
 have hw_q4 : wkT W := trivial
 have hw_q7 : wkT W := trivial
 have hw_q11 : wkT W := trivial
 exact (qk_cons (qs_setC (bs := ["base"]) false 1 ⟨[], []⟩ cx nd (comp_ok rfl (by rfl) rfl (by rfl) (by rfl) .nil .nil) (qi_v 0 cx) (qg_name 0 (fun ψ => (show (["base"] : List Str).Nodup by decide +kernel))) (qts_one (qt_eq cx.blk (QE.tb (qe_mod (qb_var 0) (QE.tb qe_int))) (QE.tb qe_int))) (qe_var 0))
   (qk_cons (qs_tw 4 5 cx (fun ψ => nd) (fun ψ => c_q4) (fun ψ => hr.mono (by decide)) hw_q4 (qa_b (qb_var 0) qa_nil))
   (qk_cons (qs_if (QW.t (qw_and (qt_ne cx (qb_var 0) (QE.tb (qe_tup qa_nil))) (qw_and (qt_ne cx (qb_var 0) (QE.tb (qe_tup (qa_e qe_int qa_nil)))) (qw_and1 (QW.t (qw_or (qt_eq cx (QE.tb (qe_len cx B (qb_var 0))) (QE.tb qe_int)) (qw_or1 (qt_eq cx (qb_var 1) (QF.tb (qf_lst qa_nil)))))))))) (qss_one (qs_ret (qe_eq cx (qb_var 4) (QE.tb qe_str)))) qss_nil)
   (qk_cons (qs_if (QW.t (qw_or (qt_ne cx (qb_var 4) (QE.tb qe_str)) (qw_or1 (qt_not (qt_val (QE.tb (qe_isT cx B kt (qa_b (qb_var 5) (qa_b (QE.tb (qe_ty (n := "list") (fun y => (congrFun (cx.hm y) _).trans B.list) boot_list)) qa_nil))))))))) (qss_one (qs_ret qe_bl)) qss_nil)
   (qk_cons (qs_if (qt_ne cx (QF.tb (qf_comp (bs := ["row"]) ⟨[], []⟩ cx (comp_ok rfl (by rfl) rfl (by rfl) (by rfl) .nil .nil) (qi_b cx (qb_var 5)) (qg_name 0 (fun ψ => (show (["row"] : List Str).Nodup by decide +kernel))) (qts_one (qt_not (qt_val (QE.tb (qe_isT cx.blk B kt (qa_b (qb_var 0) (qa_b (QE.tb (qe_ty (n := "tuple") (fun y => (congrFun (cx.blk.hm y) _).trans B.tuple) boot_tuple)) qa_nil))))))) (qe_var 0))) (QF.tb (qf_lst qa_nil))) (qss_one (qs_ret qe_bl)) qss_nil)
   (qk_cons (qs_forI 5 2 cx (fun ψ => nd) pw_def (qt_ne cx (QF.tb (qf_comp (bs := ["digit"]) ⟨[], []⟩ cx (comp_ok rfl (by rfl) rfl (by rfl) (by rfl) .nil .nil) (qi_v 2 cx) (qg_name 0 (fun ψ => (show (["digit"] : List Str).Nodup by decide +kernel))) (qts_one (QW.t (qw_or (qt_not (qt_val (QE.tb (qe_isT cx.blk B kt (qa_b (qb_var 0) (qa_b (QE.tb (qe_ty (n := "int") (fun y => (congrFun (cx.blk.hm y) _).trans B.int) boot_int)) qa_nil)))))) (qw_or1 (qt_val (QE.tb (qe_isT cx.blk B kt (qa_b (qb_var 0) (qa_b (QE.tb (qe_ty (n := "bool") (fun y => (congrFun (cx.blk.hm y) _).trans B.bool) boot_bool)) qa_nil))))))))) (qe_var 0))) (QF.tb (qf_lst qa_nil))) qe_bl)
   (qk_cons (qs_if (QW.t (qw_or (qt_not (qt_val (QE.tb (qe_call cx (fun ψ => c_q7) (fun ψ => hr.mono (by decide)) hw_q7 (qa_b (qb_var 0) (qa_b (qb_var 5) qa_nil)))))) (qw_or1 (QW.t (qw_and (qt_gt (QE.tb (qe_len cx B (qb_var 5))) (QE.tb qe_int)) (qw_and1 (qt_not (qt_val (QE.tb (qe_call cx (fun ψ => c_q11) (fun ψ => hr.mono (by decide)) hw_q11 (qa_b (QE.tb (qe_ix cx (qb_var 5) (QE.tb (qe_neg (QE.tb qe_int))))) (qa_b (QE.tb (qe_ix cx (qb_var 5) (QE.tb qe_int))) qa_nil)))))))))))) (qss_one (qs_ret qe_bl)) qss_nil)
   (qk_cons (qs_set 3 (fun ψ => nd) (QF.te (qf_list cx B (qb_var 5))))
   (qk_cons (qs_clr 5 cx)
   (qk_one (qs_ret (qe_eqTL cx (QE.tb (qe_call cx (fun ψ => c_q4) (fun ψ => hr.mono (by decide)) hw_q4 (qa_b (qb_var 0) qa_nil))) (QE.tb (qe_tup (qa_e qe_str (qa_e (qe_var 3) qa_nil))))))))))))))))
noncomputable abbrev s_law : Stmt := top 26
noncomputable abbrev N_law : List Str := ["script", "bases", "one"]
noncomputable abbrev p_law : List Str := ["script"]
theorem sc_law : FnScope N_law p_law (defScope s_law) := ⟨rfl, rfl, rfl, by decide +kernel, rfl, by decide +kernel, by decide +kernel⟩
noncomputable abbrev b_law : List Bool := [true]
noncomputable def g_law : Sf := (sSeq (sSet 1 (eCall F_q5 (aCons (eVar 0) (aCons (eC (.int 0)) (aCons (eC (.int 500)) aNil)))))
   (sSeq (sIf (tfB (eOp uEq (eOp uMod (eCall F_q2 (aCons (eVar 0) (aCons (eC (.int 7)) aNil))) (eC (.int 2))) (eC (.int 0)))) (sSeq (sSet 1 (eTup (aCons (eOp uAdd (eC (.int 2)) (eOp uMod (eCall F_q2 (aCons (eVar 0) (aCons (eC (.int 8)) aNil))) (eC (.int 21)))) (aCons (eOp uAdd (eC (.int 2)) (eOp uMod (eCall F_q2 (aCons (eVar 0) (aCons (eC (.int 9)) aNil))) (eC (.int 21)))) aNil))))
   (sSet 1 (eSl uSl (eVar 1) pNo (pSome (eOp uAdd (eC (.int 1)) (eOp uMod (eCall F_q2 (aCons (eVar 0) (aCons (eC (.int 10)) aNil))) (eC (.int 3)))))))) sNext)
   (sSeq (sIf (tfB (eOp uEq (eOp uMod (eCall F_q2 (aCons (eVar 0) (aCons (eC (.int 11)) aNil))) (eC (.int 4))) (eC (.int 0)))) (sSeq (sSet 2 (eCall F_q2 (aCons (eVar 0) (aCons (eC (.int 12)) aNil))))
   (sSet 1 (eOp uIx (eLst (aCons (eTup (aCons (eOp uAdd (eC (.int 2)) (eOp uMod (eVar 2) (eC (.int 249)))) (aCons (eC (.int 2)) aNil))) (aCons (eTup (aCons (eC (.int 2)) (aCons (eOp uAdd (eC (.int 2)) (eOp uMod (eVar 2) (eC (.int 249)))) aNil))) (aCons (eTup (aCons (eOp uAdd (eC (.int 2)) (eOp uMod (eVar 2) (eC (.int 499)))) aNil)) aNil)))) (eOp uMod (eOp uDiv (eVar 2) (eC (.int 500))) (eC (.int 3)))))) sNext)
   (sSeq (sIf (tfB (eOp uEq (eOp uMod (eOp uDiv (eCall F_q2 (aCons (eVar 0) (aCons (eC (.int 7)) aNil))) (eC (.int 2))) (eC (.int 16))) (eC (.int 0)))) (sSet 1 (eOp uIx (eTup (aCons (eTup aNil) (aCons (eTup (aCons (eC (.int 2)) aNil)) (aCons (eTup (aCons (eC (.int 3)) (aCons (eC (.int 3)) aNil))) (aCons (eTup (aCons (eC (.int 2)) (aCons (eC (.int 2)) (aCons (eC (.int 2)) aNil)))) aNil))))) (eOp uMod (eCall F_q2 (aCons (eVar 0) (aCons (eC (.int 10)) aNil))) (eC (.int 4))))) sNext)
   (sRet (eCall F_q6 (aCons (eVar 1) aNil)))))))
noncomputable def F_law : Ff := runU N_law.length g_law
theorem ok_law {f : Addr} {fd : FuncData} (F : Fun K "law" "law" s_law f fd) (B : Bl mg) (kt : Kt K) (T : Tx K mg) {a_q5 : Addr} {d_q5 : FuncData} (c_q5 : Fn P w K mg base (CX1 P w) 2 "_law_bases" a_q5 d_q5 p_q5 (spU K mg wkT b_q5.length b_q5 F_q5)) {a_q6 : Addr} {d_q6 : FuncData} (c_q6 : Fn P w K mg base (CX1 P w) 7 "_law_right" a_q6 d_q6 p_q6 (spU K mg wkT b_q6.length b_q6 F_q6)) {a_q2 : Addr} {d_q2 : FuncData} (c_q2 : Fn P w K mg base (CX1 P w) 1 "_law_number" a_q2 d_q2 p_q2 (spU K mg wkT b_q2.length b_q2 F_q2)) : FnOk P w K mg base (CX1 P w) 8 f fd p_law (spU K mg wkT b_law.length b_law F_law) := by
 have nd := sc_law.nd
 refine F.okQ (N := N_law) (ps := p_law) (bs := b_law) (wk := wkT) (m := ⟨[0], []⟩) (g := g_law) sc_law rfl rfl (by decide) fun cdv A outer s H E W hK hm hw hr hA => ?_
 subst hK; subst hm
 have cx := ctx_def (W := W) (P := P) (w := w) (base := base) (N := N_law) (outer := outer) (H := H) (E := E) rfl rfl hr
 have hw_q5 : wkT W := trivial
 have hw_q6 : wkT W := trivial
 have hw_q2 : wkT W := trivial
 exact (qk_cons (qs_set 1 (fun ψ => nd) (qe_call cx (fun ψ => c_q5) (fun ψ => hr.mono (by decide)) hw_q5 (qa_b (qb_var 0) (qa_b (QE.tb qe_int) (qa_b (QE.tb qe_int) qa_nil)))))
   (qk_cons (qs_if (qt_eq cx (QE.tb (qe_mod (QE.tb (qe_call cx (fun ψ => c_q2) (fun ψ => hr.mono (by decide)) hw_q2 (qa_b (qb_var 0) (qa_b (QE.tb qe_int) qa_nil)))) (QE.tb qe_int))) (QE.tb qe_int)) (qss_cons (qs_set 1 (fun ψ => nd) (qe_tup (qa_e (qe_add cx (QE.tb qe_int) (QE.tb (qe_mod (QE.tb (qe_call cx (fun ψ => c_q2) (fun ψ => hr.mono (by decide)) hw_q2 (qa_b (qb_var 0) (qa_b (QE.tb qe_int) qa_nil)))) (QE.tb qe_int)))) (qa_e (qe_add cx (QE.tb qe_int) (QE.tb (qe_mod (QE.tb (qe_call cx (fun ψ => c_q2) (fun ψ => hr.mono (by decide)) hw_q2 (qa_b (qb_var 0) (qa_b (QE.tb qe_int) qa_nil)))) (QE.tb qe_int)))) qa_nil))) (hs := fun ψ => sw_tuple))
   (qss_one (qs_set 1 (fun ψ => nd) (qe_sl cx (qb_var 1) qp_none (qp_some (QE.tb (qe_add cx (QE.tb qe_int) (QE.tb (qe_mod (QE.tb (qe_call cx (fun ψ => c_q2) (fun ψ => hr.mono (by decide)) hw_q2 (qa_b (qb_var 0) (qa_b (QE.tb qe_int) qa_nil)))) (QE.tb qe_int))))))) (hs := fun ψ => sw_sub)))) qss_nil)
   (qk_cons (qs_if (qt_eq cx (QE.tb (qe_mod (QE.tb (qe_call cx (fun ψ => c_q2) (fun ψ => hr.mono (by decide)) hw_q2 (qa_b (qb_var 0) (qa_b (QE.tb qe_int) qa_nil)))) (QE.tb qe_int))) (QE.tb qe_int)) (qss_cons (qs_set 2 (fun ψ => nd) (qe_call cx (fun ψ => c_q2) (fun ψ => hr.mono (by decide)) hw_q2 (qa_b (qb_var 0) (qa_b (QE.tb qe_int) qa_nil))))
   (qss_one (qs_set 1 (fun ψ => nd) (qe_ix cx (QF.tb (qf_lst (qa_e (qe_tup (qa_e (qe_add cx (QE.tb qe_int) (QE.tb (qe_mod (qb_var 2) (QE.tb qe_int)))) (qa_e qe_int qa_nil))) (qa_e (qe_tup (qa_e qe_int (qa_e (qe_add cx (QE.tb qe_int) (QE.tb (qe_mod (qb_var 2) (QE.tb qe_int)))) qa_nil))) (qa_e (qe_tup (qa_e (qe_add cx (QE.tb qe_int) (QE.tb (qe_mod (qb_var 2) (QE.tb qe_int)))) qa_nil)) qa_nil))))) (QE.tb (qe_mod (QE.tb (qe_div (qb_var 2) (QE.tb qe_int))) (QE.tb qe_int)))) (hs := fun ψ => sw_sub)))) qss_nil)
   (qk_cons (qs_if (qt_eq cx (QE.tb (qe_mod (QE.tb (qe_div (QE.tb (qe_call cx (fun ψ => c_q2) (fun ψ => hr.mono (by decide)) hw_q2 (qa_b (qb_var 0) (qa_b (QE.tb qe_int) qa_nil)))) (QE.tb qe_int))) (QE.tb qe_int))) (QE.tb qe_int)) (qss_one (qs_set 1 (fun ψ => nd) (qe_ix cx (QE.tb (qe_tup (qa_e (qe_tup qa_nil) (qa_e (qe_tup (qa_e qe_int qa_nil)) (qa_e (qe_tup (qa_e qe_int (qa_e qe_int qa_nil))) (qa_e (qe_tup (qa_e qe_int (qa_e qe_int (qa_e qe_int qa_nil)))) qa_nil)))))) (QE.tb (qe_mod (QE.tb (qe_call cx (fun ψ => c_q2) (fun ψ => hr.mono (by decide)) hw_q2 (qa_b (qb_var 0) (qa_b (QE.tb qe_int) qa_nil)))) (QE.tb qe_int)))) (hs := fun ψ => sw_sub))) qss_nil)
   (qk_one (qs_ret (qe_call cx (fun ψ => c_q6) (fun ψ => hr.mono (by decide)) hw_q6 (qa_b (qb_var 1) qa_nil))))))))
end
end EvBlock
section EvBlock
local macro_rules | `(tactic| walk_at "ev") => do
  let js1 ← ("List.length_cons List.length_nil List.length_append List.length_map List.length_replicate List.length_reverse List.length_take List.length_drop rngU_len dnU_len List.length_range".splitOn " ").toArray.mapM fun s => `(Lean.Parser.Tactic.simpLemma| $(Lean.mkIdent s.toName):term)
  let ls ← ("uZipL_s two_t sSeq_then thenF_nx thenF_rt thenF_err runU_end endF_rt endF_nx endF_err sNext_ap sIf_ap sSet_ap sRet_ap sExpr_ap sAug_ap sApp_ap sExt_ap sRevM_ap sAsg_ap sFor_ap stepU_ap sRaise_ap aName_ap aTup_ap aNilT_ap aConsT_ap eVar_ap eC_ap eOp_ap eUn_ap eAnd_ap eIf_ap eChain_ap eTup_ap eLst_ap eB_ap eCall_ap eSl_ap eComp_ap cstU_ap tfB_ap tfAnd_ap tfOr_ap tfNot_ap tfTrue_ap aNil_ap aCons_ap pNo_ap pSome_ap iOf_ap iArgs_ap asB_r asI_r asSeq_l asSeq_t asOk_ok Res.bnd_ok Res.bnd_err Res.bnd_stk Res.of_some Res.of_none Fl.of_ok Fl.of_err Fl.of_stk List.getElem?_cons_zero List.getElem?_cons_succ List.set_cons_zero List.set_cons_succ List.map_cons List.map_nil List.length_cons List.length_nil List.length_map List.cons_append List.nil_append List.replicate Nat.zero_add uIx_l uIx_t uAdd_i uSub_r uNeg_r uLt_r uLe_r uGt_r uGe_r uLen_l uLen_t uLen_s uTuple_l uTuple_t uList_l uList_t uList_s uMax2_r uMin2_r uAbs_r uInt_i uInt_b uIsT_ii uIsT_ib uIsT_bb uIsT_bi uIsT_tt uIsT_ll uEq_ii uNe_ii uDiv_s uMod_s uMul_r uMul_l uPow_s mkT_s mkL_s uAdd_l uAdd_t ite_lt ite_le uR1_s uR3_s uSorted_l uSorted_t eCallN_ap outT_nx outT_rt atI_i2 atI_i3 atI_i4 atI_i5 atI_i6 atI_i7 atI_i8 atI_i10 uSl_l uSl_t uSlL_l atI_zero atI_one atI_end blkU_r Option.getD_some Option.getD_none Option.bind_some Option.bind_none Option.map_some decide_true decide_false Bool.not_true Bool.not_false if_true if_false Bool.false_eq_true Bool.true_eq_false decide_eq_true_eq Bool.not_eq_true' decide_eq_false_iff_not ne_eq not_true_eq_false not_false_eq_true Nat.reduceSub Nat.reduceAdd Nat.reduceLT Int.reduceEq Int.reduceLT Int.reduceLE Int.reduceAdd Int.reduceSub Int.reduceMul Int.reduceDiv Int.reduceMod reduceIte Int.reduceToNat Int.reducePow Int.reduceNeg".splitOn " ").toArray.mapM fun s => `(Lean.Parser.Tactic.simpLemma| $(Lean.mkIdent s.toName):term)
  `(tactic| try simp (disch := first | decide | lia | omega | (simp only [$js1,*]; first | lia | omega)) only [$ls,*])
local macro_rules | `(tactic| walk_at "evi") => do
  let js1 ← ("List.length_cons List.length_nil List.length_append List.length_map List.length_replicate List.length_reverse List.length_take List.length_drop rngU_len dnU_len List.length_range".splitOn " ").toArray.mapM fun s => `(Lean.Parser.Tactic.simpLemma| $(Lean.mkIdent s.toName):term)
  let ls ← ("if_pos if_neg uZipL_s two_t sSeq_then thenF_nx thenF_rt thenF_err runU_end endF_rt endF_nx endF_err sNext_ap sIf_ap sSet_ap sRet_ap sExpr_ap sAug_ap sApp_ap sExt_ap sRevM_ap sAsg_ap sFor_ap stepU_ap sRaise_ap aName_ap aTup_ap aNilT_ap aConsT_ap eVar_ap eC_ap eOp_ap eUn_ap eAnd_ap eIf_ap eChain_ap eTup_ap eLst_ap eB_ap eCall_ap eSl_ap eComp_ap cstU_ap tfB_ap tfAnd_ap tfOr_ap tfNot_ap tfTrue_ap aNil_ap aCons_ap pNo_ap pSome_ap iOf_ap iArgs_ap asB_r asI_r asSeq_l asSeq_t asOk_ok Res.bnd_ok Res.bnd_err Res.bnd_stk Res.of_some Res.of_none Fl.of_ok Fl.of_err Fl.of_stk List.getElem?_cons_zero List.getElem?_cons_succ List.set_cons_zero List.set_cons_succ List.map_cons List.map_nil List.length_cons List.length_nil List.length_map List.cons_append List.nil_append List.replicate Nat.zero_add uIx_l uIx_t uAdd_i uSub_r uNeg_r uLt_r uLe_r uGt_r uGe_r uLen_l uLen_t uLen_s uTuple_l uTuple_t uList_l uList_t uList_s uMax2_r uMin2_r uAbs_r uInt_i uInt_b uIsT_ii uIsT_ib uIsT_bb uIsT_bi uIsT_tt uIsT_ll uEq_ii uNe_ii uDiv_s uMod_s uMul_r uMul_l uPow_s mkT_s mkL_s uAdd_l uAdd_t ite_lt ite_le uR1_s uR3_s uSorted_l uSorted_t eCallN_ap outT_nx outT_rt atI_i2 atI_i3 atI_i4 atI_i5 atI_i6 atI_i7 atI_i8 atI_i10 uSl_l uSl_t uSlL_l atI_zero atI_one atI_end blkU_r Option.getD_some Option.getD_none Option.bind_some Option.bind_none Option.map_some decide_true decide_false Bool.not_true Bool.not_false if_true if_false Bool.false_eq_true Bool.true_eq_false decide_eq_true_eq Bool.not_eq_true' decide_eq_false_iff_not ne_eq not_true_eq_false not_false_eq_true Nat.reduceSub Nat.reduceAdd Nat.reduceLT Int.reduceEq Int.reduceLT Int.reduceLE Int.reduceAdd Int.reduceSub Int.reduceMul Int.reduceDiv Int.reduceMod reduceIte Int.reduceToNat Int.reducePow Int.reduceNeg".splitOn " ").toArray.mapM fun s => `(Lean.Parser.Tactic.simpLemma| $(Lean.mkIdent s.toName):term)
  `(tactic| try simp (disch := first | decide | lia | omega | (simp only [$js1,*]; first | lia | omega)) only [$ls,*])
theorem num_loop (A B C D E F G : Option U) : ∀ (xs : List U) (rest : Int) (y : Option U), ∃ (c : Int) (y' : Option U), ∀ ω, forU (stepU (aName 7) B_q2_0) xs [A, B, C, D, E, F, some (.int rest), y, G] ω = .nx [A, B, C, D, E, F, some (.int c), y', G] ω
 | [], rest, y => ⟨rest, y, fun ω => rfl⟩
 | x :: xs, rest, y => by
  obtain ⟨c, y', e⟩ := num_loop A B C D E F G xs (rest / 1000000) (some x)
  refine ⟨c, y', fun ω => ?_⟩
  rw [forU, B_q2_0]
  walk_at "ev"
  rw [← B_q2_0, e]
theorem num_ex (ns : List Int) (hn : ns.length ≤ 63) (k : Int) (h0 : 0 ≤ k) (h1 : k < 1000) : ∃ r : Int, (∀ ω, F_q2 [.scr ns, .int k] ω = .ok (.int r) ω) ∧ 0 ≤ r ∧ r < 1000000 := by
 unfold F_q2 g_q2
 have hm : 0 < max 1 (ns.length : Int) := by lia
 have hi0 : 0 ≤ k % max 1 (ns.length : Int) := Int.emod_nonneg _ (by lia)
 have hi1 : k % max 1 (ns.length : Int) < max 1 (ns.length : Int) := Int.emod_lt_of_pos _ hm
 obtain ⟨c, hc⟩ : ∃ c, atI (ns.map U.int ++ [U.int 0]) (k % max 1 (ns.length : Int)) = some (.int c) := by
  refine ⟨(ns ++ [0])[(k % max 1 (ns.length : Int)).toNat]'(by simp; lia), ?_⟩
  rw [show ns.map U.int ++ [U.int 0] = (ns ++ [0]).map U.int by simp, atI_map, atI_in hi0 (by simp; lia)]
  rfl
 have hq0 : 0 ≤ k / max 1 (ns.length : Int) := Int.ediv_nonneg h0 (by lia)
 have hq1 : k / max 1 (ns.length : Int) ≤ k := Int.ediv_le_self _ h0
 have m1 : 0 ≤ c % 2147483629 := Int.emod_nonneg _ (by decide)
 have m2 : c % 2147483629 < 2147483629 := Int.emod_lt_of_pos _ (by decide)
 obtain ⟨c', y', e⟩ := num_loop (some (.scr ns)) (some (.int k)) (some (.lst (ns.map U.int ++ [U.int 0]))) (some (.int (max 1 (ns.length : Int)))) (some (.int c)) (some (.int (k / max 1 (ns.length : Int)))) none (rngU 0 (min (k / max 1 (ns.length : Int)) 60).toNat) c none
 generalize hq : k / max 1 (ns.length : Int) = q at *
 by_cases g : c ≥ 1000000000000000000 ∧ q < 60 ∧ 0 < c'
 ·refine ⟨c' % 1000000, fun ω => ?_, by lia, by lia⟩
  walk_at "ev"
  rw [hc]
  walk_at "ev"
  simp only [hq]
  rw [e]
  walk_at "evi"
 ·have n1 := Int.emod_nonneg ((c % 2147483629 + 977 + 104729 * q + 15485863 * k) * 48271) (show (2147483647 : Int) ≠ 0 by decide)
  have n2 := Int.emod_lt_of_pos ((c % 2147483629 + 977 + 104729 * q + 15485863 * k) * 48271) (show (0 : Int) < 2147483647 by decide)
  generalize hs : (c % 2147483629 + 977 + 104729 * q + 15485863 * k) * 48271 % 2147483647 = s at n1 n2
  have n3 := Int.emod_nonneg (s * s + 7919 * q + 31 * k) (show (2147483587 : Int) ≠ 0 by decide)
  have n4 := Int.emod_lt_of_pos (s * s + 7919 * q + 31 * k) (show (0 : Int) < 2147483587 by decide)
  refine ⟨(s * s + 7919 * q + 31 * k) % 2147483587 * 69621 % 2147483563 / 64 % 1000000, fun ω => ?_, by lia, by lia⟩
  walk_at "ev"
  rw [hc]
  walk_at "ev"
  simp only [hq]
  rw [e]
  walk_at "ev"
  by_cases g1 : c ≥ 1000000000000000000
  ·by_cases g2 : q < 60
   ·have g3 : ¬ 0 < c' := fun z => g ⟨g1, g2, z⟩
    walk_at "evi"
    rw [hs]
    walk_at "evi"
   ·walk_at "evi"
    rw [hs]
    walk_at "evi"
  ·walk_at "evi"
   rw [hs]
   walk_at "evi"
noncomputable def num (ns : List Int) (k : Int) : Int := if h : ns.length ≤ 63 ∧ 0 ≤ k ∧ k < 1000 then (num_ex ns h.1 k h.2.1 h.2.2).choose else 0
theorem num_eq {ns : List Int} {k : Int} (hn : ns.length ≤ 63) (h0 : 0 ≤ k) (h1 : k < 1000) (ω : Om) : F_q2 [.scr ns, .int k] ω = .ok (.int (num ns k)) ω := by
 unfold num; rw [dif_pos ⟨hn, h0, h1⟩]; exact (num_ex ns hn k h0 h1).choose_spec.1 ω
theorem num_b {ns : List Int} {k : Int} (hn : ns.length ≤ 63) (h0 : 0 ≤ k) (h1 : k < 1000) : 0 ≤ num ns k ∧ num ns k < 1000000 := by
 unfold num; rw [dif_pos ⟨hn, h0, h1⟩]; exact (num_ex ns hn k h0 h1).choose_spec.2
noncomputable def Bs (bs : List Int) : Prop := ∀ b ∈ bs, 2 ≤ b ∧ b ≤ 1000000
theorem Bs.tail {b : Int} {bs : List Int} (h : Bs (b :: bs)) : Bs bs := fun c hc => h c (List.mem_cons_of_mem _ hc)
noncomputable def pr : List Int → Int
 | [] => 1
 | b :: bs => b * pr bs
theorem pr_pos : ∀ {bs : List Int}, Bs bs → 1 ≤ pr bs
 | [], _ => by decide
 | b :: bs, h => by
  have h1 := pr_pos h.tail
  have h2 := (h b (by simp)).1
  have := Int.mul_le_mul (show 1 ≤ b by lia) h1 (by lia) (by lia)
  rw [pr]; lia
theorem pr_app : ∀ (as bs : List Int), pr (as ++ bs) = pr as * pr bs
 | [], bs => by simp [pr]
 | a :: as, bs => by rw [List.cons_append, pr, pr, pr_app as bs, Int.mul_assoc]
theorem many_loop (A : Option U) : ∀ (bs : List Int) (w : Int) (y : Option U) (ω : Om), Bs bs →
  ∃ y', forU (stepU (aName 2) B_q10_0) (bs.map U.int) [A, some (.int w), y] ω = .nx [A, some (.int (w * pr bs)), y'] ω
 | [], w, y, ω, _ => ⟨y, by simp [forU, pr]⟩
 | b :: bs, w, y, ω, h => by
  have hb := h b (by simp)
  obtain ⟨y', e⟩ := many_loop A bs (w * b) (some (.int b)) ω h.tail
  refine ⟨y', ?_⟩
  rw [List.map_cons, forU, B_q10_0]
  walk_at "ev"
  rw [← B_q10_0, e, pr, Int.mul_assoc]
theorem F_many_eq {bs : List Int} (h : Bs bs) (ω : Om) : F_q10 [.tup (bs.map U.int)] ω = .ok (.int (pr bs)) ω := by
 unfold F_q10 g_q10
 obtain ⟨y', e⟩ := many_loop (some (.tup (bs.map U.int))) bs 1 none ω h
 walk_at "ev"
 rw [e]
 walk_at "ev"
 rw [Int.one_mul]
theorem prod_loop (A : Option U) : ∀ (bs : List Int) (w : Int) (y : Option U) (ω : Om), Bs bs →
  ∃ y', forU (stepU (aName 2) B_q8_0) (bs.map U.int) [A, some (.int w), y] ω = .nx [A, some (.int (w * pr bs)), y'] ω
 | [], w, y, ω, _ => ⟨y, by simp [forU, pr]⟩
 | b :: bs, w, y, ω, h => by
  have hb := h b (by simp)
  obtain ⟨y', e⟩ := prod_loop A bs (w * b) (some (.int b)) ω h.tail
  refine ⟨y', ?_⟩
  rw [List.map_cons, forU, B_q8_0]
  walk_at "ev"
  rw [← B_q8_0, e, pr, Int.mul_assoc]
theorem F_product_of_eq {bs : List Int} (h : Bs bs) (ω : Om) : F_q8 [.tup (bs.map U.int)] ω = .ok (.int (pr bs)) ω := by
 unfold F_q8 g_q8
 obtain ⟨y', e⟩ := prod_loop (some (.tup (bs.map U.int))) bs 1 none ω h
 walk_at "ev"
 rw [e]
 walk_at "ev"
 rw [Int.one_mul]
theorem F_refuse_no_step_eq {bs : List Int} {s : Int} (h : Bs bs) (h0 : 0 ≤ s) (h1 : s < pr bs) (ω : Om) : F_q0 [.tup (bs.map U.int), .int s] ω = .ok .non ω := by
 unfold F_q0 g_q0
 walk_at "evi"
 rw [F_product_of_eq h]
 walk_at "evi"
noncomputable def trn (b d g : Int) : Int := if g % 2 = 0 then d else b - 1 - d
noncomputable def rw' : List Int → Int → List Int
 | [], _ => []
 | b :: bs, g => trn b (g % b) (g / b) :: rw' bs (g / b)
theorem rw_len : ∀ (bs : List Int) (g : Int), (rw' bs g).length = bs.length
 | [], _ => rfl
 | b :: bs, g => by simp [rw', rw_len bs]
theorem enum_cons (u : U) (us : List U) (i : Nat) : (u :: us).mapIdx (fun j w => U.tup [.int ((i + j : Nat) : Int), w]) = .tup [.int (i : Int), u] :: us.mapIdx (fun j w => U.tup [.int ((i + 1 + j : Nat) : Int), w]) := by
 rw [List.mapIdx_cons]
 simp only [Nat.add_zero]
 congr 1
 refine congrArg (fun f => us.mapIdx f) ?_
 funext j w
 rw [show i + (j + 1) = i + 1 + j by lia]
theorem F_turned_eq (b d g : Int) (ω : Om) : F_q13 [.int b, .int d, .int g] ω = .ok (.int (trn b d g)) ω := by
 unfold F_q13 g_q13 trn
 walk_at "ev"
 by_cases c : g % 2 = 0
 ·rw [if_pos c, if_pos c]; walk_at "ev"
 ·rw [if_neg c, if_neg c]; walk_at "ev"
theorem row_at_loop (A B : Option U) : ∀ (bs : List Int) (row : List Int) (g : Int) (x y : Option U) (ω : Om), Bs bs → row.length + bs.length ≤ 1000 →
  ∃ w' x' y', forU (stepU (aName 4) B_q12_0) (bs.map U.int) [A, B, some (.lst (row.map U.int)), some (.int g), x, y] ω = .nx [A, B, some (.lst ((row ++ rw' bs g).map U.int)), w', x', y'] ω
 | [], row, g, x, y, ω, _, _ => ⟨some (.int g), x, y, by simp [forU, rw']⟩
 | b :: bs, row, g, x, y, ω, h, hl => by
  have hb := h b (by simp)
  rw [List.length_cons] at hl
  obtain ⟨w', x', y', e⟩ := row_at_loop A B bs (row ++ [trn b (g % b) (g / b)]) (g / b) (some (.int b)) (some (.int (g % b))) ω h.tail (by simp; lia)
  refine ⟨w', x', y', ?_⟩
  rw [List.map_cons, forU, B_q12_0]
  walk_at "ev"
  rw [F_turned_eq]
  walk_at "ev"
  rw [← B_q12_0]
  rw [show row.map U.int ++ [U.int (trn b (g % b) (g / b))] = (row ++ [trn b (g % b) (g / b)]).map U.int by simp, e]
  simp [rw']
theorem F_row_at_eq {bs : List Int} {s : Int} (h : Bs bs) (h0 : 0 ≤ s) (h1 : s < pr bs) (hl : bs.length ≤ 500) (ω : Om) : F_q12 [.tup (bs.map U.int), .int s] ω = .ok (.tup ((rw' bs s).map U.int)) ω := by
 unfold F_q12 g_q12
 obtain ⟨w', x', y', e⟩ := row_at_loop (some (.tup (bs.map U.int))) (some (.int s)) bs [] s none none ω h (by simp; lia)
 have hq : (rw' bs s).length ≤ 500 := by rw [rw_len]; exact hl
 walk_at "ev"
 rw [F_refuse_no_step_eq h h0 h1]
 walk_at "ev"
 rw [show ([] : List U) = ([] : List Int).map U.int by simp, e]
 walk_at "ev"
noncomputable def Fit : List Int → List Int → Prop
 | [], [] => True
 | b :: bs, d :: ds => 0 ≤ d ∧ d < b ∧ Fit bs ds
 | _, _ => False
theorem trn_b {b d g : Int} (h0 : 0 ≤ d) (h1 : d < b) : 0 ≤ trn b d g ∧ trn b d g < b := by
 unfold trn; by_cases c : g % 2 = 0
 ·rw [if_pos c]; lia
 ·rw [if_neg c]; lia
theorem fit_rw : ∀ (bs : List Int) (s : Int), Bs bs → Fit bs (rw' bs s)
 | [], _, _ => trivial
 | b :: bs, s, h => by
  have hb := h b (by simp)
  have t := trn_b (g := s / b) (Int.emod_nonneg s (show b ≠ 0 by lia)) (Int.emod_lt_of_pos s (show 0 < b by lia))
  exact ⟨t.1, t.2, fit_rw bs _ h.tail⟩
theorem fit_len : ∀ (bs ds : List Int), Fit bs ds → ds.length = bs.length
 | [], [], _ => rfl
 | b :: bs, d :: ds, h => by rw [List.length_cons, List.length_cons, fit_len bs ds h.2.2]
noncomputable def stp : List Int → List Int → Int
 | b :: bs, d :: ds => stp bs ds * b + trn b d (stp bs ds)
 | _, _ => 0
theorem trn_trn {b d g : Int} : trn b (trn b d g) g = d := by
 unfold trn; by_cases c : g % 2 = 0
 ·rw [if_pos c, if_pos c]
 ·rw [if_neg c, if_neg c]; lia
theorem stp_rw : ∀ (bs : List Int) (s : Int), Bs bs → 0 ≤ s → s < pr bs → stp bs (rw' bs s) = s
 | [], s, _, h0, h1 => by rw [pr] at h1; rw [stp]; lia; intro ψ ψ ψ ψ q; cases q
 | b :: bs, s, h, h0, h1 => by
  have hb := h b (by simp)
  rw [pr, Int.mul_comm] at h1
  have e1 : s / b < pr bs := Int.ediv_lt_of_lt_mul (by lia) h1
  rw [rw', stp, stp_rw bs (s / b) h.tail (Int.ediv_nonneg h0 (by lia)) e1, trn_trn]
  have := Int.emod_add_mul_ediv s b
  rw [Int.mul_comm] at this; lia
noncomputable def chg : List Int → Int → Nat → Option (Int × Int)
 | [], _, _ => none
 | b :: bs, g, i => if g % b < b - 1 then some ((i : Int), if g / b % 2 = 0 then 1 else -1) else chg bs (g / b) (i + 1)
theorem next_row : ∀ (bs : List Int) (s : Int) (i : Nat), Bs bs → 0 ≤ s → s + 1 < pr bs → ∃ pre x post d, rw' bs s = pre ++ x :: post ∧ rw' bs (s + 1) = pre ++ (x + d) :: post ∧ chg bs s i = some (((i + pre.length : Nat) : Int), d) ∧ (d = 1 ∨ d = -1)
 | [], s, i, _, h0, h1 => by simp [pr] at h1; lia
 | b :: bs, s, i, h, h0, h1 => by
  have hb := h b (by simp)
  have m0 := Int.emod_nonneg s (show b ≠ 0 by lia)
  have m1 := Int.emod_lt_of_pos s (show 0 < b by lia)
  have dm := Int.emod_add_mul_ediv s b
  by_cases c : s % b < b - 1
  ·have e1 : (s + 1) / b = s / b := by
    rw [show s + 1 = (s % b + 1) + b * (s / b) by lia, Int.add_mul_ediv_left _ _ (by lia), Int.ediv_eq_zero_of_lt (by lia) (by lia)]; lia
   have e2 : (s + 1) % b = s % b + 1 := by
    rw [show s + 1 = (s % b + 1) + b * (s / b) by lia, Int.add_mul_emod_self_left, Int.emod_eq_of_lt (by lia) (by lia)]
   refine ⟨[], trn b (s % b) (s / b), rw' bs (s / b), if s / b % 2 = 0 then 1 else -1, rfl, ?_, ?_, ?_⟩
   ·rw [rw', e1, e2]
    unfold trn
    by_cases z : s / b % 2 = 0
    ·simp [z]
    ·simp [z]; lia
   ·rw [chg, if_pos c]; simp
   ·by_cases z : s / b % 2 = 0
    ·left; rw [if_pos z]
    ·right; rw [if_neg z]
  ·have e0 : s + 1 = b * (s / b + 1) := by rw [Int.mul_add]; lia
   have e1 : (s + 1) / b = s / b + 1 := by rw [e0]; exact Int.mul_ediv_cancel_left _ (by lia)
   have e2 : (s + 1) % b = 0 := by rw [e0]; exact Int.mul_emod_right _ _
   have q0 : 0 ≤ s / b := Int.ediv_nonneg h0 (by lia)
   have q1 : s / b + 1 < pr bs := by
    rw [pr, e0] at h1
    exact Int.lt_of_mul_lt_mul_left h1 (by lia)
   obtain ⟨pre, x, post, d, r1, r2, r3, r4⟩ := next_row bs (s / b) (i + 1) h.tail q0 q1
   refine ⟨trn b (s % b) (s / b) :: pre, x, post, d, by rw [rw', r1]; rfl, ?_, ?_, r4⟩
   ·rw [rw', e1, e2, r2]
    have : trn b 0 (s / b + 1) = trn b (s % b) (s / b) := by
     unfold trn
     by_cases z : s / b % 2 = 0
     ·rw [if_neg (by lia), if_pos z]; lia
     ·rw [if_pos (by lia), if_neg z]; lia
    rw [this]; rfl
   ·rw [chg, if_neg c, r3]
    simp; lia
noncomputable def am : List Int → List Int → Option Nat
 | [], [] => none
 | [], _ :: _ => some 0
 | _ :: _, [] => some 0
 | b :: bs, d :: ds => if 0 ≤ d ∧ d < b then (am bs ds).map (· + 1) else some 0
end EvBlock
section EvBlock
local macro_rules | `(tactic| walk_at "ev") => do
  let js1 ← ("List.length_cons List.length_nil List.length_append List.length_map List.length_replicate List.length_reverse List.length_take List.length_drop rngU_len dnU_len List.length_range".splitOn " ").toArray.mapM fun s => `(Lean.Parser.Tactic.simpLemma| $(Lean.mkIdent s.toName):term)
  let ls ← ("eRIn_ap rowU_t rowU_t' isP_p rowsD_enc uZipL_s two_t sSeq_then thenF_nx thenF_rt thenF_err runU_end endF_rt endF_nx endF_err sNext_ap sIf_ap sSet_ap sRet_ap sExpr_ap sAug_ap sApp_ap sExt_ap sRevM_ap sAsg_ap sFor_ap stepU_ap sRaise_ap aName_ap aTup_ap aNilT_ap aConsT_ap eVar_ap eC_ap eOp_ap eUn_ap eAnd_ap eIf_ap eChain_ap eTup_ap eLst_ap eB_ap eCall_ap eSl_ap eComp_ap cstU_ap tfB_ap tfAnd_ap tfOr_ap tfNot_ap tfTrue_ap aNil_ap aCons_ap pNo_ap pSome_ap iOf_ap iArgs_ap asB_r asI_r asSeq_l asSeq_t asOk_ok Res.bnd_ok Res.bnd_err Res.bnd_stk Res.of_some Res.of_none Fl.of_ok Fl.of_err Fl.of_stk List.getElem?_cons_zero List.getElem?_cons_succ List.set_cons_zero List.set_cons_succ List.map_cons List.map_nil List.length_cons List.length_nil List.length_map List.cons_append List.nil_append List.replicate Nat.zero_add uIx_l uIx_t uAdd_i uSub_r uNeg_r uLt_r uLe_r uGt_r uGe_r uLen_l uLen_t uLen_s uTuple_l uTuple_t uList_l uList_t uList_s uMax2_r uMin2_r uAbs_r uInt_i uInt_b uIsT_ii uIsT_ib uIsT_bb uIsT_bi uIsT_tt uIsT_ll uEq_ii uNe_ii uDiv_s uMod_s uMul_r uMul_l uPow_s mkT_s mkL_s uAdd_l uAdd_t ite_lt ite_le uR1_s uR3_s uSorted_l uSorted_t eCallN_ap outT_nx outT_rt atI_i2 atI_i3 atI_i4 atI_i5 atI_i6 atI_i7 atI_i8 atI_i10 uSl_l uSl_t uSlL_l atI_zero atI_one atI_end blkU_r Option.getD_some Option.getD_none Option.bind_some Option.bind_none Option.map_some decide_true decide_false Bool.not_true Bool.not_false if_true if_false Bool.false_eq_true Bool.true_eq_false decide_eq_true_eq Bool.not_eq_true' decide_eq_false_iff_not ne_eq not_true_eq_false not_false_eq_true Nat.reduceSub Nat.reduceAdd Nat.reduceLT Int.reduceEq Int.reduceLT Int.reduceLE Int.reduceAdd Int.reduceSub Int.reduceMul Int.reduceDiv Int.reduceMod reduceIte Int.reduceToNat Int.reducePow Int.reduceNeg".splitOn " ").toArray.mapM fun s => `(Lean.Parser.Tactic.simpLemma| $(Lean.mkIdent s.toName):term)
  `(tactic| try simp (disch := first | decide | lia | omega | (simp only [$js1,*]; first | lia | omega)) only [$ls,*])
theorem toDs_rws : ∀ rs : List (List Int), U.toDs (rs.map uRow) = some (rs.map fun r => L2.D.tup (r.map L2.D.int))
 | [] => by rw [List.map_nil, U.toDs]; rfl
 | r :: rs => by rw [List.map_cons, uRow, U.toDs, U.toD, toDs_ints, toDs_rws rs]; rfl
theorem dep_rws : ∀ rs : List (List Int), L2.D.depths (rs.map fun r => L2.D.tup (r.map L2.D.int)) ≤ 1
 | [] => by rw [List.map_nil, L2.D.depths]; decide
 | r :: rs => by
  have := dep_rws rs
  rw [List.map_cons, L2.D.depths, L2.D.depth, depths_ints]; lia
theorem eqs_rws : ∀ rs qs : List (List Int), L2.D.eqs (rs.map fun r => L2.D.tup (r.map L2.D.int)) (qs.map fun r => L2.D.tup (r.map L2.D.int)) = decide (rs = qs)
 | [], [] => by simp [L2.D.eqs]
 | [], _ :: _ => by simp [L2.D.eqs]
 | _ :: _, [] => by simp [L2.D.eqs]
 | r :: rs, q :: qs => by
  rw [List.map_cons, List.map_cons, L2.D.eqs, L2.D.eq, eqs_ints, eqs_rws rs qs]
  by_cases c : r = q <;> by_cases d : rs = qs <;> simp [c, d]
theorem cutF {us : List U} {k : Nat} : cutG us (some (k : Int)) none = us.drop k := by rw [cutFrom' (by lia)]; simp
theorem cutT {us : List U} {k : Nat} : cutG us none (some (k : Int)) = us.take k := by rw [cutTo' (by lia)]; simp
theorem cutF1 {us : List U} : cutG us (some 1) none = us.drop 1 := cutF (k := 1)
noncomputable def ab (x : Int) : Int := if x < 0 then -x else x
noncomputable def dst (a b : List Int) : Int := (List.zipWith (fun x y => ab (x - y)) a b).sum
noncomputable def nx (a b : List Int) : Bool := decide (dst a b = 1)
noncomputable def pI (p : Int × Int) : U := .tup [.int p.1, .int p.2]
noncomputable def pR (p : List Int × List Int) : U := .tup [uRow p.1, uRow p.2]
theorem zip_I : ∀ (a b : List Int), zipU (a.map U.int) (b.map U.int) = (a.zip b).map pI
 | [], _ => by simp [zipU]
 | _ :: _, [] => by simp [zipU]
 | x :: a, y :: b => by
  have := zip_I a b
  unfold zipU at this ⊢
  rw [List.map_cons, List.map_cons, List.zipWith_cons_cons, this]; rfl
theorem zip_R : ∀ (a b : List (List Int)), zipU (a.map uRow) (b.map uRow) = (a.zip b).map pR
 | [], _ => by simp [zipU]
 | _ :: _, [] => by simp [zipU]
 | x :: a, y :: b => by
  have := zip_R a b
  unfold zipU at this ⊢
  rw [List.map_cons, List.map_cons, List.zipWith_cons_cons, this]; rfl
theorem dst_zip : ∀ (a b : List Int), dst a b = ((a.zip b).map fun p => ab (p.1 - p.2)).sum
 | [], _ => by simp [dst]
 | _ :: _, [] => by simp [dst]
 | x :: a, y :: b => by
  have := dst_zip a b
  unfold dst at this ⊢
  rw [List.zipWith_cons_cons, List.sum_cons, this]; rfl
theorem uSum_l {ns : List Int} : uSumU [.lst (ns.map U.int)] = some (.int ns.sum) := by unfold uSumU; simp only; rw [seqInts_l]; rfl
noncomputable def adj (rs : List (List Int)) : Bool := (rs.zip (rs.drop 1)).all fun p => nx p.1 p.2
noncomputable def isR (bs : List Int) (rs : List (List Int)) : Bool := decide ((rs.length : Int) = pr bs) && (rs.all fun r => (am bs r).isNone) && decide ((ddT rs).length = rs.length) && adj rs
noncomputable def lastR (rs : List (List Int)) : List Int := rs.getD (rs.length - 1) []
theorem am_len : ∀ {bs r : List Int}, am bs r = none → r.length = bs.length
 | [], [], _ => rfl
 | [], _ :: _, h => by cases h
 | _ :: _, [], h => by cases h
 | b :: bs, d :: ds, h => by
  rw [am] at h
  by_cases c : 0 ≤ d ∧ d < b
  ·rw [if_pos c] at h
   cases q : am bs ds with
   | none => rw [List.length_cons, List.length_cons, am_len q]
   | some k => rw [q] at h; cases h
  ·rw [if_neg c] at h; cases h
theorem first_mem {rs : List (List Int)} (h : 0 < rs.length) : rs.getD 0 [] ∈ rs := by
 rw [List.getD_eq_getElem?_getD, List.getElem?_eq_getElem h]
 simp
noncomputable def okI (bs r : List Int) (i : Nat) : Bool := decide (0 ≤ r.getD i 0) && decide (r.getD i 0 < bs.getD i 0)
theorem am_none : ∀ {bs r : List Int}, am bs r = none ↔ r.length = bs.length ∧ ∀ i : Nat, i < bs.length → okI bs r i = true
 | [], [] => by simp [am]
 | [], _ :: _ => by simp [am]
 | _ :: _, [] => by simp [am]
 | b :: bs, d :: ds => by
  rw [am]
  have ih := am_none (bs := bs) (r := ds)
  by_cases c : 0 ≤ d ∧ d < b
  ·rw [if_pos c]
   have e : (am bs ds).map (· + 1) = none ↔ am bs ds = none := by cases am bs ds <;> simp
   rw [e, ih]
   simp only [List.length_cons, Nat.add_right_cancel_iff]
   constructor
   ·rintro ⟨a, h⟩
    refine ⟨a, fun i hi => ?_⟩
    cases i with
    | zero => simp [okI, c]
    | succ i => simpa [okI] using h i (by lia)
   ·rintro ⟨a, h⟩
    exact ⟨a, fun i hi => by simpa [okI] using h (i + 1) (by lia)⟩
  ·rw [if_neg c]
   refine ⟨fun h => (by cases h), fun h => ?_⟩
   have := h.2 0 (by simp)
   simp [okI] at this
   exact absurd this c
theorem at_ints {xs : List Int} {i : Nat} (h : i < xs.length) : atI (xs.map U.int) (i : Int) = some (.int (xs.getD i 0)) := by
 rw [atI_cast, List.getElem?_map, List.getElem?_eq_getElem h]; simp [h]
theorem dig_comp {bs r : List Int} (h : r.length = bs.length) (ω : Om) : ∃ ns : List Int, cmpU (cstU (aName 0) (tfNot (tfB (eChain uLe uLt (eC (.int 0)) (eOp uIx (eVar 1) (eVar 0)) (eOp uIx (eVar 2) (eVar 0))))) (eVar 0) [none, some (.tup (r.map U.int)), some (.tup (bs.map U.int))]) (rngU 0 bs.length) ω = .ok (ns.map U.int) ω ∧ (ns = [] ↔ ∀ i : Nat, i < bs.length → okI bs r i = true) := by
 refine ⟨((List.range bs.length).filter fun i => !okI bs r i).map fun i : Nat => (i : Int), ?_, ?_⟩
 ·refine (cmpU_rngF (f := fun i => if okI bs r i = true then none else some (U.int (i : Int))) fun i hi => ?_).trans ?_
  ·have hz : (0 : Int) + (i : Int) = (i : Int) := by lia
   rw [hz]
   walk_at "ev"
   rw [at_ints (by lia)]
   walk_at "ev"
   unfold okI
   by_cases c1 : 0 ≤ r.getD i 0
   ·rw [if_pos c1, at_ints hi]
    walk_at "ev"
    by_cases c2 : r.getD i 0 < bs.getD i 0
    ·rw [if_neg (by simpa using c2), if_pos (by simp only [decide_eq_true c1, decide_eq_true c2]; rfl)]
    ·rw [if_pos (by simpa using c2), if_neg (by simp only [decide_eq_false c2]; simp)]
   ·rw [if_neg c1]
    walk_at "ev"
    rw [if_neg (by simp only [decide_eq_false c1]; simp)]
  ·congr 1
   generalize List.range bs.length = L
   induction L with
   | nil => rfl
   | cons i L ih =>
    by_cases c : okI bs r i = true
    ·simp [c, ih]
    ·simp [c, ih]
 ·simp
theorem dd_nodup : ∀ (rs acc : List (List Int)), (rs.foldl addR acc).length = acc.length + rs.length ↔ rs.Nodup ∧ ∀ r ∈ rs, r ∉ acc
 | [], acc => by simp
 | r :: rs, acc => by
  have hl := foldR_len rs (addR acc r)
  rw [List.foldl_cons, List.nodup_cons]
  by_cases c : r ∈ acc
  ·have e : addR acc r = acc := by unfold addR; rw [if_pos c]
   rw [e] at hl ⊢
   constructor
   ·intro h; rw [List.length_cons] at h; lia
   ·intro h; exact absurd c (h.2 r (by simp))
  ·have e : addR acc r = acc ++ [r] := by unfold addR; rw [if_neg c]
   rw [e]
   have ih := dd_nodup rs (acc ++ [r])
   have e2 : (acc ++ [r]).length + rs.length = acc.length + (r :: rs).length := by simp; lia
   rw [e2] at ih
   rw [ih]
   constructor
   ·rintro ⟨h1, h2⟩
    refine ⟨⟨fun z => ?_, h1⟩, fun q hq => ?_⟩
    ·have := h2 r z; simp at this
    ·rcases List.mem_cons.mp hq with rfl | hq
     ·exact c
     ·intro z; exact h2 q hq (List.mem_append_left _ z)
   ·rintro ⟨⟨h1, h2⟩, h3⟩
    refine ⟨h2, fun q hq z => ?_⟩
    rcases List.mem_append.mp z with z | z
    ·exact h3 q (List.mem_cons_of_mem _ hq) z
    ·rw [List.mem_singleton] at z; subst z; exact h1 hq
theorem ddT_nodup {rs : List (List Int)} : (ddT rs).length = rs.length ↔ rs.Nodup := by
 have := dd_nodup rs []
 simpa [ddT] using this
theorem sum_nn : ∀ {ns : List Int}, (∀ x ∈ ns, 0 ≤ x) → 0 ≤ ns.sum
 | [], _ => by simp
 | n :: ns, h => by
  have := sum_nn (ns := ns) fun x hx => h x (List.mem_cons_of_mem _ hx)
  have := h n (by simp)
  rw [List.sum_cons]; lia
theorem le_sum : ∀ {ns : List Int}, (∀ x ∈ ns, 0 ≤ x) → ∀ x ∈ ns, x ≤ ns.sum
 | n :: ns, h, x, hx => by
  have a := sum_nn (ns := ns) fun x hx => h x (List.mem_cons_of_mem _ hx)
  have b := h n (by simp)
  rw [List.sum_cons]
  rcases List.mem_cons.mp hx with rfl | hx
  ·lia
  ·have := le_sum (ns := ns) (fun x hx => h x (List.mem_cons_of_mem _ hx)) x hx; lia
theorem sum_zero : ∀ {ns : List Int}, (∀ x ∈ ns, x = 0) → ns.sum = 0
 | [], _ => rfl
 | n :: ns, h => by rw [List.sum_cons, h n (by simp), sum_zero fun x hx => h x (List.mem_cons_of_mem _ hx)]; rfl
theorem last_one {ns : List Int} (h : ∀ x ∈ ns, 0 ≤ x) (hs : ns.sum = 1) : (srt ns).drop ((srt ns).length - 1) = [1] := by
 have h1 : (1 : Int) ∈ ns := by
  by_cases c : (1 : Int) ∈ ns
  ·exact c
  ·have : ns.sum = 0 := sum_zero fun x hx => by
    have := h x hx
    have := le_sum h x hx
    by_cases z : x = 1
    ·exact absurd (z ▸ hx) c
    ·lia
   lia
 have p := srt_perm ns
 have w := srt_pw ns
 have m1 : (1 : Int) ∈ srt ns := p.mem_iff.mpr h1
 have m2 : ∀ x ∈ srt ns, x ≤ 1 := fun x hx => by have := le_sum h x (p.mem_iff.mp hx); lia
 generalize srt ns = L at w m1 m2
 rcases List.eq_nil_or_concat L with e | ⟨xs, x, e⟩
 ·rw [e] at m1; simp at m1
 ·rw [List.concat_eq_append] at e
  subst e
  rw [List.length_append, List.length_singleton, Nat.add_sub_cancel, List.drop_left]
  have a := m2 x (by simp)
  rcases List.mem_append.mp m1 with z | z
  ·have := (List.pairwise_append.mp w).2.2 1 z x (by simp); congr 1; lia
  ·rw [List.mem_singleton] at z; rw [z]
theorem zip_rng : ∀ (a b : List Int), a.length = b.length → ((List.range a.length).map fun i => ab (a.getD i 0 - b.getD i 0)) = (a.zip b).map fun p => ab (p.1 - p.2)
 | [], [], _ => rfl
 | x :: a, y :: b, h => by
  rw [List.length_cons, List.range_succ_eq_map, List.map_cons, List.map_map, List.zip_cons_cons, List.map_cons, ← zip_rng a b (by simpa using h)]
  rfl
 | [], _ :: _, h => by simp at h
 | _ :: _, [], h => by simp at h
theorem ab_nn (x : Int) : 0 ≤ ab x := by unfold ab; by_cases c : x < 0 <;> simp only [c, if_true, if_false] <;> lia
theorem cut_l1 {us : List U} : cutG us (some (-1)) none = us.drop (us.length - 1) := by
 unfold cutG HT.sIx
 simp only
 rw [if_pos (by decide)]
 rw [show (-1 + (us.length : Int)).toNat = us.length - 1 by lia]
 exact List.take_of_length_le (by simp)
theorem cut_i1 {us : List U} : cutG us none (some (-1)) = us.take (us.length - 1) := by
 unfold cutG HT.sIx
 simp only
 rw [if_pos (by decide)]
 rw [show (-1 + (us.length : Int)).toNat = us.length - 1 by lia]
 simp
theorem F_lnext_eq {a b : List Int} (h : a.length = b.length) (hl : a.length < 64) (ω : Om) : F_q11 [uRow a, uRow b] ω = .ok (.bl (nx a b)) ω := by
 have sl : sizeLine = 16777216 := sizeLine_eq
 have cmp : cmpU (cstU (aName 0) tfTrue (eB uAbs (aCons (eOp uSub (eOp uIx (eVar 1) (eVar 0)) (eOp uIx (eVar 2) (eVar 0))) aNil)) [none, some (.tup (a.map U.int)), some (.tup (b.map U.int))]) (rngU 0 a.length) ω = .ok (((a.zip b).map fun p => ab (p.1 - p.2)).map U.int) ω := by
  rw [← zip_rng a b h]
  refine (cmpU_rng (f := fun i => U.int (ab (a.getD i 0 - b.getD i 0))) fun i hi => ?_).trans (by rw [List.map_map]; rfl)
  have hz : (0 : Int) + (i : Int) = (i : Int) := by lia
  rw [hz]
  walk_at "ev"
  rw [at_ints hi]
  walk_at "ev"
  rw [at_ints (by lia)]
  walk_at "ev"
  rfl
 unfold F_q11 g_q11 uRow
 walk_at "ev"
 rw [Int.toNat_natCast, cmp]
 generalize hL : ((a.zip b).map fun p => ab (p.1 - p.2)) = L
 have ln : L.length < 64 := by rw [← hL]; simp; lia
 have nn : ∀ x ∈ L, 0 ≤ x := by
  intro x hx
  rw [← hL] at hx
  obtain ⟨p, _, rfl⟩ := List.mem_map.mp hx
  exact ab_nn _
 have hd : dst a b = L.sum := by rw [dst_zip, hL]
 walk_at "ev"
 rw [cut_l1, List.length_map, ← List.map_drop, show ([U.int 1] : List U) = ([1] : List Int).map U.int from rfl, uEq_ll, uSum_l]
 walk_at "ev"
 unfold nx
 rw [hd]
 by_cases c : L.sum = 1
 ·rw [if_pos (last_one nn c)]
  rfl
 ·rw [decide_eq_false c]
  by_cases c2 : (srt L).drop ((srt L).length - 1) = [1]
  ·rw [if_pos c2]; rfl
  ·rw [if_neg c2]; rfl
noncomputable def gdR (bs : List Int) (rs seen : List (List Int)) : Prop := (∀ r ∈ rs, am bs r = none) ∧ rs.Nodup ∧ ∀ r ∈ rs, r ∉ seen
theorem shown_loop {bs : List Int} (hb : bs.length ≤ 1000) (B n4 n5 : Option U) : ∀ (rs seen : List (List Int)) (y : Option U), (∀ r ∈ rs, r.length ≤ 1000) → seen.length + rs.length ≤ 1000 →
  (gdR bs rs seen → ∃ y', forU (stepU (aName 3) B_q7_0) (rs.map uRow) [some (.tup (bs.map U.int)), B, some .pile, y, n4, n5] (encR seen) = .nx [some (.tup (bs.map U.int)), B, some .pile, y', n4, n5] (encR (seen ++ rs))) ∧
  (¬ gdR bs rs seen → ∃ ω', forU (stepU (aName 3) B_q7_0) (rs.map uRow) [some (.tup (bs.map U.int)), B, some .pile, y, n4, n5] (encR seen) = .rt (.bl false) ω')
 | [], seen, y, _, _ => ⟨fun ψ => ⟨y, by rw [List.append_nil]; rfl⟩, fun h => absurd ⟨fun r hr => absurd hr (by simp), List.nodup_nil, fun r hr => absurd hr (by simp)⟩ h⟩
 | r :: rs, seen, y, hl, hs => by
  have sl : sizeLine = 16777216 := sizeLine_eq
  simp at hs
  have ih := shown_loop hb B n4 n5 rs (seen ++ [r]) (some (uRow r)) (fun q hq => hl q (List.mem_cons_of_mem _ hq)) (by simp; lia)
  have h1 := hl r (by simp)
  have hc : gdR bs (r :: rs) seen ↔ am bs r = none ∧ r ∉ seen ∧ gdR bs rs (seen ++ [r]) := by
   unfold gdR
   constructor
   ·rintro ⟨a, b, c⟩
    have b' := List.nodup_cons.mp b
    refine ⟨a r (by simp), c r (by simp), fun q hq => a q (List.mem_cons_of_mem _ hq), b'.2, fun q hq z => ?_⟩
    rcases List.mem_append.mp z with z | z
    ·exact c q (List.mem_cons_of_mem _ hq) z
    ·rw [List.mem_singleton] at z; subst z; exact b'.1 hq
   ·rintro ⟨a, b, c, d, e⟩
    refine ⟨fun q hq => ?_, List.nodup_cons.mpr ⟨fun z => e r z (by simp), d⟩, fun q hq z => ?_⟩
    ·rcases List.mem_cons.mp hq with rfl | hq
     ·exact a
     ·exact c q hq
    ·rcases List.mem_cons.mp hq with rfl | hq
     ·exact b z
     ·exact e q hq (List.mem_append_left _ z)
  rw [List.map_cons, forU, B_q7_0]
  have bad : ∀ {x : Fl} {ω' : Om}, (¬ (am bs r = none ∧ r ∉ seen)) → x = .rt (.bl false) ω' → (gdR bs (r :: rs) seen → ∃ y', x = .nx [some (.tup (bs.map U.int)), B, some .pile, y', n4, n5] (encR (seen ++ r :: rs))) ∧ (¬ gdR bs (r :: rs) seen → ∃ ω', x = .rt (.bl false) ω') := fun {x ω'} hn e =>
   ⟨fun g => absurd ⟨(hc.mp g).1, (hc.mp g).2.1⟩ hn, fun ψ => ⟨ω', e⟩⟩
  by_cases c1 : r.length = bs.length
  ·by_cases c2 : r ∈ seen
   ·refine bad (fun z => z.2 c2) (ω' := encR seen) ?_
    walk_at "ev"
    rw [uRow]
    walk_at "ev"
    rw [c1]
    walk_at "ev"
    rw [if_pos c2]
    walk_at "ev"
   ·obtain ⟨ns, e, hn⟩ := dig_comp c1 (encR seen)
    by_cases c3 : ns = []
    ·have ha : am bs r = none := am_none.mpr ⟨c1, hn.mp c3⟩
     have hg : gdR bs (r :: rs) seen ↔ gdR bs rs (seen ++ [r]) := hc.trans ⟨fun z => z.2.2, fun z => ⟨ha, c2, z⟩⟩
     have hput : sRPt 2 3 [some (.tup (bs.map U.int)), B, some .pile, some (uRow r), n4, n5] (encR seen) = .nx [some (.tup (bs.map U.int)), B, some .pile, some (uRow r), n4, n5] (encR (seen ++ [r])) := sRPt_enc rowU_t isP_p c2 (by lia)
     rw [hg, show seen ++ r :: rs = seen ++ [r] ++ rs by simp]
     unfold uRow at hput ih ⊢
     walk_at "ev"
     rw [c1]
     walk_at "ev"
     rw [if_neg c2]
     walk_at "ev"
     rw [Int.toNat_natCast, e]
     walk_at "ev"
     rw [uNe_l0]
     walk_at "ev"
     rw [if_neg (by simp [c3])]
     walk_at "ev"
     rw [hput]
     rw [← B_q7_0]
     exact ih
    ·have ha : am bs r ≠ none := fun z => c3 (hn.mpr (am_none.mp z).2)
     refine bad (fun z => ha z.1) (ω' := encR seen) ?_
     walk_at "ev"
     rw [uRow]
     walk_at "ev"
     rw [c1]
     walk_at "ev"
     rw [if_neg c2]
     walk_at "ev"
     rw [Int.toNat_natCast, e]
     walk_at "ev"
     rw [uNe_l0]
     walk_at "ev"
     rw [if_pos (by simp [c3])]
     walk_at "ev"
  ·refine bad (fun z => c1 (am_len z.1)) (ω' := encR seen) ?_
   walk_at "ev"
   rw [uRow]
   walk_at "ev"
   rw [if_pos (by lia)]
   walk_at "ev"
theorem pair_loop {bs : List Int} (hb : bs.length < 64) (A B C D : Option U) (ω : Om) : ∀ (ps : List (List Int × List Int)) (x y : Option U), (∀ p ∈ ps, p.1.length = bs.length ∧ p.2.length = bs.length) →
  ((ps.all fun p => nx p.1 p.2) = true → ∃ x' y', forU (stepU (aTup 2 (aConsT (aName 4) (aConsT (aName 5) aNilT))) B_q7_1) (ps.map pR) [A, B, C, D, x, y] ω = .nx [A, B, C, D, x', y'] ω) ∧
  ((ps.all fun p => nx p.1 p.2) = false → forU (stepU (aTup 2 (aConsT (aName 4) (aConsT (aName 5) aNilT))) B_q7_1) (ps.map pR) [A, B, C, D, x, y] ω = .rt (.bl false) ω)
 | [], x, y, _ => ⟨fun ψ => ⟨x, y, rfl⟩, fun h => by simp at h⟩
 | p :: ps, x, y, h => by
  have ih := pair_loop hb A B C D ω ps (some (uRow p.1)) (some (uRow p.2)) fun q hq => h q (List.mem_cons_of_mem _ hq)
  have hp := h p (by simp)
  rw [List.map_cons, forU, B_q7_1, pR]
  walk_at "ev"
  rw [F_lnext_eq (by lia) (by lia)]
  rw [List.all_cons]
  cases c : nx p.1 p.2 with
  | true =>
   walk_at "ev"
   rw [← B_q7_1, Bool.true_and]
   exact ih
  | false =>
   walk_at "ev"
   simp
theorem zip_take {α β : Type} : ∀ (xs : List α) (ys : List β) (n : Nat), ys.length ≤ n → (xs.take n).zip ys = xs.zip ys
 | [], _, _, _ => by simp
 | _ :: _, [], _, _ => by simp
 | x :: xs, y :: ys, n + 1, h => by
  rw [List.take_succ_cons, List.zip_cons_cons, List.zip_cons_cons, zip_take xs ys n (by simpa using h)]
 | _ :: _, _ :: _, 0, h => by simp at h
theorem zip_init (rs : List (List Int)) : (rs.take (rs.length - 1)).zip (rs.drop 1) = rs.zip (rs.drop 1) := zip_take _ _ _ (by simp)
theorem noPs_rows : ∀ rs : List (List Int), noPs (rs.map uRow) = true
 | [] => by rw [List.map_nil, noPs]
 | r :: rs => by rw [List.map_cons, noPs, uRow, noP, noPs_ints, noPs_rows rs]; rfl
theorem F_shown_eq {bs : List Int} {rs : List (List Int)} (h : Bs bs) (hb : bs.length < 64) (hl : rs.length ≤ 1000) (hr : ∀ r ∈ rs, r.length ≤ 1000) (ω : Om) : F_q7 [.tup (bs.map U.int), .lst (rs.map uRow)] ω = .ok (.bl (isR bs rs)) ω := by
 have sl : sizeLine = 16777216 := sizeLine_eq
 have lp := shown_loop (bs := bs) (by lia) (some (.lst (rs.map uRow))) none none rs [] none hr (by simp; lia)
 have hno : noE [some (.tup (bs.map U.int)), some (.lst (rs.map uRow)), none, none, none, none] = true := by
  simp only [noE, noP, noPs_ints, noPs_rows, Bool.and_self]
 have hi : isR bs rs = true ↔ gdR bs rs [] ∧ adj rs = true ∧ (rs.length : Int) = pr bs := by
  unfold isR gdR
  simp only [Bool.and_eq_true, decide_eq_true_eq, ddT_nodup, List.all_eq_true, Option.isNone_iff_eq_none]
  constructor
  ·rintro ⟨⟨⟨a, b⟩, c⟩, d⟩
   exact ⟨⟨b, c, fun r ψ z => by simp at z⟩, d, a⟩
  ·rintro ⟨⟨b, c, _⟩, d, a⟩
   exact ⟨⟨⟨a, b⟩, c⟩, d⟩
 unfold F_q7 g_q7
 rw [runU_end]
 show endF (sDict 2 _ [some (.tup (bs.map U.int)), some (.lst (rs.map uRow)), none, none, none, none] ω) = _
 rw [sDict_ap hno]
 simp only [List.set_cons_succ, List.set_cons_zero]
 rw [show (⟨[], []⟩ : Om) = encR [] from rfl]
 by_cases c1 : gdR bs rs []
 ·obtain ⟨y, e⟩ := lp.1 c1
  walk_at "ev"
  rw [e]
  walk_at "ev"
  rw [cutF1, cut_i1, List.length_map, ← List.map_drop, ← List.map_take]
  walk_at "ev"
  rw [zip_R, zip_init]
  have pl := pair_loop hb (some (.tup (bs.map U.int))) (some (.lst (rs.map uRow))) (some .pile) y (encR rs) (rs.zip (rs.drop 1)) none none (fun p hp => by
   have hm := List.of_mem_zip (a := p.1) (b := p.2) hp
   exact ⟨am_len (c1.1 _ hm.1), am_len (c1.1 _ (List.mem_of_mem_drop hm.2))⟩)
  by_cases c2 : adj rs = true
  ·obtain ⟨x', y', e2⟩ := pl.1 c2
   rw [e2]
   walk_at "ev"
   rw [F_many_eq h]
   walk_at "ev"
   rw [bckF_rt rfl]
   by_cases c3 : (rs.length : Int) = pr bs
   ·rw [decide_eq_true c3, hi.mpr ⟨c1, c2, c3⟩]; rfl
   ·have : isR bs rs = false := (Bool.not_eq_true _).mp fun z => c3 (hi.mp z).2.2
    rw [decide_eq_false c3, this]; rfl
  ·have c2' := (Bool.not_eq_true _).mp c2
   rw [pl.2 c2']
   walk_at "ev"
   rw [bckF_rt rfl]
   have : isR bs rs = false := (Bool.not_eq_true _).mp fun z => c2 (hi.mp z).2.1
   rw [this]; rfl
 ·obtain ⟨ω', e⟩ := lp.2 c1
  walk_at "ev"
  rw [e]
  walk_at "ev"
  rw [bckF_rt rfl]
  have : isR bs rs = false := (Bool.not_eq_true _).mp fun z => c1 (hi.mp z).1
  rw [this]; rfl
theorem pr_snoc (bs : List Int) (b : Int) : pr (bs ++ [b]) = pr bs * b := by rw [pr_app, pr, pr, Int.mul_one]
structure BO (bs : List Int) (M : Int) (n : Nat) : Prop where
 b2 : Bs bs
 p2 : pr bs ≤ M
 ln : bs.length ≤ n
theorem BO.snoc {bs : List Int} {M b : Int} {n : Nat} (h : BO bs M n) (h0 : 2 ≤ b) (h1 : b ≤ 9) (hp : pr bs * b ≤ M) : BO (bs ++ [b]) M (n + 1) := ⟨fun c hc => by
 rcases List.mem_append.mp hc with k | k
 ·exact h.b2 c k
 ·simp at k; lia, by rw [pr_snoc]; exact hp, by have := h.ln; simp; lia⟩
theorem lb_step {ns : List Int} (hn : ns.length ≤ 63) {M hd : Int} (hM : M ≤ 1000) (k : Int) (k0 : 0 ≤ k) (k1 : k < 100) {bs : List Int} {n : Nat} (h : BO bs M n) (hl : n ≤ 100) (x z : Option U) (ω : Om) :
  ∃ (bs' : List Int) (z' : Option U), B_q5_0 [some (.scr ns), some (.int 0), some (.int M), some (.lst (bs.map U.int)), some (.int (pr bs)), some (.int hd), some (.int k), z] ω = .nx [some (.scr ns), some (.int 0), some (.int M), some (.lst (bs'.map U.int)), some (.int (pr bs')), some (.int hd), some (.int k), z'] ω ∧ BO bs' M (n + 1) := by
 have sl : sizeLine = 16777216 := sizeLine_eq
 have pp := pr_pos h.b2
 have hp := h.p2
 have hln := h.ln
 have nb := num_b hn (k := 1 + k) (by lia) (by lia)
 obtain ⟨m, em, m0, m1⟩ : ∃ m : Int, ([8, 2] : List Int).getD (if hd / 5 % 4 = 2 then (1 : Int) else 0).toNat 0 = m ∧ 2 ≤ m ∧ m ≤ 8 := by
  by_cases c : hd / 5 % 4 = 2
  ·exact ⟨2, by rw [if_pos c]; rfl, by decide, by decide⟩
  ·exact ⟨8, by rw [if_neg c]; rfl, by decide, by decide⟩
 have r0 := Int.emod_nonneg (num ns (1 + k)) (show m ≠ 0 by lia)
 have r1 := Int.emod_lt_of_pos (num ns (1 + k)) (show 0 < m by lia)
 rw [B_q5_0]
 walk_at "ev"
 rw [num_eq hn (by lia) (by lia)]
 walk_at "ev"
 rw [em]
 walk_at "ev"
 by_cases c1 : M < pr bs * (2 + num ns (1 + k) % m)
 ·rw [if_pos c1]
  walk_at "ev"
  rw [num_eq hn (by lia) (by lia)]
  walk_at "ev"
  by_cases c2 : pr bs * (2 + num ns (1 + k) % 2) ≤ M
  ·rw [if_pos c2]
   walk_at "ev"
   refine ⟨bs ++ [2 + num ns (1 + k) % 2], some (.int (2 + num ns (1 + k) % 2)), ?_, h.snoc (by lia) (by lia) c2⟩
   rw [pr_snoc]; simp
  ·rw [if_neg c2]
   exact ⟨bs, _, rfl, ⟨h.b2, h.p2, by lia⟩⟩
 ·rw [if_neg c1]
  walk_at "ev"
  rw [if_pos (by lia)]
  walk_at "ev"
  refine ⟨bs ++ [2 + num ns (1 + k) % m], some (.int (2 + num ns (1 + k) % m)), ?_, h.snoc (by lia) (by lia) (by lia)⟩
  rw [pr_snoc]; simp
theorem lb_loop {ns : List Int} (hn : ns.length ≤ 63) {M hd : Int} (hM : M ≤ 1000) : ∀ (xs : List Int) (bs : List Int) (n : Nat) (x z : Option U) (ω : Om), (∀ k ∈ xs, 0 ≤ k ∧ k < 100) → BO bs M n → n + xs.length ≤ 100 →
  ∃ (bs' : List Int) (x' z' : Option U), forU (stepU (aName 6) B_q5_0) (xs.map U.int) [some (.scr ns), some (.int 0), some (.int M), some (.lst (bs.map U.int)), some (.int (pr bs)), some (.int hd), x, z] ω = .nx [some (.scr ns), some (.int 0), some (.int M), some (.lst (bs'.map U.int)), some (.int (pr bs')), some (.int hd), x', z'] ω ∧ BO bs' M (n + xs.length)
 | [], bs, n, x, z, ω, _, h, _ => ⟨bs, x, z, rfl, h⟩
 | k :: xs, bs, n, x, z, ω, hk, h, hl => by
  simp at hl
  have k1 := hk k (by simp)
  obtain ⟨bs1, z1, e1, h1⟩ := lb_step hn (hd := hd) hM k k1.1 k1.2 h (by lia) x z ω
  obtain ⟨bs2, x2, z2, e2, h2⟩ := lb_loop hn (hd := hd) hM xs bs1 (n + 1) (some (.int k)) z1 ω (fun q hq => hk q (List.mem_cons_of_mem _ hq)) h1 (by lia)
  refine ⟨bs2, x2, z2, ?_, ⟨h2.b2, h2.p2, by have := h2.ln; simp; lia⟩⟩
  rw [List.map_cons, forU, stepU_ap, aName_ap]
  simp only [List.set_cons_succ, List.set_cons_zero]
  rw [e1]
  exact e2
theorem rng_ints {lo : Int} {n : Nat} : rngU lo n = ((List.range n).map fun i : Nat => lo + (i : Int)).map U.int := by
 unfold rngU; rw [List.map_map]; rfl
theorem bases_ex {ns : List Int} (hn : ns.length ≤ 63) {M : Int} (hM0 : 1 ≤ M) (hM : M ≤ 1000) (ω : Om) : ∃ bs : List Int, F_q5 [.scr ns, .int 0, .int M] ω = .ok (.tup (bs.map U.int)) ω ∧ BO bs M 8 := by
 have nb := num_b hn (k := 0) (by decide) (by decide)
 obtain ⟨m, em, m0, m1⟩ : ∃ m : Int, ([1 + num ns 0 % 5, 6 + num ns 0 / 20 % 3] : List Int).getD (if num ns 0 / 5 % 4 = 2 then (1 : Int) else 0).toNat 0 = m ∧ 1 ≤ m ∧ m ≤ 8 := by
  by_cases c : num ns 0 / 5 % 4 = 2
  ·exact ⟨6 + num ns 0 / 20 % 3, by rw [if_pos c]; rfl, by lia, by lia⟩
  ·exact ⟨1 + num ns 0 % 5, by rw [if_neg c]; rfl, by lia, by lia⟩
 obtain ⟨bs, x, z, e, h⟩ := lb_loop hn (hd := num ns 0) hM ((List.range m.toNat).map fun i : Nat => 0 + (i : Int)) [] 0 none none ω (fun k hk => by
  obtain ⟨i, hi, rfl⟩ := List.mem_map.mp hk
  have := List.mem_range.mp hi
  lia) ⟨fun b hb => by simp at hb, hM0, by decide⟩ (by simp; lia)
 have hl := h.ln
 simp at hl
 refine ⟨bs, ?_, ⟨h.b2, h.p2, by lia⟩⟩
 unfold F_q5 g_q5
 walk_at "ev"
 rw [num_eq hn (by decide) (by decide)]
 walk_at "ev"
 rw [em]
 walk_at "ev"
 rw [rng_ints]
 simp only [List.map_nil, pr] at e
 rw [e]
 walk_at "ev"
theorem ab_s (x y : Int) : ab (x - y) = ab (y - x) := by unfold ab; by_cases c : x - y < 0 <;> by_cases d : y - x < 0 <;> simp only [c, d, if_true, if_false] <;> lia
theorem dst_s : ∀ a b : List Int, dst a b = dst b a
 | [], b => by cases b <;> simp [dst]
 | _ :: _, [] => by simp [dst]
 | x :: a, y :: b => by
  have := dst_s a b
  unfold dst at this ⊢
  rw [List.zipWith_cons_cons, List.zipWith_cons_cons, List.sum_cons, List.sum_cons, this, ab_s]
theorem nx_s (a b : List Int) : nx a b = nx b a := by unfold nx; rw [dst_s]
theorem dst_0 : ∀ a : List Int, dst a a = 0
 | [] => rfl
 | x :: a => by
  have := dst_0 a
  unfold dst at this ⊢
  rw [List.zipWith_cons_cons, List.sum_cons, this, Int.sub_self]; rfl
theorem dst_app : ∀ (a b c d : List Int), a.length = b.length → dst (a ++ c) (b ++ d) = dst a b + dst c d
 | [], [], c, d, _ => by simp [dst]
 | x :: a, y :: b, c, d, h => by
  have := dst_app a b c d (by simpa using h)
  unfold dst at this ⊢
  rw [List.cons_append, List.cons_append, List.zipWith_cons_cons, List.zipWith_cons_cons, List.sum_cons, List.sum_cons, this]; lia
 | [], _ :: _, _, _, h => by simp at h
 | _ :: _, [], _, _, h => by simp at h
theorem nx_one {pre post : List Int} {x d : Int} (h : d = 1 ∨ d = -1) : nx (pre ++ x :: post) (pre ++ (x + d) :: post) = true := by
 unfold nx
 have e : dst (x :: post) ((x + d) :: post) = 1 := by
  have := dst_0 post
  unfold dst at this ⊢
  rw [List.zipWith_cons_cons, List.sum_cons, this]
  rcases h with rfl | rfl
  ·rw [show x - (x + 1) = -1 by lia]; rfl
  ·rw [show x - (x + -1) = 1 by lia]; rfl
 rw [dst_app _ _ _ _ rfl, dst_0, e]; rfl
noncomputable def chn : List (List Int) → Prop
 | a :: b :: r => nx a b = true ∧ chn (b :: r)
 | _ => True
theorem adj_chn : ∀ rs : List (List Int), adj rs = true ↔ chn rs
 | [] => by simp [adj, chn]
 | [a] => by simp [adj, chn]
 | a :: b :: r => by
  have ih := adj_chn (b :: r)
  rw [chn, ← ih]
  unfold adj
  simp
theorem chn_app : ∀ (xs ys : List (List Int)), chn (xs ++ ys) ↔ chn xs ∧ chn ys ∧ ∀ x y, xs.getLast? = some x → ys.head? = some y → nx x y = true
 | [], ys => by simp [chn]
 | [a], [] => by simp [chn]
 | [a], y :: ys => by simp [chn, and_comm]
 | a :: b :: r, ys => by
  have ih := chn_app (b :: r) ys
  rw [List.cons_append, List.cons_append, chn, chn, ← List.cons_append, ih, List.getLast?_cons_cons, and_assoc]
theorem chn_rev : ∀ xs : List (List Int), chn xs → chn xs.reverse
 | [], _ => by simp [chn]
 | [a], _ => by simp [chn]
 | a :: b :: r, h => by
  rw [chn] at h
  rw [List.reverse_cons, chn_app]
  refine ⟨chn_rev (b :: r) h.2, by simp [chn], fun x y hx hy => ?_⟩
  rw [List.getLast?_reverse] at hx
  simp at hx hy
  rw [← hx, ← hy, nx_s]; exact h.1
theorem chn_map {f : List Int → List Int} : ∀ xs : List (List Int), (∀ a ∈ xs, ∀ b ∈ xs, nx a b = true → nx (f a) (f b) = true) → chn xs → chn (xs.map f)
 | [], _, _ => by simp [chn]
 | [a], _, _ => by simp [chn]
 | a :: b :: r, h, c => by
  rw [chn] at c
  rw [List.map_cons, List.map_cons, chn, ← List.map_cons]
  exact ⟨h a (by simp) b (by simp) c.1, chn_map (b :: r) (fun x hx y hy => h x (List.mem_cons_of_mem _ hx) y (List.mem_cons_of_mem _ hy)) c.2⟩
theorem chn_rng {f : Nat → List Int} : ∀ (n k : Nat), (∀ i, k ≤ i → i + 1 < k + n → nx (f i) (f (i + 1)) = true) → chn ((List.range' k n).map f)
 | 0, _, _ => by simp [chn]
 | 1, _, _ => by simp [chn, List.range'_succ]
 | n + 2, k, h => by
  have ih := chn_rng (f := f) (n + 1) (k + 1) fun i h1 h2 => h i (by lia) (by lia)
  rw [List.range'_succ, List.map_cons] at ih ⊢
  rw [List.range'_succ, List.map_cons, chn]
  exact ⟨h k (by lia) (by lia), ih⟩
theorem last_get {rs : List (List Int)} (h : 0 < rs.length) : rs.getLast? = some (lastR rs) := by
 unfold lastR
 rw [List.getLast?_eq_getElem?, List.getD_eq_getElem?_getD, List.getElem?_eq_getElem (show rs.length - 1 < rs.length by lia)]
 rfl
theorem head_get {rs : List (List Int)} (h : 0 < rs.length) : rs.head? = some (rs.getD 0 []) := by
 cases rs with
 | nil => simp at h
 | cons r rs => rfl
theorem isR_iff {bs : List Int} {rs : List (List Int)} : isR bs rs = true ↔ (rs.length : Int) = pr bs ∧ (∀ r ∈ rs, am bs r = none) ∧ rs.Nodup ∧ chn rs := by
 unfold isR
 simp only [Bool.and_eq_true, decide_eq_true_eq, ddT_nodup, List.all_eq_true, Option.isNone_iff_eq_none, adj_chn, and_assoc]
structure Ring (bs : List Int) (rs : List (List Int)) : Prop where
 r : isR bs rs = true
 p : 0 < rs.length
 c : nx (lastR rs) (rs.getD 0 []) = true
noncomputable def rowsN (bs : List Int) (n : Nat) : List (List Int) := (List.range n).map fun i : Nat => rw' bs (i : Int)
noncomputable def allR (bs : List Int) : List (List Int) := rowsN bs (pr bs).toNat
theorem am_fit : ∀ {bs ds : List Int}, Fit bs ds → am bs ds = none
 | [], [], _ => rfl
 | b :: bs, d :: ds, h => by rw [am, if_pos ⟨h.1, h.2.1⟩, am_fit h.2.2]; rfl
 | [], _ :: _, h => by exact h.elim
 | _ :: _, [], h => by exact h.elim
theorem row_ok {bs : List Int} (h : Bs bs) (s : Int) : am bs (rw' bs s) = none := am_fit (fit_rw bs s h)
theorem chn_rows {bs : List Int} (h : Bs bs) {n : Nat} (hn : (n : Int) ≤ pr bs) : chn (rowsN bs n) := by
 unfold rowsN
 rw [List.range_eq_range']
 refine chn_rng n 0 fun i ψ hi => ?_
 obtain ⟨pre, x, post, d, e1, e2, _, hd⟩ := next_row bs (i : Int) 0 h (by lia) (by lia)
 rw [e1, show ((i + 1 : Nat) : Int) = (i : Int) + 1 by lia, e2]
 exact nx_one hd
theorem nd_rows {bs : List Int} (h : Bs bs) {n : Nat} (hn : (n : Int) ≤ pr bs) : (rowsN bs n).Nodup := by
 unfold rowsN List.Nodup
 rw [List.pairwise_map]
 refine List.Pairwise.imp_of_mem ?_ List.nodup_range
 intro a b ha hb hne e
 have h1 := List.mem_range.mp ha
 have h2 := List.mem_range.mp hb
 have e1 := stp_rw bs (a : Int) h (by lia) (by lia)
 have e2 := stp_rw bs (b : Int) h (by lia) (by lia)
 rw [e, e2] at e1
 exact hne (by lia)
theorem len_allR {bs : List Int} (h : Bs bs) : ((allR bs).length : Int) = pr bs := by
 have := pr_pos h
 unfold allR rowsN; simp; lia
theorem allR_isR {bs : List Int} (h : Bs bs) : isR bs (allR bs) = true := by
 have pp := pr_pos h
 refine isR_iff.mpr ⟨len_allR h, fun r hr => ?_, nd_rows h (by lia), chn_rows h (by lia)⟩
 obtain ⟨i, _, rfl⟩ := List.mem_map.mp hr
 exact row_ok h _
noncomputable def wd (w : List Int) (e : Nat) (d : Int) : List Int := w.take e ++ d :: w.drop e
theorem wd_dst {w w' : List Int} {e : Nat} {d d' : Int} (h : w.length = w'.length) : dst (wd w e d) (wd w' e d') = dst w w' + ab (d - d') := by
 have ht : (w.take e).length = (w'.take e).length := by simp [h]
 have e1 : dst w w' = dst (w.take e) (w'.take e) + dst (w.drop e) (w'.drop e) := by
  rw [← dst_app _ _ _ _ ht, List.take_append_drop, List.take_append_drop]
 unfold wd
 rw [dst_app _ _ _ _ ht, e1]
 have e2 : dst (d :: w.drop e) (d' :: w'.drop e) = ab (d - d') + dst (w.drop e) (w'.drop e) := by
  unfold dst; rw [List.zipWith_cons_cons, List.sum_cons]
 rw [e2]; lia
theorem nx_wd {w w' : List Int} {e : Nat} {d : Int} (h : w.length = w'.length) (n : nx w w' = true) : nx (wd w e d) (wd w' e d) = true := by
 unfold nx at n ⊢
 rw [wd_dst h, Int.sub_self]
 simpa [ab] using n
theorem nx_step {w : List Int} {e : Nat} {d : Int} : nx (wd w e d) (wd w e (d + 1)) = true := by
 unfold nx
 rw [wd_dst rfl, dst_0, show d - (d + 1) = -1 by lia]; rfl
theorem wd_inj {w w' : List Int} {e : Nat} {d d' : Int} (h : w.length = w'.length) (q : wd w e d = wd w' e d') : w = w' ∧ d = d' := by
 have ht : (w.take e).length = (w'.take e).length := by simp [h]
 obtain ⟨a, b⟩ := List.append_inj q ht
 injection b with b1 b2
 refine ⟨?_, b1⟩
 rw [← List.take_append_drop e w, ← List.take_append_drop e w', a, b2]
noncomputable def blkR (ws : List (List Int)) (e : Nat) (d : Nat) : List (List Int) := if d % 2 = 1 then (ws.map fun w => wd w e (d : Int)).reverse else ws.map fun w => wd w e (d : Int)
noncomputable def Rk (w0 : List Int) (ws : List (List Int)) (e : Nat) : Nat → List (List Int)
 | 0 => [wd w0 e 0]
 | k + 1 => Rk w0 ws e k ++ blkR ws e k
noncomputable def tlR (w0 : List Int) (e : Nat) : Nat → List (List Int)
 | 0 => []
 | n + 1 => wd w0 e ((n + 1 : Nat) : Int) :: tlR w0 e n
structure Way (w0 : List Int) (ws : List (List Int)) (m : Nat) : Prop where
 l0 : w0.length = m
 ln : ∀ w ∈ ws, w.length = m
 ch : chn (w0 :: ws)
 nd : (w0 :: ws).Nodup
 ne : 0 < ws.length
section
variable {w0 : List Int} {ws : List (List Int)} {m e : Nat} (W : Way w0 ws m)
theorem mem_blk {k : Nat} {r : List Int} (h : r ∈ blkR ws e k) : ∃ w ∈ ws, r = wd w e (k : Int) := by
 unfold blkR at h
 by_cases c : k % 2 = 1
 ·rw [if_pos c] at h
  obtain ⟨w, hw, rfl⟩ := List.mem_map.mp (List.mem_reverse.mp h)
  exact ⟨w, hw, rfl⟩
 ·rw [if_neg c] at h
  obtain ⟨w, hw, rfl⟩ := List.mem_map.mp h
  exact ⟨w, hw, rfl⟩
theorem len_blk {k : Nat} : (blkR ws e k).length = ws.length := by unfold blkR; by_cases c : k % 2 = 1 <;> simp [c]
theorem len_Rk : ∀ k : Nat, (Rk w0 ws e k).length = 1 + k * ws.length
 | 0 => by simp [Rk]
 | k + 1 => by rw [Rk, List.length_append, len_Rk k, len_blk, Nat.succ_mul]; lia
theorem len_tl : ∀ n : Nat, (tlR w0 e n).length = n
 | 0 => rfl
 | n + 1 => by rw [tlR, List.length_cons, len_tl n]
theorem mem_Rk : ∀ {k : Nat} {r : List Int}, r ∈ Rk w0 ws e k → r = wd w0 e 0 ∨ ∃ d : Nat, d < k ∧ ∃ w ∈ ws, r = wd w e (d : Int)
 | 0, r, h => by rw [Rk, List.mem_singleton] at h; exact .inl h
 | k + 1, r, h => by
  rw [Rk] at h
  rcases List.mem_append.mp h with h | h
  ·rcases mem_Rk h with h | ⟨d, h1, h2⟩
   ·exact .inl h
   ·exact .inr ⟨d, by lia, h2⟩
  ·exact .inr ⟨k, by lia, mem_blk h⟩
theorem mem_tl : ∀ {n : Nat} {r : List Int}, r ∈ tlR w0 e n → ∃ d : Nat, 1 ≤ d ∧ d ≤ n ∧ r = wd w0 e (d : Int)
 | 0, r, h => by simp [tlR] at h
 | n + 1, r, h => by
  rw [tlR] at h
  rcases List.mem_cons.mp h with h | h
  ·exact ⟨n + 1, by lia, by lia, h⟩
  ·obtain ⟨d, h1, h2, h3⟩ := mem_tl h
   exact ⟨d, h1, by lia, h3⟩
noncomputable def lastB (ws : List (List Int)) (e k : Nat) : List Int := if k % 2 = 1 then wd (ws.getD 0 []) e (k : Int) else wd (lastR ws) e (k : Int)
noncomputable def headB (ws : List (List Int)) (e k : Nat) : List Int := if k % 2 = 1 then wd (lastR ws) e (k : Int) else wd (ws.getD 0 []) e (k : Int)
include W
theorem blk_last (k : Nat) : (blkR ws e k).getLast? = some (lastB ws e k) := by
 have h1 := head_get W.ne
 have h2 := last_get W.ne
 unfold blkR lastB
 by_cases c : k % 2 = 1
 ·rw [if_pos c, if_pos c, List.getLast?_reverse, List.head?_map, h1]; rfl
 ·rw [if_neg c, if_neg c, List.getLast?_map, h2]; rfl
theorem blk_head (k : Nat) : (blkR ws e k).head? = some (headB ws e k) := by
 have h1 := head_get W.ne
 have h2 := last_get W.ne
 unfold blkR headB
 by_cases c : k % 2 = 1
 ·rw [if_pos c, if_pos c, List.head?_reverse, List.getLast?_map, h2]; rfl
 ·rw [if_neg c, if_neg c, List.head?_map, h1]; rfl
theorem Rk_last (k : Nat) : (Rk w0 ws e (k + 1)).getLast? = some (lastB ws e k) := by
 rw [Rk, List.getLast?_append, blk_last W, Option.some_or]
theorem w01 : nx w0 (ws.getD 0 []) = true ∧ chn ws := by
 have h := W.ch
 have hn := W.ne
 cases hw : ws with
 | nil => rw [hw] at hn; simp at hn
 | cons x xs => rw [hw, chn] at h; exact h
theorem chn_blk (k : Nat) : chn (blkR ws e k) := by
 have c := chn_map (f := fun w => wd w e (k : Int)) ws (fun a ha b hb n => nx_wd (by rw [W.ln a ha, W.ln b hb]) n) (w01 W).2
 unfold blkR
 by_cases z : k % 2 = 1
 ·rw [if_pos z]; exact chn_rev _ c
 ·rw [if_neg z]; exact c
theorem chn_Rk : ∀ k : Nat, chn (Rk w0 ws e k)
 | 0 => by simp [Rk, chn]
 | k + 1 => by
  rw [Rk, chn_app]
  refine ⟨chn_Rk k, chn_blk W k, fun x y hx hy => ?_⟩
  rw [blk_head W] at hy
  cases hy
  cases k with
  | zero =>
   simp only [Rk, List.getLast?_singleton] at hx
   cases hx
   unfold headB
   rw [if_neg (by decide)]
   exact nx_wd (by rw [W.l0, W.ln _ (first_mem W.ne)]) (w01 W).1
  | succ j =>
   rw [Rk_last W] at hx
   cases hx
   unfold headB lastB
   rw [show ((j + 1 : Nat) : Int) = (j : Int) + 1 by lia]
   by_cases c : j % 2 = 1
   ·rw [if_pos c, if_neg (by lia)]; exact nx_step
   ·rw [if_neg c, if_pos (by lia)]; exact nx_step
omit W in
theorem chn_tl : ∀ n : Nat, chn (tlR w0 e n)
 | 0 => by simp [tlR, chn]
 | 1 => by simp [tlR, chn]
 | n + 2 => by
  have ih := chn_tl (n + 1)
  rw [tlR] at ih ⊢
  rw [tlR, chn]
  refine ⟨?_, ih⟩
  rw [nx_s, show ((n + 1 + 1 : Nat) : Int) = ((n + 1 : Nat) : Int) + 1 by lia]
  exact nx_step
theorem nd_blk (k : Nat) : (blkR ws e k).Nodup := by
 have hw : ws.Nodup := (List.nodup_cons.mp W.nd).2
 have h : (ws.map fun w => wd w e (k : Int)).Nodup := by
  unfold List.Nodup
  rw [List.pairwise_map]
  refine List.Pairwise.imp_of_mem ?_ hw
  intro a b ha hb hne q
  exact hne (wd_inj (by rw [W.ln a ha, W.ln b hb]) q).1
 unfold blkR
 by_cases z : k % 2 = 1
 ·rw [if_pos z]; exact (List.reverse_perm _).nodup_iff.mpr h
 ·rw [if_neg z]; exact h
theorem nd_Rk : ∀ k : Nat, (Rk w0 ws e k).Nodup
 | 0 => by simp [Rk]
 | k + 1 => by
  rw [Rk, List.nodup_append]
  refine ⟨nd_Rk k, nd_blk W k, fun a ha b hb q => ?_⟩
  obtain ⟨w, hw, rfl⟩ := mem_blk hb
  have hn := (List.nodup_cons.mp W.nd).1
  rcases mem_Rk ha with h | ⟨d, h1, w', hw', h2⟩
  ·rw [h] at q
   have := (wd_inj (by rw [W.l0, W.ln w hw]) q).1
   exact hn (this ▸ hw)
  ·rw [h2] at q
   have := (wd_inj (by rw [W.ln w' hw', W.ln w hw]) q).2
   lia
omit W in
theorem nd_tl : ∀ n : Nat, (tlR w0 e n).Nodup
 | 0 => by simp [tlR]
 | n + 1 => by
  rw [tlR, List.nodup_cons]
  refine ⟨fun h => ?_, nd_tl n⟩
  obtain ⟨d, h1, h2, h3⟩ := mem_tl h
  have := (wd_inj rfl h3).2
  lia
omit W in
theorem tl_last : ∀ n : Nat, (tlR w0 e (n + 1)).getLast? = some (wd w0 e 1)
 | 0 => by simp [tlR]
 | n + 1 => by
  have ih := tl_last n
  rw [tlR]
  rw [tlR] at ih
  rw [tlR, List.getLast?_cons_cons]
  exact ih
noncomputable def rnd (w0 : List Int) (ws : List (List Int)) (e E : Nat) : List (List Int) := Rk w0 ws e E ++ tlR w0 e (E - 1)
theorem rnd_ok {E : Nat} (hE : E % 2 = 0) (h2 : 2 ≤ E) : chn (rnd w0 ws e E) ∧ (rnd w0 ws e E).Nodup ∧ nx (lastR (rnd w0 ws e E)) ((rnd w0 ws e E).getD 0 []) = true ∧ (rnd w0 ws e E).length = E * (1 + ws.length) := by
 obtain ⟨k, rfl⟩ : ∃ k, E = k + 2 := ⟨E - 2, by lia⟩
 have hl : (rnd w0 ws e (k + 2)).length = (k + 2) * (1 + ws.length) := by
  unfold rnd
  rw [List.length_append, len_Rk, len_tl, Nat.mul_add, Nat.mul_one]; lia
 have hp : 0 < (rnd w0 ws e (k + 2)).length := by unfold rnd; rw [List.length_append, len_Rk]; lia
 refine ⟨?_, ?_, ?_, hl⟩
 ·unfold rnd
  rw [chn_app]
  refine ⟨chn_Rk W _, chn_tl _, fun x y hx hy => ?_⟩
  rw [Rk_last W] at hx
  rw [show k + 2 - 1 = k + 1 by lia, tlR] at hy
  cases hx; cases hy
  unfold lastB
  rw [if_pos (by lia), nx_s]
  exact nx_wd (by rw [W.l0, W.ln _ (first_mem W.ne)]) (w01 W).1
 ·unfold rnd
  rw [List.nodup_append]
  refine ⟨nd_Rk W _, nd_tl _, fun a ha b hb q => ?_⟩
  obtain ⟨d', g1, g2, rfl⟩ := mem_tl hb
  have hn := (List.nodup_cons.mp W.nd).1
  rcases mem_Rk ha with h | ⟨d, h1, w', hw', h2⟩
  ·rw [h] at q
   have := (wd_inj rfl q).2
   lia
  ·rw [h2] at q
   have := (wd_inj (by rw [W.l0, W.ln w' hw']) q).1
   exact hn (this ▸ hw')
 ·have e1 := last_get hp
  have e2 := head_get hp
  have q1 : (rnd w0 ws e (k + 2)).getLast? = some (wd w0 e 1) := by
   unfold rnd
   rw [List.getLast?_append, show k + 2 - 1 = k + 1 by lia, tl_last, Option.some_or]
  have q2 : ∀ j, (Rk w0 ws e j).head? = some (wd w0 e 0) := by
   intro j
   induction j with
   | zero => simp [Rk]
   | succ j ih => rw [Rk, List.head?_append, ih, Option.some_or]
  have q3 : (rnd w0 ws e (k + 2)).head? = some (wd w0 e 0) := by unfold rnd; rw [List.head?_append, q2, Option.some_or]
  rw [q1] at e1
  rw [q3] at e2
  rw [← Option.some.inj e1, ← Option.some.inj e2, nx_s]
  exact nx_step (d := 0)
end
theorem fit_app : ∀ {as cs x y : List Int}, Fit as x → Fit cs y → Fit (as ++ cs) (x ++ y)
 | [], _, [], _, _, h => h
 | a :: as, cs, d :: x, y, h, g => ⟨h.1, h.2.1, fit_app h.2.2 g⟩
 | [], _, _ :: _, _, h, _ => h.elim
 | _ :: _, _, [], _, h, _ => h.elim
theorem fit_split : ∀ {as cs w : List Int}, Fit (as ++ cs) w → Fit as (w.take as.length) ∧ Fit cs (w.drop as.length)
 | [], _, w, h => by simpa [Fit] using h
 | a :: as, cs, d :: w, h => by
  obtain ⟨p, q⟩ := fit_split (as := as) (cs := cs) (w := w) h.2.2
  exact ⟨⟨h.1, h.2.1, p⟩, q⟩
 | _ :: _, _, [], h => by exact h.elim
theorem pr_pull (as cs : List Int) (c : Int) : pr (as ++ c :: cs) = c * pr (as ++ cs) := by
 rw [pr_app, pr_app, pr, ← Int.mul_assoc, Int.mul_comm (pr as) c, Int.mul_assoc]
theorem closed_ring {bs : List Int} (h : Bs bs) (hl : 2 ≤ bs.length) {e : Nat} (he : e < bs.length) (hev : bs[e] % 2 = 0) :
  ∃ w0 ws, allR (bs.take e ++ bs.drop (e + 1)) = w0 :: ws ∧ Ring bs (rnd w0 ws e (bs[e]).toNat) ∧ w0.length = bs.length - 1 ∧ ∀ w ∈ ws, w.length = bs.length - 1 := by
 have hb := h bs[e] (List.getElem_mem he)
 have eb : bs = bs.take e ++ bs[e] :: bs.drop (e + 1) := by rw [← List.drop_eq_getElem_cons he, List.take_append_drop]
 have ho : Bs (bs.take e ++ bs.drop (e + 1)) := fun b hb => by
  rcases List.mem_append.mp hb with z | z
  ·exact h b (List.mem_of_mem_take z)
  ·exact h b (List.mem_of_mem_drop z)
 have hlo : (bs.take e ++ bs.drop (e + 1)).length = bs.length - 1 := by simp; lia
 have hpo : 2 ≤ pr (bs.take e ++ bs.drop (e + 1)) := by
  cases hq : bs.take e ++ bs.drop (e + 1) with
  | nil => rw [hq] at hlo; simp at hlo; lia
  | cons c cs =>
   have hc := ho c (by rw [hq]; simp)
   have hcs : Bs cs := fun b hb => ho b (by rw [hq]; exact List.mem_cons_of_mem _ hb)
   have := pr_pos hcs
   rw [pr]
   have := Int.mul_le_mul_of_nonneg_left this (show 0 ≤ c by lia)
   lia
 have la := len_allR ho
 have ia := isR_iff.mp (allR_isR ho)
 have fa : ∀ r ∈ allR (bs.take e ++ bs.drop (e + 1)), Fit (bs.take e ++ bs.drop (e + 1)) r := fun r hr => by
  obtain ⟨i, _, rfl⟩ := List.mem_map.mp hr
  exact fit_rw _ _ ho
 cases hA : allR (bs.take e ++ bs.drop (e + 1)) with
 | nil => rw [hA] at la; simp at la; lia
 | cons w0 ws =>
  rw [hA] at la ia fa
  simp at la
  have lw : ∀ r ∈ w0 :: ws, r.length = bs.length - 1 := fun r hr => by rw [fit_len _ _ (fa r hr), hlo]
  have W : Way w0 ws (bs.length - 1) := ⟨lw w0 (by simp), fun w hw => lw w (by simp [hw]), ia.2.2.2, ia.2.2.1, by lia⟩
  have hE : (bs[e]).toNat % 2 = 0 := by lia
  obtain ⟨c1, c2, c3, c4⟩ := rnd_ok (e := e) W (E := (bs[e]).toNat) hE (by lia)
  have fw : ∀ (w : List Int) (d : Int), w ∈ w0 :: ws → 0 ≤ d → d < bs[e] → am bs (wd w e d) = none := fun w d hw d0 d1 => by
   obtain ⟨p, q⟩ := fit_split (fa w hw)
   have le : (bs.take e).length = e := by simp; lia
   rw [le] at p q
   refine am_fit ?_
   have : Fit (bs.take e ++ bs[e] :: bs.drop (e + 1)) (w.take e ++ d :: w.drop e) := fit_app p ⟨d0, d1, q⟩
   rw [← eb] at this
   exact this
  have hlen : ((rnd w0 ws e (bs[e]).toNat).length : Int) = pr bs := by
   rw [c4]
   conv => rhs; rw [eb, pr_pull]
   rw [Int.natCast_mul, show (((bs[e]).toNat : Nat) : Int) = bs[e] by lia, ← la]
   congr 1
   simp; lia
  have hpp := pr_pos h
  refine ⟨w0, ws, rfl, ⟨isR_iff.mpr ⟨hlen, fun r hr => ?_, c2, c1⟩, by lia, c3⟩, W.l0, W.ln⟩
  unfold rnd at hr
  rcases List.mem_append.mp hr with z | z
  ·rcases mem_Rk z with z | ⟨d, h1, w, hw, z⟩
   ·rw [z]; exact fw w0 0 (by simp) (by decide) (by lia)
   ·rw [z]; exact fw w d (by simp [hw]) (by lia) (by lia)
  ·obtain ⟨d, h1, h2, z⟩ := mem_tl z
   rw [z]; exact fw w0 d (by simp) (by lia) (by lia)
theorem F_wd {w : List Int} {e : Nat} {d : Int} (hl : w.length ≤ 1000) (ω : Om) : F_q9 [uRow w, .int (e : Int), .int d] ω = .ok (uRow (wd w e d)) ω := by
 unfold F_q9 g_q9 uRow
 walk_at "ev"
 rw [cutF, cutT]
 walk_at "ev"
 unfold wd
 simp
noncomputable def rU (k n : Nat) : List U := (List.range' k n).map fun i : Nat => U.int (i : Int)
theorem rU_succ (k n : Nat) : rU k (n + 1) = U.int (k : Int) :: rU (k + 1) n := by unfold rU; rw [List.range'_succ, List.map_cons]
theorem rng_rU (n : Nat) : rngU 0 n = rU 0 n := by
 unfold rngU rU
 rw [List.range_eq_range']
 apply List.map_congr_left
 intro i ψ
 show U.int (0 + (i : Int)) = _
 rw [Int.zero_add]
theorem dnU_succ (n : Nat) : dnU ((n + 1 : Nat) : Int) (n + 1) = U.int ((n + 1 : Nat) : Int) :: dnU (n : Int) n := by
 unfold dnU
 rw [List.range_succ_eq_map, List.map_cons, List.map_map]
 refine List.cons_eq_cons.mpr ⟨?_, ?_⟩
 ·show U.int _ = U.int _
  congr 1
  first | done | simp
 ·apply List.map_congr_left
  intro i ψ
  show U.int _ = U.int _
  congr 1
  simp; lia
theorem wd_comp {ws : List (List Int)} {e : Nat} {d : Int} (hl : ∀ w ∈ ws, w.length ≤ 1000) (ω : Om) : cmpU (cstU (aName 0) tfTrue (eCall F_q9 (aCons (eVar 0) (aCons (eVar 1) (aCons (eVar 2) aNil)))) [none, some (.int (e : Int)), some (.int d)]) (ws.map uRow) ω = .ok ((ws.map fun w => wd w e d).map uRow) ω := by
 refine (cmpU_gen (f := fun w : List Int => some (uRow (wd w e d))) fun w hw => ?_).trans (by rw [List.map_map, ← List.filterMap_eq_map]; rfl)
 walk_at "ev"
 rw [F_wd (hl w hw)]
 walk_at "ev"
theorem ra_loop1 {w0 : List Int} {ws : List (List Int)} {e : Nat} (A C : Option U) (hl : ∀ w ∈ ws, w.length ≤ 1000) (ω : Om) : ∀ (n k : Nat) (y : Option U) (z : Option U), 1 + (k + n) * ws.length ≤ 100000 →
  ∃ (y' z' : Option U), forU (stepU (aName 5) B_q3_0) (rU k n) [A, some (.int (e : Int)), C, some (.lst (uRow w0 :: ws.map uRow)), some (.lst ((Rk w0 ws e k).map uRow)), y, z] ω = .nx [A, some (.int (e : Int)), C, some (.lst (uRow w0 :: ws.map uRow)), some (.lst ((Rk w0 ws e (k + n)).map uRow)), y', z'] ω
 | 0, k, y, z, _ => ⟨y, z, rfl⟩
 | n + 1, k, y, z, hn => by
  have sl : sizeLine = 16777216 := sizeLine_eq
  have hm : k * ws.length ≤ (k + (n + 1)) * ws.length := Nat.mul_le_mul_right _ (by lia)
  have hm2 : (k + 1) * ws.length ≤ (k + (n + 1)) * ws.length := Nat.mul_le_mul_right _ (by lia)
  rw [Nat.succ_mul] at hm2
  have lR := len_Rk (w0 := w0) (ws := ws) (e := e) k
  obtain ⟨y', z', q⟩ := ra_loop1 (w0 := w0) (e := e) A C hl ω n (k + 1) (some (.int (k : Int))) (some (.lst ((blkR ws e k).map uRow))) (by rw [show k + 1 + n = k + (n + 1) by lia]; exact hn)
  refine ⟨y', z', ?_⟩
  rw [show k + (n + 1) = k + 1 + n by lia, rU_succ, forU, B_q3_0]
  walk_at "ev"
  rw [cutF1]
  simp only [List.drop_succ_cons, List.drop_zero]
  walk_at "ev"
  rw [wd_comp hl]
  walk_at "ev"
  by_cases c : k % 2 = 1
  ·rw [if_pos (by lia)]
   walk_at "ev"
   rw [← List.map_reverse, show ((ws.map fun w => wd w e (k : Int)).reverse) = blkR ws e k by unfold blkR; rw [if_pos c]]
   have lb := len_blk (ws := ws) (e := e) (k := k)
   walk_at "ev"
   rw [← List.map_append, ← B_q3_0]
   exact q
  ·rw [if_neg (by lia)]
   walk_at "ev"
   rw [show (ws.map fun w => wd w e (k : Int)) = blkR ws e k by unfold blkR; rw [if_neg c]]
   have lb := len_blk (ws := ws) (e := e) (k := k)
   walk_at "ev"
   rw [← List.map_append, ← B_q3_0]
   exact q
theorem ra_loop2 {w0 : List Int} {ws : List (List Int)} {e : Nat} (A C z : Option U) (h0 : w0.length ≤ 1000) (ω : Om) : ∀ (n : Nat) (rs : List (List Int)) (y : Option U), rs.length + n ≤ 100000 →
  ∃ (y' : Option U), forU (stepU (aName 5) B_q3_1) (dnU (n : Int) n) [A, some (.int (e : Int)), C, some (.lst (uRow w0 :: ws.map uRow)), some (.lst (rs.map uRow)), y, z] ω = .nx [A, some (.int (e : Int)), C, some (.lst (uRow w0 :: ws.map uRow)), some (.lst ((rs ++ tlR w0 e n).map uRow)), y', z] ω
 | 0, rs, y, _ => ⟨y, by rw [tlR, List.append_nil]; rfl⟩
 | n + 1, rs, y, hn => by
  have sl : sizeLine = 16777216 := sizeLine_eq
  obtain ⟨y', q⟩ := ra_loop2 (w0 := w0) (ws := ws) (e := e) A C z h0 ω n (rs ++ [wd w0 e ((n + 1 : Nat) : Int)]) (some (.int ((n + 1 : Nat) : Int))) (by simp; lia)
  refine ⟨y', ?_⟩
  rw [dnU_succ, forU, B_q3_1]
  walk_at "ev"
  rw [F_wd h0]
  walk_at "ev"
  rw [show rs.map uRow ++ [uRow (wd w0 e ((n + 1 : Nat) : Int))] = (rs ++ [wd w0 e ((n + 1 : Nat) : Int)]).map uRow by simp, ← B_q3_1]
  rw [show rs ++ tlR w0 e (n + 1) = rs ++ [wd w0 e ((n + 1 : Nat) : Int)] ++ tlR w0 e n by rw [tlR]; simp]
  exact q
theorem ra_comp {bs : List Int} (h : Bs bs) (hp : pr bs ≤ 1000) (hl : bs.length ≤ 500) (ω : Om) : cmpU (cstU (aName 0) tfTrue (eCall F_q12 (aCons (eVar 1) (aCons (eVar 0) aNil))) [none, some (.tup (bs.map U.int))]) (rngU 0 (pr bs).toNat) ω = .ok ((allR bs).map uRow) ω := by
 have := pr_pos h
 refine (cmpU_rng (f := fun i => uRow (rw' bs (i : Int))) fun i hi => ?_).trans (by unfold allR rowsN; rw [List.map_map]; rfl)
 have hz : (0 : Int) + (i : Int) = (i : Int) := by lia
 rw [hz]
 walk_at "ev"
 rw [F_row_at_eq h (by lia) (by lia) hl]
 walk_at "ev"
 rfl
theorem F_round_along_eq {bs : List Int} (h : Bs bs) (hp : pr bs ≤ 1000) (hl : bs.length ≤ 20) {e : Nat} (he : e < bs.length) {w0 : List Int} {ws : List (List Int)} (hA : allR (bs.take e ++ bs.drop (e + 1)) = w0 :: ws) (l0 : w0.length ≤ 1000) (lw : ∀ w ∈ ws, w.length ≤ 1000) (hr : (rnd w0 ws e (bs[e]).toNat).length ≤ 1000) (ω : Om) :
  F_q3 [.tup (bs.map U.int), .int (e : Int)] ω = .ok (.lst ((rnd w0 ws e (bs[e]).toNat).map uRow)) ω := by
 have sl : sizeLine = 16777216 := sizeLine_eq
 have hb := h bs[e] (List.getElem_mem he)
 have ho : Bs (bs.take e ++ bs.drop (e + 1)) := fun b hb => by
  rcases List.mem_append.mp hb with z | z
  ·exact h b (List.mem_of_mem_take z)
  ·exact h b (List.mem_of_mem_drop z)
 have eb : bs = bs.take e ++ bs[e] :: bs.drop (e + 1) := by rw [← List.drop_eq_getElem_cons he, List.take_append_drop]
 have pq : pr bs = bs[e] * pr (bs.take e ++ bs.drop (e + 1)) := by conv => lhs; rw [eb, pr_pull]
 have pp := pr_pos ho
 have po : pr (bs.take e ++ bs.drop (e + 1)) ≤ pr bs := by
  rw [pq]
  have := Int.mul_le_mul_of_nonneg_right (show 1 ≤ bs[e] by lia) (show 0 ≤ pr (bs.take e ++ bs.drop (e + 1)) by lia)
  lia
 have rl : (rnd w0 ws e (bs[e]).toNat).length = 1 + (bs[e]).toNat * ws.length + ((bs[e]).toNat - 1) := by unfold rnd; rw [List.length_append, len_Rk, len_tl]
 obtain ⟨y1, z1, q1⟩ := ra_loop1 (w0 := w0) (ws := ws) (e := e) (some (.tup (bs.map U.int))) (some (.tup ((bs.take e ++ bs.drop (e + 1)).map U.int))) lw ω (bs[e]).toNat 0 none none (by rw [Nat.zero_add]; lia)
 obtain ⟨y2, q2⟩ := ra_loop2 (w0 := w0) (ws := ws) (e := e) (some (.tup (bs.map U.int))) (some (.tup ((bs.take e ++ bs.drop (e + 1)).map U.int))) z1 l0 ω ((bs[e]).toNat - 1) (Rk w0 ws e (bs[e]).toNat) y1 (by rw [len_Rk]; lia)
 have hat : atI (bs.map U.int) (e : Int) = some (.int bs[e]) := by rw [atI_cast, List.getElem?_map, List.getElem?_eq_getElem he]; rfl
 unfold F_q3 g_q3
 walk_at "ev"
 rw [cutT, show ((e : Int) + 1) = ((e + 1 : Nat) : Int) by lia, cutF, ← List.map_take, ← List.map_drop]
 walk_at "ev"
 rw [← List.map_append, F_product_of_eq ho]
 walk_at "ev"
 rw [ra_comp ho (by lia) (by simp; lia), hA]
 walk_at "ev"
 rw [F_wd l0]
 walk_at "ev"
 rw [hat]
 walk_at "ev"
 rw [rng_rU, show ([uRow (wd w0 e 0)] : List U) = (Rk w0 ws e 0).map uRow from rfl, q1, Nat.zero_add]
 walk_at "ev"
 rw [hat]
 walk_at "ev"
 rw [show bs[e] - 1 = (((bs[e]).toNat - 1 : Nat) : Int) by lia, show ((((bs[e]).toNat - 1 : Nat) : Int) - 0).toNat = (bs[e]).toNat - 1 by lia, q2]
 walk_at "ev"
 rfl
theorem ev_comp (ω : Om) : ∀ (bs : List Int) (i : Nat), ∃ ns : List Int, cmpU (cstU (aTup 2 (aConsT (aName 0) (aConsT (aName 1) aNilT))) (tfB (eOp uEq (eOp uMod (eVar 1) (eC (.int 2))) (eC (.int 0)))) (eVar 0) [none, none]) ((bs.map U.int).mapIdx (fun j w => U.tup [.int ((i + j : Nat) : Int), w])) ω = .ok (ns.map U.int) ω ∧ (∀ n ∈ ns, ∃ j : Nat, n = ((i + j : Nat) : Int) ∧ ∃ hj : j < bs.length, bs[j] % 2 = 0) ∧ ((∃ b ∈ bs, b % 2 = 0) → ns ≠ [])
 | [], i => ⟨[], rfl, fun n hn => by simp at hn, fun ⟨b, hb, _⟩ => by simp at hb⟩
 | b :: bs, i => by
  obtain ⟨ns, e, h1, h2⟩ := ev_comp ω bs (i + 1)
  rw [List.map_cons, enum_cons, cmpU]
  by_cases c : b % 2 = 0
  ·refine ⟨(i : Int) :: ns, ?_, fun n hn => ?_, fun ψ => by simp⟩
   ·have : cstU (aTup 2 (aConsT (aName 0) (aConsT (aName 1) aNilT))) (tfB (eOp uEq (eOp uMod (eVar 1) (eC (.int 2))) (eC (.int 0)))) (eVar 0) [none, none] (U.tup [.int (i : Int), .int b]) ω = .ok (some (.int (i : Int))) ω := by
     walk_at "ev"
     rw [if_pos c]
    rw [this, Res.bnd_ok, e, Res.bnd_ok]; rfl
   ·rcases List.mem_cons.mp hn with rfl | hn
    ·exact ⟨0, by simp, by simp, c⟩
    ·obtain ⟨j, g1, g2, g3⟩ := h1 n hn
     exact ⟨j + 1, by rw [g1]; congr 1; lia, by simp; lia, by simpa using g3⟩
  ·refine ⟨ns, ?_, fun n hn => ?_, fun ⟨x, hx, hx2⟩ => ?_⟩
   ·have : cstU (aTup 2 (aConsT (aName 0) (aConsT (aName 1) aNilT))) (tfB (eOp uEq (eOp uMod (eVar 1) (eC (.int 2))) (eC (.int 0)))) (eVar 0) [none, none] (U.tup [.int (i : Int), .int b]) ω = .ok none ω := by
     walk_at "ev"
     rw [if_neg c]
    rw [this, Res.bnd_ok, e, Res.bnd_ok]; rfl
   ·obtain ⟨j, g1, g2, g3⟩ := h1 n hn
    exact ⟨j + 1, by rw [g1]; congr 1; lia, by simp; lia, by simpa using g3⟩
   ·rcases List.mem_cons.mp hx with rfl | hx
    ·exact absurd hx2 c
    ·exact h2 ⟨x, hx, hx2⟩
theorem F_closed_ring {bs : List Int} (h : Bs bs) (hp : pr bs ≤ 1000) (hl : bs.length ≤ 20) (h2 : 2 ≤ bs.length) (hev : ∃ b ∈ bs, b % 2 = 0) (ω : Om) : ∃ rs : List (List Int), F_q1 [.tup (bs.map U.int)] ω = .ok (.lst (rs.map uRow)) ω ∧ Ring bs rs := by
 have sl : sizeLine = 16777216 := sizeLine_eq
 obtain ⟨ns, e, h1, h3⟩ := ev_comp ω bs 0
 have hne := h3 hev
 cases ns with
 | nil => exact absurd rfl hne
 | cons n ns =>
  obtain ⟨j, g1, g2, g3⟩ := h1 n (by simp)
  rw [Nat.zero_add] at g1
  subst g1
  obtain ⟨w0, ws, hA, hR, l0, lw⟩ := closed_ring h h2 g2 g3
  have lr := (isR_iff.mp hR.r).1
  refine ⟨_, ?_, hR⟩
  simp only [Nat.zero_add] at e
  unfold F_q1 g_q1
  walk_at "ev"
  rw [if_neg (by lia)]
  walk_at "ev"
  rw [show U.tup [U.int 2] = U.tup (([2] : List Int).map U.int) from rfl, uEq_tt]
  walk_at "ev"
  rw [if_neg (fun z => by rw [z] at h2; simp at h2)]
  walk_at "ev"
  rw [show uEnum [U.tup (bs.map U.int)] = some (enumU (bs.map U.int)) from rfl]
  walk_at "ev"
  unfold enumU
  rw [if_pos (by simp; lia), e]
  walk_at "ev"
  rw [if_neg (by lia), decide_eq_false (by lia)]
  walk_at "ev"
  rw [F_round_along_eq h hp hl g2 hA (by lia) (fun w hw => by have := lw w hw; lia) (by lia)]
  walk_at "ev"
end EvBlock
section EvBlock
local macro_rules | `(tactic| walk_at "ev") => do
  let js1 ← ("List.length_cons List.length_nil List.length_append List.length_map List.length_replicate List.length_reverse List.length_take List.length_drop rngU_len dnU_len List.length_range".splitOn " ").toArray.mapM fun s => `(Lean.Parser.Tactic.simpLemma| $(Lean.mkIdent s.toName):term)
  let ls ← ("eRIn_ap rowU_t rowU_t' isP_p rowsD_enc sTw_ap twA_ap twN_ok asTw_tl asTw_tn sClr_ap uZipL_s two_t sSeq_then thenF_nx thenF_rt thenF_err runU_end endF_rt endF_nx endF_err sNext_ap sIf_ap sSet_ap sRet_ap sExpr_ap sAug_ap sApp_ap sExt_ap sRevM_ap sAsg_ap sFor_ap stepU_ap sRaise_ap aName_ap aTup_ap aNilT_ap aConsT_ap eVar_ap eC_ap eOp_ap eUn_ap eAnd_ap eIf_ap eChain_ap eTup_ap eLst_ap eB_ap eCall_ap eSl_ap eComp_ap cstU_ap tfB_ap tfAnd_ap tfOr_ap tfNot_ap tfTrue_ap aNil_ap aCons_ap pNo_ap pSome_ap iOf_ap iArgs_ap asB_r asI_r asSeq_l asSeq_t asOk_ok Res.bnd_ok Res.bnd_err Res.bnd_stk Res.of_some Res.of_none Fl.of_ok Fl.of_err Fl.of_stk List.getElem?_cons_zero List.getElem?_cons_succ List.set_cons_zero List.set_cons_succ List.map_cons List.map_nil List.length_cons List.length_nil List.length_map List.cons_append List.nil_append List.replicate Nat.zero_add uIx_l uIx_t uAdd_i uSub_r uNeg_r uLt_r uLe_r uGt_r uGe_r uLen_l uLen_t uLen_s uTuple_l uTuple_t uList_l uList_t uList_s uMax2_r uMin2_r uAbs_r uInt_i uInt_b uIsT_ii uIsT_ib uIsT_bb uIsT_bi uIsT_tt uIsT_ll uEq_ii uNe_ii uDiv_s uMod_s uMul_r uMul_l uPow_s mkT_s mkL_s uAdd_l uAdd_t ite_lt ite_le uR1_s uR3_s uSorted_l uSorted_t eCallN_ap outT_nx outT_rt atI_i2 atI_i3 atI_i4 atI_i5 atI_i6 atI_i7 atI_i8 atI_i10 uSl_l uSl_t uSlL_l atI_zero atI_one atI_end blkU_r Option.getD_some Option.getD_none Option.bind_some Option.bind_none Option.map_some decide_true decide_false Bool.not_true Bool.not_false if_true if_false Bool.false_eq_true Bool.true_eq_false decide_eq_true_eq Bool.not_eq_true' decide_eq_false_iff_not ne_eq not_true_eq_false not_false_eq_true Nat.reduceSub Nat.reduceAdd Nat.reduceLT Int.reduceEq Int.reduceLT Int.reduceLE Int.reduceAdd Int.reduceSub Int.reduceMul Int.reduceDiv Int.reduceMod reduceIte Int.reduceToNat Int.reducePow Int.reduceNeg".splitOn " ").toArray.mapM fun s => `(Lean.Parser.Tactic.simpLemma| $(Lean.mkIdent s.toName):term)
  `(tactic| try simp (disch := first | decide | lia | omega | (simp only [$js1,*]; first | lia | omega)) only [$ls,*])
noncomputable def Cl (bs : List Int) : Prop := bs = [] ∨ bs = [2] ∨ (2 ≤ bs.length ∧ ∃ b ∈ bs, b % 2 = 0)
structure Good (bs : List Int) (rs : List (List Int)) : Prop where
 r : isR bs rs = true
 c : 1 < rs.length → nx (lastR rs) (rs.getD 0 []) = true
theorem ev_no (ω : Om) : ∀ (bs : List Int) (i : Nat), (¬ ∃ b ∈ bs, b % 2 = 0) → cmpU (cstU (aTup 2 (aConsT (aName 0) (aConsT (aName 1) aNilT))) (tfB (eOp uEq (eOp uMod (eVar 1) (eC (.int 2))) (eC (.int 0)))) (eVar 0) [none, none]) ((bs.map U.int).mapIdx (fun j w => U.tup [.int ((i + j : Nat) : Int), w])) ω = .ok [] ω
 | [], i, _ => rfl
 | b :: bs, i, h => by
  have ih := ev_no ω bs (i + 1) (fun ⟨x, hx, hx2⟩ => h ⟨x, List.mem_cons_of_mem _ hx, hx2⟩)
  have c : ¬ b % 2 = 0 := fun z => h ⟨b, by simp, z⟩
  rw [List.map_cons, enum_cons, cmpU]
  have : cstU (aTup 2 (aConsT (aName 0) (aConsT (aName 1) aNilT))) (tfB (eOp uEq (eOp uMod (eVar 1) (eC (.int 2))) (eC (.int 0)))) (eVar 0) [none, none] (U.tup [.int (i : Int), .int b]) ω = .ok none ω := by
   walk_at "ev"
   rw [if_neg c]
  rw [this, Res.bnd_ok, ih]; rfl
theorem closed_yes {bs : List Int} (h : Bs bs) (hp : pr bs ≤ 1000) (hl : bs.length ≤ 20) (hc : Cl bs) (ω : Om) : ∃ rs : List (List Int), F_q1 [.tup (bs.map U.int)] ω = .ok (.lst (rs.map uRow)) ω ∧ Good bs rs := by
 rcases hc with rfl | rfl | ⟨h2, hev⟩
 ·refine ⟨[[]], ?_, ⟨by decide, fun z => by simp at z⟩⟩
  unfold F_q1 g_q1
  walk_at "ev"
  rfl
 ·refine ⟨[[0], [1]], ?_, ⟨by decide, fun ψ => by decide⟩⟩
  unfold F_q1 g_q1
  walk_at "ev"
  rw [if_neg (by simp)]
  walk_at "ev"
  rw [show uEq (.tup [U.int 2]) (.tup [U.int 2]) = some (.bl true) from rfl]
  walk_at "ev"
  rfl
 ·obtain ⟨rs, e, R⟩ := F_closed_ring h hp hl h2 hev ω
  exact ⟨rs, e, ⟨R.r, fun ψ => R.c⟩⟩
theorem closed_no {bs : List Int} (hl : bs.length ≤ 20) (hc : ¬ Cl bs) (ω : Om) : F_q1 [.tup (bs.map U.int)] ω = .err "NoEnd" none ω := by
 have sl : sizeLine = 16777216 := sizeLine_eq
 have h0 : bs ≠ [] := fun z => hc (.inl z)
 have h1 : bs ≠ [2] := fun z => hc (.inr (.inl z))
 have h2 : ¬ (2 ≤ bs.length ∧ ∃ b ∈ bs, b % 2 = 0) := fun z => hc (.inr (.inr z))
 have hp : 0 < bs.length := List.length_pos_iff.mpr h0
 obtain ⟨ns, e, g1, g2⟩ := ev_comp ω bs 0
 simp only [Nat.zero_add] at e
 unfold F_q1 g_q1
 walk_at "ev"
 rw [if_neg (by lia)]
 walk_at "ev"
 rw [show U.tup [U.int 2] = U.tup (([2] : List Int).map U.int) from rfl, uEq_tt]
 walk_at "ev"
 rw [if_neg h1]
 walk_at "ev"
 rw [show uEnum [U.tup (bs.map U.int)] = some (enumU (bs.map U.int)) from rfl]
 walk_at "ev"
 unfold enumU
 by_cases c : bs.length = 1
 ·rw [if_pos (by simp; lia), e]
  walk_at "ev"
  rw [if_pos (by lia)]
  walk_at "ev"
 ·have hno : ¬ ∃ b ∈ bs, b % 2 = 0 := fun z => h2 ⟨by lia, z⟩
  have en := ev_no ω bs 0 hno
  simp only [Nat.zero_add] at en
  rw [if_pos (by simp; lia), en]
  walk_at "ev"
  rw [if_neg (by lia)]
  walk_at "ev"
  rw [if_pos (by simp)]
  walk_at "ev"
theorem ix1 : uIsX tabN tabT [.exc "NoEnd" none, .nm "NoEnd"] = some (.bl true) := by rfl
theorem ix2 : uIsX tabN tabT [.exc "NoEnd" none, .ty "ValueError"] = some (.bl true) := by rfl
theorem ix3 : uIsX tabN tabT [.exc "NoEnd" none, .tup [.nm "NoAsk", .nm "NoDigit", .nm "NoOrder", .nm "NoPlace", .nm "TooGreat", .nm "TooSmall"]] = some (.bl false) := by rfl
theorem asked_yes {bs : List Int} (h : Bs bs) (hp : pr bs ≤ 1000) (hl : bs.length ≤ 20) (hc : Cl bs) (ω : Om) : ∃ rs : List (List Int), F_q4 [.tup (bs.map U.int)] ω = .ok (.tup [.str "", .lst (rs.map uRow)]) ω ∧ Good bs rs := by
 obtain ⟨rs, e, G⟩ := closed_yes h hp hl hc ω
 refine ⟨rs, ?_, G⟩
 unfold F_q4 g_q4
 walk_at "ev"
 rw [sTry_nx (ρ' := [some (.tup (bs.map U.int)), some (.lst (rs.map uRow)), some (.str ""), none]) (ω' := ω) (by walk_at "ev"; rw [e]; walk_at "ev")]
 walk_at "ev"
theorem asked_no {bs : List Int} (hl : bs.length ≤ 20) (hc : ¬ Cl bs) (ω : Om) : F_q4 [.tup (bs.map U.int)] ω = .ok (.tup [.str "NoEnd", .non]) ω := by
 have e := closed_no hl hc ω
 unfold F_q4 g_q4
 walk_at "ev"
 rw [sTry_err (c := "NoEnd") (pl := none) (ω1 := ω) (by walk_at "ev"; rw [e]; walk_at "ev") (by decide)]
 walk_at "ev"
 rw [ix1]
 walk_at "ev"
 rw [ix2]
 walk_at "ev"
 rw [ix3]
 walk_at "ev"
theorem even_iff (ω : Om) : ∀ (bs : List Int), ∃ ns : List Int, cmpU (cstU (aName 0) (tfB (eOp uEq (eOp uMod (eVar 0) (eC (.int 2))) (eC (.int 0)))) (eVar 0) [none]) (bs.map U.int) ω = .ok (ns.map U.int) ω ∧ (ns = [] ↔ ¬ ∃ b ∈ bs, b % 2 = 0) ∧ ns.length ≤ bs.length
 | [] => ⟨[], rfl, by simp, by simp⟩
 | b :: bs => by
  obtain ⟨ns, e, h, hl⟩ := even_iff ω bs
  rw [List.map_cons, cmpU]
  by_cases c : b % 2 = 0
  ·refine ⟨b :: ns, ?_, ⟨fun z => by simp at z, fun z => absurd ⟨b, by simp, c⟩ z⟩, by simp; lia⟩
   have : cstU (aName 0) (tfB (eOp uEq (eOp uMod (eVar 0) (eC (.int 2))) (eC (.int 0)))) (eVar 0) [none] (.int b) ω = .ok (some (.int b)) ω := by
    walk_at "ev"
    rw [if_pos c]
   rw [this, Res.bnd_ok, e, Res.bnd_ok]; rfl
  ·refine ⟨ns, ?_, ?_, by simp; lia⟩
   ·have : cstU (aName 0) (tfB (eOp uEq (eOp uMod (eVar 0) (eC (.int 2))) (eC (.int 0)))) (eVar 0) [none] (.int b) ω = .ok none ω := by
     walk_at "ev"
     rw [if_neg c]
    rw [this, Res.bnd_ok, e, Res.bnd_ok]; rfl
   ·rw [h]
    constructor
    ·rintro z ⟨x, hx, hx2⟩
     rcases List.mem_cons.mp hx with rfl | hx
     ·exact c hx2
     ·exact z ⟨x, hx, hx2⟩
    ·rintro z ⟨x, hx, hx2⟩
     exact z ⟨x, List.mem_cons_of_mem _ hx, hx2⟩
theorem tup_comp (ω : Om) : ∀ rs : List (List Int), cmpU (cstU (aName 0) (tfNot (tfB (eB uIsT (aCons (eVar 0) (aCons (eC (.ty "tuple")) aNil))))) (eVar 0) [none]) (rs.map uRow) ω = .ok [] ω
 | [] => rfl
 | r :: rs => by
  have : cstU (aName 0) (tfNot (tfB (eB uIsT (aCons (eVar 0) (aCons (eC (.ty "tuple")) aNil))))) (eVar 0) [none] (uRow r) ω = .ok none ω := by
   rw [uRow]
   walk_at "ev"
  rw [List.map_cons, cmpU, this, Res.bnd_ok, tup_comp ω rs]; rfl
theorem int_comp (ω : Om) : ∀ ns : List Int, cmpU (cstU (aName 0) (tfOr (tfNot (tfB (eB uIsT (aCons (eVar 0) (aCons (eC (.ty "int")) aNil))))) (tfB (eB uIsT (aCons (eVar 0) (aCons (eC (.ty "bool")) aNil))))) (eVar 0) [none]) (ns.map U.int) ω = .ok [] ω
 | [] => rfl
 | n :: ns => by
  have : cstU (aName 0) (tfOr (tfNot (tfB (eB uIsT (aCons (eVar 0) (aCons (eC (.ty "int")) aNil))))) (tfB (eB uIsT (aCons (eVar 0) (aCons (eC (.ty "bool")) aNil))))) (eVar 0) [none] (.int n) ω = .ok none ω := by
   walk_at "ev"
  rw [List.map_cons, cmpU, this, Res.bnd_ok, int_comp ω ns]; rfl
theorem ne00 : uNe (.lst []) (.lst []) = some (.bl false) := uNe_l0 (a := [])
theorem dig_loop (A0 A1 A3 A4 A5 : Option U) (ω : Om) : ∀ (rs : List (List Int)) (y : Option U), (∀ r ∈ rs, r.length ≤ 1000) → ∃ y', forU (stepU (aName 2) B_q6_0) (rs.map uRow) [A0, A1, y, A3, A4, A5] ω = .nx [A0, A1, y', A3, A4, A5] ω
 | [], y, _ => ⟨y, rfl⟩
 | r :: rs, y, h => by
  have sl : sizeLine = 16777216 := sizeLine_eq
  have h1 := h r (by simp)
  obtain ⟨y', e⟩ := dig_loop A0 A1 A3 A4 A5 ω rs (some (uRow r)) fun q hq => h q (List.mem_cons_of_mem _ hq)
  refine ⟨y', ?_⟩
  rw [List.map_cons, forU, B_q6_0]
  rw [show uRow r = U.tup (r.map U.int) from rfl]
  walk_at "ev"
  rw [int_comp]
  walk_at "ev"
  rw [ne00]
  walk_at "ev"
  rw [← B_q6_0]
  exact e
theorem eqTL_same {rs : List (List Int)} : uEqTL (.tup [.str "", .lst (rs.map uRow)]) (.tup [.str "", .lst (rs.map uRow)]) = some (.bl true) := by
 show ((U.toDs (rs.map uRow)).bind fun d => (U.toDs (rs.map uRow)).bind fun e => if L2.D.depths d ≤ 40 ∧ d.length = e.length then some (U.bl (decide (("" : Str) = "") && L2.D.eqs d e)) else none) = _
 rw [toDs_rws]
 simp only [Option.bind_some]
 rw [if_pos (by refine ⟨?_, ?_⟩; (have := dep_rws rs; lia); simp), eqs_rws]
 simp
theorem at_l {rs : List (List Int)} (h : 0 < rs.length) : atI (rs.map uRow) (-1) = some (uRow (lastR rs)) := by
 rcases List.eq_nil_or_concat rs with e | ⟨as, c, e⟩
 ·subst e; simp at h
 ·rw [List.concat_eq_append] at e
  have ec : lastR rs = c := by unfold lastR; rw [e]; simp
  rw [ec, e, List.map_append]; exact atI_end _ _
theorem at_f {rs : List (List Int)} (h : 0 < rs.length) : (rs.map uRow)[0]? = some (uRow (rs.getD 0 [])) := by
 cases rs with
 | nil => simp at h
 | cons a as => rfl
noncomputable def R3 : Sf := (sSeq (sIf (tfOr (tfB (eOp uNe (eVar 4) (eC (.str "")))) (tfNot (tfB (eB uIsT (aCons (eVar 5) (aCons (eC (.ty "list")) aNil)))))) (sRet (eC (.bl false))) sNext)
   (sSeq (sIf (tfB (eOp uNe (eComp (iOf (eVar 5)) 1 [] (aName 0) (tfNot (tfB (eB uIsT (aCons (eVar 0) (aCons (eC (.ty "tuple")) aNil))))) (eVar 0)) (eLst aNil))) (sRet (eC (.bl false))) sNext)
   (sSeq (sFor (iOf (eVar 5)) (aName 2) B_q6_0)
   (sSeq (sIf (tfOr (tfNot (tfB (eCall F_q7 (aCons (eVar 0) (aCons (eVar 5) aNil))))) (tfAnd (tfB (eOp uGt (eB uLen (aCons (eVar 5) aNil)) (eC (.int 1)))) (tfNot (tfB (eCall F_q11 (aCons (eOp uIx (eVar 5) (eUn uNeg (eC (.int 1)))) (aCons (eOp uIx (eVar 5) (eC (.int 0))) aNil))))))) (sRet (eC (.bl false))) sNext)
   (sSeq (sSet 3 (eB uList (aCons (eVar 5) aNil)))
   (sSeq (sClr 5)
   (sRet (eOp uEqTL (eCall F_q4 (aCons (eVar 0) aNil)) (eTup (aCons (eC (.str "")) (aCons (eVar 3) aNil)))))))))))
theorem R3_ok {bs : List Int} {rs : List (List Int)} (h : BO bs 500 8) (G : Good bs rs) {ω : Om} (ea : F_q4 [.tup (bs.map U.int)] ω = .ok (.tup [.str "", .lst (rs.map uRow)]) ω) (A1 : Option U) : endF (R3 [some (.tup (bs.map U.int)), A1, none, none, some (.str ""), some (.lst (rs.map uRow))] ω) = .ok (.bl true) ω := by
 have sl : sizeLine = 16777216 := sizeLine_eq
 have hl := h.ln
 have hp := h.p2
 have pp := pr_pos h.b2
 obtain ⟨g1, g2, g3, g4⟩ := isR_iff.mp G.r
 have gl : ∀ r ∈ rs, r.length = bs.length := fun r hr => am_len (g2 r hr)
 obtain ⟨y, ed⟩ := dig_loop (some (.tup (bs.map U.int))) A1 none (some (.str "")) (some (.lst (rs.map uRow))) ω rs none fun r hr => by rw [gl r hr]; lia
 unfold R3
 walk_at "ev"
 rw [show uNe (.str "") (.str "") = some (.bl false) from rfl]
 walk_at "ev"
 rw [tup_comp]
 walk_at "ev"
 rw [ne00]
 walk_at "ev"
 rw [ed]
 walk_at "ev"
 rw [F_shown_eq h.b2 (by lia) (by lia) (fun r hr => by rw [gl r hr]; lia), G.r]
 walk_at "ev"
 have key : F_q11 [uRow (lastR rs), uRow (rs.getD 0 [])] ω = .ok (.bl (nx (lastR rs) (rs.getD 0 []))) ω := by
  have m1 : lastR rs ∈ rs := List.mem_of_getLast? (last_get (by lia))
  have m2 : rs.getD 0 [] ∈ rs := List.mem_of_head? (head_get (by lia))
  exact F_lnext_eq (by rw [gl _ m1, gl _ m2]) (by rw [gl _ m1]; lia) ω
 by_cases c : 1 < rs.length
 ·rw [if_pos (by lia)]
  walk_at "ev"
  rw [at_l (by lia)]
  walk_at "ev"
  rw [at_f (rs := rs) (by lia)]
  walk_at "ev"
  rw [key, G.c c]
  walk_at "ev"
  rw [ea]
  walk_at "ev"
  rw [eqTL_same]
  walk_at "ev"
 ·rw [if_neg (by lia)]
  walk_at "ev"
  rw [ea]
  walk_at "ev"
  rw [eqTL_same]
  walk_at "ev"
theorem right_true {bs : List Int} (h : BO bs 500 8) (ω : Om) : F_q6 [.tup (bs.map U.int)] ω = .ok (.bl true) ω := by
 have sl : sizeLine = 16777216 := sizeLine_eq
 have hl := h.ln
 have hp := h.p2
 obtain ⟨es, ee, he, hel⟩ := even_iff ω bs
 unfold F_q6 g_q6
 rw [← R3]
 walk_at "ev"
 rw [ee]
 walk_at "ev"
 have nn : noLs [U.tup (bs.map U.int)] = true := by
  show (noLs (bs.map U.int) && true) = true
  rw [noLs_ints]; rfl
 rw [if_pos nn]
 by_cases c : Cl bs
 ·obtain ⟨rs, ea, G⟩ := asked_yes h.b2 (by lia) (by lia) c ω
  rw [ea]
  walk_at "ev"
  rw [twP_l, if_pos (by rw [noLs_rows]; rfl)]
  walk_at "ev"
  rw [show U.tup [] = U.tup (([] : List Int).map U.int) from rfl, show U.tup [U.int 2] = U.tup (([2] : List Int).map U.int) from rfl, uNe_tt, uNe_tt]
  walk_at "ev"
  rw [uEq_l0]
  walk_at "ev"
  rcases c with c | c | ⟨c1, c2⟩
  ·rw [if_neg (by simp [c])]
   walk_at "ev"
   exact R3_ok h G ea _
  ·have c0 : ¬ bs = [] := by rw [c]; simp
   rw [if_pos c0]
   rw [if_neg (by simp [c])]
   walk_at "ev"
   exact R3_ok h G ea _
  ·have c0 : ¬ bs = [] := by intro z; rw [z] at c1; simp at c1
   have c3 : ¬ bs = [2] := by intro z; rw [z] at c1; simp at c1
   rw [if_pos c0]
   rw [if_pos c3]
   rw [if_neg (by lia)]
   rw [decide_eq_false (fun z => he.mp z c2)]
   walk_at "ev"
   exact R3_ok h G ea _
 ·rw [asked_no (by lia) c]
  walk_at "ev"
  rw [twP_n, if_pos (show noL (.str (Str.ofString "NoEnd")) = true from rfl)]
  walk_at "ev"
  have c0 : ¬ bs = [] := fun z => c (.inl z)
  have c3 : ¬ bs = [2] := fun z => c (.inr (.inl z))
  rw [show U.tup [] = U.tup (([] : List Int).map U.int) from rfl, show U.tup [U.int 2] = U.tup (([2] : List Int).map U.int) from rfl, uNe_tt, uNe_tt]
  walk_at "ev"
  rw [uEq_l0]
  walk_at "ev"
  rw [if_pos c0]
  rw [if_pos c3]
  by_cases c4 : bs.length = 1
  ·rw [if_pos (by lia)]
   walk_at "ev"
   rw [show uEq (.str "NoEnd") (.str "NoEnd") = some (.bl true) from rfl]
   walk_at "ev"
  ·rw [if_neg (by lia)]
   have c5 : es = [] := he.mpr fun z => c (.inr (.inr ⟨by have := List.length_pos_iff.mpr c0; lia, z⟩))
   rw [decide_eq_true c5]
   walk_at "ev"
   rw [show uEq (.str "NoEnd") (.str "NoEnd") = some (.bl true) from rfl]
   walk_at "ev"
theorem BO.take {bs : List Int} {M : Int} {n : Nat} (h : BO bs M n) (k : Nat) : BO (bs.take k) M n := by
 have e : bs.take k ++ bs.drop k = bs := List.take_append_drop k bs
 have h1 : Bs (bs.take k) := fun b hb => h.b2 b (List.mem_of_mem_take hb)
 have h2 : Bs (bs.drop k) := fun b hb => h.b2 b (List.mem_of_mem_drop hb)
 have p1 := pr_pos h1
 have p2 := pr_pos h2
 have p3 := h.p2
 rw [← e, pr_app] at p3
 have p4 := Int.mul_le_mul_of_nonneg_left p2 (show 0 ≤ pr (bs.take k) by lia)
 have := h.ln
 exact ⟨h1, by lia, by simp; lia⟩
theorem BO.two {a b : Int} (a0 : 2 ≤ a ∧ a ≤ 500) (b0 : 2 ≤ b ∧ b ≤ 500) (h : a * b ≤ 500) : BO [a, b] 500 8 := ⟨fun c hc => by simp at hc; rcases hc with rfl | rfl <;> lia, by rw [pr, pr, pr, Int.mul_one]; exact h, by simp⟩
theorem BO.one {a : Int} (a0 : 2 ≤ a) (h : a ≤ 500) : BO [a] 500 8 := ⟨fun c hc => by simp at hc; rw [hc]; lia, by rw [pr, pr, Int.mul_one]; exact h, by simp⟩
noncomputable def L4 : Sf := (sSeq (sIf (tfB (eOp uEq (eOp uMod (eOp uDiv (eCall F_q2 (aCons (eVar 0) (aCons (eC (.int 7)) aNil))) (eC (.int 2))) (eC (.int 16))) (eC (.int 0)))) (sSet 1 (eOp uIx (eTup (aCons (eTup aNil) (aCons (eTup (aCons (eC (.int 2)) aNil)) (aCons (eTup (aCons (eC (.int 3)) (aCons (eC (.int 3)) aNil))) (aCons (eTup (aCons (eC (.int 2)) (aCons (eC (.int 2)) (aCons (eC (.int 2)) aNil)))) aNil))))) (eOp uMod (eCall F_q2 (aCons (eVar 0) (aCons (eC (.int 10)) aNil))) (eC (.int 4))))) sNext)
   (sRet (eCall F_q6 (aCons (eVar 1) aNil))))
noncomputable def L3 : Sf := (sSeq (sIf (tfB (eOp uEq (eOp uMod (eCall F_q2 (aCons (eVar 0) (aCons (eC (.int 11)) aNil))) (eC (.int 4))) (eC (.int 0)))) (sSeq (sSet 2 (eCall F_q2 (aCons (eVar 0) (aCons (eC (.int 12)) aNil))))
   (sSet 1 (eOp uIx (eLst (aCons (eTup (aCons (eOp uAdd (eC (.int 2)) (eOp uMod (eVar 2) (eC (.int 249)))) (aCons (eC (.int 2)) aNil))) (aCons (eTup (aCons (eC (.int 2)) (aCons (eOp uAdd (eC (.int 2)) (eOp uMod (eVar 2) (eC (.int 249)))) aNil))) (aCons (eTup (aCons (eOp uAdd (eC (.int 2)) (eOp uMod (eVar 2) (eC (.int 499)))) aNil)) aNil)))) (eOp uMod (eOp uDiv (eVar 2) (eC (.int 500))) (eC (.int 3)))))) sNext)
   L4)
theorem L4_ok {ns bs : List Int} (hn : ns.length ≤ 63) (h : BO bs 500 8) (x : Option U) (ω : Om) : endF (L4 [some (.scr ns), some (.tup (bs.map U.int)), x] ω) = .ok (.bl true) ω := by
 have n7 := num_b hn (k := 7) (by decide) (by decide)
 have n10 := num_b hn (k := 10) (by decide) (by decide)
 unfold L4
 walk_at "ev"
 rw [num_eq hn (by decide) (by decide)]
 walk_at "ev"
 by_cases c : num ns 7 / 2 % 16 = 0
 ·rw [if_pos c]
  walk_at "ev"
  rw [num_eq hn (by decide) (by decide)]
  walk_at "ev"
  obtain ⟨qs, e, hq⟩ : ∃ qs : List Int, atI [U.tup [], U.tup [U.int 2], U.tup [U.int 3, U.int 3], U.tup [U.int 2, U.int 2, U.int 2]] (num ns 10 % 4) = some (.tup (qs.map U.int)) ∧ BO qs 500 8 := by
   have : num ns 10 % 4 = 0 ∨ num ns 10 % 4 = 1 ∨ num ns 10 % 4 = 2 ∨ num ns 10 % 4 = 3 := by lia
   rcases this with z | z | z | z <;> rw [z]
   ·exact ⟨[], rfl, ⟨fun b hb => by simp at hb, by decide, by decide⟩⟩
   ·exact ⟨[2], rfl, .one (by decide) (by decide)⟩
   ·exact ⟨[3, 3], rfl, .two (by decide) (by decide) (by decide)⟩
   ·exact ⟨[2, 2, 2], rfl, ⟨fun b hb => by simp at hb; lia, by decide, by decide⟩⟩
  rw [e]
  walk_at "ev"
  rw [right_true hq]
  walk_at "ev"
 ·rw [if_neg c]
  walk_at "ev"
  rw [right_true h]
  walk_at "ev"
theorem L3_ok {ns bs : List Int} (hn : ns.length ≤ 63) (h : BO bs 500 8) (ω : Om) : endF (L3 [some (.scr ns), some (.tup (bs.map U.int)), none] ω) = .ok (.bl true) ω := by
 have n11 := num_b hn (k := 11) (by decide) (by decide)
 have n12 := num_b hn (k := 12) (by decide) (by decide)
 unfold L3
 walk_at "ev"
 rw [num_eq hn (by decide) (by decide)]
 walk_at "ev"
 by_cases c : num ns 11 % 4 = 0
 ·rw [if_pos c]
  walk_at "ev"
  rw [num_eq hn (by decide) (by decide)]
  walk_at "ev"
  obtain ⟨qs, e, hq⟩ : ∃ qs : List Int, atI [U.tup [U.int (2 + num ns 12 % 249), U.int 2], U.tup [U.int 2, U.int (2 + num ns 12 % 249)], U.tup [U.int (2 + num ns 12 % 499)]] (num ns 12 / 500 % 3) = some (.tup (qs.map U.int)) ∧ BO qs 500 8 := by
   have : num ns 12 / 500 % 3 = 0 ∨ num ns 12 / 500 % 3 = 1 ∨ num ns 12 / 500 % 3 = 2 := by lia
   rcases this with z | z | z <;> rw [z]
   ·exact ⟨[2 + num ns 12 % 249, 2], rfl, .two (by lia) (by decide) (by lia)⟩
   ·exact ⟨[2, 2 + num ns 12 % 249], rfl, .two (by decide) (by lia) (by lia)⟩
   ·exact ⟨[2 + num ns 12 % 499], rfl, .one (by lia) (by lia)⟩
  rw [e]
  walk_at "ev"
  exact L4_ok hn hq _ ω
 ·rw [if_neg c]
  walk_at "ev"
  exact L4_ok hn h _ ω
theorem law_true (ns : List Int) (hn : ns.length ≤ 63) (ω : Om) : ∃ ω', F_law [.scr ns] ω = .ok (.bl true) ω' := by
 refine ⟨ω, ?_⟩
 have n7 := num_b hn (k := 7) (by decide) (by decide)
 have n8 := num_b hn (k := 8) (by decide) (by decide)
 have n9 := num_b hn (k := 9) (by decide) (by decide)
 have n10 := num_b hn (k := 10) (by decide) (by decide)
 obtain ⟨bs, eb, hb⟩ := bases_ex hn (M := 500) (by decide) (by decide) ω
 unfold F_law g_law
 rw [← L4, ← L3]
 walk_at "ev"
 rw [eb]
 walk_at "ev"
 rw [num_eq hn (by decide) (by decide)]
 walk_at "ev"
 by_cases c : num ns 7 % 2 = 0
 ·rw [if_pos c]
  walk_at "ev"
  rw [num_eq hn (by decide) (by decide)]
  walk_at "ev"
  rw [num_eq hn (by decide) (by decide)]
  walk_at "ev"
  rw [num_eq hn (by decide) (by decide)]
  walk_at "ev"
  generalize ha : 2 + num ns 8 % 21 = a
  generalize hd : 2 + num ns 9 % 21 = d
  have ab : a * d ≤ 22 * 22 := Int.mul_le_mul (by lia) (by lia) (by lia) (by decide)
  rw [cutTo' (show 0 ≤ 1 + num ns 10 % 3 by lia), show [U.int a, U.int d] = ([a, d] : List Int).map U.int from rfl, ← List.map_take]
  walk_at "ev"
  exact L3_ok hn ((BO.two (by lia) (by lia) (by lia)).take _) ω
 ·rw [if_neg c]
  walk_at "ev"
  exact L3_ok hn hb ω
end EvBlock
end My
set_option maxHeartbeats 0
open PySem PySem.W PyProof.Rows
open_top hd for PySem.Challenge.rw_mixedscales_k36_closed_rounds
set_option maxHeartbeats 8000000
namespace My
open PySem L2 PyProof.Rows
theorem us_1 {fd : FuncData} {ps : List Str} (h : ∀ a0, bindArgs fd ⟨[a0], []⟩ = pure (ps.zip [a0])) : ∀ us : List Value, us.length = 1 → bindArgs fd ⟨us, []⟩ = pure (ps.zip us)
 | [a0], _ => h a0
theorem us_2 {fd : FuncData} {ps : List Str} (h : ∀ a0 a1, bindArgs fd ⟨[a0, a1], []⟩ = pure (ps.zip [a0, a1])) : ∀ us : List Value, us.length = 2 → bindArgs fd ⟨us, []⟩ = pure (ps.zip us)
 | [a0, a1], _ => h a0 a1
theorem us_3 {fd : FuncData} {ps : List Str} (h : ∀ a0 a1 a2, bindArgs fd ⟨[a0, a1, a2], []⟩ = pure (ps.zip [a0, a1, a2])) : ∀ us : List Value, us.length = 3 → bindArgs fd ⟨us, []⟩ = pure (ps.zip us)
 | [a0, a1, a2], _ => h a0 a1 a2
theorem all_mk {l : PySem.W.OpenLaw} {w : World} {K : L2.Fg} {h : Heap} {mg : L2.SV} {fa C_NoEnd C_TooGreat C_NoAsk C_NoDigit C_NoOrder C_NoPlace C_TooSmall C_ScaleError f_q8 f_q0 f_q13 f_q12 f_q9 f_q3 f_q1 f_q2 f_q5 f_q10 f_q11 f_q7 f_q4 f_q6 f_law  : Addr} (X : K.In h) (G : h.Ns mainGlobals mg) (hfa : mg "law" = some (.ref fa))
  {od_q8 an_q8 od_q0 an_q0 od_q13 an_q13 od_q12 an_q12 od_q9 an_q9 od_q3 an_q3 od_q1 an_q1 od_q2 an_q2 od_q5 an_q5 od_q10 an_q10 od_q11 an_q11 od_q7 an_q7 od_q4 an_q4 od_q6 an_q6 od_law an_law : Option Addr} {sl_q8 sl_q0 sl_q13 sl_q12 sl_q9 sl_q3 sl_q1 sl_q2 sl_q5 sl_q10 sl_q11 sl_q7 sl_q4 sl_q6 sl_law : Array (Option Value)} {oc_q8 kV_q8 dc_q8 pm_q8 cd_q8 ct_q8 oc_q0 kV_q0 dc_q0 pm_q0 cd_q0 ct_q0 oc_q13 kV_q13 dc_q13 pm_q13 cd_q13 ct_q13 oc_q12 kV_q12 dc_q12 pm_q12 cd_q12 ct_q12 oc_q9 kV_q9 dc_q9 pm_q9 cd_q9 ct_q9 oc_q3 kV_q3 dc_q3 pm_q3 cd_q3 ct_q3 oc_q1 kV_q1 dc_q1 pm_q1 cd_q1 ct_q1 oc_q2 kV_q2 dc_q2 pm_q2 cd_q2 ct_q2 oc_q5 kV_q5 dc_q5 pm_q5 cd_q5 ct_q5 oc_q10 kV_q10 dc_q10 pm_q10 cd_q10 ct_q10 oc_q11 kV_q11 dc_q11 pm_q11 cd_q11 ct_q11 oc_q7 kV_q7 dc_q7 pm_q7 cd_q7 ct_q7 oc_q4 kV_q4 dc_q4 pm_q4 cd_q4 ct_q4 oc_q6 kV_q6 dc_q6 pm_q6 cd_q6 ct_q6 oc_law kV_law dc_law pm_law cd_law ct_law : Value}
  (a_q8 : PySem.W.nsIn K mainGlobals "product_of" = some (some (.ref f_q8)))
  (l_q8 : K.lookup f_q8 = some ⟨oc_q8, od_q8, .func (PySem.W.fnOf "product_of" "product_of" (defArgs s_q8) (defBody s_q8) (defScope s_q8) .none kV_q8 dc_q8 pm_q8 an_q8 cd_q8 ct_q8), sl_q8⟩)
  (c_q8 : PySem.W.codeIn K cd_q8 "product_of" = true)
  (k_q8 : PySem.W.keepIn K (.ref f_q8) = true)
  (a_q0 : PySem.W.nsIn K mainGlobals "refuse_no_step" = some (some (.ref f_q0)))
  (l_q0 : K.lookup f_q0 = some ⟨oc_q0, od_q0, .func (PySem.W.fnOf "refuse_no_step" "refuse_no_step" (defArgs s_q0) (defBody s_q0) (defScope s_q0) .none kV_q0 dc_q0 pm_q0 an_q0 cd_q0 ct_q0), sl_q0⟩)
  (c_q0 : PySem.W.codeIn K cd_q0 "refuse_no_step" = true)
  (k_q0 : PySem.W.keepIn K (.ref f_q0) = true)
  (a_q13 : PySem.W.nsIn K mainGlobals "turned" = some (some (.ref f_q13)))
  (l_q13 : K.lookup f_q13 = some ⟨oc_q13, od_q13, .func (PySem.W.fnOf "turned" "turned" (defArgs s_q13) (defBody s_q13) (defScope s_q13) .none kV_q13 dc_q13 pm_q13 an_q13 cd_q13 ct_q13), sl_q13⟩)
  (c_q13 : PySem.W.codeIn K cd_q13 "turned" = true)
  (k_q13 : PySem.W.keepIn K (.ref f_q13) = true)
  (a_q12 : PySem.W.nsIn K mainGlobals "row_at" = some (some (.ref f_q12)))
  (l_q12 : K.lookup f_q12 = some ⟨oc_q12, od_q12, .func (PySem.W.fnOf "row_at" "row_at" (defArgs s_q12) (defBody s_q12) (defScope s_q12) .none kV_q12 dc_q12 pm_q12 an_q12 cd_q12 ct_q12), sl_q12⟩)
  (c_q12 : PySem.W.codeIn K cd_q12 "row_at" = true)
  (k_q12 : PySem.W.keepIn K (.ref f_q12) = true)
  (a_q9 : PySem.W.nsIn K mainGlobals "with_digit" = some (some (.ref f_q9)))
  (l_q9 : K.lookup f_q9 = some ⟨oc_q9, od_q9, .func (PySem.W.fnOf "with_digit" "with_digit" (defArgs s_q9) (defBody s_q9) (defScope s_q9) .none kV_q9 dc_q9 pm_q9 an_q9 cd_q9 ct_q9), sl_q9⟩)
  (c_q9 : PySem.W.codeIn K cd_q9 "with_digit" = true)
  (k_q9 : PySem.W.keepIn K (.ref f_q9) = true)
  (a_q3 : PySem.W.nsIn K mainGlobals "round_along" = some (some (.ref f_q3)))
  (l_q3 : K.lookup f_q3 = some ⟨oc_q3, od_q3, .func (PySem.W.fnOf "round_along" "round_along" (defArgs s_q3) (defBody s_q3) (defScope s_q3) .none kV_q3 dc_q3 pm_q3 an_q3 cd_q3 ct_q3), sl_q3⟩)
  (c_q3 : PySem.W.codeIn K cd_q3 "round_along" = true)
  (k_q3 : PySem.W.keepIn K (.ref f_q3) = true)
  (a_q1 : PySem.W.nsIn K mainGlobals "closed_round" = some (some (.ref f_q1)))
  (l_q1 : K.lookup f_q1 = some ⟨oc_q1, od_q1, .func (PySem.W.fnOf "closed_round" "closed_round" (defArgs s_q1) (defBody s_q1) (defScope s_q1) .none kV_q1 dc_q1 pm_q1 an_q1 cd_q1 ct_q1), sl_q1⟩)
  (c_q1 : PySem.W.codeIn K cd_q1 "closed_round" = true)
  (k_q1 : PySem.W.keepIn K (.ref f_q1) = true)
  (a_q2 : PySem.W.nsIn K mainGlobals "_law_number" = some (some (.ref f_q2)))
  (l_q2 : K.lookup f_q2 = some ⟨oc_q2, od_q2, .func (PySem.W.fnOf "_law_number" "_law_number" (defArgs s_q2) (defBody s_q2) (defScope s_q2) .none kV_q2 dc_q2 pm_q2 an_q2 cd_q2 ct_q2), sl_q2⟩)
  (c_q2 : PySem.W.codeIn K cd_q2 "_law_number" = true)
  (k_q2 : PySem.W.keepIn K (.ref f_q2) = true)
  (a_q5 : PySem.W.nsIn K mainGlobals "_law_bases" = some (some (.ref f_q5)))
  (l_q5 : K.lookup f_q5 = some ⟨oc_q5, od_q5, .func (PySem.W.fnOf "_law_bases" "_law_bases" (defArgs s_q5) (defBody s_q5) (defScope s_q5) .none kV_q5 dc_q5 pm_q5 an_q5 cd_q5 ct_q5), sl_q5⟩)
  (c_q5 : PySem.W.codeIn K cd_q5 "_law_bases" = true)
  (k_q5 : PySem.W.keepIn K (.ref f_q5) = true)
  (a_q10 : PySem.W.nsIn K mainGlobals "_law_many" = some (some (.ref f_q10)))
  (l_q10 : K.lookup f_q10 = some ⟨oc_q10, od_q10, .func (PySem.W.fnOf "_law_many" "_law_many" (defArgs s_q10) (defBody s_q10) (defScope s_q10) .none kV_q10 dc_q10 pm_q10 an_q10 cd_q10 ct_q10), sl_q10⟩)
  (c_q10 : PySem.W.codeIn K cd_q10 "_law_many" = true)
  (k_q10 : PySem.W.keepIn K (.ref f_q10) = true)
  (a_q11 : PySem.W.nsIn K mainGlobals "_law_next" = some (some (.ref f_q11)))
  (l_q11 : K.lookup f_q11 = some ⟨oc_q11, od_q11, .func (PySem.W.fnOf "_law_next" "_law_next" (defArgs s_q11) (defBody s_q11) (defScope s_q11) .none kV_q11 dc_q11 pm_q11 an_q11 cd_q11 ct_q11), sl_q11⟩)
  (c_q11 : PySem.W.codeIn K cd_q11 "_law_next" = true)
  (k_q11 : PySem.W.keepIn K (.ref f_q11) = true)
  (a_q7 : PySem.W.nsIn K mainGlobals "_law_shown" = some (some (.ref f_q7)))
  (l_q7 : K.lookup f_q7 = some ⟨oc_q7, od_q7, .func (PySem.W.fnOf "_law_shown" "_law_shown" (defArgs s_q7) (defBody s_q7) (defScope s_q7) .none kV_q7 dc_q7 pm_q7 an_q7 cd_q7 ct_q7), sl_q7⟩)
  (c_q7 : PySem.W.codeIn K cd_q7 "_law_shown" = true)
  (k_q7 : PySem.W.keepIn K (.ref f_q7) = true)
  (a_q4 : PySem.W.nsIn K mainGlobals "_law_asked" = some (some (.ref f_q4)))
  (l_q4 : K.lookup f_q4 = some ⟨oc_q4, od_q4, .func (PySem.W.fnOf "_law_asked" "_law_asked" (defArgs s_q4) (defBody s_q4) (defScope s_q4) .none kV_q4 dc_q4 pm_q4 an_q4 cd_q4 ct_q4), sl_q4⟩)
  (c_q4 : PySem.W.codeIn K cd_q4 "_law_asked" = true)
  (k_q4 : PySem.W.keepIn K (.ref f_q4) = true)
  (a_q6 : PySem.W.nsIn K mainGlobals "_law_right" = some (some (.ref f_q6)))
  (l_q6 : K.lookup f_q6 = some ⟨oc_q6, od_q6, .func (PySem.W.fnOf "_law_right" "_law_right" (defArgs s_q6) (defBody s_q6) (defScope s_q6) .none kV_q6 dc_q6 pm_q6 an_q6 cd_q6 ct_q6), sl_q6⟩)
  (c_q6 : PySem.W.codeIn K cd_q6 "_law_right" = true)
  (k_q6 : PySem.W.keepIn K (.ref f_q6) = true)
  (a_law : PySem.W.nsIn K mainGlobals "law" = some (some (.ref f_law)))
  (l_law : K.lookup f_law = some ⟨oc_law, od_law, .func (PySem.W.fnOf "law" "law" (defArgs s_law) (defBody s_law) (defScope s_law) .none kV_law dc_law pm_law an_law cd_law ct_law), sl_law⟩)
  (c_law : PySem.W.codeIn K cd_law "law" = true)
  (k_law : PySem.W.keepIn K (.ref f_law) = true)
  (q_NoEnd : PySem.W.nsIn K mainGlobals "NoEnd" = some (some (.ref C_NoEnd)))
  (q_TooGreat : PySem.W.nsIn K mainGlobals "TooGreat" = some (some (.ref C_TooGreat)))
  (q_NoAsk : PySem.W.nsIn K mainGlobals "NoAsk" = some (some (.ref C_NoAsk)))
  (q_NoDigit : PySem.W.nsIn K mainGlobals "NoDigit" = some (some (.ref C_NoDigit)))
  (q_NoOrder : PySem.W.nsIn K mainGlobals "NoOrder" = some (some (.ref C_NoOrder)))
  (q_NoPlace : PySem.W.nsIn K mainGlobals "NoPlace" = some (some (.ref C_NoPlace)))
  (q_TooSmall : PySem.W.nsIn K mainGlobals "TooSmall" = some (some (.ref C_TooSmall)))
  (q_ScaleError : PySem.W.nsIn K mainGlobals "ScaleError" = some (some (.ref C_ScaleError)))
  (n_len : PySem.W.nsIn K mainGlobals "len" = some none)
  (n_range : PySem.W.nsIn K mainGlobals "range" = some none)
  (n_sum : PySem.W.nsIn K mainGlobals "sum" = some none)
  (n_tuple : PySem.W.nsIn K mainGlobals "tuple" = some none)
  (n_list : PySem.W.nsIn K mainGlobals "list" = some none)
  (n_max : PySem.W.nsIn K mainGlobals "max" = some none)
  (n_min : PySem.W.nsIn K mainGlobals "min" = some none)
  (n_isinstance : PySem.W.nsIn K mainGlobals "isinstance" = some none)
  (n_int : PySem.W.nsIn K mainGlobals "int" = some none)
  (n_bool : PySem.W.nsIn K mainGlobals "bool" = some none)
  (n_abs : PySem.W.nsIn K mainGlobals "abs" = some none)
  (n_zip : PySem.W.nsIn K mainGlobals "zip" = some none)
  (n_enumerate : PySem.W.nsIn K mainGlobals "enumerate" = some none)
  (n_any : PySem.W.nsIn K mainGlobals "any" = some none)
  (n_all : PySem.W.nsIn K mainGlobals "all" = some none)
  (n_sorted : PySem.W.nsIn K mainGlobals "sorted" = some none)
  (n_set : PySem.W.nsIn K mainGlobals "set" = some none)
  (n_dict : PySem.W.nsIn K mainGlobals "dict" = some none)
  (n_reversed : PySem.W.nsIn K mainGlobals "reversed" = some none)
  (n_ValueError : PySem.W.nsIn K mainGlobals "ValueError" = some none)
  (x_NoEnd : PySem.W.excIn K C_NoEnd [.type "ValueError", .type "Exception", .type "BaseException", .type "object"] "ValueError.__new__" = true)
  (x_TooGreat : PySem.W.excIn K C_TooGreat [.type "ValueError", .type "Exception", .type "BaseException", .type "object"] "ValueError.__new__" = true)
  (g1_NoEnd : PySem.W.findIn K (.ref C_NoEnd) "__getattribute__" = some (some (.builtin "BaseException.__getattribute__")))
  (g2_NoEnd : PySem.W.findIn K (.ref C_NoEnd) "__getattr__" = some none)
  (g3_NoEnd : PySem.W.isClsIn K C_NoEnd = true)
  (g4_NoEnd : PySem.W.findIn K (.ref C_NoEnd) "__class__" = some (some (.builtin "object.__class__")))
  (g7_NoEnd : PySem.W.mroIn K C_NoEnd (.type "object") = some true)
  (g8_NoEnd : PySem.W.mroIn K C_NoEnd (.type "BaseException") = some true)
  (g1_TooGreat : PySem.W.findIn K (.ref C_TooGreat) "__getattribute__" = some (some (.builtin "BaseException.__getattribute__")))
  (g2_TooGreat : PySem.W.findIn K (.ref C_TooGreat) "__getattr__" = some none)
  (g3_TooGreat : PySem.W.isClsIn K C_TooGreat = true)
  (g4_TooGreat : PySem.W.findIn K (.ref C_TooGreat) "__class__" = some (some (.builtin "object.__class__")))
  (g7_TooGreat : PySem.W.mroIn K C_TooGreat (.type "object") = some true)
  (g8_TooGreat : PySem.W.mroIn K C_TooGreat (.type "BaseException") = some true)
  (g5 : PySem.W.specialIn K (.builtin "object.__class__") "__get__" = some (some (.builtin "getset_descriptor.__get__")))
  (g6 : PySem.W.takesIn K (.builtin "object.__class__") = some true)
  (kn_NoEnd_NoEnd : PySem.W.kitOne K (.ref C_NoEnd) (.ref C_NoEnd) = some true)
  (kn_NoEnd_NoAsk : PySem.W.kitOne K (.ref C_NoEnd) (.ref C_NoAsk) = some false)
  (kn_NoEnd_NoDigit : PySem.W.kitOne K (.ref C_NoEnd) (.ref C_NoDigit) = some false)
  (kn_NoEnd_NoOrder : PySem.W.kitOne K (.ref C_NoEnd) (.ref C_NoOrder) = some false)
  (kn_NoEnd_NoPlace : PySem.W.kitOne K (.ref C_NoEnd) (.ref C_NoPlace) = some false)
  (kn_NoEnd_TooGreat : PySem.W.kitOne K (.ref C_NoEnd) (.ref C_TooGreat) = some false)
  (kn_NoEnd_TooSmall : PySem.W.kitOne K (.ref C_NoEnd) (.ref C_TooSmall) = some false)
  (kn_TooGreat_NoEnd : PySem.W.kitOne K (.ref C_TooGreat) (.ref C_NoEnd) = some false)
  (kn_TooGreat_NoAsk : PySem.W.kitOne K (.ref C_TooGreat) (.ref C_NoAsk) = some false)
  (kn_TooGreat_NoDigit : PySem.W.kitOne K (.ref C_TooGreat) (.ref C_NoDigit) = some false)
  (kn_TooGreat_NoOrder : PySem.W.kitOne K (.ref C_TooGreat) (.ref C_NoOrder) = some false)
  (kn_TooGreat_NoPlace : PySem.W.kitOne K (.ref C_TooGreat) (.ref C_NoPlace) = some false)
  (kn_TooGreat_TooGreat : PySem.W.kitOne K (.ref C_TooGreat) (.ref C_TooGreat) = some true)
  (kn_TooGreat_TooSmall : PySem.W.kitOne K (.ref C_TooGreat) (.ref C_TooSmall) = some false)
  (kt_NoEnd_ValueError : PySem.W.kitOne K (.ref C_NoEnd) (.type "ValueError") = some true)
  (kt_TooGreat_ValueError : PySem.W.kitOne K (.ref C_TooGreat) (.type "ValueError") = some true)
  (ke_NoEnd_ScaleError : PySem.W.exmOne K (.ref C_NoEnd) (.ref C_ScaleError) = some true)
  (ke_TooGreat_ScaleError : PySem.W.exmOne K (.ref C_TooGreat) (.ref C_ScaleError) = some true)
  (i_ib : PySem.W.kitOne K (.type "int") (.type "bool") = some false)
  (i_bi : PySem.W.kitOne K (.type "bool") (.type "int") = some true)
  : ∃ fd : FuncData, (∀ (s : Shared) (v : Value), BindsTo s fd ⟨[v], []⟩ [("script", v)]) ∧ ∀ base : Heap, K.In base → base.Ns mainGlobals mg → FnOk l.prog w K mg base CX0 8 fa fd ["script"] (spLaw K) := by
 have e := hfa.symm.trans (PySem.W.mg_of X G a_law)
 cases e
 have F_q8' := fun_mk (st := s_q8) l_q8 c_q8 k_q8
 have b_q8' := F_q8'.binds (ps := p_q8) fun ψ ψ ψ ψ ψ ψ us hl => us_1 (fun ψ => rfl) us hl
 have m_q8 := PySem.W.mg_of X G a_q8
 have F_q0' := fun_mk (st := s_q0) l_q0 c_q0 k_q0
 have b_q0' := F_q0'.binds (ps := p_q0) fun ψ ψ ψ ψ ψ ψ us hl => us_2 (fun ψ ψ => rfl) us hl
 have m_q0 := PySem.W.mg_of X G a_q0
 have F_q13' := fun_mk (st := s_q13) l_q13 c_q13 k_q13
 have b_q13' := F_q13'.binds (ps := p_q13) fun ψ ψ ψ ψ ψ ψ us hl => us_3 (fun ψ ψ ψ => rfl) us hl
 have m_q13 := PySem.W.mg_of X G a_q13
 have F_q12' := fun_mk (st := s_q12) l_q12 c_q12 k_q12
 have b_q12' := F_q12'.binds (ps := p_q12) fun ψ ψ ψ ψ ψ ψ us hl => us_2 (fun ψ ψ => rfl) us hl
 have m_q12 := PySem.W.mg_of X G a_q12
 have F_q9' := fun_mk (st := s_q9) l_q9 c_q9 k_q9
 have b_q9' := F_q9'.binds (ps := p_q9) fun ψ ψ ψ ψ ψ ψ us hl => us_3 (fun ψ ψ ψ => rfl) us hl
 have m_q9 := PySem.W.mg_of X G a_q9
 have F_q3' := fun_mk (st := s_q3) l_q3 c_q3 k_q3
 have b_q3' := F_q3'.binds (ps := p_q3) fun ψ ψ ψ ψ ψ ψ us hl => us_2 (fun ψ ψ => rfl) us hl
 have m_q3 := PySem.W.mg_of X G a_q3
 have F_q1' := fun_mk (st := s_q1) l_q1 c_q1 k_q1
 have b_q1' := F_q1'.binds (ps := p_q1) fun ψ ψ ψ ψ ψ ψ us hl => us_1 (fun ψ => rfl) us hl
 have m_q1 := PySem.W.mg_of X G a_q1
 have F_q2' := fun_mk (st := s_q2) l_q2 c_q2 k_q2
 have b_q2' := F_q2'.binds (ps := p_q2) fun ψ ψ ψ ψ ψ ψ us hl => us_2 (fun ψ ψ => rfl) us hl
 have m_q2 := PySem.W.mg_of X G a_q2
 have F_q5' := fun_mk (st := s_q5) l_q5 c_q5 k_q5
 have b_q5' := F_q5'.binds (ps := p_q5) fun ψ ψ ψ ψ ψ ψ us hl => us_3 (fun ψ ψ ψ => rfl) us hl
 have m_q5 := PySem.W.mg_of X G a_q5
 have F_q10' := fun_mk (st := s_q10) l_q10 c_q10 k_q10
 have b_q10' := F_q10'.binds (ps := p_q10) fun ψ ψ ψ ψ ψ ψ us hl => us_1 (fun ψ => rfl) us hl
 have m_q10 := PySem.W.mg_of X G a_q10
 have F_q11' := fun_mk (st := s_q11) l_q11 c_q11 k_q11
 have b_q11' := F_q11'.binds (ps := p_q11) fun ψ ψ ψ ψ ψ ψ us hl => us_2 (fun ψ ψ => rfl) us hl
 have m_q11 := PySem.W.mg_of X G a_q11
 have F_q7' := fun_mk (st := s_q7) l_q7 c_q7 k_q7
 have b_q7' := F_q7'.binds (ps := p_q7) fun ψ ψ ψ ψ ψ ψ us hl => us_2 (fun ψ ψ => rfl) us hl
 have m_q7 := PySem.W.mg_of X G a_q7
 have F_q4' := fun_mk (st := s_q4) l_q4 c_q4 k_q4
 have b_q4' := F_q4'.binds (ps := p_q4) fun ψ ψ ψ ψ ψ ψ us hl => us_1 (fun ψ => rfl) us hl
 have m_q4 := PySem.W.mg_of X G a_q4
 have F_q6' := fun_mk (st := s_q6) l_q6 c_q6 k_q6
 have b_q6' := F_q6'.binds (ps := p_q6) fun ψ ψ ψ ψ ψ ψ us hl => us_1 (fun ψ => rfl) us hl
 have m_q6 := PySem.W.mg_of X G a_q6
 have F_law' := fun_mk (st := s_law) l_law c_law k_law
 have m_NoEnd := PySem.W.mg_of X G q_NoEnd
 have m_TooGreat := PySem.W.mg_of X G q_TooGreat
 have m_NoAsk := PySem.W.mg_of X G q_NoAsk
 have m_NoDigit := PySem.W.mg_of X G q_NoDigit
 have m_NoOrder := PySem.W.mg_of X G q_NoOrder
 have m_NoPlace := PySem.W.mg_of X G q_NoPlace
 have m_TooSmall := PySem.W.mg_of X G q_TooSmall
 have m_ScaleError := PySem.W.mg_of X G q_ScaleError
 have z_len := PySem.W.mg_none_of X G n_len
 have z_range := PySem.W.mg_none_of X G n_range
 have z_sum := PySem.W.mg_none_of X G n_sum
 have z_tuple := PySem.W.mg_none_of X G n_tuple
 have z_list := PySem.W.mg_none_of X G n_list
 have z_max := PySem.W.mg_none_of X G n_max
 have z_min := PySem.W.mg_none_of X G n_min
 have z_isinstance := PySem.W.mg_none_of X G n_isinstance
 have z_int := PySem.W.mg_none_of X G n_int
 have z_bool := PySem.W.mg_none_of X G n_bool
 have z_abs := PySem.W.mg_none_of X G n_abs
 have z_zip := PySem.W.mg_none_of X G n_zip
 have z_enumerate := PySem.W.mg_none_of X G n_enumerate
 have z_any := PySem.W.mg_none_of X G n_any
 have z_all := PySem.W.mg_none_of X G n_all
 have z_sorted := PySem.W.mg_none_of X G n_sorted
 have z_set := PySem.W.mg_none_of X G n_set
 have z_dict := PySem.W.mg_none_of X G n_dict
 have z_reversed := PySem.W.mg_none_of X G n_reversed
 have z_ValueError := PySem.W.mg_none_of X G n_ValueError
 have B : Bl mg := ⟨z_len, z_range, z_sum, z_tuple, z_list, z_max, z_min, z_isinstance, z_int, z_bool, z_abs, z_zip, z_enumerate, z_any, z_all, z_sorted, z_set, z_dict, z_reversed, z_ValueError⟩
 have kt : Kt K := ⟨i_ib, i_bi⟩
 have ek_NoEnd : ExcK K C_NoEnd := ⟨g1_NoEnd, g2_NoEnd, g3_NoEnd, g4_NoEnd, g5, g6, g7_NoEnd, g8_NoEnd⟩
 have ek_TooGreat : ExcK K C_TooGreat := ⟨g1_TooGreat, g2_TooGreat, g3_TooGreat, g4_TooGreat, g5, g6, g7_TooGreat, g8_TooGreat⟩
 have T : Tx K mg := ⟨trivial, ⟨_, m_NoEnd, x_NoEnd⟩, ⟨_, m_TooGreat, x_TooGreat⟩, ⟨_, m_NoEnd⟩, ⟨_, m_NoAsk⟩, ⟨_, m_NoDigit⟩, ⟨_, m_NoOrder⟩, ⟨_, m_NoPlace⟩, ⟨_, m_TooGreat⟩, ⟨_, m_TooSmall⟩, ⟨_, m_ScaleError⟩, ⟨⟨_, _, m_NoEnd, m_NoEnd, ek_NoEnd, kn_NoEnd_NoEnd⟩, ⟨⟨_, _, m_NoEnd, m_NoAsk, ek_NoEnd, kn_NoEnd_NoAsk⟩, ⟨⟨_, _, m_NoEnd, m_NoDigit, ek_NoEnd, kn_NoEnd_NoDigit⟩, ⟨⟨_, _, m_NoEnd, m_NoOrder, ek_NoEnd, kn_NoEnd_NoOrder⟩, ⟨⟨_, _, m_NoEnd, m_NoPlace, ek_NoEnd, kn_NoEnd_NoPlace⟩, ⟨⟨_, _, m_NoEnd, m_TooGreat, ek_NoEnd, kn_NoEnd_TooGreat⟩, ⟨⟨_, _, m_NoEnd, m_TooSmall, ek_NoEnd, kn_NoEnd_TooSmall⟩, ⟨⟨_, _, m_TooGreat, m_NoEnd, ek_TooGreat, kn_TooGreat_NoEnd⟩, ⟨⟨_, _, m_TooGreat, m_NoAsk, ek_TooGreat, kn_TooGreat_NoAsk⟩, ⟨⟨_, _, m_TooGreat, m_NoDigit, ek_TooGreat, kn_TooGreat_NoDigit⟩, ⟨⟨_, _, m_TooGreat, m_NoOrder, ek_TooGreat, kn_TooGreat_NoOrder⟩, ⟨⟨_, _, m_TooGreat, m_NoPlace, ek_TooGreat, kn_TooGreat_NoPlace⟩, ⟨⟨_, _, m_TooGreat, m_TooGreat, ek_TooGreat, kn_TooGreat_TooGreat⟩, ⟨⟨_, _, m_TooGreat, m_TooSmall, ek_TooGreat, kn_TooGreat_TooSmall⟩, trivial⟩⟩⟩⟩⟩⟩⟩⟩⟩⟩⟩⟩⟩⟩, ⟨⟨_, m_NoEnd, ek_NoEnd, kt_NoEnd_ValueError⟩, ⟨⟨_, m_TooGreat, ek_TooGreat, kt_TooGreat_ValueError⟩, trivial⟩⟩, ⟨_, m_ScaleError, ⟨⟨_, m_NoEnd, ke_NoEnd_ScaleError⟩, ⟨⟨_, m_TooGreat, ke_TooGreat_ScaleError⟩, trivial⟩⟩⟩⟩
 refine ⟨PySem.W.fnOf "law" "law" (defArgs s_law) (defBody s_law) (defScope s_law) .none kV_law dc_law pm_law an_law cd_law ct_law, fun s v => .of_eq rfl, fun base ψ ψ => ?_⟩
 have c_q8' := Fn.mk (ok_q8 (P := l.prog) (w := w) (base := base) F_q8' B kt T ) m_q8 k_q8 b_q8'
 have c_q0' := Fn.mk (ok_q0 (P := l.prog) (w := w) (base := base) F_q0' B kt T c_q8') m_q0 k_q0 b_q0'
 have c_q13' := Fn.mk (ok_q13 (P := l.prog) (w := w) (base := base) F_q13' B kt T ) m_q13 k_q13 b_q13'
 have c_q12' := Fn.mk (ok_q12 (P := l.prog) (w := w) (base := base) F_q12' B kt T c_q0' c_q13') m_q12 k_q12 b_q12'
 have c_q9' := Fn.mk (ok_q9 (P := l.prog) (w := w) (base := base) F_q9' B kt T ) m_q9 k_q9 b_q9'
 have c_q3' := Fn.mk (ok_q3 (P := l.prog) (w := w) (base := base) F_q3' B kt T c_q12' c_q9' c_q8') m_q3 k_q3 b_q3'
 have c_q1' := Fn.mk (ok_q1 (P := l.prog) (w := w) (base := base) F_q1' B kt T c_q3') m_q1 k_q1 b_q1'
 have c_q2' := Fn.mk (ok_q2 (P := l.prog) (w := w) (base := base) F_q2' B kt T ) m_q2 k_q2 b_q2'
 have c_q5' := Fn.mk (ok_q5 (P := l.prog) (w := w) (base := base) F_q5' B kt T c_q2') m_q5 k_q5 b_q5'
 have c_q10' := Fn.mk (ok_q10 (P := l.prog) (w := w) (base := base) F_q10' B kt T ) m_q10 k_q10 b_q10'
 have c_q11' := Fn.mk (ok_q11 (P := l.prog) (w := w) (base := base) F_q11' B kt T ) m_q11 k_q11 b_q11'
 have c_q7' := Fn.mk (ok_q7 (P := l.prog) (w := w) (base := base) F_q7' B kt T c_q10' c_q11') m_q7 k_q7 b_q7'
 have c_q4' := Fn.mk (ok_q4 (P := l.prog) (w := w) (base := base) F_q4' B kt T c_q1') m_q4 k_q4 b_q4'
 have c_q6' := Fn.mk (ok_q6 (P := l.prog) (w := w) (base := base) F_q6' B kt T c_q4' c_q7' c_q11') m_q6 k_q6 b_q6'
 exact law_end (ok_law F_law' B kt T c_q5' c_q6' c_q2') (fun ψ => trivial) law_true
end My
open PySem PySem.W PyProof.Rows
set_option maxRecDepth 100000 in
set_option maxHeartbeats 0 in
theorem PySem.Challenge.cw_mixedscales_k36_closed_rounds_holds : PySem.Challenge.rw_mixedscales_k36_closed_rounds.Holds :=
 hd (by
 k_fill
 refine L2.walk_ofK (l := PySem.Challenge.rw_mixedscales_k36_closed_rounds) (n := 63) (k := 8) (x := "script") (CX := L2.CX0) (sp := L2.spLaw) rfl (by decide) rfl ⟨rfl, by decide, by decide⟩ (fun w h Y => PySem.W.kIn_of Y) ?F ?S ?C
 case S => exact fun ψ ψ a ns hl ψ hS => ⟨a, ns, rfl, hS, hl, fun ψ => rfl⟩
 case C => exact fun ψ ψ ψ ψ z => z
 case F =>
  intro w mg fa h KX G hmg
  refine' My.all_mk KX G hmg ?a_q8 ?l_q8 ?c_q8 ?k_q8 ?a_q0 ?l_q0 ?c_q0 ?k_q0 ?a_q13 ?l_q13 ?c_q13 ?k_q13 ?a_q12 ?l_q12 ?c_q12 ?k_q12 ?a_q9 ?l_q9 ?c_q9 ?k_q9 ?a_q3 ?l_q3 ?c_q3 ?k_q3 ?a_q1 ?l_q1 ?c_q1 ?k_q1 ?a_q2 ?l_q2 ?c_q2 ?k_q2 ?a_q5 ?l_q5 ?c_q5 ?k_q5 ?a_q10 ?l_q10 ?c_q10 ?k_q10 ?a_q11 ?l_q11 ?c_q11 ?k_q11 ?a_q7 ?l_q7 ?c_q7 ?k_q7 ?a_q4 ?l_q4 ?c_q4 ?k_q4 ?a_q6 ?l_q6 ?c_q6 ?k_q6 ?a_law ?l_law ?c_law ?k_law ?q_NoEnd ?q_TooGreat ?q_NoAsk ?q_NoDigit ?q_NoOrder ?q_NoPlace ?q_TooSmall ?q_ScaleError ?n_len ?n_range ?n_sum ?n_tuple ?n_list ?n_max ?n_min ?n_isinstance ?n_int ?n_bool ?n_abs ?n_zip ?n_enumerate ?n_any ?n_all ?n_sorted ?n_set ?n_dict ?n_reversed ?n_ValueError ?x_NoEnd ?x_TooGreat ?g1_NoEnd ?g2_NoEnd ?g3_NoEnd ?g4_NoEnd ?g7_NoEnd ?g8_NoEnd ?g1_TooGreat ?g2_TooGreat ?g3_TooGreat ?g4_TooGreat ?g7_TooGreat ?g8_TooGreat ?g5 ?g6 ?kn_NoEnd_NoEnd ?kn_NoEnd_NoAsk ?kn_NoEnd_NoDigit ?kn_NoEnd_NoOrder ?kn_NoEnd_NoPlace ?kn_NoEnd_TooGreat ?kn_NoEnd_TooSmall ?kn_TooGreat_NoEnd ?kn_TooGreat_NoAsk ?kn_TooGreat_NoDigit ?kn_TooGreat_NoOrder ?kn_TooGreat_NoPlace ?kn_TooGreat_TooGreat ?kn_TooGreat_TooSmall ?kt_NoEnd_ValueError ?kt_TooGreat_ValueError ?ke_NoEnd_ScaleError ?ke_TooGreat_ScaleError ?i_ib ?i_bi
  (case a_q8 => k_is)
  (case l_q8 => k_is)
  (case c_q8 => k_is)
  (case k_q8 => k_is)
  (case a_q0 => k_is)
  (case l_q0 => k_is)
  (case c_q0 => k_is)
  (case k_q0 => k_is)
  (case a_q13 => k_is)
  (case l_q13 => k_is)
  (case c_q13 => k_is)
  (case k_q13 => k_is)
  (case a_q12 => k_is)
  (case l_q12 => k_is)
  (case c_q12 => k_is)
  (case k_q12 => k_is)
  (case a_q9 => k_is)
  (case l_q9 => k_is)
  (case c_q9 => k_is)
  (case k_q9 => k_is)
  (case a_q3 => k_is)
  (case l_q3 => k_is)
  (case c_q3 => k_is)
  (case k_q3 => k_is)
  (case a_q1 => k_is)
  (case l_q1 => k_is)
  (case c_q1 => k_is)
  (case k_q1 => k_is)
  (case a_q2 => k_is)
  (case l_q2 => k_is)
  (case c_q2 => k_is)
  (case k_q2 => k_is)
  (case a_q5 => k_is)
  (case l_q5 => k_is)
  (case c_q5 => k_is)
  (case k_q5 => k_is)
  (case a_q10 => k_is)
  (case l_q10 => k_is)
  (case c_q10 => k_is)
  (case k_q10 => k_is)
  (case a_q11 => k_is)
  (case l_q11 => k_is)
  (case c_q11 => k_is)
  (case k_q11 => k_is)
  (case a_q7 => k_is)
  (case l_q7 => k_is)
  (case c_q7 => k_is)
  (case k_q7 => k_is)
  (case a_q4 => k_is)
  (case l_q4 => k_is)
  (case c_q4 => k_is)
  (case k_q4 => k_is)
  (case a_q6 => k_is)
  (case l_q6 => k_is)
  (case c_q6 => k_is)
  (case k_q6 => k_is)
  (case a_law => k_is)
  (case l_law => k_is)
  (case c_law => k_is)
  (case k_law => k_is)
  (case q_NoEnd => k_is)
  (case q_TooGreat => k_is)
  (case q_NoAsk => k_is)
  (case q_NoDigit => k_is)
  (case q_NoOrder => k_is)
  (case q_NoPlace => k_is)
  (case q_TooSmall => k_is)
  (case q_ScaleError => k_is)
  (case n_len => k_is)
  (case n_range => k_is)
  (case n_sum => k_is)
  (case n_tuple => k_is)
  (case n_list => k_is)
  (case n_max => k_is)
  (case n_min => k_is)
  (case n_isinstance => k_is)
  (case n_int => k_is)
  (case n_bool => k_is)
  (case n_abs => k_is)
  (case n_zip => k_is)
  (case n_enumerate => k_is)
  (case n_any => k_is)
  (case n_all => k_is)
  (case n_sorted => k_is)
  (case n_set => k_is)
  (case n_dict => k_is)
  (case n_reversed => k_is)
  (case n_ValueError => k_is)
  (case x_NoEnd => k_exc)
  (case x_TooGreat => k_exc)
  (case g1_NoEnd => k_is)
  (case g2_NoEnd => k_is)
  (case g3_NoEnd => k_is)
  (case g4_NoEnd => k_is)
  (case g7_NoEnd => k_is)
  (case g8_NoEnd => k_is)
  (case g1_TooGreat => k_is)
  (case g2_TooGreat => k_is)
  (case g3_TooGreat => k_is)
  (case g4_TooGreat => k_is)
  (case g7_TooGreat => k_is)
  (case g8_TooGreat => k_is)
  (case g5 => k_is)
  (case g6 => k_is)
  (case kn_NoEnd_NoEnd => kit_is)
  (case kn_NoEnd_NoAsk => kit_is)
  (case kn_NoEnd_NoDigit => kit_is)
  (case kn_NoEnd_NoOrder => kit_is)
  (case kn_NoEnd_NoPlace => kit_is)
  (case kn_NoEnd_TooGreat => kit_is)
  (case kn_NoEnd_TooSmall => kit_is)
  (case kn_TooGreat_NoEnd => kit_is)
  (case kn_TooGreat_NoAsk => kit_is)
  (case kn_TooGreat_NoDigit => kit_is)
  (case kn_TooGreat_NoOrder => kit_is)
  (case kn_TooGreat_NoPlace => kit_is)
  (case kn_TooGreat_TooGreat => kit_is)
  (case kn_TooGreat_TooSmall => kit_is)
  (case kt_NoEnd_ValueError => kit_is)
  (case kt_TooGreat_ValueError => kit_is)
  (case ke_NoEnd_ScaleError => kts_exm)
  (case ke_TooGreat_ScaleError => kts_exm)
  (case i_ib => kit_is)
  (case i_bi => kit_is)
 )
