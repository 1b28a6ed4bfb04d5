import PyProof.Rows.All
import Wide.All
import OpenK.AllK
import Wide.FinOn
import Lean
import PyProof.EqAt
import PyProof.EqKinds
import PyProof.TupleCall
import PySem.Challenge.RW_mixedscales_k09_carries_looked_at
set_option Elab.async false
set_option linter.all false
set_option maxRecDepth 100000
/-! THE HAND LAYER, for ints, bools, texts, own classes, LISTS and tuples (index, slices, in, append, pop ..), calls, loops. Paste it whole ahead of your own text; what your proof does not reach may be deleted. -/
namespace L2
open PySem PySem.Spec PyProof.Rows

/-- a key: an int or a str -/
abbrev Key := Sum Int Str
def keyIs : Key → Value → Bool
  | .inl k, v => Value.isInt k v
  | .inr x, v => Value.isStrOf x v
def keyH (w : World) : Key → Int
  | .inl k => hashInt k
  | .inr x => hashStr w x
theorem keyIs_shape : ∀ {k : Key} {v : Value}, keyIs k v = true → (∃ i t, k = Sum.inl i ∧ v = Value.int i t) ∨ (∃ x t, k = Sum.inr x ∧ v = Value.str x t)
  | .inl i, v, h => by
    obtain ⟨t, e⟩ := Value.isInt_shape (k := i) (v := v) h
    exact .inl ⟨i, t, rfl, e⟩
  | .inr x, v, h => by
    obtain ⟨t, e⟩ := Value.isStrOf_shape (x := x) (v := v) h
    exact .inr ⟨x, t, rfl, e⟩
theorem keyIs_int (i : Int) (t : Tok) : keyIs (.inl i) (.int i t) = true := by simp [keyIs, Value.isInt]
theorem keyIs_str (x : Str) (t : Tok) : keyIs (.inr x) (.str x t) = true := by simp [keyIs, Value.isStrOf]
theorem key_ll (a b : Int) : decide ((Sum.inl a : Key) = Sum.inl b) = (a == b) := by
  by_cases e : a = b
  · subst e; simp
  · have h : ¬ (Sum.inl a : Key) = Sum.inl b := fun q => e (Sum.inl.inj q)
    rw [decide_eq_false h]
    exact (beq_eq_false_iff_ne.mpr e).symm
theorem key_rr (a b : Str) : decide ((Sum.inr a : Key) = Sum.inr b) = decide (a = b) := by
  by_cases e : a = b
  · subst e; simp
  · have h : ¬ (Sum.inr a : Key) = Sum.inr b := fun q => e (Sum.inr.inj q)
    rw [decide_eq_false h, decide_eq_false e]
theorem key_lr (a : Int) (b : Str) : decide ((Sum.inl a : Key) = Sum.inr b) = false := decide_eq_false (fun q => nomatch q)
theorem key_rl (a : Str) (b : Int) : decide ((Sum.inr a : Key) = Sum.inl b) = false := decide_eq_false (fun q => nomatch q)

def mixKind (prog : Program) (w : World) : PySem.KeyKind prog w Key where
  is := keyIs
  hash := keyH w
  inj := fun v a b ha hb => by
    rcases keyIs_shape ha with ⟨i, t, rfl, rfl⟩ | ⟨x, t, rfl, rfl⟩
    · rcases keyIs_shape hb with ⟨j, u, rfl, e⟩ | ⟨y, u, rfl, e⟩
      · injection e with e1 _; rw [e1]
      · exact nomatch e
    · rcases keyIs_shape hb with ⟨j, u, rfl, e⟩ | ⟨y, u, rfl, e⟩
      · exact nomatch e
      · injection e with e1 _; rw [e1]
  byValue := fun k v h => by
    rcases keyIs_shape h with ⟨i, t, rfl, rfl⟩ | ⟨x, t, rfl, rfl⟩ <;> rfl
  pyHash := fun hv h => by
    rcases keyIs_shape hv with ⟨i, t, rfl, rfl⟩ | ⟨x, t, rfl, rfl⟩
    · exact wpAny_pyHash_int h
    · exact wpAny_pyHash_str h
  eqBool := fun hu hv h => by
    rcases keyIs_shape hu with ⟨i, t, rfl, rfl⟩ | ⟨x, t, rfl, rfl⟩
    · rcases keyIs_shape hv with ⟨j, u, rfl, rfl⟩ | ⟨y, u, rfl, rfl⟩
      · rw [key_ll] at h; exact wpAny_eqBool_int h
      · rw [key_lr] at h; exact SeqAt.EqAt.int_str i t y u _ _ _ _ h
    · rcases keyIs_shape hv with ⟨j, u, rfl, rfl⟩ | ⟨y, u, rfl, rfl⟩
      · rw [key_rl] at h; exact SeqAt.EqAt.str_int x t j u _ _ _ _ h
      · rw [key_rr] at h; exact wpAny_eqBool_str h
  «strs» := fun k x t v h => by
    rcases keyIs_shape h with ⟨i, u, rfl, e⟩ | ⟨y, u, rfl, e⟩
    · exact nomatch e
    · injection e with e1 _
      subst e1
      cases v <;> rfl

theorem mixKind_is (prog : Program) (w : World) (k : Key) (v : Value) : (mixKind prog w).is k v = keyIs k v := rfl
theorem mixKind_int (prog : Program) (w : World) (i : Int) (t : Tok) : (mixKind prog w).is (.inl i) (.int i t) = true := keyIs_int i t
theorem mixKind_str (prog : Program) (w : World) (x : Str) (t : Tok) : (mixKind prog w).is (.inr x) (.str x t) = true := keyIs_str x t
end L2

namespace L2
open PySem PySem.Spec PyProof.Rows

/-- a value, without the heap -/
inductive V where
  | non | bl (b : Bool) | int (i : Int) | str (x : Str) | byt (b : Array UInt8) | flt (b : UInt64) | ref (a : Addr) | ty (n : String)
  deriving DecidableEq

def RelV : V → Value → Prop
  | .non, u => u = Value.none
  | .bl b, u => u = Value.bool b
  | .int i, u => ∃ t, u = Value.int i t
  | .str x, u => ∃ t, u = Value.str x t
  | .byt b, u => ∃ t, u = Value.bytes b t
  | .flt b, u => ∃ t, u = Value.float b t
  | .ref a, u => u = Value.ref a
  | .ty n, u => u = Value.type n

abbrev Vals : List V → List Value → Prop := Paired RelV
theorem Vals.length {xs : List V} {us : List Value} (r : Vals xs us) : xs.length = us.length := Paired.length r
theorem Vals.get : ∀ {xs : List V} {us : List Value} {i : Nat} {x : V}, Vals xs us → xs[i]? = some x → ∃ u, us[i]? = some u ∧ RelV x u
  | _, _, _, _, .nil, e => by simp at e
  | _, _, 0, _, .cons r _, e => by simp at e; subst e; exact ⟨_, rfl, r⟩
  | _, _, i + 1, x, .cons _ t, e => by
    obtain ⟨u, h1, h2⟩ := Vals.get (i := i) (x := x) t (by simpa using e)
    exact ⟨u, by simpa using h1, h2⟩
theorem Vals.set {x : V} {u : Value} (r : RelV x u) : ∀ {xs : List V} {us : List Value} (i : Nat), Vals xs us → Vals (xs.set i x) (us.set i u)
  | _, _, _, .nil => .nil
  | _, _, 0, .cons _ t => .cons r t
  | _, _, i + 1, .cons q t => .cons q (Vals.set r i t)
theorem Vals.append : ∀ {xs ys : List V} {us ws : List Value}, Vals xs us → Vals ys ws → Vals (xs ++ ys) (us ++ ws)
  | _, _, _, _, .nil, s => s
  | _, _, _, _, .cons r t, s => .cons r (Vals.append t s)
theorem Vals.take : ∀ {xs : List V} {us : List Value} (n : Nat), Vals xs us → Vals (xs.take n) (us.take n)
  | _, _, 0, _ => .nil
  | _, _, _ + 1, .nil => .nil
  | _, _, n + 1, .cons r t => .cons r (Vals.take n t)
theorem Vals.drop : ∀ {xs : List V} {us : List Value} (n : Nat), Vals xs us → Vals (xs.drop n) (us.drop n)
  | _, _, 0, r => r
  | _, _, _ + 1, .nil => .nil
  | _, _, n + 1, .cons _ t => Vals.drop n t
theorem Vals.none_of : ∀ {xs : List V} {us : List Value} {i : Nat}, Vals xs us → xs[i]? = none → us[i]? = none := fun {xs us i} r e => by
  have h1 := r.length
  have h2 : xs.length ≤ i := List.getElem?_eq_none_iff.mp e
  exact List.getElem?_eq_none_iff.mpr (by omega)

def RelO : Option V → Option Value → Prop
  | some v, some u => RelV v u
  | none, none => True
  | _, _ => False
def KV {κ : Type} : List (κ × V) → List (κ × Value) → Prop := Paired fun (p : κ × V) (q : κ × Value) => p.1 = q.1 ∧ RelV p.2 q.2

/-- a key of a dict (00_mix): an int or a text -/
def kV : Key → V
  | .inl i => .int i
  | .inr x => .str x

/-- what stands at a tracked address -/
inductive HO where
  /-- a list -/
  | lst (xs : List V)
  /-- a tuple (never changes) -/
  | tup (xs : List V)
  /-- a dict whose keys are ints and texts; one whose keys are tuples of ints and texts (the empty one is both) -/
  | dK (kvs : List (Key × V)) | dT (kvs : List (List Key × V))
  /-- a set of ints: its members, its size -/
  | set (S : Int → Bool) (n : Nat)
  /-- an instance of the class at C, its dict at dx, its attributes -/
  | ins (C dx : Addr) (fs : List (Str × V))
  /-- the dict of the instance at x -/
  | own (x : Addr)
  /-- the dict of an exception -/
  | xd (fs : List (Str × V))
  /-- a bound method, f of x -/
  | met (f x : Addr)
  /-- a range object lo, lo + 1, .. below hi -/
  | rng (lo hi : Int)
  /-- a thing that is known to the object (the script; a dict while a loop walks it): read, never written while it is so -/
  | frz (o : Obj) (u : HO)
  /-- a code object's table -/
  | tbl (ps : Array Value)
  /-- any other thing, by what is true of its one object (a def of one's own: SetO a S n := HO.ext fun h => ..) -/
  | ext (φ : Heap → Prop)

abbrev Hp := Addr → Option HO
def upd (H : Hp) (a : Addr) (o : HO) : Hp := fun b => if b = a then some o else H b
theorem upd_same {H : Hp} {a : Addr} {o : HO} : upd H a o a = some o := by unfold upd; rw [if_pos rfl]
theorem upd_ne {H : Hp} {a b : Addr} {o : HO} (h : b ≠ a) : upd H a o b = H b := by unfold upd; rw [if_neg h]
theorem upd_upd {H : Hp} {a : Addr} {o u : HO} : upd (upd H a o) a u = upd H a u := by
  funext b; unfold upd; split <;> rfl
/-- two objects of different content stand apart -/
theorem ne_of {H : Hp} {a b : Addr} {o u : HO} (h : H a = some o) (h' : H b = some u) (d : o ≠ u) : a ≠ b := by
  intro e; subst e; rw [h] at h'; exact d (Option.some.inj h')
theorem ne_of_none {H : Hp} {a b : Addr} {o : HO} (h : H a = some o) (h' : H b = none) : a ≠ b := by
  intro e; subst e; rw [h] at h'; cases h'

section
variable (P : Program) (w : World)
def ObjOk (H : Hp) (h : Heap) (a : Addr) : HO → Prop
  | .lst xs => xs.length ≤ sizeLine ∧ ∃ (its : List Value) (n : Nat), Vals xs its ∧ h.get? a = some { cls := .type "list", data := .seq its.toArray n }
  | .tup xs => xs.length ≤ sizeLine ∧ ∃ its : List Value, Vals xs its ∧ IsTup h a its.toArray
  | .dK kvs => kvs.length ≤ sizeLine ∧ (a == sysModules) = false ∧ ∃ vs, KV kvs vs ∧ h.DictOf (mixKind P w) a vs
  | .dT kvs => kvs.length ≤ sizeLine ∧ (a == sysModules) = false ∧ ∃ xs : List (List Key × Addr × Value),
      Paired (fun (p : List Key × V) (q : List Key × Addr × Value) => p.1 = q.1 ∧ H q.2.1 = some (.tup (p.1.map kV)) ∧ RelV p.2 q.2.2) kvs xs ∧
      ∃ o es ep, h.get? a = some o ∧ o.ExactDict ∧ o.data = .dict es ep ∧ es.toList = xs.map (entryOfKey (tupleKind (mixKind P w))) ∧ (xs.map (·.1)).Nodup
  | .set S n => h.SetOf (intKind P w) a S n
  | .ins C dx fs => H dx = some (.own a) ∧ fs.length ≤ 1000 ∧ dx ≠ a ∧ h.get? a = some (PySem.W.instObj C dx) ∧
      ∃ mA, h.Ns1 dx mA ∧ (∀ f, RelO (fs.lookup f) (mA f)) ∧ PySem.Within mA (fs.map (·.1))
  | .own _ => ∃ o, h.get? a = some o
  | .xd fs => ∃ mA, h.Ns1 a mA ∧ ∀ f, RelO (fs.lookup f) (mA f)
  | .rng lo hi => ∃ t u v, h.get? a = some { cls := .type "range", data := .fields #[.int lo t, .int hi u, .int 1 v] }
  | .frz o u => h.get? a = some o ∧ ObjOk H h a u
  | .tbl ps => h.get? a = some { cls := .none, data := .fields ps }
  | .met f x => h.get? a = some (PySem.W.methodObj (.ref f) (.ref x))
  | .ext φ => φ h ∧ (∃ o, h.get? a = some o) ∧ ∀ h1 h2 : Heap, φ h1 → (∀ o, h1.get? a = some o → h2.get? a = some o) → φ h2
/-- the abstract heap is held -/
def HOk (H : Hp) (h : Heap) : Prop := ∀ a o, H a = some o → ObjOk P w H h a o
end

section
variable {P : Program} {w : World} {H H' : Hp} {h h' : Heap} {a : Addr} {o : HO}
theorem ObjOk.lt (x : ObjOk P w H h a o) : a < h.objs.size := by
  cases o with
  | lst xs => obtain ⟨_, _, _, _, e⟩ := x; exact Heap.lt_size e
  | tup xs => obtain ⟨_, _, _, p⟩ := x; exact p.lt
  | dK kvs => obtain ⟨_, _, _, _, o, _, _, e, _⟩ := x; exact Heap.lt_size e
  | dT kvs => obtain ⟨_, _, _, _, o, _, _, e, _⟩ := x; exact Heap.lt_size e
  | set S n => obtain ⟨o, _, _, _, e, _⟩ := x; exact Heap.lt_size e
  | ins C dx fs => obtain ⟨_, _, _, e, _⟩ := x; exact Heap.lt_size e
  | own y => obtain ⟨_, e⟩ := x; exact Heap.lt_size e
  | xd fs => obtain ⟨_, ⟨_, _, _, e, _⟩, _⟩ := x; exact Heap.lt_size e
  | rng lo hi => obtain ⟨_, _, _, e⟩ := x; exact Heap.lt_size e
  | frz ob u => obtain ⟨e, _⟩ := x; exact Heap.lt_size e
  | tbl ps => exact Heap.lt_size (show h.get? a = some _ from x)
  | met f y => exact Heap.lt_size (show h.get? a = some _ from x)
  | ext φ => obtain ⟨_, ⟨_, e⟩, _⟩ := x; exact Heap.lt_size e
theorem Paired.mapP {α β : Type} {F G : α → β → Prop} : ∀ {l₁ : List α} {l₂ : List β}, Paired F l₁ l₂ → (∀ a b, F a b → G a b) → Paired G l₁ l₂
  | _, _, .nil, _ => .nil
  | _, _, .cons r t, f => .cons (f _ _ r) (Paired.mapP t f)
theorem Paired.imp' {α β : Type} {F G : α → β → Prop} (f : ∀ a b, F a b → G a b) {l₁ : List α} {l₂ : List β} (r : Paired F l₁ l₂) : Paired G l₁ l₂ := Paired.mapP r f
/-- what an object's description leans on: its own object, its own dict, the tuples -/
theorem ObjOk.stay (x : ObjOk P w H h a o) (k : ∀ b u, (b = a ∨ H b = some (.own a)) → h.get? b = some u → h'.get? b = some u)
    (ho : ∀ b, H b = some (.own a) → H' b = some (.own a)) (ht : ∀ b xs, H b = some (.tup xs) → H' b = some (.tup xs)) : ObjOk P w H' h' a o := by
  induction o with
  | lst xs => obtain ⟨z, its, n, r, e⟩ := x; exact ⟨z, its, n, r, k _ _ (.inl rfl) e⟩
  | tup xs => obtain ⟨z, its, r, ob, e, c⟩ := x; exact ⟨z, its, r, ob, k _ _ (.inl rfl) e, c⟩
  | dK kvs => obtain ⟨z, y, vs, r, ob, es, ep, e, c⟩ := x; exact ⟨z, y, vs, r, ob, es, ep, k _ _ (.inl rfl) e, c⟩
  | dT kvs =>
    obtain ⟨z, y, xs, r, ob, es, ep, e, c⟩ := x
    exact ⟨z, y, xs, Paired.mapP r fun p q z => ⟨z.1, ht _ _ z.2.1, z.2.2⟩, ob, es, ep, k _ _ (.inl rfl) e, c⟩
  | set S n => obtain ⟨ob, es, ep, t, e, c⟩ := x; exact ⟨ob, es, ep, t, k _ _ (.inl rfl) e, c⟩
  | ins C dx fs =>
    obtain ⟨d, z, ne, e, mA, ⟨od, es, ep, e2, c⟩, r⟩ := x
    exact ⟨ho _ d, z, ne, k _ _ (.inl rfl) e, mA, ⟨od, es, ep, k _ _ (.inr d) e2, c⟩, r⟩
  | own y => obtain ⟨ob, e⟩ := x; exact ⟨ob, k _ _ (.inl rfl) e⟩
  | xd fs => obtain ⟨mA, ⟨od, es, ep, e, c⟩, r⟩ := x; exact ⟨mA, ⟨od, es, ep, k _ _ (.inl rfl) e, c⟩, r⟩
  | rng lo hi => obtain ⟨t, u, v, e⟩ := x; exact ⟨t, u, v, k _ _ (.inl rfl) e⟩
  | frz ob u ih => obtain ⟨e, q⟩ := x; exact ⟨k _ _ (.inl rfl) e, ih q⟩
  | tbl ps =>
    have e : h.get? a = some { cls := .none, data := .fields ps } := x
    show h'.get? a = some { cls := .none, data := .fields ps }
    exact k a _ (.inl rfl) e
  | met f y =>
    have e : h.get? a = some (PySem.W.methodObj (.ref f) (.ref y)) := x
    show h'.get? a = some (PySem.W.methodObj (.ref f) (.ref y))
    exact k a _ (.inl rfl) e
  | ext φ => obtain ⟨p, ⟨o, e⟩, st⟩ := x; exact ⟨st _ _ p fun o q => k _ _ (.inl rfl) q, ⟨o, k _ _ (.inl rfl) e⟩, st⟩
theorem HOk.lt (x : HOk P w H h) (e : H a = some o) : a < h.objs.size := (x a o e).lt
theorem HOk.fresh (x : HOk P w H h) (e : h.objs.size ≤ a) : H a = none := by
  cases q : H a with
  | none => rfl
  | some u => exact absurd (Nat.lt_of_lt_of_le (x.lt q) e) (Nat.lt_irrefl _)
/-- every object of the heap is kept -/
theorem HOk.kept (x : HOk P w H h) (k : ∀ b u, h.get? b = some u → h'.get? b = some u) : HOk P w H h' := fun a o e =>
  (x a o e).stay (fun b u _ q => k b u q) (fun _ q => q) fun _ _ q => q
/-- a new object is laid and tracked -/
theorem HOk.laid (x : HOk P w H h) (k : ∀ b u, h.get? b = some u → h'.get? b = some u) (hp : h.objs.size ≤ a) (new : ObjOk P w (upd H a o) h' a o) : HOk P w (upd H a o) h' := fun b u e => by
  have hn := x.fresh hp
  by_cases hb : b = a
  · subst hb; rw [upd_same] at e; cases e; exact new
  · rw [upd_ne hb] at e
    exact (x b u e).stay (fun c v _ q => k c v q) (fun c q => by rw [upd_ne (ne_of_none q hn)]; exact q) fun c xs q => by rw [upd_ne (ne_of_none q hn)]; exact q
end

/-- what may be read as u: it is u, or a known u -/
def Rd (H : Hp) (a : Addr) (u : HO) : Prop := H a = some u ∨ ∃ o, H a = some (.frz o u)
theorem Rd.of {H : Hp} {a : Addr} {u : HO} (h : H a = some u) : Rd H a u := .inl h
theorem Rd.ok {P : Program} {w : World} {H : Hp} {h : Heap} {a : Addr} {u : HO} (r : Rd H a u) (x : HOk P w H h) : ObjOk P w H h a u := by
  rcases r with r | ⟨o, r⟩
  · exact x a u r
  · obtain ⟨_, q⟩ := x a _ r
    exact q
/-- what may be written -/
def Mut : Option HO → Prop
  | some (.lst _) => True
  | some (.dK _) => True
  | some (.dT _) => True
  | some (.set _ _) => True
  | some (.ins _ _ _) => True
  | some (.ext _) => True
  | _ => False
section
variable {P : Program} {w : World} {H : Hp} {h h' : Heap} {x e : Addr} {o' : HO}
/-- the object at e is changed: x itself, or the dict of the instance x -/
theorem HOk.write (ok : HOk P w H h) (mu : Mut (H x)) (he : e = x ∨ H e = some (.own x)) (k : ∀ b u, b ≠ e → h.get? b = some u → h'.get? b = some u) (heo : ∃ u, h'.get? e = some u)
    (new : ObjOk P w (upd H x o') h' x o') : HOk P w (upd H x o') h' := fun b u q => by
  have nown : ∀ c y, H c = some (.own y) → c ≠ x := fun c y r z => by subst z; rw [r] at mu; exact mu
  have ntup : ∀ c xs, H c = some (.tup xs) → c ≠ x := fun c xs r z => by subst z; rw [r] at mu; exact mu
  by_cases hb : b = x
  · subst hb; rw [upd_same] at q; cases q; exact new
  · rw [upd_ne hb] at q
    by_cases hbe : b = e
    · have q' : H b = some (.own x) := by
        rcases he with z | z
        · exact absurd (hbe.trans z) hb
        · rw [hbe]; exact z
      rw [q] at q'; cases q'
      obtain ⟨v, hv⟩ := heo
      exact ⟨v, by rw [hbe]; exact hv⟩
    · refine (ok b u q).stay (fun c v hc r => k c v ?_ r) (fun c r => by rw [upd_ne (nown c b r)]; exact r) fun c xs r => by rw [upd_ne (ntup c xs r)]; exact r
      rcases hc with rfl | hc
      · exact hbe
      · rintro rfl
        rcases he with z | z
        · exact nown c b hc z
        · rw [hc] at z; cases z; exact hb rfl
end

/-! ### kept unless tracked; of the frames at fs (the callers') the slots may change (an exception that passes writes there); of the records at ex (iterators) nothing is said -/
structure Un (fs ex : List Addr) (H H' : Hp) (h h' : Heap) : Prop where
  keep : ∀ b o, h.get? b = some o → H b = none → b ∉ fs → b ∉ ex → h'.get? b = some o
  slot : ∀ b o, h.get? b = some o → H b = none → b ∈ fs → b ∉ ex → ∃ sl, h'.get? b = some { o with slots := sl }
  free : ∀ b o, h.get? b = some o → H b = none → b ∉ ex → H' b = none
  there : ∀ b o, h.get? b = some o → b ∉ ex → ∃ o', h'.get? b = some o'
  tups : ∀ b xs, H b = some (.tup xs) → H' b = some (.tup xs)
  frzs : ∀ b o u, H b = some (.frz o u) → H' b = some (.frz o u)
  tbls : ∀ b ps, H b = some (.tbl ps) → ∃ more, H' b = some (.tbl (ps ++ more))
section
variable {fs fs' ex ex' : List Addr} {H H1 H2 : Hp} {h h1 h2 h' : Heap} {a x e : Addr} {o : HO}
theorem Un.any (u : Un fs ex H H1 h h1) {b : Addr} {ob : Obj} (q : h.get? b = some ob) (n : H b = none) (hx : b ∉ ex) : ∃ sl, h1.get? b = some { ob with slots := sl } := by
  by_cases hb : b ∈ fs
  · exact u.slot b ob q n hb hx
  · exact ⟨ob.slots, u.keep b ob q n hb hx⟩
theorem Un.trans (a : Un fs ex H H1 h h1) (b : Un fs ex H1 H2 h1 h2) : Un fs ex H H2 h h2 where
  keep := fun c ob q n hc hx => b.keep c ob (a.keep c ob q n hc hx) (a.free c ob q n hx) hc hx
  slot := fun c ob q n hc hx => by
    obtain ⟨sl, e1⟩ := a.slot c ob q n hc hx
    obtain ⟨sl', e2⟩ := b.slot c _ e1 (a.free c ob q n hx) hc hx
    exact ⟨sl', e2⟩
  free := fun c ob q n hx => by
    obtain ⟨o', e1⟩ := a.there c ob q hx
    exact b.free c o' e1 (a.free c ob q n hx) hx
  there := fun c ob q hx => by
    obtain ⟨o', e1⟩ := a.there c ob q hx
    exact b.there c o' e1 hx
  tups := fun c xs q => b.tups c xs (a.tups c xs q)
  frzs := fun c ob xs q => b.frzs c ob xs (a.frzs c ob xs q)
  tbls := fun c ps q => by
    obtain ⟨m1, e1⟩ := a.tbls c ps q
    obtain ⟨m2, e2⟩ := b.tbls c _ e1
    exact ⟨m1 ++ m2, by rw [e2, Array.append_assoc]⟩
theorem Un.kept (k : ∀ b u, h.get? b = some u → h'.get? b = some u) : Un fs ex H H h h' :=
  ⟨fun b ob q _ _ _ => k b ob q, fun b ob q _ _ _ => ⟨ob.slots, k b ob q⟩, fun _ _ _ n _ => n, fun b ob q _ => ⟨ob, k b ob q⟩, fun _ _ q => q, fun _ _ _ q => q, fun _ ps q => ⟨#[], by rw [q]; simp⟩⟩
theorem Un.refl : Un fs ex H H h h := Un.kept fun _ _ q => q
theorem Un.laid (k : ∀ b u, h.get? b = some u → h'.get? b = some u) (hp : h.objs.size ≤ a) (hn : H a = none) : Un fs ex H (upd H a o) h h' where
  keep := fun b u q _ _ _ => k b u q
  slot := fun b u q _ _ _ => ⟨u.slots, k b u q⟩
  free := fun b u q n _ => by rw [upd_ne (Nat.ne_of_lt (Nat.lt_of_lt_of_le (Heap.lt_size q) hp))]; exact n
  there := fun b u q _ => ⟨u, k b u q⟩
  tups := fun b xs q => by rw [upd_ne (ne_of_none q hn)]; exact q
  frzs := fun b u xs q => by rw [upd_ne (ne_of_none q hn)]; exact q
  tbls := fun b ps q => ⟨#[], by rw [upd_ne (ne_of_none q hn), q]; simp⟩
theorem Un.write (mu : Mut (H x)) (he : e = x ∨ H e = some (.own x)) (k : ∀ b u, b ≠ e → h.get? b = some u → h'.get? b = some u) (heo : ∃ u, h'.get? e = some u) : Un fs ex H (upd H x o) h h' := by
  have hx : ∀ b, H b = none → b ≠ x := fun b n z => by subst z; rw [n] at mu; exact mu
  have hb : ∀ b, H b = none → b ≠ e := fun b n z => by
    subst z
    rcases he with r | r
    · exact hx b n r
    · rw [n] at r; cases r
  have hm : ∀ b u, H b = some u → ¬ Mut (some u) → b ≠ x := fun b u q nm z => by subst z; rw [q] at mu; exact nm mu
  refine ⟨fun b u q n _ _ => k b u (hb b n) q, fun b u q n _ _ => ⟨u.slots, k b u (hb b n) q⟩, fun b u q n _ => by rw [upd_ne (hx b n)]; exact n, fun b u q _ => ?_,
    fun b xs q => by rw [upd_ne (hm b _ q fun z => z)]; exact q, fun b u xs q => by rw [upd_ne (hm b _ q fun z => z)]; exact q, fun b ps q => ⟨#[], by rw [upd_ne (hm b _ q fun z => z), q]; simp⟩⟩
  by_cases hbe : b = e
  · subst hbe; exact heo
  · exact ⟨u, k b u hbe q⟩
theorem Un.mono (u : Un fs ex H H1 h h1) (hs : ∀ b ∈ fs, b ∈ fs') (hx : ∀ b ∈ ex, b ∈ ex') : Un fs' ex' H H1 h h1 :=
  ⟨fun b ob q n hb he => u.keep b ob q n (fun z => hb (hs b z)) fun z => he (hx b z), fun _ _ q n _ he => u.any q n fun z => he (hx _ z), fun b ob q n he => u.free b ob q n fun z => he (hx b z), fun b ob q he => u.there b ob q fun z => he (hx b z), u.tups, u.frzs, u.tbls⟩
end

/-! ### the heap without what is tracked -/
def trk (h : Heap) (H : Hp) : List Addr := (List.range h.objs.size).filter fun a => (H a).isSome
def hidT (h : Heap) (H : Hp) : Heap := PySem.W.hideAll h (trk h H)
theorem hidT_size (h : Heap) (H : Hp) : (hidT h H).objs.size = h.objs.size := PySem.W.hideAll_size _ _
theorem hidT_get {h : Heap} {H : Hp} {b : Addr} {o : Obj} (e : h.get? b = some o) (n : H b = none) : (hidT h H).get? b = some o :=
  PySem.W.hideAll_get _ e fun hm => by
    have q : (H b).isSome = true := (List.mem_filter.mp hm).2
    rw [n] at q; simp at q
theorem of_hidT {h : Heap} {H : Hp} {b : Addr} {o : Obj} (e : (hidT h H).get? b = some o) : h.get? b = some o ∧ H b = none := by
  have e' : h.get? b = some o := PySem.W.of_hideAll (trk h H) e
  refine ⟨e', ?_⟩
  cases q : H b with
  | none => rfl
  | some x =>
    have hm : b ∈ trk h H := List.mem_filter.mpr ⟨List.mem_range.mpr (Heap.lt_size e'), by simp [q]⟩
    have z : (hidT h H).get? b = none := PySem.W.hideAll_none (trk h H) hm
    rw [z] at e; cases e

/-! ### OpenK's ledger, filled with every new object but one -/
def allNews (g h : Heap) (L : Addr) : List (Addr × Obj) := (List.range h.objs.size).filterMap fun a => if a = L ∨ (g.get? a).isSome = true then none else (h.get? a).map fun o => (a, o)
theorem mem_allNews {g h : Heap} {L a : Addr} {o : Obj} (h1 : a ≠ L) (h2 : g.get? a = none) (h3 : h.get? a = some o) : (a, o) ∈ allNews g h L :=
  List.mem_filterMap.mpr ⟨a, List.mem_range.mpr (Heap.lt_size h3), by simp [h1, h2, h3]⟩
theorem of_mem_allNews {g h : Heap} {L : Addr} {p : Addr × Obj} (hp : p ∈ allNews g h L) : p.1 ≠ L ∧ g.get? p.1 = none ∧ h.get? p.1 = some p.2 := by
  obtain ⟨b, _, e⟩ := List.mem_filterMap.mp hp
  split at e
  · cases e
  · rename_i hn
    cases q : h.get? b with
    | none => rw [q] at e; simp at e
    | some u =>
      rw [q] at e
      simp only [Option.map_some, Option.some.injEq] at e
      subst e
      refine ⟨fun z => hn (.inl z), ?_, q⟩
      show g.get? b = none
      cases r : g.get? b with
      | none => rfl
      | some v => exact (hn (.inr (by simp [r]))).elim
def rest (g h : Heap) (L d : Addr) : List (Addr × Obj) := (allNews g h L).filter fun p => decide (p.1 ≠ d)
theorem rest_ne {g h : Heap} {L d : Addr} : ∀ p ∈ rest g h L d, p.1 ≠ d := fun p hp => of_decide_eq_true (List.mem_filter.mp hp).2
theorem mem_rest {g h : Heap} {L d a : Addr} {o : Obj} (h1 : a ≠ L) (h2 : g.get? a = none) (h3 : h.get? a = some o) (h4 : a ≠ d) : (a, o) ∈ rest g h L d :=
  List.mem_filter.mpr ⟨mem_allNews h1 h2 h3, decide_eq_true h4⟩
theorem news_all {g h : Heap} {L : Addr} : News g L h (allNews g h L) := fun p hp => let ⟨a, b, c⟩ := of_mem_allNews hp; ⟨c, a, b⟩
theorem news_at {g h : Heap} {L d : Addr} {o : Obj} (h1 : d ≠ L) (h2 : g.get? d = none) (h3 : h.get? d = some o) : News g L h ((d, o) :: rest g h L d) := fun p hp => by
  rcases List.mem_cons.mp hp with rfl | hp
  · exact ⟨h3, h1, h2⟩
  · exact news_all p (List.mem_filter.mp hp).1
/-- behind a rule that changed d alone: all else but the frame is kept -/
theorem kept_of_news {g h h' : Heap} {L d : Addr} {m : Str → Option Value} (k : ∀ b o, g.get? b = some o → h.get? b = some o) (F : Fr g L h' m) (N : News g L h' (rest g h L d)) :
    ∀ b o, b ≠ L → b ≠ d → h.get? b = some o → h'.get? b = some o := fun b o h1 h2 e => by
  cases q : g.get? b with
  | some u =>
    have := k b u q
    rw [e] at this; cases this
    exact F.keep b _ q
  | none => exact (N (b, o) (mem_rest h1 q e h2)).1
end L2

namespace L2
open PySem PySem.Spec PyProof.Rows

/-- the module's facts, over the base: the heap at the law's entry without what is tracked there -/
structure Mod (K : PySem.W.Frag) (mg : Str → Option Value) (base : Heap) : Prop where
  kin : K.In base
  glob : base.Ns mainGlobals mg
  blt : ∃ mb, base.Ns builtinsNs mb ∧ ∀ x : Str, x ≠ "__name__" → mb x = bootBuiltins x
  nolimit : base.NoLimit

/-- the context: a def's body (or a comprehension's block) running. base: fixed through the whole law; s₀, H₀: the entry; outer: the frames whose slots others may change (a def's callers); stack: all frames that run;
   ex: iterators that were made ahead of the entry and are walked here (a comprehension's); fn: the names whose cells were made at the entry (a def: all; a comprehension's block: its own); calm: not within an except suite; pn: pins that every state bears; xe: what is wanted of an exception that leaves the code -/
structure Cx where
  prog : Program
  w : World
  K : PySem.W.Frag
  mg : Str → Option Value
  base : Heap
  A : Around
  N : List Str
  s₀ : Shared
  H₀ : Hp
  env : Env
  outer : List Env
  stack : List Env
  ex : List Addr
  fn : Str → Bool
  calm : Bool
  pn : List (Addr × Obj)
  xe : Value → Shared → Prop
/-- the callers' frames -/
def frs (l : List Env) : List Addr := l.filterMap (·.frame)
abbrev Cx.fs (X : Cx) : List Addr := frs X.outer

def Vis (sc : Scope) (x : Str) : Prop := sc.names.lookup x = some .local ∨ sc.names.lookup x = some .cell ∨ sc.names.lookup x = some .free
def Loc (sc : Scope) (x : Str) : Prop := sc.names.lookup x = some .local ∨ sc.names.lookup x = some .cell
def Look (env : Env) (h : Heap) (m : Str → Option Value) (x : Str) (u : Value) : Prop :=
  (env.kindOf x = some .local ∧ m x = some u) ∨ ((env.kindOf x = some .cell ∨ env.kindOf x = some .free) ∧ ∃ c, env.cells.lookup x = some c ∧ h.IsCell c (some u))

structure Cx.Ok (X : Cx) : Prop where
  mod : Mod X.K X.mg X.base
  kind : X.env.scope.kind = .function
  glob : X.env.globals = mainGlobals
  blt : X.env.builtins = builtinsNs
  above : X.s₀.heap.objs.size ≤ X.env.locals
  inj : ∀ x y c, X.env.cells.lookup x = some c → X.env.cells.lookup y = some c → x = y
  has : ∀ x, (X.env.kindOf x = some .cell ∨ X.env.kindOf x = some .free) → ∃ c, X.env.cells.lookup x = some c
  cab : ∀ x c, X.fn x = true → X.env.cells.lookup x = some c → X.s₀.heap.objs.size ≤ c
  hd : X.calm = true → X.A.handled = none
  frames : X.A.frames = some X.stack
  stk : X.stack = X.outer ∨ (X.stack = X.env :: X.outer ∧ X.env.frame = some X.env.locals)
  exf : ∀ b ∈ X.ex, b ≠ X.env.locals ∧ ∀ x c, X.env.cells.lookup x = some c → c ≠ b
  bs : ∀ b o, X.base.get? b = some o → X.s₀.heap.get? b = some o ∧ X.H₀ b = none
  bsz : X.base.objs.size ≤ X.s₀.heap.objs.size
  noex : ∀ b o, X.base.get? b = some o → b ∉ X.ex
  exfs : ∀ b ∈ X.ex, b ∉ X.fs
  funs : X.s₀.heap.FunFrames X.base X.outer
  frf : ∀ b ∈ X.fs, X.H₀ b = none

structure Inv (X : Cx) (pins : List (Addr × Obj)) (σ : List (Option V)) (H : Hp) (s : Shared) : Prop where
  ok : X.Ok
  os : s.os = X.s₀.os
  bare : AllBare s.gens
  base : Un X.fs X.ex X.H₀ H X.s₀.heap s.heap
  loc : ∃ m, s.heap.Ns X.env.locals m ∧ ∀ (i : Nat) (x : Str) (v : V), X.N[i]? = some x → σ[i]? = some (some v) → Vis X.env.scope x → ∃ u, RelV v u ∧ Look X.env s.heap m x u
  cell : ∀ x c, X.env.cells.lookup x = some c → ∃ v, s.heap.IsCell c v
  free : H X.env.locals = none
  freeC : ∀ x c, X.env.cells.lookup x = some c → H c = none
  pin : ∀ p ∈ X.pn ++ pins, s.heap.get? p.1 = some p.2 ∧ H p.1 = none ∧ p.1 ≠ X.env.locals ∧ p.1 ∉ X.fs ∧ ∀ v, p.2.data ≠ .cell v
  hok : HOk X.prog X.w H s.heap
  len : σ.length = X.N.length

section
variable {X : Cx} {pins : List (Addr × Obj)} {σ : List (Option V)} {H H' : Hp} {s : Shared} {h' : Heap}

theorem Cx.Ok.nofr (ok : X.Ok) {b : Addr} {o : Obj} (e : X.base.get? b = some o) : b ∉ X.fs := fun hb => by
  have := (ok.funs.mem hb).1
  rw [e] at this; cases this
theorem Inv.bs (I : Inv X pins σ H s) : ∀ b o, X.base.get? b = some o → s.heap.get? b = some o ∧ H b = none := fun b o e =>
  ⟨I.base.keep b o (I.ok.bs b o e).1 (I.ok.bs b o e).2 (I.ok.nofr e) (I.ok.noex b o e), I.base.free b o (I.ok.bs b o e).1 (I.ok.bs b o e).2 (I.ok.noex b o e)⟩
theorem Inv.bk (I : Inv X pins σ H s) : ∀ b o, X.base.get? b = some o → s.heap.get? b = some o := fun b o e => (I.bs b o e).1
theorem Inv.mod (I : Inv X pins σ H s) : Mod X.K X.mg X.base := I.ok.mod
theorem Inv.kIn (I : Inv X pins σ H s) : X.K.In s.heap := I.ok.mod.kin.keeps I.bk
theorem Inv.nolimit (I : Inv X pins σ H s) : s.heap.NoLimit := I.ok.mod.nolimit.keeps I.bk
/-- the frame over the base: for OpenK's rules (K.In X.base is I.mod.kin) -/
theorem Inv.fr (I : Inv X pins σ H s) : ∃ m, Fr X.base X.env.locals s.heap m :=
  let ⟨m, hn, _⟩ := I.loc
  ⟨m, hn, I.bk, Nat.le_trans I.ok.bsz I.ok.above⟩
theorem Inv.lt (I : Inv X pins σ H s) : X.env.locals < s.heap.objs.size := let ⟨_, hn, _⟩ := I.loc; hn.lt
theorem Inv.sz (I : Inv X pins σ H s) : X.s₀.heap.objs.size ≤ s.heap.objs.size := Nat.le_trans I.ok.above (Nat.le_of_lt I.lt)
theorem Inv.nofs (I : Inv X pins σ H s) {a : Addr} (h : s.heap.objs.size ≤ a) : a ∉ X.fs := fun hb => by
  obtain ⟨_, o, ho, _⟩ := I.ok.funs.mem hb
  exact absurd (Nat.lt_of_lt_of_le (Heap.lt_size ho) (Nat.le_trans I.sz h)) (Nat.lt_irrefl _)
theorem Inv.cne (I : Inv X pins σ H s) : ∀ x c, X.env.cells.lookup x = some c → c ≠ X.env.locals := fun x c e z => by
  obtain ⟨v, o, ho, hd⟩ := I.cell x c e
  obtain ⟨m, ⟨o', es, ep, ho', hd', _⟩, _⟩ := I.loc
  rw [z, ho'] at ho; cases ho; rw [hd'] at hd; cases hd
theorem Inv.funs (I : Inv X pins σ H s) : s.heap.FunFrames X.base X.outer := by
  have all : ∀ (l : List Env), (∀ b ∈ frs l, b ∈ X.fs) → X.s₀.heap.FunFrames X.base l → s.heap.FunFrames X.base l := by
    intro l
    induction l with
    | nil => intro _ _; trivial
    | cons env r ih =>
      intro hs hl
      obtain ⟨hk, ⟨L, o, hf, hn, ho, hd⟩, hr⟩ := hl
      have hL : L ∈ X.fs := hs L (by unfold frs; rw [List.filterMap_cons, hf]; exact List.mem_cons_self)
      obtain ⟨sl, e⟩ := I.base.slot L o ho (I.ok.frf L hL) hL fun z => I.ok.exfs L z hL
      exact ⟨hk, ⟨L, _, hf, hn, e, hd⟩, ih (fun b hb => hs b (by unfold frs; rw [List.filterMap_cons, hf]; exact List.mem_cons_of_mem _ hb)) hr⟩
  exact all X.outer (fun _ hb => hb) I.ok.funs

/-- the frames that run, for a call -/
theorem Inv.stack (I : Inv X pins σ H s) : s.heap.FunFrames X.base X.stack := by
  rcases I.ok.stk with e | ⟨e, hf⟩
  · rw [e]; exact I.funs
  · rw [e]
    obtain ⟨m, hn, _⟩ := I.loc
    refine .cons (by rw [I.ok.kind]; decide) hf hn ?_ I.funs
    exact Heap.get?_none_of_le (Nat.le_trans I.ok.bsz I.ok.above)
theorem Inv.stkSub (I : Inv X pins σ H s) : ∀ b ∈ frs X.stack, b ∈ X.env.locals :: X.fs := fun b hb => by
  rcases I.ok.stk with e | ⟨e, hf⟩
  · rw [e] at hb; exact List.mem_cons_of_mem _ hb
  · rw [e] at hb
    unfold frs at hb
    rw [List.filterMap_cons, hf] at hb
    exact hb
theorem Inv.stkFree (I : Inv X pins σ H s) : ∀ b ∈ frs X.stack, H b = none := fun b hb => by
  rcases List.mem_cons.mp (I.stkSub b hb) with e | hb
  · rw [e]; exact I.free
  · obtain ⟨_, o, ho, _⟩ := I.ok.funs.mem hb
    exact I.base.free b o ho (I.ok.frf b hb) fun z => I.ok.exfs b z hb

/-- THE STEP: the untracked objects but the frame and the records at ch are kept (the callers' frames up to slots), the frame's map is kept, the new abstract heap is held -/
theorem Inv.step {g' : Array GenState} {t' : Nat} {d' : Drawn} {ch : List Addr} (I : Inv X pins σ H s)
    (hch : ∀ b ∈ ch, (b ∈ X.ex ∨ X.s₀.heap.objs.size ≤ b) ∧ b ≠ X.env.locals ∧ (∀ x c, X.env.cells.lookup x = some c → c ≠ b) ∧ ∀ p ∈ X.pn ++ pins, p.1 ≠ b)
    (keep : ∀ b o, b ≠ X.env.locals → b ∉ X.fs → b ∉ ch → s.heap.get? b = some o → H b = none → h'.get? b = some o)
    (slot : ∀ b o, b ≠ X.env.locals → b ∈ X.fs → b ∉ ch → s.heap.get? b = some o → H b = none → ∃ sl, h'.get? b = some { o with slots := sl }) (free : ∀ b o, b ∉ ch → s.heap.get? b = some o → H b = none → H' b = none)
    (there : ∀ b o, b ∉ ch → s.heap.get? b = some o → ∃ o', h'.get? b = some o')
    (tups : ∀ b xs, H b = some (.tup xs) → H' b = some (.tup xs)) (frzs : ∀ b o u, H b = some (.frz o u) → H' b = some (.frz o u)) (tbls : ∀ b ps, H b = some (.tbl ps) → ∃ more, H' b = some (.tbl (ps ++ more)))
    (ns : ∀ m, s.heap.Ns X.env.locals m → h'.Ns X.env.locals m) (hok : HOk X.prog X.w H' h') (hg : AllBare g') :
    Inv X pins σ H' { s with heap := h', gens := g', drawn := d', toks := t' } := by
  have neL : ∀ b o, X.s₀.heap.get? b = some o → b ≠ X.env.locals := fun b o e => Nat.ne_of_lt (Nat.lt_of_lt_of_le (Heap.lt_size e) I.ok.above)
  have neC : ∀ b o, X.s₀.heap.get? b = some o → b ∉ X.ex → b ∉ ch := fun b o e hx hb => by
    rcases (hch b hb).1 with z | z
    · exact hx z
    · exact absurd (Nat.lt_of_lt_of_le (Heap.lt_size e) z) (Nat.lt_irrefl _)
  have cellK : ∀ x c, X.env.cells.lookup x = some c → ∀ v, s.heap.IsCell c v → h'.IsCell c v := fun x c e v ⟨o, ho, hd⟩ => by
    have nch : c ∉ ch := fun z => (hch c z).2.2.1 x c e rfl
    by_cases hc : c ∈ X.fs
    · obtain ⟨sl, q⟩ := slot c o (I.cne x c e) hc nch ho (I.freeC x c e)
      exact ⟨_, q, hd⟩
    · exact ⟨o, keep c o (I.cne x c e) hc nch ho (I.freeC x c e), hd⟩
  refine ⟨I.ok, I.os, hg, ⟨fun b o e n hb hx => ?_, fun b o e n hb hx => ?_, fun b o e n hx => ?_, fun b o e hx => ?_, fun b xs e => tups b xs (I.base.tups b xs e), fun b o xs e => frzs b o xs (I.base.frzs b o xs e), fun b ps e => ?_⟩, ?_, fun x c e => ?_, ?_, fun x c e => ?_, fun p hp => ?_, hok, I.len⟩
  · exact keep b o (neL b o e) hb (neC b o e hx) (I.base.keep b o e n hb hx) (I.base.free b o e n hx)
  · obtain ⟨sl, e1⟩ := I.base.slot b o e n hb hx
    obtain ⟨sl', e2⟩ := slot b _ (neL b o e) hb (neC b o e hx) e1 (I.base.free b o e n hx)
    exact ⟨sl', e2⟩
  · obtain ⟨o', e1⟩ := I.base.there b o e hx
    exact free b o' (neC b o e hx) e1 (I.base.free b o e n hx)
  · obtain ⟨o', e1⟩ := I.base.there b o e hx
    exact there b o' (neC b o e hx) e1
  · obtain ⟨m1, e1⟩ := I.base.tbls b ps e
    obtain ⟨m2, e2⟩ := tbls b _ e1
    exact ⟨m1 ++ m2, by rw [e2, Array.append_assoc]⟩
  · obtain ⟨m, hn, hl⟩ := I.loc
    refine ⟨m, ns m hn, fun i x v e1 e2 e3 => ?_⟩
    obtain ⟨u, r, l⟩ := hl i x v e1 e2 e3
    refine ⟨u, r, ?_⟩
    rcases l with l | ⟨k, c, e, z⟩
    · exact .inl l
    · exact .inr ⟨k, c, e, cellK x c e _ z⟩
  · obtain ⟨v, z⟩ := I.cell x c e
    exact ⟨v, cellK x c e v z⟩
  · obtain ⟨m, ⟨o, _, _, ho, _⟩, _⟩ := I.loc
    exact free _ o (fun z => (hch _ z).2.1 rfl) ho I.free
  · obtain ⟨v, o, ho, hd⟩ := I.cell x c e
    exact free c o (fun z => (hch c z).2.2.1 x c e rfl) ho (I.freeC x c e)
  · obtain ⟨e, n, ne, nf, d⟩ := I.pin p hp
    have nch : p.1 ∉ ch := fun z => (hch p.1 z).2.2.2 p hp rfl
    exact ⟨keep p.1 p.2 ne nf nch e n, free p.1 p.2 nch e n, ne, nf, d⟩
/-- .. where the frame's own object is kept too -/
theorem Inv.un {t' : Nat} (I : Inv X pins σ H s) (u : Un X.fs [] H H' s.heap h') (hok : HOk X.prog X.w H' h') : Inv X pins σ H' { s with heap := h', toks := t' } := by
  obtain ⟨m, ⟨o, es, ep, ho, r⟩, _⟩ := id I.loc
  obtain ⟨sl, hL⟩ := u.any ho I.free (by simp)
  exact I.step (g' := s.gens) (d' := s.drawn) (ch := []) (fun _ z => nomatch z) (fun b o _ hb _ e n => u.keep b o e n hb (by simp)) (fun b o _ hb _ e n => u.slot b o e n hb (by simp)) (fun b o _ e n => u.free b o e n (by simp)) (fun b o _ e => u.there b o e (by simp)) u.tups u.frzs u.tbls (fun m' hm => by
    obtain ⟨o', es', ep', ho', r'⟩ := hm
    rw [ho] at ho'; cases ho'
    exact ⟨_, es', ep', hL, r'⟩) hok I.bare
/-- behind a call (or a comprehension's block): the slots of this frame may have changed too, the records at ch may have turned -/
theorem Inv.call {g' : Array GenState} {t' : Nat} {d' : Drawn} {ch : List Addr} (I : Inv X pins σ H s) (u : Un (frs X.stack) ch H H' s.heap h') (hok : HOk X.prog X.w H' h') (hg : AllBare g')
    (hch : ∀ b ∈ ch, (b ∈ X.ex ∨ X.s₀.heap.objs.size ≤ b) ∧ b ≠ X.env.locals ∧ (∀ x c, X.env.cells.lookup x = some c → c ≠ b) ∧ ∀ p ∈ X.pn ++ pins, p.1 ≠ b) :
    Inv X pins σ H' { s with heap := h', gens := g', drawn := d', toks := t' } := by
  obtain ⟨m, ⟨o, es, ep, ho, r⟩, _⟩ := id I.loc
  obtain ⟨sl, hL⟩ := u.any ho I.free fun z => (hch _ z).2.1 rfl
  exact I.step (ch := ch) hch (fun b o hL hb hc e n => u.keep b o e n (fun z => (List.mem_cons.mp (I.stkSub b z)).elim hL hb) hc) (fun b o _ _ hc e n => u.any e n hc) (fun b o hc e n => u.free b o e n hc) (fun b o hc e => u.there b o e hc) u.tups u.frzs u.tbls (fun m' hm => by
    obtain ⟨o', es', ep', ho', r'⟩ := hm
    rw [ho] at ho'; cases ho'
    exact ⟨_, es', ep', hL, r'⟩) hok hg
/-- an untracked record of ours (an iterator) has turned -/
theorem Inv.turned {t' : Nat} {it : Addr} (I : Inv X pins σ H s) (k : ∀ b o, b ≠ it → s.heap.get? b = some o → h'.get? b = some o) (hn : H it = none) (hL : it ≠ X.env.locals)
    (h1 : it ∈ X.ex ∨ X.s₀.heap.objs.size ≤ it) (h2 : ∀ x c, X.env.cells.lookup x = some c → c ≠ it) (h3 : ∀ p ∈ X.pn ++ pins, p.1 ≠ it) : Inv X pins σ H { s with heap := h', toks := t' } := by
  have nit : ∀ b u, H b = some u → b ≠ it := fun b u e z => by rw [z, hn] at e; cases e
  refine I.step (g' := s.gens) (d' := s.drawn) (ch := [it]) (fun b hb => ?_) (fun b o _ _ hc e _ => k b o (fun z => hc (by simp [z])) e) (fun b o _ _ hc e _ => ⟨o.slots, k b o (fun z => hc (by simp [z])) e⟩) (fun _ _ _ _ n => n)
    (fun b o hc e => ⟨o, k b o (fun z => hc (by simp [z])) e⟩) (fun _ _ e => e) (fun _ _ _ e => e) (fun b ps e => ⟨#[], by rw [e]; simp⟩) (fun m hm => ?_) (fun b u e => ?_) I.bare
  · have e : b = it := by simpa using hb
    subst e
    exact ⟨h1, hL, h2, h3⟩
  · obtain ⟨o, es, ep, ho, r⟩ := hm
    exact ⟨o, es, ep, k _ o (Ne.symm hL) ho, r⟩
  · refine (I.hok b u e).stay (fun c v hc q => k c v ?_ q) (fun _ q => q) fun _ _ q => q
    rcases hc with z | z
    · rw [z]; exact nit b u e
    · exact nit c _ z
theorem Inv.tok (I : Inv X pins σ H s) (t : Nat) : Inv X pins σ H { s with toks := t } := I.un (h' := s.heap) (t' := t) Un.refl I.hok
/-- all objects kept -/
theorem Inv.kept {t' : Nat} (I : Inv X pins σ H s) (k : ∀ b u, s.heap.get? b = some u → h'.get? b = some u) : Inv X pins σ H { s with heap := h', toks := t' } := I.un (Un.kept k) (I.hok.kept k)
/-- a new object laid and tracked -/
theorem Inv.laid {a : Addr} {o : HO} {t' : Nat} (I : Inv X pins σ H s) (k : ∀ b u, s.heap.get? b = some u → h'.get? b = some u) (hp : s.heap.objs.size ≤ a) (new : ObjOk X.prog X.w (upd H a o) h' a o) :
    Inv X pins σ (upd H a o) { s with heap := h', toks := t' } := I.un (Un.laid k hp (I.hok.fresh hp)) (I.hok.laid k hp new)
/-- an object written -/
theorem Inv.write {x e : Addr} {o : HO} {t' : Nat} (I : Inv X pins σ H s) (mu : Mut (H x)) (he : e = x ∨ H e = some (.own x)) (k : ∀ b u, b ≠ e → s.heap.get? b = some u → h'.get? b = some u) (heo : ∃ u, h'.get? e = some u)
    (new : ObjOk X.prog X.w (upd H x o) h' x o) : Inv X pins σ (upd H x o) { s with heap := h', toks := t' } := I.un (Un.write mu he k heo) (I.hok.write mu he k heo new)
/-- forgetting slots, pins -/
theorem Inv.weak {σ' : List (Option V)} (I : Inv X pins σ H s) (hl : σ'.length = σ.length) (w : ∀ (i : Nat) v, σ'[i]? = some (some v) → σ[i]? = some (some v)) : Inv X pins σ' H s :=
  ⟨I.ok, I.os, I.bare, I.base, let ⟨m, hn, hl'⟩ := I.loc; ⟨m, hn, fun i x v e1 e2 e3 => hl' i x v e1 (w i v e2) e3⟩, I.cell, I.free, I.freeC, I.pin, I.hok, hl.trans I.len⟩
theorem Inv.pins_of {pins' : List (Addr × Obj)} (I : Inv X pins σ H s) (h : ∀ p ∈ pins', s.heap.get? p.1 = some p.2 ∧ H p.1 = none ∧ p.1 ≠ X.env.locals ∧ p.1 ∉ X.fs ∧ ∀ v, p.2.data ≠ .cell v) : Inv X pins' σ H s :=
  ⟨I.ok, I.os, I.bare, I.base, I.loc, I.cell, I.free, I.freeC, fun p hp => (List.mem_append.mp hp).elim (fun z => I.pin p (List.mem_append_left _ z)) (h p), I.hok, I.len⟩

theorem nodup_ix {N : List Str} (hN : N.Nodup) {i j : Nat} {x : Str} (a : N[i]? = some x) (b : N[j]? = some x) : i = j := by
  obtain ⟨h1, e1⟩ := List.getElem?_eq_some_iff.mp a
  obtain ⟨h2, e2⟩ := List.getElem?_eq_some_iff.mp b
  exact (List.getElem_inj hN).mp (e1.trans e2.symm)

/-- a name is stored; what changed -/
theorem store_ok2 {M : Model} {A : Around} {E : Value → Shared → Prop} {i : Nat} {x : Str} {v : V} {u : Value} {Q : Unit → Shared → Prop} (I : Inv X pins σ H s) (hN : X.N.Nodup) (hi : X.N[i]? = some x) (hx : Loc X.env.scope x) (r : RelV v u)
    (h : ∀ s', Inv X pins (σ.set i (some v)) H s' → (∃ a, Heap.SameBut a s.heap s'.heap ∧ (a = X.env.locals ∨ X.env.cells.lookup x = some a)) → Q () s') (hf : X.fn x = true ∨ X.env.scope.names.lookup x = some .local := by first | exact .inl rfl | exact .inr rfl | assumption) : wpAny M A (storeName X.env x u) Q E s := by
  obtain ⟨m, hn, hl⟩ := id I.loc
  have hcls : (X.env.scope.kind == .class || (X.env.scope.kind == .module && X.env.locals != X.env.globals)) = false := by rw [I.ok.kind]; rfl
  have hiσ : i < σ.length := by rw [I.len]; exact (List.getElem?_eq_some_iff.mp hi).1
  have cne := I.cne
  have tracked : ∀ {a : Addr} {h' : Heap}, (∃ o, s.heap.get? a = some o ∧ H a = none) → Heap.SameBut a s.heap h' → HOk X.prog X.w H h' := fun {a h'} ha hs b ob e => by
    obtain ⟨_, _, hfree⟩ := ha
    refine (I.hok b ob e).stay (fun c w' hc q => (hs.2 c ?_).trans q) (fun _ q => q) fun _ _ q => q
    rintro rfl
    rcases hc with rfl | hc
    · rw [hfree] at e; cases e
    · rw [hfree] at hc; cases hc
  rcases hx with hk | hk
  · refine wpAny_storeName_local hk hn (fun h' hn' hs => ?_) hcls
    obtain ⟨oL, _, _, hoL, _⟩ := id hn
    refine h _ ⟨I.ok, I.os, I.bare, ⟨fun b o e n hb hx => ?_, fun b o e n hb hx => ?_, I.base.free, fun b o e hx => ?_, I.base.tups, I.base.frzs, I.base.tbls⟩, ⟨_, hn', fun j y v' e1 e2 e3 => ?_⟩, fun y c e => ?_, I.free, I.freeC, fun p hp => ?_, tracked ⟨oL, hoL, I.free⟩ hs, by simpa using I.len⟩ ⟨_, hs, .inl rfl⟩
    · exact (hs.2 b (Nat.ne_of_lt (Nat.lt_of_lt_of_le (Heap.lt_size e) I.ok.above))).trans (I.base.keep b o e n hb hx)
    · obtain ⟨sl, e1⟩ := I.base.slot b o e n hb hx
      exact ⟨sl, (hs.2 b (Nat.ne_of_lt (Nat.lt_of_lt_of_le (Heap.lt_size e) I.ok.above))).trans e1⟩
    · obtain ⟨o', e1⟩ := I.base.there b o e hx
      exact ⟨o', (hs.2 b (Nat.ne_of_lt (Nat.lt_of_lt_of_le (Heap.lt_size e) I.ok.above))).trans e1⟩
    · by_cases hj : j = i
      · subst hj
        rw [hi] at e1; cases e1
        rw [List.getElem?_set_self hiσ] at e2
        cases e2
        exact ⟨u, r, .inl ⟨hk, by simp⟩⟩
      · rw [List.getElem?_set_ne (Ne.symm hj)] at e2
        obtain ⟨u', r', q⟩ := hl j y v' e1 e2 e3
        refine ⟨u', r', ?_⟩
        rcases q with ⟨k, e⟩ | ⟨k, c, e, z⟩
        · refine .inl ⟨k, ?_⟩
          have : y ≠ x := fun e => hj (nodup_ix hN e1 (e ▸ hi))
          simp [this, e]
        · exact .inr ⟨k, c, e, z.sameBut hs (cne y c e)⟩
    · obtain ⟨w', z⟩ := I.cell y c e
      exact ⟨w', z.sameBut hs (cne y c e)⟩
    · obtain ⟨e, n, ne, nf, d⟩ := I.pin p hp
      exact ⟨(hs.2 p.1 ne).trans e, n, ne, nf, d⟩
  · have hfn : X.fn x = true := by
      rcases hf with z | z
      · exact z
      · rw [z] at hk; cases hk
    obtain ⟨c, hc⟩ := I.ok.has x (.inl hk)
    obtain ⟨w', z⟩ := I.cell x c hc
    refine wpAny_storeName_cell I.ok.kind hk hc z (fun h' hc' hs => ?_)
    obtain ⟨oc, hoc, hocd⟩ := id z
    refine h { s with heap := h' } ⟨I.ok, I.os, I.bare, ⟨fun b o e n hb hx => ?_, fun b o e n hb hx => ?_, I.base.free, fun b o e hx => ?_, I.base.tups, I.base.frzs, I.base.tbls⟩, ⟨m, hn.sameBut hs (Ne.symm (cne x c hc)), fun j y v' e1 e2 e3 => ?_⟩, fun y c' e => ?_, I.free, I.freeC, fun p hp => ?_, tracked ⟨oc, hoc, I.freeC x c hc⟩ hs, by simpa using I.len⟩ ⟨c, hs, .inr hc⟩
    · exact (hs.2 b (Nat.ne_of_lt (Nat.lt_of_lt_of_le (Heap.lt_size e) (I.ok.cab x c hfn hc)))).trans (I.base.keep b o e n hb hx)
    · obtain ⟨sl, e1⟩ := I.base.slot b o e n hb hx
      exact ⟨sl, (hs.2 b (Nat.ne_of_lt (Nat.lt_of_lt_of_le (Heap.lt_size e) (I.ok.cab x c hfn hc)))).trans e1⟩
    · obtain ⟨o', e1⟩ := I.base.there b o e hx
      exact ⟨o', (hs.2 b (Nat.ne_of_lt (Nat.lt_of_lt_of_le (Heap.lt_size e) (I.ok.cab x c hfn hc)))).trans e1⟩
    · by_cases hj : j = i
      · subst hj
        rw [hi] at e1; cases e1
        rw [List.getElem?_set_self hiσ] at e2
        cases e2
        exact ⟨u, r, .inr ⟨.inl hk, c, hc, hc'⟩⟩
      · rw [List.getElem?_set_ne (Ne.symm hj)] at e2
        obtain ⟨u', r', q⟩ := hl j y v' e1 e2 e3
        refine ⟨u', r', ?_⟩
        rcases q with q | ⟨k, c', e, z'⟩
        · exact .inl q
        · refine .inr ⟨k, c', e, z'.sameBut hs ?_⟩
          rintro rfl
          exact hj (nodup_ix hN e1 (I.ok.inj _ _ _ e hc ▸ hi))
    · by_cases hcc : c' = c
      · subst hcc; exact ⟨_, hc'⟩
      · obtain ⟨w2, z2⟩ := I.cell y c' e
        exact ⟨w2, z2.sameBut hs hcc⟩
    · obtain ⟨e, n, ne, nf, d⟩ := I.pin p hp
      refine ⟨(hs.2 p.1 ?_).trans e, n, ne, nf, d⟩
      intro q
      rw [q, hoc] at e
      have q' : oc = p.2 := Option.some.inj e
      exact d w' (by rw [← q']; exact hocd)
theorem store_ok {M : Model} {A : Around} {E : Value → Shared → Prop} {i : Nat} {x : Str} {v : V} {u : Value} {Q : Unit → Shared → Prop} (I : Inv X pins σ H s) (hN : X.N.Nodup) (hi : X.N[i]? = some x) (hx : Loc X.env.scope x) (r : RelV v u)
    (h : ∀ s', Inv X pins (σ.set i (some v)) H s' → Q () s') (hf : X.fn x = true ∨ X.env.scope.names.lookup x = some .local := by first | exact .inl rfl | exact .inr rfl | assumption) : wpAny M A (storeName X.env x u) Q E s :=
  store_ok2 I hN hi hx r (fun s' I' _ => h s' I') hf
/-- behind a call or a block, the state as it is -/
theorem Inv.call' {s' : Shared} {ch : List Addr} (I : Inv X pins σ H s) (ho : s'.os = s.os) (u : Un (frs X.stack) ch H H' s.heap s'.heap) (hok : HOk X.prog X.w H' s'.heap) (hg : AllBare s'.gens)
    (hch : ∀ b ∈ ch, (b ∈ X.ex ∨ X.s₀.heap.objs.size ≤ b) ∧ b ≠ X.env.locals ∧ (∀ x c, X.env.cells.lookup x = some c → c ≠ b) ∧ ∀ p ∈ X.pn ++ pins, p.1 ≠ b) : Inv X pins σ H' s' := by
  obtain ⟨h', g', d', t', o'⟩ := s'
  have e : o' = s.os := ho
  subst e
  exact I.call (g' := g') (t' := t') (d' := d') u hok hg hch
end

/-! ### the judgements -/
/-- an exception: its class, its own dict's address (where it has one), the abstract heap behind it -/
abbrev XK := Value → Option Addr → Hp → Prop
abbrev St := List (Option V)
abbrev VK := V → Hp → Prop
/-- an expression's reading; a test's; an argument list's -/
abbrev TE := St → Hp → VK → Prop
abbrev TT := St → Hp → (Bool → Hp → Prop) → Prop
abbrev TA := St → Hp → (List V → Hp → Prop) → Prop
/-- what is wanted behind a statement -/
structure Ends where
  nx : St → Hp → Prop
  rt : VK
  bk : St → Hp → Prop := fun _ _ => False
  ct : St → Hp → Prop := fun _ _ => False
abbrev TS := Ends → St → Hp → Prop

def EP (X : Cx) (pins : List (Addr × Obj)) (σ : St) (Q : VK) (u : Value) (s' : Shared) : Prop := ∃ v H', Inv X pins σ H' s' ∧ RelV v u ∧ Q v H'
def TP (X : Cx) (pins : List (Addr × Obj)) (σ : St) (Q : Bool → Hp → Prop) (b : Bool) (s' : Shared) : Prop := ∃ H', Inv X pins σ H' s' ∧ Q b H'
def AP (X : Cx) (pins : List (Addr × Obj)) (σ : St) (Q : List V → Hp → Prop) (us : List Value) (s' : Shared) : Prop := ∃ vs H', Inv X pins σ H' s' ∧ Vals vs us ∧ Q vs H'
def SP (X : Cx) (pins : List (Addr × Obj)) (D : Ends) (f : Flow) (s' : Shared) : Prop :=
  match f with
  | .next => ∃ σ' H', Inv X pins σ' H' s' ∧ D.nx σ' H'
  | .brk => ∃ σ' H', Inv X pins σ' H' s' ∧ D.bk σ' H'
  | .cont => ∃ σ' H', Inv X pins σ' H' s' ∧ D.ct σ' H'
  | .ret u => ∃ v σ' H', Inv X pins σ' H' s' ∧ RelV v u ∧ D.rt v H'

def PE (X : Cx) (e : Expr) (t : TE) : Prop :=
  ∀ (pins : List (Addr × Obj)) (s : Shared) (σ : St) (H : Hp) (Q : VK), Inv X pins σ H s → t σ H Q → wpAny (model X.prog X.w) X.A (eval e X.env) (EP X pins σ Q) X.xe s
def PT (X : Cx) (e : Expr) (t : TT) : Prop :=
  ∀ (pins : List (Addr × Obj)) (s : Shared) (σ : St) (H : Hp) (Q : Bool → Hp → Prop), Inv X pins σ H s → t σ H Q → wpAny (model X.prog X.w) X.A (isTrue e X.env (eval e X.env)) (TP X pins σ Q) X.xe s
/-- a test whatever its 'whole' is (and, or) -/
def PW (X : Cx) (e : Expr) (t : TT) : Prop :=
  ∀ (whole : Sem Value) (pins : List (Addr × Obj)) (s : Shared) (σ : St) (H : Hp) (Q : Bool → Hp → Prop), Inv X pins σ H s → t σ H Q → wpAny (model X.prog X.w) X.A (isTrue e X.env whole) (TP X pins σ Q) X.xe s
theorem PW.pt {X : Cx} {e : Expr} {t : TT} (h : PW X e t) : PT X e t := h _
/-- an argument list (no star), from the left -/
def PA (X : Cx) (es : List Expr) (t : TA) : Prop :=
  ∀ (pos : Pos) (pins : List (Addr × Obj)) (s : Shared) (σ : St) (H : Hp) (Q : List V → Hp → Prop), Inv X pins σ H s → t σ H Q → wpAny (model X.prog X.w) X.A (spliced (backTo pos (starEach es X.env))) (AP X pins σ Q) X.xe s
def PS (X : Cx) (st : Stmt) (t : TS) : Prop :=
  ∀ (pins : List (Addr × Obj)) (s : Shared) (σ : St) (H : Hp) (D : Ends), Inv X pins σ H s → t D σ H → wpAny (model X.prog X.w) X.A (exec st X.env) (SP X pins D) X.xe s
def PSs (X : Cx) (st : List Stmt) (t : TS) : Prop :=
  ∀ (pins : List (Addr × Obj)) (s : Shared) (σ : St) (H : Hp) (D : Ends), Inv X pins σ H s → t D σ H → wpAny (model X.prog X.w) X.A (execs st X.env) (SP X pins D) X.xe s
/-- weaken the end -/
theorem thn {α : Type} {t : Sem α} {Q Q' : α → Shared → Prop} {M : Model} {A : Around} {E : Value → Shared → Prop} {s : Shared} (h : wpAny M A t Q E s) (hQ : ∀ a s, Q a s → Q' a s) : wpAny M A t Q' E s := wpAny_mono h hQ fun _ _ x => x
end L2

namespace L2
open PySem PySem.Spec PyProof.Rows
section
variable {X : Cx}

/-- two expressions in a row -/
theorem bin {a b : Expr} {ta tb : TE} (ha : PE X a ta) (hb : PE X b tb) {pins : List (Addr × Obj)} {s : Shared} {σ : St} {H : Hp} {R : V → V → Hp → Prop} (I : Inv X pins σ H s) (h : ta σ H fun x H1 => tb σ H1 fun y H2 => R x y H2)
    {α : Type} {Q : α → Shared → Prop} {f : Value → Value → Sem α}
    (hf : ∀ v u s2 x y H2, Inv X pins σ H2 s2 → RelV x v → RelV y u → R x y H2 → wpAny (model X.prog X.w) X.A (f v u) Q X.xe s2) :
    wpAny (model X.prog X.w) X.A (eval a X.env) (fun v s₁ => wpAny (model X.prog X.w) X.A (eval b X.env) (fun u s₂ => wpAny (model X.prog X.w) X.A (f v u) Q X.xe s₂) X.xe s₁) X.xe s := by
  refine thn (ha pins s σ H _ I h) fun v s1 ⟨x, H1, I1, r1, q1⟩ => ?_
  refine thn (hb pins s1 σ H1 _ I1 q1) fun u s2 ⟨y, H2, I2, r2, q2⟩ => ?_
  exact hf v u s2 x y H2 I2 r1 r2 q2

/-! ### names and constants -/
def tVar (i : Nat) : TE := fun σ H Q => ∃ v, σ[i]? = some (some v) ∧ Q v H
def tC (v : V) : TE := fun _ H Q => Q v H
theorem pe_var {i : Nat} {x : Str} {pos : Pos} (hN : X.N[i]? = some x) (hv : Vis X.env.scope x) (hd : (x == ("__debug__" : Str)) = false := by decide) (hcd : (x == ("__classdict__" : Str)) = false := by decide) : PE X (.Name x pos) (tVar i) := by
  intro pins s σ H Q I h
  obtain ⟨v, e, h⟩ := h
  obtain ⟨m, hn, hl⟩ := I.loc
  obtain ⟨u, r, l⟩ := hl i x v hN e hv
  have fin : EP X pins σ Q u s := ⟨v, H, I, r, h⟩
  rcases l with ⟨hk, hm⟩ | ⟨hk, c, hc, hcell⟩
  · exact wpAny_Name (wpAny_loadName_local I.ok.kind hk hn hm fin) hd
  · rcases hk with hk | hk
    · exact wpAny_Name (wpAny_loadName_cell I.ok.kind hk hc hcell fin) hd
    · exact wpAny_Name (wpAny_loadName_free I.ok.kind hk hc hcell fin hcd) hd
theorem pe_int {i j pos} : PE X (.Constant (.int i) j pos) (tC (.int i)) := fun _ _ _ H _ I h => wpAny_Constant_int ⟨.int i, H, I.tok _, ⟨_, rfl⟩, h⟩
theorem pe_bl {b j pos} : PE X (.Constant (.bool b) j pos) (tC (.bl b)) := fun _ _ _ H _ I h => Constant_bool ⟨.bl b, H, I, rfl, h⟩
theorem pe_non {j pos} : PE X (.Constant .none j pos) (tC .non) := fun _ _ _ H _ I h => Constant_none ⟨.non, H, I, rfl, h⟩
theorem pe_str {x j pos} : PE X (.Constant (.str x) j pos) (tC (.str x)) := fun _ _ _ H _ I h => Calls.Constant_str ⟨.str x, H, I.tok _, ⟨_, rfl⟩, h⟩

/-- a global name of the def -/
def Gl (X : Cx) (x : Str) : Prop := X.env.kindOf x = some .globalImplicit
theorem ld_glob {E : Value → Shared → Prop} {pins : List (Addr × Obj)} {s : Shared} {σ : St} {H : Hp} {x : Str} {u : Value} {pos : Pos} {Q : Value → Shared → Prop} (I : Inv X pins σ H s) (hg : Gl X x) (hm : X.mg x = some u) (h : Q u s)
    (hd : (x == ("__debug__" : Str)) = false := by decide) : wpAny (model X.prog X.w) X.A (eval (.Name x pos) X.env) Q E s :=
  Calls.Name_function_global I.ok.kind hg (Calls.loadGlobal_global (by rw [I.ok.glob]; exact I.mod.glob.keeps I.bk) hm h) hd
theorem ld_blt {E : Value → Shared → Prop} {pins : List (Addr × Obj)} {s : Shared} {σ : St} {H : Hp} {x : Str} {u : Value} {pos : Pos} {Q : Value → Shared → Prop} (I : Inv X pins σ H s) (hg : Gl X x) (hm : X.mg x = none) (hv : bootBuiltins x = some u) (h : Q u s)
    (hn : x ≠ "__name__" := by decide) (hd : (x == ("__debug__" : Str)) = false := by decide) : wpAny (model X.prog X.w) X.A (eval (.Name x pos) X.env) Q E s := by
  obtain ⟨mb, h1, h2⟩ := I.mod.blt
  exact Calls.Name_function_global I.ok.kind hg (Calls.loadGlobal_builtin (by rw [I.ok.glob]; exact I.mod.glob.keeps I.bk) hm (by rw [I.ok.blt]; exact h1.keeps I.bk) ((h2 x hn).trans hv) h) hd
/-- a module's constant, a class, a function, as a value -/
theorem pe_glob {x : Str} {v : V} {u : Value} {pos : Pos} (hg : Gl X x) (hm : X.mg x = some u) (r : RelV v u) (hd : (x == ("__debug__" : Str)) = false := by decide) : PE X (.Name x pos) (tC v) :=
  fun _ _ _ H _ I h => ld_glob I hg hm ⟨v, H, I, r, h⟩ hd
theorem pe_bltn {x : Str} {v : V} {u : Value} {pos : Pos} (hg : Gl X x) (hm : X.mg x = none) (hv : bootBuiltins x = some u) (r : RelV v u) (hn : x ≠ "__name__" := by decide) (hd : (x == ("__debug__" : Str)) = false := by decide) : PE X (.Name x pos) (tC v) :=
  fun _ _ _ H _ I h => ld_blt I hg hm hv ⟨v, H, I, r, h⟩ hn hd

/-! ### arithmetic -/
/-- two ints -/
def t2I (ta tb : TE) (k : Int → Int → Hp → Prop) : St → Hp → Prop := fun σ H => ta σ H fun x H1 => tb σ H1 fun y H2 => ∃ i j, x = .int i ∧ y = .int j ∧ k i j H2
def tAdd (ta tb : TE) : TE := fun σ H Q => t2I ta tb (fun i j H2 => Q (.int (i + j)) H2) σ H
def tSub (ta tb : TE) : TE := fun σ H Q => t2I ta tb (fun i j H2 => Q (.int (i - j)) H2) σ H
/-- the left factor below 2^64 -/
def tMul (ta tb : TE) : TE := fun σ H Q => t2I ta tb (fun i j H2 => (-(2 ^ 64) < i ∧ i < 2 ^ 64) ∧ Q (.int (i * j)) H2) σ H
variable {a b : Expr} {ta tb : TE} {pos : Pos}
theorem pe_add (ha : PE X a ta) (hb : PE X b tb) : PE X (.BinOp a .Add b pos) (tAdd ta tb) := by
  intro pins s σ H Q I h
  refine wpAny_BinOp (bin ha hb I h fun v u s2 x y H2 I2 rx ry q => ?_)
  obtain ⟨i, j, rfl, rfl, q⟩ := q
  obtain ⟨t, rfl⟩ := rx
  obtain ⟨t', rfl⟩ := ry
  exact add_int ⟨.int _, H2, I2.tok _, ⟨_, rfl⟩, q⟩
theorem pe_sub (ha : PE X a ta) (hb : PE X b tb) : PE X (.BinOp a .Sub b pos) (tSub ta tb) := by
  intro pins s σ H Q I h
  refine wpAny_BinOp (bin ha hb I h fun v u s2 x y H2 I2 rx ry q => ?_)
  obtain ⟨i, j, rfl, rfl, q⟩ := q
  obtain ⟨t, rfl⟩ := rx
  obtain ⟨t', rfl⟩ := ry
  exact sub_int ⟨.int _, H2, I2.tok _, ⟨_, rfl⟩, q⟩
theorem pe_mul (ha : PE X a ta) (hb : PE X b tb) : PE X (.BinOp a .Mult b pos) (tMul ta tb) := by
  intro pins s σ H Q I h
  refine wpAny_BinOp (bin ha hb I h fun v u s2 x y H2 I2 rx ry q => ?_)
  obtain ⟨i, j, rfl, rfl, ⟨q1, q2⟩, q⟩ := q
  obtain ⟨t, rfl⟩ := rx
  obtain ⟨t', rfl⟩ := ry
  exact mul_int ⟨.int _, H2, I2.tok _, ⟨_, rfl⟩, q⟩ (.of_left (intBits_le_64 q1 q2))

/-! ### comparisons -/
def PC (X : Cx) (op : CmpOp) (a b : Expr) (t : TE) : Prop :=
  ∀ (pins : List (Addr × Obj)) (s : Shared) (σ : St) (H : Hp) (Q : VK), Inv X pins σ H s → t σ H Q →
    wpAny (model X.prog X.w) X.A (eval a X.env) (fun v s₁ => wpAny (model X.prog X.w) X.A (eval b X.env) (fun u s₂ => wpAny (model X.prog X.w) X.A (compareOp op v u) (EP X pins σ Q) X.xe s₂) X.xe s₁) X.xe s
theorem nobehind (b : Expr) {op : CmpOp} (h : op ≠ .In) (h2 : op ≠ .NotIn) : behindInMarks op b = false := by
  have e1 : (op == CmpOp.In) = false := by cases op <;> first | rfl | exact absurd rfl h
  have e2 : (op == CmpOp.NotIn) = false := by cases op <;> first | rfl | exact absurd rfl h2
  cases b <;> simp [behindInMarks, e1, e2]
def tCmp (p : Int → Int → Bool) (ta tb : TE) : TE := fun σ H Q => t2I ta tb (fun i j H2 => Q (.bl (p i j)) H2) σ H
abbrev tLt : TE → TE → TE := tCmp fun i j => decide (i < j)
abbrev tLe : TE → TE → TE := tCmp fun i j => decide (i ≤ j)
abbrev tGt : TE → TE → TE := tCmp fun i j => decide (j < i)
abbrev tGe : TE → TE → TE := tCmp fun i j => decide (j ≤ i)
abbrev tEqI : TE → TE → TE := tCmp fun i j => decide (i = j)
abbrev tNeI : TE → TE → TE := tCmp fun i j => !decide (i = j)
/-- a comparison of two ints, by its rule -/
theorem pc_int {op : CmpOp} {p : Int → Int → Bool} (ha : PE X a ta) (hb : PE X b tb)
    (rule : ∀ (i j : Int) (t u : Tok) (Q : Value → Shared → Prop) (s : Shared), Q (.bool (p i j)) s → wpAny (model X.prog X.w) X.A (compareOp op (.int i t) (.int j u)) Q X.xe s) : PC X op a b (tCmp p ta tb) := by
  intro pins s σ H Q I h
  refine bin ha hb I h fun v u s2 x y H2 I2 rx ry q => ?_
  obtain ⟨i, j, rfl, rfl, q⟩ := q
  obtain ⟨t, rfl⟩ := rx
  obtain ⟨t', rfl⟩ := ry
  exact rule i j t t' _ s2 ⟨.bl _, H2, I2, rfl, q⟩
theorem pc_lt (ha : PE X a ta) (hb : PE X b tb) : PC X .Lt a b (tLt ta tb) := pc_int ha hb fun _ _ _ _ _ _ h => lt_int h
theorem pc_le (ha : PE X a ta) (hb : PE X b tb) : PC X .LtE a b (tLe ta tb) := pc_int ha hb fun _ _ _ _ _ _ h => le_int h
theorem pc_gt (ha : PE X a ta) (hb : PE X b tb) : PC X .Gt a b (tGt ta tb) := pc_int ha hb fun _ _ _ _ _ _ h => gt_int h
theorem pc_ge (ha : PE X a ta) (hb : PE X b tb) : PC X .GtE a b (tGe ta tb) := pc_int ha hb fun _ _ _ _ _ _ h => ge_int h
theorem pc_eqI (ha : PE X a ta) (hb : PE X b tb) : PC X .Eq a b (tEqI ta tb) := pc_int ha hb fun _ _ _ _ _ _ h => eq_int (by rw [Bool.beq_eq_decide_eq]; exact h)
theorem pc_neI (ha : PE X a ta) (hb : PE X b tb) : PC X .NotEq a b (tNeI ta tb) := pc_int ha hb fun _ _ _ _ _ _ h => ne_int (by rw [bne, Bool.beq_eq_decide_eq]; exact h)
/-- is None -/
def tIsN (ta : TE) : TE := fun σ H Q => ta σ H fun x H1 => Q (.bl (decide (x = .non))) H1
def tNotN (ta : TE) : TE := fun σ H Q => ta σ H fun x H1 => Q (.bl (!decide (x = .non))) H1
theorem RelV.none_iff {x : V} {v : Value} (r : RelV x v) : (v == Value.none) = decide (x = .non) := by
  cases x with
  | non => cases r; rfl
  | bl _ => cases r; rfl
  | int _ => obtain ⟨t, rfl⟩ := r; rfl
  | str _ => obtain ⟨t, rfl⟩ := r; rfl
  | byt _ => obtain ⟨t, rfl⟩ := r; rfl
  | flt _ => obtain ⟨t, rfl⟩ := r; rfl
  | ref _ => cases r; rfl
  | ty _ => cases r; rfl
theorem pc_isN {j pos'} (ha : PE X a ta) : PC X .Is a (.Constant .none j pos') (tIsN ta) := by
  intro pins s σ H Q I h
  refine thn (ha pins s σ H _ I h) fun v s1 ⟨x, H1, I1, r1, q1⟩ => ?_
  exact Constant_none (is_none_gen ⟨.bl _, H1, I1, by rw [r1.none_iff]; rfl, q1⟩)
theorem pc_notN {j pos'} (ha : PE X a ta) : PC X .IsNot a (.Constant .none j pos') (tNotN ta) := by
  intro pins s σ H Q I h
  refine thn (ha pins s σ H _ I h) fun v s1 ⟨x, H1, I1, r1, q1⟩ => ?_
  exact Constant_none (isnot_none_gen ⟨.bl _, H1, I1, by rw [r1.none_iff]; rfl, q1⟩)
/-- a comparison as a value, as a test -/
def tB (t : TE) : TT := fun σ H Q => t σ H fun x H1 => ∃ c, x = .bl c ∧ Q c H1
theorem pe_cmp {op : CmpOp} {t : TE} (h : PC X op a b t) (h1 : behindInMarks op b = false := by first | exact nobehind _ (by decide) (by decide) | rfl) : PE X (.Compare a [op] [b] pos) t := fun pins s σ H Q I hw => wpAny_Compare1 (h pins s σ H Q I hw) h1
theorem pt_cmp {op : CmpOp} {t : TE} (h : PC X op a b t) (h1 : behindInMarks op b = false := by first | exact nobehind _ (by decide) (by decide) | rfl) : PT X (.Compare a [op] [b] pos) (tB t) := by
  intro pins s σ H Q I hw
  refine wpAny_isTrue_Compare1 (thn (h pins s σ H _ I hw) fun v s1 h1 => thn h1 fun u s2 h2 => thn h2 fun c s3 ⟨x, H1, I1, r1, q1⟩ => ?_) h1
  obtain ⟨d, rfl, q⟩ := q1
  cases r1
  exact wpAny_truthy_bool ⟨H1, I1, q⟩
/-- an expression whose value is a bool, as a test -/
theorem pt_val {e : Expr} {t : TE} (h : PE X e t) (he : ∀ whole, isTrue e X.env whole = (do let v ← whole; standAt e.pos; holding [v] (truthy v)) := by intro _; rfl) : PT X e (tB t) := by
  intro pins s σ H Q I hw
  refine isTrue_plain (thn (h pins s σ H _ I hw) fun v s1 ⟨x, H1, I1, r1, q1⟩ => ?_) (he _)
  obtain ⟨d, rfl, q⟩ := q1
  cases r1
  exact wpAny_truthy_bool ⟨H1, I1, q⟩

/-! ### and, or, not -/
variable {tA tB' : TT} {rest : List Expr}
def tAnd (t u : TT) : TT := fun σ H Q => t σ H fun c H1 => if c = true then u σ H1 Q else Q false H1
def tOr (t u : TT) : TT := fun σ H Q => t σ H fun c H1 => if c = true then Q true H1 else u σ H1 Q
def tNot (t : TT) : TT := fun σ H Q => t σ H fun c H1 => Q (!c) H1
theorem pw_and1 (ha : PT X a tA) : PW X (.BoolOp .And [a] pos) tA := by
  intro wh pins s σ H Q I h
  refine isTrue_and (thn (ha pins s σ H Q I h) fun c s1 e => ?_)
  cases c with
  | true => exact isTrue_and_nil e
  | false => exact e
theorem pw_or1 (ha : PT X a tA) : PW X (.BoolOp .Or [a] pos) tA := by
  intro wh pins s σ H Q I h
  refine isTrue_or (thn (ha pins s σ H Q I h) fun c s1 e => ?_)
  cases c with
  | false => exact isTrue_or_nil e
  | true => exact e
theorem pw_and (ha : PT X a tA) (hb : PW X (.BoolOp .And (b :: rest) pos) tB') : PW X (.BoolOp .And (a :: b :: rest) pos) (tAnd tA tB') := by
  intro wh pins s σ H Q I h
  refine isTrue_and (thn (ha pins s σ H _ I h) fun c s1 ⟨H1, I1, q1⟩ => ?_)
  cases c with
  | true => exact hb wh pins s1 σ H1 Q I1 q1
  | false => exact ⟨H1, I1, q1⟩
theorem pw_or (ha : PT X a tA) (hb : PW X (.BoolOp .Or (b :: rest) pos) tB') : PW X (.BoolOp .Or (a :: b :: rest) pos) (tOr tA tB') := by
  intro wh pins s σ H Q I h
  refine isTrue_or (thn (ha pins s σ H _ I h) fun c s1 ⟨H1, I1, q1⟩ => ?_)
  cases c with
  | true => exact ⟨H1, I1, q1⟩
  | false => exact hb wh pins s1 σ H1 Q I1 q1
theorem pt_not (ha : PT X a tA) : PT X (.UnaryOp .Not a pos) (tNot tA) := by
  intro pins s σ H Q I h
  exact isTrue_not (ha pins s σ H (fun c H1 => Q (!c) H1) I h)
/-- .. as values (bools) -/
def tAndV (ta tb : TE) : TE := fun σ H Q => ta σ H fun x H1 => ∃ c, x = .bl c ∧ if c = true then tb σ H1 Q else Q (.bl false) H1
def tOrV (ta tb : TE) : TE := fun σ H Q => ta σ H fun x H1 => ∃ c, x = .bl c ∧ if c = true then Q (.bl true) H1 else tb σ H1 Q
def tNotV (ta : TE) : TE := fun σ H Q => ta σ H fun x H1 => ∃ c, x = .bl c ∧ Q (.bl (!c)) H1
theorem pe_one {op} {t : TE} (h : PE X a t) : PE X (.BoolOp op [a] pos) t := fun pins s σ H Q I hw => BoolOp_one (h pins s σ H Q I hw)
theorem pe_and (ha : PE X a ta) (hb : PE X (.BoolOp .And (b :: rest) pos) tb) : PE X (.BoolOp .And (a :: b :: rest) pos) (tAndV ta tb) := by
  intro pins s σ H Q I h
  refine BoolOp_and (thn (ha pins s σ H _ I h) fun v s1 ⟨x, H1, I1, r1, q1⟩ => ?_)
  obtain ⟨c, rfl, q1⟩ := q1
  cases r1
  refine wpAny_truthy_bool ?_
  cases c with
  | true => exact hb pins s1 σ H1 Q I1 q1
  | false => exact ⟨.bl false, H1, I1, rfl, q1⟩
theorem pe_or (ha : PE X a ta) (hb : PE X (.BoolOp .Or (b :: rest) pos) tb) : PE X (.BoolOp .Or (a :: b :: rest) pos) (tOrV ta tb) := by
  intro pins s σ H Q I h
  refine BoolOp_or (thn (ha pins s σ H _ I h) fun v s1 ⟨x, H1, I1, r1, q1⟩ => ?_)
  obtain ⟨c, rfl, q1⟩ := q1
  cases r1
  refine wpAny_truthy_bool ?_
  cases c with
  | false => exact hb pins s1 σ H1 Q I1 q1
  | true => exact ⟨.bl true, H1, I1, rfl, q1⟩
theorem pe_not (ha : PE X a ta) : PE X (.UnaryOp .Not a pos) (tNotV ta) := by
  intro pins s σ H Q I h
  refine UnaryOp_ (thn (ha pins s σ H _ I h) fun v s1 ⟨x, H1, I1, r1, q1⟩ => ?_)
  obtain ⟨c, rfl, q1⟩ := q1
  cases r1
  exact not_of (wpAny_truthy_bool ⟨.bl (!c), H1, I1, rfl, q1⟩)
/-- a if t else b -/
def tIf (t : TT) (ta tb : TE) : TE := fun σ H Q => t σ H fun c H1 => if c = true then ta σ H1 Q else tb σ H1 Q
theorem pe_ifExp {c : Expr} (hc : PT X c tA) (ha : PE X a ta) (hb : PE X b tb) : PE X (.IfExp c a b pos) (tIf tA ta tb) := by
  intro pins s σ H Q I h
  refine wpAny_IfExp (thn (hc pins s σ H _ I h) fun d s1 ⟨H1, I1, q1⟩ => ?_)
  cases d with
  | true => exact ha pins s1 σ H1 Q I1 q1
  | false => exact hb pins s1 σ H1 Q I1 q1
end
end L2

namespace L2
open PySem PySem.Spec PyProof.Rows

/-! ### a list, a tuple that is read: tracked, frozen, or an object of the module -/
def SqL (K : PySem.W.Frag) (H : Hp) (a : Addr) (xs : List V) : Prop :=
  Rd H a (.lst xs) ∨
    ∃ (o : Obj) (its : Array Value) (n : Nat), K.lookup a = some o ∧ o.cls = .type "list" ∧ o.dict = none ∧ o.data = .seq its n ∧ its.size ≤ sizeLine ∧ Vals xs its.toList
def SqT (K : PySem.W.Frag) (H : Hp) (a : Addr) (xs : List V) : Prop :=
  Rd H a (.tup xs) ∨
    ∃ (o : Obj) (its : Array Value) (n : Nat), K.lookup a = some o ∧ o.cls = .type "tuple" ∧ o.data = .seq its n ∧ its.size ≤ sizeLine ∧ Vals xs its.toList
def absV : Value → Option V
  | .none => some .non
  | .bool b => some (.bl b)
  | .int i _ => some (.int i)
  | .str x _ => some (.str x)
  | .bytes b _ => some (.byt b)
  | .float b _ => some (.flt b)
  | .ref a => some (.ref a)
  | .type n => some (.ty n)
  | _ => none
theorem RelV.abs {x : V} {u : Value} (r : RelV x u) : absV u = some x := by
  cases x with
  | non => cases r; rfl
  | bl _ => cases r; rfl
  | int _ => obtain ⟨t, rfl⟩ := r; rfl
  | str _ => obtain ⟨t, rfl⟩ := r; rfl
  | byt _ => obtain ⟨t, rfl⟩ := r; rfl
  | flt _ => obtain ⟨t, rfl⟩ := r; rfl
  | ref _ => cases r; rfl
  | ty _ => cases r; rfl
theorem RelV.inj {x y : V} {u : Value} (r : RelV x u) (q : RelV y u) : x = y := Option.some.inj (r.abs.symm.trans q.abs)
theorem Vals.inj : ∀ {xs ys : List V} {us : List Value}, Vals xs us → Vals ys us → xs = ys
  | _, _, _, .nil, .nil => rfl
  | _, _, _, .cons r t, .cons r' t' => by rw [r.inj r', Vals.inj t t']
section
variable {X : Cx} {pins : List (Addr × Obj)} {σ : St} {H : Hp} {s : Shared} {a : Addr} {xs ys : List V}
theorem SqL.of {K : PySem.W.Frag} (h : H a = some (.lst xs)) : SqL K H a xs := .inl (.inl h)
theorem SqT.of {K : PySem.W.Frag} (h : H a = some (.tup xs)) : SqT K H a xs := .inl (.inl h)
theorem Inv.list (I : Inv X pins σ H s) (h : SqL X.K H a xs) : ∃ its : List Value, Vals xs its ∧ PlainL s.heap a its.toArray ∧ xs.length ≤ sizeLine := by
  rcases h with h | ⟨o, its, n, hk, hc, hd, hs, hz, r⟩
  · obtain ⟨z, its, n, r, e⟩ := h.ok I.hok
    exact ⟨its, r, ⟨_, n, e, rfl, rfl, rfl⟩, z⟩
  · refine ⟨its.toList, r, ⟨o, n, I.kIn a o hk, hc, hd, by simpa using hs⟩, ?_⟩
    have e := r.length
    simp only [Array.length_toList] at e
    omega
theorem Inv.tuple (I : Inv X pins σ H s) (h : SqT X.K H a xs) : ∃ its : List Value, Vals xs its ∧ IsTup s.heap a its.toArray ∧ xs.length ≤ sizeLine := by
  rcases h with h | ⟨o, its, n, hk, hc, hs, hz, r⟩
  · obtain ⟨z, its, r, p⟩ := h.ok I.hok
    exact ⟨its, r, p, z⟩
  · refine ⟨its.toList, r, ⟨o, I.kIn a o hk, hc, n, by simpa using hs⟩, ?_⟩
    have e := r.length
    simp only [Array.length_toList] at e
    omega
theorem Inv.list_inj (I : Inv X pins σ H s) (h : SqL X.K H a xs) (h' : SqL X.K H a ys) : xs = ys := by
  obtain ⟨its, r, ⟨o, n, e, _, _, d⟩, _⟩ := I.list h
  obtain ⟨its', r', ⟨o', n', e', _, _, d'⟩, _⟩ := I.list h'
  rw [e] at e'; cases e'
  rw [d] at d'
  injection d' with d1 _
  have : its = its' := by simpa using congrArg Array.toList d1
  subst this
  exact r.inj r'
theorem Inv.tuple_inj (I : Inv X pins σ H s) (h : SqT X.K H a xs) (h' : SqT X.K H a ys) : xs = ys := by
  obtain ⟨its, r, ⟨o, e, _, n, d⟩, _⟩ := I.tuple h
  obtain ⟨its', r', ⟨o', e', _, n', d'⟩, _⟩ := I.tuple h'
  rw [e] at e'; cases e'
  rw [d] at d'
  injection d' with d1 _
  have : its = its' := by simpa using congrArg Array.toList d1
  subst this
  exact r.inj r'
end

/-! ### another wish about exceptions -/
abbrev Cx.wish (X : Cx) (E : Value → Shared → Prop) : Cx := { X with xe := E }
/-- no exception leaves -/
abbrev Cx.nox (X : Cx) : Cx := X.wish fun _ _ => False
theorem Cx.Ok.wish {X : Cx} (ok : X.Ok) (E : Value → Shared → Prop) : (X.wish E).Ok :=
  ⟨ok.mod, ok.kind, ok.glob, ok.blt, ok.above, ok.inj, ok.has, ok.cab, ok.hd, ok.frames, ok.stk, ok.exf, ok.bs, ok.bsz, ok.noex, ok.exfs, ok.funs, ok.frf⟩
theorem Cx.Ok.unwish {X : Cx} {E : Value → Shared → Prop} (ok : (X.wish E).Ok) : X.Ok :=
  ⟨ok.mod, ok.kind, ok.glob, ok.blt, ok.above, ok.inj, ok.has, ok.cab, ok.hd, ok.frames, ok.stk, ok.exf, ok.bs, ok.bsz, ok.noex, ok.exfs, ok.funs, ok.frf⟩
section
variable {X : Cx} {pins : List (Addr × Obj)} {σ : St} {H : Hp} {s : Shared} {E : Value → Shared → Prop}
theorem Inv.wish (I : Inv X pins σ H s) (E : Value → Shared → Prop) : Inv (X.wish E) pins σ H s := ⟨I.ok.wish E, I.os, I.bare, I.base, I.loc, I.cell, I.free, I.freeC, I.pin, I.hok, I.len⟩
theorem Inv.unwish (I : Inv (X.wish E) pins σ H s) : Inv X pins σ H s := ⟨I.ok.unwish, I.os, I.bare, I.base, I.loc, I.cell, I.free, I.freeC, I.pin, I.hok, I.len⟩
theorem SP.unwish {D : Ends} {f : Flow} {s' : Shared} (h : SP (X.wish E) pins D f s') : SP X pins D f s' := by
  cases f with
  | next => obtain ⟨σ', H', I, q⟩ := h; exact ⟨σ', H', I.unwish, q⟩
  | brk => obtain ⟨σ', H', I, q⟩ := h; exact ⟨σ', H', I.unwish, q⟩
  | cont => obtain ⟨σ', H', I, q⟩ := h; exact ⟨σ', H', I.unwish, q⟩
  | ret u => obtain ⟨v, σ', H', I, r, q⟩ := h; exact ⟨v, σ', H', I.unwish, r, q⟩
theorem PE.nox {e : Expr} {t : TE} (h : PE X.nox e t) : PE X e t := fun pins s σ H Q I hw =>
  wpAny_mono (h pins s σ H Q (I.wish _) hw) (fun _ _ ⟨v, H', I', r, q⟩ => ⟨v, H', I'.unwish, r, q⟩) fun _ _ z => False.elim z
theorem PT.nox {e : Expr} {t : TT} (h : PT X.nox e t) : PT X e t := fun pins s σ H Q I hw =>
  wpAny_mono (h pins s σ H Q (I.wish _) hw) (fun _ _ ⟨H', I', q⟩ => ⟨H', I'.unwish, q⟩) fun _ _ z => False.elim z
theorem PSs.nox {st : List Stmt} {t : TS} (h : PSs X.nox st t) : PSs X st t := fun pins s σ H D I hw =>
  wpAny_mono (h pins s σ H D (I.wish _) hw) (fun _ _ q => q.unwish) fun _ _ z => False.elim z
end

/-! ### blocks and small statements -/
section
variable {X : Cx} {st : Stmt} {rest : List Stmt} {t u : TS} {e : Expr} {te : TE} {pos : Pos}
def tNext : TS := fun D σ H => D.nx σ H
def tSeq (t u : TS) : TS := fun D σ H => t { D with nx := u D } σ H
theorem pss_nil : PSs X [] tNext := fun _ _ σ H _ I h => wpAny_execs_nil ⟨σ, H, I, h⟩
theorem pss_cons (h1 : PS X st t) (h2 : PSs X rest u) : PSs X (st :: rest) (tSeq t u) := by
  intro pins s σ H D I h
  refine wpAny_execs_cons (thn (h1 pins s σ H { D with nx := u D } I h) fun f s1 q => ?_)
  cases f with
  | next =>
    obtain ⟨σ', H', I', q⟩ := q
    exact h2 pins s1 σ' H' D I' q
  | ret v => exact q
  | brk => exact q
  | cont => exact q
theorem pss_one (h1 : PS X st t) : PSs X [st] t := by
  intro pins s σ H D I h
  refine wpAny_execs_cons (thn (h1 pins s σ H D I h) fun f s1 q => ?_)
  cases f with
  | next => exact wpAny_execs_nil q
  | ret v => exact q
  | brk => exact q
  | cont => exact q
def tBreak : TS := fun D σ H => D.bk σ H
def tCont : TS := fun D σ H => D.ct σ H
theorem ps_pass : PS X (.Pass pos) tNext := fun _ _ σ H _ I h => wpAny_Pass ⟨σ, H, I, h⟩
theorem ps_break : PS X (.Break pos) tBreak := fun _ _ σ H _ I h => wpAny_Break ⟨σ, H, I, h⟩
theorem ps_continue : PS X (.Continue pos) tCont := fun _ _ σ H _ I h => wpAny_Continue ⟨σ, H, I, h⟩
/-- in a def's body nothing is shown -/
theorem Inv.quiet {pins : List (Addr × Obj)} {σ : St} {H : Hp} {s : Shared} (I : Inv X pins σ H s) : interactive X.env = false := by simp [interactive, I.ok.kind]
/-- a docstring -/
theorem ps_doc {x j pos pos'} : PS X (.Expr (.Constant (.str x) j pos) pos') tNext := fun _ s σ H _ I h => wpAny_Expr (Calls.Constant_str (show SP X _ _ .next { s with toks := s.toks + 1 } from ⟨σ, H, I.tok _, h⟩)) I.quiet
/-- an expression whose value is dropped -/
def tDrop (te : TE) : TS := fun D σ H => te σ H fun _ H1 => D.nx σ H1
theorem ps_expr (he : PE X e te) (hs : swapsWith e none pos.line X.env = pure false := by rfl) : PS X (.Expr e pos) (tDrop te) := by
  intro pins s σ H D I h
  exact wpAny_Expr_any (thn (he pins s σ H _ I h) fun v s1 ⟨x, H1, I1, r1, q1⟩ => ⟨σ, H1, I1, q1⟩) I.quiet hs
def tRet (te : TE) : TS := fun D σ H => te σ H D.rt
theorem ps_ret (he : PE X e te) : PS X (.Return (some e) pos) (tRet te) := by
  intro pins s σ H D I h
  exact wpAny_Return_some (thn (he pins s σ H _ I h) fun v s1 ⟨x, H1, I1, r1, q1⟩ => ⟨x, σ, H1, I1, r1, q1⟩)
def tRetN : TS := fun D _ H => D.rt .non H
theorem ps_retN : PS X (.Return none pos) tRetN := fun _ _ σ H _ I h => wpAny_Return_none ⟨.non, σ, H, I, rfl, h⟩
def tIfS (c : TT) (t u : TS) : TS := fun D σ H => c σ H fun b H1 => if b = true then t D σ H1 else u D σ H1
theorem ps_if {c : Expr} {a b : List Stmt} {tc : TT} (hc : PT X c tc) (ha : PSs X a t) (hb : PSs X b u) : PS X (.If c a b pos) (tIfS tc t u) := by
  intro pins s σ H D I h
  refine wpAny_If (thn (hc pins s σ H _ I h) fun d s1 ⟨H1, I1, q1⟩ => ?_)
  cases d with
  | true => exact ha pins s1 σ H1 D I1 q1
  | false => exact hb pins s1 σ H1 D I1 q1
/-- code that the proof never comes to -/
def tNever : TS := fun _ _ _ => False
theorem ps_never : PS X st tNever := fun _ _ _ _ _ _ h => h.elim
theorem pss_never {sts : List Stmt} : PSs X sts tNever := fun _ _ _ _ _ _ h => h.elim
end

/-! ### targets -/
abbrev TG := V → St → Hp → (St → Hp → Prop) → Prop
abbrev TGs := List V → St → Hp → (St → Hp → Prop) → Prop
def PG (X : Cx) (target : Expr) (t : TG) : Prop :=
  ∀ (pins : List (Addr × Obj)) (s : Shared) (σ : St) (H : Hp) (v : V) (u : Value) (Q : St → Hp → Prop), Inv X pins σ H s → RelV v u → t v σ H Q →
    wpAny (model X.prog X.w) X.A (assign target X.env u) (fun _ s' => ∃ σ' H', Inv X pins σ' H' s' ∧ Q σ' H') X.xe s
/-- several targets, one after another -/
def PGs (X : Cx) (ts : List Expr) (t : TGs) : Prop :=
  ∀ (pins : List (Addr × Obj)) (s : Shared) (σ : St) (H : Hp) (vs : List V) (us : List Value) (Q : St → Hp → Prop), Inv X pins σ H s → Vals vs us → t vs σ H Q →
    wpAny (model X.prog X.w) X.A (assignInOrder ((assignEach ts X.env).map (·.2)) us) (fun _ s' => ∃ σ' H', Inv X pins σ' H' s' ∧ Q σ' H') X.xe s
/-- o[i] = v, by values -/
abbrev TSet := V → V → V → Hp → (Hp → Prop) → Prop
def PSet (X : Cx) (t : TSet) : Prop :=
  ∀ (pins : List (Addr × Obj)) (s : Shared) (σ : St) (H : Hp) (o i v : V) (ov iv u : Value) (Q : Hp → Prop), Inv X pins σ H s → RelV o ov → RelV i iv → RelV v u → t o i v H Q →
    wpAny (model X.prog X.w) X.A (setItem ov iv u) (fun _ s' => ∃ H', Inv X pins σ H' s' ∧ Q H') X.xe s
/-- a op= b, by values -/
abbrev TIp := V → V → Hp → VK → Prop
def PIp (X : Cx) (op : Operator) (t : TIp) : Prop :=
  ∀ (pins : List (Addr × Obj)) (s : Shared) (σ : St) (H : Hp) (x y : V) (v u : Value) (Q : VK), Inv X pins σ H s → RelV x v → RelV y u → t x y H Q →
    wpAny (model X.prog X.w) X.A (inplaceOp op v u) (EP X pins σ Q) X.xe s
section
variable {X : Cx} {pos : Pos}
def gName (i : Nat) : TG := fun v σ H Q => Q (σ.set i (some v)) H
theorem pg_name {i : Nat} {x : Str} (hN : X.N.Nodup) (hi : X.N[i]? = some x) (hx : Loc X.env.scope x) (hf : X.fn x = true ∨ X.env.scope.names.lookup x = some .local := by first | exact .inl rfl | exact .inr rfl | assumption) : PG X (.Name x pos) (gName i) := by
  intro pins s σ H v u Q I r h
  exact wpAny_assign_Name (store_ok I hN hi hx r (fun s' I' => ⟨_, H, I', h⟩) hf)
def gNil : TGs := fun vs σ H Q => vs = [] ∧ Q σ H
def gCons (t : TG) (u : TGs) : TGs := fun vs σ H Q => ∃ v r, vs = v :: r ∧ t v σ H fun σ' H' => u r σ' H' Q
theorem pgs_nil : PGs X [] gNil := by
  intro pins s σ H vs us Q I r h
  obtain ⟨e, h⟩ := h
  subst e
  cases r
  exact assignInOrder_nil ⟨σ, H, I, h⟩
theorem pgs_cons {e : Expr} {es : List Expr} {t : TG} {u : TGs} (h1 : PG X e t) (h2 : PGs X es u)
    (hs : (assignEach (e :: es) X.env).map (·.2) = assign e X.env :: (assignEach es X.env).map (·.2) := by rfl) : PGs X (e :: es) (gCons t u) := by
  intro pins s σ H vs us Q I r h
  obtain ⟨v, vr, e1, h⟩ := h
  subst e1
  cases r with
  | cons r rr =>
    rw [hs]
    refine assignInOrder_cons (thn (h1 pins s σ H _ _ _ I r h) fun _ s1 ⟨σ1, H1, I1, q1⟩ => ?_)
    exact h2 pins s1 σ1 H1 _ _ Q I1 rr q1
/-- (a, b, ..) = a tuple of that length -/
def gTup (K : PySem.W.Frag) (n : Nat) (t : TGs) : TG := fun v σ H Q => ∃ a xs, v = .ref a ∧ SqT K H a xs ∧ xs.length = n ∧ t xs σ H Q
theorem pg_tup {es : List Expr} {k : Nat} {t : TGs} {n : Nat} (hc : X.calm = true) (h : PGs X es t)
    (hn : (assignEach es X.env).length = n := by rfl) (hst : (assignEach es X.env).findIdx? (·.1) = none := by rfl) : PG X (.Tuple es k pos) (gTup X.K n t) := by
  intro pins s σ H v u Q I r hw
  obtain ⟨a, xs, e1, hq, hl, hw⟩ := hw
  subst e1
  cases r
  obtain ⟨its, rv, ht, hz⟩ := I.tuple hq
  refine assign_Tuple_tuple (I.ok.hd hc) ht (by simp [hn, ← hl, rv.length]) hst fun h' hx => ?_
  have I1 : Inv X pins σ H { s with heap := h' } := I.kept (t' := s.toks) fun b o e => hx b o (Nat.ne_of_lt (Heap.lt_size e)) e
  exact h pins _ σ H xs _ Q I1 (by simpa using rv) hw
/-- o[i] = .. -/
def gSub (to ti : TE) (t : TSet) : TG := fun v σ H Q => to σ H fun o H1 => ti σ H1 fun i H2 => t o i v H2 fun H3 => Q σ H3
theorem pg_sub {o i : Expr} {to ti : TE} {t : TSet} (ho : PE X o to) (hi : PE X i ti) (hs : PSet X t)
    (ha : ∀ v, assign (.Subscript o i pos) X.env v = (do
      let ov ← holding [v] (eval o X.env)
      let iv ← holding [v, ov] (eval i X.env)
      standAt pos
      holding [v, ov, iv] (setItem ov iv v)
      release [v, ov, iv] []) := by intro _; rfl) : PG X (.Subscript o i pos) (gSub to ti t) := by
  intro pins s σ H v u Q I r h
  rw [ha]
  refine wpAny_bind (wpAny_holding (thn (ho pins s σ H _ I h) fun ov s1 ⟨x, H1, I1, r1, q1⟩ => ?_))
  refine wpAny_bind (wpAny_holding (thn (hi pins s1 σ H1 _ I1 q1) fun iv s2 ⟨y, H2, I2, r2, q2⟩ => ?_))
  refine wpAny_bind (wpAny_standAt (wpAny_bind (wpAny_holding (thn (hs pins s2 σ H2 x y v ov iv u _ I2 r1 r2 r q2) fun _ s3 ⟨H3, I3, q3⟩ => ?_))))
  exact wpAny_release ⟨σ, H3, I3, q3⟩
/-- target = value -/
def tAsg (te : TE) (g : TG) : TS := fun D σ H => te σ H fun x H1 => g x σ H1 D.nx
theorem ps_asg {tg e : Expr} {te : TE} {g : TG} (he : PE X e te) (hg : PG X tg g) (hs : swapsWithSole [tg] e pos.line X.env = pure false := by rfl) (hw : swappedStores [tg] e X.env = pure none := by rfl)
    (h1 : (assignEach [tg] X.env).map (·.2) = [assign tg X.env] := by rfl) : PS X (.Assign [tg] e pos) (tAsg te g) := by
  intro pins s σ H D I h
  refine wpAny_Assign_stores (thn (he pins s σ H _ I h) fun v s1 ⟨x, H1, I1, r1, q1⟩ => ?_) hs hw
  rw [h1]
  exact thn (hg pins s1 σ H1 x v _ I1 r1 q1) fun _ s2 q => q
/-- name = value -/
theorem ps_set {i : Nat} {x : Str} {e : Expr} {te : TE} {pos' : Pos} (hN : X.N.Nodup) (hi : X.N[i]? = some x) (hx : Loc X.env.scope x) (he : PE X e te) (hs : swapsWith e (some (.Name x pos')) pos.line X.env = pure false := by rfl) (hf : X.fn x = true ∨ X.env.scope.names.lookup x = some .local := by first | exact .inl rfl | exact .inr rfl | assumption) :
    PS X (.Assign [.Name x pos'] e pos) (tAsg te (gName i)) := by
  intro pins s σ H D I h
  refine wpAny_Assign_Name (thn (he pins s σ H _ I h) fun v s1 ⟨y, H1, I1, r1, q1⟩ => ?_) hs
  exact store_ok I1 hN hi hx r1 (fun s2 I2 => ⟨_, H1, I2, q1⟩) hf
/-- a, b = x, y with plain local names: stored from the right; the pair itself is not tracked (the opening rows as in PyProof/Rows/TupAssign.lean:23) -/
def tPar (i j : Nat) (ta : TA) : TS := fun D σ H => ta σ H fun vs H1 => ∃ v w, vs = [v, w] ∧ D.nx ((σ.set i (some v)).set j (some w)) H1
theorem ps_par {i j : Nat} {x y : Str} {a b : Expr} {ta : TA} {px py pt : Pos} {kt k2 pt2} (hc : X.calm = true) (hN : X.N.Nodup) (hi : X.N[i]? = some x) (hj : X.N[j]? = some y) (hij : i ≠ j)
    (hx : X.env.scope.names.lookup x = some .local) (hy : X.env.scope.names.lookup y = some .local) (ha : PA X [a, b] ta)
    (hw : swappedStores [.Tuple [.Name x px, .Name y py] kt pt] (.Tuple [a, b] k2 pt2) X.env = pure (some [x, y]))
    (hs : swapsWithSole [.Tuple [.Name x px, .Name y py] kt pt] (.Tuple [a, b] k2 pt2) pos.line X.env = pure false := by rfl) :
    PS X (.Assign [.Tuple [.Name x px, .Name y py] kt pt] (.Tuple [a, b] k2 pt2) pos) (tPar i j ta) := by
  intro pins s σ H D I h
  rw [exec_Assign_arm]
  refine wpAny_bind (wpAny_standAt ?_)
  rw [hs]
  refine wpAny_bind (wpAny_pure ?_)
  rw [if_neg (by decide)]
  refine wpAny_bind (Tuple_ (thn (ha _ pins s σ H _ I h) fun us s1 ⟨vs, H1, I1, r1, q1⟩ => ?_))
  obtain ⟨v, w, e1, q1⟩ := q1
  subst e1
  obtain ⟨u1, u2, rfl, rv, rw'⟩ : ∃ u1 u2, us = [u1, u2] ∧ RelV v u1 ∧ RelV w u2 := by
    cases r1 with
    | cons p q =>
      cases q with
      | cons p' q' =>
        cases q'
        exact ⟨_, _, rfl, p, p'⟩
  refine wpAny_newObj_type ?_ (by show 2 ≤ sizeLine; decide)
  have I2 : Inv X pins σ H1 { s1 with heap := s1.heap.push { cls := .type "tuple", data := .seq [u1, u2].toArray } } := I1.kept (t' := s1.toks) fun b o e => Heap.get?_push_of_some _ e
  rw [hw]
  refine wpAny_bind (wpAny_pure ?_)
  show wpAny (model X.prog X.w) X.A (do rule "assign.swapped-stores"; let items ← unpackItems (.ref s1.heap.objs.size) 2 none; assignInOrder [fun v => bindName X.env y v, fun v => bindName X.env x v] items.reverse; pure Flow.next) _ _ _
  refine wpAny_bind (wpAny_rule (wpAny_bind (unpackItems_tuple (items := #[u1, u2]) (I.ok.hd hc) (IsTup.new s1.heap _) fun h' hx' => ?_)))
  have I3 := I2.kept (h' := h') (t' := s1.toks) fun b o e => hx' b o (Nat.ne_of_lt (Heap.lt_size e)) e
  show wpAny _ _ (assignInOrder [fun v => bindName X.env y v, fun v => bindName X.env x v] [u2, u1] >>= fun _ => pure Flow.next) _ _ _
  refine wpAny_bind (assignInOrder_cons (wpAny_bindName (store_ok I3 hN hj (.inl hy) rw' (fun s2 I4 => ?_) (.inr hy))))
  refine assignInOrder_cons (wpAny_bindName (store_ok I4 hN hi (.inl hx) rv (fun s3 I5 => assignInOrder_nil (wpAny_pure ?_)) (.inr hx)))
  rw [List.set_comm _ _ (Ne.symm hij)] at I5
  exact ⟨_, H1, I5, q1⟩
/-- name op= e -/
def tAug (i : Nat) (te : TE) (ti : TIp) : TS := fun D σ H => ∃ x, σ[i]? = some (some x) ∧ te σ H fun y H1 => ti x y H1 fun z H2 => D.nx (σ.set i (some z)) H2
theorem ps_aug {i : Nat} {x : Str} {e : Expr} {te : TE} {op : Operator} {ti : TIp} {pos' : Pos} (hN : X.N.Nodup) (hi : X.N[i]? = some x) (hx : Loc X.env.scope x) (he : PE X e te) (ho : PIp X op ti) (hf : X.fn x = true ∨ X.env.scope.names.lookup x = some .local := by first | exact .inl rfl | exact .inr rfl | assumption) :
    PS X (.AugAssign (.Name x pos') op e pos) (tAug i te ti) := by
  intro pins s σ H D I h
  obtain ⟨v, e1, h⟩ := h
  obtain ⟨m, hn, hl⟩ := I.loc
  have vis : Vis X.env.scope x := by rcases hx with k | k; exact .inl k; exact .inr (.inl k)
  obtain ⟨u, r, l⟩ := hl i x v hi e1 vis
  refine wpAny_AugAssign_Name ?_
  have go : wpAny (model X.prog X.w) X.A (eval e X.env) (fun w s₂ => wpAny (model X.prog X.w) X.A (inplaceOp op u w) (fun r s₃ => wpAny (model X.prog X.w) X.A (storeName X.env x r) (fun _ => SP X pins D .next) X.xe s₃) X.xe s₂) X.xe s := by
    refine thn (he pins s σ H _ I h) fun w s1 ⟨y, H1, I1, r1, q1⟩ => ?_
    refine thn (ho pins s1 σ H1 v y u w _ I1 r r1 q1) fun z s2 ⟨zv, H2, I2, r2, q2⟩ => ?_
    exact store_ok I2 hN hi hx r2 (fun s3 I3 => ⟨_, H2, I3, q2⟩) hf
  rcases l with ⟨hk, hm⟩ | ⟨hk, c, hc, hcell⟩
  · exact wpAny_loadName_local I.ok.kind hk hn hm go
  · rcases hk with hk | hk
    · exact wpAny_loadName_cell I.ok.kind hk hc hcell go
    · rcases hx with k | k
      · have : X.env.scope.names.lookup x = some .free := hk
        rw [k] at this; cases this
      · have : X.env.scope.names.lookup x = some .free := hk
        rw [k] at this; cases this
/-- o[i] op= e -/
def tAugS (to ti te : TE) (tget : V → V → Hp → VK → Prop) (tip : TIp) (tset : TSet) : TS := fun D σ H => to σ H fun o H1 => ti σ H1 fun i H2 => tget o i H2 fun x H3 => te σ H3 fun y H4 => tip x y H4 fun z H5 => tset o i z H5 fun H6 => D.nx σ H6
/-- o[i], by values -/
def PGet (X : Cx) (t : V → V → Hp → VK → Prop) : Prop :=
  ∀ (pins : List (Addr × Obj)) (s : Shared) (σ : St) (H : Hp) (o i : V) (ov iv : Value) (Q : VK), Inv X pins σ H s → RelV o ov → RelV i iv → t o i H Q →
    wpAny (model X.prog X.w) X.A (getItem ov iv) (EP X pins σ Q) X.xe s
theorem ps_augS {o i e : Expr} {to ti te : TE} {tget : V → V → Hp → VK → Prop} {tip : TIp} {tset : TSet} {op : Operator} {tpos : Pos} (ho : PE X o to) (hi : PE X i ti) (hg : PGet X tget) (he : PE X e te) (hp : PIp X op tip) (hs : PSet X tset)
    (ha : ∀ ov iv new, augStore i ov iv new = (do holding [new, ov, iv] (setItem ov iv new); release [new, ov, iv] []; pure .next) := by intros; rfl) : PS X (.AugAssign (.Subscript o i tpos) op e pos) (tAugS to ti te tget tip tset) := by
  intro pins s σ H D I h
  refine wpAny_AugAssign_SubscriptAny (thn (ho pins s σ H _ I h) fun ov s1 ⟨x1, H1, I1, r1, q1⟩ => ?_) ha
  refine thn (hi pins s1 σ H1 _ I1 q1) fun iv s2 ⟨x2, H2, I2, r2, q2⟩ => ?_
  refine thn (hg pins s2 σ H2 x1 x2 ov iv _ I2 r1 r2 q2) fun old s3 ⟨x3, H3, I3, r3, q3⟩ => ?_
  refine thn (he pins s3 σ H3 _ I3 q3) fun v s4 ⟨x4, H4, I4, r4, q4⟩ => ?_
  refine thn (hp pins s4 σ H4 x3 x4 old v _ I4 r3 r4 q4) fun new s5 ⟨x5, H5, I5, r5, q5⟩ => ?_
  exact thn (hs pins s5 σ H5 x1 x2 x5 ov iv new _ I5 r1 r2 r5 q5) fun _ s6 ⟨H6, I6, q6⟩ => ⟨σ, H6, I6, q6⟩
/-- ints -/
def ipI (f : Int → Int → Int) : TIp := fun x y H Q => ∃ i j, x = .int i ∧ y = .int j ∧ Q (.int (f i j)) H
theorem ip_add : PIp X .Add (ipI fun i j => i + j) := by
  intro pins s σ H x y v u Q I r1 r2 h
  obtain ⟨i, j, e1, e2, q⟩ := h
  subst e1; subst e2
  obtain ⟨t, rfl⟩ := r1
  obtain ⟨t', rfl⟩ := r2
  exact iadd_int ⟨.int _, H, I.tok _, ⟨_, rfl⟩, q⟩
theorem ip_sub : PIp X .Sub (ipI fun i j => i - j) := by
  intro pins s σ H x y v u Q I r1 r2 h
  obtain ⟨i, j, e1, e2, q⟩ := h
  subst e1; subst e2
  obtain ⟨t, rfl⟩ := r1
  obtain ⟨t', rfl⟩ := r2
  exact isub_int ⟨.int _, H, I.tok _, ⟨_, rfl⟩, q⟩
end

/-! ### while -/
section
variable {X : Cx} {pos : Pos}
/-- the invariant W with its measure -/
def tWhile (c : TT) (tb : TS) : TS := fun D σ H => ∃ W : Nat → St → Hp → Prop, (∃ m, W m σ H) ∧ ∀ m σ H, W m σ H →
  c σ H fun b H1 => if b = true then ∃ N : St → Hp → Prop, (∀ σ' H', N σ' H' → ∃ m', m' < m ∧ W m' σ' H') ∧ tb { D with nx := N, ct := N, bk := D.nx } σ H1 else D.nx σ H1
theorem ps_while {c : Expr} {body : List Stmt} {tc : TT} {tb : TS} (hp : PassesOwn (model X.prog X.w) X.A X.env X.xe) (hc : PT X c tc) (hb : PSs X body tb) : PS X (.While c body [] pos) (tWhile tc tb) := by
  intro pins s σ H D I h
  obtain ⟨W, ⟨m0, w0⟩, turn⟩ := h
  refine wpAny_While (codeAny_whileLoop (fun n s' => ∃ σ' H', Inv X pins σ' H' s' ∧ W n σ' H') ?_ m0 ⟨σ, H, I, w0⟩)
  rintro n s1 ⟨σ1, H1, I1, w1⟩
  refine wpAny_passesOwn hp (thn (hc pins s1 σ1 H1 _ I1 (turn n σ1 H1 w1)) fun b s2 ⟨H2, I2, q2⟩ => ?_)
  cases b with
  | true =>
    obtain ⟨N, hN, q2⟩ := q2
    rw [if_pos rfl]
    refine wpAny_passesOwn hp (thn (hb pins s2 σ1 H2 _ I2 q2) fun f s3 q3 => ?_)
    cases f with
    | next =>
      obtain ⟨σ3, H3, I3, n3⟩ := q3
      obtain ⟨m', hm, w3⟩ := hN σ3 H3 n3
      exact ⟨m', hm, σ3, H3, I3, w3⟩
    | cont =>
      obtain ⟨σ3, H3, I3, n3⟩ := q3
      obtain ⟨m', hm, w3⟩ := hN σ3 H3 n3
      exact ⟨m', hm, σ3, H3, I3, w3⟩
    | brk => exact q3
    | ret v => exact q3
  | false =>
    rw [if_neg Bool.false_ne_true]
    exact wpAny_execs_nil ⟨σ1, H2, I2, q2⟩
end

/-! ### what a loop or a comprehension walks -/
/-- at turn i: it yields x (the heap may grow), or it stops -/
structure It where
  go : Nat → Hp → Prop
  yld : Nat → Hp → V → Hp → Prop
  stop : Nat → Hp → Prop
/-- the iterator's own objects may turn: they are not the frame's, not pinned, younger than the entry (or a comprehension's own) -/
def FpOk (X : Cx) (pins : List (Addr × Obj)) (H : Hp) (b : Addr) : Prop :=
  H b = none ∧ b ≠ X.env.locals ∧ b ∉ X.fs ∧ (b ∈ X.ex ∨ X.s₀.heap.objs.size ≤ b) ∧ (∀ x c, X.env.cells.lookup x = some c → c ≠ b) ∧ ∀ p ∈ X.pn ++ pins, p.1 ≠ b
theorem Inv.fpOk {X : Cx} {pins : List (Addr × Obj)} {σ : St} {H H' : Hp} {s : Shared} {b : Addr} (I : Inv X pins σ H s) (hb : s.heap.objs.size ≤ b) (hn : H' b = none) : FpOk X pins H' b := by
  refine ⟨hn, Nat.ne_of_gt (Nat.lt_of_lt_of_le I.lt hb), I.nofs hb, .inr (Nat.le_trans I.sz hb), fun x c e z => ?_, fun p hp z => ?_⟩
  · obtain ⟨v, q⟩ := I.cell x c e
    exact absurd (Nat.lt_of_lt_of_le q.lt (by rw [z]; exact hb)) (Nat.lt_irrefl _)
  · exact absurd (Nat.lt_of_lt_of_le (Heap.lt_size (I.pin p hp).1) (by rw [z]; exact hb)) (Nat.lt_irrefl _)
structure Turn (P : Program) (w : World) (K : PySem.W.Frag) (tg : Expr) (J : It) (fp : List Addr) (it : Addr) (tn : Nat → Heap → Prop) : Prop where
  mem : it ∈ fp
  obj : ∀ i h, tn i h → ∀ b ∈ fp, ∃ o, h.get? b = some o ∧ ∀ v, o.data ≠ .cell v
  keep : ∀ i h h', tn i h → (∀ b ∈ fp, ∀ o, h.get? b = some o → h'.get? b = some o) → tn i h'
  item : ∀ (X : Cx), X.prog = P → X.w = w → X.K = K → X.calm = true → ∀ (i : Nat) (pins : List (Addr × Obj)) (s : Shared) (σ : St) (H : Hp) (E : Value → Shared → Prop), Inv X pins σ H s → (∀ b ∈ fp, FpOk X pins H b) → tn i s.heap → J.go i H →
    wpAny (model P w) X.A (pyNext (.ref it)) (fun r s1 => ∃ u, r = some u ∧
      wpAny (model P w) X.A (letOwnedTupleGo tg (.ref it) u) (fun _ s2 => ∃ x H', Inv X pins σ H' s2 ∧ RelV x u ∧ J.yld i H x H' ∧ tn (i + 1) s2.heap ∧ ∀ b ∈ fp, H' b = none) E s1) E s
  done : ∀ (X : Cx), X.prog = P → X.w = w → X.K = K → X.calm = true → ∀ (i : Nat) (pins : List (Addr × Obj)) (s : Shared) (σ : St) (H : Hp) (E : Value → Shared → Prop), Inv X pins σ H s → (∀ b ∈ fp, FpOk X pins H b) → tn i s.heap → J.stop i H →
    wpAny (model P w) X.A (pyNext (.ref it)) (fun r s1 => r = none ∧ Inv X pins σ H s1) E s
  self : ∀ (A : Around) (i : Nat) (s : Shared) (Q : Value → Shared → Prop) (E : Value → Shared → Prop), tn i s.heap → Q (.ref it) s → wpAny (model P w) A (pyIter (.ref it)) Q E s
abbrev TI := St → Hp → (It → Hp → Prop) → Prop
/-- an iterator has come -/
def PIE (X : Cx) (pins : List (Addr × Obj)) (σ : St) (tg : Expr) (R : It → Hp → Prop) (itv : Value) (s2 : Shared) : Prop :=
  ∃ (it : Addr) (fp : List Addr) (tn : Nat → Heap → Prop) (J : It) (H' : Hp), itv = .ref it ∧ Inv X pins σ H' s2 ∧ Turn X.prog X.w X.K tg J fp it tn ∧ tn 0 s2.heap ∧ (∀ b ∈ fp, FpOk X pins H' b) ∧ R J H'
def PI (X : Cx) (tg iter : Expr) (wi : TI) : Prop :=
  ∀ (pins : List (Addr × Obj)) (s : Shared) (σ : St) (H : Hp) (R : It → Hp → Prop), Inv X pins σ H s → wi σ H R →
    wpAny (model X.prog X.w) X.A (eval iter X.env) (fun v s1 => wpAny (model X.prog X.w) X.A (pyIter v) (PIE X pins σ tg R) X.xe s1) X.xe s

/-- the step ahead of the store is nothing for an iterator that keeps no tuple -/
theorem go_of {M : Model} {A : Around} {E : Value → Shared → Prop} {s : Shared} {tg : Expr} {it : Addr} {u : Value} {o : Obj} {n : String} {vs : Array Value} {Q : Unit → Shared → Prop} (ho : s.heap.get? it = some o) (hc : o.cls = .type n) (hd : o.data = .fields vs)
    (hn : ["enumerate", "zip", "dict_itemiterator", "dict_reverseitemiterator", "odict_iterator", "itertools.zip_longest", "itertools.pairwise"].contains n = false) (hQ : Q () s) : wpAny M A (letOwnedTupleGo tg (.ref it) u) Q E s := by
  unfold letOwnedTupleGo
  cases tg <;> first
    | exact wpAny_pure hQ
    | (cases u <;> first
        | exact wpAny_pure hQ
        | (refine wpAny_bind (wpAny_load ho ?_)
           rw [hc, hd]
           show wpAny M A (if (["enumerate", "zip", "dict_itemiterator", "dict_reverseitemiterator", "odict_iterator", "itertools.zip_longest", "itertools.pairwise"].contains n && vs[0]? == some (rawInt _)) = true then _ else _) Q E s
           rw [if_neg (by intro h; rw [hn, Bool.false_and] at h; cases h)]
           exact wpAny_pure hQ))

/-- the list at a, as it stands at each turn (a loop may append to it) -/
def Itl (K : PySem.W.Frag) (a : Addr) : It :=
  ⟨fun i H => ∃ xs x, SqL K H a xs ∧ xs[i]? = some x, fun i H x H' => H' = H ∧ ∀ xs, SqL K H a xs → xs[i]? = some x, fun i H => ∃ xs, SqL K H a xs ∧ xs.length ≤ i⟩
def Itt (K : PySem.W.Frag) (a : Addr) : It :=
  ⟨fun i H => ∃ xs x, SqT K H a xs ∧ xs[i]? = some x, fun i H x H' => H' = H ∧ ∀ xs, SqT K H a xs → xs[i]? = some x, fun i H => ∃ xs, SqT K H a xs ∧ xs.length ≤ i⟩
/-- lo, lo + 1, .. (n of them) -/
def Itr (lo : Int) (n : Nat) : It := ⟨fun i _ => i < n, fun i H x H' => H' = H ∧ x = .int (lo + i), fun i _ => n ≤ i⟩
theorem turn_list {P : Program} {w : World} {K : PySem.W.Frag} {tg : Expr} (a it : Addr) : Turn P w K tg (Itl K a) [it] it (fun i h => h.IsListIter it a i) where
  mem := by simp
  obj := fun i h st b hb => by
    have e : b = it := by simpa using hb
    subst e
    obtain ⟨o, e, c, d⟩ := st
    exact ⟨o, e, fun v z => by rw [d] at z; cases z⟩
  keep := fun i h h' st k => st.at fun o e => k it (by simp) o e
  item := by
    intro X hP hw hK hc i pins s σ H E I hf st hg
    subst hP hw hK
    obtain ⟨xs, x, hq, hx⟩ := hg
    obtain ⟨its, rv, p, hz⟩ := I.list hq
    obtain ⟨u, hu, ru⟩ := rv.get hx
    obtain ⟨f0, f1, f2, f3, f4, f5⟩ := hf it (by simp)
    refine wpAny_pyNext_list_item st p.isList (x := u) (by simpa using hu) fun h' st' sb => ?_
    have I1 : Inv X pins σ H { s with heap := h' } := I.turned (t' := s.toks) (fun b o hb e => (sb.2 b hb).trans e) f0 f1 f3 f4 f5
    obtain ⟨o, e, c, d⟩ := id st'
    exact ⟨u, rfl, go_of (s := { s with heap := h' }) e c d (by decide) ⟨x, H, I1, ru, ⟨rfl, fun ys hy => by rw [I.list_inj hy hq]; exact hx⟩, st', fun b hb => (hf b hb).1⟩⟩
  done := by
    intro X hP hw hK hc i pins s σ H E I hf st hg
    subst hP hw hK
    obtain ⟨xs, hq, hx⟩ := hg
    obtain ⟨its, rv, p, hz⟩ := I.list hq
    obtain ⟨f0, f1, f2, f3, f4, f5⟩ := hf it (by simp)
    have hl := rv.length
    exact wpAny_pyNext_list_end (I.ok.hd hc) st p.isList (by simp; omega) fun h' eb => ⟨rfl, I.turned (t' := s.toks) (fun b o hb e => eb b o hb e) f0 f1 f3 f4 f5⟩
  self := fun _ _ _ _ _ st h => wpAny_pyIter_listiter st h
theorem turn_tuple {P : Program} {w : World} {K : PySem.W.Frag} {tg : Expr} (a it : Addr) : Turn P w K tg (Itt K a) [it] it (fun i h => h.IsTupleIter it a i) where
  mem := by simp
  obj := fun i h st b hb => by
    have e : b = it := by simpa using hb
    subst e
    obtain ⟨o, e, c, d⟩ := st
    exact ⟨o, e, fun v z => by rw [d] at z; cases z⟩
  keep := fun i h h' st k => st.at fun o e => k it (by simp) o e
  item := by
    intro X hP hw hK hc i pins s σ H E I hf st hg
    subst hP hw hK
    obtain ⟨xs, x, hq, hx⟩ := hg
    obtain ⟨its, rv, p, hz⟩ := I.tuple hq
    obtain ⟨u, hu, ru⟩ := rv.get hx
    obtain ⟨f0, f1, f2, f3, f4, f5⟩ := hf it (by simp)
    refine wpAny_pyNext_tuple_item st (show s.heap.IsTuple a its.toArray from p) (x := u) (by simpa using hu) fun h' st' sb => ?_
    have I1 : Inv X pins σ H { s with heap := h' } := I.turned (t' := s.toks) (fun b o hb e => (sb.2 b hb).trans e) f0 f1 f3 f4 f5
    obtain ⟨o, e, c, d⟩ := id st'
    exact ⟨u, rfl, go_of (s := { s with heap := h' }) e c d (by decide) ⟨x, H, I1, ru, ⟨rfl, fun ys hy => by rw [I.tuple_inj hy hq]; exact hx⟩, st', fun b hb => (hf b hb).1⟩⟩
  done := by
    intro X hP hw hK hc i pins s σ H E I hf st hg
    subst hP hw hK
    obtain ⟨xs, hq, hx⟩ := hg
    obtain ⟨its, rv, p, hz⟩ := I.tuple hq
    obtain ⟨f0, f1, f2, f3, f4, f5⟩ := hf it (by simp)
    have hl := rv.length
    exact wpAny_pyNext_tuple_end (I.ok.hd hc) st (show s.heap.IsTuple a its.toArray from p) (by simp; omega) fun h' eb => ⟨rfl, I.turned (t' := s.toks) (fun b o hb e => eb b o hb e) f0 f1 f3 f4 f5⟩
  self := fun _ _ _ _ _ st h => wpAny_pyIter_tupleiter st h
theorem turn_range {P : Program} {w : World} {K : PySem.W.Frag} {tg : Expr} (it : Addr) (lo : Int) (n : Nat) : Turn P w K tg (Itr lo n) [it] it (fun i h => IsRangeIter h it (lo + (i : Nat) * 1) ((n : Int) - (i : Nat)) 1) where
  mem := by simp
  obj := fun i h st b hb => by
    have e : b = it := by simpa using hb
    subst e
    exact ⟨_, st, fun v z => by
      have z' : Data.fields _ = Data.cell v := z
      cases z'⟩
  keep := fun i h h' st k => k it (by simp) _ st
  item := by
    intro X hP hw hK hc i pins s σ H E I hf st hg
    subst hP hw hK
    obtain ⟨f0, f1, f2, f3, f4, f5⟩ := hf it (by simp)
    have W := Walks.range (prog := X.prog) (w := X.w) (I.ok.hd hc) it lo 1 n
    refine W.item i s _ _ hg st fun v h' tk hv st' kk => ?_
    obtain ⟨t, rfl⟩ := hv
    have I1 : Inv X pins σ H { s with heap := h', toks := tk } := I.turned (fun b o hb e => kk b o (by simpa using hb) e) f0 f1 f3 f4 f5
    refine ⟨_, rfl, go_of (s := { s with heap := h', toks := tk }) (n := "range_iterator") st' rfl rfl (by decide) ⟨.int (lo + i), H, I1, ⟨t, ?_⟩, ⟨rfl, rfl⟩, st', fun b hb => (hf b hb).1⟩⟩
    rw [Int.mul_one]
  done := by
    intro X hP hw hK hc i pins s σ H E I hf st hg
    subst hP hw hK
    obtain ⟨f0, f1, f2, f3, f4, f5⟩ := hf it (by simp)
    exact wpAny_pyNext_range_end (I.ok.hd hc) st (by have : n ≤ i := hg; omega) fun h' eb => ⟨rfl, I.turned (t' := s.toks) (fun b o hb e => eb b o hb e) f0 f1 f3 f4 f5⟩
  self := fun _ _ _ _ _ st h => wpAny_pyIter_rangeiter st h
end L2

namespace L2
open PySem PySem.Spec PyProof.Rows
section
variable {X : Cx} {tg : Expr}
def iList (K : PySem.W.Frag) (tl : TE) : TI := fun σ H R => tl σ H fun x H1 => ∃ a, x = .ref a ∧ (∃ xs, SqL K H1 a xs) ∧ R (Itl K a) H1
def iTup (K : PySem.W.Frag) (tl : TE) : TI := fun σ H R => tl σ H fun x H1 => ∃ a, x = .ref a ∧ (∃ xs, SqT K H1 a xs) ∧ R (Itt K a) H1
theorem pi_list {l : Expr} {tl : TE} (hl : PE X l tl) : PI X tg l (iList X.K tl) := by
  intro pins s σ H R I h
  refine thn (hl pins s σ H _ I h) fun v s1 ⟨x, H1, I1, r1, q1⟩ => ?_
  obtain ⟨a, e, ⟨xs, hq⟩, q⟩ := q1
  subst e
  cases r1
  obtain ⟨its, rv, p, hz⟩ := I1.list hq
  refine wpAny_pyIter_list p.isList ?_
  refine ⟨s1.heap.objs.size, [s1.heap.objs.size], _, _, H1, rfl, I1.kept (t' := s1.toks) fun b o e => Heap.get?_push_of_some _ e, turn_list a _, ⟨_, Heap.get?_push_size _ rfl, rfl, rfl⟩, fun b hb => ?_, q⟩
  have e : b = s1.heap.objs.size := by simpa using hb
  subst e
  exact I1.fpOk (Nat.le_refl _) (I1.hok.fresh (Nat.le_refl _))
theorem pi_tup {l : Expr} {tl : TE} (hl : PE X l tl) : PI X tg l (iTup X.K tl) := by
  intro pins s σ H R I h
  refine thn (hl pins s σ H _ I h) fun v s1 ⟨x, H1, I1, r1, q1⟩ => ?_
  obtain ⟨a, e, ⟨xs, hq⟩, q⟩ := q1
  subst e
  cases r1
  obtain ⟨its, rv, p, hz⟩ := I1.tuple hq
  refine wpAny_pyIter_tuple (show s1.heap.IsTuple a its.toArray from p) ?_
  refine ⟨s1.heap.objs.size, [s1.heap.objs.size], _, _, H1, rfl, I1.kept (t' := s1.toks) fun b o e => Heap.get?_push_of_some _ e, turn_tuple a _, ⟨_, Heap.get?_push_size _ rfl, rfl, rfl⟩, fun b hb => ?_, q⟩
  have e : b = s1.heap.objs.size := by simpa using hb
  subst e
  exact I1.fpOk (Nat.le_refl _) (I1.hok.fresh (Nat.le_refl _))
/-- a range object just made, walked -/
theorem range_it {pins : List (Addr × Obj)} {σ : St} {H : Hp} {s : Shared} {R : It → Hp → Prop} {E : Value → Shared → Prop} {lo hi : Int} {t u v : Tok} {tk : Nat} (I : Inv X pins σ H s) (h1 : -(2 ^ 62) ≤ lo) (h2 : lo < 2 ^ 62) (h3 : -(2 ^ 62) ≤ hi) (h4 : hi < 2 ^ 62)
    (q : R (Itr lo (hi - lo).toNat) H) : wpAny (model X.prog X.w) X.A (pyIter (.ref s.heap.objs.size)) (PIE X pins σ tg R) E { s with heap := s.heap.push { cls := .type "range", data := .fields #[.int lo t, .int hi u, .int 1 v] }, toks := tk } := by
  refine wpAny_pyIter_range (IsRange.new ..) (small_one h1 h2 h3 h4) ?_
  have I1 : Inv X pins σ H { s with heap := s.heap.push { cls := .type "range", data := .fields #[.int lo t, .int hi u, .int 1 v] }, toks := tk } := I.kept fun b o e => Heap.get?_push_of_some _ e
  refine ⟨(s.heap.push { cls := .type "range", data := .fields #[.int lo t, .int hi u, .int 1 v] }).objs.size, [(s.heap.push { cls := .type "range", data := .fields #[.int lo t, .int hi u, .int 1 v] }).objs.size], _, _, H, rfl,
    I1.kept (t' := tk) fun b o e => Heap.get?_push_of_some _ e, turn_range _ lo (hi - lo).toNat, ?_, fun b hb => ?_, q⟩
  · have e1 : lo + ((0 : Nat) : Int) * 1 = lo := by simp
    have e2 : (((hi - lo).toNat : Nat) : Int) - ((0 : Nat) : Int) = Builtin.Range.rangeSize lo hi 1 := by rw [rangeSize_one]; split <;> omega
    show IsRangeIter _ _ (lo + ((0 : Nat) : Int) * 1) ((((hi - lo).toNat : Nat) : Int) - ((0 : Nat) : Int)) 1
    rw [e1, e2]
    exact Heap.get?_push_size _ rfl
  · have e : b = (s.heap.push { cls := .type "range", data := .fields #[.int lo t, .int hi u, .int 1 v] }).objs.size := by simpa using hb
    subst e
    exact I1.fpOk (Nat.le_refl _) (I1.hok.fresh (Nat.le_refl _))
def iRng1 (ta : TA) : TI := fun σ H R => ta σ H fun vs H1 => ∃ j : Int, vs = [.int j] ∧ -(2 ^ 62) ≤ j ∧ j < 2 ^ 62 ∧ R (Itr 0 j.toNat) H1
def iRng2 (ta : TA) : TI := fun σ H R => ta σ H fun vs H1 => ∃ i j : Int, vs = [.int i, .int j] ∧ (-(2 ^ 62) ≤ i ∧ i < 2 ^ 62 ∧ -(2 ^ 62) ≤ j ∧ j < 2 ^ 62) ∧ R (Itr i (j - i).toNat) H1
theorem pi_range1 {a : Expr} {ta : TA} {p pos : Pos} (hg : Gl X "range") (hm : X.mg "range" = none) (ha : PA X [a] ta) (hs : starEach [a] X.env = [(false, eval a X.env)] := by rfl) : PI X tg (.Call (.Name "range" p) [a] [] pos) (iRng1 ta) := by
  intro pins s σ H R I h
  refine Call_ (ld_blt I hg hm boot_range (PyProof.Rows.callWith_type1 (thn (ha pos pins s σ H _ I h) fun us s1 ⟨vs, H1, I1, r1, q1⟩ => ?_) hs rfl))
  obtain ⟨j, e, q1, q2, q⟩ := q1
  subst e
  cases r1 with
  | cons r rr =>
    cases rr
    obtain ⟨t, rfl⟩ := r
    exact call_range_1 (range_it I1 (by omega) (by omega) q1 q2 (by simpa using q))
theorem pi_range2 {a b : Expr} {ta : TA} {p pos : Pos} (hg : Gl X "range") (hm : X.mg "range" = none) (ha : PA X [a, b] ta) (hs : starEach [a, b] X.env = [(false, eval a X.env), (false, eval b X.env)] := by rfl) (hs2 : starEach [b] X.env = [(false, eval b X.env)] := by rfl) :
    PI X tg (.Call (.Name "range" p) [a, b] [] pos) (iRng2 ta) := by
  intro pins s σ H R I h
  refine Call_ (ld_blt I hg hm boot_range (PyProof.Rows.callWith_type1 (thn (ha pos pins s σ H _ I h) fun us s1 ⟨vs, H1, I1, r1, q1⟩ => ?_) (by rw [hs, hs2]) (by rw [hs2]; rfl)))
  obtain ⟨i, j, e, ⟨q1, q2, q3, q4⟩, q⟩ := q1
  subst e
  cases r1 with
  | cons r rr =>
    cases rr with
    | cons r' rr =>
      cases rr
      obtain ⟨t, rfl⟩ := r
      obtain ⟨t', rfl⟩ := r'
      exact call_range_2 (range_it I1 q1 q2 q3 q4 q)

/-! ### for -/
/-- W: the invariant by the turn and a measure; N: what the body is to reach -/
def tFor (wi : TI) (g : TG) (tb : TS) : TS := fun D σ H => wi σ H fun J H1 => ∃ W : Nat → Nat → St → Hp → Prop, (∃ m, W 0 m σ H1) ∧ ∀ i m σ H, W i m σ H →
  (J.stop i H ∧ D.nx σ H) ∨ (J.go i H ∧ ∃ N : St → Hp → Prop, (∀ σ' H', N σ' H' → ∃ m', m' < m ∧ W (i + 1) m' σ' H') ∧ ∀ x H', J.yld i H x H' → g x σ H' fun σ2 H2 => tb { D with nx := N, ct := N, bk := D.nx } σ2 H2)
/-- the records at fp as they stand -/
def pinsAt (fp : List Addr) (h : Heap) : List (Addr × Obj) := fp.filterMap fun b => (h.get? b).map fun o => (b, o)
theorem mem_pinsAt {fp : List Addr} {h : Heap} {b : Addr} {o : Obj} (hb : b ∈ fp) (e : h.get? b = some o) : (b, o) ∈ pinsAt fp h := List.mem_filterMap.mpr ⟨b, hb, by rw [e]; rfl⟩
theorem of_pinsAt {fp : List Addr} {h : Heap} {p : Addr × Obj} (hp : p ∈ pinsAt fp h) : p.1 ∈ fp ∧ h.get? p.1 = some p.2 := by
  obtain ⟨b, hb, e⟩ := List.mem_filterMap.mp hp
  cases q : h.get? b with
  | none => rw [q] at e; cases e
  | some o =>
    rw [q] at e
    have e' : (b, o) = p := Option.some.inj e
    subst e'
    exact ⟨hb, q⟩
theorem Inv.pinned {pins : List (Addr × Obj)} {σ : St} {H : Hp} {s : Shared} {fp : List Addr} (I : Inv X pins σ H s) (hf : ∀ b ∈ fp, FpOk X pins H b) (ho : ∀ b ∈ fp, ∃ o, s.heap.get? b = some o ∧ ∀ v, o.data ≠ .cell v) : Inv X (pins ++ pinsAt fp s.heap) σ H s :=
  I.pins_of fun p hp => (List.mem_append.mp hp).elim (fun z => I.pin p (List.mem_append_right _ z)) fun z => by
    obtain ⟨hb, e⟩ := of_pinsAt z
    obtain ⟨f0, f1, f2, _⟩ := hf p.1 hb
    obtain ⟨o, e', d⟩ := ho p.1 hb
    rw [e] at e'; cases e'
    exact ⟨e, f0, f1, f2, d⟩
theorem Inv.unpinned {pins pl : List (Addr × Obj)} {σ : St} {H : Hp} {s : Shared} (I : Inv X (pins ++ pl) σ H s) : Inv X pins σ H s := I.pins_of fun p hp => I.pin p (List.mem_append_right _ (List.mem_append_left _ hp))
theorem ps_for {iter : Expr} {body : List Stmt} {wi : TI} {g : TG} {tb : TS} {pos : Pos} (hp : PassesOwn (model X.prog X.w) X.A X.env X.xe) (hc : X.calm = true) (hi : PI X tg iter wi) (hg : PG X tg g) (hb : PSs X body tb)
    (hs : ∀ x, foldedSetIterable iter X.env x = pure x := by intro _; rfl) : PS X (.For tg iter body [] pos) (tFor wi g tb) := by
  intro pins s σ H D I h
  refine wpAny_For (thn (hi pins s σ H _ I h) fun v s1 h1 => thn h1 fun itv s2 h2 => ?_) hs
  obtain ⟨it, fp, tn, J, H2, e, I2, T, st2, f2, W, ⟨m0, w0⟩, turn⟩ := h2
  subst e
  -- what stays true of the iterator's objects through the loop
  have stat : ∀ {H' : Hp}, (∀ b ∈ fp, H' b = none) → ∀ b ∈ fp, FpOk X pins H' b := fun hn b hb => ⟨hn b hb, (f2 b hb).2⟩
  refine codeAny_forLoop_any (fun n s' => ∃ i σ' H', Inv X pins σ' H' s' ∧ tn i s'.heap ∧ (∀ b ∈ fp, H' b = none) ∧ W i n σ' H') ?_ m0 ⟨0, σ, H2, I2, st2, fun b hb => (f2 b hb).1, w0⟩
  rintro n s3 ⟨i, σ3, H3, I3, st3, fr3, w3⟩
  rcases turn i n σ3 H3 w3 with ⟨stop, qn⟩ | ⟨go, N, hN, step⟩
  · refine wpAny_passesOwn hp (thn (T.done X rfl rfl rfl hc i pins s3 σ3 H3 X.xe I3 (stat fr3) st3 stop) fun r s4 ⟨hr, I4⟩ => ?_)
    subst hr
    exact wpAny_execs_nil ⟨σ3, H3, I4, qn⟩
  · refine wpAny_passesOwn hp (thn (T.item X rfl rfl rfl hc i pins s3 σ3 H3 X.xe I3 (stat fr3) st3 go) fun r s4 ⟨u, hr, h4⟩ => ?_)
    subst hr
    refine wpAny_passesOwn hp (thn h4 fun _ s5 ⟨x, H5, I5, r5, y5, st5, fr5⟩ => ?_)
    have I5' := I5.pinned (stat fr5) (T.obj _ _ st5)
    refine wpAny_passesOwn hp (thn (hg _ s5 σ3 H5 x u _ I5' r5 (step x H5 y5)) fun _ s6 ⟨σ6, H6, I6, q6⟩ => ?_)
    refine wpAny_passesOwn hp (thn (hb _ s6 σ6 H6 _ I6 q6) fun f s7 q7 => ?_)
    have again : ∀ {σ7 : St} {H7 : Hp}, Inv X (pins ++ pinsAt fp s5.heap) σ7 H7 s7 → N σ7 H7 → ∃ m, m < n ∧ ∃ i σ' H', Inv X pins σ' H' s7 ∧ tn i s7.heap ∧ (∀ b ∈ fp, H' b = none) ∧ W i m σ' H' := fun {σ7 H7} I7 n7 => by
      obtain ⟨m', hm, w7⟩ := hN σ7 H7 n7
      refine ⟨m', hm, i + 1, σ7, H7, I7.unpinned, T.keep _ _ _ st5 fun b hb o e => (I7.pin (b, o) (List.mem_append_right _ (List.mem_append_right _ (mem_pinsAt hb e)))).1, fun b hb => ?_, w7⟩
      obtain ⟨o, e, d⟩ := T.obj _ _ st5 b hb
      exact (I7.pin (b, o) (List.mem_append_right _ (List.mem_append_right _ (mem_pinsAt hb e)))).2.1
    cases f with
    | next => obtain ⟨σ7, H7, I7, n7⟩ := q7; exact again I7 n7
    | cont => obtain ⟨σ7, H7, I7, n7⟩ := q7; exact again I7 n7
    | brk => obtain ⟨σ7, H7, I7, q7⟩ := q7; exact ⟨σ7, H7, I7.unpinned, q7⟩
    | ret v => obtain ⟨x7, σ7, H7, I7, r7, q7⟩ := q7; exact ⟨x7, σ7, H7, I7.unpinned, r7, q7⟩
end

/-! ### the forms one uses -/
/-- over a list that the body leaves as it is -/
theorem for_list {K : PySem.W.Frag} {a : Addr} {xs : List V} {g : TG} {tb : TS} {D : Ends} {σ : St} {H : Hp} (Pv : Nat → St → Hp → Prop) (h0 : Pv 0 σ H) (hl : ∀ i σ H, i ≤ xs.length → Pv i σ H → SqL K H a xs)
    (hs : ∀ i x σ H, xs[i]? = some x → Pv i σ H → g x σ H fun σ2 H2 => tb { D with nx := Pv (i + 1), ct := Pv (i + 1), bk := D.nx } σ2 H2) (hd : ∀ σ H, Pv xs.length σ H → D.nx σ H) :
    ∃ W : Nat → Nat → St → Hp → Prop, (∃ m, W 0 m σ H) ∧ ∀ i m σ H, W i m σ H →
      ((Itl K a).stop i H ∧ D.nx σ H) ∨ ((Itl K a).go i H ∧ ∃ N : St → Hp → Prop, (∀ σ' H', N σ' H' → ∃ m', m' < m ∧ W (i + 1) m' σ' H') ∧ ∀ x H', (Itl K a).yld i H x H' → g x σ H' fun σ2 H2 => tb { D with nx := N, ct := N, bk := D.nx } σ2 H2) := by
  refine ⟨fun i m σ H => m = xs.length - i ∧ i ≤ xs.length ∧ Pv i σ H, ⟨xs.length, by simp, Nat.zero_le _, h0⟩, ?_⟩
  rintro i m σ H ⟨rfl, hi, p⟩
  have q := hl i σ H hi p
  by_cases hlt : i < xs.length
  · refine .inr ⟨⟨xs, xs[i], q, by simp [hlt]⟩, Pv (i + 1), fun σ' H' p' => ⟨xs.length - (i + 1), by omega, rfl, hlt, p'⟩, fun x H' y => ?_⟩
    obtain ⟨e, y⟩ := y
    subst e
    exact hs i x σ _ (y xs q) p
  · have e : i = xs.length := by omega
    subst e
    exact .inl ⟨⟨xs, q, Nat.le_refl _⟩, hd σ H p⟩
theorem for_tup {K : PySem.W.Frag} {a : Addr} {xs : List V} {g : TG} {tb : TS} {D : Ends} {σ : St} {H : Hp} (Pv : Nat → St → Hp → Prop) (h0 : Pv 0 σ H) (hl : ∀ i σ H, i ≤ xs.length → Pv i σ H → SqT K H a xs)
    (hs : ∀ i x σ H, xs[i]? = some x → Pv i σ H → g x σ H fun σ2 H2 => tb { D with nx := Pv (i + 1), ct := Pv (i + 1), bk := D.nx } σ2 H2) (hd : ∀ σ H, Pv xs.length σ H → D.nx σ H) :
    ∃ W : Nat → Nat → St → Hp → Prop, (∃ m, W 0 m σ H) ∧ ∀ i m σ H, W i m σ H →
      ((Itt K a).stop i H ∧ D.nx σ H) ∨ ((Itt K a).go i H ∧ ∃ N : St → Hp → Prop, (∀ σ' H', N σ' H' → ∃ m', m' < m ∧ W (i + 1) m' σ' H') ∧ ∀ x H', (Itt K a).yld i H x H' → g x σ H' fun σ2 H2 => tb { D with nx := N, ct := N, bk := D.nx } σ2 H2) := by
  refine ⟨fun i m σ H => m = xs.length - i ∧ i ≤ xs.length ∧ Pv i σ H, ⟨xs.length, by simp, Nat.zero_le _, h0⟩, ?_⟩
  rintro i m σ H ⟨rfl, hi, p⟩
  have q := hl i σ H hi p
  by_cases hlt : i < xs.length
  · refine .inr ⟨⟨xs, xs[i], q, by simp [hlt]⟩, Pv (i + 1), fun σ' H' p' => ⟨xs.length - (i + 1), by omega, rfl, hlt, p'⟩, fun x H' y => ?_⟩
    obtain ⟨e, y⟩ := y
    subst e
    exact hs i x σ _ (y xs q) p
  · have e : i = xs.length := by omega
    subst e
    exact .inl ⟨⟨xs, q, Nat.le_refl _⟩, hd σ H p⟩
theorem for_range {lo : Int} {n : Nat} {g : TG} {tb : TS} {D : Ends} {σ : St} {H : Hp} (Pv : Nat → St → Hp → Prop) (h0 : Pv 0 σ H)
    (hs : ∀ i σ H, i < n → Pv i σ H → g (.int (lo + i)) σ H fun σ2 H2 => tb { D with nx := Pv (i + 1), ct := Pv (i + 1), bk := D.nx } σ2 H2) (hd : ∀ σ H, Pv n σ H → D.nx σ H) :
    ∃ W : Nat → Nat → St → Hp → Prop, (∃ m, W 0 m σ H) ∧ ∀ i m σ H, W i m σ H →
      ((Itr lo n).stop i H ∧ D.nx σ H) ∨ ((Itr lo n).go i H ∧ ∃ N : St → Hp → Prop, (∀ σ' H', N σ' H' → ∃ m', m' < m ∧ W (i + 1) m' σ' H') ∧ ∀ x H', (Itr lo n).yld i H x H' → g x σ H' fun σ2 H2 => tb { D with nx := N, ct := N, bk := D.nx } σ2 H2) := by
  refine ⟨fun i m σ H => m = n - i ∧ i ≤ n ∧ Pv i σ H, ⟨n, by simp, Nat.zero_le _, h0⟩, ?_⟩
  rintro i m σ H ⟨rfl, hi, p⟩
  by_cases hlt : i < n
  · refine .inr ⟨hlt, Pv (i + 1), fun σ' H' p' => ⟨n - (i + 1), by omega, rfl, hlt, p'⟩, fun x H' y => ?_⟩
    obtain ⟨e, y⟩ := y
    subst e y
    exact hs i σ _ hlt p
  · have e : i = n := by omega
    subst e
    exact .inl ⟨Nat.le_refl _, hd σ H p⟩
/-- while, by a word and a measure of the state -/
theorem while_by {c : TT} {tb : TS} {D : Ends} {σ : St} {H : Hp} (Pv : St → Hp → Prop) (μ : St → Hp → Nat) (h0 : Pv σ H)
    (hs : ∀ σ H, Pv σ H → c σ H fun b H1 => if b = true then tb { D with nx := fun σ' H' => Pv σ' H' ∧ μ σ' H' < μ σ H, ct := fun σ' H' => Pv σ' H' ∧ μ σ' H' < μ σ H, bk := D.nx } σ H1 else D.nx σ H1)
    (mono : ∀ σ H Q Q', (∀ b H1, Q b H1 → Q' b H1) → c σ H Q → c σ H Q') : tWhile c tb D σ H := by
  refine ⟨fun m σ H => m = μ σ H ∧ Pv σ H, ⟨_, rfl, h0⟩, ?_⟩
  rintro m σ H ⟨rfl, p⟩
  refine mono σ H _ _ (fun b H1 q => ?_) (hs σ H p)
  cases b with
  | true => exact ⟨_, fun σ' H' ⟨p', l⟩ => ⟨_, l, rfl, p'⟩, q⟩
  | false => exact q
end L2

namespace L2
open PySem PySem.Spec PyProof.Rows

abbrev R2 := V → V → Hp → VK → Prop
/-- a two-place operation on values: f is binaryOp op, inplaceOp op or compareOp op -/
def OpR (X : Cx) (f : Value → Value → Sem Value) (r : R2) : Prop :=
  ∀ (pins : List (Addr × Obj)) (s : Shared) (σ : St) (H : Hp) (x y : V) (v u : Value) (Q : VK), Inv X pins σ H s → RelV x v → RelV y u → r x y H Q →
    wpAny (model X.prog X.w) X.A (f v u) (EP X pins σ Q) X.xe s
/-- a one-place operation -/
def UnR (X : Cx) (f : Value → Sem Value) (r : V → Hp → VK → Prop) : Prop :=
  ∀ (pins : List (Addr × Obj)) (s : Shared) (σ : St) (H : Hp) (x : V) (v : Value) (Q : VK), Inv X pins σ H s → RelV x v → r x H Q →
    wpAny (model X.prog X.w) X.A (f v) (EP X pins σ Q) X.xe s
/-- a call of a value that is known (a builtin, a type) with values -/
def CallR (X : Cx) (f : Value) (r : List V → Hp → VK → Prop) : Prop :=
  ∀ (pins : List (Addr × Obj)) (s : Shared) (σ : St) (H : Hp) (xs : List V) (us : List Value) (Q : VK), Inv X pins σ H s → Vals xs us → r xs H Q →
    wpAny (model X.prog X.w) X.A (call f us) (EP X pins σ Q) X.xe s
/-- a value's truth -/
def TruR (X : Cx) (r : V → Hp → (Bool → Hp → Prop) → Prop) : Prop :=
  ∀ (pins : List (Addr × Obj)) (s : Shared) (σ : St) (H : Hp) (x : V) (v : Value) (Q : Bool → Hp → Prop), Inv X pins σ H s → RelV x v → r x H Q →
    wpAny (model X.prog X.w) X.A (truthy v) (TP X pins σ Q) X.xe s

def tOp (r : R2) (ta tb : TE) : TE := fun σ H Q => ta σ H fun x H1 => tb σ H1 fun y H2 => r x y H2 Q
def tUn (r : V → Hp → VK → Prop) (ta : TE) : TE := fun σ H Q => ta σ H fun x H1 => r x H1 Q
/-- ints in, under C, and a value out -/
def rI (C : Int → Int → Prop) (g : Int → Int → V) : R2 := fun x y H Q => ∃ i j, x = .int i ∧ y = .int j ∧ C i j ∧ Q (g i j) H
def rI0 (g : Int → Int → V) : R2 := fun x y H Q => ∃ i j, x = .int i ∧ y = .int j ∧ Q (g i j) H
def rU (g : Int → V) : V → Hp → VK → Prop := fun x H Q => ∃ i, x = .int i ∧ Q (g i) H

section
variable {X : Cx} {a b c : Expr} {ta tb tc : TE} {pos : Pos}

theorem binT (ha : PE X a ta) (hb : PE X b tb) {pins : List (Addr × Obj)} {s : Shared} {σ : St} {H : Hp} {R : V → V → Hp → Prop} (I : Inv X pins σ H s)
    (h : ta σ H fun x H1 => tb σ H1 fun y H2 => R x y H2) {Q : Value → Shared → Prop} {f : Value → Value → Sem Value}
    (hf : ∀ v u s2 x y H2, Inv X pins σ H2 s2 → RelV x v → RelV y u → R x y H2 → wpAny (model X.prog X.w) X.A (f v u) Q X.xe s2) :
    wpAny (model X.prog X.w) X.A (eval a X.env) (fun v s₁ => wpAny (model X.prog X.w) X.A (eval b X.env) (fun u s₂ => wpAny (model X.prog X.w) X.A (f v u) Q X.xe s₂) X.xe s₁) X.xe s := by
  refine thn (ha pins s σ H _ I h) fun v s1 ⟨x, H1, I1, r1, q1⟩ => ?_
  refine thn (hb pins s1 σ H1 _ I1 q1) fun u s2 ⟨y, H2, I2, r2, q2⟩ => ?_
  exact hf v u s2 x y H2 I2 r1 r2 q2

theorem pe_op {op : Operator} {r : R2} (ho : OpR X (binaryOp op) r) (ha : PE X a ta) (hb : PE X b tb) : PE X (.BinOp a op b pos) (tOp r ta tb) := by
  intro pins s σ H Q I h
  exact wpAny_BinOp (binT ha hb I h fun v u s2 x y H2 I2 rx ry q => ho pins s2 σ H2 x y v u Q I2 rx ry q)
theorem pe_un {op : UnaryOp} {r : V → Hp → VK → Prop} (ho : UnR X (unaryOp op) r) (ha : PE X a ta) : PE X (.UnaryOp op a pos) (tUn r ta) := by
  intro pins s σ H Q I h
  exact UnaryOp_ (thn (ha pins s σ H _ I h) fun v s1 ⟨x, H1, I1, r1, q1⟩ => ho pins s1 σ H1 x v Q I1 r1 q1)
/-- a op= e at a name: the name's slot i -/
theorem augR {op : Operator} {r : R2} (ho : OpR X (inplaceOp op) r) {pins : List (Addr × Obj)} {s : Shared} {σ : St} {H : Hp} {x y : V} {v u : Value} {Q : VK} (I : Inv X pins σ H s)
    (rx : RelV x v) (ry : RelV y u) (q : r x y H Q) : wpAny (model X.prog X.w) X.A (inplaceOp op v u) (EP X pins σ Q) X.xe s := ho pins s σ H x y v u Q I rx ry q

/-! ### ints -/
theorem opI {f : Value → Value → Sem Value} {C : Int → Int → Prop} {g : Int → Int → Int}
    (rule : ∀ (i j : Int) (t u : Tok) (s : Shared) (Q : Value → Shared → Prop) (E : Value → Shared → Prop), C i j → Q (.int (g i j) s.toks) { s with toks := s.toks + 1 } → wpAny (model X.prog X.w) X.A (f (.int i t) (.int j u)) Q E s) :
    OpR X f (rI C fun i j => .int (g i j)) := by
  intro pins s σ H x y v u Q I rx ry h
  obtain ⟨i, j, rfl, rfl, hc, q⟩ := h
  obtain ⟨t, rfl⟩ := rx
  obtain ⟨t', rfl⟩ := ry
  exact rule i j t t' s _ _ hc ⟨.int (g i j), H, I.tok _, ⟨_, rfl⟩, q⟩
theorem opI0 {f : Value → Value → Sem Value} {g : Int → Int → Int}
    (rule : ∀ (i j : Int) (t u : Tok) (s : Shared) (Q : Value → Shared → Prop) (E : Value → Shared → Prop), Q (.int (g i j) s.toks) { s with toks := s.toks + 1 } → wpAny (model X.prog X.w) X.A (f (.int i t) (.int j u)) Q E s) :
    OpR X f (rI0 fun i j => .int (g i j)) := by
  intro pins s σ H x y v u Q I rx ry h
  obtain ⟨i, j, rfl, rfl, q⟩ := h
  obtain ⟨t, rfl⟩ := rx
  obtain ⟨t', rfl⟩ := ry
  exact rule i j t t' s _ _ ⟨.int (g i j), H, I.tok _, ⟨_, rfl⟩, q⟩
theorem opB0 {f : Value → Value → Sem Value} {g : Int → Int → Bool}
    (rule : ∀ (i j : Int) (t u : Tok) (s : Shared) (Q : Value → Shared → Prop) (E : Value → Shared → Prop), Q (.bool (g i j)) s → wpAny (model X.prog X.w) X.A (f (.int i t) (.int j u)) Q E s) :
    OpR X f (rI0 fun i j => .bl (g i j)) := by
  intro pins s σ H x y v u Q I rx ry h
  obtain ⟨i, j, rfl, rfl, q⟩ := h
  obtain ⟨t, rfl⟩ := rx
  obtain ⟨t', rfl⟩ := ry
  exact rule i j t t' s _ _ ⟨.bl (g i j), H, I, rfl, q⟩

def CDiv (i j : Int) : Prop := 0 < j ∧ j < 1073741824
def CDivN (i j : Int) : Prop := j ≠ 0 ∧ j.natAbs < 1073741824
def CPow (i j : Int) : Prop := 0 ≤ j ∧ j ≤ 1000000 ∧ i.natAbs < 2 ^ 64
def CMul (i j : Int) : Prop := (-(2 ^ 64) < i ∧ i < 2 ^ 64) ∨ (-(2 ^ 64) < j ∧ j < 2 ^ 64)
theorem CMul.ok {i j : Int} (h : CMul i j) : IntMulOk i j := by
  rcases h with ⟨h1, h2⟩ | ⟨h1, h2⟩
  · exact .of_left (intBits_le_64 h1 h2)
  · exact .of_right (intBits_le_64 h1 h2)
theorem two_pow_nn (k : Nat) : (0 : Int) ≤ 2 ^ k := by
  rw [two_pow_cast]
  exact Int.natCast_nonneg _

theorem op_add : OpR X (binaryOp .Add) (rI0 fun i j => .int (i + j)) := opI0 fun _ _ _ _ _ _ _ q => add_int q
theorem op_sub : OpR X (binaryOp .Sub) (rI0 fun i j => .int (i - j)) := opI0 fun _ _ _ _ _ _ _ q => sub_int q
theorem op_mul : OpR X (binaryOp .Mult) (rI CMul fun i j => .int (i * j)) := opI fun _ _ _ _ _ _ _ hc q => mul_int q hc.ok
/-- // by a positive divisor -/
theorem op_fdiv : OpR X (binaryOp .FloorDiv) (rI CDiv fun i j => .int (i / j)) := opI fun i j _ _ _ _ _ hc q => by
  have h1 : (0 : Int) < j := hc.1
  have h2 : j < 1073741824 := hc.2
  exact floordiv_int (by omega) (by rw [Int.fdiv_eq_ediv_of_nonneg i (by omega)]; exact q) (.inl (PyProof.noPylong_small (by omega)))
theorem op_fdivN : OpR X (binaryOp .FloorDiv) (rI CDivN fun i j => .int (i.fdiv j)) := opI fun _ _ _ _ _ _ _ hc q => floordiv_int hc.1 q (.inl (PyProof.noPylong_small hc.2))
/-- % by a positive divisor of any size -/
theorem op_mod : OpR X (binaryOp .Mod) (rI (fun _ j => 0 < j) fun i j => .int (i % j)) := opI fun i j _ _ _ _ _ hc q => by
  have h1 : (0 : Int) < j := hc
  exact mod_int' (by omega) (by rw [Int.fmod_eq_emod_of_nonneg i (by omega)]; exact q)
theorem op_modN : OpR X (binaryOp .Mod) (rI (fun _ j => j ≠ 0) fun i j => .int (i.fmod j)) := opI fun _ _ _ _ _ _ _ hc q => mod_int' hc q
theorem op_pow : OpR X (binaryOp .Pow) (rI CPow fun i j => .int (i ^ j.toNat)) := opI fun _ _ _ _ _ _ _ hc q => pow_int_small hc.1 hc.2.1 hc.2.2 q
theorem op_shl : OpR X (binaryOp .LShift) (rI CPow fun i j => .int (i * 2 ^ j.toNat)) := opI fun _ _ _ _ _ _ _ hc q => lshift_int_small hc.1 hc.2.1 hc.2.2 q
theorem op_shr : OpR X (binaryOp .RShift) (rI (fun _ j => 0 ≤ j) fun i j => .int (i / 2 ^ j.toNat)) := opI fun i j _ _ _ _ _ hc q =>
  rshift_int hc (by rw [Int.fdiv_eq_ediv_of_nonneg i (two_pow_nn _)]; exact q)
theorem op_and : OpR X (binaryOp .BitAnd) (rI0 fun i j => .int (Builtin.bitAnd i j)) := opI0 fun _ _ _ _ _ _ _ q => and_int q
theorem op_or : OpR X (binaryOp .BitOr) (rI0 fun i j => .int (Builtin.bitOr i j)) := opI0 fun _ _ _ _ _ _ _ q => or_int q
theorem op_xor : OpR X (binaryOp .BitXor) (rI0 fun i j => .int (Builtin.bitXor i j)) := opI0 fun _ _ _ _ _ _ _ q => xor_int q

theorem iop_add : OpR X (inplaceOp .Add) (rI0 fun i j => .int (i + j)) := opI0 fun _ _ _ _ _ _ _ q => iadd_int q
theorem iop_sub : OpR X (inplaceOp .Sub) (rI0 fun i j => .int (i - j)) := opI0 fun _ _ _ _ _ _ _ q => isub_int q
theorem iop_mul : OpR X (inplaceOp .Mult) (rI CMul fun i j => .int (i * j)) := opI fun _ _ _ _ _ _ _ hc q => imul_int q hc.ok
theorem iop_fdiv : OpR X (inplaceOp .FloorDiv) (rI CDiv fun i j => .int (i / j)) := opI fun i j _ _ _ _ _ hc q => by
  have h1 : (0 : Int) < j := hc.1
  have h2 : j < 1073741824 := hc.2
  exact ifloordiv_int (by omega) (by rw [Int.fdiv_eq_ediv_of_nonneg i (by omega)]; exact q) (.inl (PyProof.noPylong_small (by omega)))
theorem iop_mod : OpR X (inplaceOp .Mod) (rI (fun _ j => 0 < j) fun i j => .int (i % j)) := opI fun i j _ _ _ _ _ hc q => by
  have h1 : (0 : Int) < j := hc
  exact imod_int (by omega) (by rw [Int.fmod_eq_emod_of_nonneg i (by omega)]; exact q)
theorem iop_shl : OpR X (inplaceOp .LShift) (rI CPow fun i j => .int (i * 2 ^ j.toNat)) := opI fun _ _ _ _ _ _ _ hc q => ilshift_int_small hc.1 hc.2.1 hc.2.2 q
theorem iop_shr : OpR X (inplaceOp .RShift) (rI (fun _ j => 0 ≤ j) fun i j => .int (i / 2 ^ j.toNat)) := opI fun i j _ _ _ _ _ hc q =>
  irshift_int hc (by rw [Int.fdiv_eq_ediv_of_nonneg i (two_pow_nn _)]; exact q)
theorem iop_and : OpR X (inplaceOp .BitAnd) (rI0 fun i j => .int (Builtin.bitAnd i j)) := opI0 fun _ _ _ _ _ _ _ q => iand_int q
theorem iop_or : OpR X (inplaceOp .BitOr) (rI0 fun i j => .int (Builtin.bitOr i j)) := opI0 fun _ _ _ _ _ _ _ q => ior_int q
theorem iop_xor : OpR X (inplaceOp .BitXor) (rI0 fun i j => .int (Builtin.bitXor i j)) := opI0 fun _ _ _ _ _ _ _ q => ixor_int q

theorem unI {f : Value → Sem Value} {g : Int → Int}
    (rule : ∀ (i : Int) (t : Tok) (s : Shared) (Q : Value → Shared → Prop) (E : Value → Shared → Prop), Q (.int (g i) s.toks) { s with toks := s.toks + 1 } → wpAny (model X.prog X.w) X.A (f (.int i t)) Q E s) :
    UnR X f (rU fun i => .int (g i)) := by
  intro pins s σ H x v Q I rx h
  obtain ⟨i, rfl, q⟩ := h
  obtain ⟨t, rfl⟩ := rx
  exact rule i t s _ _ ⟨.int (g i), H, I.tok _, ⟨_, rfl⟩, q⟩
theorem un_neg : UnR X (unaryOp .USub) (rU fun i => .int (-i)) := unI fun _ _ _ _ _ q => neg_int q
theorem un_inv : UnR X (unaryOp .Invert) (rU fun i => .int (Builtin.bitNot i)) := unI fun _ _ _ _ _ q => invert_int q

/-! ### bools among ints: n += (a < b) -/
theorem op_add_ib : OpR X (binaryOp .Add) (fun x y H Q => ∃ i k, x = .int i ∧ y = .bl k ∧ Q (.int (i + b2i k)) H) := by
  intro pins s σ H x y v u Q I rx ry h
  obtain ⟨i, k, rfl, rfl, q⟩ := h
  obtain ⟨t, rfl⟩ := rx
  cases ry
  exact add_int_bool ⟨.int (i + b2i k), H, I.tok _, ⟨_, rfl⟩, q⟩
end

/-! ### comparisons -/
/-- the scalars that == tells apart as data does -/
def scal : V → V → Bool
  | .non, .non => true | .non, .int _ => true | .int _, .non => true | .non, .bl _ => true | .bl _, .non => true | .non, .str _ => true | .str _, .non => true
  | .int _, .int _ => true | .bl _, .bl _ => true | .str _, .str _ => true | .byt _, .byt _ => true
  | .int _, .str _ => true | .str _, .int _ => true | .bl _, .str _ => true | .str _, .bl _ => true
  | _, _ => false
def rEq : R2 := fun x y H Q => scal x y = true ∧ Q (.bl (decide (x = y))) H
def rNe : R2 := fun x y H Q => scal x y = true ∧ Q (.bl (!decide (x = y))) H

theorem dec_int {i j : Int} : decide (V.int i = V.int j) = (i == j) := by
  rw [Bool.eq_iff_iff]
  simp
theorem dec_bl {i j : Bool} : decide (V.bl i = V.bl j) = (i == j) := by
  rw [Bool.eq_iff_iff]
  simp
theorem dec_str {i j : Str} : decide (V.str i = V.str j) = (i == j) := by
  rw [Bool.eq_iff_iff]
  simp
theorem dec_byt {i j : Array UInt8} : decide (V.byt i = V.byt j) = (i.toList == j.toList) := by
  rw [Bool.eq_iff_iff]
  cases i
  cases j
  simp

section
variable {X : Cx} {a b c : Expr} {ta tb tc : TE} {pos : Pos}
theorem fin_bl {pins : List (Addr × Obj)} {σ : St} {H : Hp} {s : Shared} {Q : VK} {k k' : Bool} (I : Inv X pins σ H s) (q : Q (.bl k) H) (e : k = k') : EP X pins σ Q (.bool k') s := by
  subst e
  exact ⟨.bl k, H, I, rfl, q⟩
theorem op_eq : OpR X (compareOp .Eq) rEq := by
  intro pins s σ H x y v u Q I rx ry h
  obtain ⟨hs, q⟩ := h
  cases x with
  | non =>
    cases rx
    cases y with
    | non => cases ry; exact PySem.EqNone.eq_none_none (fin_bl I q (by simp))
    | bl j => cases ry; exact PySem.EqNone.eq_none_bool (fin_bl I q (by simp))
    | int j => obtain ⟨t', rfl⟩ := ry; exact PySem.EqNone.eq_none_int (fin_bl I q (by simp))
    | str j => obtain ⟨t', rfl⟩ := ry; exact PySem.EqNone.eq_none_str (fin_bl I q (by simp))
    | _ => exact absurd (show false = true from hs) Bool.false_ne_true
  | bl i =>
    cases rx
    cases y with
    | non => cases ry; exact PySem.EqNone.eq_bool_none (fin_bl I q (by simp))
    | bl j => cases ry; exact eq_bool (fin_bl I q dec_bl)
    | str j => obtain ⟨t', rfl⟩ := ry; exact PySem.EqMixed.eq_bool_str (fin_bl I q (by simp))
    | _ => exact absurd (show false = true from hs) Bool.false_ne_true
  | int i =>
    obtain ⟨t, rfl⟩ := rx
    cases y with
    | non => cases ry; exact PySem.EqNone.eq_int_none (fin_bl I q (by simp))
    | int j => obtain ⟨t', rfl⟩ := ry; exact eq_int (fin_bl I q dec_int)
    | str j => obtain ⟨t', rfl⟩ := ry; exact PySem.EqMixed.eq_int_str (fin_bl I q (by simp))
    | _ => exact absurd (show false = true from hs) Bool.false_ne_true
  | str i =>
    obtain ⟨t, rfl⟩ := rx
    cases y with
    | non => cases ry; exact PySem.EqNone.eq_str_none (fin_bl I q (by simp))
    | bl j => cases ry; exact PySem.EqMixed.eq_str_bool (fin_bl I q (by simp))
    | int j => obtain ⟨t', rfl⟩ := ry; exact PySem.EqMixed.eq_str_int (fin_bl I q (by simp))
    | str j => obtain ⟨t', rfl⟩ := ry; exact eq_str (fin_bl I q dec_str)
    | _ => exact absurd (show false = true from hs) Bool.false_ne_true
  | byt i =>
    obtain ⟨t, rfl⟩ := rx
    cases y with
    | byt j => obtain ⟨t', rfl⟩ := ry; exact PySem.W.eq_bytes (fin_bl I q dec_byt)
    | _ => exact absurd (show false = true from hs) Bool.false_ne_true
  | _ => cases y <;> exact absurd (show false = true from hs) Bool.false_ne_true
theorem op_ne : OpR X (compareOp .NotEq) rNe := by
  intro pins s σ H x y v u Q I rx ry h
  obtain ⟨hs, q⟩ := h
  cases x with
  | non =>
    cases rx
    cases y with
    | non => cases ry; exact PySem.EqNone.ne_none_none (fin_bl I q (by simp))
    | bl j => cases ry; exact PySem.EqNone.ne_none_bool (fin_bl I q (by simp))
    | int j => obtain ⟨t', rfl⟩ := ry; exact PySem.EqNone.ne_none_int (fin_bl I q (by simp))
    | str j => obtain ⟨t', rfl⟩ := ry; exact PySem.EqNone.ne_none_str (fin_bl I q (by simp))
    | _ => exact absurd (show false = true from hs) Bool.false_ne_true
  | bl i =>
    cases rx
    cases y with
    | non => cases ry; exact PySem.EqNone.ne_bool_none (fin_bl I q (by simp))
    | bl j => cases ry; exact ne_bool (fin_bl I q (congrArg not dec_bl))
    | str j => obtain ⟨t', rfl⟩ := ry; exact PySem.EqMixed.ne_bool_str (fin_bl I q (by simp))
    | _ => exact absurd (show false = true from hs) Bool.false_ne_true
  | int i =>
    obtain ⟨t, rfl⟩ := rx
    cases y with
    | non => cases ry; exact PySem.EqNone.ne_int_none (fin_bl I q (by simp))
    | int j => obtain ⟨t', rfl⟩ := ry; exact ne_int (fin_bl I q (congrArg not dec_int))
    | str j => obtain ⟨t', rfl⟩ := ry; exact PySem.EqMixed.ne_int_str (fin_bl I q (by simp))
    | _ => exact absurd (show false = true from hs) Bool.false_ne_true
  | str i =>
    obtain ⟨t, rfl⟩ := rx
    cases y with
    | non => cases ry; exact PySem.EqNone.ne_str_none (fin_bl I q (by simp))
    | bl j => cases ry; exact PySem.EqMixed.ne_str_bool (fin_bl I q (by simp))
    | int j => obtain ⟨t', rfl⟩ := ry; exact PySem.EqMixed.ne_str_int (fin_bl I q (by simp))
    | str j => obtain ⟨t', rfl⟩ := ry; exact ne_str (fin_bl I q (congrArg not dec_str))
    | _ => exact absurd (show false = true from hs) Bool.false_ne_true
  | byt i =>
    obtain ⟨t, rfl⟩ := rx
    cases y with
    | byt j => obtain ⟨t', rfl⟩ := ry; exact PySem.W.ne_bytes (fin_bl I q (congrArg not dec_byt))
    | _ => exact absurd (show false = true from hs) Bool.false_ne_true
  | _ => cases y <;> exact absurd (show false = true from hs) Bool.false_ne_true

theorem op_lt : OpR X (compareOp .Lt) (rI0 fun i j => .bl (decide (i < j))) := opB0 fun _ _ _ _ _ _ _ q => lt_int q
theorem op_le : OpR X (compareOp .LtE) (rI0 fun i j => .bl (decide (i ≤ j))) := opB0 fun _ _ _ _ _ _ _ q => le_int q
theorem op_gt : OpR X (compareOp .Gt) (rI0 fun i j => .bl (decide (j < i))) := opB0 fun _ _ _ _ _ _ _ q => gt_int q
theorem op_ge : OpR X (compareOp .GtE) (rI0 fun i j => .bl (decide (j ≤ i))) := opB0 fun _ _ _ _ _ _ _ q => ge_int q
theorem op_lt_str : OpR X (compareOp .Lt) (fun x y H Q => ∃ i j, x = .str i ∧ y = .str j ∧ Q (.bl (decide (i.cps.toList < j.cps.toList))) H) := by
  intro pins s σ H x y v u Q I rx ry h
  obtain ⟨i, j, rfl, rfl, q⟩ := h
  obtain ⟨t, rfl⟩ := rx
  obtain ⟨t', rfl⟩ := ry
  exact lt_str (fin_bl I q rfl)
/-- the one string within the other -/
theorem op_in_str : OpR X (compareOp .In) (fun x y H Q => ∃ i j, x = .str i ∧ y = .str j ∧ Q (.bl (!(Builtin.Str.occurrences j i 0 j.length 1).isEmpty)) H) := by
  intro pins s σ H x y v u Q I rx ry h
  obtain ⟨i, j, rfl, rfl, q⟩ := h
  obtain ⟨t, rfl⟩ := rx
  obtain ⟨t', rfl⟩ := ry
  exact in_str (fin_bl I q rfl)

/-- is None, is not None: the right side a value none -/
theorem op_isN : OpR X (compareOp .Is) (fun x y H Q => y = .non ∧ Q (.bl (decide (x = .non))) H) := by
  intro pins s σ H x y v u Q I rx ry h
  obtain ⟨rfl, q⟩ := h
  cases ry
  refine is_none_gen (fin_bl I q ?_)
  cases x <;> first
    | (cases rx; rfl)
    | (obtain ⟨t, rfl⟩ := rx; rfl)
theorem op_notN : OpR X (compareOp .IsNot) (fun x y H Q => y = .non ∧ Q (.bl (!decide (x = .non))) H) := by
  intro pins s σ H x y v u Q I rx ry h
  obtain ⟨rfl, q⟩ := h
  cases ry
  refine isnot_none_gen (fin_bl I q ?_)
  cases x <;> first
    | (cases rx; rfl)
    | (obtain ⟨t, rfl⟩ := rx; rfl)

theorem op_notin_str : OpR X (compareOp .NotIn) (fun x y H Q => ∃ i j, x = .str i ∧ y = .str j ∧ Q (.bl (!(!(Builtin.Str.occurrences j i 0 j.length 1).isEmpty))) H) := by
  intro pins s σ H x y v u Q I rx ry h
  obtain ⟨i, j, rfl, rfl, q⟩ := h
  obtain ⟨t, rfl⟩ := rx
  obtain ⟨t', rfl⟩ := ry
  exact notIn_str (fin_bl I q rfl)
/-- is, is not of two objects that are tracked lists or instances -/
def isObj : HO → Bool
  | .lst _ => true
  | .ins _ _ _ => true
  | _ => false
theorem obj_there {pins : List (Addr × Obj)} {s : Shared} {σ : St} {H : Hp} {a : Addr} {o : HO} (I : Inv X pins σ H s) (h : H a = some o) (p : isObj o = true) : ∃ ob, s.heap.get? a = some ob ∧ ob.cls ≠ .type "tuple" := by
  cases o with
  | lst xs =>
    obtain ⟨_, its, n, _, e⟩ : xs.length ≤ sizeLine ∧ ∃ (its : List Value) (n : Nat), Vals xs its ∧ s.heap.get? a = some { cls := .type "list", data := .seq its.toArray n } := I.hok a _ h
    exact ⟨_, e, (by show Value.type "list" ≠ .type "tuple"; decide +kernel)⟩
  | ins C dx fs =>
    have x := I.hok a _ h
    obtain ⟨_, _, _, e, _⟩ := x
    exact ⟨_, e, (by show Value.ref C ≠ .type "tuple"; exact fun z => by cases z)⟩
  | _ => exact absurd (show false = true from p) Bool.false_ne_true
theorem op_is_ref : OpR X (compareOp .Is) (fun x y H Q => ∃ a b oa ob, x = .ref a ∧ y = .ref b ∧ H a = some oa ∧ isObj oa = true ∧ H b = some ob ∧ isObj ob = true ∧ Q (.bl (decide (a = b))) H) := by
  intro pins s σ H x y v u Q I rx ry h
  obtain ⟨a, b, oa, ob, rfl, rfl, ha, pa, hb, pb, q⟩ := h
  cases rx
  cases ry
  obtain ⟨o1, e1, n1⟩ := obj_there I ha pa
  obtain ⟨o2, e2, _⟩ := obj_there I hb pb
  by_cases z : a = b
  · subst z
    exact wpAny_is_ref_self (fin_bl I q (by simp))
  · exact wpAny_is_ref_other z e1 e2 n1 (fin_bl I q (by simp [z]))
theorem op_isnot_ref : OpR X (compareOp .IsNot) (fun x y H Q => ∃ a b oa ob, x = .ref a ∧ y = .ref b ∧ H a = some oa ∧ isObj oa = true ∧ H b = some ob ∧ isObj ob = true ∧ Q (.bl (!decide (a = b))) H) := by
  intro pins s σ H x y v u Q I rx ry h
  obtain ⟨a, b, oa, ob, rfl, rfl, ha, pa, hb, pb, q⟩ := h
  cases rx
  cases ry
  obtain ⟨o1, e1, n1⟩ := obj_there I ha pa
  obtain ⟨o2, e2, _⟩ := obj_there I hb pb
  by_cases z : a = b
  · subst z
    exact wpAny_isNot_ref_self (fin_bl I q (by simp))
  · exact wpAny_isNot_ref_other z e1 e2 n1 (fin_bl I q (by simp [z]))

/-- two rules for one operation: by cases -/
theorem OpR.or {f : Value → Value → Sem Value} {r r' : R2} (h : OpR X f r) (h' : OpR X f r') : OpR X f (fun x y H Q => r x y H Q ∨ r' x y H Q) := by
  intro pins s σ H x y v u Q I rx ry q
  rcases q with q | q
  · exact h pins s σ H x y v u Q I rx ry q
  · exact h' pins s σ H x y v u Q I rx ry q

theorem nomark (b : Expr) {op : CmpOp} (h : op ≠ .In := by decide) (h2 : op ≠ .NotIn := by decide) : behindInMarks op b = false := by
  have e1 : (op == CmpOp.In) = false := by cases op <;> first | rfl | exact absurd rfl h
  have e2 : (op == CmpOp.NotIn) = false := by cases op <;> first | rfl | exact absurd rfl h2
  cases b <;> simp [behindInMarks, e1, e2]
/-- a comparison as a value; hm: nomark b, or (for in, not in) by with_unfolding_all rfl -/
theorem pe_cmpR {op : CmpOp} {r : R2} (ho : OpR X (compareOp op) r) (ha : PE X a ta) (hb : PE X b tb) (hm : behindInMarks op b = false) : PE X (.Compare a [op] [b] pos) (tOp r ta tb) := by
  intro pins s σ H Q I h
  exact wpAny_Compare1 (binT ha hb I h fun v u s2 x y H2 I2 rx ry q => ho pins s2 σ H2 x y v u Q I2 rx ry q) hm
/-- a reading of a value as a test -/
def tTest (t : TE) : TT := fun σ H Q => t σ H fun x H' => ∃ k, x = .bl k ∧ Q k H'
theorem pt_cmpR {op : CmpOp} {r : R2} (ho : OpR X (compareOp op) r) (ha : PE X a ta) (hb : PE X b tb) (hm : behindInMarks op b = false) : PT X (.Compare a [op] [b] pos) (tTest (tOp r ta tb)) := by
  intro pins s σ H Q I h
  refine wpAny_isTrue_Compare1 (thn (ha pins s σ H _ I h) fun v s1 ⟨x, H1, I1, r1, q1⟩ => thn (hb pins s1 σ H1 _ I1 q1) fun u s2 ⟨y, H2, I2, r2, q2⟩ =>
    thn (ho pins s2 σ H2 x y v u _ I2 r1 r2 q2) fun c s3 ⟨z, H3, I3, r3, k, e, q3⟩ => ?_) hm
  subst e
  cases r3
  exact wpAny_truthy_bool ⟨H3, I3, q3⟩
/-- a op1 b op2 c -/
def tChain (r r' : R2) (ta tb tc : TE) : TE := fun σ H Q => ta σ H fun x H1 => tb σ H1 fun y H2 => r x y H2 fun z H3 => ∃ k, z = .bl k ∧
  (if k = true then tc σ H3 fun w' H4 => r' y w' H4 Q else Q (.bl false) H3)
theorem pe_chain {op op' : CmpOp} {r r' : R2} (ho : OpR X (compareOp op) r) (ho' : OpR X (compareOp op') r') (ha : PE X a ta) (hb : PE X b tb) (hc : PE X c tc)
    (hm : lastMarks [op, op'] [b, c] = false := by with_unfolding_all rfl) : PE X (.Compare a [op, op'] [b, c] pos) (tChain r r' ta tb tc) := by
  intro pins s σ H Q I h
  refine Compare_chain (thn (ha pins s σ H _ I h) fun v s1 ⟨x, H1, I1, r1, q1⟩ => chain_link (thn (hb pins s1 σ H1 _ I1 q1) fun u s2 ⟨y, H2, I2, r2, q2⟩ =>
    thn (ho pins s2 σ H2 x y v u _ I2 r1 r2 q2) fun d s3 ⟨z, H3, I3, r3, k, e, q3⟩ => ?_)) hm
  subst e
  cases r3
  refine wpAny_truthy_bool ?_
  cases k with
  | false => exact ite_ff ⟨.bl false, H3, I3, rfl, q3⟩
  | true => exact ite_tt (chain_last (thn (hc pins s3 σ H3 _ I3 q3) fun w' s4 ⟨z', H4, I4, r4, q4⟩ => ho' pins s4 σ H4 y z' u w' Q I4 r2 r4 q4))
theorem pt_chain {op op' : CmpOp} {r r' : R2} (ho : OpR X (compareOp op) r) (ho' : OpR X (compareOp op') r') (ha : PE X a ta) (hb : PE X b tb) (hc : PE X c tc)
    (hm : lastMarks [op, op'] [b, c] = false := by with_unfolding_all rfl) : PT X (.Compare a [op, op'] [b, c] pos) (tTest (tChain r r' ta tb tc)) := by
  intro pins s σ H Q I h
  refine isTrue_chain (thn (ha pins s σ H _ I h) fun v s1 ⟨x, H1, I1, r1, q1⟩ => test_link (thn (hb pins s1 σ H1 _ I1 q1) fun u s2 ⟨y, H2, I2, r2, q2⟩ =>
    thn (ho pins s2 σ H2 x y v u _ I2 r1 r2 q2) fun d s3 ⟨z, H3, I3, r3, k, e, q3⟩ => ?_)) hm
  subst e
  cases r3
  refine wpAny_truthy_bool ?_
  cases k with
  | false =>
    obtain ⟨k', e', q'⟩ := q3
    cases e'
    exact ite_ff ⟨H3, I3, q'⟩
  | true =>
    refine ite_tt (test_last (thn (hc pins s3 σ H3 _ I3 q3) fun w' s4 ⟨z', H4, I4, r4, q4⟩ => thn (ho' pins s4 σ H4 y z' u w' _ I4 r2 r4 q4) fun d' s5 ⟨z2, H5, I5, r5, k2, e2, q5⟩ => ?_))
    subst e2
    cases r5
    exact wpAny_truthy_bool ⟨H5, I5, q5⟩

/-! ### truth -/
/-- a value's truth by the abstract heap -/
def TruV (K : PySem.W.Frag) (x : V) (H : Hp) (k : Bool) : Prop :=
  match x with
  | .non => k = false
  | .bl b => k = b
  | .int i => k = (i != 0)
  | .str y => y.length ≤ sizeLine ∧ k = ((y.length : Int) != 0)
  | .byt y => y.size ≤ sizeLine ∧ k = ((y.size : Int) != 0)
  | .ref p => (∃ xs, SqL K H p xs ∧ k = !xs.isEmpty) ∨ (∃ xs, SqT K H p xs ∧ k = !xs.isEmpty) ∨ ∃ kvs, H p = some (.dK kvs) ∧ k = !kvs.isEmpty
  | _ => False
theorem isEmpty_kv {κ : Type} {kvs : List (κ × V)} {vs : List (κ × Value)} (r : KV kvs vs) : (!vs.isEmpty) = !kvs.isEmpty := by
  cases r <;> rfl
theorem isEmpty_of {xs : List V} {its : List Value} (r : Vals xs its) : (!its.toArray.isEmpty) = !xs.isEmpty := by
  cases r <;> simp
theorem line63 : (sizeLine : Nat) < 2 ^ 63 := by rw [sizeLine_eq]; decide
theorem tru_ok : TruR X (fun x H Q => ∃ k, TruV X.K x H k ∧ Q k H) := by
  intro pins s σ H x v Q I rx h
  obtain ⟨k, e, q⟩ := h
  have hl := line63
  have hs : sizeLine = 16777216 := sizeLine_eq
  cases x with
  | non =>
    cases rx
    have e' : k = false := e
    subst e'
    exact truthy_none ⟨H, I, q⟩
  | bl b =>
    cases rx
    have e' : k = b := e
    subst e'
    exact wpAny_truthy_bool ⟨H, I, q⟩
  | int i =>
    obtain ⟨t, rfl⟩ := rx
    have e' : k = (i != 0) := e
    subst e'
    exact PySem.P.truthy_int ⟨H, I, q⟩
  | str y =>
    obtain ⟨t, rfl⟩ := rx
    obtain ⟨hy, e'⟩ : y.length ≤ sizeLine ∧ k = ((y.length : Int) != 0) := e
    subst e'
    exact PySem.P.truthy_str (by omega) ⟨H, I.tok _, q⟩
  | byt y =>
    obtain ⟨t, rfl⟩ := rx
    obtain ⟨hy, e'⟩ : y.size ≤ sizeLine ∧ k = ((y.size : Int) != 0) := e
    subst e'
    exact PySem.W.truthy_bytes (by omega) ⟨H, I.tok _, q⟩
  | ref p =>
    cases rx
    have e' : (∃ xs, SqL X.K H p xs ∧ k = !xs.isEmpty) ∨ (∃ xs, SqT X.K H p xs ∧ k = !xs.isEmpty) ∨ ∃ kvs, H p = some (.dK kvs) ∧ k = !kvs.isEmpty := e
    rcases e' with ⟨xs, hx, e'⟩ | ⟨xs, hx, e'⟩ | ⟨kvs, hx, e'⟩
    · subst e'
      obtain ⟨its, r, pl, hz⟩ := I.list hx
      have hlen := r.length
      exact wpAny_truthy_list pl.isList (by simp only [List.size_toArray]; omega) ⟨H, I.tok _, by rw [isEmpty_of r]; exact q⟩
    · subst e'
      obtain ⟨its, r, pl, hz⟩ := I.tuple hx
      have hlen := r.length
      exact truthy_tuple pl (by simp only [List.size_toArray]; omega) ⟨H, I.tok _, by rw [isEmpty_of r]; exact q⟩
    · subst e'
      obtain ⟨hz, hS, vs, r, m⟩ : kvs.length ≤ sizeLine ∧ (p == sysModules) = false ∧ ∃ vs, KV kvs vs ∧ s.heap.DictOf (mixKind X.prog X.w) p vs := I.hok p _ hx
      have hlen : kvs.length = vs.length := Paired.length r
      exact wpAny_truthy_dict hS m (by omega) ⟨H, I.tok _, by rw [isEmpty_kv r]; exact q⟩
  | _ => exact (show False from e).elim
/-- any expression whose test is its value's truth (a name, a call, a subscript, a field ..: he by fun _ => rfl) -/
theorem pt_truth (ha : PE X a ta) (he : ∀ whole, isTrue a X.env whole = (do let v ← whole; standAt a.pos; holding [v] (truthy v))) :
    PT X a (fun σ H Q => ta σ H fun x H' => ∃ k, TruV X.K x H' k ∧ Q k H') := by
  intro pins s σ H Q I h
  exact isTrue_plain (thn (ha pins s σ H _ I h) fun v s1 ⟨x, H1, I1, r1, q1⟩ => tru_ok pins s1 σ H1 x v Q I1 r1 q1) (he _)

/-! ### strs and bytes -/
theorem pe_byt {x : List UInt8} {k : Nat} : PE X (.Constant (.bytes x) k pos) (fun _ H Q => Q (.byt x.toArray) H) := fun _ _ _ H _ I h => PySem.W.Constant_bytes ⟨.byt x.toArray, H, I.tok _, ⟨_, rfl⟩, h⟩
theorem op_add_str : OpR X (binaryOp .Add) (fun x y H Q => ∃ i j, x = .str i ∧ y = .str j ∧ i.length + j.length ≤ sizeLine ∧ Q (.str (i ++ j)) H) := by
  intro pins s σ H x y v u Q I rx ry h
  obtain ⟨i, j, rfl, rfl, hz, q⟩ := h
  obtain ⟨t, rfl⟩ := rx
  obtain ⟨t', rfl⟩ := ry
  exact add_str (fun t' tk => ⟨.str (i ++ j), H, I.tok _, ⟨_, rfl⟩, q⟩) hz
theorem iop_add_str : OpR X (inplaceOp .Add) (fun x y H Q => ∃ i j, x = .str i ∧ y = .str j ∧ i.length + j.length ≤ sizeLine ∧ Q (.str (i ++ j)) H) := by
  intro pins s σ H x y v u Q I rx ry h
  obtain ⟨i, j, rfl, rfl, hz, q⟩ := h
  obtain ⟨t, rfl⟩ := rx
  obtain ⟨t', rfl⟩ := ry
  exact iadd_str (fun t' tk => ⟨.str (i ++ j), H, I.tok _, ⟨_, rfl⟩, q⟩) hz
theorem op_add_byt : OpR X (binaryOp .Add) (fun x y H Q => ∃ i j, x = .byt i ∧ y = .byt j ∧ i.size + j.size ≤ 16777216 ∧ Q (.byt (i ++ j)) H) := by
  intro pins s σ H x y v u Q I rx ry h
  obtain ⟨i, j, rfl, rfl, hz, q⟩ := h
  obtain ⟨t, rfl⟩ := rx
  obtain ⟨t', rfl⟩ := ry
  exact PySem.W.KBy.add_bytes hz (fun t' tk => ⟨.byt (i ++ j), H, I.tok _, ⟨_, rfl⟩, q⟩)

def PlainIxT (b : Expr) : Prop := ∀ o i, subscripted b false o i = operate [o, i] (getItem o i)
/-- s[i], 0 ≤ i < len -/
theorem pe_item_str (ha : PE X a ta) (hb : PE X b tb) (hs : PlainIxT b) :
    PE X (.Subscript a b pos) (tOp (fun x y H Q => ∃ z i c, x = .str z ∧ y = .int i ∧ 0 ≤ i ∧ i < 2 ^ 63 ∧ i < z.length ∧ z.cps[i.toNat]? = some c ∧ Q (.str ⟨#[c]⟩) H) ta tb) := by
  intro pins s σ H Q I h
  refine Subscript_ (binT ha hb I h fun v u s2 x y H2 I2 rx ry q => ?_)
  obtain ⟨z, i, c, rfl, rfl, h0, h63, h1, hc, q⟩ := q
  obtain ⟨t, rfl⟩ := rx
  obtain ⟨t', rfl⟩ := ry
  have e : seqIndex? i z.length = some i.toNat := PySem.StrLaws.seqIndex_nonneg h0 h1
  exact tail_any (typeIs_str s2 z t) slot_str_getitem.lookup (getItem_str (c := c) (by
    have e1 : decide (i < -(2 ^ 63 : Int)) = false := decide_eq_false (by omega)
    have e2 : decide (i ≥ 2 ^ 63) = false := decide_eq_false (by omega)
    rw [e1, e2] <;> rfl) (by rw [e]; exact hc) ⟨.str ⟨#[c]⟩, H2, I2.tok _, ⟨_, rfl⟩, q⟩) (hs _ _)
/-- b[i], 0 ≤ i < len -/
theorem pe_item_byt (ha : PE X a ta) (hb : PE X b tb) (hs : PlainIxT b) :
    PE X (.Subscript a b pos) (tOp (fun x y H Q => ∃ (z : List UInt8) (i : Int), x = .byt z.toArray ∧ y = .int i ∧ z.length ≤ sizeLine ∧ 0 ≤ i ∧ i < z.length ∧ Q (.int ((z.getD i.toNat 0).toNat : Nat)) H) ta tb) := by
  intro pins s σ H Q I h
  refine Subscript_ (binT ha hb I h fun v u s2 x y H2 I2 rx ry q => ?_)
  obtain ⟨z, i, rfl, rfl, hz, h0, h1, q⟩ := q
  obtain ⟨t, rfl⟩ := rx
  obtain ⟨t', rfl⟩ := ry
  have hl : sizeLine = 16777216 := sizeLine_eq
  exact tail_any (PySem.W.typeIs_bytes s2 z.toArray t) PySem.W.FB.slot_bytes_getitem.lookup (PySem.W.getItem_bytes (by omega) h0 h1 ⟨.int ((z.getD i.toNat 0).toNat : Nat), H2, I2.tok _, ⟨_, rfl⟩, q⟩) (hs _ _)

/-! ### scalar builtins, by CallR -/
theorem vals1 {x : V} {us : List Value} (r : Vals [x] us) : ∃ u, us = [u] ∧ RelV x u := by
  cases r with
  | cons r1 r2 => cases r2; exact ⟨_, rfl, r1⟩
theorem vals2 {x y : V} {us : List Value} (r : Vals [x, y] us) : ∃ u w', us = [u, w'] ∧ RelV x u ∧ RelV y w' := by
  cases r with
  | cons r1 r2 =>
    cases r2 with
    | cons r3 r4 => cases r4; exact ⟨_, _, rfl, r1, r3⟩
theorem call_abs : CallR X (.builtin "abs") (fun xs H Q => ∃ i, xs = [.int i] ∧ Q (.int (if i < 0 then -i else i)) H) := by
  intro pins s σ H xs us Q I r h
  obtain ⟨i, rfl, q⟩ := h
  obtain ⟨u, rfl, t, rfl⟩ := vals1 r
  exact call_abs_int fun u tk => ⟨.int (if i < 0 then -i else i), H, I.tok _, ⟨_, rfl⟩, q⟩
theorem call_max2 (hc : X.calm = true) : CallR X (.builtin "max") (fun xs H Q => ∃ i j, xs = [.int i, .int j] ∧ Q (.int (if j > i then j else i)) H) := by
  intro pins s σ H xs us Q I r h
  obtain ⟨i, j, rfl, q⟩ := h
  obtain ⟨u, w', rfl, ⟨t, rfl⟩, ⟨t', rfl⟩⟩ := vals2 r
  refine max_two_ints (I.ok.hd hc) fun h' tk k => ⟨_, H, I.kept k, ?_, q⟩
  by_cases hj : j > i
  · rw [if_pos hj, if_pos hj]; exact ⟨_, rfl⟩
  · rw [if_neg hj, if_neg hj]; exact ⟨_, rfl⟩
theorem call_min2 (hc : X.calm = true) : CallR X (.builtin "min") (fun xs H Q => ∃ i j, xs = [.int i, .int j] ∧ Q (.int (if j < i then j else i)) H) := by
  intro pins s σ H xs us Q I r h
  obtain ⟨i, j, rfl, q⟩ := h
  obtain ⟨u, w', rfl, ⟨t, rfl⟩, ⟨t', rfl⟩⟩ := vals2 r
  refine min_two_ints (I.ok.hd hc) fun h' tk k => ⟨_, H, I.kept k, ?_, q⟩
  by_cases hj : j < i
  · rw [if_pos hj, if_pos hj]; exact ⟨_, rfl⟩
  · rw [if_neg hj, if_neg hj]; exact ⟨_, rfl⟩
theorem call_int1 : CallR X (.type "int") (fun xs H Q => (∃ i, xs = [.int i] ∧ Q (.int i) H) ∨ ∃ k, xs = [.bl k] ∧ Q (.int (if k then 1 else 0)) H) := by
  intro pins s σ H xs us Q I r h
  rcases h with ⟨i, rfl, q⟩ | ⟨k, rfl, q⟩
  · obtain ⟨u, rfl, t, rfl⟩ := vals1 r
    exact call_int_int ⟨.int i, H, I, ⟨_, rfl⟩, q⟩
  · obtain ⟨u, rfl, r1⟩ := vals1 r
    cases r1
    exact call_int_bool ⟨.int (if k then 1 else 0), H, I.tok _, ⟨_, rfl⟩, q⟩
theorem call_bool1 : CallR X (.type "bool") (fun xs H Q => (∃ i, xs = [.int i] ∧ Q (.bl (i != 0)) H) ∨ ∃ k, xs = [.bl k] ∧ Q (.bl k) H) := by
  intro pins s σ H xs us Q I r h
  rcases h with ⟨i, rfl, q⟩ | ⟨k, rfl, q⟩
  · obtain ⟨u, rfl, t, rfl⟩ := vals1 r
    exact call_bool_int ⟨.bl (i != 0), H, I, rfl, q⟩
  · obtain ⟨u, rfl, r1⟩ := vals1 r
    cases r1
    exact call_bool_bool ⟨.bl k, H, I, rfl, q⟩
theorem call_str_int : CallR X (.type "str") (fun xs H Q => ∃ i, xs = [.int i] ∧ i.natAbs.log2 < 1920 ∧ Q (.str (toString i)) H) := by
  intro pins s σ H xs us Q I r h
  obtain ⟨i, rfl, hz, q⟩ := h
  obtain ⟨u, rfl, t, rfl⟩ := vals1 r
  exact PySem.P.str_of_int hz ⟨.str _, H, I.tok _, ⟨_, rfl⟩, q⟩
theorem call_ord : CallR X (.builtin "ord") (fun xs H Q => ∃ x, xs = [.str x] ∧ x.length = 1 ∧ Q (.int (x.cps.getD 0 0 : Nat)) H) := by
  intro pins s σ H xs us Q I r h
  obtain ⟨x, rfl, hz, q⟩ := h
  obtain ⟨u, rfl, t, rfl⟩ := vals1 r
  exact ord_of_one hz ⟨.int _, H, I.tok _, ⟨_, rfl⟩, q⟩
theorem call_chr : CallR X (.builtin "chr") (fun xs H Q => ∃ i, xs = [.int i] ∧ 0 ≤ i ∧ i ≤ 1114111 ∧ Q (.str ⟨#[i.toNat]⟩) H) := by
  intro pins s σ H xs us Q I r h
  obtain ⟨i, rfl, h0, h1, q⟩ := h
  obtain ⟨u, rfl, t, rfl⟩ := vals1 r
  exact chr_of_range h0 h1 ⟨.str _, H, I.tok _, ⟨_, rfl⟩, q⟩
/-- len of a str, a bytes, a list, a tuple -/
def LenV (K : PySem.W.Frag) (x : V) (H : Hp) (n : Nat) : Prop :=
  match x with
  | .str y => y.length ≤ sizeLine ∧ n = y.length
  | .byt y => y.size ≤ sizeLine ∧ n = y.size
  | .ref p => (∃ xs, SqL K H p xs ∧ n = xs.length) ∨ ∃ xs, SqT K H p xs ∧ n = xs.length
  | _ => False
theorem call_len : CallR X (.builtin "len") (fun xs H Q => ∃ x n, xs = [x] ∧ LenV X.K x H n ∧ Q (.int n) H) := by
  intro pins s σ H xs us Q I r h
  obtain ⟨x, n, rfl, e, q⟩ := h
  obtain ⟨u, rfl, rx⟩ := vals1 r
  have hl := line63
  have hs : sizeLine = 16777216 := sizeLine_eq
  cases x with
  | str y =>
    obtain ⟨t, rfl⟩ := rx
    obtain ⟨hy, e'⟩ : y.length ≤ sizeLine ∧ n = y.length := e
    subst e'
    exact len_str (by omega) ⟨.int _, H, I.tok _, ⟨_, rfl⟩, q⟩
  | byt y =>
    obtain ⟨t, rfl⟩ := rx
    obtain ⟨hy, e'⟩ : y.size ≤ sizeLine ∧ n = y.size := e
    subst e'
    exact PySem.W.len_bytes (by omega) ⟨.int _, H, I.tok _, ⟨_, rfl⟩, q⟩
  | ref p =>
    cases rx
    have e' : (∃ xs, SqL X.K H p xs ∧ n = xs.length) ∨ ∃ xs, SqT X.K H p xs ∧ n = xs.length := e
    rcases e' with ⟨xs, hx, e'⟩ | ⟨xs, hx, e'⟩
    · subst e'
      obtain ⟨its, r', pl, hz⟩ := I.list hx
      have hlen := r'.length
      exact Calls.call_len_list pl.isList (by simp only [List.size_toArray]; omega) ⟨.int xs.length, H, I.tok _, ⟨_, by simp only [List.size_toArray]; rw [hlen]⟩, q⟩
    · subst e'
      obtain ⟨its, r', pl, hz⟩ := I.tuple hx
      have hlen := r'.length
      exact len_tuple pl (by simp only [List.size_toArray]; omega) ⟨.int xs.length, H, I.tok _, ⟨_, by simp only [List.size_toArray]; rw [hlen]⟩, q⟩
  | _ => exact (show False from e).elim
/-- divmod: a new tuple -/
theorem call_divmod : CallR X (.builtin "divmod") (fun xs H Q => ∃ i j, xs = [.int i, .int j] ∧ CDiv i j ∧ ∀ p, H p = none → Q (.ref p) (upd H p (.tup [.int (i / j), .int (i % j)]))) := by
  intro pins s σ H xs us Q I r h
  obtain ⟨i, j, rfl, ⟨h1, h2⟩, q⟩ := h
  obtain ⟨u, w', rfl, ⟨t, rfl⟩, ⟨t', rfl⟩⟩ := vals2 r
  refine divmod_int (by omega) ?_ (.inl (PyProof.noPylong_small (by omega)))
  rw [Int.fdiv_eq_ediv_of_nonneg i (by omega), Int.fmod_eq_emod_of_nonneg i (by omega)]
  have hn : H s.heap.objs.size = none := I.hok.fresh (Nat.le_refl _)
  refine ⟨.ref s.heap.objs.size, _, ?_, rfl, q _ hn⟩
  refine I.laid (fun b o e => Heap.get?_push_of_some _ e) (Nat.le_refl _) ⟨by simp only [List.length_cons, List.length_nil]; rw [sizeLine_eq]; decide, [.int (i / j) s.toks, .int (i % j) (s.toks + 1)], .cons ⟨_, rfl⟩ (.cons ⟨_, rfl⟩ .nil), ?_⟩
  exact ⟨_, Heap.get?_push_size s.heap rfl, rfl, 0, rfl⟩
end
end L2

namespace L2
open PySem PySem.Spec PyProof.Rows

/-! ### an instance, its attributes a map -/
structure ObjM (h : Heap) (x dx C : Addr) (mA : Str → Option Value) : Prop where
  obj : h.get? x = some (PySem.W.instObj C dx)
  ns : h.Ns1 dx mA
  ne : dx ≠ x

theorem lookIn_ns {h : Heap} {dx : Addr} {mA : Str → Option Value} (n : h.Ns1 dx mA) : ∃ od, h.get? dx = some od ∧ ∀ name, PySem.W.lookIn name od = some (mA name) := by
  obtain ⟨o, es, ep, ho, hd, hk, _, hm⟩ := n
  refine ⟨o, ho, fun name => ?_⟩
  have e := hm name
  unfold nsFind findBy at e
  rw [← Array.find?_toList] at e
  unfold PySem.W.lookIn
  rw [hd]
  dsimp only
  split
  · rename_i y q
    rw [q] at e
    exact congrArg some e
  · rename_i q
    rw [q] at e
    have a : es.toList.any (·.refKey) = false := by
      rw [List.any_eq_false]
      intro y hy
      obtain ⟨z, t, hkey⟩ := hk y (Array.mem_toList_iff.mp hy)
      simp [DictEntry.refKey, hkey]
    have a' : ¬ es.toList.any (·.refKey) = true := by rw [a]; exact Bool.false_ne_true
    rw [if_neg a']
    exact congrArg some e

theorem ObjM.look {h : Heap} {x dx C : Addr} {mA : Str → Option Value} (I : ObjM h x dx C mA) : ∃ od, PySem.W.InstAt h x (PySem.W.instObj C dx) C (some od) ∧ ∀ name, PySem.W.lookIn name od = some (mA name) :=
  let ⟨od, ho, hl⟩ := lookIn_ns I.ns
  ⟨od, ⟨I.obj, rfl, rfl, ho⟩, hl⟩

section
variable {prog : Program} {w : World} {A : Around} {E : Value → Shared → Prop} {s : Shared} {K : PySem.W.Frag} {x dx C f : Addr} {mA : Str → Option Value} {name : Str} {v : Value}

theorem get_map {expr : Bool} {Q : Value → Shared → Prop} (X : K.In s.heap) (I : ObjM s.heap x dx C mA) (hg : PySem.W.plainGet K C name = true) (hh : PySem.W.hasDictIn K C = true)
    (ha : PySem.W.findIn K (.ref C) name = some none) (hv : mA name = some v) (hv' : PySem.W.handedIn v = true) (h : Q v { s with toks := s.toks + 1 }) :
    wpAny (model prog w) A (getAttr (.ref x) name expr) Q E s := by
  obtain ⟨od, J, hl⟩ := I.look
  exact PySem.W.get_value X J (PySem.W.plainGet_of hg).1 (PySem.W.findObj_own hh ha rfl (by rw [hl, hv])) hv' h

theorem get_const {expr : Bool} {a : Value} {Q : Value → Shared → Prop} (X : K.In s.heap) (I : ObjM s.heap x dx C mA) (hg : PySem.W.plainGet K C name = true) (hh : PySem.W.hasDictIn K C = true)
    (ha : PySem.W.findIn K (.ref C) name = some (some a)) (hn : PySem.W.specialIn K a "__get__" = some none) (hc : PySem.W.copiedNames.contains name = false) (hv : mA name = none) (hv' : PySem.W.handedIn a = true)
    (h : Q a { s with toks := s.toks + 1 }) : wpAny (model prog w) A (getAttr (.ref x) name expr) Q E s := by
  obtain ⟨od, J, hl⟩ := I.look
  exact PySem.W.get_value X J (PySem.W.plainGet_of hg).1 (PySem.W.findObj_cls hh ha hn hv' hc (by rw [hl, hv])) hv' h

theorem get_meth {pl : Sem Bool} {Q : Value × List Value → Shared → Prop} (X : K.In s.heap) (I : ObjM s.heap x dx C mA) (hg : PySem.W.plainGet K C name = true)
    (hf : PySem.W.findIn K (.ref C) name = some (some (.ref f))) (ht : PySem.W.isFn K (.ref f) = true) (hv : mA name = none) (h : Q (.ref f, [.ref x]) s) :
    wpAny (model prog w) A (getMethod (.ref x) name pl) Q E s := by
  obtain ⟨od, J, hl⟩ := I.look
  exact PySem.W.method_fn X J (PySem.W.plainGet_of hg).1 (PySem.W.plainGet_of hg).2 hf (beq_iff_eq.mp ht) (by show (PySem.W.lookIn name od).map (·.isSome) = some false; rw [hl, hv]; rfl) h

theorem set_map {ns : List Str} {Q : Unit → Shared → Prop} (X : K.In s.heap) (I : ObjM s.heap x dx C mA)
    (hs : PySem.W.findIn K (.ref C) "__setattr__" = some (some (.builtin "object.__setattr__"))) (hp : PySem.W.plainOver K C = true) (ht : PySem.W.takerIn K C name = some none) (hh : PySem.W.hasDictIn K C = true)
    (hw : PySem.Within mA ns) (hsz : ns.length ≤ sizeLine)
    (h : ∀ h', ObjM h' x dx C (fun y => if y = name then some v else mA y) → Heap.SameBut dx s.heap h' → Q () { s with heap := h', toks := s.toks + 2 }) :
    wpAny (model prog w) A (setAttr (.ref x) name v) Q E s := by
  obtain ⟨od, J, hl⟩ := I.look
  refine PySem.W.set_plain X J hs (PySem.W.osa_open (s := { s with toks := s.toks + 1 }) (r := none) X J hp ht fun b => ?_)
  obtain ⟨cd, hc, hd'⟩ := PySem.W.any_some hh
  have hx : s.heap.get? x = some ⟨.ref C, some dx, .plain, #[]⟩ := I.obj
  refine wpAny_bind (wpAny_pure (wpAny_bind (wpAny_bind (wpAny_loadPart hx (wpAny_bind (PySem.W.Looks.here (s := { s with toks := s.toks + 1 }) (PySem.W.looks_clsIn X hc) ?_))))))
  rw [hd']
  refine wpAny_pure (a := some dx) (wpAny_bind (wpAny_pure (wpAny_bind ?_)))
  refine wpAny_nsSet1 (s := { s with toks := s.toks + 1 }) I.ns fun h' hn2 hs2 => ?_
  obtain ⟨oD, esD, epD, hoD, hdD, hcD⟩ := hn2.count (PySem.Within.cons name v hw)
  refine wpAny_bind (wpAny_lookBehind hoD (by rw [hdD]; exact pastItsLine_dict (Nat.le_trans hcD (by rw [List.length_cons]; omega))) ?_)
  exact wpAny_pure (h _ ⟨(hs2.2 _ (Ne.symm I.ne)).trans I.obj, hn2, I.ne⟩ hs2)

/-- C(..): the dict at the heap's end, the instance behind it; then its __init__ -/
theorem make_map {R : Result → Shared → Prop} {vs : List Value} {kw : List (Str × Value)} (X : K.In s.heap) (hm : PySem.W.makesIn K C = true)
    (hi : PySem.W.findIn K (.ref C) "__init__" = some (some (.ref f))) (hf : PySem.W.typeIn K (.ref f) = some (.type "function"))
    (h : codeAny (model prog w) (A.under (.builtin "type.__call__" ⟨.ref C :: vs, kw⟩)) (.call (.ref f) ⟨.ref (s.heap.objs.size + 1) :: vs, kw⟩) (PySem.W.InitBack (s.heap.objs.size + 1) R)
      { s with heap := (s.heap.push PySem.W.emptyDict).push (PySem.W.instObj C s.heap.objs.size) }) :
    codeAny (model prog w) A (.call (.ref C) ⟨vs, kw⟩) R s := by
  obtain ⟨hh, g, d, t, os⟩ := s
  exact PySem.W.make_core (PySem.W.makes_of X hm) (PySem.W.looks_findIn X hi) (fun self => PySem.W.bind_fn X self hf) (.inl rfl) h
/-- C() where there is no __init__ but object's -/
theorem make_map0 {R : Result → Shared → Prop} (X : K.In s.heap) (hm : PySem.W.makesIn K C = true)
    (hi : PySem.W.findIn K (.ref C) "__init__" = some (some (.builtin "object.__init__")))
    (hb : ∀ self, PySem.W.Looks (model prog w) s.heap (bindSpecial (.builtin "object.__init__") self) (.builtin "object.__init__", [self]))
    (h : codeAny (model prog w) (A.under (.builtin "type.__call__" ⟨[.ref C], []⟩)) (.call (.builtin "object.__init__") ⟨[.ref (s.heap.objs.size + 1)], []⟩) (PySem.W.InitBack (s.heap.objs.size + 1) R)
      { s with heap := (s.heap.push PySem.W.emptyDict).push (PySem.W.instObj C s.heap.objs.size) }) :
    codeAny (model prog w) A (.call (.ref C) ⟨[], []⟩) R s := by
  obtain ⟨hh, g, d, t, os⟩ := s
  exact PySem.W.make_core (PySem.W.makes_of X hm) (PySem.W.looks_findIn X hi) hb (.inr ⟨rfl, rfl⟩) h
end

/-! ### the attributes as a list of pairs -/
def putF (f : Str) (v : V) : List (Str × V) → List (Str × V)
  | [] => [(f, v)]
  | (g, x) :: r => if g = f then (g, v) :: r else (g, x) :: putF f v r
theorem lookup_putF (f g : Str) (v : V) : ∀ fs : List (Str × V), (putF f v fs).lookup g = if g = f then some v else fs.lookup g
  | [] => by
    show List.lookup g [(f, v)] = _
    by_cases h : g = f
    · have hb : (g == f) = true := beq_iff_eq.mpr h
      simp only [List.lookup, hb, if_pos h]
    · have hb : (g == f) = false := beq_eq_false_iff_ne.mpr h
      simp only [List.lookup, hb, if_neg h]
  | (k, x) :: r => by
    have ih := lookup_putF f g v r
    rw [show putF f v ((k, x) :: r) = (if k = f then (k, v) :: r else (k, x) :: putF f v r) from rfl]
    by_cases hk : k = f
    · rw [if_pos hk]
      by_cases h : g = k
      · have hb : (g == k) = true := beq_iff_eq.mpr h
        simp only [List.lookup, hb, if_pos (h.trans hk)]
      · have hb : (g == k) = false := beq_eq_false_iff_ne.mpr h
        simp only [List.lookup, hb, if_neg (fun e : g = f => h (e.trans hk.symm))]
    · rw [if_neg hk]
      by_cases h : g = k
      · have hb : (g == k) = true := beq_iff_eq.mpr h
        simp only [List.lookup, hb, if_neg (fun e : g = f => hk (h.symm.trans e))]
      · have hb : (g == k) = false := beq_eq_false_iff_ne.mpr h
        simp only [List.lookup, hb]
        exact ih
theorem keys_putF (f : Str) (v : V) : ∀ fs : List (Str × V), f ∈ (putF f v fs).map (·.1) ∧ ∀ g, g ∈ fs.map (·.1) → g ∈ (putF f v fs).map (·.1)
  | [] => ⟨by simp [putF], fun g h => by simp at h⟩
  | (k, x) :: r => by
    obtain ⟨i1, i2⟩ := keys_putF f v r
    rw [show putF f v ((k, x) :: r) = (if k = f then (k, v) :: r else (k, x) :: putF f v r) from rfl]
    by_cases hk : k = f
    · rw [if_pos hk]
      subst hk
      exact ⟨by simp, fun g h => by simpa using h⟩
    · rw [if_neg hk]
      refine ⟨?_, fun g h => ?_⟩
      · rw [List.map_cons]
        exact List.mem_cons_of_mem _ i1
      · rw [List.map_cons] at h ⊢
        rcases List.mem_cons.mp h with e | e
        · exact List.mem_cons.mpr (.inl e)
        · exact List.mem_cons_of_mem _ (i2 g e)
theorem length_putF (f : Str) (v : V) : ∀ fs : List (Str × V), (putF f v fs).length ≤ fs.length + 1
  | [] => by simp [putF]
  | (k, x) :: r => by
    have ih := length_putF f v r
    rw [show putF f v ((k, x) :: r) = (if k = f then (k, v) :: r else (k, x) :: putF f v r) from rfl]
    by_cases hk : k = f
    · rw [if_pos hk, List.length_cons, List.length_cons]; omega
    · rw [if_neg hk, List.length_cons, List.length_cons]; omega

theorem RelO.some_of {v : V} {o : Option Value} (r : RelO (some v) o) : ∃ u, o = some u ∧ RelV v u := by
  cases o with
  | none => exact (show False from r).elim
  | some u => exact ⟨u, rfl, r⟩
theorem RelO.none_of {o : Option Value} (r : RelO none o) : o = none := by
  cases o with
  | none => rfl
  | some u => exact (show False from r).elim
theorem handed_of {v : V} {u : Value} (r : RelV v u) : PySem.W.handedIn u = true := by
  cases v with
  | non => cases (show u = Value.none from r); rfl
  | bl b => cases (show u = Value.bool b from r); rfl
  | int i => obtain ⟨t, e⟩ := (show ∃ t, u = Value.int i t from r); cases e; rfl
  | str x => obtain ⟨t, e⟩ := (show ∃ t, u = Value.str x t from r); cases e; rfl
  | byt b => obtain ⟨t, e⟩ := (show ∃ t, u = Value.bytes b t from r); cases e; rfl
  | flt b => obtain ⟨t, e⟩ := (show ∃ t, u = Value.float b t from r); cases e; rfl
  | ref a => cases (show u = Value.ref a from r); rfl
  | ty n => cases (show u = Value.type n from r); rfl

section
variable {P : Program} {w : World} {H H' : Hp} {h h' : Heap} {a C dx : Addr} {fs fs' : List (Str × V)}
theorem ins_get (hok : HOk P w H h) (e : H a = some (.ins C dx fs)) : ∃ mA, ObjM h a dx C mA ∧ (∀ f, RelO (fs.lookup f) (mA f)) ∧ PySem.Within mA (fs.map (·.1)) ∧ fs.length ≤ 1000 ∧ H dx = some (.own a) := by
  obtain ⟨d, z, ne, ob, mA, n, r, q⟩ := (show ObjOk P w H h a (.ins C dx fs) from hok a _ e)
  exact ⟨mA, ⟨ob, n, ne⟩, r, q, z, d⟩
end

/-! ### what of the text a class must have -/
structure Cls (K : PySem.W.Frag) (C : Addr) : Prop where
  pg : PySem.W.plainGet K C Str.empty = true
  hd : PySem.W.hasDictIn K C = true
  po : PySem.W.plainOver K C = true
  sa : PySem.W.findIn K (.ref C) "__setattr__" = some (some (.builtin "object.__setattr__"))
theorem Cls.get {K : PySem.W.Frag} {C : Addr} (c : Cls K C) (f : Str) : PySem.W.plainGet K C f = true := c.pg
/-- no class of it has the name -/
def NoAttr (K : PySem.W.Frag) (C : Addr) (f : Str) : Prop := PySem.W.findIn K (.ref C) f = some none
theorem NoAttr.taker {K : PySem.W.Frag} {C : Addr} {f : Str} (n : NoAttr K C f) : PySem.W.takerIn K C f = some none := by
  unfold PySem.W.takerIn
  rw [show PySem.W.findIn K (.ref C) f = some none from n]
  rfl
/-- a constant of the class -/
structure Con (K : PySem.W.Frag) (C : Addr) (f : Str) (v : V) (u : Value) : Prop where
  at_ : PySem.W.findIn K (.ref C) f = some (some u)
  rel : RelV v u
  get : PySem.W.specialIn K u "__get__" = some none
  cp : PySem.W.copiedNames.contains f = false
/-- a method: a plain def of the class or of one above it -/
structure Meth (K : PySem.W.Frag) (C : Addr) (m : Str) (f : Addr) : Prop where
  at_ : PySem.W.findIn K (.ref C) m = some (some (.ref f))
  fn : PySem.W.isFn K (.ref f) = true
  kp : PySem.W.keepIn K (.ref f) = true

section
variable {X : Cx} {pins : List (Addr × Obj)} {σ : St} {H : Hp} {s : Shared} {a C dx : Addr} {fs : List (Str × V)} {f : Str} {v : V} {A : Around} {E : Value → Shared → Prop}

theorem getattr_ok {b : Bool} {Q : Value → Shared → Prop} (I : Inv X pins σ H s) (e : H a = some (.ins C dx fs)) (c : Cls X.K C) (n : NoAttr X.K C f) (l : fs.lookup f = some v)
    (h : ∀ u s', Inv X pins σ H s' → RelV v u → Q u s') : wpAny (model X.prog X.w) A (getAttr (.ref a) f b) Q E s := by
  obtain ⟨mA, O, r, _, _, _⟩ := ins_get I.hok e
  obtain ⟨u, hu, ru⟩ := RelO.some_of (v := v) (o := mA f) (by rw [← l]; exact r f)
  exact get_map I.kIn O (c.get f) c.hd n hu (handed_of ru) (h u _ (I.tok _) ru)

theorem getcon_ok {b : Bool} {u : Value} {Q : Value → Shared → Prop} (I : Inv X pins σ H s) (e : H a = some (.ins C dx fs)) (c : Cls X.K C) (k : Con X.K C f v u) (l : fs.lookup f = none)
    (h : ∀ s', Inv X pins σ H s' → Q u s') : wpAny (model X.prog X.w) A (getAttr (.ref a) f b) Q E s := by
  obtain ⟨mA, O, r, _, _, _⟩ := ins_get I.hok e
  have hn : mA f = none := RelO.none_of (by rw [← l]; exact r f)
  exact get_const I.kIn O (c.get f) c.hd k.at_ k.get k.cp hn (handed_of k.rel) (h _ (I.tok _))

theorem getmeth_ok {m : Str} {g : Addr} {pl : Sem Bool} {Q : Value × List Value → Shared → Prop} (I : Inv X pins σ H s) (e : H a = some (.ins C dx fs)) (c : Cls X.K C) (k : Meth X.K C m g) (l : fs.lookup m = none)
    (h : Q (.ref g, [.ref a]) s) : wpAny (model X.prog X.w) A (getMethod (.ref a) m pl) Q E s := by
  obtain ⟨mA, O, r, _, _, _⟩ := ins_get I.hok e
  have hn : mA m = none := RelO.none_of (by rw [← l]; exact r m)
  exact get_meth I.kIn O (c.get m) k.at_ k.fn hn h

theorem setattr_ok {y : V} {u : Value} {Q : Unit → Shared → Prop} (I : Inv X pins σ H s) (e : H a = some (.ins C dx fs)) (c : Cls X.K C) (n : NoAttr X.K C f) (hl : fs.length < 1000) (ry : RelV y u)
    (h : ∀ s', Inv X pins σ (upd H a (.ins C dx (putF f y fs))) s' → Q () s') : wpAny (model X.prog X.w) A (setAttr (.ref a) f u) Q E s := by
  obtain ⟨mA, O, r, wi, _, ho⟩ := ins_get I.hok e
  have hz : (fs.map (·.1)).length ≤ sizeLine := by rw [List.length_map, sizeLine_eq]; omega
  refine set_map I.kIn O c.sa c.po n.taker c.hd wi hz fun h' O' sb => h _ ?_
  have hd : ∃ o, h'.get? dx = some o := let ⟨o, _, _, e', _⟩ := O'.ns; ⟨o, e'⟩
  refine I.write (x := a) (e := dx) (by rw [e]; exact True.intro) (.inr ho) (fun b q hb z => (sb.2 b hb).trans z) hd ?_
  refine ⟨by rw [upd_ne O.ne]; exact ho, ?_, O.ne, O'.obj, _, O'.ns, fun g => ?_, fun g hg => ?_⟩
  · have := length_putF f y fs; omega
  · show RelO ((putF f y fs).lookup g) (if g = f then some u else mA g)
    rw [lookup_putF]
    by_cases q : g = f
    · rw [if_pos q, if_pos q]; exact ry
    · rw [if_neg q, if_neg q]; exact r g
  · by_cases q : g = f
    · rw [q]; exact (keys_putF f y fs).1
    · refine (keys_putF f y fs).2 g (wi g fun z => hg ?_)
      show (if g = f then some u else mA g) = none
      rw [if_neg q]; exact z

/-- a new instance, tracked, without attributes -/
theorem Inv.made (I : Inv X pins σ H s) : Inv X pins σ (upd (upd H s.heap.objs.size (.own (s.heap.objs.size + 1))) (s.heap.objs.size + 1) (.ins C s.heap.objs.size []))
    { s with heap := (s.heap.push PySem.W.emptyDict).push (PySem.W.instObj C s.heap.objs.size) } := by
  have e1 : (s.heap.push PySem.W.emptyDict).get? s.heap.objs.size = some PySem.W.emptyDict := Heap.get?_push_size s.heap rfl
  have e2 : ((s.heap.push PySem.W.emptyDict).push (PySem.W.instObj C s.heap.objs.size)).get? (s.heap.objs.size + 1) = some (PySem.W.instObj C s.heap.objs.size) := by
    have := Heap.get?_push_size (s.heap.push PySem.W.emptyDict) (o := PySem.W.instObj C s.heap.objs.size) rfl
    rwa [Heap.size_push] at this
  have e3 : (s.heap.push PySem.W.emptyDict).Ns s.heap.objs.size (fun _ => none) := ⟨PySem.W.emptyDict, #[], _, e1, rfl, (fun e he => absurd he (by simp)), fun _ => rfl⟩
  have I1 := I.laid (a := s.heap.objs.size) (o := .own (s.heap.objs.size + 1)) (h' := s.heap.push PySem.W.emptyDict) (t' := s.toks) (fun b u q => Heap.get?_push_of_some _ q) (Nat.le_refl _) ⟨_, e1⟩
  refine I1.laid (a := s.heap.objs.size + 1) (o := .ins C s.heap.objs.size []) (t' := s.toks) (fun b u q => Heap.get?_push_of_some _ q) (Nat.le_of_eq (Heap.size_push _ _)) ?_
  have ne : s.heap.objs.size ≠ s.heap.objs.size + 1 := Nat.ne_of_lt (Nat.lt_succ_self _)
  refine ⟨by rw [upd_ne ne, upd_same], Nat.zero_le _, ne, e2, fun _ => none, (Heap.Ns1.of_empty e3).at fun o q => Heap.get?_push_of_some _ q, fun _ => True.intro, fun y hy => absurd rfl hy⟩

/-- e.f where nothing but the object is asked: through attributeBase (super) and the last hold -/
theorem attr_of {prog : Program} {w : World} {env : Env} {e : Expr} {f : Str} {pos : Pos} {s : Shared} {Q : Value → Shared → Prop} (hb : attributeBase e f env (eval e env) = eval e env)
    (h : wpAny (model prog w) A (eval e env) (fun o s₁ => wpAny (model prog w) A (getAttr o f true) Q E s₁) E s) : wpAny (model prog w) A (eval (.Attribute e f pos) env) Q E s :=
  Attribute_any_ h (by rw [arm_eval_Attribute, hb])
end

/-! ### readings and rules -/
/-- e.f, an attribute of the instance -/
def tFld (K : PySem.W.Frag) (ta : TE) (f : Str) : TE := fun σ H Q => ta σ H fun x H1 => ∃ a C dx fs v, x = .ref a ∧ H1 a = some (.ins C dx fs) ∧ Cls K C ∧ NoAttr K C f ∧ fs.lookup f = some v ∧ Q v H1
/-- e.f, a constant of the class -/
def tCon (K : PySem.W.Frag) (ta : TE) (f : Str) : TE := fun σ H Q => ta σ H fun x H1 => ∃ a C dx fs v u, x = .ref a ∧ H1 a = some (.ins C dx fs) ∧ Cls K C ∧ Con K C f v u ∧ fs.lookup f = none ∧ Q v H1
/-- e.f = value -/
def sFld (K : PySem.W.Frag) (ta tv : TE) (f : Str) : TS := fun D σ H => tv σ H fun y H1 => ta σ H1 fun x H2 => ∃ a C dx fs, x = .ref a ∧ H2 a = some (.ins C dx fs) ∧ Cls K C ∧ NoAttr K C f ∧ fs.length < 1000 ∧
  D.nx σ (upd H2 a (.ins C dx (putF f y fs)))
/-- an augmented operator on two values -/
def InOp (X : Cx) (op : Operator) (rd : V → V → Hp → VK → Prop) : Prop :=
  ∀ (pins : List (Addr × Obj)) (s : Shared) (σ : St) (H : Hp) (x y : V) (u v : Value) (Q : VK), Inv X pins σ H s → RelV x u → RelV y v → rd x y H Q → wpAny (model X.prog X.w) X.A (inplaceOp op u v) (EP X pins σ Q) X.xe s
/-- e.f op= value -/
def sFldAug (K : PySem.W.Frag) (ta tv : TE) (rd : V → V → Hp → VK → Prop) (f : Str) : TS := fun D σ H => ta σ H fun x H1 => ∃ a C dx fs v, x = .ref a ∧ H1 a = some (.ins C dx fs) ∧ Cls K C ∧ NoAttr K C f ∧ fs.lookup f = some v ∧
  tv σ H1 fun y H2 => rd v y H2 fun z H3 => ∃ dx' fs', H3 a = some (.ins C dx' fs') ∧ fs'.length < 1000 ∧ D.nx σ (upd H3 a (.ins C dx' (putF f z fs')))

section
variable {X : Cx} {o e value : Expr} {f : Str} {pos pos' tpos : Pos} {ta tv : TE}
theorem pe_fld (he : PE X e ta) (hb : attributeBase e f X.env (eval e X.env) = eval e X.env) : PE X (.Attribute e f pos) (tFld X.K ta f) := by
  intro pins s σ H Q I h
  refine attr_of hb (thn (he pins s σ H _ I h) fun u s1 ⟨x, H1, I1, rx, a, C, dx, fs, v, ex, ea, c, n, l, q⟩ => ?_)
  subst ex
  obtain rfl : u = Value.ref a := rx
  exact getattr_ok I1 ea c n l fun u' s2 I2 ru => ⟨v, H1, I2, ru, q⟩
theorem pe_con (he : PE X e ta) (hb : attributeBase e f X.env (eval e X.env) = eval e X.env) : PE X (.Attribute e f pos) (tCon X.K ta f) := by
  intro pins s σ H Q I h
  refine attr_of hb (thn (he pins s σ H _ I h) fun u s1 ⟨x, H1, I1, rx, a, C, dx, fs, v, u0, ex, ea, c, k, l, q⟩ => ?_)
  subst ex
  obtain rfl : u = Value.ref a := rx
  exact getcon_ok I1 ea c k l fun s2 I2 => ⟨v, H1, I2, k.rel, q⟩
theorem ps_fld (ha : PE X o ta) (hv : PE X value tv) (hs : swapsWith value (some (.Attribute o f pos')) pos.line X.env = pure false) : PS X (.Assign [.Attribute o f pos'] value pos) (sFld X.K ta tv f) := by
  intro pins s σ H D I h
  refine plainObj_wpAny_Assign_Attribute (thn (hv pins s σ H _ I h) fun u s1 ⟨y, H1, I1, ry, q⟩ => thn (ha pins s1 σ H1 _ I1 q) fun ov s2 ⟨x, H2, I2, rx, a, C, dx, fs, ex, ea, c, n, l, q2⟩ => ?_) hs
  subst ex
  obtain rfl : ov = Value.ref a := rx
  exact setattr_ok I2 ea c n l ry fun s3 I3 => ⟨σ, _, I3, q2⟩
theorem ps_fldaug {op : Operator} {rd : V → V → Hp → VK → Prop} (ha : PE X o ta) (hv : PE X value tv) (hop : InOp X op rd) : PS X (.AugAssign (.Attribute o f tpos) op value pos) (sFldAug X.K ta tv rd f) := by
  intro pins s σ H D I h
  refine wpAny_AugAssign_AttributeAny (thn (ha pins s σ H _ I h) fun ov s1 ⟨x, H1, I1, rx, a, C, dx, fs, v, ex, ea, c, n, l, q⟩ => ?_)
  subst ex
  obtain rfl : ov = Value.ref a := rx
  refine getattr_ok I1 ea c n l fun u s2 I2 ru => thn (hv pins s2 σ H1 _ I2 q) fun w3 s3 ⟨y, H2, I3, ry, q3⟩ => thn (hop pins s3 σ H2 v y u w3 _ I3 ru ry q3) fun w4 s4 ⟨z, H3, I4, rz, dx', fs', ea', l', q4⟩ => ?_
  exact setattr_ok I4 ea' c n l' rz fun s5 I5 => ⟨σ, _, I5, q4⟩
def rAdd : V → V → Hp → VK → Prop := fun x y H Q => ∃ i j, x = .int i ∧ y = .int j ∧ Q (.int (i + j)) H
def rSub : V → V → Hp → VK → Prop := fun x y H Q => ∃ i j, x = .int i ∧ y = .int j ∧ Q (.int (i - j)) H
theorem in_add : InOp X .Add rAdd := by
  rintro pins s σ H x y u v Q I rx ry ⟨i, j, rfl, rfl, q⟩
  obtain ⟨t, rfl⟩ := (show ∃ t, u = Value.int i t from rx)
  obtain ⟨t', rfl⟩ := (show ∃ t', v = Value.int j t' from ry)
  exact PyProof.Rows.iadd_int ⟨.int (i + j), H, I.tok _, ⟨_, rfl⟩, q⟩
theorem in_sub : InOp X .Sub rSub := by
  rintro pins s σ H x y u v Q I rx ry ⟨i, j, rfl, rfl, q⟩
  obtain ⟨t, rfl⟩ := (show ∃ t, u = Value.int i t from rx)
  obtain ⟨t', rfl⟩ := (show ∃ t', v = Value.int j t' from ry)
  exact PyProof.Rows.isub_int ⟨.int (i - j), H, I.tok _, ⟨_, rfl⟩, q⟩

/-- what is between an instance and its method: the tree of a method call -/
theorem methcall_of {pl : Sem Bool} {m : Str} {apos : Pos} {args : List Expr} {pins : List (Addr × Obj)} {s : Shared} {σ : St} {H : Hp} {Q : Value → Shared → Prop} {te : TE} (he : PE X e te) (I : Inv X pins σ H s)
    (h : te σ H fun x H1 => ∃ a C dx fs g, x = .ref a ∧ H1 a = some (.ins C dx fs) ∧ Cls X.K C ∧ Meth X.K C m g ∧ fs.lookup m = none ∧
      ∀ s1, Inv X pins σ H1 s1 → wpAny (model X.prog X.w) X.A (callWith pos (.ref g) [.ref a] (backTo pos (starEach args X.env)) (backToKw pos (keywordEach [] X.env))) Q X.xe s1)
    (ht : eval (.Call (.Attribute e m apos) args [] pos) X.env = (do
      let ov ← eval e X.env
      standAt apos.atName
      let (f, first) ← holding [ov] (getMethod ov m pl)
      callWith pos f first (backTo pos (starEach args X.env)) (backToKw pos (keywordEach [] X.env)))) :
    wpAny (model X.prog X.w) X.A (eval (.Call (.Attribute e m apos) args [] pos) X.env) Q X.xe s := by
  refine PySem.W.methodCall_KW (pl := pl) (thn (he pins s σ H _ I h) fun u s1 ⟨x, H1, I1, rx, a, C, dx, fs, g, ex, ea, c, k, l, q⟩ => ?_) ht
  subst ex
  obtain rfl : u = Value.ref a := rx
  exact getmeth_ok I1 ea c k l (q s1 I1)
end

/-! ### isinstance -/
section
variable {X : Cx} {pins : List (Addr × Obj)} {σ : St} {H : Hp} {s : Shared} {A : Around} {E : Value → Shared → Prop} {Q : Value → Shared → Prop} {c : Value} {b : Bool}
/-- the type of a value, as the fragment's deciders take it; for an instance its class -/
inductive TyOf (K : PySem.W.Frag) (H : Hp) : V → Value → Prop where
  | non : TyOf K H .non (.type "NoneType")
  | bl (x : Bool) : TyOf K H (.bl x) (.type "bool")
  | int (i : Int) : TyOf K H (.int i) (.type "int")
  | str (x : Str) : TyOf K H (.str x) (.type "str")
  | flt (x : UInt64) : TyOf K H (.flt x) (.type "float")
  | lst {a : Addr} {xs : List V} (e : H a = some (.lst xs)) : TyOf K H (.ref a) (.type "list")
  | frz {a : Addr} {o : Obj} {xs : List V} (e : H a = some (.frz o (.lst xs))) : TyOf K H (.ref a) (.type "list")
  | tup {a : Addr} {xs : List V} (e : H a = some (.tup xs)) : TyOf K H (.ref a) (.type "tuple")
  | dK {a : Addr} {kvs : List (Key × V)} (e : H a = some (.dK kvs)) : TyOf K H (.ref a) (.type "dict")
  | dT {a : Addr} {kvs : List (List Key × V)} (e : H a = some (.dT kvs)) : TyOf K H (.ref a) (.type "dict")
  | ins {a C dx : Addr} {fs : List (Str × V)} (e : H a = some (.ins C dx fs)) (cl : Cls K C) (ha : PySem.W.findIn K (.ref C) "__class__" = some (some (.builtin "object.__class__")))
      (hn : PySem.W.specialIn K (.builtin "object.__class__") "__get__" = some (some (.builtin "getset_descriptor.__get__"))) (htk : PySem.W.takesIn K (.builtin "object.__class__") = some true)
      (hm : PySem.W.mroIn K C (.type "object") = some true) : TyOf K H (.ref a) (.ref C)
/-- isinstance(x, c) for one class c, a built-in or an own one: kitOne's answer -/
theorem isinst_ok {x : V} {u t : Value} (I : Inv X pins σ H s) (rx : RelV x u) (ty : TyOf X.K H x t) (e : PySem.W.kitOne X.K t c = some b) (h : ∀ tk, Q (.bool b) { s with toks := tk }) :
    wpAny (model X.prog X.w) A (call (.builtin "isinstance") [u, c]) Q E s := by
  cases ty with
  | non => cases (show u = Value.none from rx); exact PySem.W.kia_one PySem.W.kitx_none I.kIn True.intro e (fun z => nomatch z) h
  | bl y => cases (show u = Value.bool y from rx); exact PySem.W.kia_one PySem.W.kitx_bool I.kIn True.intro e (fun z => nomatch z) h
  | int i => obtain ⟨t, q⟩ := (show ∃ t, u = Value.int i t from rx); cases q; exact PySem.W.kia_one PySem.W.kitx_int I.kIn True.intro e (fun z => nomatch z) h
  | str y => obtain ⟨t, q⟩ := (show ∃ t, u = Value.str y t from rx); cases q; exact PySem.W.kia_one PySem.W.kitx_str I.kIn True.intro e (fun z => nomatch z) h
  | flt y => obtain ⟨t, q⟩ := (show ∃ t, u = Value.float y t from rx); cases q; exact PySem.W.kia_one PySem.W.kitx_float I.kIn True.intro e (fun z => nomatch z) h
  | @lst a xs ea =>
    cases (show u = Value.ref a from rx)
    obtain ⟨_, _, n, _, h1⟩ := (show ObjOk X.prog X.w H s.heap a (.lst xs) from I.hok a _ ea)
    exact PySem.W.kia_one PySem.W.kitx_list I.kIn ⟨_, h1, rfl⟩ e (fun z => nomatch z) h
  | @frz a ob xs ea =>
    cases (show u = Value.ref a from rx)
    obtain ⟨_, _, _, n, _, h1⟩ := (show ObjOk X.prog X.w H s.heap a (.frz ob (.lst xs)) from I.hok a _ ea)
    exact PySem.W.kia_one PySem.W.kitx_list I.kIn ⟨_, h1, rfl⟩ e (fun z => nomatch z) h
  | @tup a xs ea =>
    cases (show u = Value.ref a from rx)
    obtain ⟨_, _, _, p⟩ := (show ObjOk X.prog X.w H s.heap a (.tup xs) from I.hok a _ ea)
    obtain ⟨o, h1, h2, _⟩ := p
    exact PySem.W.kia_one PySem.W.kitx_tuple I.kIn ⟨o, h1, h2⟩ e (fun z => nomatch z) h
  | @dK a kvs ea =>
    cases (show u = Value.ref a from rx)
    obtain ⟨_, _, vs, _, p⟩ := (show ObjOk X.prog X.w H s.heap a (.dK kvs) from I.hok a _ ea)
    obtain ⟨o, es, ep, h1, h2, _⟩ := p
    exact PySem.W.kia_one PySem.W.kitx_dict I.kIn ⟨o, h1, h2.1⟩ e (fun z => nomatch z) h
  | @dT a kvs ea =>
    cases (show u = Value.ref a from rx)
    obtain ⟨_, _, xs, _, o, es, ep, h1, h2, _⟩ := (show ObjOk X.prog X.w H s.heap a (.dT kvs) from I.hok a _ ea)
    exact PySem.W.kia_one PySem.W.kitx_dict I.kIn ⟨o, h1, h2.1⟩ e (fun z => nomatch z) h
  | @ins a C dx fs ea cl ha hn htk hm =>
    cases (show u = Value.ref a from rx)
    obtain ⟨mA, O, _⟩ := ins_get I.hok ea
    obtain ⟨od, J, _⟩ := O.look
    exact PySem.W.kia_one (PySem.W.kitx_own (cl.get _) cl.hd ha hn htk hm) I.kIn J e (fun z => nomatch z) h
end
end L2

namespace L2
open PySem PySem.Spec PyProof.Rows

/-! ### room -/
structure Room (k : Nat) (A : Around) : Prop where
  hd : A.handled = none
  dp : A.depth + 3 * k + 5 < recursionLimit
  un : A.units + 16 * k + 200 < cLine
theorem Room.mono {j k : Nat} {A : Around} (r : Room k A) (h : j ≤ k) : Room j A := ⟨r.hd, by have := r.dp; omega, by have := r.un; omega⟩
theorem Room.deeper {k : Nat} {A : Around} (r : Room (k + 1) A) (env : Env) : Room k (A.deeper env) :=
  ⟨r.hd, by have := r.dp; show A.depth + 1 + 3 * k + 5 < _; omega, by have := r.un; show A.units + 3 + 16 * k + 200 < _; omega⟩
theorem Room.in1 {k : Nat} {A : Around} (r : Room (k + 1) A) : Room k A.in1 :=
  ⟨r.hd, by have := r.dp; show A.depth + 3 * k + 5 < _; omega, by have := r.un; show A.units + 1 + 16 * k + 200 < _; omega⟩
theorem make_depth {A : Around} {C : Addr} {us : List Value} {kw : List (Str × Value)} : (A.under (.builtin "type.__call__" ⟨.ref C :: us, kw⟩)).depth = A.depth + 1 := by
  first | rfl | simp [Around.under, Code.weight, Code.isCreation, Code.isGuard, Code.isCaller, Code.frames, Code.isFrame, guardIds]
theorem make_units {A : Around} {C : Addr} {us : List Value} {kw : List (Str × Value)} : (A.under (.builtin "type.__call__" ⟨.ref C :: us, kw⟩)).units = A.units + 1 := by
  first | rfl | simp [Around.under, Code.cUnits, Code.frames, Code.isFrame]
theorem Room.make {k : Nat} {A : Around} (r : Room (k + 1) A) (C : Addr) (us : List Value) (kw : List (Str × Value)) : Room k (A.under (.builtin "type.__call__" ⟨.ref C :: us, kw⟩)) :=
  ⟨r.hd, by have := r.dp; rw [make_depth]; omega, by have := r.un; rw [make_units]; omega⟩
theorem Room.depth {k : Nat} {A : Around} (r : Room k A) : A.depth < recursionLimit := by have := r.dp; omega
theorem Room.units {k : Nat} {A : Around} (r : Room k A) : A.units + 64 < cLine := by have := r.un; omega
theorem Room.units0 {k : Nat} {A : Around} (r : Room k A) : A.units < cLine := by have := r.un; omega

/-! ### argument lists and displays -/
def tNil : TA := fun _ H Q => Q [] H
def tCons (ta : TE) (tr : TA) : TA := fun σ H Q => ta σ H fun x H1 => tr σ H1 fun xs H2 => Q (x :: xs) H2
section
variable {X : Cx} {e : Expr} {es : List Expr} {te : TE} {t : TA} {pos : Pos}
theorem pa_nil : PA X [] tNil := fun _ _ _ _ H Q I h => Calls.spliced_nil ⟨[], H, I, .nil, h⟩
theorem pa_cons (ha : PE X e te) (hr : PA X es t) (hs : starEach (e :: es) X.env = (false, eval e X.env) :: starEach es X.env := by rfl) : PA X (e :: es) (tCons te t) := by
  intro pos pins s σ H Q I h
  rw [hs]
  show wpAny _ _ (spliced ((false, eval e X.env) :: backTo pos (starEach es X.env))) _ _ s
  refine Calls.spliced_cons (thn (ha pins s σ H _ I h) fun u s1 ⟨x, H1, I1, r1, q1⟩ => ?_)
  exact thn (hr pos pins s1 σ H1 _ I1 q1) fun us s2 ⟨xs, H2, I2, r2, q2⟩ => ⟨x :: xs, H2, I2, .cons r1 r2, q2⟩

/-- a tuple, a list of written items -/
def tTup (t : TA) : TE := fun σ H Q => t σ H fun xs H1 => xs.length ≤ sizeLine ∧ ∀ p, H1 p = none → Q (.ref p) (upd H1 p (.tup xs))
def tLst (t : TA) : TE := fun σ H Q => t σ H fun xs H1 => xs.length ≤ sizeLine ∧ ∀ p, H1 p = none → Q (.ref p) (upd H1 p (.lst xs))
theorem pe_tup {x1} (h : PA X es t) : PE X (.Tuple es x1 pos) (tTup t) := by
  intro pins s σ H Q I hq
  refine wpAny_Tuple_spliced (thn (h pos pins s σ H _ I hq) fun us s1 ⟨xs, H1, I1, r, z, q⟩ => ⟨by rw [← r.length]; exact z, ?_⟩)
  have hf : H1 s1.heap.objs.size = none := I1.hok.fresh (Nat.le_refl _)
  refine ⟨.ref s1.heap.objs.size, upd H1 s1.heap.objs.size (.tup xs), I1.laid (t' := s1.toks) (fun b u e => Heap.get?_push_of_some _ e) (Nat.le_refl _) ?_, rfl, q _ hf⟩
  exact ⟨z, us, r, ⟨_, Heap.get?_push_size _ rfl, rfl, _, rfl⟩⟩
theorem pe_lst (h : PA X es t) : PE X (.List es pos) (tLst t) := by
  intro pins s σ H Q I hq
  refine wpAny_List_spliced (thn (h pos pins s σ H _ I hq) fun us s1 ⟨xs, H1, I1, r, z, q⟩ => ⟨by rw [← r.length]; exact z, ?_⟩)
  have hf : H1 s1.heap.objs.size = none := I1.hok.fresh (Nat.le_refl _)
  refine ⟨.ref s1.heap.objs.size, upd H1 s1.heap.objs.size (.lst xs), I1.laid (t' := s1.toks) (fun b u e => Heap.get?_push_of_some _ e) (Nat.le_refl _) ?_, rfl, q _ hf⟩
  exact ⟨z, us, 0, r, Heap.get?_push_size _ rfl⟩
end

/-! ### what a def promises -/
/-- a def's promise: the bound arguments in the parameters' order, the heap, the wanted end, the wanted exception -/
abbrev Sp := List V → Hp → VK → XK → Prop
/-- how an exception lies behind a call (file 08 gives it): the callers' frames, abstract heap and state ahead of the call, the wish, the exception, the state -/
abbrev CXT := List Env → Hp → Shared → XK → Value → Shared → Prop

/-- the state at a call -/
structure Env0 (P : Program) (w : World) (K : PySem.W.Frag) (mg : Str → Option Value) (base : Heap) (A : Around) (outer : List Env) (s : Shared) (H : Hp) : Prop where
  frames : A.frames = some outer
  mod : Mod K mg base
  bs : ∀ b o, base.get? b = some o → s.heap.get? b = some o ∧ H b = none
  bsz : base.objs.size ≤ s.heap.objs.size
  funs : s.heap.FunFrames base outer
  frf : ∀ b ∈ frs outer, H b = none
  hok : HOk P w H s.heap
  bare : AllBare s.gens
/-- a call's end -/
def CE (outer : List Env) (P : Program) (w : World) (H : Hp) (s : Shared) (Q : VK) (u : Value) (s' : Shared) : Prop :=
  ∃ v H', s'.os = s.os ∧ AllBare s'.gens ∧ Un (frs outer) [] H H' s.heap s'.heap ∧ HOk P w H' s'.heap ∧ RelV v u ∧ Q v H'
def CR (CX : CXT) (outer : List Env) (P : Program) (w : World) (H : Hp) (s : Shared) (Q : VK) (E : XK) (r : Result) (s' : Shared) : Prop :=
  match r with
  | .ok (.ret u) => CE outer P w H s Q u s'
  | .ok _ => False
  | .error e => CX outer H s E e s'
structure FnOk (P : Program) (w : World) (K : PySem.W.Frag) (mg : Str → Option Value) (base : Heap) (CX : CXT) (k : Nat) (f : Addr) (fd : FuncData) (ps : List Str) (sp : Sp) : Prop where
  len : ∀ vs H Q E, sp vs H Q E → vs.length = ps.length
  run : ∀ (A : Around) (outer : List Env) (s : Shared) (H : Hp) (args : Args) (us : List Value) (vs : List V) (Q : VK) (E : XK), Room k A → Env0 P w K mg base A outer s H → BindsTo s fd args (ps.zip us) → Vals vs us → sp vs H Q E →
    codeAny (model P w) A (.call (.ref f) args) (CR CX outer P w H s Q E) s
theorem FnOk.mono {P : Program} {w : World} {K : PySem.W.Frag} {mg : Str → Option Value} {base : Heap} {CX : CXT} {j k : Nat} {f : Addr} {fd : FuncData} {ps : List Str} {sp : Sp} (F : FnOk P w K mg base CX j f fd ps sp) (h : j ≤ k) :
    FnOk P w K mg base CX k f fd ps sp := ⟨F.len, fun A outer s H args us vs Q E hr => F.run A outer s H args us vs Q E (hr.mono h)⟩
/-- a weaker promise -/
theorem FnOk.imp {P : Program} {w : World} {K : PySem.W.Frag} {mg : Str → Option Value} {base : Heap} {CX : CXT} {k : Nat} {f : Addr} {fd : FuncData} {ps : List Str} {sp sp' : Sp} (F : FnOk P w K mg base CX k f fd ps sp)
    (h : ∀ vs H Q E, sp' vs H Q E → sp vs H Q E) : FnOk P w K mg base CX k f fd ps sp' :=
  ⟨fun vs H Q E q => F.len vs H Q E (h _ _ _ _ q), fun A outer s H args us vs Q E hr he hb hv hs => F.run A outer s H args us vs Q E hr he hb hv (h _ _ _ _ hs)⟩

theorem Env0.make {P : Program} {w : World} {K : PySem.W.Frag} {mg : Str → Option Value} {base : Heap} {A : Around} {outer : List Env} {s : Shared} {H : Hp} (e : Env0 P w K mg base A outer s H) (C : Addr) (us : List Value) (kw : List (Str × Value)) :
    Env0 P w K mg base (A.under (.builtin "type.__call__" ⟨.ref C :: us, kw⟩)) outer s H := ⟨by first | exact e.frames | (simpa [Around.under, Code.envs, Code.isFrame, pushEnvs] using e.frames), e.mod, e.bs, e.bsz, e.funs, e.frf, e.hok, e.bare⟩
theorem Env0.in1 {P : Program} {w : World} {K : PySem.W.Frag} {mg : Str → Option Value} {base : Heap} {A : Around} {outer : List Env} {s : Shared} {H : Hp} (e : Env0 P w K mg base A outer s H) :
    Env0 P w K mg base A.in1 outer s H := ⟨e.frames, e.mod, e.bs, e.bsz, e.funs, e.frf, e.hok, e.bare⟩

section
variable {X : Cx} {pins : List (Addr × Obj)} {σ : St} {H : Hp} {s s' : Shared}
/-- from a body: what a callee wants -/
theorem Inv.env0 (I : Inv X pins σ H s) : Env0 X.prog X.w X.K X.mg X.base X.A X.stack s H :=
  ⟨I.ok.frames, I.ok.mod, I.bs, Nat.le_trans I.ok.bsz I.sz, I.stack, I.stkFree, I.hok, I.bare⟩
/-- behind a call -/
theorem Inv.after {Q : VK} {u : Value} (I : Inv X pins σ H s) (h : CE X.stack X.prog X.w H s Q u s') : EP X pins σ Q u s' := by
  obtain ⟨v, H', os, bare, un, hok, r, q⟩ := h
  obtain ⟨hh, g, d, t, os'⟩ := s'
  obtain rfl : os' = s.os := os
  exact ⟨v, H', I.call (h' := hh) (g' := g) (d' := d) (t' := t) (ch := []) un hok bare (fun b z => absurd z (by simp)), r, q⟩
end

/-! ### calls -/
/-- f(..): the written arguments, then the defaults dvs; E: what is wanted of an exception -/
def tCall (sp : Sp) (dvs : List V) (E : XK) (t : TA) : TE := fun σ H Q => t σ H fun vs H1 => sp (vs ++ dvs) H1 Q E
/-- o.m(..) of an instance of the class at C -/
def tMeth (C : Addr) (m : Str) (sp : Sp) (dvs : List V) (E : XK) (ta : TE) (t : TA) : TE := fun σ H Q => ta σ H fun x H1 => ∃ a dx fs, x = .ref a ∧ H1 a = some (.ins C dx fs) ∧ fs.lookup m = none ∧
  t σ H1 fun vs H2 => sp (x :: (vs ++ dvs)) H2 Q E
/-- C(..): a new instance and its dict, then __init__ -/
def tMake (C : Addr) (sp : Sp) (dvs : List V) (E : XK) (t : TA) : TE := fun σ H Q => t σ H fun vs H1 => ∀ x dx, H1 x = none → H1 dx = none → dx ≠ x →
  sp (.ref x :: (vs ++ dvs)) (upd (upd H1 dx (.own x)) x (.ins C dx [])) (fun v H2 => v = .non ∧ Q (.ref x) H2) E

/-- how the parameters are bound: us the positional arguments, kw the keywords' values by name, ds the defaults that fill up -/
def Binds (K : PySem.W.Frag) (fd : FuncData) (ps : List Str) (ds : List Value) : Prop :=
  ∀ (s : Shared) (us : List Value), K.In s.heap → (us ++ ds).length = ps.length → BindsTo s fd ⟨us, []⟩ (ps.zip (us ++ ds))
/-- every parameter is given -/
theorem Binds.all {K : PySem.W.Frag} {fd : FuncData} {ps : List Str} (h : ∀ us : List Value, us.length = ps.length → bindArgs fd ⟨us, []⟩ = pure (ps.zip us)) : Binds K fd ps [] := fun s us _ hl => by
  rw [List.append_nil] at hl ⊢
  exact .of_eq (h us hl)

/-- an exception of a callee reaches what this body wants of exceptions -/
def Passes (CX : CXT) (X : Cx) (E : XK) : Prop := ∀ (pins : List (Addr × Obj)) (σ : St) (H : Hp) (s : Shared) (e : Value) (s' : Shared), Inv X pins σ H s → CX X.stack H s E e s' → X.xe e s'

section
variable {X : Cx} {CX : CXT} {k : Nat} {f C : Addr} {fd : FuncData} {ps : List Str} {sp : Sp} {dvs : List V} {ds : List Value} {E : XK} {x m : Str} {p pos apos : Pos} {e o : Expr} {es : List Expr} {ta : TE} {t : TA}

/-- the callee runs -/
theorem run_fn {pins : List (Addr × Obj)} {σ : St} {H : Hp} {s : Shared} {Q : VK} {us : List Value} {vs : List V} (F : FnOk X.prog X.w X.K X.mg X.base CX k f fd ps sp) (hr : Room k X.A) (hb : Binds X.K fd ps ds) (hd : Vals dvs ds) (hx : Passes CX X E)
    (I : Inv X pins σ H s) (r : Vals vs us) (h : sp (vs ++ dvs) H Q E) : wpAny (model X.prog X.w) X.A (call (.ref f) us) (EP X pins σ Q) X.xe s := by
  have r2 : Vals (vs ++ dvs) (us ++ ds) := r.append hd
  have hl : (us ++ ds).length = ps.length := by rw [← r2.length]; exact F.len _ _ _ _ h
  refine wpAny_call (codeAny_mono (F.run X.A X.stack s H ⟨us, []⟩ (us ++ ds) (vs ++ dvs) Q E hr I.env0 (hb s us I.kIn hl) r2 h) fun r s' hq => ?_)
  cases r with
  | error e => exact hx pins σ H s e s' I hq
  | ok fl =>
    cases fl with
    | ret u => exact I.after hq
    | next => exact False.elim hq
    | brk => exact False.elim hq
    | cont => exact False.elim hq

theorem pe_call (F : FnOk X.prog X.w X.K X.mg X.base CX k f fd ps sp) (hr : Room k X.A) (hg : Gl X x) (hm : X.mg x = some (.ref f)) (hk : PySem.W.keepIn X.K (.ref f) = true) (hb : Binds X.K fd ps ds) (hd : Vals dvs ds) (hx : Passes CX X E)
    (ha : PA X (e :: es) t) (hdb : (x == ("__debug__" : Str)) = false := by decide) (he : starEach (e :: es) X.env = (false, eval e X.env) :: starEach es X.env := by rfl) (hpl : (backTo pos (starEach es X.env)).any (·.1) = false := by rfl) :
    PE X (.Call (.Name x p) (e :: es) [] pos) (tCall sp dvs E t) := by
  intro pins s σ H Q I h
  refine wpAny_Call_Name_kw (ld_glob I hg hm ?_ hdb)
  refine PySem.W.callWith_K (h₀ := X.base) I.ok.mod.kin hk (thn (ha pos pins s σ H _ I h) fun us s1 ⟨vs, H1, I1, r, q⟩ => ⟨I1.kIn, ?_⟩) he hpl
  exact run_fn F hr hb hd hx I1 r q
theorem pe_call0 (F : FnOk X.prog X.w X.K X.mg X.base CX k f fd ps sp) (hr : Room k X.A) (hg : Gl X x) (hm : X.mg x = some (.ref f)) (hk : PySem.W.keepIn X.K (.ref f) = true) (hb : Binds X.K fd ps ds) (hd : Vals dvs ds) (hx : Passes CX X E)
    (hdb : (x == ("__debug__" : Str)) = false := by decide) : PE X (.Call (.Name x p) [] [] pos) (tCall sp dvs E tNil) := by
  intro pins s σ H Q I h
  refine wpAny_Call_Name_kw (ld_glob I hg hm ?_ hdb)
  exact PySem.W.callWith_K0 I.kIn hk (run_fn (us := []) F hr hb hd hx I .nil h)

/-- o.m(e, ..) -/
theorem pe_meth {pl : Sem Bool} (he : PE X o ta) (c : Cls X.K C) (hm : Meth X.K C m f) (F : FnOk X.prog X.w X.K X.mg X.base CX k f fd ps sp) (hr : Room k X.A) (hb : Binds X.K fd ps ds) (hd : Vals dvs ds) (hx : Passes CX X E) (ha : PA X (e :: es) t)
    (hst : starEach (e :: es) X.env = (false, eval e X.env) :: starEach es X.env := by rfl) (hpl : (backTo pos (starEach es X.env)).any (·.1) = false := by rfl)
    (ht : eval (.Call (.Attribute o m apos) (e :: es) [] pos) X.env = (do
      let ov ← eval o X.env
      standAt apos.atName
      let (f, first) ← holding [ov] (getMethod ov m pl)
      callWith pos f first (backTo pos (starEach (e :: es) X.env)) (backToKw pos (keywordEach [] X.env))) := by rfl) :
    PE X (.Call (.Attribute o m apos) (e :: es) [] pos) (tMeth C m sp dvs E ta t) := by
  intro pins s σ H Q I h
  refine PySem.W.methodCall_KW (pl := pl) (thn (he pins s σ H _ I h) fun u s1 ⟨x, H1, I1, rx, a, dx, fs, ex, ea, l, q⟩ => ?_) ht
  subst ex
  obtain rfl : u = Value.ref a := rx
  refine getmeth_ok I1 ea c hm l ?_
  refine PySem.W.callWith_K (first := [.ref a]) (h₀ := X.base) I.ok.mod.kin hm.kp (thn (ha pos pins s1 σ H1 _ I1 q) fun us s2 ⟨vs, H2, I2, r, q2⟩ => ⟨I2.kIn, ?_⟩) hst hpl
  exact run_fn (us := .ref a :: us) (vs := .ref a :: vs) F hr hb hd hx I2 (.cons rfl r) q2
/-- o.m() -/
theorem pe_meth0 {pl : Sem Bool} (he : PE X o ta) (c : Cls X.K C) (hm : Meth X.K C m f) (F : FnOk X.prog X.w X.K X.mg X.base CX k f fd ps sp) (hr : Room k X.A) (hb : Binds X.K fd ps ds) (hd : Vals dvs ds) (hx : Passes CX X E)
    (ht : eval (.Call (.Attribute o m apos) [] [] pos) X.env = (do
      let ov ← eval o X.env
      standAt apos.atName
      let (f, first) ← holding [ov] (getMethod ov m pl)
      callWith pos f first (backTo pos (starEach [] X.env)) (backToKw pos (keywordEach [] X.env))) := by rfl) :
    PE X (.Call (.Attribute o m apos) [] [] pos) (tMeth C m sp dvs E ta tNil) := by
  intro pins s σ H Q I h
  refine PySem.W.methodCall_KW (pl := pl) (thn (he pins s σ H _ I h) fun u s1 ⟨x, H1, I1, rx, a, dx, fs, ex, ea, l, q⟩ => ?_) ht
  subst ex
  obtain rfl : u = Value.ref a := rx
  refine getmeth_ok I1 ea c hm l ?_
  exact PySem.W.callWith_K0 (first := [.ref a]) I1.kIn hm.kp (run_fn (us := [.ref a]) (vs := [.ref a]) F hr hb hd hx I1 (.cons rfl .nil) q)

/-- what a class must have to be made -/
structure Mk (K : PySem.W.Frag) (C f : Addr) : Prop where
  makes : PySem.W.makesIn K C = true
  init : PySem.W.findIn K (.ref C) "__init__" = some (some (.ref f))
  fn : PySem.W.isFn K (.ref f) = true
  kp : PySem.W.keepIn K (.ref C) = true

theorem run_make {pins : List (Addr × Obj)} {σ : St} {H : Hp} {s : Shared} {Q : VK} {us : List Value} {vs : List V} (M : Mk X.K C f) (F : FnOk X.prog X.w X.K X.mg X.base CX k f fd ps sp) (hr : Room (k + 1) X.A) (hb : Binds X.K fd ps ds) (hd : Vals dvs ds)
    (hx : Passes CX X E) (I : Inv X pins σ H s) (r : Vals vs us)
    (h : ∀ x dx, H x = none → H dx = none → dx ≠ x → sp (.ref x :: (vs ++ dvs)) (upd (upd H dx (.own x)) x (.ins C dx [])) (fun v H2 => v = .non ∧ Q (.ref x) H2) E) :
    wpAny (model X.prog X.w) X.A (call (.ref C) us) (EP X pins σ Q) X.xe s := by
  have hq := h (s.heap.objs.size + 1) s.heap.objs.size (I.hok.fresh (Nat.le_succ _)) (I.hok.fresh (Nat.le_refl _)) (Nat.ne_of_lt (Nat.lt_succ_self _))
  have I2 := Inv.made (C := C) I
  have r2 : Vals (V.ref (s.heap.objs.size + 1) :: (vs ++ dvs)) (Value.ref (s.heap.objs.size + 1) :: (us ++ ds)) := .cons rfl (r.append hd)
  have hl : (Value.ref (s.heap.objs.size + 1) :: us ++ ds).length = ps.length := by
    have e := r2.length
    rw [F.len _ _ _ _ hq] at e
    exact e.symm
  refine wpAny_call (make_map (f := f) I.kIn M.makes M.init (beq_iff_eq.mp M.fn) (codeAny_mono (F.run _ X.stack _ _ ⟨Value.ref (s.heap.objs.size + 1) :: us, []⟩ (Value.ref (s.heap.objs.size + 1) :: (us ++ ds)) _ _ E (hr.make C us [])
    (I2.env0.make C us []) (hb _ (Value.ref (s.heap.objs.size + 1) :: us) I2.kIn hl) r2 hq) fun r s' hq' => ?_))
  cases r with
  | error e => exact hx pins σ _ _ e s' I2 hq'
  | ok fl =>
    cases fl with
    | ret u =>
      obtain ⟨v, H', I3, rv, ev, q3⟩ := I2.after hq'
      subst ev
      exact ⟨rv, ⟨V.ref (s.heap.objs.size + 1), H', I3, rfl, q3⟩⟩
    | next => exact False.elim hq'
    | brk => exact False.elim hq'
    | cont => exact False.elim hq'
theorem pe_make (M : Mk X.K C f) (F : FnOk X.prog X.w X.K X.mg X.base CX k f fd ps sp) (hr : Room (k + 1) X.A) (hg : Gl X x) (hm : X.mg x = some (.ref C)) (hb : Binds X.K fd ps ds) (hd : Vals dvs ds) (hx : Passes CX X E)
    (ha : PA X (e :: es) t) (hdb : (x == ("__debug__" : Str)) = false := by decide) (he : starEach (e :: es) X.env = (false, eval e X.env) :: starEach es X.env := by rfl) (hpl : (backTo pos (starEach es X.env)).any (·.1) = false := by rfl) :
    PE X (.Call (.Name x p) (e :: es) [] pos) (tMake C sp dvs E t) := by
  intro pins s σ H Q I h
  refine wpAny_Call_Name_kw (ld_glob I hg hm ?_ hdb)
  refine PySem.W.callWith_K (h₀ := X.base) I.ok.mod.kin M.kp (thn (ha pos pins s σ H _ I h) fun us s1 ⟨vs, H1, I1, r, q⟩ => ⟨I1.kIn, ?_⟩) he hpl
  exact run_make M F hr hb hd hx I1 r q
theorem pe_make0 (M : Mk X.K C f) (F : FnOk X.prog X.w X.K X.mg X.base CX k f fd ps sp) (hr : Room (k + 1) X.A) (hg : Gl X x) (hm : X.mg x = some (.ref C)) (hb : Binds X.K fd ps ds) (hd : Vals dvs ds) (hx : Passes CX X E)
    (hdb : (x == ("__debug__" : Str)) = false := by decide) : PE X (.Call (.Name x p) [] [] pos) (tMake C sp dvs E tNil) := by
  intro pins s σ H Q I h
  refine wpAny_Call_Name_kw (ld_glob I hg hm ?_ hdb)
  exact PySem.W.callWith_K0 I.kIn M.kp (run_make (us := []) M F hr hb hd hx I .nil h)
end

/-! ### keywords -/
/-- the values of the keywords, from the left -/
def PK (X : Cx) (kws : List Keyword) (t : TA) : Prop :=
  ∀ (pos : Pos) (pins : List (Addr × Obj)) (s : Shared) (σ : St) (H : Hp) (Q : List V → Hp → Prop), Inv X pins σ H s → t σ H Q → wpAny (model X.prog X.w) X.A (evalAll ((backToKw pos (keywordEach kws X.env)).map (·.2))) (AP X pins σ Q) X.xe s
section
variable {X : Cx} {CX : CXT} {k : Nat} {f C : Addr} {fd : FuncData} {ps ks : List Str} {sp : Sp} {E : XK} {x m : Str} {p pos apos kpos : Pos} {e o : Expr} {es : List Expr} {kws : List Keyword} {te ta : TE} {t tk : TA} {nm : Option Str}
theorem pk_nil : PK X [] tNil := fun _ _ _ _ H Q I h => wpAny_evalAll_nil ⟨[], H, I, .nil, h⟩
theorem pk_cons (ha : PE X e te) (hr : PK X kws t) : PK X (⟨nm, e, kpos⟩ :: kws) (tCons te t) := by
  intro pos pins s σ H Q I h
  show wpAny _ _ (evalAll ((do let v ← eval e X.env; standAt pos; pure v) :: (backToKw pos (keywordEach kws X.env)).map (·.2))) _ _ s
  refine wpAny_evalAll_cons (wpAny_bind (thn (ha pins s σ H _ I h) fun u s1 ⟨x, H1, I1, r1, q1⟩ => wpAny_bind (wpAny_standAt (wpAny_pure ?_))))
  exact thn (hr pos pins s1 σ H1 _ I1 q1) fun us s2 ⟨xs, H2, I2, r2, q2⟩ => ⟨x :: xs, H2, I2, .cons r1 r2, q2⟩

/-- how a call with keywords binds: g puts the positional values us and the keywords' values ws (names ks) in the parameters' order, defaults among them -/
structure KBinds (K : PySem.W.Frag) (fd : FuncData) (ps ks : List Str) (g : List Value → List Value → List Value) (gV : List V → List V → List V) : Prop where
  to : ∀ (s : Shared) (us ws : List Value), K.In s.heap → (g us ws).length = ps.length → BindsTo s fd ⟨us, ks.zip ws⟩ (ps.zip (g us ws))
  rel : ∀ {vs : List V} {us : List Value} {zs : List V} {ws : List Value}, Vals vs us → Vals zs ws → Vals (gV vs zs) (g us ws)
def tCallK (sp : Sp) (gV : List V → List V → List V) (E : XK) (t tk : TA) : TE := fun σ H Q => t σ H fun vs H1 => tk σ H1 fun zs H2 => sp (gV vs zs) H2 Q E
variable {g : List Value → List Value → List Value} {gV : List V → List V → List V}
theorem run_fnk {pins : List (Addr × Obj)} {σ : St} {H : Hp} {s : Shared} {Q : VK} {us ws : List Value} {vs zs : List V} (F : FnOk X.prog X.w X.K X.mg X.base CX k f fd ps sp) (hr : Room k X.A) (hb : KBinds X.K fd ps ks g gV) (hx : Passes CX X E)
    (I : Inv X pins σ H s) (r : Vals vs us) (rz : Vals zs ws) (h : sp (gV vs zs) H Q E) : wpAny (model X.prog X.w) X.A (call (.ref f) us (ks.zip ws)) (EP X pins σ Q) X.xe s := by
  have r2 := hb.rel r rz
  have hl : (g us ws).length = ps.length := by rw [← r2.length]; exact F.len _ _ _ _ h
  refine wpAny_call (codeAny_mono (F.run X.A X.stack s H ⟨us, ks.zip ws⟩ (g us ws) (gV vs zs) Q E hr I.env0 (hb.to s us ws I.kIn hl) r2 h) fun r s' hq => ?_)
  cases r with
  | error e => exact hx pins σ H s e s' I hq
  | ok fl =>
    cases fl with
    | ret u => exact I.after hq
    | next => exact False.elim hq
    | brk => exact False.elim hq
    | cont => exact False.elim hq
/-- f(e, .., k = v, ..) -/
theorem pe_callK (F : FnOk X.prog X.w X.K X.mg X.base CX k f fd ps sp) (hr : Room k X.A) (hg : Gl X x) (hm : X.mg x = some (.ref f)) (hk : PySem.W.keepIn X.K (.ref f) = true) (hb : KBinds X.K fd ps ks g gV) (hx : Passes CX X E)
    (ha : PA X (e :: es) t) (hkw : PK X kws tk) (hall : (backToKw pos (keywordEach kws X.env)).all (·.1.isSome) = true := by rfl) (hks : (backToKw pos (keywordEach kws X.env)).filterMap (·.1) = ks := by rfl)
    (hdb : (x == ("__debug__" : Str)) = false := by decide) (he : starEach (e :: es) X.env = (false, eval e X.env) :: starEach es X.env := by rfl)
    (hpl : ((backTo pos (starEach (e :: es) X.env)).any (·.1) || (backToKw pos (keywordEach kws X.env)).any (·.1.isNone)) = false := by rfl) :
    PE X (.Call (.Name x p) (e :: es) kws pos) (tCallK sp gV E t tk) := by
  intro pins s σ H Q I h
  refine wpAny_Call_Name_kw (ld_glob I hg hm ?_ hdb)
  refine PySem.W.callWith_KW (h₀ := X.base) I.ok.mod.kin hk hall (thn (ha pos pins s σ H _ I h) fun us s1 ⟨vs, H1, I1, r, q⟩ => ?_) hpl he
  refine thn (hkw pos pins s1 σ H1 _ I1 q) fun ws s2 ⟨zs, H2, I2, rz, q2⟩ => ⟨I2.kIn, ?_⟩
  rw [hks]
  exact run_fnk F hr hb hx I2 r rz q2
end

/-! ### a def's body keeps its promise -/
/-- names: the parameters first -/
structure FnScope (N P : List Str) (sc : Scope) : Prop where
  kind : sc.kind = .function
  co : sc.isCoroutine = false
  gen : sc.isGenerator = false
  nd : N.Nodup
  pre : N.take P.length = P
  par : ∀ x ∈ P, sc.names.lookup x = some .local ∨ sc.names.lookup x = some .cell
  nofree : ∀ y ∈ sc.names, y.2 ≠ .free

theorem bindL_out {kindOf : Str → Option NameKind} {x : Str} : ∀ {binds : List (Str × Value)} {m : Str → Option Value}, (∀ v, (x, v) ∉ binds) → bindL kindOf binds m x = m x
  | [], _, _ => rfl
  | (n, v) :: r, m, h => by
    unfold bindL
    rw [bindL_out fun w hw => h w (List.mem_cons_of_mem _ hw)]
    split
    · have : x ≠ n := by rintro rfl; exact h v List.mem_cons_self
      simp [this]
    · rfl
theorem bindC_out {kindOf : Str → Option NameKind} {x : Str} : ∀ {binds : List (Str × Value)} {m : Str → Option Value}, (∀ v, (x, v) ∉ binds) → bindC kindOf binds m x = m x
  | [], _, _ => rfl
  | (n, v) :: r, m, h => by
    unfold bindC
    rw [bindC_out fun w hw => h w (List.mem_cons_of_mem _ hw)]
    split
    · rfl
    · have : x ≠ n := by rintro rfl; exact h v List.mem_cons_self
      simp [this]
theorem bindL_get {kindOf : Str → Option NameKind} {x : Str} {v : Value} : ∀ {P : List Str} {vs : List Value} {i : Nat} {m : Str → Option Value}, P.Nodup → P[i]? = some x → vs[i]? = some v → kindOf x = some .local →
    bindL kindOf (P.zip vs) m x = some v
  | [], _, _, _, _, h, _, _ => by simp at h
  | _ :: _, [], _, _, _, _, h, _ => by simp at h
  | p :: P, w :: vs, 0, m, nd, h1, h2, hk => by
    simp at h1 h2; subst h1; subst h2
    show bindL kindOf ((p, w) :: P.zip vs) m p = _
    unfold bindL
    rw [bindL_out fun v hv => (List.nodup_cons.mp nd).1 (List.of_mem_zip hv).1, if_pos hk]
    simp
  | p :: P, w :: vs, i + 1, m, nd, h1, h2, hk => by
    show bindL kindOf ((p, w) :: P.zip vs) m x = _
    unfold bindL
    exact bindL_get (i := i) (List.nodup_cons.mp nd).2 (by simpa using h1) (by simpa using h2) hk
theorem bindC_get {kindOf : Str → Option NameKind} {x : Str} {v : Value} : ∀ {P : List Str} {vs : List Value} {i : Nat} {m : Str → Option Value}, P.Nodup → P[i]? = some x → vs[i]? = some v → kindOf x ≠ some .local →
    bindC kindOf (P.zip vs) m x = some v
  | [], _, _, _, _, h, _, _ => by simp at h
  | _ :: _, [], _, _, _, _, h, _ => by simp at h
  | p :: P, w :: vs, 0, m, nd, h1, h2, hk => by
    simp at h1 h2; subst h1; subst h2
    show bindC kindOf ((p, w) :: P.zip vs) m p = _
    unfold bindC
    rw [bindC_out fun v hv => (List.nodup_cons.mp nd).1 (List.of_mem_zip hv).1, if_neg hk]
    simp
  | p :: P, w :: vs, i + 1, m, nd, h1, h2, hk => by
    show bindC kindOf ((p, w) :: P.zip vs) m x = _
    unfold bindC
    exact bindC_get (i := i) (List.nodup_cons.mp nd).2 (by simpa using h1) (by simpa using h2) hk

/-- the names' values at the entry -/
def start (N : List Str) (vs : List V) : St := vs.map some ++ List.replicate (N.length - vs.length) none

/-- the context of a def's body, at its entry; an exception leaves the frame, then lies as CX says -/
def cxOf (CX : CXT) (P : Program) (w : World) (K : PySem.W.Frag) (mg : Str → Option Value) (base : Heap) (N : List Str) (qual : Str) (scope : Scope) (f : Addr) (cd : Value) (A : Around) (outer : List Env) (s : Shared) (H : Hp) (E : XK) : Cx where
  prog := P
  w := w
  K := K
  mg := mg
  base := base
  A := A.deeper (envOfC qual scope s.heap.objs.size f cd)
  N := N
  s₀ := s
  H₀ := H
  env := envOfC qual scope s.heap.objs.size f cd
  outer := outer
  stack := envOfC qual scope s.heap.objs.size f cd :: outer
  ex := []
  calm := true
  fn := fun _ => true
  pn := []
  xe := fun e s' => wpAny (model P w) (A.deeper (envOfC qual scope s.heap.objs.size f cd)) (leaving (envOfC qual scope s.heap.objs.size f cd) e) (fun _ s'' => CX outer H s E e s'') (fun e' s'' => CX outer H s E e' s'') s'

theorem cell_has {sc : Scope} {n : Nat} {x : Str} (h : sc.names.lookup x = some .cell) : ∃ c, (cellsFrom n sc.names []).lookup x = some c := by
  have q := PySem.W.cellsFrom_some sc.names n [] (.inl h)
  exact Option.isSome_iff_exists.mp q

theorem inv_start {CX : CXT} {P : Program} {w : World} {K : PySem.W.Frag} {mg : Str → Option Value} {base : Heap} {N ps : List Str} {qual : Str} {scope : Scope} {f : Addr} {cd : Value} {A : Around} {outer : List Env} {s s1 : Shared} {H : Hp} {E : XK} {us : List Value} {vs : List V}
    (S : FnScope N ps scope) (hd : A.handled = none) (e0 : Env0 P w K mg base A outer s H) (hl : vs.length = ps.length) (r : Vals vs us)
    (x : InCallC s s.heap.objs.size (bindL (envOfC qual scope s.heap.objs.size f cd).kindOf (ps.zip us) fun _ => none) (cellsFrom (s.heap.objs.size + 1) scope.names []) (bindC (envOfC qual scope s.heap.objs.size f cd).kindOf (ps.zip us) fun _ => none) s1) :
    Inv (cxOf CX P w K mg base N qual scope f cd A outer s H E) [] (start N vs) H s1 := by
  have hpl : ps.length ≤ N.length := by have := congrArg List.length S.pre; rw [List.length_take] at this; omega
  obtain ⟨h1, tk, rfl, hk⟩ := x.done
  have noA : ∀ b : Addr, b ∉ (cxOf CX P w K mg base N qual scope f cd A outer s H E).ex := fun b z => absurd (show b ∈ ([] : List Addr) from z) (by simp)
  refine ⟨⟨e0.mod, S.kind, rfl, rfl, Nat.le_refl _, fun y z c h1 h2 => ?_, fun y hy => ?_, fun y c _ h => ?_, fun _ => hd, Around.frames_deeper e0.frames, .inr ⟨rfl, rfl⟩, fun b z => absurd z (noA b), e0.bs, e0.bsz, fun b _ _ => noA b, fun b z => absurd z (noA b), e0.funs, e0.frf⟩,
    rfl, e0.bare, Un.kept hk, ⟨_, x.toInCall.ns, fun i y v h1 h2 h3 => ?_⟩, fun y c h => ⟨_, x.cell y c h⟩, e0.hok.fresh (Nat.le_refl _), fun y c h => ?_, fun p hp => absurd (show p ∈ ([] : List (Addr × Obj)) from hp) (by simp), e0.hok.kept hk, ?_⟩
  · exact name_of_addr x.apart (PySem.mem_of_lookup h1) (PySem.mem_of_lookup h2)
  · have hy : scope.names.lookup y = some .cell ∨ scope.names.lookup y = some .free := hy
    rcases hy with hy | hy
    · exact cell_has hy
    · exact absurd rfl (S.nofree _ (PySem.mem_of_lookup hy))
  · exact Nat.le_of_lt (x.above y c (PySem.mem_of_lookup h))
  · have hi : i < vs.length := by
      unfold start at h2
      by_cases hi : i < vs.length
      · exact hi
      · rw [List.getElem?_append_right (by simpa using hi)] at h2
        rw [List.getElem?_replicate] at h2
        split at h2 <;> cases h2
    have ha : vs[i]? = some v := by
      unfold start at h2
      rw [List.getElem?_append_left (by simpa using hi), List.getElem?_map] at h2
      cases e : vs[i]? with
      | none => rw [e] at h2; cases h2
      | some a => rw [e] at h2; cases h2; rfl
    obtain ⟨u, hu, rv⟩ := r.get ha
    have hp : ps[i]? = some y := by
      rw [← S.pre, List.getElem?_take_of_lt (by omega)]; exact h1
    have ndP : ps.Nodup := by rw [← S.pre]; exact S.nd.sublist (List.take_sublist _ _)
    refine ⟨u, rv, ?_⟩
    rcases S.par y (List.mem_of_getElem? hp) with k | k
    · exact .inl ⟨k, bindL_get ndP hp hu k⟩
    · obtain ⟨c, e⟩ := cell_has (n := s.heap.objs.size + 1) k
      refine .inr ⟨.inl k, c, e, ?_⟩
      have q := x.cell y c e
      rw [bindC_get ndP hp hu (by show scope.names.lookup y ≠ _; rw [k]; decide)] at q
      exact q
  · exact e0.hok.fresh (Nat.le_of_lt (x.above y c (PySem.mem_of_lookup h)))
  · unfold start
    show _ = N.length
    rw [List.length_append, List.length_map, List.length_replicate]
    omega

/-- THE RULE: a def (or a method) of the text, by its body. The body's reading t is chosen for each entry; it is run at the parameters' values -/
theorem fn_of {CX : CXT} {P : Program} {w : World} {K : PySem.W.Frag} {mg : Str → Option Value} {base : Heap} {k : Nat} {f : Addr} {name qual : Str} {params : Arguments} {body : List Stmt} {scope : Scope} {dV kV doc pm cdv ct oc : Value} {an od : Option Addr}
    {osl : Array (Option Value)} {N ps : List Str} {sp : Sp} (lk : K.lookup f = some ⟨oc, od, .func (PySem.W.fnOf name qual params body scope dV kV doc pm an cdv ct), osl⟩) (hcd : PySem.W.codeIn K cdv qual = true) (S : FnScope N ps scope)
    (len : ∀ vs H Q E, sp vs H Q E → vs.length = ps.length)
    (hbody : ∀ (A : Around) (outer : List Env) (s : Shared) (H : Hp) (vs : List V) (Q : VK) (E : XK), Room k (A.deeper (envOfC qual scope s.heap.objs.size f cdv)) → sp vs H Q E →
      ∃ t, PSs (cxOf CX P w K mg base N qual scope f cdv A outer s H E) body t ∧ t { nx := fun _ H' => Q .non H', rt := Q } (start N vs) H) :
    FnOk P w K mg base CX (k + 1) f (PySem.W.fnOf name qual params body scope dV kV doc pm an cdv ct) ps sp := by
  refine ⟨len, fun A outer s H args us vs Q E hr e0 hb r hsp => ?_⟩
  have hl := len _ _ _ _ hsp
  have KX : K.In s.heap := e0.mod.kin.keeps fun b o e => (e0.bs b o e).1
  have lim : s.heap.NoLimit := e0.mod.nolimit.keeps fun b o e => (e0.bs b o e).1
  have hkind : ∀ y ∈ ps.zip us, scope.names.lookup y.1 = some .local ∨ (scope.names.lookup y.1 = some .cell ∧ ((cellsFrom (s.heap.objs.size + 1) scope.names []).lookup y.1).isSome = true) := fun ⟨n, v⟩ hy => by
    rcases S.par n (List.of_mem_zip hy).1 with q | q
    · exact .inl q
    · exact .inr ⟨q, PySem.W.cellsFrom_some _ _ _ (.inl q)⟩
  refine codeAny_call_function hr.depth (KX _ _ lk) rfl S.co S.gen rfl (PySem.W.codeRec_of KX hcd) (hb _ _ _ _ ?_)
  refine wpAny_newFunctionEnv_cells S.kind hkind fun env he s1 x => ?_
  subst he
  refine ⟨lim.keeps x.toInCall.keep, codeAny_func ?_⟩
  obtain ⟨t, ht, hq⟩ := hbody A outer s H vs Q E (hr.deeper _) hsp
  have I : Inv (cxOf CX P w K mg base N qual scope f cdv A outer s H E) [] (start N vs) H s1 := inv_start S hr.hd e0 hl r x
  refine wpAny_mono (ht [] s1 (start N vs) H _ I hq) (fun fl s' hs => ?_) fun e s' hs => hs
  have fin : ∀ {σ' : St} {H' : Hp} {v : V} {u : Value}, Inv (cxOf CX P w K mg base N qual scope f cdv A outer s H E) [] σ' H' s' → RelV v u → Q v H' → CE outer P w H s Q u s' :=
    fun {σ' H' v u} J rv q => ⟨v, H', J.os, J.bare, J.base, J.hok, rv, q⟩
  cases fl with
  | ret u =>
    obtain ⟨v, σ', H', J, rv, q⟩ := hs
    exact fin J rv q
  | next =>
    obtain ⟨σ', H', J, q⟩ := hs
    exact fin (v := V.non) (u := Value.none) J rfl q
  | brk =>
    obtain ⟨_, _, _, q⟩ := hs
    exact False.elim q
  | cont =>
    obtain ⟨_, _, _, q⟩ := hs
    exact False.elim q
end L2

namespace L2
open PySem PySem.Spec PyProof.Rows
section
variable {X : Cx} {x : Str} {p pos : Pos} {e : Expr} {es : List Expr} {t : TA} {id T : String} {r : List V → Hp → VK → Prop}

def tCB (r : List V → Hp → VK → Prop) (t : TA) : TE := fun σ H Q => t σ H fun vs H1 => r vs H1 Q
/-- f(e, ..), f a built-in function -/
theorem pe_callB (hc : CallR X (.builtin id) r) (hg : Gl X x) (hm : X.mg x = none) (hv : bootBuiltins x = some (.builtin id)) (ha : PA X (e :: es) t) (hn : x ≠ "__name__" := by decide) (hdb : (x == ("__debug__" : Str)) = false := by decide)
    (he : starEach (e :: es) X.env = (false, eval e X.env) :: starEach es X.env := by rfl) (hpl : (backTo pos (starEach es X.env)).any (·.1) = false := by rfl) : PE X (.Call (.Name x p) (e :: es) [] pos) (tCB r t) := by
  intro pins s σ H Q I h
  refine wpAny_Call_Name_kw (ld_blt I hg hm hv ?_ hn hdb)
  exact PyProof.Rows.callWith_builtin1 (thn (ha pos pins s σ H _ I h) fun us s1 ⟨vs, H1, I1, r1, q1⟩ => hc pins s1 σ H1 vs us Q I1 r1 q1) he hpl
/-- T(e, ..), T a built-in type -/
theorem pe_callTy (hc : CallR X (.type T) r) (hg : Gl X x) (hm : X.mg x = none) (hv : bootBuiltins x = some (.type T)) (ha : PA X (e :: es) t) (hn : x ≠ "__name__" := by decide) (hdb : (x == ("__debug__" : Str)) = false := by decide)
    (he : starEach (e :: es) X.env = (false, eval e X.env) :: starEach es X.env := by rfl) (hpl : (backTo pos (starEach es X.env)).any (·.1) = false := by rfl) : PE X (.Call (.Name x p) (e :: es) [] pos) (tCB r t) := by
  intro pins s σ H Q I h
  refine wpAny_Call_Name_kw (ld_blt I hg hm hv ?_ hn hdb)
  exact PyProof.Rows.callWith_type1 (thn (ha pos pins s σ H _ I h) fun us s1 ⟨vs, H1, I1, r1, q1⟩ => hc pins s1 σ H1 vs us Q I1 r1 q1) he hpl
/-- T() -/
theorem pe_callTy0 (hc : CallR X (.type T) r) (hg : Gl X x) (hm : X.mg x = none) (hv : bootBuiltins x = some (.type T)) (hn : x ≠ "__name__" := by decide) (hdb : (x == ("__debug__" : Str)) = false := by decide) :
    PE X (.Call (.Name x p) [] [] pos) (tCB r tNil) := by
  intro pins s σ H Q I h
  refine wpAny_Call_Name_kw (ld_blt I hg hm hv ?_ hn hdb)
  exact PyProof.Rows.callWith_type0 (hc pins s σ H [] [] Q I .nil h)
end
end L2

namespace HT
open PySem PyProof.Rows

/-- t < u of tuples of ints -/
def lexLt : List Int → List Int → Bool
  | [], [] => false
  | [], _ :: _ => true
  | _ :: _, [] => false
  | x :: xs, y :: ys => if x = y then lexLt xs ys else decide (x < y)
theorem lexLt_cons (x y : Int) (xs ys : List Int) : lexLt (x :: xs) (y :: ys) = if x = y then lexLt xs ys else decide (x < y) := rfl
theorem lexLt_nil_nil : lexLt [] [] = false := rfl
theorem lexLt_nil_cons (y : Int) (ys : List Int) : lexLt [] (y :: ys) = true := rfl
theorem lexLt_cons_nil (x : Int) (xs : List Int) : lexLt (x :: xs) [] = false := rfl

theorem eqAt_int (A : Around) (s : Shared) (a : Int) (t : Tok) (c : Int) (u : Tok) : ∃ e, SeqAt.EqAt A s (.int a t) (.int c u) e ∧ (e = true ↔ a = c) :=
  ⟨(a == c), SeqAt.EqAt.int_int a t c u, by simp⟩
theorem rcLt_int (A : Around) (s : Shared) (a : Int) (t : Tok) (c : Int) (u : Tok) (prog : Program) (w : World) (E : Value → Shared → Prop) (Q : Value → Shared → Prop) (h : Q (.bool (decide (a < c))) s) :
    wpAny (model prog w) A (richCompare .Lt (.int a t) (.int c u)) Q E s :=
  (PyProof.Rows.lt_int h : wpAny (model prog w) A (compareOp .Lt (.int a t) (.int c u)) Q E s)

section
open PySem.SeqAt
open PySem.AutoSeq1 (wpAny_loadPart')
open PySem.MeetsSeq PySem.MeetsSeq2 PySem.MeetsSeq3

theorem tuple_lt_ints (l b : Addr) (items items2 : Array Value) (n n2 : Nat) (dd dd2 : Option Addr) (sl sl2 : Array (Option Value)) (ns ms : List Int) (hi : IntsAre items.toList ns) (hj : IntsAre items2.toList ms) :
    Meets (Builtin.«tuple.__lt__» ⟨[.ref l, .ref b], []⟩)
      (fun _ R s => s.heap.get? l = some { cls := .type "tuple", dict := dd, data := .seq items n, slots := sl } ∧ s.heap.get? b = some { cls := .type "tuple", dict := dd2, data := .seq items2 n2, slots := sl2 } ∧
        R (.ok (.ret (.bool (lexLt ns ms)))) s) :=
  .of_wp fun prog w A R s h => by
    obtain ⟨hp, g, d, tk, os⟩ := s; obtain ⟨hl, hb, h⟩ := h
    have f2 := AutoSeq1.sub_tuple_tuple
    have z1 : items.size = ns.length := by rw [← hi.length]; simp
    have z2 : items2.size = ms.length := by rw [← hj.length]; simp
    wp_walk using wpAny_loadPart' hl, wpAny_loadPart' hb, wpAny_forIn_list _ (fun rest b s' => b.1 = none ∧ s' = ⟨hp, g, d, tk, os⟩ ∧ ∃ (vs ws : List Value) (ns' ms' : List Int), rest = vs.zip ws ∧
      IntsAre vs ns' ∧ IntsAre ws ms' ∧ ns'.length + items2.size = ms'.length + items.size ∧ R (.ok (.ret (.bool (lexLt ns' ms')))) ⟨hp, g, d, tk, os⟩) _
    case turn =>
      rintro ⟨y, x⟩ rest b s' ⟨hb', rfl, vs, ws, ns', ms', hz, hvi, hwi, hlen, hR⟩
      cases hvi with
      | nil => rw [List.zip_nil_left] at hz; cases hz
      | cons a t hvi' =>
        cases hwi with
        | nil => rw [List.zip_nil_right] at hz; cases hz
        | cons c u hwi' =>
          rw [List.zip_cons_cons] at hz
          injection hz with hyx hrest
          injection hyx with hy hx
          subst hy hx
          rw [lexLt_cons] at hR
          simp only [List.length_cons] at hlen
          obtain ⟨e, he, hiff⟩ := eqAt_int A.in1 ⟨hp, g, d, tk, os⟩ a t c u
          refine wpAny_bind (he prog w _ _ ?_)
          cases e with
          | true =>
            rw [if_pos (hiff.mp rfl)] at hR
            wp_walk
            exact ⟨rfl, rfl, _, _, _, _, hrest, hvi', hwi', by omega, hR⟩
          | false =>
            rw [if_neg (fun q => absurd (hiff.mpr q) Bool.false_ne_true)] at hR
            have hri := rcLt_int A.in1 ⟨hp, g, d, tk, os⟩ a t c u prog w
            wp_walk using hri
            exact ⟨_, rfl, by simpa using hR⟩
    case fin =>
      rintro ⟨b1, b2⟩ s' ⟨hb', rfl, vs, ws, ns', ms', hz, hvi, hwi, hlen, hR⟩
      simp only at hb'
      subst hb'
      have hv : lexLt ns' ms' = decide (items.size < items2.size) := by
        cases hvi with
        | nil =>
          cases hwi with
          | nil =>
            simp only [List.length_nil] at hlen
            rw [lexLt_nil_nil]
            exact (decide_eq_false (by omega)).symm
          | cons c u hw =>
            simp only [List.length_nil, List.length_cons] at hlen
            rw [lexLt_nil_cons]
            exact (decide_eq_true (by omega)).symm
        | cons a t hv =>
          cases hwi with
          | nil =>
            simp only [List.length_nil, List.length_cons] at hlen
            rw [lexLt_cons_nil]
            exact (decide_eq_false (by omega)).symm
          | cons c u hw =>
            rw [List.zip_cons_cons] at hz
            cases hz
      rw [hv] at hR
      wp_walk
      exact ⟨_, rfl, by simpa [Builtin.Tuple.tupleCompareSizes] using hR⟩
    case h =>
      exact ⟨rfl, rfl, items.toList, items2.toList, ns, ms, rfl, hi, hj, by omega, h⟩
end

section
variable {prog : Program} {w : World} {A : Around} {E : Value → Shared → Prop} {s : Shared}

theorem lt_tupInts {l b : Addr} {items items2 : Array Value} {ns ms : List Int} {Q : Value → Shared → Prop} (hl : IsTup s.heap l items) (hb : IsTup s.heap b items2) (hi : IntsAre items.toList ns) (hj : IntsAre items2.toList ms)
    (hu : A.units < cLine) (h : Q (.bool (lexLt ns ms)) s) : wpAny (model prog w) A (compareOp .Lt (.ref l) (.ref b)) Q E s := by
  obtain ⟨⟨cls, dd, data, sl⟩, ho, hc, n, hd⟩ := id hl
  obtain ⟨⟨cls2, dd2, data2, sl2⟩, ho2, hc2, n2, hd2⟩ := id hb
  simp only at hc hd hc2 hd2
  subst hc hd hc2 hd2
  exact richCompare_meets_room (op := .Lt) ⟨_, ho, rfl⟩ ⟨_, ho2, rfl⟩ PySem.F.slot_tuple_lt PySem.F.entry_tuple_lt (PySem.F.args_tuple_lt_2 _ _) (tuple_lt_ints l b items items2 n n2 dd dd2 sl sl2 ns ms hi hj)
    ⟨ho, ho2, show Value.bool (lexLt ns ms) ≠ Value.notImplemented ∧ Q (.bool (lexLt ns ms)) s from ⟨(fun x => nomatch x), h⟩⟩ hu

/-- t + u, t not empty -/
theorem cat_tup {t b : Addr} {vs ws : List Value} {Q : Value → Shared → Prop} (ht : IsTup s.heap t vs.toArray) (hb : IsTup s.heap b ws.toArray) (hv : vs ≠ [])
    (h1 : ws = [] → Q (.ref t) s) (h2 : ws ≠ [] → Q (.ref s.heap.objs.size) { s with heap := s.heap.push { cls := .type "tuple", data := .seq (vs ++ ws).toArray } })
    (hsz : vs.length + ws.length ≤ sizeLine) : wpAny (model prog w) A (binaryOp .Add (.ref t) (.ref b)) Q E s := by
  obtain ⟨⟨cls, dd, data, sl⟩, ho, hc, n, hd⟩ := id ht
  obtain ⟨⟨cls2, dd2, data2, sl2⟩, ho2, hc2, n2, hd2⟩ := id hb
  simp only at hc hd hc2 hd2
  subst hc hd hc2 hd2
  have e : vs.toArray ++ ws.toArray = (vs ++ ws).toArray := by simp
  by_cases hw : ws = []
  · exact concat_meets ⟨_, ho, rfl⟩ ⟨_, ho2, rfl⟩ noFill_tuple_add seq_tuple_add PySem.F.slot_tuple_add PySem.F.entry_tuple_add (PySem.F.args_tuple_add_2 _ _)
      (tuple_addW1 t b vs.toArray ws.toArray n n2 dd dd2 sl sl2 (by simpa using hv) (by simp [hw])) ⟨ho, ho2, h1 hw⟩
  · refine concat_meets ⟨_, ho, rfl⟩ ⟨_, ho2, rfl⟩ noFill_tuple_add seq_tuple_add PySem.F.slot_tuple_add PySem.F.entry_tuple_add (PySem.F.args_tuple_add_2 _ _)
      (tuple_addW2 t b vs.toArray ws.toArray n n2 dd dd2 sl sl2 (by simpa using hv) (by simpa using hw) (by rw [List.size_toArray, List.size_toArray]; exact hsz)) ⟨ho, ho2, ?_⟩
    rw [e]
    exact h2 hw

/-! ### t[a:b], not the whole -/
/-- a slice's bound as a place among n (d where it is left out) -/
def sIx (n d : Nat) : Option Int → Nat
  | none => d
  | some v => if v < 0 then (v + (n : Int)).toNat else min v.toNat n
theorem sIx_none (n d : Nat) : sIx n d none = d := rfl
theorem sIx_nat (n d k : Nat) : sIx n d (some (k : Int)) = min k n := by
  show (if (k : Int) < 0 then ((k : Int) + (n : Int)).toNat else min (k : Int).toNat n) = min k n
  rw [if_neg (by omega), Int.toNat_natCast]
theorem sIx_le (n d : Nat) (hd : d ≤ n) (o : Option Int) : sIx n d o ≤ n := by
  cases o with
  | none => exact hd
  | some v =>
    show (if v < 0 then (v + (n : Int)).toNat else min v.toNat n) ≤ n
    by_cases hv : v < 0
    · rw [if_pos hv]; omega
    · rw [if_neg hv]; exact Nat.min_le_right _ _
theorem clip_eq (v : Int) (n d : Nat) : (if v < 0 then max (v + (n : Int)) 0 else min v (n : Int)) = ((sIx n d (some v) : Nat) : Int) := by
  show (if v < 0 then max (v + (n : Int)) 0 else min v (n : Int)) = (((if v < 0 then (v + (n : Int)).toNat else min v.toNat n) : Nat) : Int)
  by_cases hv : v < 0
  · simp only [if_pos hv]; omega
  · simp only [if_neg hv]; omega
theorem adjust_gen (lo hi : Option Int) (n : Nat) : Builtin.Slice.sliceAdjust lo hi 1 (n : Int) = (((sIx n 0 lo : Nat) : Int), ((sIx n n hi : Nat) : Int)) := by
  have h1 : ¬ ((1 : Int) < 0) := by omega
  unfold Builtin.Slice.sliceAdjust
  simp only [h1, if_false]
  refine Prod.ext ?_ ?_
  · cases lo with
    | none => rfl
    | some v => exact clip_eq v n 0
  · cases hi with
    | none => rfl
    | some v => exact clip_eq v n n
theorem places_gen (i j : Nat) : Builtin.Slice.slicePlaces (i : Int) (j : Int) 1 = j - i := by
  unfold Builtin.Slice.slicePlaces
  have h1 : (1 : Int) > 0 := by omega
  simp only [h1, if_true, Int.ediv_one]
  split <;> omega
theorem slicePart_ {v : Value} {o : Option Int} {Q : Option Int → Shared → Prop} (p : IsPart v o) (h : Q o s) : wpAny (model prog w) A (Builtin.Slice.slicePartIndex v) Q E s := by
  cases p with
  | none => exact slicePart_none h
  | int i t => exact slicePart_int h
theorem sliceApplied_gen {sl : Addr} {vl vu : Value} {lo hi : Option Int} {n : Nat} {Q : Int × Int × Nat → Shared → Prop} (hs : s.heap.IsSliceOf sl vl vu .none) (pl : IsPart vl lo) (pu : IsPart vu hi)
    (h : Q (((sIx n 0 lo : Nat) : Int), 1, sIx n n hi - sIx n 0 lo) s) : wpAny (model prog w) A (Builtin.Slice.sliceApplied (.ref sl) (pure (n : Int))) Q E s := by
  obtain ⟨os, hos, hcs, hds⟩ := id hs
  unfold Builtin.Slice.sliceApplied Builtin.Slice.sliceFields
  refine wpAny_bind (wpAny_bind (wpAny_field hos hds (x := vl) rfl (wpAny_bind (wpAny_field hos hds (x := vu) rfl (wpAny_bind (wpAny_field hos hds (x := .none) rfl (wpAny_pure ?_)))))))
  refine wpAny_bind (slicePart_none ?_)
  show wpAny _ _ (if ((1 : Int) == 0) = true then _ else _) _ _ s
  rw [if_neg (by decide)]
  refine wpAny_bind (slicePart_ pl (wpAny_bind (slicePart_ pu (wpAny_bind (wpAny_pure ?_)))))
  show wpAny _ _ (match Builtin.Slice.sliceAdjust lo hi 1 (n : Int) with | (lo, hi) => pure (lo, (1 : Int), Builtin.Slice.slicePlaces lo hi 1)) _ _ s
  rw [adjust_gen lo hi n]
  show wpAny _ _ (pure (((sIx n 0 lo : Nat) : Int), (1 : Int), Builtin.Slice.slicePlaces ((sIx n 0 lo : Nat) : Int) ((sIx n n hi : Nat) : Int) 1)) _ _ s
  rw [places_gen]
  exact wpAny_pure h
theorem pick_gen (xs : Array Value) (i k : Nat) : ((List.range k).filterMap fun (m : Nat) => xs[((i : Int) + (m : Int) * 1).toNat]?).toArray = ((xs.toList.drop i).take k).toArray := by
  have e : (fun (m : Nat) => xs[((i : Int) + (m : Int) * 1).toNat]?) = fun m => xs[i + m]? := by
    funext m
    have : ((i : Int) + (m : Int) * 1).toNat = i + m := by omega
    rw [this]
  rw [e]
  have := pick_run xs i k
  rw [List.filterMap_map] at this
  have e2 : ((fun x => xs[x]?) ∘ fun x => i + x) = fun m => xs[i + m]? := rfl
  rw [e2] at this
  rw [this]

theorem getItem_tuple_cut {t sl : Addr} {items : Array Value} {vl vu : Value} {lo hi : Option Int} {Q : Value → Shared → Prop} (ht : IsTup s.heap t items) (hs : s.heap.IsSliceOf sl vl vu .none) (pl : IsPart vl lo) (pu : IsPart vu hi)
    (hw : ¬ (sIx items.size 0 lo = 0 ∧ sIx items.size items.size hi = items.size))
    (h : Q (.ref s.heap.objs.size) { s with heap := s.heap.push { cls := .type "tuple", data := .seq ((items.toList.drop (sIx items.size 0 lo)).take (sIx items.size items.size hi - sIx items.size 0 lo)).toArray } })
    (hsz : items.size ≤ sizeLine) : wpAny (model prog w) A (getItem (.ref t) (.ref sl)) Q E s := by
  have htake : sizeOk (.seq ((items.toList.drop (sIx items.size 0 lo)).take (sIx items.size items.size hi - sIx items.size 0 lo)).toArray) := by
    show ((items.toList.drop (sIx items.size 0 lo)).take (sIx items.size items.size hi - sIx items.size 0 lo)).toArray.size ≤ sizeLine
    rw [List.size_toArray, List.length_take, List.length_drop, Array.length_toList]
    omega
  have hj : sIx items.size items.size hi ≤ items.size := sIx_le _ _ (Nat.le_refl _) hi
  obtain ⟨os, hos, hcs, hds⟩ := id hs
  have hTs : s.TypeIs (.ref sl) "slice" := ⟨os, hos, hcs⟩
  unfold getItem
  try with_reducible refine wpAny_holding ?_
  first | refine wpAny_bind (wpAny_pure ?_) | skip
  refine wpAny_bind (wpAny_sequenceKey ht.typeIs (by decide) ?_)
  refine wpAny_bind (wpAny_callSpecial?_slot (name := Str.ofString "__getitem__") ht.typeIs PyProof.Rows.slot_tuple_getitem
    (wpAny_call_entry PyProof.Rows.slot_tuple_getitem ht.typeIs entry_tuple_getitem ?_ (args_tuple_getitem _ _)))
  show wpAny _ _ (Builtin.Tuple.tupleItemsOf (.ref t) >>= _) _ _ s
  refine wpAny_bind (tupleItemsOf_ ht ?_)
  refine wpAny_bind (wpAny_typeOf hTs ?_)
  rw [if_pos (by decide)]
  refine wpAny_bind (sliceApplied_gen hs pl pu ?_)
  have hno : ¬ ((((sIx items.size 0 lo : Nat) : Int) == 0 && (1 : Int) == 1 && (sIx items.size items.size hi - sIx items.size 0 lo) == items.size) = true) := by
    intro q
    rw [Bool.and_eq_true, Bool.and_eq_true] at q
    have q1 : ((sIx items.size 0 lo : Nat) : Int) = 0 := eq_of_beq q.1.1
    have q2 : sIx items.size items.size hi - sIx items.size 0 lo = items.size := eq_of_beq q.2
    exact hw ⟨by omega, by omega⟩
  show wpAny _ _ (if (((sIx items.size 0 lo : Nat) : Int) == 0 && (1 : Int) == 1 && (sIx items.size items.size hi - sIx items.size 0 lo) == items.size) = true then _ else _) _ _ s
  rw [if_neg hno, pick_gen]
  first
    | exact wpAny_bind (m := Builtin.Tuple.tupleExact _) (wpAny_newObj_type (wpAny_pure ⟨_, rfl, wpAny_pure h⟩) htake)
    | exact wpAny_bind (m := Builtin.Tuple.tupleExact _) (wpAny_newObj_type (wpAny_bind (wpAny_pure (wpAny_pure ⟨_, rfl, wpAny_pure h⟩))) htake)
    | exact wpAny_bind (wpAny_bind (m := Builtin.Tuple.tupleExact _) (wpAny_newObj_type (wpAny_pure (wpAny_pure ⟨_, rfl, wpAny_pure h⟩)) htake))
    | exact wpAny_bind (wpAny_bind (m := Builtin.Tuple.tupleExact _) (wpAny_newObj_type (wpAny_pure ⟨_, rfl, wpAny_pure h⟩) htake))
end
end HT

namespace L2
open PySem PySem.Spec PyProof.Rows

/-! ### the parts of a slice -/
abbrev TO := St → Hp → (Option Int → Hp → Prop) → Prop
/-- a slice's part (left out, or an int) -/
def PO (X : Cx) (e : Option Expr) (t : TO) : Prop :=
  ∀ (pins : List (Addr × Obj)) (s : Shared) (σ : St) (H : Hp) (Q : Option Int → Hp → Prop), Inv X pins σ H s → t σ H Q →
    wpAny (model X.prog X.w) X.A (evalPart e X.env) (fun u s' => ∃ o H', Inv X pins σ H' s' ∧ IsPart u o ∧ Q o H') X.xe s
def tNoPart : TO := fun _ H Q => Q none H
def tPart (t : TE) : TO := fun σ H Q => t σ H fun x H1 => ∃ i, x = .int i ∧ Q (some i) H1

theorem intsAre_of {ns : List Int} : ∀ {us : List Value}, Vals (ns.map V.int) us → IntsAre us ns := by
  induction ns with
  | nil => intro us r; rw [List.map_nil] at r; cases r; exact .nil
  | cons n ns ih =>
    intro us r
    rw [List.map_cons] at r
    cases r with
    | cons r1 r2 =>
      obtain ⟨t, e⟩ := r1
      subst e
      exact .cons n t (ih r2)

section
variable {X : Cx} {e : Expr} {te : TE} {lo hi : Option Expr} {tl th : TO} {pos p2 : Pos}

theorem po_none : PO X none tNoPart := by
  intro pins s σ H Q I h
  rw [evalPart_none]
  exact wpAny_pure ⟨none, H, I, .none, h⟩
theorem po_some (h : PE X e te) : PO X (some e) (tPart te) := by
  intro pins s σ H Q I hw
  rw [evalPart_some]
  refine thn (h pins s σ H _ I hw) fun u s1 ⟨x, H1, I1, r1, q1⟩ => ?_
  obtain ⟨i, rfl, q⟩ := q1
  obtain ⟨t, rfl⟩ := r1
  exact ⟨some i, H1, I1, .int i t, q⟩

/-- what a slice of a value is, by values: the slice object stands at sl -/
def SlR (X : Cx) (r : V → Option Int → Option Int → Hp → VK → Prop) : Prop :=
  ∀ (pins : List (Addr × Obj)) (s : Shared) (σ : St) (H : Hp) (x : V) (v vl vu : Value) (lo hi : Option Int) (sl : Addr) (Q : VK), Inv X pins σ H s → RelV x v → s.heap.IsSliceOf sl vl vu .none → IsPart vl lo → IsPart vu hi → r x lo hi H Q →
    ∃ T id, typeLookup (.type T) "__getitem__" = pure (some (.builtin id)) ∧ s.TypeIs v T ∧ wpAny (model X.prog X.w) X.A (getItem v (.ref sl)) (EP X pins σ Q) X.xe s
theorem SlR.or {r r' : V → Option Int → Option Int → Hp → VK → Prop} (h : SlR X r) (h' : SlR X r') : SlR X (fun x lo hi H Q => r x lo hi H Q ∨ r' x lo hi H Q) := by
  intro pins s σ H x v vl vu lo hi sl Q I rx hs pl pu q
  rcases q with q | q
  · exact h pins s σ H x v vl vu lo hi sl Q I rx hs pl pu q
  · exact h' pins s σ H x v vl vu lo hi sl Q I rx hs pl pu q
def tSl (r : V → Option Int → Option Int → Hp → VK → Prop) (te : TE) (tl th : TO) : TE := fun σ H Q => te σ H fun x H1 => tl σ H1 fun l H2 => th σ H2 fun u H3 => r x l u H3 Q
/-- a[lo:hi], any a -/
theorem pe_slice {r : V → Option Int → Option Int → Hp → VK → Prop} (hr : SlR X r) (he : PE X e te) (hl : PO X lo tl) (hu : PO X hi th) : PE X (.Subscript e (.Slice lo hi none p2) pos) (tSl r te tl th) := by
  intro pins s σ H Q I h
  refine Subscript_ (thn (he pins s σ H _ I h) fun v s1 ⟨x, H1, I1, r1, q1⟩ => ?_)
  refine wpAny_Slice (thn (hl pins s1 σ H1 _ I1 q1) fun vl s2 ⟨l, H2, I2, pl, q2⟩ => thn (hu pins s2 σ H2 _ I2 q2) fun vu s3 ⟨u, H3, I3, pu, q3⟩ => ?_)
  rw [evalPart_none]
  refine wpAny_pure ?_
  have I4 : Inv X pins σ H3 { s3 with heap := s3.heap.push { cls := .type "slice", data := .fields #[vl, vu, .none] } } := I3.kept (t' := s3.toks) fun b ob q => Heap.get?_push_of_some _ q
  obtain ⟨T, id, hT, ht, hg⟩ := hr pins { s3 with heap := s3.heap.push { cls := .type "slice", data := .fields #[vl, vu, .none] } } σ H3 x v vl vu l u s3.heap.objs.size Q I4 r1 (Heap.IsSliceOf.new ..) pl pu q3
  show wpAny (model X.prog X.w) X.A (subscriptTail e (.Slice lo hi none p2) v (.ref s3.heap.objs.size)) (EP X pins σ Q) X.xe { s3 with heap := s3.heap.push { cls := .type "slice", data := .fields #[vl, vu, .none] } }
  exact tail_any (ops := [.ref s3.heap.objs.size, v]) ht hT hg (by with_unfolding_all rfl)

/-- the items of xs[lo:hi] -/
def cutV (xs : List V) (lo hi : Option Int) : List V := (xs.drop (HT.sIx xs.length 0 lo)).take (HT.sIx xs.length xs.length hi - HT.sIx xs.length 0 lo)
theorem cutV_length (xs : List V) (lo hi : Option Int) : (cutV xs lo hi).length ≤ xs.length := by
  unfold cutV
  rw [List.length_take, List.length_drop]
  omega
/-- t[lo:hi], not the whole of it (the whole would be t itself) -/
def rSlT (K : PySem.W.Frag) : V → Option Int → Option Int → Hp → VK → Prop := fun x lo hi H Q => ∃ a xs, x = .ref a ∧ SqT K H a xs ∧
  ¬ (HT.sIx xs.length 0 lo = 0 ∧ HT.sIx xs.length xs.length hi = xs.length) ∧ ∀ p, H p = none → Q (.ref p) (upd H p (.tup (cutV xs lo hi)))
theorem sl_tup : SlR X (rSlT X.K) := by
  intro pins s σ H x v vl vu lo hi sl Q I rx hs pl pu h
  obtain ⟨a, xs, rfl, hx, hw, q⟩ := h
  cases rx
  obtain ⟨its, r, ht, hz⟩ := I.tuple hx
  have hlen : its.toArray.size = xs.length := by rw [List.size_toArray]; exact r.length.symm
  refine ⟨"tuple", _, PyProof.Rows.slot_tuple_getitem.lookup, ht.typeIs, ?_⟩
  refine HT.getItem_tuple_cut ht hs pl pu (by rw [hlen]; exact hw) ?_ (by rw [hlen]; exact hz)
  rw [hlen]
  refine ⟨.ref s.heap.objs.size, _, I.laid (t' := s.toks) (o := .tup (cutV xs lo hi)) (fun b ob q => Heap.get?_push_of_some _ q) (Nat.le_refl _) ?_, rfl, q _ (I.hok.fresh (Nat.le_refl _))⟩
  exact ⟨Nat.le_trans (cutV_length xs lo hi) hz, _, (r.drop (HT.sIx xs.length 0 lo)).take (HT.sIx xs.length xs.length hi - HT.sIx xs.length 0 lo), IsTup.new _ _⟩

/-! ### t < u, t + u -/
def rLtT (K : PySem.W.Frag) : R2 := fun x y H Q => ∃ a b ns ms, x = .ref a ∧ y = .ref b ∧ SqT K H a (ns.map V.int) ∧ SqT K H b (ms.map V.int) ∧ Q (.bl (HT.lexLt ns ms)) H
theorem op_ltT (hu : X.A.units < cLine) : OpR X (compareOp .Lt) (rLtT X.K) := by
  intro pins s σ H x y v u Q I rx ry h
  obtain ⟨a, b, ns, ms, rfl, rfl, ha, hb, q⟩ := h
  cases rx
  cases ry
  obtain ⟨its, r1, p1, _⟩ := I.tuple ha
  obtain ⟨its2, r2, p2, _⟩ := I.tuple hb
  have i1 : IntsAre its.toArray.toList ns := intsAre_of r1
  have i2 : IntsAre its2.toArray.toList ms := intsAre_of r2
  exact HT.lt_tupInts p1 p2 i1 i2 hu ⟨.bl (HT.lexLt ns ms), H, I, rfl, q⟩
/-- t + u, t not empty: u empty gives t itself -/
def rCatT (K : PySem.W.Frag) : R2 := fun x y H Q => ∃ a b xs ys, x = .ref a ∧ y = .ref b ∧ SqT K H a xs ∧ SqT K H b ys ∧ xs ≠ [] ∧ xs.length + ys.length ≤ sizeLine ∧
  (ys = [] → Q (.ref a) H) ∧ (ys ≠ [] → ∀ p, H p = none → Q (.ref p) (upd H p (.tup (xs ++ ys))))
theorem Vals.nil_iff {xs : List V} {us : List Value} (r : Vals xs us) : us = [] ↔ xs = [] := by
  cases r with
  | nil => simp
  | cons _ _ => simp
theorem op_catT : OpR X (binaryOp .Add) (rCatT X.K) := by
  intro pins s σ H x y v u Q I rx ry h
  obtain ⟨a, b, xs, ys, rfl, rfl, ha, hb, hx, hz, q1, q2⟩ := h
  cases rx
  cases ry
  obtain ⟨its, r1, p1, _⟩ := I.tuple ha
  obtain ⟨its2, r2, p2, _⟩ := I.tuple hb
  refine HT.cat_tup p1 p2 (fun z => hx (r1.nil_iff.mp z)) (fun z => ⟨.ref a, H, I, rfl, q1 (r2.nil_iff.mp z)⟩) (fun z => ?_) (by rw [← r1.length, ← r2.length]; exact hz)
  refine ⟨.ref s.heap.objs.size, _, I.laid (t' := s.toks) (o := .tup (xs ++ ys)) (fun b ob q => Heap.get?_push_of_some _ q) (Nat.le_refl _) ?_, rfl, q2 (fun w => z (r2.nil_iff.mpr w)) _ (I.hok.fresh (Nat.le_refl _))⟩
  exact ⟨by rw [List.length_append]; exact hz, _, r1.append r2, IsTup.new _ _⟩
/-- tuple(t) -/
theorem call_tupleT : CallR X (.type "tuple") (fun xs H Q => ∃ a ys, xs = [.ref a] ∧ SqT X.K H a ys ∧ Q (.ref a) H) := by
  intro pins s σ H xs us Q I r h
  obtain ⟨a, ys, rfl, ha, q⟩ := h
  obtain ⟨u, rfl, ru⟩ := vals1 r
  cases ru
  obtain ⟨its, _, p1, _⟩ := I.tuple ha
  exact call_tuple_same (items := its.toArray) p1 ⟨.ref a, H, I, rfl, q⟩
end
end L2

namespace L2
open PySem PySem.Spec PyProof.Rows

/-! ### places -/
/-- the place that an index of any sign means -/
def ixN (n : Nat) (i : Int) : Option Nat := if 0 ≤ i then (if i < n then some i.toNat else none) else if -(n : Int) ≤ i then some (i + n).toNat else none
def atI {α : Type} (xs : List α) (i : Int) : Option α := (ixN xs.length i).bind fun j => xs[j]?
theorem ixN_seq {n : Nat} {i : Int} {j : Nat} (h : ixN n i = some j) : seqIndex? i n = some j ∧ j < n ∧ -(n : Int) ≤ i ∧ i < n := by
  unfold ixN at h
  by_cases h0 : 0 ≤ i
  · rw [if_pos h0] at h
    by_cases h1 : i < n
    · rw [if_pos h1] at h
      have e : i.toNat = j := Option.some.inj h
      exact ⟨by rw [seqIndex_of h0 h1, e], by omega, by omega, h1⟩
    · rw [if_neg h1] at h; cases h
  · rw [if_neg h0] at h
    by_cases h1 : -(n : Int) ≤ i
    · rw [if_pos h1] at h
      have e : (i + n).toNat = j := Option.some.inj h
      exact ⟨by rw [seqIndex_neg (by omega) h1, e], by omega, h1, by omega⟩
    · rw [if_neg h1] at h; cases h
theorem atI_get {α : Type} {xs : List α} {i : Int} {v : α} (h : atI xs i = some v) : ∃ j, seqIndex? i xs.length = some j ∧ xs[j]? = some v ∧ j < xs.length ∧ -(xs.length : Int) ≤ i ∧ i < xs.length := by
  unfold atI at h
  cases e : ixN xs.length i with
  | none => rw [e] at h; cases h
  | some j =>
    rw [e] at h
    obtain ⟨h1, h2, h3, h4⟩ := ixN_seq e
    exact ⟨j, h1, h, h2, h3, h4⟩
theorem atI_nat {α : Type} {xs : List α} {j : Nat} {v : α} (h : xs[j]? = some v) : atI xs (j : Int) = some v := by
  have hj : j < xs.length := (List.getElem?_eq_some_iff.mp h).1
  have e : ixN xs.length (j : Int) = some j := by
    unfold ixN
    rw [if_pos (by omega), if_pos (by omega)]; simp
  unfold atI; rw [e]; exact h
theorem atI_last {α : Type} (xs : List α) (v : α) : atI (xs ++ [v]) (-1) = some v := by
  have hl : (xs ++ [v]).length = xs.length + 1 := by simp
  have e : ixN (xs ++ [v]).length (-1) = some xs.length := by
    unfold ixN
    rw [hl, if_neg (by decide), if_pos (by omega)]
    congr 1
    omega
  unfold atI
  rw [e]
  show (xs ++ [v])[xs.length]? = some v
  simp

/-! ### what may be subscripted -/
/-- what stands as an index of a plain subscript -/
def PlainIx (b : Expr) : Prop := ∀ o i, subscripted b false o i = operate [o, i] (getItem o i)
/-- a subscript by values -/
def IxR (X : Cx) (r : R2) : Prop :=
  ∀ (value slice : Expr) (pins : List (Addr × Obj)) (s : Shared) (σ : St) (H : Hp) (x y : V) (v u : Value) (Q : VK), Inv X pins σ H s → RelV x v → RelV y u → r x y H Q →
    subscripted slice false v u = operate [v, u] (getItem v u) → wpAny (model X.prog X.w) X.A (subscriptTail value slice v u) (EP X pins σ Q) X.xe s
/-- a call of a builtin's method by values: the receiver, the arguments -/
def MtR (X : Cx) (id : String) (r : V → List V → Hp → VK → Prop) : Prop :=
  ∀ (pins : List (Addr × Obj)) (s : Shared) (σ : St) (H : Hp) (x : V) (xs : List V) (v : Value) (us : List Value) (Q : VK), Inv X pins σ H s → RelV x v → Vals xs us → r x xs H Q →
    wpAny (model X.prog X.w) X.A (call (.builtin id) (v :: us)) (EP X pins σ Q) X.xe s
section
variable {X : Cx} {a b : Expr} {ta tb : TE} {pos : Pos}
theorem IxR.or {r r' : R2} (h : IxR X r) (h' : IxR X r') : IxR X (fun x y H Q => r x y H Q ∨ r' x y H Q) := by
  intro value slice pins s σ H x y v u Q I rx ry q hs
  rcases q with q | q
  · exact h value slice pins s σ H x y v u Q I rx ry q hs
  · exact h' value slice pins s σ H x y v u Q I rx ry q hs
theorem MtR.or {id : String} {r r' : V → List V → Hp → VK → Prop} (h : MtR X id r) (h' : MtR X id r') : MtR X id (fun x xs H Q => r x xs H Q ∨ r' x xs H Q) := by
  intro pins s σ H x xs v us Q I rx rs q
  rcases q with q | q
  · exact h pins s σ H x xs v us Q I rx rs q
  · exact h' pins s σ H x xs v us Q I rx rs q
/-- a[b] -/
theorem pe_ix {r : R2} (hr : IxR X r) (ha : PE X a ta) (hb : PE X b tb) (hs : PlainIx b) : PE X (.Subscript a b pos) (tOp r ta tb) := by
  intro pins s σ H Q I h
  exact Subscript_ (binT ha hb I h fun v u s2 x y H2 I2 rx ry q => hr a b pins s2 σ H2 x y v u Q I2 rx ry q (hs _ _))

def rIxL (K : PySem.W.Frag) : R2 := fun x y H Q => ∃ p xs i v, x = .ref p ∧ y = .int i ∧ SqL K H p xs ∧ atI xs i = some v ∧ Q v H
def rIxT (K : PySem.W.Frag) : R2 := fun x y H Q => ∃ p xs i v, x = .ref p ∧ y = .int i ∧ SqT K H p xs ∧ atI xs i = some v ∧ Q v H
def rIxS : R2 := fun x y H Q => ∃ z i c, x = .str z ∧ y = .int i ∧ z.length ≤ sizeLine ∧ atI z.cps.toList i = some c ∧ Q (.str ⟨#[c]⟩) H
theorem ix_list : IxR X (rIxL X.K) := by
  intro value slice pins s σ H x y v u Q I rx ry h hs
  obtain ⟨p, xs, i, z, rfl, rfl, hq, he, q⟩ := h
  cases rx
  obtain ⟨t, rfl⟩ := ry
  obtain ⟨its, r, pl, hz⟩ := I.list hq
  obtain ⟨j, h1, h2, h3, h4, h5⟩ := atI_get he
  obtain ⟨w, ew, rw'⟩ := r.get h2
  have hl := r.length
  have hn := line63
  have fin : EP X pins σ Q w s := ⟨z, H, I, rw', q⟩
  by_cases h0 : 0 ≤ i
  · have hj : i.toNat = j := by
      rw [seqIndex_of h0 h5] at h1
      exact Option.some.inj h1
    exact item_listR pl.isList h0 (by omega) (by rw [hj]; simpa using ew) fin hs
  · have hj : (i + (its.toArray.size : Int)).toNat = j := by
      rw [seqIndex_neg (by omega) h4] at h1
      rw [List.size_toArray, ← hl]
      exact Option.some.inj h1
    exact subscriptTail_builtinR (x := w) pl.isList.typeIs slot_list_getitem.lookup
      (wpAny_getItem_list_neg (Q := fun r s' => r = w ∧ EP X pins σ Q r s') pl.isList (by omega) (by rw [List.size_toArray] <;> omega) (by omega) (by rw [hj]; simpa using ew) ⟨rfl, fin⟩) hs
theorem ix_tup : IxR X (rIxT X.K) := by
  intro value slice pins s σ H x y v u Q I rx ry h hs
  obtain ⟨p, xs, i, z, rfl, rfl, hq, he, q⟩ := h
  cases rx
  obtain ⟨t, rfl⟩ := ry
  obtain ⟨its, r, pl, hz⟩ := I.tuple hq
  obtain ⟨j, h1, h2, h3, h4, h5⟩ := atI_get he
  obtain ⟨w, ew, rw'⟩ := r.get h2
  have hl := r.length
  have hn := line63
  have fin : EP X pins σ Q w s := ⟨z, H, I, rw', q⟩
  exact subscriptTail_builtinR (x := w) pl.typeIs slot_tuple_getitem.lookup
    (getItem_tuple (j := j) (Q := fun r s' => r = w ∧ EP X pins σ Q r s') pl (by omega) (by omega) (by rw [List.size_toArray, ← hl]; exact h1) (by simpa using ew) ⟨rfl, fin⟩) hs
theorem ix_str : IxR X rIxS := by
  intro value slice pins s σ H x y v u Q I rx ry h hs
  obtain ⟨z, i, c, rfl, rfl, hz, he, q⟩ := h
  obtain ⟨t, rfl⟩ := rx
  obtain ⟨t', rfl⟩ := ry
  obtain ⟨j, h1, h2, h3, h4, h5⟩ := atI_get he
  have hl : z.cps.toList.length = z.length := by simp [Str.length]
  rw [hl] at h1 h4 h5
  have hn := line63
  exact tail_any (typeIs_str s z t) slot_str_getitem.lookup (getItem_str (c := c) (by
    have e1 : decide (i < -(2 ^ 63 : Int)) = false := decide_eq_false (by omega)
    have e2 : decide (i ≥ 2 ^ 63) = false := decide_eq_false (by omega)
    rw [e1, e2, Bool.or_false]) (by rw [h1]; simpa using h2) ⟨.str ⟨#[c]⟩, H, I.tok _, ⟨_, rfl⟩, q⟩) hs
/-- list, tuple or str -/
def rIx (K : PySem.W.Frag) : R2 := fun x y H Q => rIxL K x y H Q ∨ rIxT K x y H Q ∨ rIxS x y H Q
theorem ix_seq : IxR X (rIx X.K) := ix_list.or (ix_tup.or ix_str)

/-! ### xs[i] = v, any sign -/
/-- the list's object behind a store -/
theorem mapSeq_set (its : List Value) (n j : Nat) (u : Value) : Obj.mapSeq (·.setIfInBounds j u) { cls := .type "list", data := .seq its.toArray n } = { cls := .type "list", data := .seq (its.set j u).toArray n } := by
  simp [Obj.mapSeq]
theorem Inv.lst {pins : List (Addr × Obj)} {σ : St} {H : Hp} {s : Shared} {p : Addr} {xs : List V} (I : Inv X pins σ H s) (h : H p = some (.lst xs)) :
    ∃ (its : List Value) (n : Nat), Vals xs its ∧ s.heap.get? p = some { cls := .type "list", data := .seq its.toArray n } ∧ xs.length ≤ sizeLine := by
  obtain ⟨z, its, n, r, e⟩ := I.hok p _ h
  exact ⟨its, n, r, e, z⟩
/-- the list at p is written by an update of its object -/
theorem Inv.lstUpd {pins : List (Addr × Obj)} {σ : St} {H : Hp} {s : Shared} {p : Addr} {xs ys : List V} {its its' : List Value} {n n' : Nat} {f : Obj → Obj} (I : Inv X pins σ H s) (h : H p = some (.lst xs))
    (ho : s.heap.get? p = some { cls := .type "list", data := .seq its.toArray n }) (hf : f { cls := .type "list", data := .seq its.toArray n } = { cls := .type "list", data := .seq its'.toArray n' }) (r : Vals ys its') (hz : ys.length ≤ sizeLine) (t : Nat) :
    Inv X pins σ (upd H p (.lst ys)) { s with heap := s.heap.update p f, toks := t } := by
  have e : (s.heap.update p f).get? p = some { cls := .type "list", data := .seq its'.toArray n' } := by
    rw [Heap.get?_update_self f ho (by rw [hf] <;> rfl), hf]
  refine I.write (x := p) (e := p) (by rw [h]; trivial) (.inl rfl) (fun b u hb q => (Heap.get?_update_other _ _ (Ne.symm hb)).trans q) ⟨_, e⟩ ?_
  exact ⟨hz, its', n', r, e⟩
def rSetL : V → V → V → Hp → (Hp → Prop) → Prop := fun o i v H Q => ∃ p xs k j, o = .ref p ∧ i = .int k ∧ H p = some (.lst xs) ∧ ixN xs.length k = some j ∧ Q (upd H p (.lst (xs.set j v)))
theorem set_list : PSet X rSetL := by
  intro pins s σ H o i v ov iv u Q I ro ri rv h
  obtain ⟨p, xs, k, j, rfl, rfl, hp, hj, q⟩ := h
  cases ro
  obtain ⟨t, rfl⟩ := ri
  obtain ⟨its, n, r, ho, hz⟩ := I.lst hp
  obtain ⟨h1, h2, h3, h4⟩ := ixN_seq hj
  have hl := r.length
  have hn := line63
  have I' : Inv X pins σ (upd H p (.lst (xs.set j v))) { s with heap := s.heap.update p (Obj.mapSeq (·.setIfInBounds j u)) } :=
    I.lstUpd hp ho (mapSeq_set its n j u) (r.set rv j) (by rw [List.length_set]; exact hz) s.toks
  by_cases h0 : 0 ≤ k
  · have hk : k.toNat = j := by
      rw [seqIndex_of h0 h4] at h1
      exact Option.some.inj h1
    exact PySem.W.ki_setAt ho h0 (by omega) (by rw [List.size_toArray, ← hl]; exact h4) (by rw [hk]; exact ⟨_, I', q⟩)
  · have hk : (k + (its.toArray.size : Int)).toNat = j := by
      rw [seqIndex_neg (by omega) h3] at h1
      rw [List.size_toArray, ← hl]
      exact Option.some.inj h1
    exact PySem.W.ki_setBack ho (by omega) (by rw [List.size_toArray, ← hl]; exact h3) (by omega) (by rw [hk]; exact ⟨_, I', q⟩)

/-! ### slices -/
theorem slice_bounds (lo hi : Option Int) (n : Nat) : (sliceBounds lo hi none n).1 = ((HT.sIx n 0 lo : Nat) : Int) ∧ (sliceBounds lo hi none n).2.1 = ((HT.sIx n n hi : Nat) : Int) ∧ (sliceBounds lo hi none n).2.2 = 1 := by
  refine ⟨?_, ?_, rfl⟩
  · cases lo with
    | none => simp [sliceBounds, HT.sIx]
    | some i =>
      simp only [sliceBounds, HT.sIx, Option.getD_none, show (1 : Int) > 0 by decide, if_true]
      by_cases h : i < 0
      · simp only [h, if_true] <;> omega
      · simp only [h, if_false] <;> omega
  · cases hi with
    | none => simp [sliceBounds, HT.sIx]
    | some i =>
      simp only [sliceBounds, HT.sIx, Option.getD_none, show (1 : Int) > 0 by decide, if_true]
      by_cases h : i < 0
      · simp only [h, if_true] <;> omega
      · simp only [h, if_false] <;> omega
theorem slicePick_cut (its : List Value) (lo hi : Option Int) : slicePick its.toArray lo hi none = ((its.drop (HT.sIx its.length 0 lo)).take (HT.sIx its.length its.length hi - HT.sIx its.length 0 lo)).toArray := by
  obtain ⟨h1, h2, h3⟩ := slice_bounds lo hi its.toArray.size
  unfold slicePick
  rw [h1, h2, h3]
  simp only [sliceRange_one, pick_run, List.size_toArray] <;> rfl
/-- xs[lo:hi] of a list: a new list -/
def rSlL (K : PySem.W.Frag) : V → Option Int → Option Int → Hp → VK → Prop := fun x lo hi H Q => ∃ a xs, x = .ref a ∧ SqL K H a xs ∧ ∀ p, H p = none → Q (.ref p) (upd H p (.lst (cutV xs lo hi)))
theorem sl_list : SlR X (rSlL X.K) := by
  intro pins s σ H x v vl vu lo hi sl Q I rx hs pl pu h
  obtain ⟨a, xs, rfl, hx, q⟩ := h
  cases rx
  obtain ⟨its, r, ht, hz⟩ := I.list hx
  have hlen := r.length
  refine ⟨"list", _, slot_list_getitem.lookup, ht.isList.typeIs, ?_⟩
  refine wpAny_getItem_list_slice ht.isList hs pl pu .none (by simp) ?_ (by rw [List.size_toArray] <;> omega)
  rw [slicePick_cut, ← hlen]
  refine ⟨.ref s.heap.objs.size, _, I.laid (t' := s.toks) (o := .lst (cutV xs lo hi)) (fun b ob q => Heap.get?_push_of_some _ q) (Nat.le_refl _) ?_, rfl, q _ (I.hok.fresh (Nat.le_refl _))⟩
  exact ⟨Nat.le_trans (cutV_length xs lo hi) hz, _, 0, (r.drop (HT.sIx xs.length 0 lo)).take (HT.sIx xs.length xs.length hi - HT.sIx xs.length 0 lo), Heap.get?_push_size _ rfl⟩

/-! ### in, not in: flat items -/
def flatV : V → Bool
  | .non => true
  | .bl _ => true
  | .int _ => true
  | .str _ => true
  | _ => false
/-- == of flat values -/
def eqV : V → V → Bool
  | .non, .non => true
  | .bl a, .bl b => a == b
  | .bl a, .int b => (if a then 1 else 0) == b
  | .int a, .bl b => a == (if b then 1 else 0)
  | .int a, .int b => a == b
  | .str a, .str b => a == b
  | _, _ => false
theorem eqAt_V {A : Around} {s : Shared} {y x : V} {u v : Value} (ry : RelV y u) (rx : RelV x v) (fy : flatV y = true) (fx : flatV x = true) : SeqAt.EqAt A s u v (eqV y x) := by
  cases y with
  | non =>
    cases ry
    cases x with
    | non => cases rx; exact SeqAt.EqAt.same _
    | bl b => cases rx; exact SeqAt.EqAt.none_bool b
    | int b => obtain ⟨t, rfl⟩ := rx; exact SeqAt.EqAt.none_int b t
    | str b => obtain ⟨t, rfl⟩ := rx; exact SeqAt.EqAt.none_str b t
    | _ => exact absurd (show false = true from fx) Bool.false_ne_true
  | bl a =>
    cases ry
    cases x with
    | non => cases rx; exact SeqAt.EqAt.bool_none a
    | bl b => cases rx; exact SeqAt.EqAt.bool_bool a b
    | int b => obtain ⟨t, rfl⟩ := rx; exact SeqAt.EqAt.bool_int a b t
    | str b => obtain ⟨t, rfl⟩ := rx; exact SeqAt.EqAt.bool_str a b t
    | _ => exact absurd (show false = true from fx) Bool.false_ne_true
  | int a =>
    obtain ⟨t', rfl⟩ := ry
    cases x with
    | non => cases rx; exact SeqAt.EqAt.int_none a t'
    | bl b => cases rx; exact SeqAt.EqAt.int_bool a t' b
    | int b => obtain ⟨t, rfl⟩ := rx; exact SeqAt.EqAt.int_int a t' b t
    | str b => obtain ⟨t, rfl⟩ := rx; exact SeqAt.EqAt.int_str a t' b t
    | _ => exact absurd (show false = true from fx) Bool.false_ne_true
  | str a =>
    obtain ⟨t', rfl⟩ := ry
    cases x with
    | non => cases rx; exact SeqAt.EqAt.str_none a t'
    | bl b => cases rx; exact SeqAt.EqAt.str_bool a t' b
    | int b => obtain ⟨t, rfl⟩ := rx; exact SeqAt.EqAt.str_int a t' b t
    | str b => obtain ⟨t, rfl⟩ := rx; exact SeqAt.EqAt.str_str a t' b t
    | _ => exact absurd (show false = true from fx) Bool.false_ne_true
  | _ => exact absurd (show false = true from fy) Bool.false_ne_true
/-- the items' answers, read off the values (a value's own answer does not lean on its token) -/
def eqU (x : V) (u : Value) : Bool := match u with
  | .none => eqV .non x
  | .bool b => eqV (.bl b) x
  | .int i _ => eqV (.int i) x
  | .str z _ => eqV (.str z) x
  | _ => false
theorem eqU_of {x y : V} {u : Value} (r : RelV y u) (f : flatV y = true) : eqU x u = eqV y x := by
  cases y with
  | non => cases r; rfl
  | bl b => cases r; rfl
  | int i => obtain ⟨t, rfl⟩ := r; rfl
  | str z => obtain ⟨t, rfl⟩ := r; rfl
  | _ => exact absurd (show false = true from f) Bool.false_ne_true
theorem any_eqU {x : V} : ∀ {xs : List V} {us : List Value}, Vals xs us → xs.all flatV = true → us.any (eqU x) = xs.any fun y => eqV y x
  | _, _, .nil, _ => rfl
  | y :: xs, u :: us, .cons r t, f => by
    rw [List.all_cons, Bool.and_eq_true] at f
    rw [List.any_cons, List.any_cons, eqU_of r f.1, any_eqU t f.2]
theorem mem_eqAt {A : Around} {s : Shared} {x : V} {v : Value} (rx : RelV x v) (fx : flatV x = true) : ∀ {xs : List V} {us : List Value}, Vals xs us → xs.all flatV = true → ∀ u ∈ us, SeqAt.EqAt A s u v (eqU x u)
  | _, _, .nil, _ => fun u hu => by cases hu
  | y :: xs, u :: us, .cons r t, f => fun u' hu => by
    rw [List.all_cons, Bool.and_eq_true] at f
    rcases List.mem_cons.mp hu with rfl | hu
    · rw [eqU_of r f.1]; exact eqAt_V r rx f.1 fx
    · exact mem_eqAt rx fx t f.2 u' hu
def inV (x : V) (xs : List V) : Bool := xs.any fun y => eqV y x
/-- x in a list or tuple of flat items -/
def rIn (K : PySem.W.Frag) (neg : Bool) : R2 := fun x y H Q => ∃ p xs, y = .ref p ∧ (SqL K H p xs ∨ SqT K H p xs) ∧ flatV x = true ∧ xs.all flatV = true ∧ Q (.bl (if neg then !inV x xs else inV x xs)) H
theorem op_in_seq : OpR X (compareOp .In) (rIn X.K false) := by
  intro pins s σ H x y v u Q I rx ry h
  obtain ⟨p, xs, rfl, hq, fx, fs, q⟩ := h
  cases ry
  rcases hq with hq | hq
  · obtain ⟨its, r, pl, hz⟩ := I.list hq
    refine SeqAt.in_listAt (eqU x) pl.isList (fun w hw => mem_eqAt rx fx r fs w (by simpa using hw)) ⟨.bl _, H, I, rfl, ?_⟩
    rw [show its.toArray.any (eqU x) = its.any (eqU x) by simp, any_eqU r fs]
    exact q
  · obtain ⟨its, r, pl, hz⟩ := I.tuple hq
    refine SeqAt.in_tupleAt (eqU x) pl (fun w hw => mem_eqAt rx fx r fs w (by simpa using hw)) ⟨.bl _, H, I, rfl, ?_⟩
    rw [show its.toArray.any (eqU x) = its.any (eqU x) by simp, any_eqU r fs]
    exact q
theorem op_notIn_seq : OpR X (compareOp .NotIn) (rIn X.K true) := by
  intro pins s σ H x y v u Q I rx ry h
  obtain ⟨p, xs, rfl, hq, fx, fs, q⟩ := h
  cases ry
  rcases hq with hq | hq
  · obtain ⟨its, r, pl, hz⟩ := I.list hq
    refine SeqAt.notIn_listAt (eqU x) pl.isList (fun w hw => mem_eqAt rx fx r fs w (by simpa using hw)) ⟨.bl _, H, I, rfl, ?_⟩
    rw [show its.toArray.any (eqU x) = its.any (eqU x) by simp, any_eqU r fs]
    exact q
  · obtain ⟨its, r, pl, hz⟩ := I.tuple hq
    refine SeqAt.notIn_tupleAt (eqU x) pl (fun w hw => mem_eqAt rx fx r fs w (by simpa using hw)) ⟨.bl _, H, I, rfl, ?_⟩
    rw [show its.toArray.any (eqU x) = its.any (eqU x) by simp, any_eqU r fs]
    exact q
theorem op_notIn_str : OpR X (compareOp .NotIn) (fun x y H Q => ∃ i j, x = .str i ∧ y = .str j ∧ Q (.bl (!(!(Builtin.Str.occurrences j i 0 j.length 1).isEmpty))) H) := by
  intro pins s σ H x y v u Q I rx ry h
  obtain ⟨i, j, rfl, rfl, q⟩ := h
  obtain ⟨t, rfl⟩ := rx
  obtain ⟨t', rfl⟩ := ry
  exact notIn_str ⟨.bl _, H, I, rfl, q⟩

/-! ### len, list(x), tuple(x) of any list or tuple that is read -/
theorem call_len_seq : CallR X (.builtin "len") (fun xs H Q => ∃ p ys, xs = [.ref p] ∧ (SqL X.K H p ys ∨ SqT X.K H p ys) ∧ Q (.int ys.length) H) := by
  intro pins s σ H xs us Q I r h
  obtain ⟨p, ys, rfl, hq, q⟩ := h
  obtain ⟨u, rfl, rx⟩ := vals1 r
  cases rx
  have hn := line63
  rcases hq with hq | hq
  · obtain ⟨its, r', pl, hz⟩ := I.list hq
    have hlen := r'.length
    exact Calls.call_len_list pl.isList (by simp only [List.size_toArray] <;> omega) ⟨.int ys.length, H, I.tok _, ⟨s.toks + 1, by rw [List.size_toArray, hlen]⟩, q⟩
  · obtain ⟨its, r', pl, hz⟩ := I.tuple hq
    have hlen := r'.length
    exact len_tuple pl (by simp only [List.size_toArray] <;> omega) ⟨.int ys.length, H, I.tok _, ⟨s.toks + 1, by rw [List.size_toArray, hlen]⟩, q⟩
theorem call_len_str : CallR X (.builtin "len") (fun xs H Q => ∃ z, xs = [.str z] ∧ z.length ≤ sizeLine ∧ Q (.int z.length) H) := by
  intro pins s σ H xs us Q I r h
  obtain ⟨z, rfl, hz, q⟩ := h
  obtain ⟨u, rfl, t, rfl⟩ := vals1 r
  have hn := line63
  exact len_str (by omega) ⟨.int z.length, H, I.tok _, ⟨_, rfl⟩, q⟩
theorem CallR.or {f : Value} {r r' : List V → Hp → VK → Prop} (h : CallR X f r) (h' : CallR X f r') : CallR X f (fun xs H Q => r xs H Q ∨ r' xs H Q) := by
  intro pins s σ H xs us Q I rs q
  rcases q with q | q
  · exact h pins s σ H xs us Q I rs q
  · exact h' pins s σ H xs us Q I rs q
theorem call_list_of : CallR X (.type "list") (fun xs H Q => ∃ p ys, xs = [.ref p] ∧ (SqL X.K H p ys ∨ SqT X.K H p ys) ∧ ∀ l, H l = none → Q (.ref l) (upd H l (.lst ys))) := by
  intro pins s σ H xs us Q I r h
  obtain ⟨p, ys, rfl, hq, q⟩ := h
  obtain ⟨u, rfl, rx⟩ := vals1 r
  cases rx
  have fin : ∀ (its : List Value), Vals ys its → ys.length ≤ sizeLine → ∀ (h' : Heap) (c' : Nat), (∀ b o', s.heap.get? b = some o' → h'.get? b = some o') →
      h'.get? s.heap.objs.size = some { cls := .type "list", dict := none, data := .seq its.toArray c', slots := #[] } → EP X pins σ Q (.ref s.heap.objs.size) { s with heap := h' } := fun its r' hz h' c' kp e =>
    ⟨.ref s.heap.objs.size, _, I.laid (t' := s.toks) kp (Nat.le_refl _) (show ObjOk X.prog X.w _ h' _ (.lst ys) from ⟨hz, its, c', r', e⟩), rfl, q _ (I.hok.fresh (Nat.le_refl _))⟩
  rcases hq with hq | hq
  · obtain ⟨its, r', pl, hz⟩ := I.list hq
    have hlen := r'.length
    obtain ⟨o, ho, hc, n, hd⟩ := pl.isList
    exact call_list_seq p (.inl rfl) ho hc hd (fun h' c' kp e => fin its r' hz h' c' kp e) (by simp only [List.size_toArray] <;> omega)
  · obtain ⟨its, r', pl, hz⟩ := I.tuple hq
    have hlen := r'.length
    obtain ⟨o, ho, hc, n, hd⟩ := pl
    exact call_list_seq p (.inr rfl) ho hc hd (fun h' c' kp e => fin its r' hz h' c' kp e) (by simp only [List.size_toArray] <;> omega)
theorem call_tuple_of : CallR X (.type "tuple") (fun xs H Q => ∃ p ys, xs = [.ref p] ∧ ((SqL X.K H p ys ∧ ∀ l, H l = none → Q (.ref l) (upd H l (.tup ys))) ∨ (SqT X.K H p ys ∧ Q (.ref p) H))) := by
  intro pins s σ H xs us Q I r h
  obtain ⟨p, ys, rfl, h⟩ := h
  obtain ⟨u, rfl, rx⟩ := vals1 r
  cases rx
  rcases h with ⟨hq, q⟩ | ⟨hq, q⟩
  · obtain ⟨its, r', pl, hz⟩ := I.list hq
    have hlen := r'.length
    refine call_tuple_list pl.isList (fun h' kp => ?_) (by simp only [List.size_toArray] <;> omega)
    have I1 : Inv X pins σ H { s with heap := h' } := I.kept (t' := s.toks) kp
    have I2 : Inv X pins σ (upd H h'.objs.size (.tup ys)) { s with heap := h'.push { cls := .type "tuple", data := .seq its.toArray } } :=
      I1.laid (t' := s.toks) (fun b o e => Heap.get?_push_of_some _ e) (Nat.le_refl _) (show ObjOk X.prog X.w _ _ _ (.tup ys) from ⟨hz, its, r', IsTup.new _ _⟩)
    exact ⟨.ref h'.objs.size, _, I2, rfl, q _ (I1.hok.fresh (Nat.le_refl _))⟩
  · obtain ⟨its, r', pl, hz⟩ := I.tuple hq
    exact call_tuple_same pl ⟨.ref p, H, I, rfl, q⟩

/-! ### the call of a builtin's method: o.m(..) -/
/-- the value is of that builtin type -/
def tyV (K : PySem.W.Frag) (T : String) (x : V) (H : Hp) : Prop := match x with
  | .str _ => T = "str"
  | .int _ => T = "int"
  | .ref p => (T = "list" ∧ ∃ xs, SqL K H p xs) ∨ (T = "tuple" ∧ ∃ o, K.lookup p = some o ∧ o.cls = .type "tuple" ∧ o.dict = none) ∨
      (T = "dict" ∧ ((∃ kvs, H p = some (.dK kvs)) ∨ ∃ kvs, H p = some (.dT kvs))) ∨ (T = "set" ∧ ∃ S n, H p = some (.set S n))
  | _ => False
theorem tyV_is {pins : List (Addr × Obj)} {σ : St} {H : Hp} {s : Shared} {T : String} {x : V} {v : Value} (I : Inv X pins σ H s) (r : RelV x v) (ty : tyV X.K T x H) :
    s.TypeIs v T ∧ ∀ a, v = .ref a → ∃ ob, s.heap.get? a = some ob ∧ ob.dict = none := by
  cases x with
  | str z =>
    obtain ⟨t, rfl⟩ := r
    cases (show T = "str" from ty)
    exact ⟨typeIs_str s z t, fun _ e => nomatch e⟩
  | int i =>
    obtain ⟨t, rfl⟩ := r
    cases (show T = "int" from ty)
    exact ⟨typeIs_int s i t, fun _ e => nomatch e⟩
  | ref p =>
    cases r
    rcases ty with ⟨rfl, xs, hq⟩ | ⟨rfl, o, hk, hc, hd⟩ | ⟨rfl, hk⟩ | ⟨rfl, S, n, hk⟩
    · obtain ⟨its, _, pl, _⟩ := I.list hq
      refine ⟨pl.isList.typeIs, fun a e => ?_⟩
      cases e
      obtain ⟨o, n, e, c, hd, _⟩ := pl
      exact ⟨o, e, hd⟩
    · refine ⟨⟨o, I.kIn p o hk, hc⟩, fun a e => ?_⟩
      cases e
      exact ⟨o, I.kIn _ o hk, hd⟩
    · have z : ∃ o, s.heap.get? p = some o ∧ o.ExactDict := by
        rcases hk with ⟨kvs, hk⟩ | ⟨kvs, hk⟩
        · obtain ⟨_, _, _, _, o, _, _, e, ex, _⟩ := I.hok p _ hk
          exact ⟨o, e, ex⟩
        · obtain ⟨_, _, _, _, o, _, _, e, ex, _⟩ := I.hok p _ hk
          exact ⟨o, e, ex⟩
      obtain ⟨o, e, ex⟩ := z
      refine ⟨⟨o, e, ex.1⟩, fun a e2 => ?_⟩
      cases e2
      exact ⟨o, e, ex.2.1⟩
    · obtain ⟨o, _, _, _, e, ex, _⟩ := I.hok p _ hk
      refine ⟨⟨o, e, ex.1⟩, fun a e2 => ?_⟩
      cases e2
      exact ⟨o, e, ex.2.1⟩
  | _ => exact False.elim ty
def tBM0 (K : PySem.W.Frag) (T : String) (r : V → List V → Hp → VK → Prop) (to : TE) : TE := fun σ H Q => to σ H fun x H1 => tyV K T x H1 ∧ r x [] H1 Q
def tBM (K : PySem.W.Frag) (T : String) (r : V → List V → Hp → VK → Prop) (to : TE) (t : TA) : TE := fun σ H Q => to σ H fun x H1 => tyV K T x H1 ∧ t σ H1 fun xs H2 => r x xs H2 Q
variable {o e : Expr} {es : List Expr} {to : TE} {t : TA} {name : Str} {apos cpos : Pos} {T id : String} {r : V → List V → Hp → VK → Prop}
theorem pe_bm0 (pa : PlainAttrs T) (slot : Slot T name id) (hty : typeOf (.builtin id) = pure (.type "method_descriptor")) (hm : MtR X id r) (ho : PE X o to)
    (hbase : attributeBase o name X.env (eval o X.env) = eval o X.env := by rfl) (hline : (apos.endLine == cpos.line) = true := by rfl) : PE X (.Call (.Attribute o name apos) [] [] cpos) (tBM0 X.K T r to) := by
  intro pins s σ H Q I h
  refine wpAny_Call_method0_late hbase hline (thn (ho pins s σ H _ I h) fun v s1 ⟨x, H1, I1, r1, ty, q1⟩ => ?_)
  obtain ⟨h1, h2⟩ := tyV_is I1 r1 ty
  exact ⟨T, id, pa, slot, hty, h1, h2, Calls.callWith_builtin rfl (PySem.evalArgs_none (hm pins s1 σ H1 x [] v [] Q I1 r1 .nil q1))⟩
theorem pe_bm (pa : PlainAttrs T) (slot : Slot T name id) (hty : typeOf (.builtin id) = pure (.type "method_descriptor")) (hm : MtR X id r) (ho : PE X o to) (ha : PA X (e :: es) t)
    (hbase : attributeBase o name X.env (eval o X.env) = eval o X.env := by rfl)
    (hfew : ((backTo cpos (starEach (e :: es) X.env)).all (fun x => !x.1) && (backToKw cpos (keywordEach [] X.env)).all (fun x => x.1.isSome)
      && decide ((e :: es).length + ([] : List Keyword).length + (if ([] : List Keyword).isEmpty then 0 else 1) < 30)) = true := by rfl)
    (hline : (apos.endLine == cpos.line) = true := by rfl) (hs : starEach (e :: es) X.env = (false, eval e X.env) :: starEach es X.env := by rfl) (hplain : (backTo cpos (starEach es X.env)).any (·.1) = false := by rfl) :
    PE X (.Call (.Attribute o name apos) (e :: es) [] cpos) (tBM X.K T r to t) := by
  intro pins s σ H Q I h
  refine wpAny_Call_method_late hbase hfew hline rfl (thn (ho pins s σ H _ I h) fun v s1 ⟨x, H1, I1, r1, ty, q1⟩ => ?_)
  obtain ⟨h1, h2⟩ := tyV_is I1 r1 ty
  refine ⟨T, id, pa, slot, hty, h1, h2, ?_⟩
  have hA := ha cpos pins s1 σ H1 _ I1 q1
  rw [hs] at hA ⊢
  refine Calls.callWith_builtin (by show (false || (backTo cpos (starEach es X.env)).any (·.1)) = false; rw [hplain] <;> rfl) (Calls.evalArgs_plain ?_)
  exact thn hA fun us s2 ⟨vs, H2, I2, r2, q2⟩ => hm pins s2 σ H2 x vs v us Q I2 r1 r2 q2
/- xs.append(e), list.index on a module's tuple .. are MtR facts of 06m -/
end
end L2

namespace L2
open PySem PySem.Spec PyProof.Rows

def MtM (X : Cx) (id : String) (r : V → List V → Hp → VK → Prop) : Prop :=
  ∀ (pins : List (Addr × Obj)) (s : Shared) (σ : St) (H : Hp) (x : V) (xs : List V) (v : Value) (us : List Value) (Q : VK), Inv X pins σ H s → RelV x v → Vals xs us → r x xs H Q →
    wpAny (model X.prog X.w) X.A (call (.builtin id) (v :: us)) (EP X pins σ Q) X.xe s

/-! ### lists of values -/
theorem Vals.one : ∀ {x : V} {us : List Value}, Vals [x] us → ∃ u, us = [u] ∧ RelV x u
  | _, _, .cons r .nil => ⟨_, rfl, r⟩
theorem Vals.two : ∀ {x y : V} {us : List Value}, Vals [x, y] us → ∃ u v, us = [u, v] ∧ RelV x u ∧ RelV y v
  | _, _, _, .cons r (.cons q .nil) => ⟨_, _, rfl, r, q⟩
theorem Vals.zero : ∀ {us : List Value}, Vals [] us → us = []
  | _, .nil => rfl
theorem Vals.dropLast {xs : List V} {us : List Value} (h : Vals xs us) : Vals xs.dropLast us.dropLast := by
  induction h with
  | nil => exact .nil
  | cons r t ih =>
    cases t with
    | nil => exact .nil
    | cons q t' => exact .cons r ih
theorem Vals.eraseIdx : ∀ {xs : List V} {us : List Value} (i : Nat), Vals xs us → Vals (xs.eraseIdx i) (us.eraseIdx i)
  | _, _, _, .nil => .nil
  | _, _, 0, .cons _ t => t
  | _, _, i + 1, .cons r t => .cons r (Vals.eraseIdx i t)
theorem Vals.reverse {xs : List V} {us : List Value} (h : Vals xs us) : Vals xs.reverse us.reverse := by
  induction h with
  | nil => exact .nil
  | cons r t ih => rw [List.reverse_cons, List.reverse_cons]; exact Vals.append ih (.cons r .nil)
theorem Vals.rep {xs : List V} {us : List Value} (h : Vals xs us) : ∀ k : Nat, Vals (List.replicate k xs).flatten (List.replicate k us).flatten
  | 0 => .nil
  | k + 1 => by
    rw [List.replicate_succ, List.replicate_succ, List.flatten_cons, List.flatten_cons]
    exact Vals.append h (Vals.rep h k)
theorem erase_last {α : Type} (l : List α) : l.eraseIdx (l.length - 1) = l.dropLast := by
  induction l with
  | nil => rfl
  | cons a r ih =>
    cases r with
    | nil => rfl
    | cons b r =>
      have e : (a :: b :: r).length - 1 = ((b :: r).length - 1) + 1 := by
        have h1 : (a :: b :: r).length = r.length + 2 := rfl
        have h2 : (b :: r).length = r.length + 1 := rfl
        omega
      rw [e, List.eraseIdx_cons_succ, ih]
      all_goals rfl
theorem len_erase {α : Type} : ∀ (l : List α) (i : Nat), (l.eraseIdx i).length ≤ l.length
  | [], _ => Nat.le_refl _
  | _ :: _, 0 => Nat.le_succ _
  | _ :: r, i + 1 => Nat.succ_le_succ (len_erase r i)
theorem foldl_rep (its : List Value) : ∀ (k : Nat) (acc : List Value),
    List.foldl (fun x1 x2 => x1 ++ x2) acc.toArray (List.replicate k its.toArray) = (acc ++ (List.replicate k its).flatten).toArray
  | 0, acc => by simp
  | k + 1, acc => by
    have e : acc.toArray ++ its.toArray = (acc ++ its).toArray := by simp
    have e2 : (acc ++ its) ++ (List.replicate k its).flatten = acc ++ (List.replicate (k + 1) its).flatten := by
      rw [List.replicate_succ, List.flatten_cons, List.append_assoc]
    rw [← e2, ← foldl_rep its k (acc ++ its), ← e, List.replicate_succ, List.foldl_cons]

section
variable {X : Cx} {pins : List (Addr × Obj)} {σ : St} {H : Hp} {s : Shared} {l b : Addr} {xs ys zs : List V}

/-! ### the two steps: a tracked list is rewritten, a new list is laid -/
theorem Inv.lset {its its' : List Value} {n : Nat} {f : Array Value → Array Value} {t' : Nat} (I : Inv X pins σ H s) (hH : H l = some (.lst xs))
    (e : s.heap.get? l = some { cls := .type "list", data := .seq its.toArray n }) (hf : f its.toArray = its'.toArray) (hv : Vals ys its') (hz : ys.length ≤ sizeLine) :
    Inv X pins σ (upd H l (.lst ys)) { s with heap := s.heap.update l (Obj.mapSeq f), toks := t' } := by
  have q := PySem.IsL.update e f
  rw [hf] at q
  refine I.write (x := l) (e := l) (by rw [hH]; exact trivial) (.inl rfl) (fun b' u hb hu => (Heap.get?_update_other s.heap (Obj.mapSeq f) (Ne.symm hb)).trans hu) ⟨_, q⟩ ?_
  exact ⟨hz, its', _, hv, q⟩
theorem Inv.lnew {its : List Value} {t' : Nat} (I : Inv X pins σ H s) (hv : Vals ys its) (hz : ys.length ≤ sizeLine) :
    Inv X pins σ (upd H s.heap.objs.size (.lst ys)) { s with heap := s.heap.push { cls := .type "list", data := .seq its.toArray }, toks := t' } :=
  I.laid (fun _ _ q => Heap.get?_push_of_some _ q) (Nat.le_refl _) ⟨hz, its, 0, hv, Heap.get?_push_size _ rfl⟩
theorem Inv.fresh (I : Inv X pins σ H s) : H s.heap.objs.size = none := I.hok.fresh (Nat.le_refl _)
theorem Inv.lstM (I : Inv X pins σ H s) (hH : H l = some (.lst xs)) : xs.length ≤ sizeLine ∧ ∃ (its : List Value) (n : Nat), Vals xs its ∧ xs.length = its.length ∧ s.heap.get? l = some { cls := .type "list", data := .seq its.toArray n } := by
  obtain ⟨z, its, n, r, e⟩ := I.hok l _ hH
  exact ⟨z, its, n, r, r.length, e⟩

theorem notLongL {n : Nat} (h : n ≤ sizeLine) : Builtin.List.listTooLong n = false := by
  unfold Builtin.List.listTooLong
  exact decide_eq_false (by omega)
end

section
variable {X : Cx}

/-! ### methods -/
def rAppend : V → List V → Hp → VK → Prop := fun x vs H Q => ∃ l xs y, x = .ref l ∧ vs = [y] ∧ H l = some (.lst xs) ∧ xs.length < sizeLine ∧ Q .non (upd H l (.lst (xs ++ [y])))
theorem mt_append : MtM X "list.append" rAppend := by
  intro pins s σ H x vs v us Q I rx rv h
  obtain ⟨l, xs, y, rfl, rfl, hH, hz, q⟩ := h
  cases rx
  obtain ⟨u, rfl, ru⟩ := rv.one
  obtain ⟨z, its, n, r, hl, e⟩ := I.lstM hH
  refine call_meets F.slot_list_append ⟨_, e, rfl⟩ F.entry_list_append (F.args_list_append_2 _ _) (PySem.list_append l its.toArray n u (by rw [List.size_toArray]; omega)) ⟨e, ?_⟩
  refine ⟨.non, _, I.lset (its' := its ++ [u]) hH e (by simp) (r.append (.cons ru .nil)) ?_, rfl, q⟩
  rw [List.length_append, List.length_singleton]
  omega

def rExtend : V → List V → Hp → VK → Prop := fun x vs H Q => ∃ l b xs zs, x = .ref l ∧ vs = [.ref b] ∧ H l = some (.lst xs) ∧ H b = some (.lst zs) ∧ xs.length + zs.length ≤ sizeLine ∧ Q .non (upd H l (.lst (xs ++ zs)))
theorem mt_extend : MtM X "list.extend" rExtend := by
  intro pins s σ H x vs v us Q I rx rv h
  obtain ⟨l, b, xs, zs, rfl, rfl, hH, hB, hz, q⟩ := h
  cases rx
  obtain ⟨u, rfl, ru⟩ := rv.one
  cases ru
  obtain ⟨z, its, n, r, hl, e⟩ := I.lstM hH
  obtain ⟨z2, its2, n2, r2, hl2, e2⟩ := I.lstM hB
  have hsz : its.toArray.size + its2.toArray.size ≤ sizeLine := by rw [List.size_toArray, List.size_toArray]; omega
  have hlong : ¬ (!its.toArray.isEmpty && Builtin.List.listTooLong (its.toArray.size + its2.toArray.size)) = true := by
    rw [notLongL hsz, Bool.and_false]
    exact Bool.false_ne_true
  refine call_meets F.slot_list_extend ⟨_, e, rfl⟩ F.entry_list_extend (F.args_list_extend_2 _ _)
    (AutoSeq1.list_extend_list_list_0 l its.toArray n b its2.toArray n2 hlong (by rw [List.size_toArray]; omega) (by omega)) ⟨e, e2, ?_⟩
  refine ⟨.non, _, I.lset (its' := its ++ its2) hH e (by simp) (r.append r2) ?_, rfl, q⟩
  rw [List.length_append]
  omega

def rPop : V → List V → Hp → VK → Prop := fun x vs H Q => ∃ l xs y, x = .ref l ∧ vs = [] ∧ H l = some (.lst xs) ∧ xs[xs.length - 1]? = some y ∧ Q y (upd H l (.lst xs.dropLast))
theorem mt_pop : MtM X "list.pop" rPop := by
  intro pins s σ H x vs v us Q I rx rv h
  obtain ⟨l, xs, y, rfl, rfl, hH, hy, q⟩ := h
  cases rx
  have hus := rv.zero
  subst hus
  obtain ⟨z, its, n, r, hl, e⟩ := I.lstM hH
  obtain ⟨u, hu, ru⟩ := r.get hy
  have hy' : its.toArray[its.toArray.size - 1]? = some u := by
    show its.toArray[its.length - 1]? = some u
    rw [← Array.getElem?_toList, ← hl]
    exact hu
  refine call_meets F.slot_list_pop ⟨_, e, rfl⟩ F.entry_list_pop (F.args_list_pop_1 _) (MeetsSeq.list_pop_last l its.toArray n u hy' (by rw [List.size_toArray]; omega)) ⟨e, ?_⟩
  refine ⟨y, _, I.lset (its' := its.dropLast) hH e ?_ r.dropLast ?_, ru, q⟩
  · show its.toArray.eraseIdxIfInBounds (its.toArray.size - 1) = its.dropLast.toArray
    rw [List.size_toArray, List.eraseIdxIfInBounds_toArray, erase_last]
  · rw [List.length_dropLast]
    omega

def rPopAt : V → List V → Hp → VK → Prop := fun x vs H Q => ∃ l xs i k y, x = .ref l ∧ vs = [.int i] ∧ H l = some (.lst xs) ∧ -(2 ^ 63) ≤ i ∧ i < 2 ^ 63 ∧ seqIndex? i xs.length = some k ∧ xs[k]? = some y ∧ Q y (upd H l (.lst (xs.eraseIdx k)))
theorem mt_popAt : MtM X "list.pop" rPopAt := by
  intro pins s σ H x vs v us Q I rx rv h
  obtain ⟨l, xs, i, k, y, rfl, rfl, hH, h1, h2, hk, hy, q⟩ := h
  cases rx
  obtain ⟨u, rfl, ru⟩ := rv.one
  obtain ⟨t, rfl⟩ := ru
  obtain ⟨z, its, n, r, hl, e⟩ := I.lstM hH
  obtain ⟨w, hw, rw'⟩ := r.get hy
  refine call_meets F.slot_list_pop ⟨_, e, rfl⟩ F.entry_list_pop (F.args_list_pop_2 _ _)
    (MeetsSeq.list_pop_at l its.toArray n i t k w (fitsIndex_both h1 h2) (by rw [List.size_toArray, ← hl]; exact hk) (by rw [← Array.getElem?_toList]; exact hw) (by rw [List.size_toArray]; omega)) ⟨e, ?_⟩
  refine ⟨y, _, I.lset (its' := its.eraseIdx k) hH e ?_ (r.eraseIdx k) ?_, rw', q⟩
  · show its.toArray.eraseIdxIfInBounds k = (its.eraseIdx k).toArray
    rw [List.eraseIdxIfInBounds_toArray]
  · have := len_erase xs k
    omega

def rReverse : V → List V → Hp → VK → Prop := fun x vs H Q => ∃ l xs, x = .ref l ∧ vs = [] ∧ H l = some (.lst xs) ∧ Q .non (upd H l (.lst xs.reverse))
theorem mt_reverse : MtM X "list.reverse" rReverse := by
  intro pins s σ H x vs v us Q I rx rv h
  obtain ⟨l, xs, rfl, rfl, hH, q⟩ := h
  cases rx
  have hus := rv.zero
  subst hus
  obtain ⟨z, its, n, r, hl, e⟩ := I.lstM hH
  refine call_meets F.slot_list_reverse ⟨_, e, rfl⟩ F.entry_list_reverse (F.args_list_reverse_1 _) (AutoSeq1.list_reverse_list_0 l its.toArray n (by rw [List.size_toArray]; omega)) ⟨e, ?_⟩
  refine ⟨.non, _, I.lset (its' := its.reverse) hH e (by simp) r.reverse ?_, rfl, q⟩
  rw [List.length_reverse]
  omega

def rClear : V → List V → Hp → VK → Prop := fun x vs H Q => ∃ l xs, x = .ref l ∧ vs = [] ∧ H l = some (.lst xs) ∧ Q .non (upd H l (.lst []))
theorem mt_clear : MtM X "list.clear" rClear := by
  intro pins s σ H x vs v us Q I rx rv h
  obtain ⟨l, xs, rfl, rfl, hH, q⟩ := h
  cases rx
  have hus := rv.zero
  subst hus
  obtain ⟨z, its, n, r, hl, e⟩ := I.lstM hH
  refine call_meets F.slot_list_clear ⟨_, e, rfl⟩ F.entry_list_clear (F.args_list_clear_1 _) (AutoSeq1.list_clear_list_0 l its.toArray n (by rw [List.size_toArray]; omega)) ⟨e, ?_⟩
  exact ⟨.non, _, I.lset (its' := []) (ys := []) hH e rfl .nil (Nat.zero_le _), rfl, q⟩

/-! ### list + list, list += list, list * int -/
def rCat : R2 := fun x y H Q => ∃ l b xs zs, x = .ref l ∧ y = .ref b ∧ H l = some (.lst xs) ∧ H b = some (.lst zs) ∧ xs.length + zs.length ≤ sizeLine ∧ ∀ p, H p = none → Q (.ref p) (upd H p (.lst (xs ++ zs)))
theorem op_cat : OpR X (binaryOp .Add) rCat := by
  intro pins s σ H x y v u Q I rx ry h
  obtain ⟨l, b, xs, zs, rfl, rfl, hH, hB, hz, q⟩ := h
  cases rx
  cases ry
  obtain ⟨z, its, n, r, hl, e⟩ := I.lstM hH
  obtain ⟨z2, its2, n2, r2, hl2, e2⟩ := I.lstM hB
  refine PySem.P.add_list e e2 ?_ (by rw [List.size_toArray, List.size_toArray]; omega)
  have ea : its.toArray ++ its2.toArray = (its ++ its2).toArray := by simp
  rw [ea]
  exact ⟨.ref _, _, I.lnew (t' := s.toks) (r.append r2) (by rw [List.length_append]; omega), rfl, q _ I.fresh⟩
/-- a list times an int (a negative one is nothing) -/
def rRep : R2 := fun x y H Q => ∃ l k xs, x = .ref l ∧ y = .int k ∧ H l = some (.lst xs) ∧ -(2 ^ 63) ≤ k ∧ k < 2 ^ 63 ∧ xs.length * k.toNat ≤ sizeLine ∧
  ∀ p, H p = none → Q (.ref p) (upd H p (.lst (List.replicate k.toNat xs).flatten))
theorem len_rep {α : Type} (xs : List α) (k : Nat) : (List.replicate k xs).flatten.length = k * xs.length := by
  induction k with
  | zero => simp
  | succ k ih => rw [List.replicate_succ, List.flatten_cons, List.length_append, ih, Nat.succ_mul, Nat.add_comm]
theorem op_rep : OpR X (binaryOp .Mult) rRep := by
  intro pins s σ H x y v u Q I rx ry h
  obtain ⟨l, k, xs, rfl, rfl, hH, h1, h2, hz, q⟩ := h
  cases rx
  obtain ⟨t, rfl⟩ := ry
  obtain ⟨z, its, n, r, hl, e⟩ := I.lstM hH
  have hlen : its.toArray.size * k.toNat ≤ sizeLine := by rw [List.size_toArray, ← hl]; exact hz
  have hcap : ¬ its.toArray.size * k.toNat > (2 ^ 63 - 1) / 8 := by
    have : (sizeLine : Nat) ≤ (2 ^ 63 - 1) / 8 := by decide
    omega
  have hfit : ¬ (!Builtin.List.listFitsIndex k) = true := by
    rw [fitsIndex_both h1 h2]
    exact Bool.false_ne_true
  have hlong : ¬ Builtin.List.listTooLong (its.toArray.size * k.toNat) = true := by
    rw [notLongL hlen]
    exact Bool.false_ne_true
  have hnew : List.foldl (fun x1 x2 => x1 ++ x2) #[] (List.replicate (if its.toArray.isEmpty = true then 0 else k.toNat) its.toArray) = (List.replicate k.toNat its).flatten.toArray := by
    have f0 : ∀ m : Nat, List.foldl (fun x1 x2 => x1 ++ x2) #[] (List.replicate m its.toArray) = (List.replicate m its).flatten.toArray := fun m => by
      have := foldl_rep its m []
      rw [List.nil_append] at this
      exact this
    rw [f0]
    cases its with
    | nil => simp
    | cons a r' => rw [if_neg (by simp)]
  refine wpAny_binaryOp_repeat_ref (T := "list") (U := "int") (by decide) ⟨_, e, rfl⟩ (fun s' => typeIs_int s' k t) noFill_list_mul F.fills_int_mul F.slot_int_rmul repeat_list F.slot_int_index.lookup
    (call_meets F.slot_int_rmul (typeIs_int s k t) F.entry_int_rmul (F.args_int_rmul_2 _ _) (int___rmul___int_list k t l its.toArray n)
      ⟨e, rfl, ⟨_, e, rfl⟩, call_meets F.slot_list_mul ⟨_, e, rfl⟩ F.entry_list_mul (F.args_list_mul_2 _ _) (AutoListH.list___mul___list_int_3 l its.toArray n k t hfit hcap hlong) ⟨e, ?_⟩⟩)
  rw [hnew]
  exact ⟨.ref _, _, I.lnew (t' := s.toks) (r.rep k.toNat) (by rw [len_rep, Nat.mul_comm]; exact hz), rfl, q _ I.fresh⟩

/-! ### del xs[i] -/
theorem del_list {pins : List (Addr × Obj)} {s : Shared} {σ : St} {H : Hp} {l : Addr} {xs : List V} {i : Int} {t : Tok} {k : Nat} {Q : Unit → Shared → Prop} (I : Inv X pins σ H s) (hH : H l = some (.lst xs))
    (h1 : -(2 ^ 63) ≤ i) (h2 : i < 2 ^ 63) (hk : seqIndex? i xs.length = some k) (h : ∀ s', Inv X pins σ (upd H l (.lst (xs.eraseIdx k))) s' → Q () s') :
    wpAny (model X.prog X.w) X.A (delItem (.ref l) (.int i t)) Q X.xe s := by
  obtain ⟨z, its, n, r, hl, e⟩ := I.lstM hH
  refine PySem.P.delItem_list (k := k) e (fitsIndex_both h1 h2) (by rw [List.size_toArray, ← hl]; exact hk) (h _ ?_) (by rw [List.size_toArray]; omega)
  refine I.lset (its' := its.eraseIdx k) (t' := s.toks) hH e ?_ (r.eraseIdx k) ?_
  · show its.toArray.eraseIdxIfInBounds k = (its.eraseIdx k).toArray
    rw [List.eraseIdxIfInBounds_toArray]
  · have := len_erase xs k
    omega
end

/-! ### xs[a:b] = ys -/
section
variable {prog : Program} {w : World} {A : Around} {E : Value → Shared → Prop} {s : Shared}
theorem splice_eq (its its2 : List Value) (a c : Nat) : its.toArray.extract 0 a ++ its2.toArray ++ its.toArray.extract c its.toArray.size = (its.take a ++ its2 ++ its.drop c).toArray := by
  apply Array.toList_inj.mp
  first
    | (simp
       exact List.take_of_length_le (by simp))
    | simp [List.take_of_length_le]
    | simp
theorem bounds_run {a c n : Nat} (hac : a ≤ c) (hc : c ≤ n) : sliceBounds (some (a : Int)) (some (c : Int)) none n = ((a : Int), (c : Int), 1) := by
  simp only [sliceBounds, Option.getD_none]
  have h1 : ¬ ((a : Int) < 0) := by omega
  have h2 : ¬ ((c : Int) < 0) := by omega
  simp only [h1, h2, if_false, show (1 : Int) > 0 by decide, if_true]
  congr 1
  · omega
  · congr 1; omega
set_option maxRecDepth 100000 in
/-- list.__setitem__ with a slice of step one and another list -/
theorem setItem_slice {l b sl : Addr} {items new : Array Value} {n n2 : Nat} {vl vu : Value} {a c : Nat} {Q : Unit → Shared → Prop}
    (e : s.heap.get? l = some { cls := .type "list", data := .seq items n }) (e2 : s.heap.get? b = some { cls := .type "list", data := .seq new n2 }) (hne : l ≠ b)
    (hs : s.heap.IsSliceOf sl vl vu .none) (pl : IsPart vl (some (a : Int))) (pu : IsPart vu (some (c : Int))) (hac : a ≤ c) (hc : c ≤ items.size)
    (hsz : items.size + new.size ≤ sizeLine) (h : Q () { s with heap := s.heap.update l (Obj.mapSeq fun xs => xs.extract 0 a ++ new ++ xs.extract c xs.size) }) :
    wpAny (model prog w) A (setItem (.ref l) (.ref sl) (.ref b)) Q E s := by
  have hl : s.heap.IsList l items := PySem.IsL.isList e
  have hb : s.heap.IsList b new := PySem.IsL.isList e2
  obtain ⟨os, hos, hcs, hds⟩ := id hs
  have hTs : s.TypeIs (.ref sl) "slice" := ⟨os, hos, hcs⟩
  have hstep : ¬ ((rawPart none == rawInt 0) = true) := Bool.false_ne_true
  have hsame : Builtin.List.listSameRef (.ref l) (.ref b) = false := by
    unfold Builtin.List.listSameRef
    exact beq_eq_false_iff_ne.mpr hne
  have hmax : (max (a : Int) (c : Int)).toNat = c := by omega
  have hz' : ((fun xs : Array Value => xs.extract 0 a ++ new ++ xs.extract c xs.size) items).size ≤ sizeLine + 1 := by
    simp only [Array.size_append, Array.size_extract]
    omega
  unfold setItem
  try with_reducible refine wpAny_holding ?_
  first | refine wpAny_bind (wpAny_pure ?_) | skip
  refine wpAny_bind (wpAny_sequenceKey hl.typeIs (by decide) ?_)
  refine wpAny_bind (wpAny_callSpecial?_slot (name := Str.ofString "__setitem__") hl.typeIs slot_list_setitem
    (wpAny_call_entry slot_list_setitem hl.typeIs entry_list_setitem ?_ (args_list_setitem _ _ _)))
  show wpAny _ _ (Builtin.List.listSubscript? (.ref sl) >>= _) _ _ s
  refine wpAny_bind ?_
  unfold Builtin.List.listSubscript?
  refine wpAny_bind (wpAny_specialOf hTs slice_no_index ?_)
  simp only [Option.isNone_none, if_true]
  refine wpAny_pure ?_
  show wpAny _ _ (typeOf (.ref sl) >>= _) _ _ s
  refine wpAny_bind (wpAny_typeOf hTs ?_)
  first
    | rw [if_neg (by decide)]
    | refine PySem.W.KFB.if_not (by decide) ?_
  rw [listSliceParts_eq]
  refine wpAny_bind (wpAny_bind (wpAny_field hos hds (x := .none) rfl (wpAny_bind (wpAny_listPart .none ?_))))
  rw [if_neg hstep]
  refine wpAny_bind (wpAny_field hos hds (x := vl) rfl (wpAny_bind (wpAny_listPart pl ?_)))
  refine wpAny_bind (wpAny_field hos hds (x := vu) rfl (wpAny_bind (wpAny_listPart pu (wpAny_pure ?_))))
  first
    | simp only [hsame, Bool.false_eq_true, if_false]
    | refine PySem.W.KFB.if_not hsame ?_
    | (dsimp only
       rw [if_neg (by rw [hsame]; exact Bool.false_ne_true)])
  refine wpAny_bind (m := Builtin.List.listAllItems (.ref b) "must assign iterable to extended slice") ?_
  unfold Builtin.List.listAllItems
  refine wpAny_bind (wpAny_typeOf hb.typeIs ?_)
  first
    | refine PySem.W.KFB.if_so (by decide) ?_
    | rw [if_pos (by decide)]
    | simp only [beq_self_eq_true, Bool.true_or, if_true]
  unfold Builtin.List.listItems
  refine wpAny_bind (wpAny_seqItems e2 rfl (wpAny_pure ?_))
  refine wpAny_bind (wpAny_bind (wpAny_seqItems e rfl (wpAny_pure ?_)))
  refine wpAny_bind (wpAny_of_eq ((sliceIndices_raw (some (a : Int)) (some (c : Int)) none items.size (by simp)).trans (congrArg (pure : Int × Int × Int → Sem (Int × Int × Int)) (bounds_run hac hc))) ?_)
  show wpAny _ _ (if ((1 : Int) == 1) = true then _ else _) _ _ s
  rw [if_pos (by decide)]
  refine wpAny_bind (wpAny_rule ?_)
  first
    | simp only [notLongL hsz, Bool.false_eq_true, if_false]
    | refine PySem.W.KFB.if_not (notLongL hsz) ?_
  first | refine wpAny_bind (wpAny_pure ?_) | skip
  show wpAny _ _ (updateSeq l (fun xs => xs.extract 0 ((a : Int)).toNat ++ new ++ xs.extract (max (a : Int) (c : Int)).toNat xs.size) >>= _) _ _ s
  rw [hmax, Int.toNat_natCast]
  refine wpAny_bind (wpAny_updateSeq (hz := Nat.le_trans (Nat.le_add_right _ _) hsz) (_hz' := hz') e rfl ?_)
  refine wpAny_bind (wpAny_letGo ?_)
  first
    | exact wpAny_bind (wpAny_pure (wpAny_pure ⟨.none, rfl, wpAny_pure h⟩))
    | exact wpAny_pure ⟨.none, rfl, wpAny_pure h⟩
end

section
variable {X : Cx}
/-- xs[a:c] = ys of another list, at the value level: sl is the slice object that was just made -/
theorem set_slice {pins : List (Addr × Obj)} {s : Shared} {σ : St} {H : Hp} {l b sl : Addr} {xs ys : List V} {a c : Int} {vl vu : Value} {Q : Unit → Shared → Prop} (I : Inv X pins σ H s)
    (hH : H l = some (.lst xs)) (hB : H b = some (.lst ys)) (hne : l ≠ b) (hs : s.heap.IsSliceOf sl vl vu .none) (ra : RelV (.int a) vl) (rc : RelV (.int c) vu) (h0 : 0 ≤ a) (hac : a ≤ c) (hc : c ≤ xs.length)
    (hz : xs.length + ys.length ≤ sizeLine) (h : ∀ s', Inv X pins σ (upd H l (.lst (xs.take a.toNat ++ ys ++ xs.drop c.toNat))) s' → Q () s') :
    wpAny (model X.prog X.w) X.A (setItem (.ref l) (.ref sl) (.ref b)) Q X.xe s := by
  obtain ⟨ta, rfl⟩ := ra
  obtain ⟨tc, rfl⟩ := rc
  obtain ⟨z, its, n, r, hl, e⟩ := I.lstM hH
  obtain ⟨z2, its2, n2, r2, hl2, e2⟩ := I.lstM hB
  obtain ⟨a', rfl⟩ := Int.eq_ofNat_of_zero_le h0
  obtain ⟨c', rfl⟩ := Int.eq_ofNat_of_zero_le (Int.le_trans h0 hac)
  simp only [Int.toNat_natCast] at h
  refine setItem_slice (a := a') (c := c') e e2 hne hs (.int _ _) (.int _ _) (by omega) (by rw [List.size_toArray]; omega) (by rw [List.size_toArray, List.size_toArray]; omega) (h _ ?_)
  refine I.lset (its' := its.take a' ++ its2 ++ its.drop c') (t' := s.toks) hH e ?_ (Vals.append (Vals.append (r.take _) r2) (r.drop _)) ?_
  · exact splice_eq its its2 a' c'
  · rw [List.length_append, List.length_append, List.length_take, List.length_drop]
    omega
end
end L2

namespace Att
open PySem PySem.W PySem.Calls PyProof.Rows

/-! ### the script -/
theorem ints_of_wellAll {P : Params} {h : Heap} : ∀ (ns : List Int) (vs : List Value), WellAll P h vs (ns.map WData.int) → IntsAre vs ns := by
  intro ns
  induction ns with
  | nil =>
    intro vs w
    rw [List.map_nil] at w
    cases w
    exact .nil
  | cons n ns ih =>
    intro vs w
    rw [List.map_cons] at w
    cases w with
    | cons a b =>
      cases a
      exact .cons _ _ (ih _ b)

theorem script_of {l : OpenLaw} {n : Nat} (hn : l.most = some n) {P : Params} {h : Heap} {args : List WData} {vals : List Value}
    (hpre : l.row.toRowW.claim.pre args = true) (hwl : WellAll P h vals args) :
    ∃ a vs ns, vals = [Value.ref a] ∧ args = [WData.list (ns.map WData.int)] ∧ h.get? a = some { cls := .type "list", data := .seq vs.toArray } ∧ IntsAre vs ns ∧ ns.length ≤ n := by
  have hsh : WShape.hasAll [] args [.list .int] = true := (pre_splitW hpre).1
  have hc : l.pre.holds [] { args := args } = true := (pre_splitW hpre).2
  obtain ⟨d, r, rfl, h1, h2⟩ := hasAllW_cons hsh
  obtain rfl := hasAllW_nil h2
  obtain ⟨xs, rfl, h3⟩ := hasW_list h1
  obtain ⟨ns, rfl⟩ := items_int h3
  have hlen : ns.length ≤ n := by
    unfold OpenLaw.pre at hc
    have h4 : (WTm.not (.lt (.lit (.int (n : Int))) (.len (.arg 0)))).holds [] { args := [.list (ns.map .int)] } = true := by
      have h4 := (holds_andW hc).1
      rw [hn] at h4
      exact h4
    have h5 := condW_of h4 (w_not (w_lt w_lit (w_len_list (w_arg rfl))))
    rw [List.length_map] at h5
    refine Nat.le_of_not_lt fun q => ?_
    have q' : (n : Int) < ((ns.length : Nat) : Int) := by omega
    first
      | (rw [decide_eq_true q'] at h5; exact absurd h5 (by decide))
      | (simp at h5; omega)
  cases hwl with
  | cons w1 w2 =>
    cases w2
    cases w1 with
    | list ho hall => exact ⟨_, _, ns, rfl, rfl, ho, ints_of_wellAll ns _ hall, hlen⟩

theorem post_true (l : OpenLaw) (args : List WData) : l.row.toRowW.claim.post args (.bool true) args = true :=
  postW_of (r := l.row.toRowW) (X := (true == true))
    (show WShape.has [] (.bool true) .bool = true by first | rfl | decide | simp [WShape.has, WShape.arms, WShape.armsAll])
    (show (WTm.eq .res (.lit (.bool true))).value [] { args := args, res := some (.bool true), after := args } = some (.bool (true == true)) from w_eq_bool (w_res rfl) w_lit) rfl

/-! ### the attachment: holds_open's last premise (the goal 'hc' behind k_head) from a wpAny of the law's body -/
theorem attach {l : OpenLaw} {n : Nat} {q : Program} {loose : List Str} {XP : (Str → Option Value) → Heap → Prop} {YP : World → Heap → Prop} {d : DefRec} {x : Str}
    (hn : l.most = some n) (hdf : d.params.defaults = [])
    (hbind : ∀ pm cd doc v : Value, bindArgs (docDef d.name d.params d.body d.scope pm cd doc) ⟨[v], []⟩ = pure [(x, v)])
    (hx : d.scope.names.lookup x = some .local ∨ d.scope.names.lookup x = some .cell)
    (hk : d.scope.kind = .function) (hco : d.scope.isCoroutine = false) (hgen : d.scope.isGenerator = false)
    (body : ∀ (w : World) (s₀ s₁ s : Shared) (mg mb : Str → Option Value) (fa : Addr) (o : Obj) (pm cd doc : Value) (a : Addr) (vs : List Value) (ns : List Int),
      Ground q loose [] XP w s₀ mg mb s₁.heap → YP w s₁.heap →
      s₁.heap.get? fa = some o → o.data = .func (docDef d.name d.params d.body d.scope pm cd doc) → s₁.heap.CodeRec cd d.name → mg d.name = some (.ref fa) →
      s₁.heap.get? a = some { cls := .type "list", data := .seq vs.toArray } → IntsAre vs ns → ns.length ≤ n →
      s.gens = #[] → s.os = s₁.os →
      Fr s₁.heap s₁.heap.objs.size s.heap (bindL (envOfC d.name d.scope s₁.heap.objs.size fa cd).kindOf [(x, .ref a)] fun _ => none) →
      Cl s₁.heap.objs.size (cellsFrom (s₁.heap.objs.size + 1) d.scope.names []) s.heap (bindC (envOfC d.name d.scope s₁.heap.objs.size fa cd).kindOf [(x, .ref a)] fun _ => none) →
      wpAny (model l.prog w) (callerA.deeper (envOfC d.name d.scope s₁.heap.objs.size fa cd)) (execs d.body (envOfC d.name d.scope s₁.heap.objs.size fa cd))
        (fun f s' => f = .ret (.bool true) ∧ OldK s₁.heap s'.heap ∧ s'.os = s₁.os ∧ AllBare s'.gens) (fun _ _ => False) s) :
    WalkO q loose XP YP l.row.toRowW d [] (fun f vs => PySem.call f vs) := by
  intro w s₀ s₁ mg mb G Y fa o pm cd doc dV kV ho hd hcd hD hmg hg args vals as hpre hlay hrd hwl hlo
  obtain rfl : dV = .none := Dflts.none hD hdf
  obtain rfl : kV = .none := Dflts.noKw hD
  obtain ⟨a, vs, ns, rfl, rfl, hobj, hints, hlen⟩ := script_of hn hpre hwl
  refine enter_call ?_
  refine call_cells_ret (o := o) (by rw [depth_caller]; decide) ho (fd_plain hd) G.T.nolimit hcd (hbind pm cd doc (.ref a)) (fun y hy => ?_) (fun h₁ tk F X => ?_) hco hgen hk
  · obtain rfl : y = (x, Value.ref a) := List.mem_singleton.mp hy
    rcases hx with e | e
    · exact .inl e
    · exact .inr ⟨e, cellsFrom_some _ _ _ (.inl e)⟩
  · refine wpAny_mono (body w s₀ s₁ { s₁ with heap := h₁, toks := tk } mg mb fa o pm cd doc a vs ns G Y ho (fd_plain hd) hcd hmg hobj hints hlen hg rfl F X) (fun f s' hq => ?_) (fun _ _ hq => hq)
    obtain ⟨rfl, h2, h3, h4⟩ := hq
    exact ⟨.inl ⟨.bool true, .bool true, [], rfl, fun _ => rfl, .bool true, post_true l _, fun _ => ⟨List.Pairwise.nil, fun _ hm => (nomatch hm)⟩⟩, h2, h3, h4⟩

/-- the same from a codeAny of the CALL (for a layer whose function contracts speak of calls) -/
theorem attach_call {l : OpenLaw} {n : Nat} {q : Program} {loose : List Str} {XP : (Str → Option Value) → Heap → Prop} {YP : World → Heap → Prop} {d : DefRec}
    (hn : l.most = some n) (hdf : d.params.defaults = [])
    (call : ∀ (w : World) (s₀ s₁ : Shared) (mg mb : Str → Option Value) (fa : Addr) (o : Obj) (pm cd doc : Value) (a : Addr) (vs : List Value) (ns : List Int),
      Ground q loose [] XP w s₀ mg mb s₁.heap → YP w s₁.heap →
      s₁.heap.get? fa = some o → o.data = .func (docDef d.name d.params d.body d.scope pm cd doc) → s₁.heap.CodeRec cd d.name → mg d.name = some (.ref fa) →
      s₁.heap.get? a = some { cls := .type "list", data := .seq vs.toArray } → IntsAre vs ns → ns.length ≤ n → s₁.gens = #[] →
      codeAny (model l.prog w) callerA (.call (.ref fa) ⟨[.ref a], []⟩) (fun r s' => r = .ok (.ret (.bool true)) ∧ OldK s₁.heap s'.heap ∧ s'.os = s₁.os ∧ AllBare s'.gens) s₁) :
    WalkO q loose XP YP l.row.toRowW d [] (fun f vs => PySem.call f vs) := by
  intro w s₀ s₁ mg mb G Y fa o pm cd doc dV kV ho hd hcd hD hmg hg args vals as hpre hlay hrd hwl hlo
  obtain rfl : dV = .none := Dflts.none hD hdf
  obtain rfl : kV = .none := Dflts.noKw hD
  obtain ⟨a, vs, ns, rfl, rfl, hobj, hints, hlen⟩ := script_of hn hpre hwl
  refine enter_call (codeAny_mono (call w s₀ s₁ mg mb fa o pm cd doc a vs ns G Y ho (fd_plain hd) hcd hmg hobj hints hlen hg) fun r s' hq => ?_)
  obtain ⟨rfl, h2, h3, h4⟩ := hq
  exact ⟨.inl ⟨.bool true, .bool true, [], rfl, fun _ => rfl, .bool true, post_true l _, fun _ => ⟨List.Pairwise.nil, fun _ hm => (nomatch hm)⟩⟩, h2, h3, h4⟩

/-- the same where the top left finished generators (o_head chose holds_openN): nothing may have changed at all and no generator may be left -/
theorem attachN {l : OpenLaw} {n : Nat} {q : Program} {loose : List Str} {XP : (Str → Option Value) → Heap → Prop} {YP : World → Heap → Prop} {d : DefRec} {x : Str}
    (hn : l.most = some n) (hdf : d.params.defaults = [])
    (hbind : ∀ pm cd doc v : Value, bindArgs (docDef d.name d.params d.body d.scope pm cd doc) ⟨[v], []⟩ = pure [(x, v)])
    (hx : d.scope.names.lookup x = some .local ∨ d.scope.names.lookup x = some .cell)
    (hk : d.scope.kind = .function) (hco : d.scope.isCoroutine = false) (hgen : d.scope.isGenerator = false)
    (body : ∀ (w : World) (s₀ s₁ s : Shared) (mg mb : Str → Option Value) (fa : Addr) (o : Obj) (pm cd doc : Value) (a : Addr) (vs : List Value) (ns : List Int),
      Ground q loose [] XP w s₀ mg mb s₁.heap → YP w s₁.heap →
      s₁.heap.get? fa = some o → o.data = .func (docDef d.name d.params d.body d.scope pm cd doc) → s₁.heap.CodeRec cd d.name → mg d.name = some (.ref fa) →
      s₁.heap.get? a = some { cls := .type "list", data := .seq vs.toArray } → IntsAre vs ns → ns.length ≤ n →
      s.gens = #[] → s.os = s₁.os →
      Fr s₁.heap s₁.heap.objs.size s.heap (bindL (envOfC d.name d.scope s₁.heap.objs.size fa cd).kindOf [(x, .ref a)] fun _ => none) →
      Cl s₁.heap.objs.size (cellsFrom (s₁.heap.objs.size + 1) d.scope.names []) s.heap (bindC (envOfC d.name d.scope s₁.heap.objs.size fa cd).kindOf [(x, .ref a)] fun _ => none) →
      wpAny (model l.prog w) (callerA.deeper (envOfC d.name d.scope s₁.heap.objs.size fa cd)) (execs d.body (envOfC d.name d.scope s₁.heap.objs.size fa cd))
        (fun f s' => f = .ret (.bool true) ∧ (∀ b o, s₁.heap.get? b = some o → s'.heap.get? b = some o) ∧ s'.os = s₁.os ∧ s'.gens = #[]) (fun _ _ => False) s) :
    WalkN q loose XP YP l.row.toRowW d [] (fun f vs => PySem.call f vs) := by
  intro w s₀ s₁ mg mb G Y fa o pm cd doc dV kV ho hd hcd hD hmg hg args vals as hpre hlay hrd hwl hlo
  obtain rfl : dV = .none := Dflts.none hD hdf
  obtain rfl : kV = .none := Dflts.noKw hD
  obtain ⟨a, vs, ns, rfl, rfl, hobj, hints, hlen⟩ := script_of hn hpre hwl
  refine enter_callW ?_
  refine call_cells_ret (o := o) (by rw [depth_caller]; decide) ho (fd_plain hd) G.T.nolimit hcd (hbind pm cd doc (.ref a)) (fun y hy => ?_) (fun h₁ tk F X => ?_) hco hgen hk
  · obtain rfl : y = (x, Value.ref a) := List.mem_singleton.mp hy
    rcases hx with e | e
    · exact .inl e
    · exact .inr ⟨e, cellsFrom_some _ _ _ (.inl e)⟩
  · refine wpAny_mono (body w s₀ s₁ { s₁ with heap := h₁, toks := tk } mg mb fa o pm cd doc a vs ns G Y ho (fd_plain hd) hcd hmg hobj hints hlen hg rfl F X) (fun f s' hq => ?_) (fun _ _ hq => hq)
    obtain ⟨rfl, h2, h3, h4⟩ := hq
    exact ⟨.inl ⟨.bool true, .bool true, [], rfl, fun _ => rfl, .bool true, post_true l _, fun _ => ⟨List.Pairwise.nil, fun _ hm => (nomatch hm)⟩⟩, h2, h3, h4⟩

/-! ### rules over ANY heap (no ledger) from facts about the written part K: the library's own take a ledger (News) for what they write -/
section
variable {prog : Program} {w : World} {A : Around} {E : Value → Shared → Prop} {s : Shared} {K : Frag}

/-- a def of the module, or a method (qual 'C.m'), entered: the frame is the next address; cells behind it -/
theorem call_fn {R : Result → Shared → Prop} {name qual : Str} {params : Arguments} {body : List Stmt} {scope : Scope} {dV kV doc pm cdv ct oc : Value} {an od : Option Addr} {osl : Array (Option Value)} {f : Addr} {args : Args} {binds : List (Str × Value)}
    (X : K.In s.heap) (hlim : s.heap.NoLimit) (ho : K.lookup f = some ⟨oc, od, .func (fnOf name qual params body scope dV kV doc pm an cdv ct), osl⟩) (hcd : codeIn K cdv qual = true) (hroom : A.depth < recursionLimit)
    (hbind : BindsTo s (fnOf name qual params body scope dV kV doc pm an cdv ct) args binds)
    (hkind : (binds.all fun y => scope.names.lookup y.1 == some .local || scope.names.lookup y.1 == some .cell) = true)
    (h : ∀ s₁, InCallC s s.heap.objs.size (bindL (envOfC qual scope s.heap.objs.size f cdv).kindOf binds fun _ => none) (cellsFrom (s.heap.objs.size + 1) scope.names [])
        (bindC (envOfC qual scope s.heap.objs.size f cdv).kindOf binds fun _ => none) s₁ →
      wpAny (model prog w) (A.deeper (envOfC qual scope s.heap.objs.size f cdv)) (execs body (envOfC qual scope s.heap.objs.size f cdv))
        (fun fl s' => R (.ok (.ret (match fl with | .ret v => v | _ => .none))) s')
        (fun e s' => wpAny (model prog w) (A.deeper (envOfC qual scope s.heap.objs.size f cdv)) (leaving (envOfC qual scope s.heap.objs.size f cdv) e) (fun _ s'' => R (.error e) s'') (fun e' s'' => R (.error e') s'') s') s₁)
    (hco : scope.isCoroutine = false) (hgen : scope.isGenerator = false) (hk : scope.kind = .function) : codeAny (model prog w) A (.call (.ref f) args) R s := by
  refine codeAny_call_function hroom (X _ _ ho) rfl hco hgen rfl (codeRec_of X hcd) (hbind _ _ _ _ ?_)
  refine wpAny_newFunctionEnv_cells hk (kindsX hkind _) fun env he s₁ x => ?_
  subst he
  exact ⟨hlim.keeps x.toInCall.keep, codeAny_func (h s₁ x)⟩

/-- C(..): dict at size, instance at size + 1, then __init__ -/
theorem make_obj {R : Result → Shared → Prop} {C fI : Addr} {rest : List Value} {kw : List (Str × Value)}
    (X : K.In s.heap) (hm : makesIn K C = true) (hi : findIn K (.ref C) "__init__" = some (some (.ref fI))) (hf : isFn K (.ref fI) = true)
    (h : codeAny (model prog w) (A.under (.builtin "type.__call__" ⟨.ref C :: rest, kw⟩)) (.call (.ref fI) ⟨.ref (s.heap.objs.size + 1) :: rest, kw⟩) (InitBack (s.heap.objs.size + 1) R)
      { s with heap := (s.heap.push emptyDict).push (instObj C s.heap.objs.size) }) : codeAny (model prog w) A (.call (.ref C) ⟨rest, kw⟩) R s := by
  obtain ⟨hh, g, d, t, os⟩ := s
  exact make_core (makes_of X hm) (looks_findIn X hi) (fun self => bind_fn X self (beq_iff_eq.mp hf)) (.inl rfl) h

/-- x.name where the instance's dict holds the name and the class does not -/
theorem get_field {x C : Addr} {ox : Obj} {es : List DictEntry} {n : Nat} {name : Str} {expr : Bool} {v : Value} {Q : Value → Shared → Prop}
    (X : K.In s.heap) (I : PySem.W.InstAt s.heap x ox C (some (dictOf es n))) (hg : plainGet K C name = true) (hh : hasDictIn K C = true) (ha : findIn K (.ref C) name = some none)
    (hl : getL name es = some (some v)) (hv : handedIn v = true) (h : Q v { s with toks := s.toks + 1 }) : wpAny (model prog w) A (getAttr (.ref x) name expr) Q E s :=
  get_value X I (plainGet_of hg).1 (findObj_own hh ha rfl hl) hv h

/-- x.m(..): the method found in the class -/
theorem get_method {x C f : Addr} {ox : Obj} {es : List DictEntry} {n : Nat} {name : Str} {pl : Sem Bool} {Q : Value × List Value → Shared → Prop}
    (X : K.In s.heap) (I : PySem.W.InstAt s.heap x ox C (some (dictOf es n))) (hg : plainGet K C name = true) (hf : findIn K (.ref C) name = some (some (.ref f))) (ht : isFn K (.ref f) = true)
    (hl : getL name es = some none) (h : Q (.ref f, [.ref x]) s) : wpAny (model prog w) A (getMethod (.ref x) name pl) Q E s :=
  method_fn X I (plainGet_of hg).1 (plainGet_of hg).2 hf (beq_iff_eq.mp ht) (by show (lookIn name (dictOf es n)).map _ = _; rw [lookIn_dict, hl]; rfl) h

/-! the whole heap as the ledger: makes every rule that writes through a ledger a rule over any heap -/
def noObjs (h : Heap) : Heap := { h with objs := #[] }
theorem noObjs_get (h : Heap) (b : Addr) : (noObjs h).get? b = none := by
  cases e : (noObjs h).get? b with
  | none => rfl
  | some o => exact absurd (Heap.lt_size e) (Nat.not_lt_zero _)
def ledger (h : Heap) (L d : Addr) : List (Addr × Obj) := (List.range h.objs.size).filterMap fun a => if a = L ∨ a = d then none else (h.get? a).map fun o => (a, o)
theorem mem_ledger {h : Heap} {L d a : Addr} {o : Obj} : (a, o) ∈ ledger h L d ↔ a ≠ L ∧ a ≠ d ∧ h.get? a = some o := by
  unfold ledger
  rw [List.mem_filterMap]
  constructor
  · rintro ⟨b, _, e⟩
    split at e
    · cases e
    · rename_i hb
      obtain ⟨o', ho, e'⟩ := Option.map_eq_some_iff.mp e
      cases e'
      exact ⟨fun q => hb (.inl q), fun q => hb (.inr q), ho⟩
  · rintro ⟨n1, n2, ho⟩
    refine ⟨a, List.mem_range.mpr (Heap.lt_size ho), ?_⟩
    rw [if_neg (show ¬ (a = L ∨ a = d) from fun q => q.elim n1 n2), ho] <;> rfl
theorem news_ledger {h : Heap} {L d : Addr} {od : Obj} (hne : d ≠ L) (ho : h.get? d = some od) : News (noObjs h) L h ([] ++ (d, od) :: ledger h L d) := by
  rintro ⟨a, o⟩ hp
  rcases List.mem_cons.mp hp with e | hp
  · cases e
    exact ⟨ho, hne, noObjs_get _ _⟩
  · obtain ⟨n1, n2, e⟩ := mem_ledger.mp hp
    exact ⟨e, n1, noObjs_get _ _⟩
theorem fr_all {h : Heap} {L : Addr} {m : Str → Option Value} (n : h.Ns L m) : Fr (noObjs h) L h m :=
  ⟨n, fun b o e => (by rw [noObjs_get] at e; cases e), Nat.zero_le _⟩
/-- Upd of the head entry (for append_K, setItem_K ..) -/
theorem upd_ledger {h : Heap} {L d : Addr} {o o' : Obj} : Upd d o o' ((d, o) :: ledger h L d) ((d, o') :: ledger h L d) :=
  .head fun ⟨_, _⟩ hp => (mem_ledger.mp hp).2.1

/-- x.name = v over any heap: L is any namespace of the heap (the frame's, say): its map stays, its object is not told; all else but the dict stays -/
theorem set_field {x C dx L : Addr} {ox : Obj} {m : Str → Option Value} {es es' : List DictEntry} {n n' : Nat} {name : Str} {v : Value} {Q : Unit → Shared → Prop}
    (X : K.In s.heap) (I : PySem.W.InstAt s.heap x ox C (some (dictOf es n))) (hd : ox.dict = some dx) (hL : s.heap.Ns L m) (hne : dx ≠ L)
    (hs : findIn K (.ref C) "__setattr__" = some (some (.builtin "object.__setattr__"))) (hp : plainOver K C = true) (ht : takerIn K C name = some none) (hh : hasDictIn K C = true) (hl : (getL name es).isSome = true)
    (e : (putL name (PyData.keyHash w.params name) (.str name (s.toks + 1)) v es, putN name es n) = (es', n')) (hz : es'.length ≤ 1000)
    (h : ∀ h' : Heap, h'.Ns L m → h'.get? dx = some (dictOf es' n') → (∀ b o, b ≠ dx → b ≠ L → s.heap.get? b = some o → h'.get? b = some o) → Q () { s with heap := h', toks := s.toks + 2 }) :
    wpAny (model prog w) A (setAttr (.ref x) name v) Q E s := by
  obtain ⟨e1, e2⟩ := Prod.mk.inj e
  have hdx : s.heap.get? dx = some (dictOf es n) := by
    have := I.dict
    rw [hd] at this
    exact this
  refine set_plain X I hs (osa_dict (s := { s with toks := s.toks + 1 }) (h₀ := noObjs s.heap) (L := L) (m := m) (od := dictOf es n) (od' := dictOf es' n') (es := es') (n := n') (pre := []) (post := ledger s.heap L dx)
    (fr_all hL) (news_ledger hne hdx) X I hd hp ht hh hl (fun _ q => nomatch q) (fun ⟨_, _⟩ q => (mem_ledger.mp q).2.1) (by rw [putName_dict, e1, e2]) rfl hz fun h' F' N' => ?_)
  exact h h' F'.ns (N'.get (List.Mem.head _)) fun b o n1 n2 ho => N'.get (List.Mem.tail _ (mem_ledger.mpr ⟨n2, n1, ho⟩))
end
end Att

namespace L2
open PySem PySem.Spec PyProof.Rows

theorem vals_ints : ∀ {vs : List Value} {ns : List Int}, IntsAre vs ns → Vals (ns.map V.int) vs
  | _, _, .nil => .nil
  | _, _, .cons n t h => .cons ⟨t, rfl⟩ (vals_ints h)

/-- nothing is tracked but the script, known to the object (or it is an object of the module) -/
def Only (H : Hp) : Prop := ∀ b, H b = none ∨ ∃ o xs, H b = some (.frz o (.lst xs))

/-- THE HEAD: the law's promise, at the heap behind the top. F, the promise of the law's def, may use that base is part of the heap (so K.In base, base.Ns mainGlobals mg stand in Mod) -/
theorem law_call {P : Program} {w : World} {K : PySem.W.Frag} {mg mb : Str → Option Value} {CX : CXT} {k : Nat} {fa a : Addr} {fd : FuncData} {x : Str} {sp : Sp} {s₁ : Shared} {vs : List Value} {ns : List Int}
    (KX : K.In s₁.heap) (hns : s₁.heap.Ns mainGlobals mg) (hb : s₁.heap.Ns builtinsNs mb) (hbb : ∀ x : Str, x ≠ "__name__" → mb x = bootBuiltins x) (hlim : s₁.heap.NoLimit) (hg : s₁.gens = #[])
    (ha : s₁.heap.get? a = some { cls := .type "list", data := .seq vs.toArray }) (hi : IntsAre vs ns) (hl : ns.length ≤ sizeLine) (hr : Room k callerA)
    (F : ∀ base : Heap, K.In base → base.Ns mainGlobals mg → FnOk P w K mg base CX k fa fd [x] sp) (hbind : ∀ (s : Shared) (u : Value), BindsTo s fd ⟨[u], []⟩ [(x, u)])
    (hsp : ∀ H : Hp, Only H → SqL K H a (ns.map V.int) → sp [.ref a] H (fun v _ => v = .bl true) fun _ _ _ => False)
    (hCX : ∀ H e s', CX [] H s₁ (fun _ _ _ => False) e s' → False) :
    codeAny (model P w) callerA (.call (.ref fa) ⟨[.ref a], []⟩) (fun r s' => r = .ok (.ret (.bool true)) ∧ OldK s₁.heap s'.heap ∧ s'.os = s₁.os ∧ AllBare s'.gens) s₁ := by
  have rv := vals_ints hi
  have lenV := hi.length
  -- from an abstract heap in which nothing but the script may be tracked
  have core : ∀ H : Hp, Only H → SqL K H a (ns.map V.int) → HOk P w H s₁.heap → (∀ b, H b ≠ none → b = a) → (H a ≠ none → K.lookup a = none) →
      codeAny (model P w) callerA (.call (.ref fa) ⟨[.ref a], []⟩) (fun r s' => r = .ok (.ret (.bool true)) ∧ OldK s₁.heap s'.heap ∧ s'.os = s₁.os ∧ AllBare s'.gens) s₁ := by
    intro H hO hS hok hA hK
    have base_of : ∀ {b : Addr} {o : Obj}, s₁.heap.get? b = some o → H b = none → (hidT s₁.heap H).get? b = some o := fun e n => hidT_get e n
    have noA : ∀ {b : Addr} {o : Obj} {es : Array DictEntry} {ep : Nat}, s₁.heap.get? b = some o → o.data = .dict es ep → H b = none := fun {b o es ep} e d => by
      cases q : H b with
      | none => rfl
      | some u =>
        have e' : b = a := hA b (by rw [q]; simp)
        subst e'
        rw [ha] at e; cases e
        have d' : Data.seq vs.toArray _ = Data.dict es ep := d
        cases d'
    have nsK : ∀ {b : Addr} {m : Str → Option Value}, s₁.heap.Ns b m → (hidT s₁.heap H).Ns b m := fun {b m} ⟨o, es, ep, e, d, r⟩ => ⟨o, es, ep, base_of e (noA e d), d, r⟩
    have hKb : K.In (hidT s₁.heap H) := fun b o e => base_of (KX b o e) (by
      cases q : H b with
      | none => rfl
      | some u =>
        have e' : b = a := hA b (by rw [q]; simp)
        subst e'
        rw [hK (by rw [q]; simp)] at e; cases e)
    have hM : Mod K mg (hidT s₁.heap H) := ⟨hKb, nsK hns, ⟨mb, nsK hb, hbb⟩, let ⟨mc, h1, h2⟩ := hlim; ⟨mc, nsK h1, h2⟩⟩
    have e0 : Env0 P w K mg (hidT s₁.heap H) callerA [] s₁ H := ⟨rfl, hM, fun b o e => of_hidT e, Nat.le_of_eq (hidT_size _ _), trivial, fun b hb => absurd (show b ∈ ([] : List Addr) from hb) (by simp), hok, .of_eq hg⟩
    refine codeAny_mono ((F _ hKb (nsK hns)).run callerA [] s₁ H ⟨[.ref a], []⟩ [.ref a] [.ref a] _ _ hr e0 (hbind s₁ (.ref a)) (.cons rfl .nil) (hsp H hO hS)) fun r s' h => ?_
    cases r with
    | error e => exact (hCX H e s' h).elim
    | ok fl =>
      cases fl with
      | next => exact False.elim h
      | brk => exact False.elim h
      | cont => exact False.elim h
      | ret u =>
        obtain ⟨v, H', os, bare, un, hok', r', q⟩ := h
        have q' : v = .bl true := q
        subst q'
        obtain rfl : u = Value.bool true := r'
        refine ⟨rfl, OldK.of_keep fun b o e => ?_, os, bare⟩
        cases q : H b with
        | none => exact un.keep b o e q (by intro z; exact absurd (show b ∈ ([] : List Addr) from z) (by simp)) (by simp)
        | some u =>
          rcases hO b with z | ⟨ob, xs, z⟩
          · rw [q] at z; cases z
          · have z2 := un.frzs b ob _ z
            obtain ⟨e1, _⟩ := hok b _ z
            obtain ⟨e2, _⟩ := hok' b _ z2
            rw [e] at e1; cases e1
            exact e2
  cases hk : K.lookup a with
  | some o =>
    -- the script is one of the module's own objects
    have e := KX a o hk
    rw [ha] at e
    cases e
    refine core (fun _ => none) (fun _ => .inl rfl) (.inr ⟨_, vs.toArray, _, hk, rfl, rfl, rfl, by rw [List.size_toArray, lenV]; exact hl, by simpa using rv⟩) (fun b u z => by have z' : (none : Option HO) = some u := z; cases z') (fun b z => absurd rfl z) fun z => absurd rfl z
  | none =>
    refine core (fun b => if b = a then some (.frz { cls := .type "list", data := .seq vs.toArray } (.lst (ns.map V.int))) else none) (fun b => ?_) (.inl (.inr ⟨{ cls := .type "list", data := .seq vs.toArray }, if_pos rfl⟩)) (fun b u z => ?_) (fun b z => ?_) fun _ => hk
    · by_cases hb : b = a
      · exact .inr ⟨_, _, if_pos hb⟩
      · exact .inl (if_neg hb)
    · by_cases hb : b = a
      · have z' := (if_pos hb).symm.trans z
        cases z'
        subst hb
        exact ⟨ha, by rw [List.length_map]; exact hl, vs, _, rv, ha⟩
      · have z' := (if_neg hb).symm.trans z
        cases z'
    · by_cases hb : b = a
      · exact hb
      · exact absurd (if_neg hb) z
end L2

namespace L2
open PySem PySem.Spec PyProof.Rows

abbrev KOf {K : PySem.W.Frag} {h : Heap} (_ : K.In h) : PySem.W.Frag := K

/-- the goal that k_head leaves (case hc), from the law's promise. F gives the function object fd (K's own) once, then the promise over every base -/
theorem walk_of {l : PySem.W.OpenLaw} {n k : Nat} {q : Program} {loose : List Str} {XP : (Str → Option Value) → Heap → Prop} {YP : World → Heap → Prop} {d : DefRec} {K : Params → PySem.W.Frag} {CX : World → CXT} {sp : World → Sp} {x : Str}
    (hn : l.most = some n) (hn2 : n ≤ sizeLine) (hdf : d.params.defaults = []) (hr : Room k callerA)
    (hY : ∀ (w : World) (h : Heap), YP w h → (K w.params).In h)
    (F : ∀ (w : World) (mg : Str → Option Value) (fa : Addr) (h : Heap), (K w.params).In h → h.Ns mainGlobals mg → mg d.name = some (.ref fa) →
      ∃ fd : FuncData, (∀ (s : Shared) (u : Value), BindsTo s fd ⟨[u], []⟩ [(x, u)]) ∧
        ∀ base : Heap, (K w.params).In base → base.Ns mainGlobals mg → FnOk l.prog w (K w.params) mg base (CX w) k fa fd [x] (sp w))
    (hsp : ∀ (w : World) (H : Hp) (a : Addr) (ns : List Int), ns.length ≤ n → Only H → SqL (K w.params) H a (ns.map V.int) → sp w [.ref a] H (fun v _ => v = .bl true) fun _ _ _ => False)
    (hCX : ∀ (w : World) (H : Hp) (s : Shared) (e : Value) (s' : Shared), CX w [] H s (fun _ _ _ => False) e s' → False) :
    PySem.W.WalkO q loose XP YP l.row.toRowW d [] (fun f vs => PySem.call f vs) := by
  refine Att.attach_call hn hdf fun w s₀ s₁ mg mb fa o pm cd doc a vs ns G Y ho hd hcd hmg hobj hints hlen hg => ?_
  have KX := hY w _ Y
  obtain ⟨fd, hb, hF⟩ := F w mg fa _ KX G.T.g hmg
  exact law_call KX G.T.g G.T.b G.T.builtins G.T.nolimit hg hobj hints (Nat.le_trans hlen hn2) hr hF hb (fun H hO hS => hsp w H a ns hlen hO hS) fun H e s' => hCX w H s₁ e s'
/-- the same where the promise hangs on the written part alone: (sp := My.sp_law), no hole under a binder -/
theorem walk_ofK {l : PySem.W.OpenLaw} {n k : Nat} {q : Program} {loose : List Str} {XP : (Str → Option Value) → Heap → Prop} {YP : World → Heap → Prop} {d : DefRec} {K : Params → PySem.W.Frag} {CX : CXT} {sp : PySem.W.Frag → Sp} {x : Str}
    (hn : l.most = some n) (hn2 : n ≤ sizeLine) (hdf : d.params.defaults = []) (hr : Room k callerA)
    (hY : ∀ (w : World) (h : Heap), YP w h → (K w.params).In h)
    (F : ∀ (w : World) (mg : Str → Option Value) (fa : Addr) (h : Heap), (K w.params).In h → h.Ns mainGlobals mg → mg d.name = some (.ref fa) →
      ∃ fd : FuncData, (∀ (s : Shared) (u : Value), BindsTo s fd ⟨[u], []⟩ [(x, u)]) ∧
        ∀ base : Heap, (K w.params).In base → base.Ns mainGlobals mg → FnOk l.prog w (K w.params) mg base CX k fa fd [x] (sp (K w.params)))
    (hsp : ∀ (K : PySem.W.Frag) (H : Hp) (a : Addr) (ns : List Int), ns.length ≤ n → Only H → SqL K H a (ns.map V.int) → sp K [.ref a] H (fun v _ => v = .bl true) fun _ _ _ => False)
    (hCX : ∀ (H : Hp) (s : Shared) (e : Value) (s' : Shared), CX [] H s (fun _ _ _ => False) e s' → False) :
    PySem.W.WalkO q loose XP YP l.row.toRowW d [] (fun f vs => PySem.call f vs) :=
  walk_of (K := K) (CX := fun _ => CX) (sp := fun w => sp (K w.params)) hn hn2 hdf hr hY F (fun w H a ns h1 h2 h3 => hsp (K w.params) H a ns h1 h2 h3) fun _ H s e s' => hCX H s e s'
end L2

/- THE LAST THEOREM (shape; LID, My.* are yours):
   My.Adr: a structure of the addresses that your layer names (classes, functions); My.Txt K t: a structure (Prop) of the equations over K;
   My.txt_mk : {K} {implicit addresses ..} (e1 : nsIn K mainGlobals "law" = some (some (.ref f))) (e2 : K.lookup f = some ⟨oc, od, .func (fnOf "law" "law" params body scope dV kV doc pm an cdv ct), sl⟩) (e3 : codeIn K cdv "law" = true) .. : ∃ t, My.Txt K t

set_option maxRecDepth 100000 in
set_option maxHeartbeats 0 in
theorem PySem.Challenge.cw_LID_holds : PySem.Challenge.rw_LID.Holds := by
  w_on; o_law; k_head; (case hw => w_witness2)
  k_fill
  refine L2.walk_of (l := PySem.Challenge.rw_LID) (n := 63) (k := 40) (x := "script") (CX := fun w => ..) (sp := fun _ => My.sp_law) rfl (by decide) rfl ⟨rfl, by decide, by decide⟩ (fun w h Y => PySem.W.kIn_of Y) ?F ?S ?C
  case F =>
    intro w mg fa h KX G hmg
    have T : ∃ t, My.Txt (L2.KOf KX) t := by
      dsimp only [L2.KOf]                          -- K must stand as «<heap const> w.params» for k_is
      refine' My.txt_mk ?e1 ?e2 ?e3 ..
      (case e1 => PySem.W.k_is)                    -- in the order: a name -> its address -> its object -> its parts
      (case e2 => PySem.W.k_is)
      ..
    obtain ⟨t, T⟩ := T
    have e0 := hmg.symm.trans (PySem.W.mg_of KX G T.law)
    cases e0                                       -- fa is the law's own address
    exact ⟨_, fun s u => .of_eq rfl, fun base kb nb => My.law_fn T kb nb⟩     -- if «.of_eq rfl» comes too early: refine' ⟨_, ?b, fun base kb nb => My.law_fn T kb nb⟩; exact fun s u => .of_eq rfl
  case S => exact fun w H a ns hl hO hS => ..
  case C => exact ..
(the tactic k_is has no namespace: write k_is) -/

/-! SHORT WORDS over the layer: a def of the text, its body, what a loop and a test want. -/
namespace L2
open PySem PySem.Spec PyProof.Rows

/-! ### the text by places -/
/-- the j-th statement of a class's body -/
def inClass (s : Stmt) (j : Nat) : Stmt := match s with
  | .ClassDef _ _ _ body _ _ _ _ _ _ _ => body.getD j (.Pass ⟨0, 0, 0, 0⟩)
  | _ => .Pass ⟨0, 0, 0, 0⟩
def defArgs (s : Stmt) : Arguments := match s with
  | .FunctionDef _ a _ _ _ _ _ _ _ _ => a
  | _ => { posonlyargs := [], args := [], vararg := none, kwonlyargs := [], kw_defaults := [], kwarg := none, defaults := [] }
def defBody (s : Stmt) : List Stmt := match s with
  | .FunctionDef _ _ b _ _ _ _ _ _ _ => b
  | _ => []
def defScope (s : Stmt) : Scope := match s with
  | .FunctionDef _ _ _ _ _ _ sc _ _ _ => sc
  | _ => { kind := .function, names := [], isGenerator := false, isCoroutine := false }

/-! ### no exception leaves a def -/
abbrev CX0 : CXT := fun _ _ _ _ _ _ => False
abbrev E0 : XK := fun _ _ _ => False
theorem pass0 {X : Cx} : Passes CX0 X E0 := fun _ _ _ _ _ _ _ h => h.elim

/-! ### a def (or method) of the text as it stands behind the top -/
structure Fun (K : PySem.W.Frag) (x qual : Str) (st : Stmt) (f : Addr) (fd : FuncData) : Prop where
  ex : ∃ (oc : Value) (od : Option Addr) (kV doc pm : Value) (an : Option Addr) (cdv ct : Value) (osl : Array (Option Value)),
    fd = PySem.W.fnOf x qual (defArgs st) (defBody st) (defScope st) .none kV doc pm an cdv ct ∧ K.lookup f = some ⟨oc, od, .func fd, osl⟩ ∧ PySem.W.codeIn K cdv qual = true
  kp : PySem.W.keepIn K (.ref f) = true
section
variable {P : Program} {w : World} {K : PySem.W.Frag} {mg : Str → Option Value} {base : Heap}
/-- THE RULE for a def: its body as a term of rules, and the reading of that term -/
theorem Fun.ok {x qual : Str} {st : Stmt} {f : Addr} {fd : FuncData} {N ps : List Str} {k : Nat} {sp : Sp} (F : Fun K x qual st f fd) (S : FnScope N ps (defScope st)) (len : ∀ vs H Q E, sp vs H Q E → vs.length = ps.length)
    (hbody : ∀ (cdv : Value) (A : Around) (outer : List Env) (s : Shared) (H : Hp) (vs : List V) (Q : VK) (E : XK), Room k (A.deeper (envOfC qual (defScope st) s.heap.objs.size f cdv)) → sp vs H Q E →
      ∃ t, PSs (cxOf CX0 P w K mg base N qual (defScope st) f cdv A outer s H E).nox (defBody st) t ∧ t { nx := fun _ H' => Q .non H', rt := Q } (start N vs) H) : FnOk P w K mg base CX0 (k + 1) f fd ps sp := by
  obtain ⟨oc, od, kV, doc, pm, an, cdv, ct, osl, rfl, lk, hcd⟩ := F.ex
  refine fn_of lk hcd S len fun A outer s H vs Q E hr hsp => ?_
  obtain ⟨t, h, q⟩ := hbody cdv A outer s H vs Q E hr hsp
  exact ⟨t, h.nox, q⟩
/-- how its arguments bind (no defaults): h is «fun _ _ _ _ _ _ us hl => match us, hl with | [_, _], _ => rfl», one _ a parameter -/
theorem Fun.binds {x qual : Str} {st : Stmt} {f : Addr} {fd : FuncData} {ps : List Str} (F : Fun K x qual st f fd)
    (h : ∀ (kV doc pm : Value) (an : Option Addr) (cdv ct : Value) (us : List Value), us.length = ps.length → bindArgs (PySem.W.fnOf x qual (defArgs st) (defBody st) (defScope st) .none kV doc pm an cdv ct) ⟨us, []⟩ = pure (ps.zip us)) : Binds K fd ps [] := by
  obtain ⟨oc, od, kV, doc, pm, an, cdv, ct, osl, rfl, lk, hcd⟩ := F.ex
  exact .all (h kV doc pm an cdv ct)
theorem fun_mk {x qual : Str} {st : Stmt} {f : Addr} {oc : Value} {od an : Option Addr} {osl : Array (Option Value)} {kV doc pm cdv ct : Value} (l : K.lookup f = some ⟨oc, od, .func (PySem.W.fnOf x qual (defArgs st) (defBody st) (defScope st) .none kV doc pm an cdv ct), osl⟩)
    (c : PySem.W.codeIn K cdv qual = true) (k : PySem.W.keepIn K (.ref f) = true) : Fun K x qual st f (PySem.W.fnOf x qual (defArgs st) (defBody st) (defScope st) .none kV doc pm an cdv ct) := ⟨⟨oc, od, kV, doc, pm, an, cdv, ct, osl, rfl, l, c⟩, k⟩
end
theorem hu_of {A : Around} {k : Nat} (hr : Room k A) : A.units + 1 < cLine := Nat.lt_of_le_of_lt (Nat.add_le_add_left (by decide : 1 ≤ 64) _) hr.units
theorem small1000 {n : Nat} (h : n ≤ 1000) : n < sizeLine := Nat.lt_of_le_of_lt h (by decide)

/-! ### expressions in short: the name that stands in the i-th slot -/
section
variable {X : Cx}
theorem pv (i : Nat) {x : Str} {pos : Pos} (hN : X.N[i]? = some x := by rfl) (hv : Vis X.env.scope x := by first | exact Or.inl rfl | exact Or.inr (Or.inl rfl) | exact Or.inr (Or.inr rfl)) (hd : (x == ("__debug__" : Str)) = false := by decide)
    (hcd : (x == ("__classdict__" : Str)) = false := by decide) : PE X (.Name x pos) (tVar i) := pe_var hN hv hd hcd
end

/-! ### tests -/
theorem iteF {A B : Prop} (h : B) : if false = true then A else B := by
  rw [if_neg Bool.false_ne_true]
  exact h
theorem iteT {A B : Prop} (h : A) : if true = true then A else B := by
  rw [if_pos rfl]
  exact h
theorem ite2 {c A B : Prop} [Decidable c] (h1 : c → A) (h2 : ¬ c → B) : if c then A else B := by
  by_cases h : c
  · rw [if_pos h]
    exact h1 h
  · rw [if_neg h]
    exact h2 h
theorem iteNS {c A B : Prop} [Decidable c] (hc : c) (h : B) : if (!decide c) = true then A else B := by
  rw [decide_eq_true hc]
  exact iteF h

/-! ### heaps -/
/-- all that was tracked is as it was -/
def Same (H H' : Hp) : Prop := ∀ b o, H b = some o → H' b = some o
theorem Same.refl (H : Hp) : Same H H := fun _ _ h => h
theorem Same.trans {H H1 H2 : Hp} (a : Same H H1) (b : Same H1 H2) : Same H H2 := fun c o h => b c o (a c o h)
theorem Same.free {H H' : Hp} (e : Same H H') {l : Addr} (h : H' l = Option.none) : H l = Option.none := by
  cases q : H l with
  | none => rfl
  | some o =>
    rw [e l o q] at h
    cases h
theorem Same.seq {K : PySem.W.Frag} {H H' : Hp} {a : Addr} {xs : List V} (e : Same H H') (h : SqL K H a xs) : SqL K H' a xs := by
  rcases h with (h | ⟨o, h⟩) | h
  · exact .inl (.inl (e _ _ h))
  · exact .inl (.inr ⟨o, e _ _ h⟩)
  · exact .inr h

end L2

set_option Elab.async false
set_option linter.all false
set_option maxRecDepth 100000
namespace L2
open PySem PySem.Spec PyProof.Rows

/-! ### a list comprehension (one clause) whose parts do not raise -/
theorem compLoop_any {prog : Program} {w : World} {A : Around} {R : Result → Shared → Prop} {s : Shared} {elt target iter : Expr} {ifs : List Expr} {scope : Scope} {pos : Pos} {it acc : Value} {env : Env} (I : Nat → Shared → Prop)
    (turn : ∀ n s, I n s → wpAny (model prog w) A (pyNext it) (fun r s₁ => match r with
      | none => R (.ok .next) s₁
      | some v => wpAny (model prog w) A (letOwnedTupleGo target it v) (fun _ s₁' => wpAny (model prog w) A (assign target env v) (fun _ s₂ =>
          wpAny (model prog w) A (forIn ifs true fun c r => if r = true then do let ok ← isTrue c env (eval c env); pure (ForInStep.yield ok) else pure (ForInStep.yield r)) (fun ok s₃ =>
            if ok = true then wpAny (model prog w) A (eval elt env) (fun x s₄ =>
              wpAny (model prog w) A (call (.builtin "list.append") [acc, x]) (fun _ s₅ => ∃ m, m < n ∧ I m s₅) (fun _ _ => False) s₄) (fun _ _ => False) s₃
            else ∃ m, m < n ∧ I m s₃) (fun _ _ => False) s₂) (fun _ _ => False) s₁') (fun _ _ => False) s₁) (fun _ _ => False) s)
    (n : Nat) (h : I n s) : codeAny (model prog w) A (.compLoop (.ListComp elt [⟨target, iter, ifs, 0⟩] scope pos) 0 it acc env) R s := by
  refine codeAny_loop rfl I (fun n s hI => ?_) n h
  show wpAny _ A ((compTurn (.ListComp elt [⟨target, iter, ifs, 0⟩] scope pos) 0 it acc env).onRaise (fun x => do noteFrame x env; theTreesLotGoes x)) _ _ s
  refine wpAny_noted (wpAny_noRaise ?_)
  rw [compTurn_list]
  refine wpAny_bind (wpAny_standAt (wpAny_bind (thn (turn n s hI) fun r s₁ h₁ => ?_)))
  cases r with
  | none => exact wpAny_pure h₁
  | some v =>
    refine wpAny_bind (thn h₁ fun _ s₁' h₁' => ?_)
    refine wpAny_bind (thn h₁' fun _ s₂ h₂ => wpAny_bind (thn h₂ fun ok s₃ h₃ => ?_))
    cases ok with
    | false => exact wpAny_pure ⟨rfl, h₃⟩
    | true => exact wpAny_bind (wpAny_bind (thn h₃ fun x s₄ h₄ => wpAny_bind (thn h₄ fun _ s₅ h₅ => wpAny_pure (wpAny_pure ⟨rfl, h₅⟩))))

/-- an object that is there, of ours and untracked, is tracked from here on -/
theorem Inv.adopt {X : Cx} {pins : List (Addr × Obj)} {σ : St} {H : Hp} {s : Shared} {d : Addr} {o : HO} (I : Inv X pins σ H s) (f : FpOk X pins H d) (new : ObjOk X.prog X.w (upd H d o) s.heap d o) : Inv X pins σ (upd H d o) s := by
  obtain ⟨f0, f1, f2, f3, f4, f5⟩ := f
  have nd : ∀ b u, H b = some u → b ≠ d := fun b u e z => by rw [z, f0] at e; cases e
  refine I.step (h' := s.heap) (g' := s.gens) (d' := s.drawn) (t' := s.toks) (ch := [d]) (fun b hb => ?_) (fun b u _ _ _ e _ => e) (fun b u _ _ _ e _ => ⟨u.slots, e⟩) (fun b u hc e n => ?_) (fun b u _ e => ⟨u, e⟩)
    (fun b xs e => by rw [upd_ne (nd b _ e)]; exact e) (fun b u v e => by rw [upd_ne (nd b _ e)]; exact e) (fun b ps e => ⟨#[], by rw [upd_ne (nd b _ e), e]; simp⟩) (fun m hm => hm) (fun b u e => ?_) I.bare
  · have z : b = d := by simpa using hb
    subst z
    exact ⟨f3, f1, f4, f5⟩
  · rw [upd_ne (fun z => hc (by simp [z]))]; exact n
  · by_cases hb : b = d
    · subst hb; rw [upd_same] at e; cases e; exact new
    · rw [upd_ne hb] at e
      exact (I.hok b u e).stay (fun _ _ _ q => q) (fun c q => by rw [upd_ne (nd c _ q)]; exact q) fun c xs q => by rw [upd_ne (nd c _ q)]; exact q

/-- the names that the block takes from around it: their slots, their names -/
inductive Caps (X : Cx) (sc : Scope) (cl : List (Str × Addr)) : List Nat → List Str → Prop
  | nil : Caps X sc cl [] []
  | cons {j : Nat} {js : List Nat} {y : Str} {ys : List Str} (hN : X.N[j]? = some y) (hk : X.env.kindOf y = some .cell ∨ X.env.kindOf y = some .free) (hl : cl.lookup y = X.env.cells.lookup y)
      (hv : sc.names.lookup y = some .cell ∨ sc.names.lookup y = some .free) (r : Caps X sc cl js ys) : Caps X sc cl (j :: js) (y :: ys)
/-- the block's slots: k of its own, then those taken -/
def blk (k : Nat) (js : List Nat) (σ : St) : St := List.replicate k none ++ js.map fun j => (σ[j]?).getD none
theorem Caps.get {X : Cx} {sc : Scope} {cl : List (Str × Addr)} {σ : St} : ∀ {js : List Nat} {ys : List Str} {i : Nat} {y : Str} {v : V}, Caps X sc cl js ys → ys[i]? = some y → (js.map fun (j : Nat) => (σ[j]?).getD none)[i]? = some (some v) →
    ∃ j : Nat, X.N[j]? = some y ∧ σ[j]? = some (some v) ∧ (X.env.kindOf y = some .cell ∨ X.env.kindOf y = some .free) ∧ cl.lookup y = X.env.cells.lookup y ∧ (sc.names.lookup y = some .cell ∨ sc.names.lookup y = some .free)
  | _, _, _, _, _, .nil, e, _ => by simp at e
  | _, _, 0, y, v, .cons (j := j) hN hk hl hv _, e, e2 => by
    simp at e e2
    subst e
    refine ⟨j, hN, ?_, hk, hl, hv⟩
    cases q : σ[j]? with
    | none => rw [q] at e2; simp at e2
    | some z => rw [q] at e2; simp at e2; rw [e2]
  | _, _, i + 1, y, v, .cons _ _ _ _ r, e, e2 => Caps.get (i := i) r (by simpa using e) (by simpa using e2)
theorem Caps.len {X : Cx} {sc : Scope} {cl : List (Str × Addr)} : ∀ {js : List Nat} {ys : List Str}, Caps X sc cl js ys → js.length = ys.length
  | _, _, .nil => rfl
  | _, _, .cons _ _ _ _ r => by simp [r.len]

def cxComp (X : Cx) (N : List Str) (scope : Scope) (cl : List (Str × Addr)) (C : Addr) (pins : List (Addr × Obj)) (fp : List Addr) (s2 : Shared) (H2 : Hp) : Cx where
  prog := X.prog
  w := X.w
  K := X.K
  mg := X.mg
  base := X.base
  A := X.A
  N := N
  s₀ := s2
  H₀ := H2
  env := compEnvC scope cl C X.env
  outer := X.stack
  stack := X.stack
  ex := fp
  fn := fun _ => false
  calm := X.calm
  pn := X.pn ++ pins
  xe := fun _ _ => False

/-- tests, one after the other (none or one) -/
def PTs (X : Cx) (ifs : List Expr) (t : TT) : Prop :=
  ∀ (pins : List (Addr × Obj)) (s : Shared) (σ : St) (H : Hp) (Q : Bool → Hp → Prop), Inv X pins σ H s → t σ H Q →
    wpAny (model X.prog X.w) X.A (forIn ifs true fun c r => if r = true then do let ok ← isTrue c X.env (eval c X.env); pure (ForInStep.yield ok) else pure (ForInStep.yield r)) (TP X pins σ Q) X.xe s
def tTrue : TT := fun _ H Q => Q true H
theorem pts_nil {X : Cx} : PTs X [] tTrue := fun _ _ _ H _ I h => wpAny_tests_nil ⟨H, I, h⟩
theorem pts_one {X : Cx} {c : Expr} {t : TT} (h : PT X c t) : PTs X [c] t := fun pins s σ H Q I hq => wpAny_tests_one (h pins s σ H Q I hq)

/-- W: the invariant by the turn, a measure, what is gathered, the heap -/
def tComp (wi : TI) (k : Nat) (js : List Nat) (g : TG) (tc : TT) (te : TE) : TE := fun σ H Q => wi σ H fun J H1 => ∃ W : Nat → Nat → List V → Hp → Prop, (∃ m, W 0 m [] H1) ∧ ∀ i m ys H, W i m ys H →
  (J.stop i H ∧ ys.length ≤ sizeLine ∧ ∀ p, H p = none → Q (.ref p) (upd H p (.lst ys))) ∨
  (J.go i H ∧ ys.length ≤ sizeLine ∧ ∀ x H', J.yld i H x H' → g x (blk k js σ) H' fun σ2 H2 => tc σ2 H2 fun b H3 => if b = true then te σ2 H3 fun v H4 => ∃ m', m' < m ∧ W (i + 1) m' (ys ++ [v]) H4 else ∃ m', m' < m ∧ W (i + 1) m' ys H3)

section
variable {X : Cx} {elt tg iter : Expr} {ifs : List Expr} {scope : Scope} {pos : Pos} {cl : List (Str × Addr)} {bs caps : List Str} {js : List Nat} {wi : TI} {g : TG} {tc : TT} {te : TE}
/-- what a comprehension's block asks of its names -/
structure CompOk (X : Cx) (scope : Scope) (cl : List (Str × Addr)) (js : List Nat) (caps : List Str) : Prop where
  clos : closureFor scope X.env = pure cl
  cell : ∀ y ∈ scope.names, y.2 ≠ .cell
  kind : scope.kind = .function
  names : ∀ y ∈ scope.names, y.2 = .local → scope.names.lookup y.1 = some .local
  fr : ∀ y ∈ scope.names, y.2 = .free → (cl.lookup y.1).isSome = true
  sub : ∀ y c, cl.lookup y = some c → X.env.cells.lookup y = some c
  cap : Caps X (relabel scope X.env) cl js caps

theorem kind_relabel {scope : Scope} {env : Env} {x : Str} {k : NameKind} (hc : ∀ y ∈ scope.names, y.2 ≠ .cell) (hk : k = .cell ∨ k = .free) (h : (relabel scope env).names.lookup x = some k) : ∃ y ∈ scope.names, y.1 = x ∧ y.2 = .free := by
  have m := PySem.mem_of_lookup h
  obtain ⟨y, hy, e⟩ := List.mem_map.mp m
  obtain ⟨n, k'⟩ := y
  dsimp only at e
  by_cases q : (k' == NameKind.free && env.scope.kind == .function && env.kindOf n == some .cell) = true
  · rw [if_pos q] at e
    have e1 : n = x := congrArg Prod.fst e
    refine ⟨(n, k'), hy, e1, ?_⟩
    simp only [Bool.and_eq_true, beq_iff_eq] at q
    exact q.1.1
  · rw [if_neg q] at e
    have e1 : n = x := congrArg Prod.fst e
    have e2 : k' = k := congrArg Prod.snd e
    rcases hk with z | z
    · exact absurd (e2.trans z) (hc (n, k') hy)
    · exact ⟨(n, k'), hy, e1, e2.trans z⟩

theorem cxComp_ok {pins : List (Addr × Obj)} {σ : St} {H2 : Hp} {s2 : Shared} {fp : List Addr} {C : Addr} (c : CompOk X scope cl js caps) (I2 : Inv X pins σ H2 s2) (hC : s2.heap.objs.size ≤ C) (f2 : ∀ b ∈ fp, FpOk X pins H2 b) (ho : ∀ b ∈ fp, ∃ o, s2.heap.get? b = some o) :
    (cxComp X (bs ++ caps) scope cl C pins fp s2 H2).Ok := by
  have lt : ∀ b ∈ fp, b < C := fun b hb => let ⟨o, e⟩ := ho b hb; Nat.lt_of_lt_of_le (Heap.lt_size e) hC
  refine ⟨I2.ok.mod, c.kind, I2.ok.glob, I2.ok.blt, hC, fun x y a h1 h2 => I2.ok.inj x y a (c.sub _ _ h1) (c.sub _ _ h2), fun x hx => ?_, fun x a h _ => absurd (show false = true from h) Bool.false_ne_true, I2.ok.hd, I2.ok.frames, .inl rfl, fun b hb => ⟨Nat.ne_of_lt (lt b hb), fun x a h => (f2 b hb).2.2.2.2.1 x a (c.sub _ _ h)⟩,
    I2.bs, Nat.le_trans I2.ok.bsz I2.sz, fun b o e hb => ?_, fun b hb z => ?_, I2.stack, I2.stkFree⟩
  · have hx' : (relabel scope X.env).names.lookup x = some .cell ∨ (relabel scope X.env).names.lookup x = some .free := hx
    obtain ⟨y, hy, e1, e2⟩ : ∃ y ∈ scope.names, y.1 = x ∧ y.2 = .free := by
      rcases hx' with q | q
      · exact kind_relabel c.cell (.inl rfl) q
      · exact kind_relabel c.cell (.inr rfl) q
    subst e1
    exact Option.isSome_iff_exists.mp (c.fr y hy e2)
  · rcases (f2 b hb).2.2.2.1 with z | z
    · exact I2.ok.noex b o e z
    · exact absurd (Nat.lt_of_lt_of_le (Heap.lt_size (I2.ok.bs b o e).1) z) (Nat.lt_irrefl _)
  · have f := f2 b hb
    rcases List.mem_cons.mp (I2.stkSub b z) with q | q
    · exact f.2.1 q
    · exact f.2.2.1 q

/-- the block, up to its end -/
theorem comp_core {pins : List (Addr × Obj)} {σ : St} {H2 : Hp} {s2 : Shared} {fp : List Addr} {it : Addr} {tn : Nat → Heap → Prop} {J : It} {RR : Value → Addr → Result → Shared → Prop} {Z : List V → Hp → Prop} {E : Value → Shared → Prop} (hc : X.calm = true) (c : CompOk X scope cl js caps)
    (hg : ∀ C pins fp s2 H2, PG (cxComp X (bs ++ caps) scope cl C pins fp s2 H2) tg g) (ht : ∀ C pins fp s2 H2, PTs (cxComp X (bs ++ caps) scope cl C pins fp s2 H2) ifs tc) (he : ∀ C pins fp s2 H2, PE (cxComp X (bs ++ caps) scope cl C pins fp s2 H2) elt te)
    (I2 : Inv X pins σ H2 s2) (T : Turn X.prog X.w X.K tg J fp it tn) (st2 : tn 0 s2.heap) (f2 : ∀ b ∈ fp, FpOk X pins H2 b) (W : Nat → Nat → List V → Hp → Prop) {m0 : Nat} (w0 : W 0 m0 [] H2)
    (turn : ∀ i m ys H, W i m ys H →
      (J.stop i H ∧ ys.length ≤ sizeLine ∧ Z ys H) ∨
      (J.go i H ∧ ys.length ≤ sizeLine ∧ ∀ x H', J.yld i H x H' → g x (blk bs.length js σ) H' fun σ2 H2 => tc σ2 H2 fun b H3 => if b = true then te σ2 H3 fun v H4 => ∃ m', m' < m ∧ W (i + 1) m' (ys ++ [v]) H4 else ∃ m', m' < m ∧ W (i + 1) m' ys H3))
    (hR : ∀ (D C : Addr) (s4 : Shared) (H3 : Hp) (ys : List V) (mC : Str → Option Value), Inv X pins σ (upd H3 D (.lst ys)) s4 → H3 D = none → FpOk X pins (upd H3 D (.lst ys)) C → s4.heap.Ns C mC → Z ys H3 → RR (.ref D) C (.ok .next) s4) :
    wpAny (model X.prog X.w) X.A (newList []) (fun acc s₃ => wpAny (model X.prog X.w) X.A (newFunctionEnv scope X.env.globals cl [] X.env.qual none .none (some X.env)) (fun cenv s₄ =>
      codeAny (model X.prog X.w) X.A (.compStart (.ListComp elt [⟨tg, iter, ifs, 0⟩] scope pos) 0 (.ref it) acc { cenv with scope := relabel scope X.env }) (RR acc cenv.locals) s₄) E s₃) E s2 := by
  refine wpAny_newObj_type (wpAny_newFunctionEnv c.cell (by intro y hy; simp at hy) (fun h₁ hns₁ hsb₁ => ?_) c.kind)
  dsimp only at hns₁ hsb₁ ⊢
  generalize hP : s2.heap.push { cls := .type "list", dict := none, data := .seq ([] : List Value).toArray } = P2 at hns₁ hsb₁ ⊢
  have hCs : P2.objs.size = s2.heap.objs.size + 1 := by rw [← hP, Heap.size_push]
  have hCle : s2.heap.objs.size ≤ P2.objs.size := by rw [hCs]; exact Nat.le_succ _
  have hDC : s2.heap.objs.size ≠ P2.objs.size := by rw [hCs]; exact Nat.ne_of_lt (Nat.lt_succ_self _)
  have below : ∀ b, b < s2.heap.objs.size → b ≠ P2.objs.size := fun b hb => by rw [hCs]; exact Nat.ne_of_lt (Nat.lt_succ_of_lt hb)
  have old : ∀ b o, s2.heap.get? b = some o → h₁.get? b = some o := fun b o e => hsb₁.extBut b o (below b (Heap.lt_size e)) (Heap.get?_push_of_some _ (hP ▸ Heap.get?_push_of_some _ e))
  have hacc : h₁.get? s2.heap.objs.size = some { cls := .type "list", data := .seq ([] : List Value).toArray } := hsb₁.extBut _ _ hDC (Heap.get?_push_of_some _ (hP ▸ Heap.get?_push_size _ rfl))
  have ob2 : ∀ b ∈ fp, ∃ o, s2.heap.get? b = some o := fun b hb => let ⟨o, e, _⟩ := T.obj 0 _ st2 b hb; ⟨o, e⟩
  have okY := cxComp_ok (bs := bs) c I2 hCle f2 ob2
  have fD : ∀ {H3 : Hp}, H3 s2.heap.objs.size = none → FpOk X pins H3 s2.heap.objs.size := fun hn => I2.fpOk (Nat.le_refl _) hn
  have fC : ∀ {H3 : Hp}, H3 P2.objs.size = none → FpOk X pins H3 P2.objs.size := fun hn => I2.fpOk hCle hn
  have stkne : ∀ b, b ∈ frs X.stack → b < s2.heap.objs.size := fun b hb => by
    rcases List.mem_cons.mp (I2.stkSub b hb) with q | q
    · rw [q]; exact I2.lt
    · obtain ⟨_, o, e, _⟩ := I2.ok.funs.mem q
      exact Nat.lt_of_lt_of_le (Heap.lt_size e) I2.sz
  have fpY : ∀ {H3 : Hp} {o : Obj}, (∀ b ∈ fp, H3 b = none) → ∀ b ∈ fp, FpOk (cxComp X (bs ++ caps) scope cl P2.objs.size pins fp s2 H2) [(s2.heap.objs.size, o)] H3 b := fun {H3 o} hn b hb => by
    obtain ⟨o', e'⟩ := ob2 b hb
    have f := f2 b hb
    refine ⟨hn b hb, below b (Heap.lt_size e'), okY.exfs b hb, .inl hb, fun x a h => f.2.2.2.2.1 x a (c.sub _ _ h), fun p hp => ?_⟩
    rcases List.mem_append.mp hp with z | z
    · exact f.2.2.2.2.2 p z
    · have z' : p = (s2.heap.objs.size, o) := by simpa using z
      subst z'
      exact Ne.symm (Nat.ne_of_lt (Heap.lt_size e'))
  have IY : Inv (cxComp X (bs ++ caps) scope cl P2.objs.size pins fp s2 H2) [(s2.heap.objs.size, { cls := .type "list", data := .seq ([] : List Value).toArray })] (blk bs.length js σ) H2 { s2 with heap := h₁, toks := s2.toks + ([] : List (Str × Value)).length } := by
    obtain ⟨m, hn, hl⟩ := I2.loc
    refine ⟨okY, rfl, I2.bare, Un.kept old, ⟨_, hns₁, fun i x v e1 e2 e3 => ?_⟩, fun x a h => ?_, I2.hok.fresh hCle, fun x a h => I2.freeC x a (c.sub _ _ h), fun p hp => ?_, I2.hok.kept old, ?_⟩
    · have hi : ¬ i < bs.length := fun hi => by
        have e2' : (List.replicate bs.length none ++ _)[i]? = some (some v) := e2
        rw [List.getElem?_append_left (by simpa using hi), List.getElem?_replicate, if_pos hi] at e2'
        cases e2'
      have e1' : (bs ++ caps)[i]? = some x := e1
      rw [List.getElem?_append_right (by omega)] at e1'
      have e2' : (List.replicate bs.length none ++ js.map fun j => (σ[j]?).getD none)[i]? = some (some v) := e2
      rw [List.getElem?_append_right (by simpa using hi), List.length_replicate] at e2'
      obtain ⟨j, q1, q2, q3, q4, q5⟩ := c.cap.get e1' e2'
      have vis : Vis X.env.scope x := by rcases q3 with z | z; exact .inr (.inl z); exact .inr (.inr z)
      obtain ⟨u, r, l⟩ := hl j x v q1 q2 vis
      refine ⟨u, r, .inr ⟨q5, ?_⟩⟩
      rcases l with ⟨z, _⟩ | ⟨_, a, z, z2⟩
      · rcases q3 with y | y <;> (rw [y] at z; cases z)
      · obtain ⟨ob, eo, d⟩ := z2
        exact ⟨a, q4.trans z, ob, old _ _ eo, d⟩
    · obtain ⟨v, ob, eo, d⟩ := I2.cell x a (c.sub _ _ h)
      exact ⟨v, ob, old _ _ eo, d⟩
    · rcases List.mem_append.mp hp with z | z
      · obtain ⟨q1, q2, q3, q4, q5⟩ := I2.pin p z
        refine ⟨old _ _ q1, q2, below _ (Heap.lt_size q1), fun y => ?_, q5⟩
        rcases List.mem_cons.mp (I2.stkSub p.1 y) with q | q
        · exact q3 q
        · exact q4 q
      · have z' : p = (s2.heap.objs.size, { cls := .type "list", data := .seq ([] : List Value).toArray }) := by simpa using z
        subst z'
        refine ⟨hacc, I2.hok.fresh (Nat.le_refl _), hDC, fun y => absurd (stkne _ y) (Nat.lt_irrefl _), fun v y => ?_⟩
        have y' : Data.seq _ _ = Data.cell v := y
        cases y'
    · show (List.replicate bs.length none ++ js.map fun j => (σ[j]?).getD none).length = (bs ++ caps).length
      rw [List.length_append, List.length_replicate, List.length_map, List.length_append, c.cap.len]
  have stat : ∀ {H3 : Hp} {o : Obj}, (∀ b ∈ fp, H3 b = none) → ∀ b ∈ fp, FpOk (cxComp X (bs ++ caps) scope cl P2.objs.size pins fp s2 H2) [(s2.heap.objs.size, o)] H3 b := fpY
  have loop : codeAny (model X.prog X.w) X.A (.compLoop (.ListComp elt [⟨tg, iter, ifs, 0⟩] scope pos) 0 (.ref it) (.ref s2.heap.objs.size) (compEnvC scope cl P2.objs.size X.env)) (RR (.ref s2.heap.objs.size) P2.objs.size)
      { s2 with heap := h₁, toks := s2.toks + ([] : List (Str × Value)).length } := by
    refine compLoop_any (fun n s' => ∃ (i : Nat) (ys : List V) (its : List Value) (nn : Nat) (H' : Hp), Inv (cxComp X (bs ++ caps) scope cl P2.objs.size pins fp s2 H2) [(s2.heap.objs.size, { cls := .type "list", data := .seq its.toArray nn })] (blk bs.length js σ) H' s' ∧ Vals ys its ∧ tn i s'.heap ∧ (∀ b ∈ fp, H' b = none) ∧ W i n ys H') ?_ m0
      ⟨0, [], [], 0, H2, IY, .nil, T.keep _ _ _ st2 fun b _ o e => old b o e, fun b hb => (f2 b hb).1, w0⟩
    rintro n s3 ⟨i, ys, its, nn, H3, I3, rv, st3, fr3, w3⟩
    rcases turn i n ys H3 w3 with ⟨stop, hz, hZ⟩ | ⟨go, hz, step⟩
    · refine thn (T.done (cxComp X (bs ++ caps) scope cl P2.objs.size pins fp s2 H2) rfl rfl rfl hc i _ s3 _ H3 _ I3 (stat fr3) st3 stop) fun r s4 ⟨hr, I4⟩ => ?_
      subst hr
      obtain ⟨q1, q2, q3, q4, _⟩ := I4.pin (s2.heap.objs.size, { cls := .type "list", data := .seq its.toArray nn }) (by simp)
      have JX : Inv X pins σ H3 s4 := I2.call' (ch := fp) I4.os I4.base I4.hok I4.bare fun b hb => let f := f2 b hb; ⟨f.2.2.2.1, f.2.1, f.2.2.2.2.1, f.2.2.2.2.2⟩
      have JD : Inv X pins σ (upd H3 s2.heap.objs.size (.lst ys)) s4 := JX.adopt (fD q2) ⟨hz, its, nn, rv, q1⟩
      obtain ⟨mC, hnC, _⟩ := I4.loc
      exact hR _ _ s4 H3 ys mC JD q2 (fC (by rw [upd_ne (Ne.symm hDC)]; exact I4.free)) hnC hZ
    · refine thn (T.item (cxComp X (bs ++ caps) scope cl P2.objs.size pins fp s2 H2) rfl rfl rfl hc i _ s3 _ H3 _ I3 (stat fr3) st3 go) fun r s4 ⟨u, hr, h4⟩ => ?_
      subst hr
      refine thn h4 fun _ s5 ⟨x, H5, I5, r5, y5, st5, fr5⟩ => ?_
      have I5' := I5.pinned (stat fr5) (T.obj _ _ st5)
      refine thn (hg _ _ _ _ _ _ s5 _ H5 x u _ I5' r5 (step x H5 y5)) fun _ s6 ⟨σ6, H6, I6, q6⟩ => ?_
      refine thn (ht _ _ _ _ _ _ s6 σ6 H6 _ I6 q6) fun ok s7 ⟨H7, I7, q7⟩ => ?_
      have back : ∀ {σ8 : St} {H8 : Hp} {s8 : Shared}, Inv (cxComp X (bs ++ caps) scope cl P2.objs.size pins fp s2 H2) ([(s2.heap.objs.size, { cls := .type "list", data := .seq its.toArray nn })] ++ pinsAt fp s5.heap) σ8 H8 s8 → tn (i + 1) s8.heap ∧ ∀ b ∈ fp, H8 b = none := fun {σ8 H8 s8} I8 =>
        ⟨T.keep _ _ _ st5 fun b hb o e => (I8.pin (b, o) (List.mem_append_right _ (List.mem_append_right _ (mem_pinsAt hb e)))).1, fun b hb => by
          obtain ⟨o, e, d⟩ := T.obj _ _ st5 b hb
          exact (I8.pin (b, o) (List.mem_append_right _ (List.mem_append_right _ (mem_pinsAt hb e)))).2.1⟩
      have base : ∀ {σ8 : St} {H8 : Hp} {s8 : Shared} {o : Obj}, Inv (cxComp X (bs ++ caps) scope cl P2.objs.size pins fp s2 H2) [(s2.heap.objs.size, o)] σ8 H8 s8 → Inv (cxComp X (bs ++ caps) scope cl P2.objs.size pins fp s2 H2) [(s2.heap.objs.size, o)] (blk bs.length js σ) H8 s8 := fun {σ8 H8 s8 o} I8 => by
        obtain ⟨mC, hnC, _⟩ := I8.loc
        -- the names taken from around: through the caller's own cells
        refine ⟨I8.ok, I8.os, I8.bare, I8.base, ⟨mC, hnC, fun i x v e1 e2 e3 => ?_⟩, I8.cell, I8.free, I8.freeC, I8.pin, I8.hok, IY.len⟩
        obtain ⟨u, r, l⟩ := IY.loc.choose_spec.2 i x v e1 e2 e3
        have hl0 := IY.loc.choose_spec.1
        refine ⟨u, r, ?_⟩
        rcases l with ⟨k, z⟩ | ⟨k, a, z, ob, eo, d⟩
        · have hb : ¬ i < bs.length := fun hi => by
            have e2' : (List.replicate bs.length none ++ _)[i]? = some (some v) := e2
            rw [List.getElem?_append_left (by simpa using hi), List.getElem?_replicate, if_pos hi] at e2'
            cases e2'
          have e1' : (bs ++ caps)[i]? = some x := e1
          rw [List.getElem?_append_right (by omega)] at e1'
          have e2' : (List.replicate bs.length none ++ js.map fun j => (σ[j]?).getD none)[i]? = some (some v) := e2
          rw [List.getElem?_append_right (by simpa using hb), List.length_replicate] at e2'
          obtain ⟨j, q1, q2, q3, q4, q5⟩ := c.cap.get e1' e2'
          have k' : (relabel scope X.env).names.lookup x = some .local := k
          rcases q5 with y | y <;> (rw [y] at k'; cases k')
        · -- the cell stands since the entry and nobody writes it
          obtain ⟨v8, o8, e8, d8⟩ := I8.cell x a z
          obtain ⟨vX, oX, eX, dX⟩ := I2.cell x a (c.sub _ _ z)
          have h8 := I8.base.any eX (I2.freeC x a (c.sub _ _ z)) (fun hx => (f2 a hx).2.2.2.2.1 x a (c.sub _ _ z) rfl)
          obtain ⟨sl, h8⟩ := h8
          have eo' : h₁.get? a = some oX := old _ _ eX
          have eo2 : h₁.get? a = some ob := eo
          rw [eo'] at eo2
          cases eo2
          exact .inr ⟨k, a, z, _, h8, d⟩
      cases ok with
      | false =>
        obtain ⟨m', hm, w7⟩ := q7
        obtain ⟨st7, fr7⟩ := back I7
        exact ⟨m', hm, i + 1, ys, its, nn, H7, base I7.unpinned, rv, st7, fr7, w7⟩
      | true =>
        refine thn (he _ _ _ _ _ _ s7 σ6 H7 _ I7 q7) fun y s8 ⟨v, H8, I8, r8, m', hm, w8⟩ => ?_
        obtain ⟨st8, fr8⟩ := back I8
        have I8' := I8.unpinned
        obtain ⟨q1, q2, q3, q4, _⟩ := I8'.pin (s2.heap.objs.size, { cls := .type "list", data := .seq its.toArray nn }) (by simp)
        refine PySem.wpAny_list_append_plain (items := its.toArray) (hsz := by rw [List.size_toArray, ← rv.length]; exact hz) ⟨_, q1⟩ fun h9 hl9 hs9 => ?_
        obtain ⟨n9, e9⟩ := hl9
        have I80 : Inv (cxComp X (bs ++ caps) scope cl P2.objs.size pins fp s2 H2) [] σ6 H8 s8 := I8'.pins_of fun p hp => absurd hp (by simp)
        have I9 : Inv (cxComp X (bs ++ caps) scope cl P2.objs.size pins fp s2 H2) [] σ6 H8 { s8 with heap := h9, toks := s8.toks } := I80.turned (it := s2.heap.objs.size) (fun b o hb e => (hs9.2 b hb).trans e) q2 q3 (.inr (Nat.le_refl _))
          (fun x a h z => by
            obtain ⟨v', ob, eo, _⟩ := I2.cell x a (c.sub _ _ h)
            exact absurd (Heap.lt_size eo) (by rw [z]; exact Nat.lt_irrefl _))
          (fun p hp z => by
            have hp' : p ∈ X.pn ++ pins := (List.mem_append.mp hp).elim (fun z => z) fun z => absurd z (by simp)
            exact absurd (Heap.lt_size (I2.pin p hp').1) (by rw [z]; exact Nat.lt_irrefl _))
        have ea : its.toArray.push y = (its ++ [y]).toArray := by simp
        rw [ea] at e9
        have I10 : Inv (cxComp X (bs ++ caps) scope cl P2.objs.size pins fp s2 H2) [(s2.heap.objs.size, { cls := .type "list", data := .seq (its ++ [y]).toArray n9 })] σ6 H8 { s8 with heap := h9 } := I9.pins_of fun p hp => by
          have z' : p = (s2.heap.objs.size, { cls := .type "list", data := .seq (its ++ [y]).toArray n9 }) := by simpa using hp
          subst z'
          refine ⟨e9, q2, q3, q4, fun v' y' => ?_⟩
          have y2 : Data.seq _ _ = Data.cell v' := y'
          cases y2
        have hDf : s2.heap.objs.size ∉ fp := fun hb => by
          obtain ⟨o', e'⟩ := ob2 _ hb
          exact absurd (Heap.lt_size e') (Nat.lt_irrefl _)
        exact ⟨m', hm, i + 1, ys ++ [v], its ++ [y], n9, H8, base I10, rv.append (.cons r8 .nil), T.keep _ _ _ st8 fun b hb o e => (hs9.2 b (fun z => hDf (z ▸ hb))).trans e, fr8, w8⟩
  exact codeAny_compStart_list loop (T.self _ 0 _ _ _ (T.keep _ _ _ st2 fun b _ o e => old b o e) loop)

/-- [elt for tg in iter if ..] -/
theorem pe_comp (hc : X.calm = true) (c : CompOk X scope cl js caps) (hi : PI X tg iter wi)
    (hg : ∀ C pins fp s2 H2, PG (cxComp X (bs ++ caps) scope cl C pins fp s2 H2) tg g) (ht : ∀ C pins fp s2 H2, PTs (cxComp X (bs ++ caps) scope cl C pins fp s2 H2) ifs tc) (he : ∀ C pins fp s2 H2, PE (cxComp X (bs ++ caps) scope cl C pins fp s2 H2) elt te)
    (hs : ∀ x, foldedSetIterable iter X.env x = pure x := by intro _; rfl) : PE X (.ListComp elt [⟨tg, iter, ifs, 0⟩] scope pos) (tComp wi bs.length js g tc te) := by
  intro pins s σ H Q I h
  rw [eval_ListComp]
  refine wpAny_comprehension_free (use := none) rfl hs c.clos c.kind c.names (thn (hi pins s σ H _ I h) fun v s1 h1 => thn h1 fun itv s2 h2 => ?_)
  obtain ⟨it, fp, tn, J, H2, e, I2, T, st2, f2, W, ⟨m0, w0⟩, turn⟩ := h2
  subst e
  refine comp_core (RR := fun acc C => compPost (model X.prog X.w) X.A X.xe none (EP X pins σ Q) acc C) (Z := fun ys H => ∀ p, H p = none → Q (.ref p) (upd H p (.lst ys))) hc c hg ht he I2 T st2 f2 W w0 turn fun D C s4 H3 ys mC J4 hD fC hnC hZ => ?_
  refine ⟨mC, hnC, fun h' hs' => ⟨.ref D, upd H3 D (.lst ys), ?_, rfl, hZ D hD⟩⟩
  exact J4.turned (t' := s4.toks) (it := C) (fun b o hb e => (hs'.2 b hb).trans e) fC.1 fC.2.1 fC.2.2.2.1 fC.2.2.2.2.1 fC.2.2.2.2.2
/-- name = [..] where the model stores ahead of the block's end -/
theorem ps_setC {i : Nat} {y : Str} {py spos : Pos} (hsw : swapsWith (.ListComp elt [⟨tg, iter, ifs, 0⟩] scope pos) (some (.Name y py)) spos.line X.env = pure true) (hN : X.N.Nodup) (hy : X.N[i]? = some y) (hl : X.env.scope.names.lookup y = some .local) (hc : X.calm = true) (c : CompOk X scope cl js caps) (hi : PI X tg iter wi)
    (hg : ∀ C pins fp s2 H2, PG (cxComp X (bs ++ caps) scope cl C pins fp s2 H2) tg g) (ht : ∀ C pins fp s2 H2, PTs (cxComp X (bs ++ caps) scope cl C pins fp s2 H2) ifs tc) (he : ∀ C pins fp s2 H2, PE (cxComp X (bs ++ caps) scope cl C pins fp s2 H2) elt te)
    (hs : ∀ x, foldedSetIterable iter X.env x = pure x := by intro _; rfl) : PS X (.Assign [.Name y py] (.ListComp elt [⟨tg, iter, ifs, 0⟩] scope pos) spos) (tAsg (tComp wi bs.length js g tc te) (gName i)) := by
  intro pins s σ H D I h
  rw [exec_Assign_Name_used _ _ _ _ hsw]
  refine wpAny_bind (wpAny_standAt (wpAny_bind ?_))
  show wpAny _ X.A (do let _ ← comprehension (.ListComp elt [⟨tg, iter, ifs, 0⟩] scope pos) scope X.env _ (newList []) false (eval iter X.env) (some (assign (.Name y py) X.env))) _ _ s
  refine wpAny_bind (thn (wpAny_comprehension_free (use := some (assign (.Name y py) X.env)) (Q := fun _ s' => SP X pins D .next s') rfl hs c.clos c.kind c.names
    (thn (hi pins s σ H _ I h) fun xv s1 h1 => thn h1 fun itv s2 h2 => ?_)) fun _ s' hq => wpAny_pure (wpAny_pure hq))
  obtain ⟨it, fp, tn, J, H2, e, I2, T, st2, f2, W, ⟨m0, w0⟩, turn⟩ := h2
  subst e
  refine comp_core (RR := fun acc C => compPost (model X.prog X.w) X.A X.xe (some (assign (.Name y py) X.env)) (fun _ s' => SP X pins D .next s') acc C) (Z := fun ys H => ∀ p, H p = none → D.nx (σ.set i (some (.ref p))) (upd H p (.lst ys))) hc c hg ht he I2 T st2 f2 W w0 turn fun d C s4 H3 ys mC J4 hD fC hnC hZ => ?_
  show wpAny _ X.A (assign (.Name y py) X.env (.ref d)) _ _ s4
  refine wpAny_assign_Name (store_ok2 J4 hN hy (.inl hl) (v := .ref d) rfl (fun s5 J5 ⟨a, hsb, ha⟩ => ?_) (.inr hl))
  have hCa : C ≠ a := by
    rcases ha with z | z
    · rw [z]; exact fC.2.1
    · exact fun q => fC.2.2.2.2.1 _ _ z q.symm
  refine ⟨mC, hnC.sameBut hsb hCa, fun h' hs' => ⟨_, _, J5.turned (t' := s5.toks) (it := C) (fun b o hb e => (hs'.2 b hb).trans e) fC.1 fC.2.1 fC.2.2.2.1 fC.2.2.2.2.1 fC.2.2.2.2.2, hZ d hD⟩⟩
end
end L2

set_option Elab.async false
set_option linter.all false
set_option maxRecDepth 100000
namespace L2
open PySem PySem.Spec PyProof.Rows
section
variable {X : Cx}
/-! ### // by any divisor that is not immense; products of two that are not immense -/
def CDivB (i j : Int) : Prop := 0 < j ∧ j.natAbs < 2 ^ 9000
theorem log_small {n : Nat} (h0 : 0 < n) (h : n < 2 ^ 9000) : n.log2 < 9000 := (Nat.log2_lt (Nat.ne_of_gt h0)).mpr h
theorem op_fdivB : OpR X (binaryOp .FloorDiv) (rI CDivB fun i j => .int (i / j)) := opI fun i j _ _ _ _ _ hc q => by
  have h1 : (0 : Int) < j := hc.1
  exact floordiv_int (by omega) (by rw [Int.fdiv_eq_ediv_of_nonneg i (by omega)]; exact q) (.inl (PyProof.noPylong_of_log2 (log_small (by omega) hc.2)))
theorem iop_fdivB : OpR X (inplaceOp .FloorDiv) (rI CDivB fun i j => .int (i / j)) := opI fun i j _ _ _ _ _ hc q => by
  have h1 : (0 : Int) < j := hc.1
  exact ifloordiv_int (by omega) (by rw [Int.fdiv_eq_ediv_of_nonneg i (by omega)]; exact q) (.inl (PyProof.noPylong_of_log2 (log_small (by omega) hc.2)))
theorem bits_small {i : Int} (h : i.natAbs < 2 ^ 9000) : Builtin.Int.intBits i ≤ 2 ^ 20 := by
  unfold Builtin.Int.intBits
  split
  · exact Nat.zero_le _
  · have h2 : i.natAbs.log2 < 9000 := by
      rcases Nat.eq_zero_or_pos i.natAbs with h0 | hp
      · rw [h0]; decide
      · exact log_small hp h
    have e : (2 : Nat) ^ 20 = 1048576 := by decide
    omega
/-- a factor below 2^64, or both below 2^9000 -/
def CMulB (i j : Int) : Prop := (-(2 ^ 64) < i ∧ i < 2 ^ 64) ∨ (-(2 ^ 64) < j ∧ j < 2 ^ 64) ∨ (i.natAbs < 2 ^ 9000 ∧ j.natAbs < 2 ^ 9000)
theorem CMulB.ok {i j : Int} (h : CMulB i j) : IntMulOk i j := by
  rcases h with ⟨h1, h2⟩ | ⟨h1, h2⟩ | ⟨h1, h2⟩
  · exact .of_left (intBits_le_64 h1 h2)
  · exact .of_right (intBits_le_64 h1 h2)
  · exact .of_bits (bits_small h1) (bits_small h2)
theorem op_mulB : OpR X (binaryOp .Mult) (rI CMulB fun i j => .int (i * j)) := opI fun _ _ _ _ _ _ _ hc q => mul_int q hc.ok
theorem iop_mulB : OpR X (inplaceOp .Mult) (rI CMulB fun i j => .int (i * j)) := opI fun _ _ _ _ _ _ _ hc q => imul_int q hc.ok
end

/-! ### data: what a value of numbers, texts, truths and tuples of these says, whatever the addresses -/
inductive D where
  | non | bl (b : Bool) | int (i : Int) | str (x : Str) | tup (xs : List D)
mutual
def DV (K : PySem.W.Frag) (H : Hp) : D → V → Prop
  | .non, v => v = .non
  | .bl b, v => v = .bl b
  | .int i, v => v = .int i
  | .str x, v => v = .str x
  | .tup ds, v => ∃ a xs, v = .ref a ∧ SqT K H a xs ∧ DVs K H ds xs
def DVs (K : PySem.W.Frag) (H : Hp) : List D → List V → Prop
  | [], vs => vs = []
  | d :: ds, vs => ∃ v r, vs = v :: r ∧ DV K H d v ∧ DVs K H ds r
end
mutual
/-- Python's == -/
def D.eq : D → D → Bool
  | .non, .non => true
  | .bl a, .bl b => a == b
  | .bl a, .int b => (if a then 1 else 0) == b
  | .int a, .bl b => a == (if b then 1 else 0)
  | .int a, .int b => a == b
  | .str a, .str b => a == b
  | .tup xs, .tup ys => D.eqs xs ys
  | _, _ => false
def D.eqs : List D → List D → Bool
  | [], [] => true
  | x :: xs, y :: ys => D.eq x y && D.eqs xs ys
  | _, _ => false
end
mutual
def D.depth : D → Nat
  | .tup xs => D.depths xs + 1
  | _ => 0
def D.depths : List D → Nat
  | [] => 0
  | x :: xs => max (D.depth x) (D.depths xs)
end
theorem DVs.length {K : PySem.W.Frag} {H : Hp} : ∀ {ds : List D} {vs : List V}, DVs K H ds vs → ds.length = vs.length
  | [], vs, h => by rw [DVs] at h; subst h; rfl
  | d :: ds, vs, h => by
    rw [DVs] at h
    obtain ⟨v, r, rfl, _, h2⟩ := h
    simp [DVs.length h2]
theorem DVs.get {K : PySem.W.Frag} {H : Hp} : ∀ {ds : List D} {vs : List V} {j : Nat} {d : D}, DVs K H ds vs → ds[j]? = some d → ∃ v, vs[j]? = some v ∧ DV K H d v
  | [], vs, j, d, h, e => by simp at e
  | d' :: ds, vs, j, d, h, e => by
    rw [DVs] at h
    obtain ⟨v, r, rfl, h1, h2⟩ := h
    cases j with
    | zero => simp at e; subst e; exact ⟨v, rfl, h1⟩
    | succ j =>
      obtain ⟨v', e', h'⟩ := DVs.get (j := j) h2 (by simpa using e)
      exact ⟨v', by simpa using e', h'⟩
theorem all_succ (n : Nat) (e : Nat → Bool) : (List.range (n + 1)).all e = (e 0 && (List.range n).all fun j => e (j + 1)) := by
  rw [List.range_succ_eq_map, List.all_cons, List.all_map]
  rfl
theorem eqs_all : ∀ (xs ys : List D), D.eqs xs ys = ((List.range (min xs.length ys.length)).all (fun j => D.eq (xs.getD j .non) (ys.getD j .non)) && xs.length == ys.length)
  | [], [] => by simp [D.eqs]
  | [], y :: ys => by simp [D.eqs]
  | x :: xs, [] => by simp [D.eqs]
  | x :: xs, y :: ys => by
    rw [D.eqs, eqs_all xs ys]
    have e : min (x :: xs).length (y :: ys).length = min xs.length ys.length + 1 := by simp only [List.length_cons]; omega
    rw [e, all_succ]
    simp [Bool.and_assoc]

section
variable {X : Cx} {pins : List (Addr × Obj)} {σ : St} {H : Hp} {s : Shared}
theorem units_in1 (A : Around) : A.in1.units = A.units + 1 := rfl
mutual
/-- one value says one thing -/
theorem same_D (I : Inv X pins σ H s) : ∀ (d e : D) (x : V), DV X.K H d x → DV X.K H e x → D.eq d e = true
  | .non, e, x, hx, hy => by
    rw [DV] at hx; subst hx
    cases e with
    | tup b => rw [DV] at hy; obtain ⟨p, ys, z, _⟩ := hy; cases z
    | _ => rw [DV] at hy; first | rfl | cases hy
  | .bl a, e, x, hx, hy => by
    rw [DV] at hx; subst hx
    cases e with
    | tup b => rw [DV] at hy; obtain ⟨p, ys, z, _⟩ := hy; cases z
    | bl b => rw [DV] at hy; cases hy; rw [D.eq]; exact beq_self_eq_true _
    | _ => rw [DV] at hy; cases hy
  | .int a, e, x, hx, hy => by
    rw [DV] at hx; subst hx
    cases e with
    | tup b => rw [DV] at hy; obtain ⟨p, ys, z, _⟩ := hy; cases z
    | int b => rw [DV] at hy; cases hy; rw [D.eq]; exact beq_self_eq_true _
    | _ => rw [DV] at hy; cases hy
  | .str a, e, x, hx, hy => by
    rw [DV] at hx; subst hx
    cases e with
    | tup b => rw [DV] at hy; obtain ⟨p, ys, z, _⟩ := hy; cases z
    | str b => rw [DV] at hy; cases hy; rw [D.eq]; exact beq_self_eq_true _
    | _ => rw [DV] at hy; cases hy
  | .tup ds, e, x, hx, hy => by
    rw [DV] at hx
    obtain ⟨a, xs, rfl, ha, hxs⟩ := hx
    cases e with
    | tup es =>
      rw [DV] at hy
      obtain ⟨b, ys, z, hb, hys⟩ := hy
      cases z
      have e1 := I.tuple_inj ha hb
      subst e1
      rw [D.eq]
      exact sames_D I ds es xs hxs hys
    | _ => rw [DV] at hy; cases hy
theorem sames_D (I : Inv X pins σ H s) : ∀ (ds es : List D) (xs : List V), DVs X.K H ds xs → DVs X.K H es xs → D.eqs ds es = true
  | [], es, xs, hx, hy => by
    rw [DVs] at hx; subst hx
    cases es with
    | nil => rfl
    | cons e es => rw [DVs] at hy; obtain ⟨v, r, z, _⟩ := hy; cases z
  | d :: ds, es, xs, hx, hy => by
    rw [DVs] at hx
    obtain ⟨x, xr, rfl, hx1, hx2⟩ := hx
    cases es with
    | nil => rw [DVs] at hy; cases hy
    | cons e es =>
      rw [DVs] at hy
      obtain ⟨y, yr, z, hy1, hy2⟩ := hy
      cases z
      rw [D.eqs, same_D I d e x hx1 hy1, sames_D I ds es xr hx2 hy2]
      rfl
end
mutual
/-- == of two data values, by what they say -/
theorem eqAt_D (I : Inv X pins σ H s) : ∀ (d e : D) (A : Around) (x y : V) (u v : Value), RelV x u → RelV y v → DV X.K H d x → DV X.K H e y → A.units + d.depth < cLine → SeqAt.EqAt A s u v (D.eq d e)
  | .non, e, A, x, y, u, v, rx, ry, hx, hy, hu => by
    rw [DV] at hx; subst hx
    cases e with
    | non => rw [DV] at hy; subst hy; exact eqAt_V rx ry rfl rfl
    | bl b => rw [DV] at hy; subst hy; exact eqAt_V rx ry rfl rfl
    | int b => rw [DV] at hy; subst hy; exact eqAt_V rx ry rfl rfl
    | str b => rw [DV] at hy; subst hy; exact eqAt_V rx ry rfl rfl
    | tup b =>
      rw [DV] at hy
      obtain ⟨p, ys, rfl, hp, _⟩ := hy
      cases rx; cases ry
      obtain ⟨its, _, pt, _⟩ := I.tuple hp
      exact SeqAt.EqAt.none_tuple (show s.heap.IsTuple p its.toArray from pt) (by omega)
  | .bl a, e, A, x, y, u, v, rx, ry, hx, hy, hu => by
    rw [DV] at hx; subst hx
    cases e with
    | non => rw [DV] at hy; subst hy; exact eqAt_V rx ry rfl rfl
    | bl b => rw [DV] at hy; subst hy; exact eqAt_V rx ry rfl rfl
    | int b => rw [DV] at hy; subst hy; exact eqAt_V rx ry rfl rfl
    | str b => rw [DV] at hy; subst hy; exact eqAt_V rx ry rfl rfl
    | tup b =>
      rw [DV] at hy
      obtain ⟨p, ys, rfl, hp, _⟩ := hy
      cases rx; cases ry
      obtain ⟨its, _, pt, _⟩ := I.tuple hp
      exact SeqAt.EqAt.bool_tuple a (show s.heap.IsTuple p its.toArray from pt) (by omega)
  | .int a, e, A, x, y, u, v, rx, ry, hx, hy, hu => by
    rw [DV] at hx; subst hx
    cases e with
    | non => rw [DV] at hy; subst hy; exact eqAt_V rx ry rfl rfl
    | bl b => rw [DV] at hy; subst hy; exact eqAt_V rx ry rfl rfl
    | int b => rw [DV] at hy; subst hy; exact eqAt_V rx ry rfl rfl
    | str b => rw [DV] at hy; subst hy; exact eqAt_V rx ry rfl rfl
    | tup b =>
      rw [DV] at hy
      obtain ⟨p, ys, rfl, hp, _⟩ := hy
      obtain ⟨t, rfl⟩ := rx
      cases ry
      obtain ⟨its, _, pt, _⟩ := I.tuple hp
      exact SeqAt.EqAt.int_tuple a t (show s.heap.IsTuple p its.toArray from pt) (by omega)
  | .str a, e, A, x, y, u, v, rx, ry, hx, hy, hu => by
    rw [DV] at hx; subst hx
    cases e with
    | non => rw [DV] at hy; subst hy; exact eqAt_V rx ry rfl rfl
    | bl b => rw [DV] at hy; subst hy; exact eqAt_V rx ry rfl rfl
    | int b => rw [DV] at hy; subst hy; exact eqAt_V rx ry rfl rfl
    | str b => rw [DV] at hy; subst hy; exact eqAt_V rx ry rfl rfl
    | tup b =>
      rw [DV] at hy
      obtain ⟨p, ys, rfl, hp, _⟩ := hy
      obtain ⟨t, rfl⟩ := rx
      cases ry
      obtain ⟨its, _, pt, _⟩ := I.tuple hp
      exact SeqAt.EqAt.str_tuple a t (show s.heap.IsTuple p its.toArray from pt) (by omega)
  | .tup ds, e, A, x, y, u, v, rx, ry, hx, hy, hu => by
    rw [DV] at hx
    obtain ⟨a, xs, rfl, ha, hxs⟩ := hx
    cases rx
    obtain ⟨its, r1, pt, _⟩ := I.tuple ha
    have hu' : A.units + (D.depths ds + 1) < cLine := by rw [D.depth] at hu; exact hu
    cases e with
    | non => rw [DV] at hy; subst hy; cases ry; exact SeqAt.EqAt.tuple_none (show s.heap.IsTuple a its.toArray from pt) (by omega)
    | bl b => rw [DV] at hy; subst hy; cases ry; exact SeqAt.EqAt.tuple_bool b (show s.heap.IsTuple a its.toArray from pt) (by omega)
    | int b => rw [DV] at hy; subst hy; obtain ⟨t, rfl⟩ := ry; exact SeqAt.EqAt.tuple_int b t (show s.heap.IsTuple a its.toArray from pt) (by omega)
    | str b => rw [DV] at hy; subst hy; obtain ⟨t, rfl⟩ := ry; exact SeqAt.EqAt.tuple_str b t (show s.heap.IsTuple a its.toArray from pt) (by omega)
    | tup es =>
      rw [DV] at hy
      obtain ⟨b, ys, rfl, hb, hys⟩ := hy
      cases ry
      obtain ⟨its2, r2, pt2, _⟩ := I.tuple hb
      by_cases hab : a = b
      · subst hab
        have e1 := same_D I (.tup ds) (.tup es) (.ref a) (by rw [DV]; exact ⟨a, xs, rfl, ha, hxs⟩) (by rw [DV]; exact ⟨a, ys, rfl, hb, hys⟩)
        rw [e1]
        exact SeqAt.EqAt.same _
      · have key := SeqAt.RcAt.tuples (A := A) (e := fun j => D.eq (ds.getD j .non) (es.getD j .non)) (show s.heap.IsTuple a its.toArray from pt) (show s.heap.IsTuple b its2.toArray from pt2) (by omega) fun j h1 h2 => ?_
        · have l1 := hxs.length
          have l2 := hys.length
          have l3 := r1.length
          have l4 := r2.length
          refine SeqAt.EqAt.of_refs hab ?_
          rw [D.eq, eqs_all]
          rw [List.size_toArray, List.size_toArray, ← l3, ← l4, ← l1, ← l2] at key
          exact key
        · exact eqsAt_D I ds es A.in1 xs ys its its2 r1 r2 hxs hys (by rw [units_in1]; omega) j (by simpa using h1) (by simpa using h2)
theorem eqsAt_D (I : Inv X pins σ H s) : ∀ (ds es : List D) (A : Around) (xs ys : List V) (us vs : List Value), Vals xs us → Vals ys vs → DVs X.K H ds xs → DVs X.K H es ys → A.units + D.depths ds < cLine →
    ∀ j (h1 : j < us.length) (h2 : j < vs.length), SeqAt.EqAt A s us[j] vs[j] (D.eq (ds.getD j .non) (es.getD j .non))
  | [], _, _, xs, _, us, _, r1, _, hx, _, _ => fun j h1 _ => by
    rw [DVs] at hx; subst hx
    cases r1
    simp at h1
  | d :: ds, [], _, _, ys, _, vs, _, r2, _, hy, _ => fun j _ h2 => by
    rw [DVs] at hy; subst hy
    cases r2
    simp at h2
  | d :: ds, e :: es, A, xs, ys, us, vs, r1, r2, hx, hy, hu => fun j h1 h2 => by
    rw [DVs] at hx hy
    obtain ⟨x, xr, rfl, hx1, hx2⟩ := hx
    obtain ⟨y, yr, rfl, hy1, hy2⟩ := hy
    rw [D.depths] at hu
    cases r1 with
    | cons q1 t1 =>
      cases r2 with
      | cons q2 t2 =>
        cases j with
        | zero => exact eqAt_D I d e A x y _ _ q1 q2 hx1 hy1 (by omega)
        | succ j => exact eqsAt_D I ds es A xr yr _ _ t1 t2 hx2 hy2 (by omega) j (by simpa using h1) (by simpa using h2)
end
end
end L2

namespace L2
open PySem PySem.Spec PyProof.Rows
section
variable {X : Cx}
/-- == and != of two tuples of data, of two lists of data -/
def rEqT (K : PySem.W.Frag) (neg : Bool) : R2 := fun x y H Q => ∃ ds es, DV K H (.tup ds) x ∧ DV K H (.tup es) y ∧ D.depths ds ≤ 40 ∧ Q (.bl (if neg then !D.eqs ds es else D.eqs ds es)) H
theorem op_eqT (hu : X.A.units + 64 < cLine) : OpR X (compareOp .Eq) (rEqT X.K false) := by
  intro pins s σ H x y v u Q I rx ry h
  obtain ⟨ds, es, hx, hy, hd, q⟩ := h
  rw [DV] at hx hy
  obtain ⟨a, xs, rfl, ha, hxs⟩ := hx
  obtain ⟨b, ys, rfl, hb, hys⟩ := hy
  cases rx; cases ry
  obtain ⟨its, r1, pt, _⟩ := I.tuple ha
  obtain ⟨its2, r2, pt2, _⟩ := I.tuple hb
  refine SeqAt.eq_tupleAt (e := fun j => D.eq (ds.getD j .non) (es.getD j .non)) (show s.heap.IsTuple a its.toArray from pt) (show s.heap.IsTuple b its2.toArray from pt2) (by omega) (fun j h1 h2 => ?_) ⟨.bl _, H, I, rfl, ?_⟩
  · exact eqsAt_D I ds es X.A.in1 xs ys its its2 r1 r2 hxs hys (by rw [units_in1]; omega) j (by simpa using h1) (by simpa using h2)
  · rw [List.size_toArray, List.size_toArray, ← r1.length, ← r2.length, ← hxs.length, ← hys.length, ← eqs_all]
    exact q
theorem op_neT (hu : X.A.units + 64 < cLine) : OpR X (compareOp .NotEq) (rEqT X.K true) := by
  intro pins s σ H x y v u Q I rx ry h
  obtain ⟨ds, es, hx, hy, hd, q⟩ := h
  rw [DV] at hx hy
  obtain ⟨a, xs, rfl, ha, hxs⟩ := hx
  obtain ⟨b, ys, rfl, hb, hys⟩ := hy
  cases rx; cases ry
  obtain ⟨its, r1, pt, _⟩ := I.tuple ha
  obtain ⟨its2, r2, pt2, _⟩ := I.tuple hb
  refine SeqAt.RcNeAt.tuples (e := fun j => D.eq (ds.getD j .non) (es.getD j .non)) (show s.heap.IsTuple a its.toArray from pt) (show s.heap.IsTuple b its2.toArray from pt2) (by omega) (fun j h1 h2 => ?_) X.prog X.w X.xe _ ⟨.bl _, H, I, rfl, ?_⟩
  · exact eqsAt_D I ds es X.A.in1 xs ys its its2 r1 r2 hxs hys (by rw [units_in1]; omega) j (by simpa using h1) (by simpa using h2)
  · rw [List.size_toArray, List.size_toArray, ← r1.length, ← r2.length, ← hxs.length, ← hys.length, ← eqs_all]
    exact q
def rEqL (K : PySem.W.Frag) (neg : Bool) : R2 := fun x y H Q => ∃ a b xs ys ds es, x = .ref a ∧ y = .ref b ∧ SqL K H a xs ∧ SqL K H b ys ∧ DVs K H ds xs ∧ DVs K H es ys ∧ D.depths ds ≤ 40 ∧ Q (.bl (if neg then !D.eqs ds es else D.eqs ds es)) H
theorem eqs_len : ∀ {xs ys : List D}, xs.length ≠ ys.length → D.eqs xs ys = false
  | [], [], h => absurd rfl h
  | [], _ :: _, _ => rfl
  | _ :: _, [], _ => rfl
  | x :: xs, y :: ys, h => by rw [D.eqs, eqs_len (fun z => h (by simp [z])), Bool.and_false]
theorem op_eqL (hu : X.A.units + 64 < cLine) : OpR X (compareOp .Eq) (rEqL X.K false) := by
  intro pins s σ H x y v u Q I rx ry h
  obtain ⟨a, b, xs, ys, ds, es, rfl, rfl, ha, hb, hxs, hys, hd, q⟩ := h
  cases rx; cases ry
  obtain ⟨its, r1, pt, _⟩ := I.list ha
  obtain ⟨its2, r2, pt2, _⟩ := I.list hb
  by_cases hl : its.length = its2.length
  · refine SeqAt.eq_listAt (e := fun j => D.eq (ds.getD j .non) (es.getD j .non)) pt.isList pt2.isList (by simp [hl]) (by omega) (fun j h1 h2 => ?_) ⟨.bl _, H, I, rfl, ?_⟩
    · exact eqsAt_D I ds es X.A.in1 xs ys its its2 r1 r2 hxs hys (by rw [units_in1]; omega) j (by simpa using h1) (by simpa using h2)
    · have e := eqs_all ds es
      have l1 := hxs.length; have l2 := hys.length; have l3 := r1.length; have l4 := r2.length
      rw [show min ds.length es.length = its.toArray.size by rw [List.size_toArray]; omega, show (ds.length == es.length) = true by rw [beq_iff_eq]; omega, Bool.and_true] at e
      rw [← e]
      exact q
  · refine SeqAt.eq_list_lengthsAt pt.isList pt2.isList (by simp [hl]) (by omega) ⟨.bl _, H, I, rfl, ?_⟩
    have e : D.eqs ds es = false := eqs_len (by have l1 := hxs.length; have l2 := hys.length; have l3 := r1.length; have l4 := r2.length; omega)
    simp only [Bool.false_eq_true, if_false] at q
    rw [e] at q
    exact q
theorem op_neL (hu : X.A.units + 64 < cLine) : OpR X (compareOp .NotEq) (rEqL X.K true) := by
  intro pins s σ H x y v u Q I rx ry h
  obtain ⟨a, b, xs, ys, ds, es, rfl, rfl, ha, hb, hxs, hys, hd, q⟩ := h
  cases rx; cases ry
  obtain ⟨its, r1, pt, _⟩ := I.list ha
  obtain ⟨its2, r2, pt2, _⟩ := I.list hb
  by_cases hl : its.length = its2.length
  · refine SeqAt.RcNeAt.lists (e := fun j => D.eq (ds.getD j .non) (es.getD j .non)) pt.isList pt2.isList (by simp [hl]) (by omega) (fun j h1 h2 => ?_) X.prog X.w X.xe _ ⟨.bl _, H, I, rfl, ?_⟩
    · exact eqsAt_D I ds es X.A.in1 xs ys its its2 r1 r2 hxs hys (by rw [units_in1]; omega) j (by simpa using h1) (by simpa using h2)
    · have e := eqs_all ds es
      have l1 := hxs.length; have l2 := hys.length; have l3 := r1.length; have l4 := r2.length
      rw [show min ds.length es.length = its.toArray.size by rw [List.size_toArray]; omega, show (ds.length == es.length) = true by rw [beq_iff_eq]; omega, Bool.and_true] at e
      rw [← e]
      exact q
  · refine SeqAt.RcNeAt.lists_lengths pt.isList pt2.isList (by simp [hl]) (by omega) X.prog X.w X.xe _ ⟨.bl _, H, I, rfl, ?_⟩
    have e : D.eqs ds es = false := eqs_len (by have l1 := hxs.length; have l2 := hys.length; have l3 := r1.length; have l4 := r2.length; omega)
    simp only [if_true] at q
    rw [e] at q
    exact q

/-! ### built-in calls -/
/-- sum of a list of ints -/
theorem call_sumL (hc : X.calm = true) : CallR X (.builtin "sum") (fun xs H Q => ∃ (p : Addr) (ns : List Int), xs = [.ref p] ∧ SqL X.K H p (ns.map V.int) ∧ Q (.int ns.sum) H) := by
  intro pins s σ H xs us Q I r h
  obtain ⟨p, ns, rfl, hq, q⟩ := h
  obtain ⟨u, rfl, rx⟩ := vals1 r
  cases rx
  obtain ⟨its, r', pl, hz⟩ := I.list hq
  have hi := intsAre_of r'
  obtain ⟨xs, e⟩ := hi.allInts.items
  have hl := pl.isList
  rw [e] at hl
  refine sum_intListG (I.ok.hd hc) hl fun h' tk t' hk => ⟨.int ns.sum, H, I.kept hk, ⟨t', ?_⟩, q⟩
  have e2 := nums_intItems xs
  rw [← e, show its.toArray.toList = its from rfl, hi.numsOf] at e2
  rw [preSum_eq, List.take_of_length_le (by simp), ← e2]
/-- isinstance(x, C) for one class -/
theorem call_isinst : CallR X (.builtin "isinstance") (fun xs H Q => ∃ x c cv t b, xs = [x, c] ∧ (∀ u, RelV c u → u = cv) ∧ TyOf X.K H x t ∧ PySem.W.kitOne X.K t cv = some b ∧ Q (.bl b) H) := by
  intro pins s σ H xs us Q I r h
  obtain ⟨x, c, cv, t, b, rfl, rc, ty, e, q⟩ := h
  obtain ⟨u, v, rfl, rx, rv⟩ := vals2 r
  have e2 := rc v rv
  subst e2
  exact isinst_ok I rx ty e fun tk => ⟨.bl b, H, I.tok _, rfl, q⟩
end
end L2

set_option Elab.async false
set_option linter.all false
set_option maxRecDepth 100000
namespace L2
open PySem PySem.Spec PyProof.Rows

/-! ### an exception on its way: what is written where a frame is noted -/
/-- what stands behind the noting of a frame: fl is the mark that the newest entry bears -/
structure Noted (F : List Addr) (e : Addr) (oe : Obj) (vs : Array Value) (hd : Value) (h h' : Heap) (T' : Addr) (fl : Value) : Prop where
  keep : ∀ b o, h.get? b = some o → b ≠ e → hd ≠ .ref b → b ∉ F → h'.get? b = some o
  slot : ∀ b o, h.get? b = some o → b ∈ F → ∃ sl, h'.get? b = some { o with slots := sl }
  exc : h'.get? e = some { oe with data := .fields (vs.setIfInBounds 1 (.ref T')) }
  new : h.objs.size ≤ T'
  ent : ∃ oT ts, h'.get? T' = some oT ∧ oT.data = .fields ts ∧ ts[3]? = some fl

theorem mapF {o : Obj} {vs : Array Value} (hd : o.data = .fields vs) (f : Array Value → Array Value) : Obj.mapFields f o = { o with data := .fields (f vs) } := by
  obtain ⟨a, b, c, d⟩ := o
  subst hd
  rfl

section
variable {M : Model} {A : Around} {E : Value → Shared → Prop} {s : Shared} {base : Heap} {env : Env} {outer : List Env} {L e : Addr} {oe : Obj} {vs : Array Value} {hd : Value}
/-- the new entry is made and put at the exception's head -/
theorem entry_full {hn : Bool} {Q : Unit → Shared → Prop} (hfr : A.frames = some (env :: outer)) (hl : s.heap.FunFrames base (env :: outer)) (hf : env.frame = some L) (he : s.heap.get? e = some oe) (hdt : oe.data = .fields vs) (h1 : 1 < vs.size) (nf : e ∉ frs (env :: outer))
    (h : ∀ h' T', Noted (frs (env :: outer)) e oe vs .none s.heap h' T' (rawInt L) → Q () { s with heap := h' }) :
    wpAny M A (do setField (.ref e) 1 (← EntryCells.newEntry hd (← frameOf env) .none (rawInt L) .none (← entryPlaceOf L hn))) Q E s := by
  refine wpAny_bind (wpAny_frameOf_fun hfr hl hf fun g gs => wpAny_bind (wpAny_entryPlaceOf fun pl ok => ?_))
  unfold EntryCells.newEntry newFields
  refine wpAny_bind (wpAny_newObj_type ?_ (ok.sizeOk5 _ _ _ _ _))
  have sz : g.objs.size = s.heap.objs.size := gs.1
  have ge : g.get? e = some oe := (gs.2.1 e nf).trans he
  have pe := Heap.get?_push_of_some (h := g) { cls := .type "traceback", dict := none, data := .fields ([hd, .ref L, .none, rawInt L, .none] ++ (if pl.isEmpty then List.replicate 6 Value.none else pl)).toArray } ge
  refine wpAny_setField pe hdt h1 (h _ g.objs.size ⟨fun b o eb n1 _ n3 => ?_, fun b o eb hb => ?_, ?_, Nat.le_of_eq sz.symm, ?_⟩)
  · rw [Heap.get?_update_other _ _ (Ne.symm n1)]
    exact Heap.get?_push_of_some _ ((gs.2.1 b n3).trans eb)
  · obtain ⟨sl, q⟩ := gs.2.2 b o eb
    refine ⟨sl, ?_⟩
    rw [Heap.get?_update_other _ _ (fun z : e = b => nf (z.symm ▸ hb))]
    exact Heap.get?_push_of_some _ q
  · rw [Heap.get?_update_self _ pe (by rw [mapF hdt]; exact Obj.isFreed_of_fields rfl), mapF hdt]
  · have ne : e ≠ g.objs.size := Nat.ne_of_lt (Heap.lt_size ge)
    refine ⟨_, _, by rw [Heap.get?_update_other _ _ ne]; exact Heap.get?_push_size g rfl, rfl, ?_⟩
    simp

/-- the frame is noted: the exception is new, or it comes from a callee -/
theorem note_full {Q : Unit → Shared → Prop} (hfr : A.frames = some (env :: outer)) (hl : s.heap.FunFrames base (env :: outer)) (hf : env.frame = some L) (he : s.heap.get? e = some oe) (hdt : oe.data = .fields vs) (h1 : vs[1]? = some hd) (nf : e ∉ frs (env :: outer))
    (hh : hd = .none ∨ ∃ T oT ts, hd = .ref T ∧ T ≠ e ∧ T ∉ frs (env :: outer) ∧ s.heap.get? T = some oT ∧ oT.data = .fields ts ∧ ts[3]? = some .none)
    (h : ∀ h' T', Noted (frs (env :: outer)) e oe vs hd s.heap h' T' (rawInt L) → Q () { s with heap := h' }) : wpAny M A (noteFrame (.ref e) env) Q E s := by
  have sz1 := (Array.getElem?_eq_some_iff.mp h1).1
  unfold noteFrame
  simp only [hf]
  refine wpAny_bind (wpAny_field he hdt h1 ?_)
  rcases hh with z | ⟨T, oT, ts, z, ne, nF, eT, dT, t3⟩
  · subst z
    rw [if_neg (by decide)]
    exact entry_full hfr hl hf he hdt sz1 nf h
  · subst z
    rw [if_pos (show (Value.ref T != Value.none) = true from by simp)]
    refine wpAny_bind (wpAny_field eT dT t3 ?_)
    rw [if_neg (show ¬ ((Value.none == rawInt L) = true) from by simp [rawInt])]
    refine wpAny_bind (wpAny_setField eT dT (Array.getElem?_eq_some_iff.mp t3).1 ?_)
    have oth : ∀ b, b ≠ T → (s.heap.update T (Obj.mapFields (·.setIfInBounds 3 Value.none))).get? b = s.heap.get? b := fun b hb => Heap.get?_update_other _ _ (Ne.symm hb)
    have szT : (s.heap.update T (Obj.mapFields (·.setIfInBounds 3 Value.none))).objs.size = s.heap.objs.size := by simp [Heap.update]
    have fl : (s.heap.update T (Obj.mapFields (·.setIfInBounds 3 Value.none))).FunFrames base (env :: outer) := hl.of_keeps fun b o eb nfb => ⟨o, (oth b (fun q => by rw [q, eT] at eb; cases eb; exact nfb ts dT)).trans eb, rfl⟩
    refine entry_full (s := { s with heap := s.heap.update T (Obj.mapFields (·.setIfInBounds 3 Value.none)) }) hfr fl hf ((oth e (Ne.symm ne)).trans he) hdt sz1 nf fun h' T' N => h h' T' ⟨fun b o eb n1 n2 n3 => ?_, fun b o eb hb => ?_, N.exc, by have := N.new; rw [szT] at this; exact this, N.ent⟩
    · exact N.keep b o ((oth b (fun q => n2 (by rw [q]))).trans eb) n1 (fun q => by cases q) n3
    · exact N.slot b o ((oth b (fun q => nF (q ▸ hb))).trans eb) hb

/-- the mark is taken away -/
theorem flight_full {h0 : Heap} {F : List Addr} {T' : Addr} {fl : Value} {Q : Unit → Shared → Prop} (h1 : 1 < vs.size) (lt : e < h0.objs.size) (N : Noted F e oe vs hd h0 s.heap T' fl) (hF : ∀ b ∈ F, b < h0.objs.size) (h : ∀ h', Noted F e oe vs hd h0 h' T' .none → Q () { s with heap := h' }) : wpAny M A (setFlight (.ref e) none) Q E s := by
  obtain ⟨oT, ts, eT, dT, t3⟩ := N.ent
  have sz3 := (Array.getElem?_eq_some_iff.mp t3).1
  unfold setFlight
  refine wpAny_bind (wpAny_field N.exc rfl (x := .ref T') (by simp [h1]) ?_)
  rw [if_pos (show (Value.ref T' != Value.none) = true from by simp)]
  have oth : ∀ b, b < h0.objs.size → (s.heap.update T' (Obj.mapFields (·.setIfInBounds 3 ((none : Option Addr).elim Value.none fun f => rawInt f)))).get? b = s.heap.get? b := fun b hb => Heap.get?_update_other _ _ (Nat.ne_of_gt (Nat.lt_of_lt_of_le hb N.new))
  refine wpAny_setField eT dT sz3 (h _ ⟨fun b o eb n1 n2 n3 => (oth b (Heap.lt_size eb)).trans (N.keep b o eb n1 n2 n3), fun b o eb hb => ?_, (oth e lt).trans N.exc, N.new, ?_⟩)
  · obtain ⟨sl, q⟩ := N.slot b o eb hb
    exact ⟨sl, (oth b (hF b hb)).trans q⟩
  · refine ⟨_, _, Heap.get?_update_self _ eT (by rw [mapF dT]; exact Obj.isFreed_of_fields rfl), by rw [mapF dT], ?_⟩
    simp [sz3]
end

/-- an exception in flight (or landed); it was not there in the heap n -/
structure Flw (H : Hp) (n : Heap) (h : Heap) (e : Addr) (oc : Value) (od : Option Addr) (fresh : Bool) : Prop where
  un : H e = none
  yn : n.get? e = none
  ob : ∃ oe vs hd, h.get? e = some oe ∧ oe.cls = oc ∧ oe.dict = od ∧ oe.data = .fields vs ∧ vs[1]? = some hd ∧
    (if fresh = true then hd = .none else ∃ T oT ts, hd = .ref T ∧ T ≠ e ∧ H T = none ∧ n.get? T = none ∧ h.get? T = some oT ∧ oT.data = .fields ts ∧ ts[3]? = some .none)

/-- how an exception lies behind a call -/
def CX1 (P : Program) (w : World) : CXT := fun outer H s E e s' => ∃ ea H' oc od, e = .ref ea ∧ s'.os = s.os ∧ AllBare s'.gens ∧ Un (frs outer) [] H H' s.heap s'.heap ∧ HOk P w H' s'.heap ∧ Flw H' s.heap s'.heap ea oc od false ∧ E oc od H'

section
variable {X : Cx} {pins : List (Addr × Obj)} {σ : St} {H : Hp} {s : Shared}
theorem Inv.frmLt (I : Inv X pins σ H s) : ∀ b ∈ frs X.stack, b < s.heap.objs.size := fun b hb => by
  rcases List.mem_cons.mp (I.stkSub b hb) with q | q
  · rw [q]; exact I.lt
  · obtain ⟨_, o, e, _⟩ := I.ok.funs.mem q
    exact Nat.lt_of_lt_of_le (Heap.lt_size e) I.sz
theorem frm_fields (I : Inv X pins σ H s) {b : Addr} {o : Obj} {vs : Array Value} (e : s.heap.get? b = some o) (d : o.data = .fields vs) : b ∉ frs X.stack := fun hb => by
  obtain ⟨_, o', e', n⟩ := I.stack.mem hb
  rw [e] at e'; cases e'
  exact n vs d
/-- noted in this frame, the mark taken away: the exception lands here or leaves -/
theorem land {env : Env} {outer : List Env} {L e : Addr} {oc : Value} {od : Option Addr} {n : Heap} {fr : Bool} {E : Value → Shared → Prop} {Q : Unit → Shared → Prop} (I : Inv X pins σ H s) (hle : ∀ b o, n.get? b = some o → ∃ o', s.heap.get? b = some o') (hst : X.stack = env :: outer) (hf : env.frame = some L) (F : Flw H n s.heap e oc od fr)
    (h : ∀ h', (∀ b o, s.heap.get? b = some o → n.get? b ≠ none → b ∉ frs X.stack → h'.get? b = some o) → (∀ b o, s.heap.get? b = some o → b ∈ frs X.stack → ∃ sl, h'.get? b = some { o with slots := sl }) → (∀ b u o, H b = some u → s.heap.get? b = some o → h'.get? b = some o) →
      (∀ b o, s.heap.get? b = some o → (∀ vs, o.data ≠ .fields vs) → b ∉ frs X.stack → h'.get? b = some o) → (∀ p ∈ X.pn ++ pins, n.get? p.1 ≠ none → h'.get? p.1 = some p.2) → Flw H n h' e oc od false → Q () { s with heap := h' }) :
    wpAny (model X.prog X.w) X.A (noteFrame (.ref e) env) (fun _ s1 => wpAny (model X.prog X.w) X.A (setFlight (.ref e) none) Q E s1) E s := by
  obtain ⟨oe, vs, hd, ge, c, d, dt, h1, hh⟩ := F.ob
  have hfr : X.A.frames = some (env :: outer) := by rw [← hst]; exact I.ok.frames
  have ffr := I.stack
  rw [hst] at ffr
  have nf : e ∉ frs (env :: outer) := by rw [← hst]; exact frm_fields I ge dt
  have sz1 := (Array.getElem?_eq_some_iff.mp h1).1
  have lt := Heap.lt_size ge
  have hF : ∀ b ∈ frs (env :: outer), b < s.heap.objs.size := by rw [← hst]; exact I.frmLt
  refine note_full hfr ffr hf ge dt h1 nf ?_ fun g T' N => ?_
  · cases fr with
    | true => exact .inl hh
    | false =>
      obtain ⟨T, oT, ts, z, ne, hT, _, eT, dT, t3⟩ := hh
      exact .inr ⟨T, oT, ts, z, ne, by rw [← hst]; exact frm_fields I eT dT, eT, dT, t3⟩
  · refine flight_full (s := { s with heap := g }) sz1 lt N hF fun g' N' => ?_
    have nh : ∀ b, H b ≠ none → hd ≠ .ref b := fun b hb z => by
      cases fr with
      | true => rw [show hd = .none from hh] at z; cases z
      | false =>
        obtain ⟨T, oT, ts, z', _, hT, _⟩ := hh
        rw [z'] at z; cases z
        exact hb hT
    have nl : ∀ b, n.get? b ≠ none → hd ≠ .ref b := fun b hb z => by
      cases fr with
      | true => rw [show hd = .none from hh] at z; cases z
      | false =>
        obtain ⟨T, oT, ts, z', _, _, hT, _⟩ := hh
        rw [z'] at z; cases z
        exact hb hT
    have nd : ∀ b o, s.heap.get? b = some o → (∀ vs, o.data ≠ .fields vs) → hd ≠ .ref b := fun b o eb hb z => by
      cases fr with
      | true => rw [show hd = .none from hh] at z; cases z
      | false =>
        obtain ⟨T, oT, ts, z', _, _, _, eT, dT, _⟩ := hh
        rw [z'] at z; cases z
        rw [eT] at eb; cases eb
        exact hb ts dT
    have yn := F.yn
    refine h g' (fun b o eb hb hn => N'.keep b o eb (fun z => hb (by rw [z]; exact yn)) (nl b hb) (by rw [← hst]; exact hn)) (fun b o eb hb => N'.slot b o eb (by rw [← hst]; exact hb)) (fun b u o hb eb => N'.keep b o eb (fun z => by rw [z, F.un] at hb; cases hb) (nh b (by rw [hb]; simp)) ?_)
      (fun b o eb hb hn => N'.keep b o eb (fun z => by rw [z, ge] at eb; cases eb; exact hb vs dt) (nd b o eb hb) (by rw [← hst]; exact hn)) (fun p hp lt => ?_) ⟨F.un, F.yn, _, _, _, N'.exc, c, d, rfl, (by simp [sz1]; rfl), ?_⟩
    · intro z
      have z2 := I.stkFree b (by rw [hst]; exact z)
      rw [z2] at hb; cases hb
    · obtain ⟨q1, q2, q3, q4, q5⟩ := I.pin p hp
      refine N'.keep p.1 p.2 q1 (fun z => lt (by rw [z]; exact yn)) (nl p.1 lt) fun z => ?_
      rcases List.mem_cons.mp (I.stkSub p.1 (by rw [hst]; exact z)) with y | y
      · exact q3 y
      · exact q4 y
    · obtain ⟨oT, ts, eT, dT, t3⟩ := N'.ent
      have hn : s.heap.objs.size ≤ T' := N'.new
      refine ⟨T', oT, ts, rfl, Nat.ne_of_gt (Nat.lt_of_lt_of_le lt hn), I.hok.fresh hn, ?_, eT, dT, t3⟩
      cases z : n.get? T' with
      | none => rfl
      | some o =>
        obtain ⟨o', e'⟩ := hle T' o z
        exact absurd (Nat.lt_of_lt_of_le (Heap.lt_size e') hn) (Nat.lt_irrefl _)
end
end L2

namespace L2
open PySem PySem.Spec PyProof.Rows
theorem Flw.mono {H : Hp} {m n : Heap} {h : Heap} {e : Addr} {oc : Value} {od : Option Addr} {fr : Bool} (F : Flw H n h e oc od fr) (le : ∀ b, n.get? b = none → m.get? b = none) : Flw H m h e oc od fr := by
  obtain ⟨a, b, oe, vs, hd, e1, e2, e3, e4, e5, e6⟩ := F
  refine ⟨a, le _ b, oe, vs, hd, e1, e2, e3, e4, e5, ?_⟩
  cases fr with
  | true => exact e6
  | false =>
    obtain ⟨T, oT, ts, q1, q2, q3, q4, q5⟩ := e6
    exact ⟨T, oT, ts, q1, q2, q3, le _ q4, q5⟩
section
variable {P : Program} {w : World} {K : PySem.W.Frag} {mg : Str → Option Value} {base : Heap} {N : List Str} {qual : Str} {scope : Scope} {f : Addr} {cd : Value} {A : Around} {outer : List Env} {s : Shared} {H : Hp} {E : XK}
/-- an exception leaves a def's body -/
theorem leave1 {pins : List (Addr × Obj)} {σ : St} {H' : Hp} {s' : Shared} {n : Heap} {e : Addr} {oc : Value} {od : Option Addr} {fr : Bool} (I : Inv (cxOf (CX1 P w) P w K mg base N qual scope f cd A outer s H E) pins σ H' s')
    (F : Flw H' n s'.heap e oc od fr) (le : ∀ b, n.get? b = none → s.heap.get? b = none) (hle : ∀ b o, n.get? b = some o → ∃ o', s'.heap.get? b = some o') (q : E oc od H') : (cxOf (CX1 P w) P w K mg base N qual scope f cd A outer s H E).xe (.ref e) s' := by
  show wpAny (model P w) (A.deeper (envOfC qual scope s.heap.objs.size f cd)) (leaving (envOfC qual scope s.heap.objs.size f cd) (.ref e)) _ _ s'
  unfold leaving
  have hfs : ∀ b, b ∈ frs (envOfC qual scope s.heap.objs.size f cd :: outer) → b = s.heap.objs.size ∨ b ∈ frs outer := fun b hb => List.mem_cons.mp hb
  refine wpAny_bind (land (X := cxOf (CX1 P w) P w K mg base N qual scope f cd A outer s H E) I hle rfl rfl F fun h' k1 k2 k3 k4 k5 F' => ?_)
  have nfr : ∀ b, b < s.heap.objs.size → b ∉ frs outer → b ∉ frs (envOfC qual scope s.heap.objs.size f cd :: outer) := fun b hb hn z => by
    rcases hfs b z with y | y
    · exact absurd hb (by rw [y]; exact Nat.lt_irrefl _)
    · exact hn y
  have B := I.base
  refine ⟨e, H', oc, od, rfl, I.os, I.bare, ⟨fun b o eb n hb hx => ?_, fun b o eb n hb hx => ?_, fun b o eb n hx => B.free b o eb n hx, fun b o eb hx => ?_, B.tups, B.frzs, B.tbls⟩, fun b u eb => ?_, F'.mono le, q⟩
  · exact k1 b o (B.keep b o eb n hb hx) (fun z => by rw [le b z] at eb; cases eb) (nfr b (Heap.lt_size eb) hb)
  · obtain ⟨sl, e1⟩ := B.slot b o eb n hb hx
    obtain ⟨sl', e2⟩ := k2 b _ e1 (List.mem_cons_of_mem _ hb)
    exact ⟨sl', e2⟩
  · obtain ⟨o', e1⟩ := B.there b o eb hx
    by_cases hb : b ∈ frs outer
    · obtain ⟨sl', e2⟩ := k2 b _ e1 (List.mem_cons_of_mem _ hb)
      exact ⟨_, e2⟩
    · exact ⟨o', k1 b o' e1 (fun z => by rw [le b z] at eb; cases eb) (nfr b (Heap.lt_size eb) hb)⟩
  · refine (I.hok b u eb).stay (fun c v hc r => ?_) (fun _ r => r) fun _ _ r => r
    rcases hc with rfl | hc
    · exact k3 c _ v eb r
    · exact k3 c _ v hc r
/-- a callee's exception goes on -/
theorem passes1 {E1 : XK} (h : ∀ oc od H', E1 oc od H' → E oc od H') : Passes (CX1 P w) (cxOf (CX1 P w) P w K mg base N qual scope f cd A outer s H E) E1 := by
  intro pins σ H1 s1 e s' I hx
  obtain ⟨ea, H', oc, od, rfl, os, bare, un, hok, F, q⟩ := hx
  refine leave1 (I.call' (ch := []) os un hok bare fun b z => absurd z (by simp)) F (fun b z => ?_) (fun b o z => un.there b o z (by simp)) (h _ _ _ q)
  cases y : s.heap.get? b with
  | none => rfl
  | some o =>
    obtain ⟨o', e'⟩ := I.base.there b o y (by simp [cxOf])
    rw [z] at e'; cases e'
end
end L2

namespace L2
open PySem PySem.Spec PyProof.Rows
theorem obj_at {P : Program} {w : World} {H : Hp} {h : Heap} {a : Addr} {o : HO} (x : ObjOk P w H h a o) : ∃ ob, h.get? a = some ob := by
  cases o with
  | lst xs => obtain ⟨_, _, _, _, e⟩ := x; exact ⟨_, e⟩
  | tup xs => obtain ⟨_, _, _, ob, e, _⟩ := x; exact ⟨_, e⟩
  | dK kvs => obtain ⟨_, _, _, _, o, _, _, e, _⟩ := x; exact ⟨_, e⟩
  | dT kvs => obtain ⟨_, _, _, _, o, _, _, e, _⟩ := x; exact ⟨_, e⟩
  | set S n => obtain ⟨o, _, _, _, e, _⟩ := x; exact ⟨_, e⟩
  | ins C dx fs => obtain ⟨_, _, _, e, _⟩ := x; exact ⟨_, e⟩
  | own y => exact x
  | xd fs => obtain ⟨_, ⟨_, _, _, e, _⟩, _⟩ := x; exact ⟨_, e⟩
  | rng lo hi => obtain ⟨_, _, _, e⟩ := x; exact ⟨_, e⟩
  | frz ob u => obtain ⟨e, _⟩ := x; exact ⟨_, e⟩
  | tbl ps => exact ⟨_, x⟩
  | met f y => exact ⟨_, x⟩
  | ext φ => obtain ⟨_, e, _⟩ := x; exact e
/-- an exception class of the text (no __init__ of its own on the way up), as it stands in any heap that bears the text -/
theorem exc_obj {K : PySem.W.Frag} {h : Heap} {C : Addr} {bmB : List Value} {newId : String} (KX : K.In h) (q : PySem.W.excIn K C bmB newId = true) :
    ∃ bm N nm qn bs hdct sn sub ab col dd k0 k1 k2 k3 k5 mN, h.get? C = some (excClassObj nm qn C N bs bm hdct sn sub ab col dd k0 k1 k2 k3 k5 newId) ∧ h.Ns N mN ∧ mN "__init__" = none ∧ OwnTail h bmB bm := by
  unfold PySem.W.excIn at q
  split at q
  · rename_i dd cls slots there
    split at q
    · rename_i C' up a0 a1 a2 a3 made a5 hmro hsl
      simp only [Bool.and_eq_true, beq_iff_eq, Bool.not_eq_true'] at q
      obtain ⟨⟨⟨⟨⟨y1, y2⟩, y3⟩, y4⟩, y5⟩, y6⟩ := q
      subst y1 y2
      obtain ⟨c1, c2, c3, c4, c5, c6, c7, c8, c9, c10, c11⟩ := cls
      dsimp only at hmro y3 y5 y6
      subst hmro y3
      have z : slots = #[a0, a1, a2, a3, some (.builtin made), a5] := by
        obtain ⟨l⟩ := slots
        dsimp only at hsl
        rw [hsl]
      subst z
      refine ⟨up, c4, c1, c5, c2, c6, c7, c8, c9, c10, dd, a0, a1, a2, a3, a5, _, KX _ _ there, Heap.Ns.of_isNs (PySem.W.isNs_of_in KX y5), ?_, PySem.W.tail_of_in KX y4⟩
      exact PySem.W.nsMap_none_of_in KX y5 y6
    · cases q
  · cases q
section
variable {P : Program} {w : World} {K : PySem.W.Frag} {mg : Str → Option Value} {base : Heap} {N : List Str} {qual : Str} {scope : Scope} {f : Addr} {cd : Value} {A : Around} {outer : List Env} {s : Shared} {H : Hp} {E : XK}
/-- raise C(e): an exception class of the text without an __init__ of its own -/
def tRaise (E : XK) (C : Addr) (te : TE) : TS := fun _ σ H => te σ H fun _ H1 => E (.ref C) none H1
theorem ps_raise {x : Str} {C : Addr} {e0 : Expr} {te : TE} {np cpos pos : Pos} {B newId initId : String} {bmB : List Value} (hA : A.handled = none) (FB : ExcBaseFacts B newId initId bmB) (hC : PySem.W.excIn K C bmB newId = true) (hm : mg x = some (.ref C))
    (hg : Gl (cxOf (CX1 P w) P w K mg base N qual scope f cd A outer s H E) x) (he : PE (cxOf (CX1 P w) P w K mg base N qual scope f cd A outer s H E).nox e0 te)
    (hd : (x == ("__debug__" : Str)) = false := by decide) (hs : starEach [e0] (envOfC qual scope s.heap.objs.size f cd) = [(false, eval e0 (envOfC qual scope s.heap.objs.size f cd))] := by rfl) :
    PS (cxOf (CX1 P w) P w K mg base N qual scope f cd A outer s H E) (.Raise (some (.Call (.Name x np) [e0] [] cpos)) none pos) (tRaise E C te) := by
  intro pins s1 σ H1 Dn I h
  obtain ⟨bm, Ns, nm, qn, bs, hdct, sn, sub, ab, col, dd, k0, k1, k2, k3, k5, mN, hcl, hns, hni, tl⟩ := exc_obj I.ok.mod.kin hC
  refine wpAny_Raise_call_subT (C := C) (nm := nm) (q := qn) (N := Ns) (bs := bs) (bm := bm) (hdct := hdct) (sn := sn) (sub := sub) (ab := ab) (col := col) (dd := dd) (k0 := k0) (k1 := k1) (k2 := k2) (k3 := k3) (k5 := k5) FB (mN := mN) (tl.hasType FB.hasBase) hA
    (by show (backTo cpos (starEach [e0] (envOfC qual scope s.heap.objs.size f cd))).any (·.1) = false; rw [hs]; rfl) hni (ld_glob I hg hm ⟨rfl, ?_⟩ hd)
  show wpAny _ _ (evalArgs (Value.ref C) true (backTo cpos (starEach [e0] (envOfC qual scope s.heap.objs.size f cd))) []) _ _ _
  rw [hs]
  refine Calls.evalArgs_plain ?_
  refine Calls.spliced_cons (thn (PE.nox he pins s1 σ H1 _ I h) fun u s2 ⟨v, H2, I2, r2, q2⟩ => Calls.spliced_nil ⟨rfl, (by show 1 ≤ sizeLine; decide), I2.bk _ _ hcl, hns.keeps I2.bk, tl.keeps I2.bk, fun h' e hm' => ?_⟩)
  obtain ⟨t, et, _, _⟩ := hm'.there
  have I3 := I2.kept (h' := h') (t' := s2.toks) hm'.keeps
  have un : H2 e = none := by
    cases z : H2 e with
    | none => rfl
    | some u =>
      obtain ⟨ob, eo⟩ := obj_at (I2.hok e u z)
      have z2 := hm'.new
      rw [eo] at z2; cases z2
  refine leave1 (n := s2.heap) (fr := true) I3 ⟨un, hm'.new, _, _, _, et, rfl, rfl, rfl, rfl, rfl⟩ (fun b z => ?_) (fun b o z => ⟨o, hm'.keeps b o z⟩) q2
  cases y : s.heap.get? b with
  | none => rfl
  | some o =>
    obtain ⟨o', e'⟩ := I2.base.there b o y (by simp [cxOf])
    rw [z] at e'; cases e'
end
end L2

set_option Elab.async false
set_option linter.all false
set_option maxRecDepth 100000
namespace L2
open PySem PySem.Spec PyProof.Rows

/-! ### try: name = f(..) / except C as n: suite -/
/-- an exception has come out of a call -/
def XP (X : Cx) (pins : List (Addr × Obj)) (σ : St) (E : XK) (e : Value) (s' : Shared) : Prop := ∃ s0 H0, Inv X pins σ H0 s0 ∧ CX1 X.prog X.w X.stack H0 s0 E e s'
/-- an expression that may raise -/
def PX (X : Cx) (e : Expr) (t : St → Hp → VK → XK → Prop) : Prop :=
  ∀ (pins : List (Addr × Obj)) (s : Shared) (σ : St) (H : Hp) (Q : VK) (E : XK), Inv X pins σ H s → t σ H Q E → wpAny (model X.prog X.w) X.A (eval e X.env) (EP X pins σ Q) (XP X pins σ E) s
def tCallX (sp : Sp) (t : TA) : St → Hp → VK → XK → Prop := fun σ H Q E => t σ H fun vs H1 => sp vs H1 Q E

section
variable {X : Cx} {k : Nat} {f : Addr} {fd : FuncData} {ps : List Str} {sp : Sp} {x : Str} {p pos : Pos} {e : Expr} {es : List Expr} {t : TA}
theorem PA.nox {es : List Expr} {t : TA} (h : PA X.nox es t) {Er : Value → Shared → Prop} {pos : Pos} {pins : List (Addr × Obj)} {s : Shared} {σ : St} {H : Hp} {Q : List V → Hp → Prop} (I : Inv X pins σ H s) (q : t σ H Q) :
    wpAny (model X.prog X.w) X.A (spliced (backTo pos (starEach es X.env))) (AP X pins σ Q) Er s :=
  wpAny_mono (h pos pins s σ H Q (I.wish _) q) (fun _ _ ⟨vs, H', I', r, q⟩ => ⟨vs, H', I'.unwish, r, q⟩) fun _ _ z => False.elim z
theorem run_fnX {pins : List (Addr × Obj)} {σ : St} {H : Hp} {s : Shared} {Q : VK} {E : XK} {us : List Value} {vs : List V} (F : FnOk X.prog X.w X.K X.mg X.base (CX1 X.prog X.w) k f fd ps sp) (hr : Room k X.A) (hb : Binds X.K fd ps [])
    (I : Inv X pins σ H s) (r : Vals vs us) (h : sp vs H Q E) : wpAny (model X.prog X.w) X.A (call (.ref f) us) (EP X pins σ Q) (XP X pins σ E) s := by
  have hl : us.length = ps.length := by rw [← r.length]; exact F.len _ _ _ _ h
  have hb' := hb s us I.kIn (by simpa using hl)
  rw [List.append_nil] at hb'
  refine wpAny_call (codeAny_mono (F.run X.A X.stack s H ⟨us, []⟩ us vs Q E hr I.env0 hb' r h) fun r s' hq => ?_)
  cases r with
  | error e => exact ⟨s, H, I, hq⟩
  | ok fl =>
    cases fl with
    | ret u => exact I.after hq
    | next => exact False.elim hq
    | brk => exact False.elim hq
    | cont => exact False.elim hq
/-- f(..), f a def of the text -/
theorem px_call (F : FnOk X.prog X.w X.K X.mg X.base (CX1 X.prog X.w) k f fd ps sp) (hr : Room k X.A) (hg : Gl X x) (hm : X.mg x = some (.ref f)) (hk : PySem.W.keepIn X.K (.ref f) = true) (hb : Binds X.K fd ps [])
    (ha : PA X.nox (e :: es) t) (hdb : (x == ("__debug__" : Str)) = false := by decide) (he : starEach (e :: es) X.env = (false, eval e X.env) :: starEach es X.env := by rfl) (hpl : (backTo pos (starEach es X.env)).any (·.1) = false := by rfl) :
    PX X (.Call (.Name x p) (e :: es) [] pos) (tCallX sp t) := by
  intro pins s σ H Q E I h
  refine wpAny_Call_Name_kw (ld_glob I hg hm ?_ hdb)
  exact PySem.W.callWith_K (h₀ := X.base) I.ok.mod.kin hk (thn (PA.nox ha I h) fun us s1 ⟨vs, H1, I1, r, q⟩ => ⟨I1.kIn, run_fnX F hr hb I1 r q⟩) he hpl
/-- f(..), f in the i-th slot -/
def tCallV (i : Nat) (f : Addr) (sp : Sp) (t : TA) : St → Hp → VK → XK → Prop := fun σ H Q E => σ[i]? = some (some (.ref f)) ∧ t σ H fun vs H1 => sp vs H1 Q E
theorem px_callV {i : Nat} (F : FnOk X.prog X.w X.K X.mg X.base (CX1 X.prog X.w) k f fd ps sp) (hr : Room k X.A) (hN : X.N[i]? = some x) (hv : Vis X.env.scope x) (hk : PySem.W.keepIn X.K (.ref f) = true) (hb : Binds X.K fd ps [])
    (ha : PA X.nox (e :: es) t) (hdb : (x == ("__debug__" : Str)) = false := by decide) (hcd : (x == ("__classdict__" : Str)) = false := by decide) (he : starEach (e :: es) X.env = (false, eval e X.env) :: starEach es X.env := by rfl) (hpl : (backTo pos (starEach es X.env)).any (·.1) = false := by rfl) :
    PX X (.Call (.Name x p) (e :: es) [] pos) (tCallV i f sp t) := by
  intro pins s σ H Q E I h
  obtain ⟨h0, h⟩ := h
  have hx : PE X.nox (.Name x p) (tVar i) := pe_var hN hv hdb hcd
  refine wpAny_Call_Name_kw (wpAny_mono (hx pins s σ H (fun v H1 => v = .ref f ∧ H1 = H) (I.wish _) ⟨_, h0, rfl, rfl⟩) (fun u s1 ⟨v, H1, I1, r1, e1, e2⟩ => ?_) fun _ _ z => False.elim z)
  subst e1 e2
  cases r1
  have I1' := I1.unwish
  exact PySem.W.callWith_K (h₀ := X.base) I.ok.mod.kin hk (thn (PA.nox ha I1' h) fun us s2 ⟨vs, H2, I2, r, q⟩ => ⟨I2.kIn, run_fnX F hr hb I2 r q⟩) he hpl
end

/-- an exception that was caught -/
def excO (e C : Addr) : HO := .ext fun h => ∃ o, h.get? e = some o ∧ o.cls = .ref C ∧ o.dict = none ∧ PySem.W.notCls o = true
/-- within an except suite -/
abbrev Cx.marked (X : Cx) (e : Value) : Cx := { X with A := X.A.mark (some e), calm := false, xe := fun _ _ => False }
section
variable {X : Cx} {pins : List (Addr × Obj)} {σ : St} {H : Hp} {s : Shared}
theorem Inv.marked (I : Inv X pins σ H s) (e : Value) : Inv (X.marked e) pins σ H s :=
  ⟨⟨I.ok.mod, I.ok.kind, I.ok.glob, I.ok.blt, I.ok.above, I.ok.inj, I.ok.has, I.ok.cab, fun z => absurd (show false = true from z) Bool.false_ne_true, I.ok.frames, I.ok.stk, I.ok.exf, I.ok.bs, I.ok.bsz, I.ok.noex, I.ok.exfs, I.ok.funs, I.ok.frf⟩, I.os, I.bare, I.base, I.loc, I.cell, I.free, I.freeC, I.pin, I.hok, I.len⟩
theorem Inv.unmarked {e : Value} (ok : X.Ok) (I : Inv (X.marked e) pins σ H s) : Inv X pins σ H s := ⟨ok, I.os, I.bare, I.base, I.loc, I.cell, I.free, I.freeC, I.pin, I.hok, I.len⟩
/-- an untracked object is tracked from here on; it was not there at the entry -/
theorem Inv.adoptX {d : Addr} {o : HO} (I : Inv X pins σ H s) (hn : H d = none) (h0 : X.s₀.heap.get? d = none) (hL : d ≠ X.env.locals) (hc : ∀ x c, X.env.cells.lookup x = some c → c ≠ d) (hp : ∀ p ∈ X.pn ++ pins, p.1 ≠ d)
    (new : ObjOk X.prog X.w (upd H d o) s.heap d o) : Inv X pins σ (upd H d o) s := by
  have nd : ∀ b u, H b = some u → b ≠ d := fun b u e z => by rw [z, hn] at e; cases e
  have B := I.base
  refine ⟨I.ok, I.os, I.bare, ⟨B.keep, B.slot, fun b u e n hx => ?_, B.there, fun b xs e => ?_, fun b u v e => ?_, fun b ps e => ?_⟩, I.loc, I.cell, by rw [upd_ne (Ne.symm hL)]; exact I.free, fun x c e => by rw [upd_ne (hc x c e)]; exact I.freeC x c e, fun p hq => ?_, fun b u e => ?_, I.len⟩
  · rw [upd_ne (fun z => by rw [z, h0] at e; cases e)]; exact B.free b u e n hx
  · have q := B.tups b xs e
    rw [upd_ne (nd _ _ q)]; exact q
  · have q := B.frzs b u v e
    rw [upd_ne (nd _ _ q)]; exact q
  · obtain ⟨mo, q⟩ := B.tbls b ps e
    exact ⟨mo, by rw [upd_ne (nd _ _ q)]; exact q⟩
  · obtain ⟨q1, q2, q3⟩ := I.pin p hq
    exact ⟨q1, by rw [upd_ne (hp p hq)]; exact q2, q3⟩
  · by_cases hb : b = d
    · subst hb; rw [upd_same] at e; cases e; exact new
    · rw [upd_ne hb] at e
      exact (I.hok b u e).stay (fun _ _ _ q => q) (fun c q => by rw [upd_ne (nd c _ q)]; exact q) fun c xs q => by rw [upd_ne (nd c _ q)]; exact q
/-- the mark is taken away once more -/
theorem Flw.again {M : Model} {A : Around} {n : Heap} {e : Addr} {oc : Value} {od : Option Addr} {E : Value → Shared → Prop} {Q : Unit → Shared → Prop} (F : Flw H n s.heap e oc od false)
    (h : ∀ h', (∀ b o, s.heap.get? b = some o → n.get? b ≠ none → h'.get? b = some o) → (∀ b u o, H b = some u → s.heap.get? b = some o → h'.get? b = some o) → Flw H n h' e oc od false → Q () { s with heap := h' }) : wpAny M A (setFlight (.ref e) none) Q E s := by
  obtain ⟨oe, vs, hd, ge, c, d, dt, h1, T, oT, ts, z, ne, hT, hy, eT, dT, t3⟩ := F.ob
  subst z
  have sz3 := (Array.getElem?_eq_some_iff.mp t3).1
  have oth : ∀ b, b ≠ T → (s.heap.update T (Obj.mapFields (·.setIfInBounds 3 ((none : Option Addr).elim Value.none fun f => rawInt f)))).get? b = s.heap.get? b := fun b hb => Heap.get?_update_other _ _ (Ne.symm hb)
  unfold setFlight
  refine wpAny_bind (wpAny_field ge dt h1 ?_)
  rw [if_pos (show (Value.ref T != Value.none) = true from by simp)]
  refine wpAny_setField eT dT sz3 (h _ (fun b o eb hb => (oth b (fun z => hb (by rw [z]; exact hy))).trans eb) (fun b u o hb eb => (oth b (fun z => by rw [z, hT] at hb; cases hb)).trans eb) ⟨F.un, F.yn, oe, vs, .ref T, (oth e (Ne.symm ne)).trans ge, c, d, dt, h1, T, _, _, rfl, ne, hT, hy,
    Heap.get?_update_self _ eT (by rw [mapF dT]; exact Obj.isFreed_of_fields rfl), by rw [mapF dT], ?_⟩)
  simp [sz3]
end

/-- a name of the frame goes -/
theorem Inv.gone {X : Cx} {pins : List (Addr × Obj)} {σ : St} {H : Hp} {s : Shared} {j : Nat} {n : Str} {m : Str → Option Value} {v7 : Option Value} {h7 : Heap} {t' : Nat} (I : Inv X pins σ H s) (hN : X.N.Nodup) (hj : X.N[j]? = some n) (hm : s.heap.Ns X.env.locals m)
    (hl : ∀ (i : Nat) (x : Str) (v : V), X.N[i]? = some x → σ[i]? = some (some v) → Vis X.env.scope x → ∃ u, RelV v u ∧ Look X.env s.heap m x u)
    (hn : h7.Ns X.env.locals (fun x => if x = n then v7 else m x)) (hs : Heap.SameBut X.env.locals s.heap h7) : Inv X pins (σ.set j none) H { s with heap := h7, toks := t' } := by
  have B := I.base
  have neL : ∀ b o, X.s₀.heap.get? b = some o → b ≠ X.env.locals := fun b o e => Nat.ne_of_lt (Nat.lt_of_lt_of_le (Heap.lt_size e) I.ok.above)
  refine ⟨I.ok, I.os, I.bare, ⟨fun b o e n hb hx => (hs.2 b (neL b o e)).trans (B.keep b o e n hb hx), fun b o e n hb hx => ?_, B.free, fun b o e hx => ?_, B.tups, B.frzs, B.tbls⟩, ⟨_, hn, fun i x v e1 e2 e3 => ?_⟩, fun x c e => ?_, I.free, I.freeC, fun p hp => ?_, fun b u e => ?_, by rw [List.length_set]; exact I.len⟩
  · obtain ⟨sl, q⟩ := B.slot b o e n hb hx
    exact ⟨sl, (hs.2 b (neL b o e)).trans q⟩
  · obtain ⟨o', q⟩ := B.there b o e hx
    exact ⟨o', (hs.2 b (neL b o e)).trans q⟩
  · by_cases hij : i = j
    · subst hij
      by_cases hlt : i < σ.length
      · rw [List.getElem?_set_self hlt] at e2; cases e2
      · rw [List.getElem?_eq_none (by rw [List.length_set]; omega)] at e2; cases e2
    · rw [List.getElem?_set_ne (Ne.symm hij)] at e2
      obtain ⟨u, r, l⟩ := hl i x v e1 e2 e3
      refine ⟨u, r, ?_⟩
      rcases l with ⟨k, z⟩ | ⟨k, c, z, y⟩
      · refine .inl ⟨k, ?_⟩
        have nx : x ≠ n := fun z => hij (nodup_ix hN e1 (z ▸ hj))
        show (if x = n then v7 else m x) = some u
        rw [if_neg nx]; exact z
      · exact .inr ⟨k, c, z, y.sameBut hs (I.cne x c z)⟩
  · obtain ⟨v, y⟩ := I.cell x c e
    exact ⟨v, y.sameBut hs (I.cne x c e)⟩
  · obtain ⟨q1, q2, q3, q4⟩ := I.pin p hp
    exact ⟨(hs.2 p.1 q3).trans q1, q2, q3, q4⟩
  · refine (I.hok b u e).stay (fun c w hc q => (hs.2 c ?_).trans q) (fun _ q => q) fun _ _ q => q
    rintro rfl
    rcases hc with z | z
    · rw [← z, I.free] at e; cases e
    · rw [I.free] at z; cases z
section
variable {X : Cx} {xn cn n : Str} {i j : Nat} {call : Expr} {b0 : Stmt} {suite : List Stmt} {p1 p2 p3 p4 pos : Pos} {tc : St → Hp → VK → XK → Prop} {ts : TS}
/-- i: the slot of the stored name, j: of the caught one; B: the class that is caught; C: the one that comes -/
def tTry (K : PySem.W.Frag) (i j : Nat) (B : Addr) (tc : St → Hp → VK → XK → Prop) (ts : TS) : TS := fun D σ H => ∃ E : XK, tc σ H (fun v H1 => D.nx (σ.set i (some v)) H1) E ∧
  ∀ oc od H1, E oc od H1 → ∃ C, oc = .ref C ∧ od = none ∧ PySem.W.exmOne K (.ref C) (.ref B) = some true ∧ ∀ e, H1 e = none → ts { D with nx := fun σ2 H2 => D.nx (σ2.set j none) H2, rt := fun _ _ => False, bk := fun _ _ => False, ct := fun _ _ => False } (σ.set j (some (.ref e))) (upd H1 e (excO e C))
theorem ps_try {B : Addr} (hN : X.N.Nodup) (hi : X.N[i]? = some xn) (hx : X.env.scope.names.lookup xn = some .local) (hj : X.N[j]? = some n) (hn : X.env.scope.names.lookup n = some .local) (hst : X.stack = X.env :: X.outer) (hf : X.env.frame = some X.env.locals) (hex : X.ex = [])
    (hc : PX X call tc) (hg : Gl X cn) (hm : X.mg cn = some (.ref B)) (hs : ∀ e, PSs (X.marked (.ref e)) (b0 :: suite) ts) (hcd : (cn == ("__debug__" : Str)) = false := by decide)
    (hsw : swapsWith call (some (.Name xn p1)) p2.line X.env = pure false := by rfl) :
    PS X (.Try [.Assign [.Name xn p1] call p2] [.ExceptHandler (some (.Name cn p3)) (some n) (b0 :: suite) p4] [] [] pos) (tTry X.K i j B tc ts) := by
  intro pins s σ H D I h
  obtain ⟨E, h1, h2⟩ := h
  refine wpAny_Try_except (wpAny_execs_cons (wpAny_Assign_Name (wpAny_mono (hc pins s σ H _ E I h1) (fun v s1 ⟨y, H1, I1, r1, q1⟩ => ?_) fun e s1 hx1 => ?_) hsw))
  · exact store_ok I1 hN hi (.inl hx) r1 (fun s2 I2 => wpAny_execs_nil (wpAny_execs_nil ⟨_, H1, I2, q1⟩)) (.inr hx)
  · obtain ⟨s0, H0, I0, ea, H1, oc, od, rfl, os, bare, un, hok, F, q⟩ := hx1
    obtain ⟨C, rfl, rfl, hmt, hq⟩ := h2 _ _ _ q
    have I1 : Inv X pins σ H1 s1 := I0.call' (ch := []) os un hok bare fun b z => absurd z (by simp)
    have nn : ∀ {b : Addr} {o : Obj}, s0.heap.get? b = some o → s0.heap.get? b ≠ none := fun e z => by rw [e] at z; cases z
    refine land I1 (fun b o z => un.there b o z (by simp)) hst hf F fun g k1 k2 k3 k4 k5 F2 => ?_
    have un2 : Un (frs X.stack) [] H0 H1 s0.heap g := ⟨fun b o eb nb hb hx => k1 b o (un.keep b o eb nb hb hx) (nn eb) hb, fun b o eb nb hb hx => by
        obtain ⟨sl, e1⟩ := un.slot b o eb nb hb hx
        obtain ⟨sl', e2⟩ := k2 b _ e1 hb
        exact ⟨sl', e2⟩, un.free, fun b o eb hx => by
        obtain ⟨o', e1⟩ := un.there b o eb hx
        by_cases hb : b ∈ frs X.stack
        · obtain ⟨sl', e2⟩ := k2 b _ e1 hb
          exact ⟨_, e2⟩
        · exact ⟨o', k1 b o' e1 (nn eb) hb⟩, un.tups, un.frzs, un.tbls⟩
    have hok2 : HOk X.prog X.w H1 g := fun b u eb => (hok b u eb).stay (fun c v hc r => by
      rcases hc with rfl | hc
      · exact k3 c _ v eb r
      · exact k3 c _ v hc r) (fun _ r => r) fun _ _ r => r
    have I2 : Inv X pins σ H1 { s1 with heap := g } := I0.call' (ch := []) (s' := { s1 with heap := g }) os un2 hok2 bare fun b z => absurd z (by simp)
    obtain ⟨oe, vs, hd, ge, c, d, dt, _⟩ := F2.ob
    have M2 := I2.marked (.ref ea)
    refine wpAny_handleBy_cons (codeAny_handlers_test (ld_glob (X := X.marked (.ref ea)) M2 hg hm ?_ hcd)) (by intro q; cases q)
    have LT : PySem.W.Looks (model X.prog X.w) g (typeOf (.ref ea)) (.ref C) := c ▸ (PySem.W.Looks.ld ge).andThen .now
    refine PySem.W.Looks.at (PySem.W.exm_one I2.kIn LT hmt) ?_
    refine codeAny_handlers_suite_as (Flw.again (s := { s1 with heap := g }) F2 fun g' l1 l3 F3 => ?_)
    have un3 : Un (frs X.stack) [] H0 H1 s0.heap g' := ⟨fun b o eb nb hb hx => l1 b o (un2.keep b o eb nb hb hx) (nn eb), fun b o eb nb hb hx => by
        obtain ⟨sl, e1⟩ := un2.slot b o eb nb hb hx
        exact ⟨sl, l1 b _ e1 (nn eb)⟩, un2.free, fun b o eb hx => by
        obtain ⟨o', e1⟩ := un2.there b o eb hx
        exact ⟨o', l1 b o' e1 (nn eb)⟩, un2.tups, un2.frzs, un2.tbls⟩
    have hok3 : HOk X.prog X.w H1 g' := fun b u eb => (hok2 b u eb).stay (fun c v hc r => by
      rcases hc with rfl | hc
      · exact l3 c _ v eb r
      · exact l3 c _ v hc r) (fun _ r => r) fun _ _ r => r
    have I3 : Inv X pins σ H1 { s1 with heap := g' } := I0.call' (ch := []) (s' := { s1 with heap := g' }) os un3 hok3 bare fun b z => absurd z (by simp)
    obtain ⟨oe3, vs3, hd3, ge3, c3, d3, dt3, _⟩ := F3.ob
    have I4 : Inv X pins σ (upd H1 ea (excO ea C)) { s1 with heap := g' } := by
      refine I3.adoptX F3.un ?_ (fun z => ?_) (fun x a ec z => ?_) (fun q hq z => ?_) ⟨⟨oe3, ge3, c3, d3, ?_⟩, ⟨oe3, ge3⟩, fun h1 h2 ⟨o, e1, r⟩ st => ⟨o, st o e1, r⟩⟩
      · cases z : X.s₀.heap.get? ea with
        | none => rfl
        | some o =>
          by_cases hx : ea ∈ X.ex
          · rw [hex] at hx; exact absurd hx (by simp)
          · obtain ⟨o', e'⟩ := I0.base.there ea o z hx
            rw [F3.yn] at e'; cases e'
      · obtain ⟨m, ⟨o, _, _, e', _⟩, _⟩ := I0.loc
        rw [← z, F3.yn] at e'; cases e'
      · obtain ⟨v, o, e', _⟩ := I0.cell x a ec
        rw [z, F3.yn] at e'; cases e'
      · have e' := (I0.pin q hq).1
        rw [z, F3.yn] at e'; cases e'
      · unfold PySem.W.notCls
        rw [dt3]
    refine store_ok (X := X.marked (.ref ea)) (I4.marked (.ref ea)) hN hj (.inl hn) (v := .ref ea) rfl (fun s5 M5 => ?_) (.inr hn)
    refine wpAny_mono (hs ea pins s5 _ _ _ M5 (hq ea F3.un)) (fun fl s6 q6 => ?_) fun _ _ z => False.elim z
    cases fl with
    | next =>
      obtain ⟨σ6, H6, M6, q6⟩ := q6
      have I6 : Inv X pins σ6 H6 s6 := M6.unmarked I.ok
      obtain ⟨m, hm6, hl6⟩ := id I6.loc
      refine wpAny_nameGoes_keeps (show X.env.kindOf n = some .local from hn) hm6 (by rw [I.ok.kind]; rfl) fun h7 v7 hn7 hs7 => ?_
      exact ⟨_, H6, I6.gone hN hj hm6 hl6 hn7 hs7, q6⟩
    | ret v => obtain ⟨_, _, _, _, _, z⟩ := q6; exact False.elim z
    | brk => obtain ⟨_, _, _, z⟩ := q6; exact False.elim z
    | cont => obtain ⟨_, _, _, z⟩ := q6; exact False.elim z
end
end L2

set_option Elab.async false
set_option linter.all false
set_option maxRecDepth 100000
namespace L2
open PySem PySem.Spec PyProof.Rows

/-! ### isinstance of an exception that was caught -/
theorem bga_bind (self : Value) : bindSpecial (.builtin "BaseException.__getattribute__") self = pure (.builtin "BaseException.__getattribute__", [self]) := PySem.F.attr_ValueError.ga.bind self
/-- the class as an attribute of an exception of the text -/
structure ExcK (K : PySem.W.Frag) (C : Addr) : Prop where
  ga : PySem.W.findIn K (.ref C) "__getattribute__" = some (some (.builtin "BaseException.__getattribute__"))
  hk : PySem.W.findIn K (.ref C) "__getattr__" = some none
  cl : (PySem.W.clsIn K C).isSome = true
  at_ : PySem.W.findIn K (.ref C) "__class__" = some (some (.builtin "object.__class__"))
  gt : PySem.W.specialIn K (.builtin "object.__class__") "__get__" = some (some (.builtin "getset_descriptor.__get__"))
  tk : PySem.W.takesIn K (.builtin "object.__class__") = some true
  mo : PySem.W.mroIn K C (.type "object") = some true
  mb : PySem.W.mroIn K C (.type "BaseException") = some true
section
variable {prog : Program} {w : World} {A : Around} {E : Value → Shared → Prop} {s : Shared} {K : PySem.W.Frag} {x C : Addr} {ox : Obj}
theorem exc_find (c : ExcK K C) : PySem.W.findObj K C none "__class__" = some (.bind (.builtin "getset_descriptor.__get__") (.builtin "object.__class__")) := by
  obtain ⟨cd, hc⟩ := Option.isSome_iff_exists.mp c.cl
  unfold PySem.W.findObj
  rw [hc, Option.bind_some, c.at_, Option.bind_some]
  simp [c.gt, c.tk]
theorem exc_class {Q : Option Value → Shared → Prop} (c : ExcK K C) (KX : K.In s.heap) (I : PySem.W.InstAt s.heap x ox C none) (h : Q (some (.ref C)) { s with toks := s.toks + 1 }) : wpAny (model prog w) A (getAttr? (.ref x) "__class__") Q E s := by
  obtain ⟨hh, g, d, t, os⟩ := s
  have L0 := I.type (M := model prog w)
  have L1 := PySem.W.looks_findIn (M := model prog w) KX c.ga
  have L2 := PySem.W.looks_findIn (M := model prog w) KX c.hk
  have L3 := PySem.W.looks_find (M := model prog w) KX I (exc_find c)
  have L4 := PySem.W.looks_mroIn (M := model prog w) KX c.mb
  have f3 := bga_bind (.ref x)
  unfold getAttr? getAttrBy? getAttrBy
  refine wpAny_bind (wpAny_mkText (wpAny_bind (wpAny_attempt (wpAny_holding (wpAny_bind (L0.at (wpAny_bind (L1.at ?_))))))))
  show wpAny _ _ (getAttrByItsOwn _ _ _ _ _ _) _ _ _
  unfold getAttrByItsOwn hookBefore
  refine wpAny_bind ?_
  show wpAny _ _ (typeLookup (.ref C) "__getattr__") _ _ _
  refine L2.at ?_
  refine wpAny_bind (wpAny_attempt (wpAny_holding ?_))
  unfold callGetattribute boundAndCalled
  rw [if_neg (by decide), f3]
  refine wpAny_bind (wpAny_pure ?_)
  refine wpAny_call (codeAny_call_builtin PySem.F.attr_ValueError.ga.plain PySem.F.entry_bexc_ga ?_)
  have hk : builtinKind "BaseException.__getattribute__" = some .slot := by decide +kernel
  have hsp : splitId "BaseException.__getattribute__" = some ("BaseException", "__getattribute__") := by decide +kernel
  have ha := PySem.F.args_bexc_ga (.ref x) (.str "__class__" t)
  simp only [checkBuiltinCall, hk, hsp]
  refine wpAny_bind ?_
  unfold isInstance
  repeat (any_goals (first | assumption | lk | wp_step))
  refine wpAny_run (PySem.W.class_get (s := ⟨hh, g, d, t + 1, os⟩) KX I c.mo ?_)
  repeat (any_goals (first | assumption | lk | wp_step))
/-- an exception that was caught, as isinstance takes it -/
theorem kitx_exc (c : ExcK K C) : PySem.W.KitX K (.ref x) (.ref C) (fun h => ∃ ox, PySem.W.InstAt h x ox C none) where
  ty := fun _ _ _ ⟨_, I⟩ => I.type
  it := fun _ _ KX _ => by
    have e := c.cl
    unfold PySem.W.clsIn at e
    split at e
    · rename_i c' d' cd' sl' ho
      intro A' Q' E' s' k q
      unfold isType loadHead
      exact wpAny_bind (wpAny_loadPart (k _ _ (KX _ _ ho)) (wpAny_pure q))
    · cases e
  ne := fun h tp dd its n sl KX htp => by
    have e := c.cl
    refine Bool.eq_false_iff.mpr fun q => ?_
    have e2 : C = tp := Value.ref.inj (beq_iff_eq.mp q)
    subst e2
    unfold PySem.W.clsIn at e
    split at e
    · rename_i c' d' cd' sl' ho
      have z := (KX _ _ ho).symm.trans htp
      cases z
    · cases e
  ca := fun KX ⟨_, I⟩ k => exc_class c KX I k
end
section
variable {X : Cx}
theorem exc_inst {pins : List (Addr × Obj)} {σ : St} {H : Hp} {s : Shared} {e C : Addr} (I : Inv X pins σ H s) (h : H e = some (excO e C)) : ∃ ox, PySem.W.InstAt s.heap e ox C none := by
  obtain ⟨⟨o, h1, h2, h3, h4⟩, _, _⟩ := I.hok e _ h
  exact ⟨o, h1, h2, h4, by rw [h3]; trivial⟩
/-- isinstance(e, B), isinstance(e, (B1, ..)) of a caught exception -/
theorem call_isinstE : CallR X (.builtin "isinstance") (fun xs H Q => ∃ e C c cv b, xs = [.ref e, c] ∧ H e = some (excO e C) ∧ ExcK X.K C ∧ (∀ u, RelV c u → u = cv) ∧ PySem.W.kitOne X.K (.ref C) cv = some b ∧ Q (.bl b) H) := by
  intro pins s σ H xs us Q I r h
  obtain ⟨e, C, c, cv, b, rfl, he, ck, rc, k, q⟩ := h
  obtain ⟨u, v, rfl, rx, rv⟩ := vals2 r
  cases rx
  have e2 := rc v rv
  subst e2
  exact PySem.W.kia_one (kitx_exc ck) I.kIn (exc_inst I he) k (fun z => nomatch z) fun tk => ⟨.bl b, H, I.tok _, rfl, q⟩
theorem vals_refs : ∀ {cs : List Addr} {us : List Value}, Vals (cs.map V.ref) us → us = cs.map Value.ref
  | [], us, r => by rw [List.map_nil] at r; cases r; rfl
  | c :: cs, us, r => by
    rw [List.map_cons] at r
    cases r with
    | cons q t => cases q; rw [vals_refs t]; rfl
theorem call_isinstET : CallR X (.builtin "isinstance") (fun xs H Q => ∃ (e C tp : Addr) (cs : List Addr) (b : Bool), xs = [.ref e, .ref tp] ∧ H e = some (excO e C) ∧ ExcK X.K C ∧ H tp = some (.tup (cs.map V.ref)) ∧ PySem.W.kitAny X.K (.ref C) (cs.map Value.ref) = some b ∧ Q (.bl b) H) := by
  intro pins s σ H xs us Q I r h
  obtain ⟨e, C, tp, cs, b, rfl, he, ck, ht, k, q⟩ := h
  obtain ⟨u, v, rfl, rx, rv⟩ := vals2 r
  cases rx
  cases rv
  obtain ⟨_, its, r1, o, h1, h2, n, h3⟩ := I.hok tp _ ht
  have e1 := vals_refs r1
  subst e1
  obtain ⟨oc, od, dt, sl⟩ := o
  dsimp only at h2 h3
  subst h2 h3
  exact PySem.W.kia_tup (kitx_exc ck) I.kIn (exc_inst I he) h1 k (fun z => nomatch z) fun tk => ⟨.bl b, H, I.tok _, rfl, q⟩
end
end L2

set_option Elab.async false
set_option linter.all false
set_option maxRecDepth 100000
namespace L2
open PySem PySem.Spec PyProof.Rows

/-! ### heaps: what stays, but for the lists at L -/
structure Kp (L : List Addr) (H H' : Hp) : Prop where
  keep : ∀ b o, b ∉ L → H b = some o → H' b = some o
  tup : ∀ b xs, H b = some (.tup xs) → H' b = some (.tup xs)
theorem Kp.refl {L : List Addr} {H : Hp} : Kp L H H := ⟨fun _ _ _ h => h, fun _ _ h => h⟩
theorem Kp.trans {L : List Addr} {H H1 H2 : Hp} (a : Kp L H H1) (b : Kp L H1 H2) : Kp L H H2 := ⟨fun c o n h => b.keep c o n (a.keep c o n h), fun c xs h => b.tup c xs (a.tup c xs h)⟩
theorem Kp.wide {L L' : List Addr} {H H1 : Hp} (a : Kp L H H1) (h : ∀ b ∈ L, b ∈ L') : Kp L' H H1 := ⟨fun c o n q => a.keep c o (fun z => n (h c z)) q, a.tup⟩
theorem Kp.up {L : List Addr} {H H1 : Hp} (a : Kp [] H H1) : Kp L H H1 := a.wide fun _ z => absurd z (by simp)
theorem Kp.new {L : List Addr} {H : Hp} {p : Addr} {o : HO} (n : H p = none) : Kp L H (upd H p o) := ⟨fun b u _ h => by rw [upd_ne (ne_of_none h n)]; exact h, fun b xs h => by rw [upd_ne (ne_of_none h n)]; exact h⟩
theorem Kp.set {L : List Addr} {H : Hp} {l : Addr} {xs ys : List V} (m : l ∈ L) (h : H l = some (.lst xs)) : Kp L H (upd H l (.lst ys)) :=
  ⟨fun b u n e => by rw [upd_ne (fun z : b = l => n (by rw [z]; exact m))]; exact e, fun b zs e => by rw [upd_ne (ne_of e h (by intro z; cases z))]; exact e⟩
theorem Kp.get {H H' : Hp} (k : Kp [] H H') {b : Addr} {o : HO} (h : H b = some o) : H' b = some o := k.keep b o (by simp) h
theorem Kp.non {H H' : Hp} (k : Kp [] H H') {b : Addr} (h : H' b = none) : H b = none := by
  cases q : H b with
  | none => rfl
  | some o => rw [k.get q] at h; cases h

/-! ### rows of numbers, scales -/
def Ints (H : Hp) (v : V) (ns : List Int) : Prop := ∃ a, v = .ref a ∧ H a = some (.tup (ns.map V.int))
theorem Ints.kp {L : List Addr} {H H' : Hp} {v : V} {ns : List Int} (h : Ints H v ns) (k : Kp L H H') : Ints H' v ns := let ⟨a, e, q⟩ := h; ⟨a, e, k.tup _ _ q⟩
def Scl (H : Hp) (v : V) (hd rg : List Int) : Prop := ∃ a x y, v = .ref a ∧ H a = some (.tup [x, y]) ∧ Ints H x hd ∧ Ints H y rg
theorem Scl.kp {L : List Addr} {H H' : Hp} {v : V} {hd rg : List Int} (h : Scl H v hd rg) (k : Kp L H H') : Scl H' v hd rg := let ⟨a, x, y, e, q, i, j⟩ := h; ⟨a, x, y, e, k.tup _ _ q, i.kp k, j.kp k⟩

/-! ### a reading, one step at a time -/
section
variable {X : Cx} {K : PySem.W.Frag} {t u : TS} {D : Ends} {σ : St} {H : Hp} {te ta tb tc : TE} {Q : VK} {tt tt' : TT} {B : Bool → Hp → Prop} {r r' : R2} {i : Nat} {v x y : V}
theorem rd_seq (h : t { D with nx := u D } σ H) : tSeq t u D σ H := h
theorem rd_set (h : te σ H fun x H1 => D.nx (σ.set i (some x)) H1) : tAsg te (gName i) D σ H := h
theorem rd_asg {g : TG} (h : te σ H fun x H1 => g x σ H1 D.nx) : tAsg te g D σ H := h
theorem rd_ret (h : te σ H D.rt) : tRet te D σ H := h
theorem rd_retN (h : D.rt .non H) : tRetN D σ H := h
theorem rd_next (h : D.nx σ H) : tNext D σ H := h
theorem rd_drop (h : te σ H fun _ H1 => D.nx σ H1) : tDrop te D σ H := h
theorem rd_if (h : tt σ H fun b H1 => if b = true then t D σ H1 else u D σ H1) : tIfS tt t u D σ H := h
theorem rd_var (e : σ[i]? = some (some v)) (h : Q v H) : tVar i σ H Q := ⟨v, e, h⟩
theorem rd_c (h : Q v H) : tC v σ H Q := h
theorem rd_op (h : ta σ H fun x H1 => tb σ H1 fun y H2 => r x y H2 Q) : tOp r ta tb σ H Q := h
theorem rd_un {f : V → Hp → VK → Prop} (h : ta σ H fun x H1 => f x H1 Q) : tUn f ta σ H Q := h
theorem rd_test (h : te σ H fun x H' => ∃ k, x = .bl k ∧ B k H') : tTest te σ H B := h
theorem rd_tb (h : te σ H fun x H' => ∃ k, x = .bl k ∧ B k H') : tB te σ H B := h
theorem rd_bl {k : Bool} {P : Bool → Prop} (h : P k) : ∃ c, V.bl k = .bl c ∧ P c := ⟨k, rfl, h⟩
theorem rd_and (h : tt σ H fun c H1 => if c = true then tt' σ H1 B else B false H1) : tAnd tt tt' σ H B := h
theorem rd_or (h : tt σ H fun c H1 => if c = true then B true H1 else tt' σ H1 B) : tOr tt tt' σ H B := h
theorem rd_not (h : tt σ H fun c H1 => B (!c) H1) : tNot tt σ H B := h
theorem rd_ifx (h : tt σ H fun c H1 => if c = true then ta σ H1 Q else tb σ H1 Q) : tIf tt ta tb σ H Q := h
theorem rd_andV (h : ta σ H fun x H1 => ∃ c, x = .bl c ∧ if c = true then tb σ H1 Q else Q (.bl false) H1) : tAndV ta tb σ H Q := h
theorem rd_orV (h : ta σ H fun x H1 => ∃ c, x = .bl c ∧ if c = true then Q (.bl true) H1 else tb σ H1 Q) : tOrV ta tb σ H Q := h
theorem rd_notV (h : ta σ H fun x H1 => ∃ c, x = .bl c ∧ Q (.bl (!c)) H1) : tNotV ta σ H Q := h
theorem rd_cons {tr : TA} {G : List V → Hp → Prop} (h : te σ H fun x H1 => tr σ H1 fun xs H2 => G (x :: xs) H2) : tCons te tr σ H G := h
theorem rd_nil {G : List V → Hp → Prop} (h : G [] H) : tNil σ H G := h
theorem rd_cb {f : List V → Hp → VK → Prop} {tr : TA} (h : tr σ H fun vs H1 => f vs H1 Q) : tCB f tr σ H Q := h
theorem rd_call {sp : Sp} {E : XK} {tr : TA} (h : tr σ H fun vs H1 => sp vs H1 Q E) : tCall sp [] E tr σ H Q := by
  unfold tCall
  have e : (fun (vs : List V) H1 => sp (vs ++ []) H1 Q E) = fun vs H1 => sp vs H1 Q E := by funext vs H1; rw [List.append_nil]
  rw [e]; exact h
theorem rd_tup {tr : TA} (h : tr σ H fun xs H1 => xs.length ≤ sizeLine ∧ ∀ p H', H1 p = none → H' p = some (.tup xs) → Kp [] H1 H' → Q (.ref p) H') (mono : ∀ G G' : List V → Hp → Prop, (∀ xs H1, G xs H1 → G' xs H1) → tr σ H G → tr σ H G') : tTup tr σ H Q :=
  mono _ _ (fun xs H1 q => ⟨q.1, fun p n => q.2 p _ n upd_same (Kp.new n)⟩) h
theorem new_tup {xs : List V} {H1 : Hp} {Q : VK} (hl : xs.length ≤ sizeLine) (h : ∀ p H', H1 p = none → H' p = some (.tup xs) → Kp [] H1 H' → Q (.ref p) H') : xs.length ≤ sizeLine ∧ ∀ p, H1 p = none → Q (.ref p) (upd H1 p (.tup xs)) := ⟨hl, fun p n => h p _ n upd_same (Kp.new n)⟩
theorem new_lst {xs : List V} {H1 : Hp} {Q : VK} (hl : xs.length ≤ sizeLine) (h : ∀ p H', H1 p = none → H' p = some (.lst xs) → Kp [] H1 H' → Q (.ref p) H') : xs.length ≤ sizeLine ∧ ∀ p, H1 p = none → Q (.ref p) (upd H1 p (.lst xs)) := ⟨hl, fun p n => h p _ n upd_same (Kp.new n)⟩
theorem rd_tuple {tr : TA} (h : tr σ H fun xs H1 => xs.length ≤ sizeLine ∧ ∀ p, H1 p = none → Q (.ref p) (upd H1 p (.tup xs))) : tTup tr σ H Q := h
theorem rd_list {tr : TA} (h : tr σ H fun xs H1 => xs.length ≤ sizeLine ∧ ∀ p, H1 p = none → Q (.ref p) (upd H1 p (.lst xs))) : tLst tr σ H Q := h
theorem rd_sl {f : V → Option Int → Option Int → Hp → VK → Prop} {tl th : TO} (h : te σ H fun x H1 => tl σ H1 fun l H2 => th σ H2 fun u H3 => f x l u H3 Q) : tSl f te tl th σ H Q := h
theorem rd_nopart {G : Option Int → Hp → Prop} (h : G none H) : tNoPart σ H G := h
theorem rd_part {G : Option Int → Hp → Prop} (h : te σ H fun x H1 => ∃ i, x = .int i ∧ G (some i) H1) : tPart te σ H G := h
theorem rd_ii {G : Int → Prop} {k : Int} (h : G k) : ∃ i, V.int k = .int i ∧ G i := ⟨k, rfl, h⟩
theorem rd_bm {T : String} {f : V → List V → Hp → VK → Prop} {tr : TA} (h : te σ H fun x H1 => tyV K T x H1 ∧ tr σ H1 fun xs H2 => f x xs H2 Q) : tBM K T f te tr σ H Q := h
theorem rd_true {B : Bool → Hp → Prop} (h : B true H) : tTrue σ H B := h
theorem rd_gname {G : St → Hp → Prop} (h : G (σ.set i (some v)) H) : gName i v σ H G := h
theorem rd_gtup {n : Nat} {ts : TGs} {G : St → Hp → Prop} {a : Addr} {xs : List V} (h1 : H a = some (.tup xs)) (h2 : xs.length = n) (h : ts xs σ H G) : gTup K n ts (.ref a) σ H G := ⟨a, xs, rfl, .of h1, h2, h⟩
theorem rd_gcons {tg : TG} {ts : TGs} {G : St → Hp → Prop} {xs : List V} (h : tg v σ H fun σ' H' => ts xs σ' H' G) : gCons tg ts (v :: xs) σ H G := ⟨v, xs, rfl, h⟩
theorem rd_gnil {G : St → Hp → Prop} (h : G σ H) : gNil [] σ H G := ⟨rfl, h⟩
theorem rd_gsub {to ti : TE} {s : TSet} {G : St → Hp → Prop} (h : to σ H fun o H1 => ti σ H1 fun i H2 => s o i v H2 fun H3 => G σ H3) : gSub to ti s v σ H G := h
theorem rd_i0 {g : Int → Int → V} {a b : Int} (h : Q (g a b) H) : rI0 g (.int a) (.int b) H Q := ⟨a, b, rfl, rfl, h⟩
theorem rd_iC {C : Int → Int → Prop} {g : Int → Int → V} {a b : Int} (c : C a b) (h : Q (g a b) H) : rI C g (.int a) (.int b) H Q := ⟨a, b, rfl, rfl, c, h⟩
theorem rd_u {g : Int → V} {a : Int} (h : Q (g a) H) : rU g (.int a) H Q := ⟨a, rfl, h⟩
theorem rd_setL {l : Addr} {xs : List V} {k : Int} {j : Nat} {G : Hp → Prop} (h1 : H l = some (.lst xs)) (h2 : ixN xs.length k = some j) (h : G (upd H l (.lst (xs.set j v)))) : rSetL (.ref l) (.int k) v H G := ⟨l, xs, k, j, rfl, rfl, h1, h2, h⟩
theorem rd_app {l : Addr} {xs : List V} (h1 : H l = some (.lst xs)) (h2 : xs.length < sizeLine) (h : Q .non (upd H l (.lst (xs ++ [v])))) : rAppend (.ref l) [v] H Q := ⟨l, xs, v, rfl, rfl, h1, h2, h⟩
theorem rd_dec {p A B : Prop} [Decidable p] (h1 : p → A) (h2 : ¬ p → B) : if decide p = true then A else B := by
  by_cases h : p
  · rw [decide_eq_true h]; exact h1 h
  · rw [decide_eq_false h]; exact h2 h
theorem rd_ndec {p A B : Prop} [Decidable p] (h1 : ¬ p → A) (h2 : p → B) : if (!decide p) = true then A else B := by
  by_cases h : p
  · rw [decide_eq_true h]; exact h2 h
  · rw [decide_eq_false h]; exact h1 h
theorem rd_b {b : Bool} {A B : Prop} (h1 : b = true → A) (h2 : b = false → B) : if b = true then A else B := by
  cases b with
  | true => exact h1 rfl
  | false => exact h2 rfl

/-! ### rules that take more than one kind -/
/-- a + b -/
def rAddA (K : PySem.W.Frag) : R2 := fun x y H Q => rI0 (fun i j => .int (i + j)) x y H Q ∨ rCat x y H Q ∨ rCatT K x y H Q
theorem op_addA : OpR X (binaryOp .Add) (rAddA X.K) := op_add.or (op_cat.or op_catT)
theorem ra_int {a b : Int} (h : Q (.int (a + b)) H) : rAddA K (.int a) (.int b) H Q := .inl (rd_i0 h)
theorem ra_lst {a b : Addr} {xs ys : List V} (h1 : H a = some (.lst xs)) (h2 : H b = some (.lst ys)) (hl : xs.length + ys.length ≤ sizeLine) (h : ∀ p H', H p = none → H' p = some (.lst (xs ++ ys)) → Kp [] H H' → Q (.ref p) H') : rAddA K (.ref a) (.ref b) H Q :=
  .inr (.inl ⟨a, b, xs, ys, rfl, rfl, h1, h2, hl, fun p n => h p _ n upd_same (Kp.new n)⟩)
/-- a[b] of a list or a tuple -/
def rIxA (K : PySem.W.Frag) : R2 := fun x y H Q => rIxL K x y H Q ∨ rIxT K x y H Q
theorem ix_any : IxR X (rIxA X.K) := ix_list.or ix_tup
theorem rx_lst {a : Addr} {xs : List V} {k : Int} (h1 : SqL K H a xs) (h2 : atI xs k = some v) (h : Q v H) : rIxA K (.ref a) (.int k) H Q := .inl ⟨a, xs, k, v, rfl, rfl, h1, h2, h⟩
theorem rx_tup {a : Addr} {xs : List V} {k : Int} (h1 : H a = some (.tup xs)) (h2 : atI xs k = some v) (h : Q v H) : rIxA K (.ref a) (.int k) H Q := .inr ⟨a, xs, k, v, rfl, rfl, .of h1, h2, h⟩
theorem atI_pos {α : Type} {xs : List α} {k : Int} {v : α} (h0 : 0 ≤ k) (h : xs[k.toNat]? = some v) : atI xs k = some v := by
  have e : ((k.toNat : Nat) : Int) = k := Int.toNat_of_nonneg h0
  rw [← e]; exact atI_nat h
/-- len -/
theorem rl_lst {a : Addr} {xs : List V} (h1 : SqL K H a xs) (h : Q (.int xs.length) H) : ∃ p ys, [V.ref a] = [.ref p] ∧ (SqL K H p ys ∨ SqT K H p ys) ∧ Q (.int ys.length) H := ⟨a, xs, rfl, .inl h1, h⟩
theorem rl_tup {a : Addr} {xs : List V} (h1 : H a = some (.tup xs)) (h : Q (.int xs.length) H) : ∃ p ys, [V.ref a] = [.ref p] ∧ (SqL K H p ys ∨ SqT K H p ys) ∧ Q (.int ys.length) H := ⟨a, xs, rfl, .inr (.of h1), h⟩
/-- == and != -/
def rEqA (K : PySem.W.Frag) : R2 := fun x y H Q => rEq x y H Q ∨ rEqT K false x y H Q ∨ rEqL K false x y H Q
def rNeA (K : PySem.W.Frag) : R2 := fun x y H Q => rNe x y H Q ∨ rEqT K true x y H Q ∨ rEqL K true x y H Q
theorem op_eqA (hu : X.A.units + 64 < cLine) : OpR X (compareOp .Eq) (rEqA X.K) := op_eq.or ((op_eqT hu).or (op_eqL hu))
theorem op_neA (hu : X.A.units + 64 < cLine) : OpR X (compareOp .NotEq) (rNeA X.K) := op_ne.or ((op_neT hu).or (op_neL hu))
theorem re_int {a b : Int} (h : Q (.bl (decide (a = b))) H) : rEqA K (.int a) (.int b) H Q := .inl ⟨rfl, by rw [show decide (V.int a = V.int b) = decide (a = b) by simp]; exact h⟩
theorem rn_int {a b : Int} (h : Q (.bl (!decide (a = b))) H) : rNeA K (.int a) (.int b) H Q := .inl ⟨rfl, by rw [show decide (V.int a = V.int b) = decide (a = b) by simp]; exact h⟩
theorem re_str {a b : Str} (h : Q (.bl (decide (a = b))) H) : rEqA K (.str a) (.str b) H Q := .inl ⟨rfl, by rw [show decide (V.str a = V.str b) = decide (a = b) by simp]; exact h⟩
theorem rn_str {a b : Str} (h : Q (.bl (!decide (a = b))) H) : rNeA K (.str a) (.str b) H Q := .inl ⟨rfl, by rw [show decide (V.str a = V.str b) = decide (a = b) by simp]; exact h⟩
theorem re_tup {ds es : List L2.D} (h1 : DV K H (.tup ds) x) (h2 : DV K H (.tup es) y) (hd : L2.D.depths ds ≤ 40) (h : Q (.bl (L2.D.eqs ds es)) H) : rEqA K x y H Q := .inr (.inl ⟨ds, es, h1, h2, hd, h⟩)
theorem rn_tup {ds es : List L2.D} (h1 : DV K H (.tup ds) x) (h2 : DV K H (.tup es) y) (hd : L2.D.depths ds ≤ 40) (h : Q (.bl (!L2.D.eqs ds es)) H) : rNeA K x y H Q := .inr (.inl ⟨ds, es, h1, h2, hd, h⟩)
end

/-! ### the data of a row of numbers -/
theorem dvs_ints {K : PySem.W.Frag} {H : Hp} : ∀ ns : List Int, DVs K H (ns.map D.int) (ns.map V.int)
  | [] => by rw [List.map_nil, DVs]; rfl
  | n :: ns => by rw [List.map_cons, DVs]; exact ⟨_, _, rfl, by rw [DV], dvs_ints ns⟩
theorem Ints.dv {K : PySem.W.Frag} {H : Hp} {v : V} {ns : List Int} (h : Ints H v ns) : DV K H (.tup (ns.map D.int)) v := by
  obtain ⟨a, e, q⟩ := h
  rw [DV]
  exact ⟨a, _, e, .of q, dvs_ints ns⟩
theorem depths_ints : ∀ ns : List Int, D.depths (ns.map D.int) = 0
  | [] => by rw [List.map_nil, D.depths]
  | n :: ns => by
    have e : D.depth (.int n) = 0 := by simp [D.depth]
    rw [List.map_cons, D.depths, depths_ints ns, e]; rfl
theorem eqs_ints : ∀ ns ms : List Int, D.eqs (ns.map D.int) (ms.map D.int) = decide (ns = ms)
  | [], [] => by simp [D.eqs]
  | [], m :: ms => by simp [D.eqs]
  | n :: ns, [] => by simp [D.eqs]
  | n :: ns, m :: ms => by
    rw [List.map_cons, List.map_cons, D.eqs, D.eq, eqs_ints ns ms]
    by_cases h1 : n = m <;> by_cases h2 : ns = ms <;> simp [h1, h2]

/-! ### a def of the text -/
structure Fn (P : Program) (w : World) (K : PySem.W.Frag) (mg : Str → Option Value) (base : Heap) (CX : CXT) (k : Nat) (x : Str) (f : Addr) (fd : FuncData) (ps : List Str) (sp : Sp) : Prop where
  F : FnOk P w K mg base CX k f fd ps sp
  hm : mg x = some (.ref f)
  kp : PySem.W.keepIn K (.ref f) = true
  hb : Binds K fd ps []
section
variable {X : Cx} {k : Nat} {f : Addr} {fd : FuncData} {ps : List Str} {sp : Sp} {x : Str} {p pos : Pos} {e : Expr} {es : List Expr} {t : TA}
/-- a call that cannot raise -/
theorem pf (C : Fn X.prog X.w X.K X.mg X.base CX0 k x f fd ps sp) (hr : Room k X.A) (hg : Gl X x) (ha : PA X (e :: es) t) (hdb : (x == ("__debug__" : Str)) = false := by decide)
    (he : starEach (e :: es) X.env = (false, eval e X.env) :: starEach es X.env := by rfl) (hpl : (backTo pos (starEach es X.env)).any (·.1) = false := by rfl) : PE X (.Call (.Name x p) (e :: es) [] pos) (tCall sp [] E0 t) :=
  pe_call C.F hr hg C.hm C.kp C.hb .nil pass0 ha hdb he hpl
end
section
variable {P : Program} {w : World} {K : PySem.W.Frag} {mg : Str → Option Value} {base : Heap}
/-- a def that may raise -/
theorem Fun.okX {x qual : Str} {st : Stmt} {f : Addr} {fd : FuncData} {N ps : List Str} {k : Nat} {sp : Sp} (F : Fun K x qual st f fd) (S : FnScope N ps (defScope st)) (len : ∀ vs H Q E, sp vs H Q E → vs.length = ps.length)
    (hbody : ∀ (cdv : Value) (A : Around) (outer : List Env) (s : Shared) (H : Hp) (vs : List V) (Q : VK) (E : XK), Room k (A.deeper (envOfC qual (defScope st) s.heap.objs.size f cdv)) → A.handled = none → sp vs H Q E →
      ∃ t, PSs (cxOf (CX1 P w) P w K mg base N qual (defScope st) f cdv A outer s H E) (defBody st) t ∧ t { nx := fun _ H' => Q .non H', rt := Q } (start N vs) H) : FnOk P w K mg base (CX1 P w) (k + 1) f fd ps sp := by
  obtain ⟨oc, od, kV, doc, pm, an, cdv, ct, osl, rfl, lk, hcd⟩ := F.ex
  exact fn_of lk hcd S len fun A outer s H vs Q E hr hsp => hbody cdv A outer s H vs Q E hr hr.hd hsp
/-- a statement that cannot raise, where others may -/
theorem PS.nox {X : Cx} {st : Stmt} {t : TS} (h : PS X.nox st t) : PS X st t := fun pins s σ H D I hw =>
  wpAny_mono (h pins s σ H D (I.wish _) hw) (fun _ _ q => q.unwish) fun _ _ z => False.elim z
/-- a def that cannot raise is one that may -/
theorem fn0_to1 {k : Nat} {f : Addr} {fd : FuncData} {ps : List Str} {sp : Sp} (F : FnOk P w K mg base CX0 k f fd ps sp) : FnOk P w K mg base (CX1 P w) k f fd ps sp :=
  ⟨F.len, fun A outer s H args us vs Q E hr he hb hv hs => codeAny_mono (F.run A outer s H args us vs Q E hr he hb hv hs) fun r s' q => by
    cases r with
    | error e => exact False.elim q
    | ok fl => cases fl <;> exact q⟩
end

/-! ### the closure of a comprehension's block -/
inductive ClOf (cells : List (Str × Addr)) : List (Str × Addr) → Prop
  | nil : ClOf cells []
  | cons {y : Str} {c : Addr} {r : List (Str × Addr)} (h : cells.lookup y = some c) (t : ClOf cells r) : ClOf cells ((y, c) :: r)
theorem ClOf.sub {cells : List (Str × Addr)} : ∀ {cl : List (Str × Addr)}, ClOf cells cl → ∀ y c, cl.lookup y = some c → cells.lookup y = some c
  | _, .nil, y, c, h => by simp at h
  | _, .cons (y := y') (c := c') q t, y, c, h => by
    rw [List.lookup_cons] at h
    by_cases e : y = y'
    · subst e
      simp at h
      subst h
      exact q
    · have e' : (y == y') = false := by simpa using e
      rw [e'] at h
      exact t.sub y c h
theorem comp_ok {X : Cx} {scope : Scope} {cl : List (Str × Addr)} {js : List Nat} {caps : List Str} (clos : closureFor scope X.env = pure cl) (a : (scope.names.all fun y => y.2 != .cell) = true) (kind : scope.kind = .function)
    (b : (scope.names.all fun y => y.2 != .local || scope.names.lookup y.1 == some .local) = true) (c : (scope.names.all fun y => y.2 != .free || (cl.lookup y.1).isSome) = true) (d : ClOf X.env.cells cl) (cap : Caps X (relabel scope X.env) cl js caps) : CompOk X scope cl js caps := by
  refine ⟨clos, fun y hy => ?_, kind, fun y hy e => ?_, fun y hy e => ?_, d.sub, cap⟩
  · have z := List.all_eq_true.mp a y hy
    simpa using z
  · have z := List.all_eq_true.mp b y hy
    rw [e] at z
    simpa using z
  · have z := List.all_eq_true.mp c y hy
    rw [e] at z
    simpa using z
end L2

set_option Elab.async false
set_option linter.all false
set_option maxRecDepth 100000
namespace L2
open PySem PySem.Spec PyProof.Rows
section
variable {X : Cx} {K : PySem.W.Frag} {H : Hp} {Q : VK} {v : V}
/-- a * b -/
def rMulA : R2 := fun x y H Q => rI CMulB (fun i j => .int (i * j)) x y H Q ∨ rRep x y H Q
theorem op_mulA : OpR X (binaryOp .Mult) rMulA := op_mulB.or op_rep
theorem rm_int {a b : Int} (c : CMulB a b) (h : Q (.int (a * b)) H) : rMulA (.int a) (.int b) H Q := .inl (rd_iC c h)
theorem rm_r {a b : Int} (c1 : -(2 ^ 64) < b) (c2 : b < 2 ^ 64) (h : Q (.int (a * b)) H) : rMulA (.int a) (.int b) H Q := rm_int (.inr (.inl ⟨c1, c2⟩)) h
theorem rm_l {a b : Int} (c1 : -(2 ^ 64) < a) (c2 : a < 2 ^ 64) (h : Q (.int (a * b)) H) : rMulA (.int a) (.int b) H Q := rm_int (.inl ⟨c1, c2⟩) h
/-- a[lo:hi] -/
def rSlA (K : PySem.W.Frag) : V → Option Int → Option Int → Hp → VK → Prop := fun x lo hi H Q => rSlL K x lo hi H Q ∨ rSlT K x lo hi H Q
theorem sl_any : SlR X (rSlA X.K) := sl_list.or sl_tup
theorem rs_lst {a : Addr} {xs : List V} {lo hi : Option Int} (h1 : SqL K H a xs) (h : ∀ p H', H p = none → H' p = some (.lst (cutV xs lo hi)) → Kp [] H H' → Q (.ref p) H') : rSlA K (.ref a) lo hi H Q := .inl ⟨a, xs, rfl, h1, fun p n => h p _ n upd_same (Kp.new n)⟩
theorem cut_to {xs : List V} {k : Int} (h : 0 ≤ k) : cutV xs none (some k) = xs.take k.toNat := by
  unfold cutV
  have e : HT.sIx xs.length 0 none = 0 := HT.sIx_none _ _
  have e2 : HT.sIx xs.length xs.length (some k) = min k.toNat xs.length := by
    obtain ⟨n, rfl⟩ := Int.eq_ofNat_of_zero_le h
    rw [show ((n : Nat) : Int).toNat = n by simp]
    exact HT.sIx_nat _ _ _
  rw [e, e2, List.drop_zero, Nat.sub_zero]
  rw [← List.take_eq_take_min]
/-- the built-in calls by name -/
def rLen (K : PySem.W.Frag) : List V → Hp → VK → Prop := fun xs H Q => ∃ p ys, xs = [.ref p] ∧ (SqL K H p ys ∨ SqT K H p ys) ∧ Q (.int ys.length) H
theorem call_lenA : CallR X (.builtin "len") (rLen X.K) := call_len_seq
theorem rlen_l {a : Addr} {xs : List V} (h1 : SqL K H a xs) (h : Q (.int xs.length) H) : rLen K [.ref a] H Q := ⟨a, xs, rfl, .inl h1, h⟩
theorem rlen_t {a : Addr} {xs : List V} (h1 : H a = some (.tup xs)) (h : Q (.int xs.length) H) : rLen K [.ref a] H Q := ⟨a, xs, rfl, .inr (.of h1), h⟩
def rTupOf (K : PySem.W.Frag) : List V → Hp → VK → Prop := fun xs H Q => ∃ p ys, xs = [.ref p] ∧ ((SqL K H p ys ∧ ∀ l, H l = none → Q (.ref l) (upd H l (.tup ys))) ∨ (SqT K H p ys ∧ Q (.ref p) H))
theorem call_tupA : CallR X (.type "tuple") (rTupOf X.K) := call_tuple_of
theorem rtup_l {a : Addr} {xs : List V} (h1 : SqL K H a xs) (h : ∀ p H', H p = none → H' p = some (.tup xs) → Kp [] H H' → Q (.ref p) H') : rTupOf K [.ref a] H Q := ⟨a, xs, rfl, .inl ⟨h1, fun l n => h l _ n upd_same (Kp.new n)⟩⟩
def rLstOf (K : PySem.W.Frag) : List V → Hp → VK → Prop := fun xs H Q => ∃ p ys, xs = [.ref p] ∧ (SqL K H p ys ∨ SqT K H p ys) ∧ ∀ l, H l = none → Q (.ref l) (upd H l (.lst ys))
theorem call_lstA : CallR X (.type "list") (rLstOf X.K) := call_list_of
theorem rlst_t {a : Addr} {xs : List V} (h1 : H a = some (.tup xs)) (h : ∀ p H', H p = none → H' p = some (.lst xs) → Kp [] H H' → Q (.ref p) H') : rLstOf K [.ref a] H Q := ⟨a, xs, rfl, .inr (.of h1), fun l n => h l _ n upd_same (Kp.new n)⟩
theorem rlst_l {a : Addr} {xs : List V} (h1 : SqL K H a xs) (h : ∀ p H', H p = none → H' p = some (.lst xs) → Kp [] H H' → Q (.ref p) H') : rLstOf K [.ref a] H Q := ⟨a, xs, rfl, .inl h1, fun l n => h l _ n upd_same (Kp.new n)⟩
def rSum (K : PySem.W.Frag) : List V → Hp → VK → Prop := fun xs H Q => ∃ (p : Addr) (ns : List Int), xs = [.ref p] ∧ SqL K H p (ns.map V.int) ∧ Q (.int ns.sum) H
theorem call_sumA (hc : X.calm = true) : CallR X (.builtin "sum") (rSum X.K) := call_sumL hc
theorem rsum_l {a : Addr} {ns : List Int} (h1 : SqL K H a (ns.map V.int)) (h : Q (.int ns.sum) H) : rSum K [.ref a] H Q := ⟨a, ns, rfl, h1, h⟩
def rMax : List V → Hp → VK → Prop := fun xs H Q => ∃ i j, xs = [.int i, .int j] ∧ Q (.int (if j > i then j else i)) H
theorem call_maxA (hc : X.calm = true) : CallR X (.builtin "max") rMax := call_max2 hc
theorem rmax_i {a b : Int} (h : Q (.int (if b > a then b else a)) H) : rMax [.int a, .int b] H Q := ⟨a, b, rfl, h⟩
def rMin : List V → Hp → VK → Prop := fun xs H Q => ∃ i j, xs = [.int i, .int j] ∧ Q (.int (if j < i then j else i)) H
theorem call_minA (hc : X.calm = true) : CallR X (.builtin "min") rMin := call_min2 hc
theorem rmin_i {a b : Int} (h : Q (.int (if b < a then b else a)) H) : rMin [.int a, .int b] H Q := ⟨a, b, rfl, h⟩
def rInt1 : List V → Hp → VK → Prop := fun xs H Q => (∃ i, xs = [.int i] ∧ Q (.int i) H) ∨ ∃ k, xs = [.bl k] ∧ Q (.int (if k then 1 else 0)) H
theorem call_intA : CallR X (.type "int") rInt1 := call_int1
theorem rint_b {b : Bool} (h : Q (.int (if b then 1 else 0)) H) : rInt1 [.bl b] H Q := .inr ⟨b, rfl, h⟩
theorem rint_i {a : Int} (h : Q (.int a) H) : rInt1 [.int a] H Q := .inl ⟨a, rfl, h⟩
/-- isinstance -/
def rIsA (K : PySem.W.Frag) : List V → Hp → VK → Prop := fun xs H Q => (∃ x c cv t b, xs = [x, c] ∧ (∀ u, RelV c u → u = cv) ∧ TyOf K H x t ∧ PySem.W.kitOne K t cv = some b ∧ Q (.bl b) H) ∨
    (∃ e C c cv b, xs = [.ref e, c] ∧ H e = some (excO e C) ∧ ExcK K C ∧ (∀ u, RelV c u → u = cv) ∧ PySem.W.kitOne K (.ref C) cv = some b ∧ Q (.bl b) H) ∨
    (∃ (e C tp : Addr) (cs : List Addr) (b : Bool), xs = [.ref e, .ref tp] ∧ H e = some (excO e C) ∧ ExcK K C ∧ H tp = some (.tup (cs.map V.ref)) ∧ PySem.W.kitAny K (.ref C) (cs.map Value.ref) = some b ∧ Q (.bl b) H)
theorem ris_ty {x : V} {t : Value} {n : String} {b : Bool} (ty : TyOf K H x t) (k : PySem.W.kitOne K t (.type n) = some b) (h : Q (.bl b) H) : rIsA K [x, .ty n] H Q := .inl ⟨x, .ty n, .type n, t, b, rfl, fun _ r => r, ty, k, h⟩
theorem ris_e {e C B : Addr} {b : Bool} (he : H e = some (excO e C)) (c : ExcK K C) (k : PySem.W.kitOne K (.ref C) (.ref B) = some b) (h : Q (.bl b) H) : rIsA K [.ref e, .ref B] H Q := .inr (.inl ⟨e, C, .ref B, .ref B, b, rfl, he, c, fun _ r => r, k, h⟩)
theorem ris_ety {e C : Addr} {n : String} {b : Bool} (he : H e = some (excO e C)) (c : ExcK K C) (k : PySem.W.kitOne K (.ref C) (.type n) = some b) (h : Q (.bl b) H) : rIsA K [.ref e, .ty n] H Q := .inr (.inl ⟨e, C, .ty n, .type n, b, rfl, he, c, fun _ r => r, k, h⟩)
theorem ris_et {e C tp : Addr} {cs : List Addr} {b : Bool} (he : H e = some (excO e C)) (c : ExcK K C) (ht : H tp = some (.tup (cs.map V.ref))) (k : PySem.W.kitAny K (.ref C) (cs.map Value.ref) = some b) (h : Q (.bl b) H) : rIsA K [.ref e, .ref tp] H Q := .inr (.inr ⟨e, C, tp, cs, b, rfl, he, c, ht, k, h⟩)
theorem call_isB : CallR X (.builtin "isinstance") (rIsA X.K) := call_isinst.or (call_isinstE.or call_isinstET)
theorem call_isA : CallR X (.builtin "isinstance") (fun xs H Q => (∃ x c cv t b, xs = [x, c] ∧ (∀ u, RelV c u → u = cv) ∧ TyOf X.K H x t ∧ PySem.W.kitOne X.K t cv = some b ∧ Q (.bl b) H) ∨
    (∃ e C c cv b, xs = [.ref e, c] ∧ H e = some (excO e C) ∧ ExcK X.K C ∧ (∀ u, RelV c u → u = cv) ∧ PySem.W.kitOne X.K (.ref C) cv = some b ∧ Q (.bl b) H) ∨
    (∃ (e C tp : Addr) (cs : List Addr) (b : Bool), xs = [.ref e, .ref tp] ∧ H e = some (excO e C) ∧ ExcK X.K C ∧ H tp = some (.tup (cs.map V.ref)) ∧ PySem.W.kitAny X.K (.ref C) (cs.map Value.ref) = some b ∧ Q (.bl b) H)) := call_isinst.or (call_isinstE.or call_isinstET)
/-- xs[i] = v: the heap behind it by a letter -/
theorem rd_put {l : Addr} {xs : List V} {k : Int} {j : Nat} {G : Hp → Prop} (h1 : H l = some (.lst xs)) (h2 : ixN xs.length k = some j) (h : ∀ H', H' l = some (.lst (xs.set j v)) → Kp [l] H H' → (∀ b, b ≠ l → H' b = H b) → G H') : rSetL (.ref l) (.int k) v H G :=
  rd_setL h1 h2 (h _ upd_same (Kp.set (by simp) h1) fun b hb => upd_ne hb)
theorem rd_more {l : Addr} {xs : List V} (h1 : H l = some (.lst xs)) (h2 : xs.length < sizeLine) (h : ∀ H', H' l = some (.lst (xs ++ [v])) → Kp [l] H H' → (∀ b, b ≠ l → H' b = H b) → Q .non H') : rAppend (.ref l) [v] H Q :=
  rd_app h1 h2 (h _ upd_same (Kp.set (by simp) h1) fun b hb => upd_ne hb)
theorem ixN_pos {n : Nat} {k : Int} (h0 : 0 ≤ k) (h1 : k < n) : ixN n k = some k.toNat := by unfold ixN; rw [if_pos h0, if_pos h1]
theorem rt_lst {a : Addr} {xs : List V} {f : List V → Hp → VK → Prop} (h1 : SqL K H a xs) (h : ∀ p H', H p = none → H' p = some (.tup xs) → Kp [] H H' → Q (.ref p) H') : ∃ p ys, [V.ref a] = [.ref p] ∧ ((SqL K H p ys ∧ ∀ l, H l = none → Q (.ref l) (upd H l (.tup ys))) ∨ (SqT K H p ys ∧ Q (.ref p) H)) :=
  ⟨a, xs, rfl, .inl ⟨h1, fun l n => h l _ n upd_same (Kp.new n)⟩⟩
theorem rt_tup {a : Addr} {xs : List V} (h1 : H a = some (.tup xs)) (h : ∀ p H', H p = none → H' p = some (.lst xs) → Kp [] H H' → Q (.ref p) H') : ∃ p ys, [V.ref a] = [.ref p] ∧ (SqL K H p ys ∨ SqT K H p ys) ∧ ∀ l, H l = none → Q (.ref l) (upd H l (.lst ys)) :=
  ⟨a, xs, rfl, .inr (.of h1), fun l n => h l _ n upd_same (Kp.new n)⟩
theorem rsum {a : Addr} {ns : List Int} (h1 : SqL K H a (ns.map V.int)) (h : Q (.int ns.sum) H) : ∃ (p : Addr) (ns : List Int), [V.ref a] = [.ref p] ∧ SqL K H p (ns.map V.int) ∧ Q (.int ns.sum) H := ⟨a, ns, rfl, h1, h⟩
/-- xs.index(True) of a list of truths -/
def rIndexB : V → List V → Hp → VK → Prop := fun x vs H Q => ∃ (l : Addr) (bs : List Bool) (j : Nat), x = .ref l ∧ vs = [.bl true] ∧ H l = some (.lst (bs.map V.bl)) ∧ bs[j]? = some true ∧ (∀ m, m < j → bs[m]? = some false) ∧ bs.length ≤ 1000 ∧ Q (.int j) H
theorem vals_bls : ∀ {bs : List Bool} {us : List Value}, Vals (bs.map V.bl) us → us = bs.map Value.bool
  | [], us, r => by rw [List.map_nil] at r; cases r; rfl
  | c :: cs, us, r => by
    rw [List.map_cons] at r
    cases r with
    | cons q t => cases q; rw [vals_bls t]; rfl
def isTr : Value → Bool
  | .bool b => b
  | _ => false
theorem mt_index : MtR X "list.index" rIndexB := by
  intro pins s σ H x vs v us Q I rx rv h
  obtain ⟨l, bs, j, rfl, rfl, hH, hj, hm, hz, q⟩ := h
  cases rx
  obtain ⟨u, rfl, ru⟩ := Vals.one rv
  cases ru
  obtain ⟨z, its, n, r, hl, e⟩ := I.lstM hH
  have e1 := vals_bls r
  subst e1
  have lt : j < bs.length := (List.getElem?_eq_some_iff.mp hj).1
  have gj : bs[j] = true := (List.getElem?_eq_some_iff.mp hj).2
  refine call_meets F.slot_list_index ⟨_, e, rfl⟩ F.entry_list_index (F.args_list_index_2 _ _) (SeqAt.list_indexAt l (bs.map Value.bool).toArray n none #[] (.bool true) isTr j (by simpa using lt) (by omega) (by simp [gj, isTr]) (fun m hm' hlt => ?_)) ⟨e, fun y hy => ?_, ⟨.int j, H, I.tok _, ⟨_, rfl⟩, q⟩⟩
  · have z := hm m hlt
    have lt2 : m < bs.length := by simpa using hm'
    have z2 : bs[m] = false := by
      have z3 := (List.getElem?_eq_some_iff.mp z).2
      exact z3
    simp [z2, isTr]
  · have hy' : y ∈ bs.map Value.bool := by simpa using hy
    obtain ⟨b, hb, rfl⟩ := List.mem_map.mp hy'
    have z := SeqAt.EqAt.bool_bool (A := X.A.in1) (s := s) b true
    have e2 : (b == true) = isTr (.bool b) := by cases b <;> rfl
    rw [e2] at z
    exact z
theorem rd_idx {l : Addr} {bs : List Bool} {j : Nat} (h1 : H l = some (.lst (bs.map V.bl))) (h2 : bs[j]? = some true) (h3 : ∀ m, m < j → bs[m]? = some false) (h4 : bs.length ≤ 1000) (h : Q (.int j) H) : rIndexB (.ref l) [.bl true] H Q := ⟨l, bs, j, rfl, rfl, h1, h2, h3, h4, h⟩
end
section
variable {X : Cx} {k : Nat} {f : Addr} {fd : FuncData} {ps : List Str} {sp : Sp} {x : Str} {p pos : Pos} {e : Expr} {es : List Expr} {t : TA} {P : Program} {w : World} {K : PySem.W.Frag} {mg : Str → Option Value} {base : Heap} {N : List Str} {qual : Str} {scope : Scope} {cd : Value} {A : Around} {outer : List Env} {s : Shared} {H : Hp} {E : XK} {g : Addr}
/-- a call of a def that may raise, where it does not -/
theorem pf1 (C : Fn X.prog X.w X.K X.mg X.base (CX1 X.prog X.w) k x f fd ps sp) (hr : Room k X.A) (hg : Gl X x) (ha : PA X (e :: es) t) (hdb : (x == ("__debug__" : Str)) = false := by decide)
    (he : starEach (e :: es) X.env = (false, eval e X.env) :: starEach es X.env := by rfl) (hpl : (backTo pos (starEach es X.env)).any (·.1) = false := by rfl) : PE X (.Call (.Name x p) (e :: es) [] pos) (tCall sp [] E0 t) :=
  pe_call C.F hr hg C.hm C.kp C.hb .nil (fun _ _ _ _ _ _ _ ⟨_, _, _, _, _, _, _, _, _, _, q⟩ => q.elim) ha hdb he hpl
/-- .. where it may: the exception goes on -/
theorem pfX (C : Fn P w K mg base (CX1 P w) k x g fd ps sp) (hr : Room k (A.deeper (envOfC qual scope s.heap.objs.size f cd))) (hg : Gl (cxOf (CX1 P w) P w K mg base N qual scope f cd A outer s H E) x) (ha : PA (cxOf (CX1 P w) P w K mg base N qual scope f cd A outer s H E) (e :: es) t) (hdb : (x == ("__debug__" : Str)) = false := by decide)
    (he : starEach (e :: es) (cxOf (CX1 P w) P w K mg base N qual scope f cd A outer s H E).env = (false, eval e (cxOf (CX1 P w) P w K mg base N qual scope f cd A outer s H E).env) :: starEach es (cxOf (CX1 P w) P w K mg base N qual scope f cd A outer s H E).env := by rfl) (hpl : (backTo pos (starEach es (cxOf (CX1 P w) P w K mg base N qual scope f cd A outer s H E).env)).any (·.1) = false := by rfl) :
    PE (cxOf (CX1 P w) P w K mg base N qual scope f cd A outer s H E) (.Call (.Name x p) (e :: es) [] pos) (tCall sp [] E t) :=
  pe_call (X := cxOf (CX1 P w) P w K mg base N qual scope f cd A outer s H E) C.F hr hg C.hm C.kp C.hb .nil (passes1 fun _ _ _ h => h) ha hdb he hpl
end
end L2

namespace L2
open PySem PySem.Spec PyProof.Rows
/-! ### loops and comprehensions, read -/
section
variable {K : PySem.W.Frag} {ta : TA} {tl : TE} {g : TG} {tb : TS} {D : Ends} {σ : St} {H : Hp}
def LoopJ (J : It) (g : TG) (tb : TS) (D : Ends) (σ : St) (H : Hp) : Prop := ∃ W : Nat → Nat → St → Hp → Prop, (∃ m, W 0 m σ H) ∧ ∀ i m σ H, W i m σ H →
  (J.stop i H ∧ D.nx σ H) ∨ (J.go i H ∧ ∃ N : St → Hp → Prop, (∀ σ' H', N σ' H' → ∃ m', m' < m ∧ W (i + 1) m' σ' H') ∧ ∀ x H', J.yld i H x H' → g x σ H' fun σ2 H2 => tb { D with nx := N, ct := N, bk := D.nx } σ2 H2)
def rRng (g : TG) (tb : TS) (D : Ends) (σ : St) : List V → Hp → Prop := fun vs H1 => ∃ j : Int, vs = [.int j] ∧ -(2 ^ 62) ≤ j ∧ j < 2 ^ 62 ∧ LoopJ (Itr 0 j.toNat) g tb D σ H1
theorem rd_for1 (h : ta σ H (rRng g tb D σ)) : tFor (iRng1 ta) g tb D σ H := h
theorem rrng {n : Nat} {k : Int} (e : k.toNat = n) (b : k < 2 ^ 62) (b0 : -(2 ^ 62) ≤ k) (Pv : Nat → St → Hp → Prop) (h0 : Pv 0 σ H)
    (hs : ∀ i σ H, i < n → Pv i σ H → g (.int (0 + i)) σ H fun σ2 H2 => tb { D with nx := Pv (i + 1), ct := Pv (i + 1), bk := D.nx } σ2 H2) (hd : ∀ σ H, Pv n σ H → D.nx σ H) : rRng g tb D σ [.int k] H :=
  ⟨k, rfl, b0, b, by rw [e]; exact for_range Pv h0 hs hd⟩
def rLoL (K : PySem.W.Frag) (g : TG) (tb : TS) (D : Ends) (σ : St) : VK := fun x H1 => ∃ a, x = .ref a ∧ (∃ xs, SqL K H1 a xs) ∧ LoopJ (Itl K a) g tb D σ H1
theorem rd_forL (h : tl σ H (rLoL K g tb D σ)) : tFor (iList K tl) g tb D σ H := h
theorem rlol {a : Addr} {xs : List V} (Pv : Nat → St → Hp → Prop) (h0 : Pv 0 σ H) (hl : ∀ i σ H, i ≤ xs.length → Pv i σ H → SqL K H a xs)
    (hs : ∀ i x σ H, xs[i]? = some x → Pv i σ H → g x σ H fun σ2 H2 => tb { D with nx := Pv (i + 1), ct := Pv (i + 1), bk := D.nx } σ2 H2) (hd : ∀ σ H, Pv xs.length σ H → D.nx σ H) : rLoL K g tb D σ (.ref a) H :=
  ⟨a, rfl, ⟨xs, hl 0 σ H (Nat.zero_le _) h0⟩, for_list Pv h0 hl hs hd⟩
def rLoT (K : PySem.W.Frag) (g : TG) (tb : TS) (D : Ends) (σ : St) : VK := fun x H1 => ∃ a, x = .ref a ∧ (∃ xs, SqT K H1 a xs) ∧ LoopJ (Itt K a) g tb D σ H1
theorem rd_forT (h : tl σ H (rLoT K g tb D σ)) : tFor (iTup K tl) g tb D σ H := h
theorem rlot {a : Addr} {xs : List V} (Pv : Nat → St → Hp → Prop) (h0 : Pv 0 σ H) (hl : ∀ i σ H, i ≤ xs.length → Pv i σ H → SqT K H a xs)
    (hs : ∀ i x σ H, xs[i]? = some x → Pv i σ H → g x σ H fun σ2 H2 => tb { D with nx := Pv (i + 1), ct := Pv (i + 1), bk := D.nx } σ2 H2) (hd : ∀ σ H, Pv xs.length σ H → D.nx σ H) : rLoT K g tb D σ (.ref a) H :=
  ⟨a, rfl, ⟨xs, hl 0 σ H (Nat.zero_le _) h0⟩, for_tup Pv h0 hl hs hd⟩
/-- name op= e -/
theorem rd_aug {i : Nat} {te : TE} {ti : TIp} {x : V} (e : σ[i]? = some (some x)) (h : te σ H fun y H1 => ti x y H1 fun z H2 => D.nx (σ.set i (some z)) H2) : tAug i te ti D σ H := ⟨x, e, h⟩
/-- while -/
theorem rd_while {c : TT} (W : Nat → St → Hp → Prop) {m0 : Nat} (h0 : W m0 σ H) (hs : ∀ m σ H, W m σ H → c σ H fun b H1 => if b = true then ∃ N : St → Hp → Prop, (∀ σ' H', N σ' H' → ∃ m', m' < m ∧ W m' σ' H') ∧ tb { D with nx := N, ct := N, bk := D.nx } σ H1 else D.nx σ H1) : tWhile c tb D σ H :=
  ⟨W, ⟨m0, h0⟩, hs⟩
end
section
variable {K : PySem.W.Frag} {ta : TA} {tl : TE} {k : Nat} {js : List Nat} {g : TG} {tc : TT} {te : TE} {σ : St} {H : Hp} {Q : VK}
def CompJ (J : It) (k : Nat) (js : List Nat) (g : TG) (tc : TT) (te : TE) (σ : St) (Q : VK) (H1 : Hp) : Prop := ∃ W : Nat → Nat → List V → Hp → Prop, (∃ m, W 0 m [] H1) ∧ ∀ i m ys H, W i m ys H →
  (J.stop i H ∧ ys.length ≤ sizeLine ∧ ∀ p, H p = none → Q (.ref p) (upd H p (.lst ys))) ∨
  (J.go i H ∧ ys.length ≤ sizeLine ∧ ∀ x H', J.yld i H x H' → g x (blk k js σ) H' fun σ2 H2 => tc σ2 H2 fun b H3 => if b = true then te σ2 H3 fun v H4 => ∃ m', m' < m ∧ W (i + 1) m' (ys ++ [v]) H4 else ∃ m', m' < m ∧ W (i + 1) m' ys H3)
/-- behind the i-th of n turns -/
def Nx (n i : Nat) (Pv : Nat → List V → Hp → Prop) (ys : List V) (H : Hp) : Prop := ∃ m', m' < n - i ∧ (m' = n - (i + 1) ∧ i + 1 ≤ n ∧ Pv (i + 1) ys H)
theorem nx_of {n i : Nat} {Pv : Nat → List V → Hp → Prop} {ys : List V} {H : Hp} (h : i < n) (q : Pv (i + 1) ys H) : Nx n i Pv ys H := ⟨_, by omega, rfl, h, q⟩
def rCoR (k : Nat) (js : List Nat) (g : TG) (tc : TT) (te : TE) (σ : St) (Q : VK) : List V → Hp → Prop := fun vs H1 => ∃ j : Int, vs = [.int j] ∧ -(2 ^ 62) ≤ j ∧ j < 2 ^ 62 ∧ CompJ (Itr 0 j.toNat) k js g tc te σ Q H1
theorem rd_comp1 (h : ta σ H (rCoR k js g tc te σ Q)) : tComp (iRng1 ta) k js g tc te σ H Q := h
theorem rcor {n : Nat} {kk : Int} (e : kk.toNat = n) (b : kk < 2 ^ 62) (b0 : -(2 ^ 62) ≤ kk) (Pv : Nat → List V → Hp → Prop) (h0 : Pv 0 [] H) (hl : ∀ i ys H, i ≤ n → Pv i ys H → ys.length ≤ sizeLine)
    (hs : ∀ i ys H, i < n → Pv i ys H → g (.int (0 + i)) (blk k js σ) H fun σ2 H2 => tc σ2 H2 fun b H3 => if b = true then te σ2 H3 fun v H4 => Nx n i Pv (ys ++ [v]) H4 else Nx n i Pv ys H3)
    (hd : ∀ ys H, Pv n ys H → ∀ p H', H p = none → H' p = some (.lst ys) → Kp [] H H' → Q (.ref p) H') : rCoR k js g tc te σ Q [.int kk] H := by
  refine ⟨kk, rfl, b0, b, fun i m ys H => m = n - i ∧ i ≤ n ∧ Pv i ys H, ⟨n, by simp, Nat.zero_le _, h0⟩, ?_⟩
  rintro i m ys H1 ⟨rfl, hi, p⟩
  rw [e]
  by_cases hlt : i < n
  · refine .inr ⟨hlt, hl i ys H1 hi p, fun x H' y => ?_⟩
    obtain ⟨e1, y⟩ := y
    subst e1 y
    exact hs i ys H' hlt p
  · have e1 : i = n := by omega
    subst e1
    exact .inl ⟨Nat.le_refl _, hl i ys H1 hi p, fun q hn => hd ys H1 p q _ hn upd_same (Kp.new hn)⟩
def rCoL (K : PySem.W.Frag) (k : Nat) (js : List Nat) (g : TG) (tc : TT) (te : TE) (σ : St) (Q : VK) : VK := fun x H1 => ∃ a, x = .ref a ∧ (∃ xs, SqL K H1 a xs) ∧ CompJ (Itl K a) k js g tc te σ Q H1
theorem rd_compL (h : tl σ H (rCoL K k js g tc te σ Q)) : tComp (iList K tl) k js g tc te σ H Q := h
theorem rcol {a : Addr} {xs : List V} (Pv : Nat → List V → Hp → Prop) (h0 : Pv 0 [] H) (hq : ∀ i ys H, i ≤ xs.length → Pv i ys H → SqL K H a xs) (hl : ∀ i ys H, i ≤ xs.length → Pv i ys H → ys.length ≤ sizeLine)
    (hs : ∀ i x ys H, xs[i]? = some x → Pv i ys H → g x (blk k js σ) H fun σ2 H2 => tc σ2 H2 fun b H3 => if b = true then te σ2 H3 fun v H4 => Nx xs.length i Pv (ys ++ [v]) H4 else Nx xs.length i Pv ys H3)
    (hd : ∀ ys H, Pv xs.length ys H → ∀ p H', H p = none → H' p = some (.lst ys) → Kp [] H H' → Q (.ref p) H') : rCoL K k js g tc te σ Q (.ref a) H := by
  refine ⟨a, rfl, ⟨xs, hq 0 [] H (Nat.zero_le _) h0⟩, fun i m ys H => m = xs.length - i ∧ i ≤ xs.length ∧ Pv i ys H, ⟨xs.length, by simp, Nat.zero_le _, h0⟩, ?_⟩
  rintro i m ys H1 ⟨rfl, hi, p⟩
  have q := hq i ys H1 hi p
  by_cases hlt : i < xs.length
  · refine .inr ⟨⟨xs, xs[i], q, by simp [hlt]⟩, hl i ys H1 hi p, fun x H' y => ?_⟩
    obtain ⟨e1, y⟩ := y
    subst e1
    exact hs i x ys H' (y xs q) p
  · have e1 : i = xs.length := by omega
    subst e1
    exact .inl ⟨⟨xs, q, Nat.le_refl _⟩, hl _ ys H1 hi p, fun q hn => hd ys H1 p q _ hn upd_same (Kp.new hn)⟩
end
end L2

namespace L2
open PySem PySem.Spec PyProof.Rows
def LstN (Q : VK) : List V → Hp → Prop := fun xs H1 => xs.length ≤ sizeLine ∧ ∀ p, H1 p = none → Q (.ref p) (upd H1 p (.lst xs))
def TupN (Q : VK) : List V → Hp → Prop := fun xs H1 => xs.length ≤ sizeLine ∧ ∀ p, H1 p = none → Q (.ref p) (upd H1 p (.tup xs))
theorem rd_lstN {tr : TA} {σ : St} {H : Hp} {Q : VK} (h : tr σ H (LstN Q)) : tLst tr σ H Q := h
theorem rd_tupN {tr : TA} {σ : St} {H : Hp} {Q : VK} (h : tr σ H (TupN Q)) : tTup tr σ H Q := h
theorem lstN {xs : List V} {H : Hp} {Q : VK} (hl : xs.length ≤ sizeLine) (h : ∀ p H', H p = none → H' p = some (.lst xs) → Kp [] H H' → Q (.ref p) H') : LstN Q xs H := ⟨hl, fun p n => h p _ n upd_same (Kp.new n)⟩
theorem tupN {xs : List V} {H : Hp} {Q : VK} (hl : xs.length ≤ sizeLine) (h : ∀ p H', H p = none → H' p = some (.tup xs) → Kp [] H H' → Q (.ref p) H') : TupN Q xs H := ⟨hl, fun p n => h p _ n upd_same (Kp.new n)⟩
end L2

namespace L2
open PySem PySem.Spec PyProof.Rows
/-! ### written tuples of numbers, written scales -/
def cInts : List Expr → Option (List Int)
  | [] => some []
  | .Constant (.int i) _ _ :: es => (cInts es).map (i :: ·)
  | _ => none
def tIs (ns : List Int) : TA := fun _ H Q => Q (ns.map V.int) H
theorem pa_ints {X : Cx} : ∀ (es : List Expr) (ns : List Int), cInts es = some ns → PA X es (tIs ns)
  | [], ns, h => by
    cases h
    exact fun pos pins s σ H Q I q => pa_nil pos pins s σ H Q I q
  | .Constant (.int i) j p :: es, ns, h => by
    have h' : (cInts es).map (i :: ·) = some ns := h
    obtain ⟨ms, h1, rfl⟩ := Option.map_eq_some_iff.mp h'
    have ih := pa_ints (X := X) es ms h1
    exact fun pos pins s σ H Q I q => (pa_cons (pe_int (i := i) (j := j) (pos := p)) ih) pos pins s σ H Q I q
def tIT (ns : List Int) : TE := fun _ H Q => ∀ v H', Kp [] H H' → Ints H' v ns → Q v H'
theorem pe_ints {X : Cx} {es : List Expr} {x1} {pos : Pos} {ns : List Int} (h : cInts es = some ns) (hl : ns.length ≤ 1000 := by decide) : PE X (.Tuple es x1 pos) (tIT ns) := by
  intro pins s σ H Q I q
  exact pe_tup (pa_ints es ns h) pins s σ H Q I ⟨by rw [List.length_map]; exact Nat.le_trans hl (by decide), fun p np => q _ _ (Kp.new np) ⟨p, rfl, upd_same⟩⟩
def tSc (ns ms : List Int) : TE := fun _ H Q => ∀ v H', Kp [] H H' → Scl H' v ns ms → Q v H'
theorem pe_scl {X : Cx} {es fs : List Expr} {x1 x2 x3} {pos p2 p3 : Pos} {ns ms : List Int} (h : cInts es = some ns) (h2 : cInts fs = some ms) (hl : ns.length ≤ 1000 := by decide) (hl2 : ms.length ≤ 1000 := by decide) : PE X (.Tuple [.Tuple es x2 p2, .Tuple fs x3 p3] x1 pos) (tSc ns ms) := by
  intro pins s σ H Q I q
  refine pe_tup (pa_cons (pe_ints h hl) (pa_cons (pe_ints h2 hl2) pa_nil)) pins s σ H Q I ?_
  intro v H1 k1 i1 w H2 k2 i2
  exact ⟨by show 2 ≤ sizeLine; decide, fun p np => q _ _ ((k1.trans k2).trans (Kp.new np)) ⟨p, v, w, rfl, upd_same, (i1.kp k2).kp (Kp.new (L := []) np), i2.kp (Kp.new (L := []) np)⟩⟩
theorem rd_it {ns : List Int} {σ : St} {H : Hp} {Q : VK} (h : ∀ v H', Kp [] H H' → Ints H' v ns → Q v H') : tIT ns σ H Q := h
theorem rd_sc {ns ms : List Int} {σ : St} {H : Hp} {Q : VK} (h : ∀ v H', Kp [] H H' → Scl H' v ns ms → Q v H') : tSc ns ms σ H Q := h
end L2

namespace L2
open PySem PySem.Spec PyProof.Rows
/-! ### a written list of written scales -/
def cScls : List Expr → Option (List (List Int × List Int))
  | [] => some []
  | .Tuple [.Tuple es _ _, .Tuple fs _ _] _ _ :: r => match cInts es, cInts fs, cScls r with
    | some ns, some ms, some q => if ns.length ≤ 1000 ∧ ms.length ≤ 1000 then some ((ns, ms) :: q) else none
    | _, _, _ => none
  | _ => none
def Scls (H : Hp) (ps : List (List Int × List Int)) (vs : List V) : Prop := Paired (fun p v => Scl H v p.1 p.2) ps vs
theorem Scls.kp {L : List Addr} {H H' : Hp} (k : Kp L H H') {ps : List (List Int × List Int)} {vs : List V} (h : Scls H ps vs) : Scls H' ps vs := Paired.mapP h fun _ _ s => s.kp k
theorem Scls.app {H : Hp} : ∀ {ps qs : List (List Int × List Int)} {vs ws : List V}, Scls H ps vs → Scls H qs ws → Scls H (ps ++ qs) (vs ++ ws)
  | _, _, _, _, .nil, h => h
  | _, _, _, _, .cons a t, h => .cons a (Scls.app t h)
theorem Scls.get {H : Hp} : ∀ {ps : List (List Int × List Int)} {vs : List V} {i : Nat}, Scls H ps vs → i < ps.length → ∃ p v, p ∈ ps ∧ vs[i]? = some v ∧ Scl H v p.1 p.2
  | _, _, _, .nil, h => by simp at h
  | _, _, 0, .cons a t, h => ⟨_, _, List.mem_cons_self, rfl, a⟩
  | _, _, i + 1, .cons a t, h => by
    obtain ⟨p, v, m, e, s⟩ := Scls.get (i := i) t (by simpa using h)
    exact ⟨p, v, List.mem_cons_of_mem _ m, by simpa using e, s⟩
def tSs (ps : List (List Int × List Int)) : TA := fun _ H Q => ∀ vs H', Kp [] H H' → Scls H' ps vs → Q vs H'
theorem pa_scls {X : Cx} : ∀ (es : List Expr) (ps : List (List Int × List Int)), cScls es = some ps → PA X es (tSs ps)
  | [], ps, h => by
    cases h
    exact fun pos pins s σ H Q I q => pa_nil pos pins s σ H Q I (q _ _ Kp.refl .nil)
  | .Tuple [.Tuple es x2 p2, .Tuple fs x3 p3] x1 p1 :: r, ps, h => by
    rw [cScls] at h
    cases h1 : cInts es with
    | none => rw [h1] at h; cases h
    | some ns =>
      cases h2 : cInts fs with
      | none => rw [h1, h2] at h; cases h
      | some ms =>
        cases h3 : cScls r with
        | none => rw [h1, h2, h3] at h; cases h
        | some q =>
          rw [h1, h2, h3] at h
          by_cases hl : ns.length ≤ 1000 ∧ ms.length ≤ 1000
          · have h' : (if ns.length ≤ 1000 ∧ ms.length ≤ 1000 then some ((ns, ms) :: q) else none) = some ps := h
            rw [if_pos hl] at h'
            cases h'
            have ih := pa_scls (X := X) r q h3
            intro pos pins s σ H Q I qq
            refine (pa_cons (pe_scl h1 h2 hl.1 hl.2) ih) pos pins s σ H Q I ?_
            intro v H1 k1 s1 vs H2 k2 s2
            exact qq _ _ (k1.trans k2) (.cons (s1.kp k2) s2)
          · have h' : (if ns.length ≤ 1000 ∧ ms.length ≤ 1000 then some ((ns, ms) :: q) else none) = some ps := h
            rw [if_neg hl] at h'
            cases h'
def tSL (ps : List (List Int × List Int)) : TE := fun _ H Q => ∀ p vs H', H p = none → H' p = some (.lst vs) → Kp [] H H' → Scls H' ps vs → Q (.ref p) H'
theorem pe_scls {X : Cx} {es : List Expr} {pos : Pos} {ps : List (List Int × List Int)} (h : cScls es = some ps) (hl : ps.length ≤ 1000 := by decide) : PE X (.List es pos) (tSL ps) := by
  intro pins s σ H Q I q
  refine pe_lst (pa_scls es ps h) pins s σ H Q I fun vs H1 k1 s1 => ⟨?_, fun p np => q p vs _ (k1.non np) upd_same (k1.trans (Kp.new np)) (s1.kp (Kp.new (L := []) np))⟩
  have e := Paired.length s1
  exact Nat.le_trans (by omega : vs.length ≤ 1000) (by decide)
end L2

namespace L2
open PySem
theorem sw_list {es : List Expr} {p : Pos} {t : Option Expr} {l : Nat} {env : Env} : swapsWith (.List es p) t l env = pure false := rfl
theorem sw_binop {a b : Expr} {o : Operator} {p : Pos} {t : Option Expr} {l : Nat} {env : Env} : swapsWith (.BinOp a o b p) t l env = pure false := rfl
theorem sw_tuple {es : List Expr} {k} {p : Pos} {t : Option Expr} {l : Nat} {env : Env} : swapsWith (.Tuple es k p) t l env = pure false := rfl
theorem sw_sub {a b : Expr} {p : Pos} {t : Option Expr} {l : Nat} {env : Env} : swapsWith (.Subscript a b p) t l env = pure false := rfl
end L2

namespace L2
open PySem PySem.Spec PyProof.Rows
/-- name = [written scales] -/
theorem ps_setScls {X : Cx} {i : Nat} {x : Str} {es : List Expr} {p1 p2 p3 : Pos} {ps : List (List Int × List Int)} (hN : X.N.Nodup) (hi : X.N[i]? = some x) (hx : X.env.scope.names.lookup x = some .local) (h : cScls es = some ps) (hl : ps.length ≤ 1000) :
    PS X (.Assign [.Name x p1] (.List es p2) p3) (tAsg (tSL ps) (gName i)) := ps_set hN hi (.inl hx) (pe_scls h hl) (hs := sw_list) (hf := .inr hx)
theorem pe_addScls {X : Cx} {a : Expr} {ta : TE} {es : List Expr} {p2 p3 : Pos} {ps : List (List Int × List Int)} (ha : PE X a ta) (h : cScls es = some ps) (hl : ps.length ≤ 1000) : PE X (.BinOp a .Add (.List es p2) p3) (tOp (rAddA X.K) ta (tSL ps)) := pe_op op_addA ha (pe_scls h hl)
end L2

set_option Elab.async false
set_option linter.all false
set_option maxRecDepth 100000
namespace L2
open PySem PySem.Spec PyProof.Rows

/-! ### e[::-1] of a list -/
theorem fm_some {α β : Type} {f : α → Option β} {g : α → β} : ∀ {l : List α}, (∀ x ∈ l, f x = some (g x)) → l.filterMap f = l.map g
  | [], _ => rfl
  | x :: r, h => by rw [List.filterMap_cons, h x (by simp), List.map_cons, fm_some fun y hy => h y (List.mem_cons_of_mem _ hy)]
theorem pick_back (its : List Value) : slicePick its.toArray none none (some (-1)) = its.reverse.toArray := by
  unfold slicePick
  have e1 : (sliceBounds none none (some (-1)) its.toArray.size) = ((its.length : Int) - 1, -1, -1) := by
    simp [sliceBounds]
  rw [e1]
  have e2 : sliceRange ((its.length : Int) - 1) (-1) (-1) = (List.range its.length).map fun k => its.length - 1 - k := by
    unfold sliceRange
    rw [if_neg (by decide)]
    have c : (if ((its.length : Int) - 1) > -1 then (((its.length : Int) - 1) - -1 - -1 - 1) / (- -1) else 0).toNat = its.length := by
      by_cases h : ((its.length : Int) - 1) > -1
      · rw [if_pos h]; simp
      · rw [if_neg h]; omega
    simp only [c]
    refine List.map_congr_left fun k hk => ?_
    have := List.mem_range.mp hk
    omega
  rw [e2]
  congr 1
  refine List.ext_getElem? fun i => ?_
  rw [List.filterMap_map]
  have e3 : (List.range its.length).filterMap ((fun x => its.toArray[x]?) ∘ fun k => its.length - 1 - k) = (List.range its.length).map fun k => (its[its.length - 1 - k]?).getD default := by
    refine fm_some fun k hk => ?_
    have := List.mem_range.mp hk
    have lt : its.length - 1 - k < its.length := by omega
    simp [lt]
  rw [e3]
  by_cases hi : i < its.length
  · rw [List.getElem?_map, List.getElem?_range hi, List.getElem?_reverse hi]
    have lt : its.length - 1 - i < its.length := by omega
    simp [lt]
  · rw [List.getElem?_eq_none (by simp; omega), List.getElem?_eq_none (by simp; omega)]
section
variable {X : Cx} {e se : Expr} {te : TE} {ts : TO} {p2 pos : Pos}
def rRev (K : PySem.W.Frag) : V → Option Int → Hp → VK → Prop := fun x st H Q => ∃ a xs, x = .ref a ∧ st = some (-1) ∧ SqL K H a xs ∧ ∀ p, H p = none → Q (.ref p) (upd H p (.lst xs.reverse))
def tRev (K : PySem.W.Frag) (te : TE) (ts : TO) : TE := fun σ H Q => te σ H fun x H1 => ts σ H1 fun st H2 => rRev K x st H2 Q
theorem pe_revE (he : PE X e te) (hs : PO X (some se) ts) : PE X (.Subscript e (.Slice none none (some se) p2) pos) (tRev X.K te ts) := by
  intro pins s σ H Q I h
  refine Subscript_ (thn (he pins s σ H _ I h) fun v s1 ⟨x, H1, I1, r1, q1⟩ => ?_)
  refine wpAny_Slice ?_
  rw [evalPart_none]
  refine wpAny_pure ?_
  refine wpAny_pure ?_
  refine thn (hs pins s1 σ H1 _ I1 q1) fun vs s3 ⟨st, H3, I3, ps, q3⟩ => ?_
  obtain ⟨a, xs, rfl, rfl, hx, q⟩ := q3
  cases r1
  have I4 : Inv X pins σ H3 { s3 with heap := s3.heap.push { cls := .type "slice", data := .fields #[.none, .none, vs] } } := I3.kept (t' := s3.toks) fun b ob q => Heap.get?_push_of_some _ q
  obtain ⟨its, r, ht, hz⟩ := I4.list hx
  show wpAny (model X.prog X.w) X.A (subscriptTail e (.Slice none none (some se) p2) (.ref a) (.ref s3.heap.objs.size)) (EP X pins σ Q) X.xe { s3 with heap := s3.heap.push { cls := .type "slice", data := .fields #[.none, .none, vs] } }
  refine tail_any (T := "list") (ops := [.ref a, .ref s3.heap.objs.size]) ht.isList.typeIs slot_list_getitem.lookup ?_ (by with_unfolding_all rfl)
  refine wpAny_getItem_list_slice ht.isList (Heap.IsSliceOf.new ..) .none .none ps (by decide) ?_ (by rw [List.size_toArray, ← r.length]; exact hz)
  rw [pick_back]
  refine ⟨.ref _, _, I4.laid (t' := s3.toks) (o := .lst xs.reverse) (fun b ob q => Heap.get?_push_of_some _ q) (Nat.le_refl _) ?_, rfl, q _ (I4.hok.fresh (Nat.le_refl _))⟩
  exact ⟨by rw [List.length_reverse]; exact hz, _, 0, r.reverse, Heap.get?_push_size _ rfl⟩
theorem pe_rev (he : PE X e te) (hs : PO X (some se) ts) : PE X (.Subscript e (.Slice none none (some se) p2) pos) (tRev X.K te ts) := pe_revE he hs
variable {K : PySem.W.Frag} {σ : St} {H : Hp} {Q : VK}
theorem rd_rev (h : te σ H fun x H1 => ts σ H1 fun st H2 => rRev K x st H2 Q) : tRev K te ts σ H Q := h
theorem rr_l {a : Addr} {xs : List V} (h1 : SqL K H a xs) (h : ∀ p H', H p = none → H' p = some (.lst xs.reverse) → Kp [] H H' → Q (.ref p) H') : rRev K (.ref a) (some (-1)) H Q := ⟨a, xs, rfl, rfl, h1, fun p n => h p _ n upd_same (Kp.new n)⟩
end
end L2

namespace L2
open PySem PySem.Spec PyProof.Rows
/-! ### rules within a comprehension's block: the written part by its own name -/
section
variable {X : Cx} {K : PySem.W.Frag}
theorem call_isK (h : X.K = K) : CallR X (.builtin "isinstance") (rIsA K) := h ▸ call_isB
theorem call_lenK (h : X.K = K) : CallR X (.builtin "len") (rLen K) := h ▸ call_lenA
theorem ix_anyK (h : X.K = K) : IxR X (rIxA K) := h ▸ ix_any
theorem sl_anyK (h : X.K = K) : SlR X (rSlA K) := h ▸ sl_any
theorem op_addK (h : X.K = K) : OpR X (binaryOp .Add) (rAddA K) := h ▸ op_addA
end
end L2

set_option Elab.async false
set_option linter.all false
set_option maxRecDepth 100000
set_option maxHeartbeats 1000000
namespace L2
open PySem PySem.Spec PyProof.Rows

/-! ### enumerate over a tuple -/
section
variable {prog : Program} {w : World} {A : Around} {E : Value → Shared → Prop} {s : Shared}
theorem nextT_item {ti tu : Addr} {k : Nat} {its : Array Value} {v : Value} {Q : Value → Shared → Prop} (I : s.heap.IsTupleIter ti tu k) (T : s.heap.IsTuple tu its) (hv : its[k]? = some v)
    (q : ∀ g, g.IsTupleIter ti tu (k + 1) → Heap.SameBut ti s.heap g → Q v { s with heap := g }) : wpAny (model prog w) A (Builtin.SmallTypes.nextOf (.ref ti)) Q E s := by
  obtain ⟨oi, gi, ci, di⟩ := id I; obtain ⟨ot, gt, _, nt, dt⟩ := T; unfold Builtin.SmallTypes.nextOf
  refine wpAny_bind (wpAny_callSpecial?_slot (name := Str.ofString "__next__") I.typeIs F.slot_tuple_iterator_next (wpAny_call_entry F.slot_tuple_iterator_next I.typeIs F.entry_tuple_iterator_next ?_ (F.args_tuple_iterator_next_1 _)))
  show wpAny _ _ (field (.ref ti) 0 >>= _) _ _ s; refine wpAny_bind (wpAny_field gi di (x := .ref tu) rfl ?_)
  show wpAny _ _ (if (Value.ref tu == Value.none) = true then _ else _) _ _ s; rw [if_neg (show ¬ ((Value.ref tu == Value.none) = true) from Bool.false_ne_true)]
  show wpAny _ _ (field (.ref ti) 1 >>= _) _ _ s; refine wpAny_bind (wpAny_field gi di (x := .int k 0) rfl ?_)
  show wpAny _ _ (seqItems? (.ref tu) >>= _) _ _ s; refine wpAny_bind (wpAny_seqItems gt dt ?_)
  simp only [Int.toNat_natCast, hv]; refine wpAny_bind (wpAny_setField gi di (by simp) (wpAny_pure ⟨v, rfl, wpAny_pure (q _ ?_ (Heap.SameBut.update ..))⟩))
  exact ⟨_, Heap.get?_update_self _ gi (Obj.isFreed_of_fields (Obj.data_mapFields di _)), (Obj.cls_mapFields ..).trans ci, by rw [Obj.data_mapFields di]; simp [rawInt]⟩
theorem nextT_end {ti tu : Addr} {k : Nat} {its : Array Value} {Q : Value → Shared → Prop} (nh : A.handled = none) (I : s.heap.IsTupleIter ti tu k) (T : s.heap.IsTuple tu its) (hv : its[k]? = none)
    (q : ∀ g x, Heap.ExtBut ti s.heap g → (∃ o, g.get? x = some o ∧ o.cls = .type "StopIteration") → E (.ref x) { s with heap := g }) : wpAny (model prog w) A (Builtin.SmallTypes.nextOf (.ref ti)) Q E s := by
  obtain ⟨oi, gi, ci, di⟩ := id I; obtain ⟨ot, gt, _, nt, dt⟩ := T; unfold Builtin.SmallTypes.nextOf
  refine wpAny_bind (wpAny_callSpecial?_slot (name := Str.ofString "__next__") I.typeIs F.slot_tuple_iterator_next (wpAny_call_entry F.slot_tuple_iterator_next I.typeIs F.entry_tuple_iterator_next ?_ (F.args_tuple_iterator_next_1 _)))
  show wpAny _ _ (field (.ref ti) 0 >>= _) _ _ s; refine wpAny_bind (wpAny_field gi di (x := .ref tu) rfl ?_)
  show wpAny _ _ (if (Value.ref tu == Value.none) = true then _ else _) _ _ s; rw [if_neg (show ¬ ((Value.ref tu == Value.none) = true) from Bool.false_ne_true)]
  show wpAny _ _ (field (.ref ti) 1 >>= _) _ _ s; refine wpAny_bind (wpAny_field gi di (x := .int k 0) rfl ?_)
  show wpAny _ _ (seqItems? (.ref tu) >>= _) _ _ s; refine wpAny_bind (wpAny_seqItems gt dt ?_)
  simp only [Int.toNat_natCast, hv]; refine wpAny_bind (wpAny_rule (wpAny_bind (wpAny_setField gi di (by simp) ?_)))
  show wpAny _ _ (newExc (.type "StopIteration") [] >>= _) _ _ _; refine wpAny_bind ?_; simp only [newExc, newTuple]; refine wpAny_bind (wpAny_newObj_type ?_ (by size_fits))
  refine wpAny_bind (m := firstArgMember _ _) (wpAny_of_eq (a := Value.none) (by first | rfl | (simp only [firstArgMember]; rfl)) ?_); refine wpAny_newObj_type ?_ (by size_fits)
  simp only [raiseNew]; refine wpAny_bind (wpAny_handled ?_); first | rw [show A.in1.handled = none from nh] | rw [nh]
  refine wpAny_bind (wpAny_pure (wpAny_throw ?_)); exact q _ _ (((Heap.SameBut.update ..).extBut.push _).push _) ⟨_, Heap.get?_push_size _ rfl, rfl⟩

theorem enumT_next {en ti tu : Addr} {k : Nat} {its : Array Value} {v was : Value} {Q : Value → Shared → Prop} (N : IsEnum s.heap en ti k was) (I : s.heap.IsTupleIter ti tu k) (T : s.heap.IsTuple tu its) (hv : its[k]? = some v) (ne : en ≠ ti)
    (q : ∀ g, IsEnumOut g en ti ((k : Int) + 1) v s.heap.objs.size → g.IsTupleIter ti tu (k + 1) → g.get? s.heap.objs.size = some { cls := .type "tuple", data := .seq #[.int k s.toks, v] } → g.objs.size = s.heap.objs.size + 1 →
      (∀ b o, b ≠ en → b ≠ ti → s.heap.get? b = some o → g.get? b = some o) → Q (.ref s.heap.objs.size) { s with heap := g, toks := s.toks + 1 }) :
    wpAny (model prog w) A (Builtin.«enumerate.__next__» ⟨[.ref en], []⟩) (fun fin s' => ∃ r, fin = .done (.ret r) ∧ Q r s') E s := by
  obtain ⟨g0, gn, dr, tk, os⟩ := s
  show wpAny _ _ (field (.ref en) 2 >>= _) _ _ _; refine wpAny_bind (wpAny_field N rfl (x := .ref ti) rfl ?_); refine wpAny_bind (nextT_item I T hv fun g1 I1 S1 => ?_)
  replace S1 : Heap.SameBut ti g0 g1 := S1; have N1 : IsEnum g1 en ti k was := (S1.2 en ne).trans N
  show wpAny _ _ (field (.ref en) 3 >>= _) _ _ ⟨g1, gn, dr, tk, os⟩; refine wpAny_bind (wpAny_field N1 rfl (x := rawInt k) rfl ?_)
  show wpAny _ _ (field (.ref en) 4 >>= _) _ _ ⟨g1, gn, dr, tk, os⟩; refine wpAny_bind (wpAny_field N1 rfl (x := .none) rfl ?_)
  show wpAny _ _ (mkInt k >>= _) _ _ ⟨g1, gn, dr, tk, os⟩; refine wpAny_bind (wpAny_mkInt ?_)
  show wpAny _ _ (setField (.ref en) 3 (rawInt ((k : Int) + 1)) >>= _) _ _ ⟨g1, gn, dr, tk + 1, os⟩; refine wpAny_bind (wpAny_setField_rec N1 (by simp) fun g2 N2 S2 => ?_)
  replace S2 : Heap.SameBut en g1 g2 := S2; replace N2 : IsEnum g2 en ti ((k : Int) + 1) was := N2
  show wpAny _ _ (setField (.ref en) 4 .none >>= _) _ _ ⟨g2, gn, dr, tk + 1, os⟩; refine wpAny_bind (wpAny_setField_rec N2 (by simp) fun g3 N3 S3 => ?_)
  replace S3 : Heap.SameBut en g2 g3 := S3; replace N3 : IsEnum g3 en ti ((k : Int) + 1) was := N3
  show wpAny _ _ (newTuple [.int k tk, v] >>= _) _ _ ⟨g3, gn, dr, tk + 1, os⟩; refine wpAny_bind (wpAny_newTuple ?_)
  have N4 : IsEnum (g3.push { cls := .type "tuple", data := .seq #[.int k tk, v] }) en ti ((k : Int) + 1) was := Heap.get?_push_of_some _ N3
  generalize eg : g3.push { cls := .type "tuple", data := .seq #[.int k tk, v] } = g4 at N4
  have z3 : g3.objs.size = g0.objs.size := by rw [S3.1, S2.1, S1.1]
  have lt : en < g0.objs.size := Heap.lt_size N
  have t4 : g4.get? g0.objs.size = some { cls := .type "tuple", data := .seq #[.int k tk, v] } := by rw [← eg, ← z3]; exact Heap.get?_push_size _ rfl
  have z4 : g4.objs.size = g0.objs.size + 1 := by rw [← eg, Heap.size_push, z3]
  have k4 : ∀ b o, b ≠ en → b ≠ ti → g0.get? b = some o → g4.get? b = some o := fun b o h1 h2 h3 => by rw [← eg]; exact Heap.get?_push_of_some _ (S3.extBut b o h1 (S2.extBut b o h1 (S1.extBut b o h2 h3)))
  have i4 : g4.IsTupleIter ti tu (k + 1) := by rw [← eg]; obtain ⟨o, go, r⟩ := (I1.extBut S2.extBut (Ne.symm ne)).extBut S3.extBut (Ne.symm ne); exact ⟨o, Heap.get?_push_of_some _ go, r⟩
  show wpAny _ _ (Builtin.SmallTypes.ownedTupleIsFree (.ref en) >>= _) _ _ ⟨g4, gn, dr, tk + 1, os⟩; rw [z3]; clear eg N3 S3 N2 S2 N1 S1 I1 z3 g3 g2 g1
  refine wpAny_bind ?_; unfold Builtin.SmallTypes.ownedTupleIsFree; refine wpAny_bind (wpAny_field N4 rfl (x := .none) rfl (wpAny_pure ?_)); simp only [if_true]; refine wpAny_bind (wpAny_rule ?_)
  refine wpAny_bind (wpAny_field N4 rfl (x := was) rfl ?_); refine wpAny_bind (wpAny_setField_rec N4 (by simp) fun g5 N5 S5 => ?_)
  replace S5 : Heap.SameBut en g4 g5 := S5; replace N5 : IsEnum g5 en ti ((k : Int) + 1) v := N5
  show wpAny _ _ (Builtin.SmallTypes.ownedTupleHandOut (.ref en) (.ref g0.objs.size) >>= _) _ _ ⟨g5, gn, dr, tk + 1, os⟩
  refine wpAny_bind ?_; unfold Builtin.SmallTypes.ownedTupleHandOut; refine wpAny_bind (wpAny_setField_rec N5 (by simp) fun g6 N6 S6 => ?_)
  replace S6 : Heap.SameBut en g5 g6 := S6; replace N6 : IsEnumOut g6 en ti ((k : Int) + 1) v g0.objs.size := N6
  refine wpAny_setField_rec N6 (by simp) fun g7 N7 S7 => ?_; replace S7 : Heap.SameBut en g6 g7 := S7; replace N7 : IsEnumOut g7 en ti ((k : Int) + 1) v g0.objs.size := N7
  refine wpAny_bind (wpAny_letGo (wpAny_pure ⟨_, rfl, q g7 N7 (((i4.extBut S5.extBut (Ne.symm ne)).extBut S6.extBut (Ne.symm ne)).extBut S7.extBut (Ne.symm ne)) ?_ (by rw [S7.1, S6.1, S5.1, z4]) fun b o h1 h2 h3 => S7.extBut b o h1 (S6.extBut b o h1 (S5.extBut b o h1 (k4 b o h1 h2 h3)))⟩))
  exact S7.extBut _ _ (Nat.ne_of_gt lt) (S6.extBut _ _ (Nat.ne_of_gt lt) (S5.extBut _ _ (Nat.ne_of_gt lt) t4))
theorem pyNextE_item {en ti tu : Addr} {k : Nat} {its : Array Value} {v was : Value} {Q : Option Value → Shared → Prop} (N : IsEnum s.heap en ti k was) (I : s.heap.IsTupleIter ti tu k) (T : s.heap.IsTuple tu its) (hv : its[k]? = some v) (ne : en ≠ ti)
    (q : ∀ g, IsEnumOut g en ti ((k : Int) + 1) v s.heap.objs.size → g.IsTupleIter ti tu (k + 1) → g.get? s.heap.objs.size = some { cls := .type "tuple", data := .seq #[.int k s.toks, v] } → g.objs.size = s.heap.objs.size + 1 →
      (∀ b o, b ≠ en → b ≠ ti → s.heap.get? b = some o → g.get? b = some o) → Q (some (.ref s.heap.objs.size)) { s with heap := g, toks := s.toks + 1 }) : wpAny (model prog w) A (pyNext (.ref en)) Q E s := by
  have ty : s.TypeIs (.ref en) "enumerate" := ⟨_, N, rfl⟩
  unfold pyNext; exact wpAny_bind (wpAny_attempt (wpAny_callSpecial?_slot (name := Str.ofString "__next__") ty F.slot_enumerate_next (wpAny_call_entry F.slot_enumerate_next ty F.entry_enumerate_next (enumT_next N I T hv ne fun g a b c d k => wpAny_pure (q g a b c d k)) (F.args_enumerate_next_1 _))))
theorem pyNextE_end {en ti tu : Addr} {k : Nat} {its : Array Value} {was : Value} {Q : Option Value → Shared → Prop} (nh : A.handled = none) (N : IsEnum s.heap en ti k was) (I : s.heap.IsTupleIter ti tu k) (T : s.heap.IsTuple tu its) (hv : its[k]? = none)
    (q : ∀ g, Heap.ExtBut ti s.heap g → Q none { s with heap := g }) : wpAny (model prog w) A (pyNext (.ref en)) Q E s := by
  have ty : s.TypeIs (.ref en) "enumerate" := ⟨_, N, rfl⟩
  unfold pyNext; refine wpAny_bind (wpAny_attempt (wpAny_callSpecial?_slot (name := Str.ofString "__next__") ty F.slot_enumerate_next (wpAny_call_entry F.slot_enumerate_next ty F.entry_enumerate_next ?_ (F.args_enumerate_next_1 _))))
  show wpAny _ _ (field (.ref en) 2 >>= _) _ _ _; refine wpAny_bind (wpAny_field N rfl (x := .ref ti) rfl ?_)
  refine wpAny_bind (nextT_end nh I T hv fun g x eb hx => ?_); obtain ⟨o, go, co⟩ := hx
  refine wpAny_bind (wpAny_isInstance (T := "StopIteration") (b := true) ⟨o, go, co⟩ isSubtype_stop ?_); exact wpAny_pure (q _ eb)
theorem meetsE_new (tu : Addr) (its : Array Value) (n : Nat) (dc : Option Addr) (sl : Array (Option Value)) :
    Meets (Builtin.«enumerate.__new__» ⟨[.type "enumerate", .ref tu], []⟩) (fun _ R s => s.heap.get? tu = some { cls := .type "tuple", dict := dc, data := .seq its n, slots := sl } ∧
      R (.ok (.ret (.ref (s.heap.push { cls := .type "tuple_iterator", data := .fields #[.ref tu, .int 0 0] }).objs.size)))
        { s with heap := (s.heap.push { cls := .type "tuple_iterator", data := .fields #[.ref tu, .int 0 0] }).push { cls := .type "enumerate", data := .fields #[.none, .bool false, .ref s.heap.objs.size, rawInt 0, .none, .none] } }) :=
  .of_wp fun prog w A R s h => by
    obtain ⟨g0, gn, dr, tk, os⟩ := s; obtain ⟨gt, h⟩ := h; have sb := sub_enumerate
    have T : Heap.IsTuple (Shared.heap ⟨g0, gn, dr, tk, os⟩) tu its := ⟨_, gt, rfl, n, rfl⟩
    wp_walk using AutoSeq1.wpAny_loadPart' gt
    refine wpAny_stack_any fun st => wpAny_pure ?_
    split
    · rename_i c _ _ _ _ _
      cases (c == Value.type "enumerate") <;> (wp_walk using AutoSeq1.wpAny_loadPart' gt, wpAny_pyIter_tuple T; exact ⟨_, rfl, h⟩)
    · wp_walk using AutoSeq1.wpAny_loadPart' gt, wpAny_pyIter_tuple T; exact ⟨_, rfl, h⟩
theorem callE_tup {tu : Addr} {its : Array Value} {Q : Value → Shared → Prop} (T : s.heap.IsTuple tu its)
    (q : ∀ g, IsEnum g (s.heap.objs.size + 1) s.heap.objs.size 0 .none → g.IsTupleIter s.heap.objs.size tu 0 → g.objs.size = s.heap.objs.size + 2 → (∀ b o, s.heap.get? b = some o → g.get? b = some o) → Q (.ref (s.heap.objs.size + 1)) { s with heap := g }) :
    wpAny (model prog w) A (call (.type "enumerate") [.ref tu]) Q E s := by
  obtain ⟨⟨c, dc, dt, sl⟩, gt, hc, n, hd⟩ := T; replace hc : c = .type "tuple" := hc; replace hd : dt = .seq its n := hd; subst hc hd
  refine callType_new F.called_enumerate (by decide) (F.typeCall_enumerate_1 _) (F.newCall_enumerate_1 _) (fun obj => F.args_object_init_2 obj _) F.entry_enumerate_new (meetsE_new tu its n dc sl) ⟨gt, ?_⟩
  have z : (s.heap.push { cls := .type "tuple_iterator", data := .fields #[.ref tu, .int 0 0] }).objs.size = s.heap.objs.size + 1 := Heap.size_push ..
  show _ ∧ _; rw [z]
  have N : IsEnum ((s.heap.push { cls := .type "tuple_iterator", data := .fields #[.ref tu, .int 0 0] }).push { cls := .type "enumerate", data := .fields #[.none, .bool false, .ref s.heap.objs.size, rawInt 0, .none, .none] }) (s.heap.objs.size + 1) s.heap.objs.size 0 .none := by
    have y := Heap.get?_push_size (s.heap.push { cls := .type "tuple_iterator", data := .fields #[.ref tu, .int 0 0] }) (o := { cls := .type "enumerate", data := .fields #[.none, .bool false, .ref s.heap.objs.size, rawInt 0, .none, .none] }) rfl
    rw [z] at y; exact y
  exact ⟨⟨_, N, rfl⟩, q _ N ⟨_, Heap.get?_push_of_some _ (Heap.get?_push_size _ rfl), rfl, rfl⟩ (by rw [Heap.size_push, z]) fun b o x => Heap.get?_push_of_some _ (Heap.get?_push_of_some _ x)⟩
end
section
variable {X : Cx} {pins : List (Addr × Obj)} {σ : St} {H : Hp} {s : Shared} {h' : Heap}
/-- the objects of an iterator have turned -/
theorem Inv.turnedL {t' : Nat} {fp : List Addr} (I : Inv X pins σ H s) (k : ∀ b o, b ∉ fp → s.heap.get? b = some o → h'.get? b = some o) (hf : ∀ b ∈ fp, FpOk X pins H b) : Inv X pins σ H { s with heap := h', toks := t' } := by
  have nf : ∀ b u, H b = some u → b ∉ fp := fun b u e z => by rw [(hf b z).1] at e; cases e
  refine I.step (g' := s.gens) (d' := s.drawn) (ch := fp) (fun b hb => ⟨(hf b hb).2.2.2.1, (hf b hb).2.1, (hf b hb).2.2.2.2.1, (hf b hb).2.2.2.2.2⟩) (fun b o _ _ hc e _ => k b o hc e) (fun b o _ _ hc e _ => ⟨o.slots, k b o hc e⟩) (fun _ _ _ _ n => n)
    (fun b o hc e => ⟨o, k b o hc e⟩) (fun _ _ e => e) (fun _ _ _ e => e) (fun b ps e => ⟨#[], by rw [e]; simp⟩) (fun m hm => ?_) (fun b u e => ?_) I.bare
  · obtain ⟨o, es, ep, ho, r⟩ := hm; exact ⟨o, es, ep, k _ o (fun z => (hf _ z).2.1 rfl) ho, r⟩
  · refine (I.hok b u e).stay (fun c v hc q => k c v ?_ q) (fun _ q => q) fun _ _ q => q
    rcases hc with z | z
    · rw [z]; exact nf b u e
    · exact nf c _ z
/-- a tuple that the iterator made is tracked from here on -/
theorem Inv.adoptT {fp : List Addr} {t' : Nat} {vs : List V} {us : List Value} {n : Nat} (I : Inv X pins σ H s) (k : ∀ b o, b ∉ fp → s.heap.get? b = some o → h'.get? b = some o) (hf : ∀ b ∈ fp, FpOk X pins H b)
    (ht : ∃ o, h'.get? s.heap.objs.size = some o ∧ o.cls = .type "tuple" ∧ ∃ n, o.data = .seq us.toArray n) (r : Vals vs us) (hl : vs.length ≤ sizeLine) : H s.heap.objs.size = none ∧ Inv X pins σ (upd H s.heap.objs.size (.tup vs)) { s with heap := h', toks := t' } := by
  have I1 := I.turnedL (t' := t') k hf
  have hn : H s.heap.objs.size = none := I.hok.fresh (Nat.le_refl _)
  have lt : ∀ {b : Addr} {o : Obj}, s.heap.get? b = some o → s.heap.objs.size ≠ b := fun e z => absurd (Heap.lt_size e) (by rw [← z]; exact Nat.lt_irrefl _)
  refine ⟨hn, I1.adoptX hn ?_ ?_ (fun x c e z => ?_) (fun p hp z => ?_) ⟨hl, us, r, ht⟩⟩
  · cases z : X.s₀.heap.get? s.heap.objs.size with
    | none => rfl
    | some o => exact absurd (Nat.lt_of_lt_of_le (Heap.lt_size z) I.sz) (Nat.lt_irrefl _)
  · intro z; exact absurd I.lt (by rw [← z]; exact Nat.lt_irrefl _)
  · obtain ⟨v, q⟩ := I.cell x c e; exact absurd q.lt (by rw [z]; exact Nat.lt_irrefl _)
  · exact lt (I.pin p hp).1 z.symm
end
/-- pairs of a place, from k on, and the item there, of the tuple at a -/
def Ite (K : PySem.W.Frag) (a : Addr) : It :=
  ⟨fun i H => ∃ xs x, SqT K H a xs ∧ xs[i]? = some x, fun i H v H' => ∃ p x, H p = none ∧ v = .ref p ∧ (∀ xs, SqT K H a xs → xs[i]? = some x) ∧ H' = upd H p (.tup [.int i, x]), fun i H => ∃ xs, SqT K H a xs ∧ xs.length ≤ i⟩
theorem turn_enum {P : Program} {w : World} {K : PySem.W.Frag} {es : List Expr} {x1 : Nat} {pos : Pos} (a en it : Addr) (ne : en ≠ it) : Turn P w K (.Tuple es x1 pos) (Ite K a) [en, it] en (fun i h => (∃ was, IsEnum h en it i was) ∧ h.IsTupleIter it a i) where
  mem := by simp
  obj := fun i h st b hb => by
    obtain ⟨⟨was, N⟩, o, go, c, d⟩ := st
    rcases List.mem_cons.mp hb with z | z
    · subst z; exact ⟨_, N, fun v z => by cases z⟩
    · have z2 := List.mem_singleton.mp z
      subst z2; exact ⟨o, go, fun v z => by rw [d] at z; cases z⟩
  keep := fun i h h' st k => by
    obtain ⟨⟨was, N⟩, o, go, r⟩ := st
    exact ⟨⟨was, k en (by simp) _ N⟩, o, k it (by simp) o go, r⟩
  item := by
    intro X hP hw hK hc i pins s σ H E I hf st hg
    subst hP hw hK
    obtain ⟨xs, x, hq, hx⟩ := hg
    obtain ⟨its, rv, p, hz⟩ := I.tuple hq
    obtain ⟨u, hu, ru⟩ := rv.get hx
    obtain ⟨⟨was, N⟩, J⟩ := st
    refine pyNextE_item N J (show s.heap.IsTuple a its.toArray from p) (v := u) (by simpa using hu) ne fun g N1 J1 t1 z1 k1 => ?_
    refine ⟨_, rfl, wpAny_letOwnedTupleGo_enum (s := { s with heap := g, toks := s.toks + 1 }) N1 fun g2 N2 S2 => ?_⟩
    have lt : en < s.heap.objs.size := Heap.lt_size N
    have k2 : ∀ b o, b ∉ [en, it] → s.heap.get? b = some o → g2.get? b = some o := fun b o hb e => (S2.2 b fun z => hb (by simp [z])).trans (k1 b o (fun z => hb (by simp [z])) (fun z => hb (by simp [z])) e)
    obtain ⟨hn, I2⟩ := I.adoptT (h' := g2) (t' := s.toks + 1) (fp := [en, it]) (vs := [.int i, x]) (us := [.int i s.toks, u]) (n := 0) k2 hf ⟨_, (S2.2 _ (Nat.ne_of_gt lt)).trans t1, rfl, _, rfl⟩ (.cons ⟨_, rfl⟩ (.cons ru .nil)) (by show 2 ≤ sizeLine; decide)
    refine ⟨.ref _, _, I2, rfl, ⟨_, x, hn, rfl, fun ys hy => by rw [I.tuple_inj hy hq]; exact hx, rfl⟩, ⟨⟨u, by simpa using N2⟩, ?_⟩, fun b hb => ?_⟩
    · obtain ⟨o, go, r⟩ := J1; exact ⟨o, (S2.2 it (Ne.symm ne)).trans go, r⟩
    · have ltb : b ≠ s.heap.objs.size := by
        obtain ⟨oi, gi, _⟩ := J
        rcases List.mem_cons.mp hb with z | z
        · rw [z]; exact Nat.ne_of_lt lt
        · rw [List.mem_singleton.mp z]; exact Nat.ne_of_lt (Heap.lt_size gi)
      rw [upd_ne ltb]; exact (hf b hb).1
  done := by
    intro X hP hw hK hc i pins s σ H E I hf st hg
    subst hP hw hK
    obtain ⟨xs, hq, hx⟩ := hg
    obtain ⟨its, rv, p, hz⟩ := I.tuple hq
    obtain ⟨⟨was, N⟩, J⟩ := st
    have hl := rv.length
    refine pyNextE_end (I.ok.hd hc) N J (show s.heap.IsTuple a its.toArray from p) (by simp; omega) fun g eb => ⟨rfl, I.turnedL (t' := s.toks) (fp := [en, it]) (fun b o hb e => eb b o (fun z => hb (by simp [z])) e) hf⟩
  self := fun _ _ _ _ _ st h => by
    obtain ⟨⟨was, N⟩, _⟩ := st
    exact wpAny_pyIter_enum N h
def iEnum (K : PySem.W.Frag) (ta : TA) : TI := fun σ H R => ta σ H fun vs H1 => ∃ a, vs = [.ref a] ∧ (∃ xs, SqT K H1 a xs) ∧ R (Ite K a) H1
section
variable {X : Cx}
theorem pi_enumerate {a : Expr} {ta : TA} {p pos tp : Pos} {es : List Expr} {x1 : Nat} (hg : Gl X "enumerate") (hm : X.mg "enumerate" = none) (ha : PA X [a] ta) (hs : starEach [a] X.env = [(false, eval a X.env)] := by rfl) :
    PI X (.Tuple es x1 tp) (.Call (.Name "enumerate" p) [a] [] pos) (iEnum X.K ta) := by
  intro pins s σ H R I h
  refine Call_ (ld_blt I hg hm boot_enumerate (PyProof.Rows.callWith_type1 (thn (ha pos pins s σ H _ I h) fun us s1 ⟨vs, H1, I1, r1, q1⟩ => ?_) hs rfl))
  obtain ⟨t, e, ⟨xs, hq⟩, q⟩ := q1
  subst e
  cases r1 with
  | cons r rr =>
    cases rr
    cases r
    obtain ⟨its, rv, pt, hz⟩ := I1.tuple hq
    refine callE_tup (show s1.heap.IsTuple t its.toArray from pt) fun g N J z k => wpAny_pyIter_enum (s := { s1 with heap := g }) N ?_
    refine ⟨s1.heap.objs.size + 1, [s1.heap.objs.size + 1, s1.heap.objs.size], _, _, H1, rfl, I1.kept (t' := s1.toks) fun b o e => k b o e, turn_enum t _ _ (Nat.succ_ne_self _), ⟨⟨_, N⟩, J⟩, fun b hb => ?_, q⟩
    have le : s1.heap.objs.size ≤ b := by
      rcases List.mem_cons.mp hb with z | z
      · rw [z]; exact Nat.le_succ _
      · rw [List.mem_singleton.mp z]; exact Nat.le_refl _
    exact I1.fpOk le (I1.hok.fresh le)
end
section
variable {K : PySem.W.Frag} {ta : TA} {g : TG} {tb : TS} {D : Ends} {σ : St} {H : Hp}
def rEnu (K : PySem.W.Frag) (g : TG) (tb : TS) (D : Ends) (σ : St) : List V → Hp → Prop := fun vs H1 => ∃ a, vs = [.ref a] ∧ (∃ xs, SqT K H1 a xs) ∧ LoopJ (Ite K a) g tb D σ H1
theorem rd_forE (h : ta σ H (rEnu K g tb D σ)) : tFor (iEnum K ta) g tb D σ H := h
theorem renu {a : Addr} {xs : List V} (Pv : Nat → St → Hp → Prop) (h0 : Pv 0 σ H) (hl : ∀ i σ H, i ≤ xs.length → Pv i σ H → SqT K H a xs)
    (hs : ∀ i x σ H, xs[i]? = some x → Pv i σ H → ∀ p H', H p = none → H' p = some (.tup [.int i, x]) → Kp [] H H' → g (.ref p) σ H' fun σ2 H2 => tb { D with nx := Pv (i + 1), ct := Pv (i + 1), bk := D.nx } σ2 H2) (hd : ∀ σ H, Pv xs.length σ H → D.nx σ H) : rEnu K g tb D σ [.ref a] H := by
  refine ⟨a, rfl, ⟨xs, hl 0 σ H (Nat.zero_le _) h0⟩, fun i m σ H => m = xs.length - i ∧ i ≤ xs.length ∧ Pv i σ H, ⟨xs.length, by simp, Nat.zero_le _, h0⟩, ?_⟩
  rintro i m σ1 H1 ⟨rfl, hi, p⟩
  have q := hl i σ1 H1 hi p
  by_cases hlt : i < xs.length
  · refine .inr ⟨⟨xs, xs[i], q, by simp [hlt]⟩, Pv (i + 1), fun σ' H' h => ⟨_, by omega, rfl, hlt, h⟩, fun x H' y => ?_⟩
    obtain ⟨b, z, hn, rfl, hz, rfl⟩ := y
    exact hs i z σ1 H1 (hz xs q) p b _ hn upd_same (Kp.new hn)
  · have e1 : i = xs.length := by omega
    subst e1
    exact .inl ⟨⟨xs, q, Nat.le_refl _⟩, hd σ1 H1 p⟩
end
end L2

set_option Elab.async false
set_option linter.all false
set_option maxRecDepth 100000
set_option maxHeartbeats 1000000
namespace L2
open PySem PySem.Spec PyProof.Rows

/-! ### zip of a tuple and a list -/
section
variable {prog : Program} {w : World} {A : Around} {E : Value → Shared → Prop} {s : Shared}
theorem zipT_next {zp tI tO ia ib la lb : Addr} {ka kb : Nat} {xs ys : Array Value} {x y a b : Value} {Q : Value → Shared → Prop} (D : ZipApart zp tI tO ia ib la lb) (Z : IsZip s.heap zp tI tO .none) (PI : IsPair s.heap tI (.ref ia) (.ref ib)) (PO : IsPair s.heap tO a b)
    (I1 : s.heap.IsTupleIter ia la ka) (I2 : s.heap.IsListIter ib lb kb) (S1 : s.heap.IsTuple la xs) (S2 : s.heap.IsList lb ys) (hx : xs[ka]? = some x) (hy : ys[kb]? = some y)
    (q : ∀ g, IsZip g zp tI tO (rawInt s.heap.objs.size) → IsPair g tO x y → g.IsTupleIter ia la (ka + 1) → g.IsListIter ib lb (kb + 1) → IsPair g s.heap.objs.size x y →
      (∀ c o, c ≠ zp → c ≠ tO → c ≠ ia → c ≠ ib → s.heap.get? c = some o → g.get? c = some o) → Q (.ref s.heap.objs.size) { s with heap := g }) :
    wpAny (model prog w) A (Builtin.«zip.__next__» ⟨[.ref zp], []⟩) (fun fin s' => ∃ v, fin = .done (.ret v) ∧ Q v s') E s := by
  show wpAny _ _ (field (.ref zp) 2 >>= _) _ _ _; refine wpAny_bind (wpAny_field Z rfl (x := .bool false) rfl ?_)
  show wpAny _ _ (field (.ref zp) 3 >>= _) _ _ _; refine wpAny_bind (wpAny_field Z rfl (x := .ref tI) rfl ?_); refine wpAny_bind (wpAny_seqItems PI rfl ?_)
  show wpAny _ _ (Builtin.SmallTypes.ownedTupleIsFree (.ref zp) >>= _) _ _ _; refine wpAny_bind ?_; unfold Builtin.SmallTypes.ownedTupleIsFree
  refine wpAny_bind (wpAny_field Z rfl (x := .none) rfl (wpAny_pure ?_)); simp only [if_true]; refine wpAny_bind (wpAny_rule ?_); refine wpAny_bind (wpAny_field Z rfl (x := .ref tO) rfl ?_)
  refine wpAny_bind (wpAny_setField_rec Z (by simp) fun g1 Z1 E1 => ?_); replace Z1 : IsZip g1 zp tI tO .ellipsis := Z1; refine wpAny_bind ?_
  simp only [List.zipIdx_cons, List.zipIdx_nil, List.forIn_cons, List.forIn_nil]; refine wpAny_bind (wpAny_bind (wpAny_onRaise ?_))
  show wpAny _ _ (Builtin.SmallTypes.nextOf (.ref ia) >>= _) _ _ _; refine wpAny_bind (nextT_item (I1.extBut E1.extBut D.i1z) (S1.extBut E1.extBut D.l1z) hx fun g2 I12 E2 => wpAny_pure ?_)
  have P2 : IsPair g2 tO a b := E2.extBut _ _ D.TOi1 (E1.extBut _ _ D.TOz PO)
  refine wpAny_bind (wpAny_seqItems P2 rfl ?_); refine wpAny_bind (wpAny_updateSeq_pair P2 fun g3 P3 E3 => ?_); replace P3 : IsPair g3 tO x b := P3
  refine wpAny_bind (wpAny_letGo (wpAny_pure ?_)); refine wpAny_bind (wpAny_bind (wpAny_onRaise ?_)); show wpAny _ _ (Builtin.SmallTypes.nextOf (.ref ib) >>= _) _ _ _
  refine wpAny_bind (wpAny_nextOf_list_item (((I2.extBut E1.extBut D.i2z).extBut E2.extBut D.i12.symm).extBut E3.extBut D.TOi2.symm) (((S2.extBut E1.extBut D.l2z).extBut E2.extBut D.l2i1).extBut E3.extBut D.l2TO) hy fun g4 I24 E4 => wpAny_pure ?_)
  have P4 : IsPair g4 tO x b := E4.extBut _ _ D.TOi2 P3
  refine wpAny_bind (wpAny_seqItems P4 rfl ?_); refine wpAny_bind (wpAny_updateSeq_pair P4 fun g5 P5 E5 => ?_); replace P5 : IsPair g5 tO x y := P5
  refine wpAny_bind (wpAny_letGo (wpAny_pure (wpAny_pure ?_))); refine wpAny_bind (wpAny_seqItems P5 rfl ?_); refine wpAny_bind (wpAny_newTuple ?_)
  have zs : g5.objs.size = s.heap.objs.size := by rw [E5.1, E4.1, E3.1, E2.1, E1.1]
  have Z5 : IsZip g5 zp tI tO .ellipsis := E5.extBut _ _ D.TOz.symm (E4.extBut _ _ D.i2z.symm (E3.extBut _ _ D.TOz.symm (E2.extBut _ _ D.i1z.symm Z1)))
  have kk : ∀ c o, c ≠ zp → c ≠ tO → c ≠ ia → c ≠ ib → s.heap.get? c = some o → g5.get? c = some o := fun c o c1 c2 c3 c4 e => E5.extBut _ _ c2 (E4.extBut _ _ c4 (E3.extBut _ _ c2 (E2.extBut _ _ c3 (E1.extBut _ _ c1 e))))
  have I15 : g5.IsTupleIter ia la (ka + 1) := ((I12.extBut E3.extBut D.TOi1.symm).extBut E4.extBut D.i12).extBut E5.extBut D.TOi1.symm
  have I25 : g5.IsListIter ib lb (kb + 1) := I24.extBut E5.extBut D.TOi2.symm
  have lz : zp < g5.objs.size := Heap.lt_size Z5
  show wpAny _ _ (Builtin.SmallTypes.ownedTupleHandOut (.ref zp) (.ref g5.objs.size) >>= _) _ _ _; refine wpAny_bind ?_; unfold Builtin.SmallTypes.ownedTupleHandOut
  have Z6 : IsZip (g5.push { cls := .type "tuple", data := .seq #[x, y] }) zp tI tO .ellipsis := Heap.get?_push_of_some _ Z5
  refine wpAny_bind (wpAny_setField_rec Z6 (by simp) fun g7 Z7 E7 => ?_); replace Z7 : IsZip g7 zp tI tO (rawInt g5.objs.size) := Z7
  refine wpAny_setField_rec Z7 (by simp) fun g8 Z8 E8 => ?_; replace Z8 : IsZip g8 zp tI tO (rawInt g5.objs.size) := Z8
  have up : ∀ c o, c ≠ zp → g5.get? c = some o → g8.get? c = some o := fun c o c1 e => E8.extBut _ _ c1 (E7.extBut _ _ c1 (Heap.get?_push_of_some _ e))
  have T8 : IsPair g8 g5.objs.size x y := E8.extBut _ _ (Nat.ne_of_gt lz) (E7.extBut _ _ (Nat.ne_of_gt lz) (Heap.get?_push_size _ rfl))
  rw [zs] at Z8 T8; refine wpAny_pure ⟨_, rfl, ?_⟩; show Q (.ref g5.objs.size) _; rw [zs]
  have I18 : g8.IsTupleIter ia la (ka + 1) := let ⟨o, e, r⟩ := I15; ⟨o, up _ o D.i1z e, r⟩
  exact q g8 Z8 (up _ _ D.TOz P5) I18 (I25.at fun o e => up _ o D.i2z e) T8 fun c o c1 c2 c3 c4 e => up c o c1 (kk c o c1 c2 c3 c4 e)
theorem zipT_end {zp tI tO ia ib la lb : Addr} {ka kb : Nat} {xs ys : Array Value} {a b : Value} {Q : Fin → Shared → Prop} (nh : A.handled = none) (D : ZipApart zp tI tO ia ib la lb) (Z : IsZip s.heap zp tI tO .none) (PI : IsPair s.heap tI (.ref ia) (.ref ib))
    (I1 : s.heap.IsTupleIter ia la ka) (S1 : s.heap.IsTuple la xs) (hx : xs[ka]? = none)
    (q : ∀ g e, (∀ c o, c ≠ zp → c ≠ ia → s.heap.get? c = some o → g.get? c = some o) → (∃ o, g.get? e = some o ∧ o.cls = .type "StopIteration") → E (.ref e) { s with heap := g }) : wpAny (model prog w) A (Builtin.«zip.__next__» ⟨[.ref zp], []⟩) Q E s := by
  show wpAny _ _ (field (.ref zp) 2 >>= _) _ _ _; refine wpAny_bind (wpAny_field Z rfl (x := .bool false) rfl ?_)
  show wpAny _ _ (field (.ref zp) 3 >>= _) _ _ _; refine wpAny_bind (wpAny_field Z rfl (x := .ref tI) rfl ?_); refine wpAny_bind (wpAny_seqItems PI rfl ?_)
  show wpAny _ _ (Builtin.SmallTypes.ownedTupleIsFree (.ref zp) >>= _) _ _ _; refine wpAny_bind ?_; unfold Builtin.SmallTypes.ownedTupleIsFree
  refine wpAny_bind (wpAny_field Z rfl (x := .none) rfl (wpAny_pure ?_)); simp only [if_true]; refine wpAny_bind (wpAny_rule ?_); refine wpAny_bind (wpAny_field Z rfl (x := .ref tO) rfl ?_)
  refine wpAny_bind (wpAny_setField_rec Z (by simp) fun g1 Z1 E1 => ?_); replace Z1 : IsZip g1 zp tI tO .ellipsis := Z1; refine wpAny_bind ?_
  simp only [List.zipIdx_cons, List.zipIdx_nil, List.forIn_cons, List.forIn_nil]; refine wpAny_bind (wpAny_bind (wpAny_onRaise ?_))
  show wpAny _ _ (Builtin.SmallTypes.nextOf (.ref ia) >>= _) _ _ _; refine wpAny_bind (nextT_end nh (I1.extBut E1.extBut D.i1z) (S1.extBut E1.extBut D.l1z) hx fun g2 e E2 he => ?_)
  obtain ⟨oe, ge, ce⟩ := he; have Z2 : IsZip g2 zp tI tO .ellipsis := E2 _ _ D.i1z.symm Z1; have ez : e ≠ zp := fun z => by subst z; rw [Z2] at ge; cases ge; simp at ce
  exact wpAny_setField_rec Z2 (by simp) fun g3 _ E3 => q g3 e (fun c o c1 c3 z => E3.extBut _ _ c1 (E2 _ _ c3 (E1.extBut _ _ c1 z))) ⟨oe, E3.extBut _ _ ez ge, ce⟩
theorem pyNextZ_item {zp tI tO ia ib la lb : Addr} {ka kb : Nat} {xs ys : Array Value} {x y a b : Value} {Q : Option Value → Shared → Prop} (D : ZipApart zp tI tO ia ib la lb) (Z : IsZip s.heap zp tI tO .none) (PI : IsPair s.heap tI (.ref ia) (.ref ib)) (PO : IsPair s.heap tO a b)
    (I1 : s.heap.IsTupleIter ia la ka) (I2 : s.heap.IsListIter ib lb kb) (S1 : s.heap.IsTuple la xs) (S2 : s.heap.IsList lb ys) (hx : xs[ka]? = some x) (hy : ys[kb]? = some y)
    (q : ∀ g, IsZip g zp tI tO (rawInt s.heap.objs.size) → IsPair g tO x y → g.IsTupleIter ia la (ka + 1) → g.IsListIter ib lb (kb + 1) → IsPair g s.heap.objs.size x y →
      (∀ c o, c ≠ zp → c ≠ tO → c ≠ ia → c ≠ ib → s.heap.get? c = some o → g.get? c = some o) → Q (some (.ref s.heap.objs.size)) { s with heap := g }) : wpAny (model prog w) A (pyNext (.ref zp)) Q E s := by
  have ty : s.TypeIs (.ref zp) "zip" := ⟨_, Z, rfl⟩
  unfold pyNext; exact wpAny_bind (wpAny_attempt (wpAny_callSpecial?_slot (name := Str.ofString "__next__") ty F.slot_zip_next (wpAny_call_entry F.slot_zip_next ty F.entry_zip_next (zipT_next D Z PI PO I1 I2 S1 S2 hx hy fun g a1 a2 a3 a4 a5 a6 => wpAny_pure (q g a1 a2 a3 a4 a5 a6)) (F.args_zip_next_1 _))))
theorem pyNextZ_end {zp tI tO ia ib la lb : Addr} {ka : Nat} {xs : Array Value} {Q : Option Value → Shared → Prop} (nh : A.handled = none) (D : ZipApart zp tI tO ia ib la lb) (Z : IsZip s.heap zp tI tO .none) (PI : IsPair s.heap tI (.ref ia) (.ref ib))
    (I1 : s.heap.IsTupleIter ia la ka) (S1 : s.heap.IsTuple la xs) (hx : xs[ka]? = none)
    (q : ∀ g, (∀ c o, c ≠ zp → c ≠ ia → s.heap.get? c = some o → g.get? c = some o) → Q none { s with heap := g }) : wpAny (model prog w) A (pyNext (.ref zp)) Q E s := by
  have ty : s.TypeIs (.ref zp) "zip" := ⟨_, Z, rfl⟩
  unfold pyNext; refine wpAny_bind (wpAny_attempt (wpAny_callSpecial?_slot (name := Str.ofString "__next__") ty F.slot_zip_next (wpAny_call_entry F.slot_zip_next ty F.entry_zip_next (zipT_end (kb := 0) (ys := #[]) (a := .none) (b := .none) nh D Z PI I1 S1 hx fun g e k he => ?_) (F.args_zip_next_1 _))))
  obtain ⟨o, go, co⟩ := he; refine wpAny_bind (wpAny_isInstance (T := "StopIteration") (b := true) ⟨o, go, co⟩ isSubtype_stop ?_); exact wpAny_pure (q _ k)
abbrev zT1 (h : Heap) (la : Addr) : Heap := h.push { cls := .type "tuple_iterator", data := .fields #[.ref la, .int 0 0] }
abbrev zT2 (h : Heap) (la lb : Addr) : Heap := (zT1 h la).push { cls := .type "list_iterator", data := .fields #[.ref lb, .int 0 0] }
abbrev zT3 (h : Heap) (la lb : Addr) : Heap := (zT2 h la lb).push { cls := .type "tuple", data := .seq #[.ref h.objs.size, .ref (zT1 h la).objs.size] }
abbrev zT4 (h : Heap) (la lb : Addr) : Heap := (zT3 h la lb).push { cls := .type "tuple", data := .seq #[.none, .none] }
abbrev zT5 (h : Heap) (la lb : Addr) : Heap := (zT4 h la lb).push { cls := .type "zip", data := .fields #[.none, .bool false, .bool false, .ref (zT2 h la lb).objs.size, .ref (zT3 h la lb).objs.size] }
theorem meetsZ_new (la lb : Addr) (xs ys : Array Value) : Meets (Builtin.«zip.__new__» ⟨[.type "zip", .ref la, .ref lb], []⟩) (fun _ R s => s.heap.IsTuple la xs ∧ s.heap.IsList lb ys ∧ R (.ok (.ret (.ref (zT4 s.heap la lb).objs.size))) { s with heap := zT5 s.heap la lb }) :=
  .of_wp fun prog w A R s h => by
    obtain ⟨g0, gn, dr, tk, os⟩ := s; obtain ⟨t1, t2, h⟩ := h; have sb := sub_zip
    have T1 : Heap.IsTuple (Shared.heap ⟨g0, gn, dr, tk, os⟩) la xs := t1
    have T2 : Heap.IsList (Shared.heap ⟨g0.push { cls := .type "tuple_iterator", data := .fields #[.ref la, .int 0 0] }, gn, dr, tk, os⟩) lb ys := Heap.IsList.push t2 _
    wp_walk using wpAny_pyIter_tuple T1, wpAny_pyIter_list T2; exact ⟨_, rfl, h⟩
theorem callZ {la lb : Addr} {xs ys : Array Value} {Q : Value → Shared → Prop} (t1 : s.heap.IsTuple la xs) (t2 : s.heap.IsList lb ys)
    (q : ∀ g, IsZip g (s.heap.objs.size + 4) (s.heap.objs.size + 2) (s.heap.objs.size + 3) .none → IsPair g (s.heap.objs.size + 2) (.ref s.heap.objs.size) (.ref (s.heap.objs.size + 1)) → IsPair g (s.heap.objs.size + 3) .none .none →
      g.IsTupleIter s.heap.objs.size la 0 → g.IsListIter (s.heap.objs.size + 1) lb 0 → (∀ c o, s.heap.get? c = some o → g.get? c = some o) → Q (.ref (s.heap.objs.size + 4)) { s with heap := g }) : wpAny (model prog w) A (call (.type "zip") [.ref la, .ref lb]) Q E s := by
  refine callType_new F.called_zip (by decide) (F.typeCall_zip_2 _ _) (F.newCall_zip_2 _ _) (fun obj => F.args_object_init_3 obj _ _) F.entry_zip_new (meetsZ_new la lb xs ys) ⟨t1, t2, ?_⟩
  have n1 : (zT1 s.heap la).objs.size = s.heap.objs.size + 1 := Heap.size_push ..
  have n2 : (zT2 s.heap la lb).objs.size = s.heap.objs.size + 2 := by rw [Heap.size_push, n1]
  have n3 : (zT3 s.heap la lb).objs.size = s.heap.objs.size + 3 := by rw [Heap.size_push, n2]
  have n4 : (zT4 s.heap la lb).objs.size = s.heap.objs.size + 4 := by rw [Heap.size_push, n3]
  have e5 : (zT5 s.heap la lb).get? (zT4 s.heap la lb).objs.size = some _ := Heap.get?_push_size _ rfl
  have e4 : (zT5 s.heap la lb).get? (zT3 s.heap la lb).objs.size = some _ := Heap.get?_push_of_some _ (Heap.get?_push_size _ rfl)
  have e3 : (zT5 s.heap la lb).get? (zT2 s.heap la lb).objs.size = some _ := Heap.get?_push_of_some _ (Heap.get?_push_of_some _ (Heap.get?_push_size _ rfl))
  have e2 : (zT5 s.heap la lb).get? (zT1 s.heap la).objs.size = some _ := Heap.get?_push_of_some _ (Heap.get?_push_of_some _ (Heap.get?_push_of_some _ (Heap.get?_push_size _ rfl)))
  have e1 : (zT5 s.heap la lb).get? s.heap.objs.size = some _ := Heap.get?_push_of_some _ (Heap.get?_push_of_some _ (Heap.get?_push_of_some _ (Heap.get?_push_of_some _ (Heap.get?_push_size _ rfl))))
  show _ ∧ _; rw [n2, n3, n4] at e5; rw [n1, n2] at e3; rw [n3] at e4; rw [n1] at e2; rw [n4]
  exact ⟨⟨_, e5, rfl⟩, q _ e5 e3 e4 ⟨_, e1, rfl, rfl⟩ ⟨_, e2, rfl, rfl⟩ fun c o x => Heap.get?_push_of_some _ (Heap.get?_push_of_some _ (Heap.get?_push_of_some _ (Heap.get?_push_of_some _ (Heap.get?_push_of_some _ x))))⟩
end
/-- pairs of the items of the tuple at a and of the list at b, as long as the tuple has some (the list is no shorter) -/
def Itz (K : PySem.W.Frag) (a b : Addr) : It :=
  ⟨fun i H => ∃ xs ys x y, SqT K H a xs ∧ SqL K H b ys ∧ xs[i]? = some x ∧ ys[i]? = some y, fun i H v H' => ∃ p x y, H p = none ∧ v = .ref p ∧ (∀ xs, SqT K H a xs → xs[i]? = some x) ∧ (∀ ys, SqL K H b ys → ys[i]? = some y) ∧ H' = upd H p (.tup [x, y]),
    fun i H => ∃ xs, SqT K H a xs ∧ xs.length ≤ i⟩
theorem turn_zip {P : Program} {w : World} {K : PySem.W.Frag} {es : List Expr} {x1 : Nat} {pos : Pos} (a b zp tI tO ia ib : Addr) (D : ZipApart zp tI tO ia ib a b) :
    Turn P w K (.Tuple es x1 pos) (Itz K a b) [zp, tO, ia, ib, tI] zp (fun i h => (IsZip h zp tI tO .none ∧ IsPair h tI (.ref ia) (.ref ib) ∧ ∃ u v, IsPair h tO u v) ∧ h.IsTupleIter ia a i ∧ h.IsListIter ib b i) where
  mem := by simp
  obj := fun i h st c hc => by
    obtain ⟨⟨Z, P1, u, v, P2⟩, ⟨o1, g1, _, d1⟩, ⟨o2, g2, _, d2⟩⟩ := st
    simp only [List.mem_cons, List.not_mem_nil, or_false] at hc
    rcases hc with rfl | rfl | rfl | rfl | rfl
    · exact ⟨_, Z, fun v z => by cases z⟩
    · exact ⟨_, P2, fun v z => by cases z⟩
    · exact ⟨o1, g1, fun v z => by rw [d1] at z; cases z⟩
    · exact ⟨o2, g2, fun v z => by rw [d2] at z; cases z⟩
    · exact ⟨_, P1, fun v z => by cases z⟩
  keep := fun i h h' st k => by
    obtain ⟨⟨Z, P1, u, v, P2⟩, ⟨o1, g1, r1⟩, ⟨o2, g2, r2⟩⟩ := st
    exact ⟨⟨k zp (by simp) _ Z, k tI (by simp) _ P1, u, v, k tO (by simp) _ P2⟩, ⟨o1, k ia (by simp) o1 g1, r1⟩, ⟨o2, k ib (by simp) o2 g2, r2⟩⟩
  item := by
    intro X hP hw hK hc i pins s σ H E I hf st hg
    subst hP hw hK
    obtain ⟨xs, ys, x, y, hq, hr, hx, hy⟩ := hg
    obtain ⟨its, rv, p, hz⟩ := I.tuple hq
    obtain ⟨jts, rw', pl, hz2⟩ := I.list hr
    obtain ⟨u, hu, ru⟩ := rv.get hx
    obtain ⟨v, hv, rv2⟩ := rw'.get hy
    obtain ⟨⟨Z, P1, a1, b1, P2⟩, J1, J2⟩ := st
    refine pyNextZ_item D Z P1 P2 J1 J2 (show s.heap.IsTuple a its.toArray from p) pl.isList (x := u) (y := v) (by simpa using hu) (by simpa using hv) fun g Z1 Q2 L1 L2 t1 k1 => ?_
    refine ⟨_, rfl, wpAny_letOwnedTupleGo_zip (s := { s with heap := g }) Z1 fun g2 Z2 S2 => ?_⟩
    have lt : zp < s.heap.objs.size := Heap.lt_size Z
    have k2 : ∀ c o, c ∉ [zp, tO, ia, ib, tI] → s.heap.get? c = some o → g2.get? c = some o := fun c o hb e => (S2.2 c fun z => hb (by simp [z])).trans (k1 c o (fun z => hb (by simp [z])) (fun z => hb (by simp [z])) (fun z => hb (by simp [z])) (fun z => hb (by simp [z])) e)
    obtain ⟨hn, I2⟩ := I.adoptT (h' := g2) (t' := s.toks) (fp := [zp, tO, ia, ib, tI]) (vs := [x, y]) (us := [u, v]) (n := 0) k2 hf ⟨_, (S2.2 _ (Nat.ne_of_gt lt)).trans t1, rfl, _, rfl⟩ (.cons ru (.cons rv2 .nil)) (by show 2 ≤ sizeLine; decide)
    refine ⟨.ref _, _, I2, rfl, ⟨_, x, y, hn, rfl, fun zs hy => by rw [I.tuple_inj hy hq]; exact hx, fun zs hy' => by rw [I.list_inj hy' hr]; exact hy, rfl⟩, ⟨⟨Z2, ?_, u, v, (S2.2 _ D.TOz).trans Q2⟩, ?_, ?_⟩, fun c hb => ?_⟩
    · exact (S2.2 _ D.TIz).trans (k1 tI _ D.TIz D.TITO D.TIi1 D.TIi2 P1)
    · obtain ⟨o, go, r⟩ := L1; exact ⟨o, (S2.2 ia D.i1z).trans go, r⟩
    · obtain ⟨o, go, r⟩ := L2; exact ⟨o, (S2.2 ib D.i2z).trans go, r⟩
    · have ltb : c ≠ s.heap.objs.size := by
        obtain ⟨o1, q1, _⟩ := J1
        obtain ⟨o2, q2, _⟩ := J2
        simp only [List.mem_cons, List.not_mem_nil, or_false] at hb
        rcases hb with rfl | rfl | rfl | rfl | rfl
        · exact Nat.ne_of_lt lt
        · exact Nat.ne_of_lt (Heap.lt_size P2)
        · exact Nat.ne_of_lt (Heap.lt_size q1)
        · exact Nat.ne_of_lt (Heap.lt_size q2)
        · exact Nat.ne_of_lt (Heap.lt_size P1)
      rw [upd_ne ltb]; exact (hf c hb).1
  done := by
    intro X hP hw hK hc i pins s σ H E I hf st hg
    subst hP hw hK
    obtain ⟨xs, hq, hx⟩ := hg
    obtain ⟨its, rv, p, hz⟩ := I.tuple hq
    obtain ⟨⟨Z, P1, a1, b1, P2⟩, J1, J2⟩ := st
    have hl := rv.length
    refine pyNextZ_end (I.ok.hd hc) D Z P1 J1 (show s.heap.IsTuple a its.toArray from p) (by simp; omega) fun g eb => ⟨rfl, I.turnedL (t' := s.toks) (fp := [zp, tO, ia, ib, tI]) (fun c o hb e => eb c o (fun z => hb (by simp [z])) (fun z => hb (by simp [z])) e) hf⟩
  self := fun _ _ _ _ _ st h => wpAny_pyIter_zip st.1.1 h
def iZip (K : PySem.W.Frag) (ta : TA) : TI := fun σ H R => ta σ H fun vs H1 => ∃ a b, vs = [.ref a, .ref b] ∧ (∃ xs, SqT K H1 a xs) ∧ (∃ ys, SqL K H1 b ys) ∧ R (Itz K a b) H1
theorem boot_zip : bootBuiltins "zip" = some (.type "zip") := by decide +kernel
section
variable {X : Cx}
theorem pi_zip {a b : Expr} {ta : TA} {p pos tp : Pos} {es : List Expr} {x1 : Nat} (hg : Gl X "zip") (hm : X.mg "zip" = none) (ha : PA X [a, b] ta) (hs : starEach [a, b] X.env = [(false, eval a X.env), (false, eval b X.env)] := by rfl) (hs2 : starEach [b] X.env = [(false, eval b X.env)] := by rfl) :
    PI X (.Tuple es x1 tp) (.Call (.Name "zip" p) [a, b] [] pos) (iZip X.K ta) := by
  intro pins s σ H R I h
  refine Call_ (ld_blt I hg hm boot_zip (PyProof.Rows.callWith_type1 (thn (ha pos pins s σ H _ I h) fun us s1 ⟨vs, H1, I1, r1, q1⟩ => ?_) (by rw [hs, hs2]) (by rw [hs2]; rfl)))
  obtain ⟨t, l, e, ⟨xs, hq⟩, ⟨ys, hr⟩, q⟩ := q1
  subst e
  cases r1 with
  | cons r rr =>
    cases rr with
    | cons r' rr =>
      cases rr
      cases r
      cases r'
      obtain ⟨its, rv, pt, hz⟩ := I1.tuple hq
      obtain ⟨jts, rw', pl, hz2⟩ := I1.list hr
      refine callZ (show s1.heap.IsTuple t its.toArray from pt) pl.isList fun g Z P1 P2 J1 J2 k => wpAny_pyIter_zip (s := { s1 with heap := g }) Z ?_
      have lt1 : t < s1.heap.objs.size := by obtain ⟨o, e, _⟩ := pt; exact Heap.lt_size e
      have lt2 : l < s1.heap.objs.size := by obtain ⟨o, e, _⟩ := pl.isList; exact Heap.lt_size e
      refine ⟨s1.heap.objs.size + 4, [s1.heap.objs.size + 4, s1.heap.objs.size + 3, s1.heap.objs.size, s1.heap.objs.size + 1, s1.heap.objs.size + 2], _, _, H1, rfl, I1.kept (t' := s1.toks) fun b o e => k b o e,
        turn_zip t l _ (s1.heap.objs.size + 2) _ _ _ ?_, ⟨⟨Z, P1, _, _, P2⟩, J1, J2⟩, fun c hb => ?_, q⟩
      · constructor <;> first | omega | (simp only [Addr] at *; omega)
      · have le : s1.heap.objs.size ≤ c := by
          simp only [List.mem_cons, List.not_mem_nil, or_false] at hb
          rcases hb with rfl | rfl | rfl | rfl | rfl <;> first | exact Nat.le_refl _ | exact Nat.le_add_right _ _
        exact I1.fpOk le (I1.hok.fresh le)
end
section
variable {K : PySem.W.Frag} {ta : TA} {k : Nat} {js : List Nat} {g : TG} {tc : TT} {te : TE} {σ : St} {H : Hp} {Q : VK}
def rCoZ (K : PySem.W.Frag) (k : Nat) (js : List Nat) (g : TG) (tc : TT) (te : TE) (σ : St) (Q : VK) : List V → Hp → Prop := fun vs H1 => ∃ a b, vs = [.ref a, .ref b] ∧ (∃ xs, SqT K H1 a xs) ∧ (∃ ys, SqL K H1 b ys) ∧ CompJ (Itz K a b) k js g tc te σ Q H1
theorem rd_compZ (h : ta σ H (rCoZ K k js g tc te σ Q)) : tComp (iZip K ta) k js g tc te σ H Q := h
theorem rcoz {a b : Addr} {xs ys : List V} (le : xs.length ≤ ys.length) (Pv : Nat → List V → Hp → Prop) (h0 : Pv 0 [] H) (hq : ∀ i zs H, i ≤ xs.length → Pv i zs H → SqT K H a xs ∧ SqL K H b ys) (hl : ∀ i zs H, i ≤ xs.length → Pv i zs H → zs.length ≤ sizeLine)
    (hs : ∀ i x y zs H, xs[i]? = some x → ys[i]? = some y → Pv i zs H → ∀ p H', H p = none → H' p = some (.tup [x, y]) → Kp [] H H' → g (.ref p) (blk k js σ) H' fun σ2 H2 => tc σ2 H2 fun b H3 => if b = true then te σ2 H3 fun v H4 => Nx xs.length i Pv (zs ++ [v]) H4 else Nx xs.length i Pv zs H3)
    (hd : ∀ zs H, Pv xs.length zs H → ∀ p H', H p = none → H' p = some (.lst zs) → Kp [] H H' → Q (.ref p) H') : rCoZ K k js g tc te σ Q [.ref a, .ref b] H := by
  refine ⟨a, b, rfl, ⟨xs, (hq 0 [] H (Nat.zero_le _) h0).1⟩, ⟨ys, (hq 0 [] H (Nat.zero_le _) h0).2⟩, fun i m zs H => m = xs.length - i ∧ i ≤ xs.length ∧ Pv i zs H, ⟨xs.length, by simp, Nat.zero_le _, h0⟩, ?_⟩
  rintro i m zs H1 ⟨rfl, hi, p⟩
  obtain ⟨q1, q2⟩ := hq i zs H1 hi p
  by_cases hlt : i < xs.length
  · have hlt2 : i < ys.length := by omega
    refine .inr ⟨⟨xs, ys, xs[i], ys[i], q1, q2, by simp [hlt], by simp [hlt2]⟩, hl i zs H1 hi p, fun x H' y => ?_⟩
    obtain ⟨c, u, v, hn, rfl, hu, hv, rfl⟩ := y
    exact hs i u v zs H1 (hu xs q1) (hv ys q2) p c _ hn upd_same (Kp.new hn)
  · have e1 : i = xs.length := by omega
    subst e1
    exact .inl ⟨⟨xs, q1, Nat.le_refl _⟩, hl _ zs H1 hi p, fun q hn => hd zs H1 p q _ hn upd_same (Kp.new hn)⟩
end
end L2

set_option Elab.async false
set_option linter.all false
set_option maxRecDepth 100000
set_option maxHeartbeats 1000000
namespace L2
open PySem PySem.Spec PyProof.Rows

/-! ### t + u, either may be empty -/
theorem addT0 (t b : Addr) (xs ys : Array Value) (n n2 : Nat) (dd dd2 : Option Addr) (sl sl2 : Array (Option Value)) (h0 : xs.isEmpty = true) :
    Meets (Builtin.«tuple.__add__» ⟨[.ref t, .ref b], []⟩) (fun _ R s => s.heap.get? t = some ⟨.type "tuple", dd, .seq xs n, sl⟩ ∧ s.heap.get? b = some ⟨.type "tuple", dd2, .seq ys n2, sl2⟩ ∧ R (.ok (.ret (.ref b))) s) :=
  .of_wp fun prog w A R s h => by
    obtain ⟨g0, gn, dr, tk, os⟩ := s; obtain ⟨e1, e2, h⟩ := h; have sb := AutoSeq1.sub_tuple_tuple
    wp_walk using AutoSeq1.wpAny_loadPart' e1, AutoSeq1.wpAny_loadPart' e2; exact ⟨_, rfl, h⟩
section
variable {X : Cx} {K : PySem.W.Frag} {H : Hp} {Q : VK}
def rCatB (K : PySem.W.Frag) : R2 := fun x y H Q => ∃ a b xs ys, x = .ref a ∧ y = .ref b ∧ H a = some (.tup xs) ∧ H b = some (.tup ys) ∧ xs.length + ys.length ≤ sizeLine ∧ ∀ p H', H' p = some (.tup (xs ++ ys)) → Kp [] H H' → Q (.ref p) H'
theorem op_catB : OpR X (binaryOp .Add) (rCatB X.K) := by
  intro pins s σ H x y v u Q I rx ry h
  obtain ⟨a, b, xs, ys, rfl, rfl, ha, hb, hz, q⟩ := h
  by_cases e : xs = []
  · subst e
    cases rx
    cases ry
    obtain ⟨its, r1, p1, _⟩ := I.tuple (SqT.of (K := X.K) ha)
    obtain ⟨jts, r2, p2, _⟩ := I.tuple (SqT.of (K := X.K) hb)
    have e1 : its = [] := r1.nil_iff.mpr rfl
    obtain ⟨⟨c1, d1, t1, l1⟩, g1, hc1, n1, hd1⟩ := id p1
    obtain ⟨⟨c2, d2, t2, l2⟩, g2, hc2, n2, hd2⟩ := id p2
    simp only at hc1 hd1 hc2 hd2
    subst hc1 hd1 hc2 hd2
    exact concat_meets ⟨_, g1, rfl⟩ ⟨_, g2, rfl⟩ noFill_tuple_add seq_tuple_add PySem.F.slot_tuple_add PySem.F.entry_tuple_add (PySem.F.args_tuple_add_2 _ _) (addT0 a b its.toArray jts.toArray n1 n2 d1 d2 l1 l2 (by simp [e1])) ⟨g1, g2, ⟨.ref b, H, I, rfl, q b H (by simpa using hb) Kp.refl⟩⟩
  · exact op_catT pins s σ H _ _ v u Q I rx ry ⟨a, b, xs, ys, rfl, rfl, SqT.of ha, SqT.of hb, e, hz, fun z => q a H (by rw [z, List.append_nil]; exact ha) Kp.refl, fun _ p n => q p _ upd_same (Kp.new n)⟩
theorem rcb {a b : Addr} {xs ys : List V} (ha : H a = some (.tup xs)) (hb : H b = some (.tup ys)) (hz : xs.length + ys.length ≤ sizeLine) (q : ∀ p H', H' p = some (.tup (xs ++ ys)) → Kp [] H H' → Q (.ref p) H') : rCatB K (.ref a) (.ref b) H Q := ⟨a, b, xs, ys, rfl, rfl, ha, hb, hz, q⟩

/-! ### t * n, t of one item -/
theorem noFill_tuple_mul : fillsNumberSlot (.type "tuple") "mul" = pure false := PySem.fillsNumberSlot_seq (id := "tuple.__mul__") (r := some (.builtin "tuple.__rmul__")) F.slot_tuple_mul.lookup (by decide +kernel) F.slot_tuple_rmul.lookup (by decide +kernel)
theorem repeat_tuple : seqRepeat? (.type "tuple") = pure (some (.builtin "tuple.__mul__")) := by
  unfold seqRepeat?; rw [PySem.seqSlot_of (T := "tuple") (name := "__mul__") (id := "tuple.__mul__") F.slot_tuple_mul.lookup (by decide +kernel), PySem.seqSlot_of (T := "tuple") (name := "__rmul__") (id := "tuple.__rmul__") F.slot_tuple_rmul.lookup (by decide +kernel)]; rfl
theorem rmulT (k : Int) (t : Tok) (l : Addr) (xs : Array Value) (n : Nat) (dd : Option Addr) (sl : Array (Option Value)) :
    Meets (Builtin.«int.__rmul__» ⟨[.int k t, .ref l], []⟩) (fun _ R s => s.heap.get? l = some ⟨.type "tuple", dd, .seq xs n, sl⟩ ∧ R (.ok (.ret Value.notImplemented)) s) :=
  .of_wp fun prog w A R s h => by obtain ⟨g0, gn, dr, tk, os⟩ := s; obtain ⟨e1, h⟩ := h; wp_walk using AutoSeq1.wpAny_loadPart' e1; exact ⟨_, rfl, h⟩
theorem mulT1 (k : Int) (t : Tok) (l : Addr) (x : Value) (n : Nat) (dd : Option Addr) (sl : Array (Option Value)) (hk : k = 1) :
    Meets (Builtin.«tuple.__mul__» ⟨[.ref l, .int k t], []⟩) (fun _ R s => s.heap.get? l = some ⟨.type "tuple", dd, .seq #[x] n, sl⟩ ∧ R (.ok (.ret (.ref l))) s) :=
  .of_wp fun prog w A R s h => by subst hk; obtain ⟨g0, gn, dr, tk, os⟩ := s; obtain ⟨e1, h⟩ := h; wp_walk using AutoSeq1.wpAny_loadPart' e1; exact ⟨_, rfl, h⟩
theorem mulT0 (k : Int) (t : Tok) (l : Addr) (x : Value) (n : Nat) (dd : Option Addr) (sl : Array (Option Value)) (c1 : (decide (k < -2 ^ 63) || decide (k ≥ 2 ^ 63)) = false) (c2 : ((#[x] : Array Value).isEmpty || k == 1) = false) (c3 : (decide (k ≤ 0) || (#[x] : Array Value).isEmpty) = true) :
    Meets (Builtin.«tuple.__mul__» ⟨[.ref l, .int k t], []⟩) (fun _ R s => s.heap.get? l = some ⟨.type "tuple", dd, .seq #[x] n, sl⟩ ∧ R (.ok (.ret (.ref s.heap.objs.size))) { s with heap := s.heap.push { cls := .type "tuple", data := .seq #[] } }) :=
  .of_wp fun prog w A R s h => by
    obtain ⟨g0, gn, dr, tk, os⟩ := s; obtain ⟨e1, h⟩ := h; have f1 := AutoSeq1.idx_int; have sb := AutoSeq1.sub_tuple_tuple
    wp_walk using AutoSeq1.wpAny_loadPart' e1
    refine wpAny_ite_false (by rw [c1]; rfl) ?_
    wp_walk using AutoSeq1.wpAny_loadPart' e1
    refine wpAny_ite_false (by rw [c2]; rfl) ?_
    wp_walk using AutoSeq1.wpAny_loadPart' e1
    refine wpAny_ite_true (by rw [c3]; rfl) ?_
    wp_walk using AutoSeq1.wpAny_loadPart' e1
    exact ⟨_, rfl, h⟩
theorem mulT2 (k : Int) (t : Tok) (l : Addr) (x : Value) (n : Nat) (dd : Option Addr) (sl : Array (Option Value)) (c1 : (decide (k < -2 ^ 63) || decide (k ≥ 2 ^ 63)) = false) (c2 : ((#[x] : Array Value).isEmpty || k == 1) = false) (c3 : (decide (k ≤ 0) || (#[x] : Array Value).isEmpty) = false)
    (c4 : ¬ (((#[x] : Array Value).size : Int) * k > (2 ^ 63 - 1) / 8)) (c5 : Builtin.Tuple.tupleTooMany (((#[x] : Array Value).size : Int) * k) = false) (c6 : ((List.replicate k.toNat (#[x] : Array Value)).foldl (· ++ ·) #[]).size ≤ sizeLine) :
    Meets (Builtin.«tuple.__mul__» ⟨[.ref l, .int k t], []⟩) (fun _ R s => s.heap.get? l = some ⟨.type "tuple", dd, .seq #[x] n, sl⟩ ∧ R (.ok (.ret (.ref s.heap.objs.size))) { s with heap := s.heap.push { cls := .type "tuple", data := .seq ((List.replicate k.toNat (#[x] : Array Value)).foldl (· ++ ·) #[]) } }) :=
  .of_wp fun prog w A R s h => by
    obtain ⟨g0, gn, dr, tk, os⟩ := s; obtain ⟨e1, h⟩ := h; have f1 := AutoSeq1.idx_int; have sb := AutoSeq1.sub_tuple_tuple
    wp_walk using AutoSeq1.wpAny_loadPart' e1
    refine wpAny_ite_false (by rw [c1]; rfl) ?_
    wp_walk using AutoSeq1.wpAny_loadPart' e1
    refine wpAny_ite_false (by rw [c2]; rfl) ?_
    wp_walk using AutoSeq1.wpAny_loadPart' e1
    refine wpAny_ite_false (by rw [c3]; rfl) ?_
    wp_walk using AutoSeq1.wpAny_loadPart' e1
    refine wpAny_ite_false (decide_eq_false c4) ?_
    wp_walk using AutoSeq1.wpAny_loadPart' e1
    first
      | (refine wpAny_ite_false (by rw [c5]; rfl) ?_; wp_walk using AutoSeq1.wpAny_loadPart' e1; exact ⟨_, rfl, h⟩)
      | exact ⟨_, rfl, h⟩
theorem fold_one (u : Value) : ∀ (m : Nat) (acc : Array Value), (List.replicate m (#[u] : Array Value)).foldl (fun x1 x2 => x1 ++ x2) acc = acc ++ (List.replicate m u).toArray
  | 0, acc => by simp
  | m + 1, acc => by rw [List.replicate_succ, List.foldl_cons, fold_one u m]; apply Array.ext'; simp [List.replicate_succ]
theorem vals_rep {v : V} {u : Value} (r : RelV v u) : ∀ m : Nat, Vals (List.replicate m v) (List.replicate m u)
  | 0 => .nil
  | m + 1 => .cons r (vals_rep r m)
def rRepT : R2 := fun x y H Q => ∃ a k v, x = .ref a ∧ y = .int k ∧ H a = some (.tup [v]) ∧ -10000 ≤ k ∧ k ≤ 10000 ∧ ∀ p H', H' p = some (.tup (List.replicate k.toNat v)) → Kp [] H H' → Q (.ref p) H'
theorem op_repT : OpR X (binaryOp .Mult) rRepT := by
  intro pins s σ H x y v u Q I rx ry h
  obtain ⟨a, k, w, rfl, rfl, ha, k0, k1, q⟩ := h
  cases rx
  obtain ⟨t, rfl⟩ := ry
  obtain ⟨its, r1, p1, _⟩ := I.tuple (SqT.of (K := X.K) ha)
  obtain ⟨u, rfl, ru⟩ := Vals.one r1
  obtain ⟨⟨c1, d1, t1, l1⟩, g1, hc1, n1, hd1⟩ := id p1
  simp only at hc1 hd1
  subst hc1 hd1
  have c1 : (decide (k < -2 ^ 63) || decide (k ≥ 2 ^ 63)) = false := by rw [decide_eq_false (by omega), decide_eq_false (by omega)]; rfl
  refine wpAny_binaryOp_repeat_ref (T := "tuple") (U := "int") (by decide) ⟨_, g1, rfl⟩ (fun s' => typeIs_int s' k t) noFill_tuple_mul F.fills_int_mul F.slot_int_rmul repeat_tuple F.slot_int_index.lookup
    (call_meets F.slot_int_rmul (typeIs_int s k t) F.entry_int_rmul (F.args_int_rmul_2 _ _) (rmulT k t a #[u] n1 d1 l1) ⟨g1, rfl, ⟨_, g1, rfl⟩, ?_⟩)
  by_cases e1 : k = 1
  · exact call_meets F.slot_tuple_mul ⟨_, g1, rfl⟩ F.entry_tuple_mul (F.args_tuple_mul_2 _ _) (mulT1 k t a u n1 d1 l1 e1) ⟨g1, ⟨.ref a, H, I, rfl, q a H (by rw [e1]; exact ha) Kp.refl⟩⟩
  · have c2 : ((#[u] : Array Value).isEmpty || k == 1) = false := by simp [e1]
    by_cases e2 : k ≤ 0
    · have z : k.toNat = 0 := by omega
      refine call_meets F.slot_tuple_mul ⟨_, g1, rfl⟩ F.entry_tuple_mul (F.args_tuple_mul_2 _ _) (mulT0 k t a u n1 d1 l1 c1 c2 (by simp [e2])) ⟨g1, ?_⟩
      refine ⟨.ref s.heap.objs.size, _, I.laid (t' := s.toks) (o := .tup []) (fun b ob q => Heap.get?_push_of_some _ q) (Nat.le_refl _) ⟨Nat.zero_le _, [], .nil, IsTup.new _ _⟩, rfl, q _ _ (by rw [z]; exact upd_same) (Kp.new (I.hok.fresh (Nat.le_refl _)))⟩
    · have lk : k.toNat ≤ sizeLine := Nat.le_trans (show k.toNat ≤ 10000 by omega) (by decide)
      refine call_meets F.slot_tuple_mul ⟨_, g1, rfl⟩ F.entry_tuple_mul (F.args_tuple_mul_2 _ _) (mulT2 k t a u n1 d1 l1 c1 c2 (by simp; omega) (by simp; omega) ?_ ?_) ⟨g1, ?_⟩
      · unfold Builtin.Tuple.tupleTooMany
        refine decide_eq_false ?_
        have z : (10000 : Int) ≤ (sizeLine : Int) := by decide
        simp
        omega
      · rw [fold_one]; simpa using lk
      · rw [fold_one, show (#[] : Array Value) ++ (List.replicate k.toNat u).toArray = (List.replicate k.toNat u).toArray by simp]
        exact ⟨.ref s.heap.objs.size, _, I.laid (t' := s.toks) (o := .tup (List.replicate k.toNat w)) (fun b ob q => Heap.get?_push_of_some _ q) (Nat.le_refl _) ⟨by simpa using lk, _, vals_rep ru _, IsTup.new _ _⟩, rfl, q _ _ upd_same (Kp.new (I.hok.fresh (Nat.le_refl _)))⟩
theorem rrt {a : Addr} {k : Int} {v : V} (ha : H a = some (.tup [v])) (k0 : -10000 ≤ k) (k1 : k ≤ 10000) (q : ∀ p H', H' p = some (.tup (List.replicate k.toNat v)) → Kp [] H H' → Q (.ref p) H') : rRepT (.ref a) (.int k) H Q := ⟨a, k, v, rfl, rfl, ha, k0, k1, q⟩

/-! ### t[lo:hi], the whole too -/
theorem getT_whole {prog : Program} {w : World} {A : Around} {E : Value → Shared → Prop} {s : Shared} {t sl : Addr} {items : Array Value} {vl vu : Value} {lo hi : Option Int} {Q : Value → Shared → Prop} (ht : IsTup s.heap t items) (hs : s.heap.IsSliceOf sl vl vu .none) (pl : IsPart vl lo) (pu : IsPart vu hi)
    (hw : HT.sIx items.size 0 lo = 0 ∧ HT.sIx items.size items.size hi = items.size) (h : Q (.ref t) s) : wpAny (model prog w) A (getItem (.ref t) (.ref sl)) Q E s := by
  obtain ⟨os, hos, hcs, hds⟩ := id hs; have ts : s.TypeIs (.ref sl) "slice" := ⟨os, hos, hcs⟩
  unfold getItem; (try with_reducible refine wpAny_holding ?_); (first | refine wpAny_bind (wpAny_pure ?_) | skip); refine wpAny_bind (wpAny_sequenceKey ht.typeIs (by decide) ?_)
  refine wpAny_bind (wpAny_callSpecial?_slot (name := Str.ofString "__getitem__") ht.typeIs PyProof.Rows.slot_tuple_getitem (wpAny_call_entry PyProof.Rows.slot_tuple_getitem ht.typeIs entry_tuple_getitem ?_ (args_tuple_getitem _ _)))
  show wpAny _ _ (Builtin.Tuple.tupleItemsOf (.ref t) >>= _) _ _ s; refine wpAny_bind (tupleItemsOf_ ht ?_); refine wpAny_bind (wpAny_typeOf ts ?_); rw [if_pos (by decide)]
  refine wpAny_bind (HT.sliceApplied_gen hs pl pu ?_)
  show wpAny _ _ (if (((HT.sIx items.size 0 lo : Nat) : Int) == 0 && (1 : Int) == 1 && (HT.sIx items.size items.size hi - HT.sIx items.size 0 lo) == items.size) = true then _ else _) _ _ s
  rw [if_pos (by rw [hw.1, hw.2]; simp)]
  unfold Builtin.Tuple.tupleIsExact
  refine wpAny_bind (wpAny_bind (wpAny_typeOf ht.typeIs (wpAny_pure ?_)))
  rw [if_pos (by decide)]
  refine wpAny_bind (wpAny_rule ?_)
  first
    | exact wpAny_pure ⟨_, rfl, wpAny_pure h⟩
    | exact wpAny_bind (wpAny_pure (wpAny_pure ⟨_, rfl, wpAny_pure h⟩))
def rSlW (K : PySem.W.Frag) : V → Option Int → Option Int → Hp → VK → Prop := fun x lo hi H Q => ∃ a xs, x = .ref a ∧ SqT K H a xs ∧ (HT.sIx xs.length 0 lo = 0 ∧ HT.sIx xs.length xs.length hi = xs.length) ∧ Q (.ref a) H
theorem sl_wholeT : SlR X (rSlW X.K) := by
  intro pins s σ H x v vl vu lo hi sl Q I rx hs pl pu h
  obtain ⟨a, xs, rfl, hx, hw, q⟩ := h
  cases rx
  obtain ⟨its, r, ht, hz⟩ := I.tuple hx
  have hlen : its.toArray.size = xs.length := by rw [List.size_toArray]; exact r.length.symm
  exact ⟨"tuple", _, PyProof.Rows.slot_tuple_getitem.lookup, ht.typeIs, getT_whole ht hs pl pu (by rw [hlen]; exact hw) ⟨.ref a, H, I, rfl, q⟩⟩
def rSlB (K : PySem.W.Frag) : V → Option Int → Option Int → Hp → VK → Prop := fun x lo hi H Q => rSlT K x lo hi H Q ∨ rSlW K x lo hi H Q
theorem sl_anyB : SlR X (rSlB X.K) := sl_tup.or sl_wholeT
theorem rs_tupB {a : Addr} {xs : List V} {lo hi : Option Int} (ha : H a = some (.tup xs)) (q : ∀ p H', H' p = some (.tup (cutV xs lo hi)) → Kp [] H H' → Q (.ref p) H') : rSlB K (.ref a) lo hi H Q := by
  by_cases e : HT.sIx xs.length 0 lo = 0 ∧ HT.sIx xs.length xs.length hi = xs.length
  · refine .inr ⟨a, xs, rfl, SqT.of ha, e, q a H ?_ Kp.refl⟩
    unfold cutV
    rw [e.1, e.2]
    simpa using ha
  · exact .inl ⟨a, xs, rfl, SqT.of ha, e, fun p n => q p _ upd_same (Kp.new n)⟩
end
/-! ### a comprehension over a tuple -/
section
variable {K : PySem.W.Frag} {tl : TE} {k : Nat} {js : List Nat} {g : TG} {tc : TT} {te : TE} {σ : St} {H : Hp} {Q : VK}
def rCoT (K : PySem.W.Frag) (k : Nat) (js : List Nat) (g : TG) (tc : TT) (te : TE) (σ : St) (Q : VK) : VK := fun x H1 => ∃ a, x = .ref a ∧ (∃ xs, SqT K H1 a xs) ∧ CompJ (Itt K a) k js g tc te σ Q H1
theorem rd_compT (h : tl σ H (rCoT K k js g tc te σ Q)) : tComp (iTup K tl) k js g tc te σ H Q := h
theorem rcot {a : Addr} {xs : List V} (Pv : Nat → List V → Hp → Prop) (h0 : Pv 0 [] H) (hq : ∀ i ys H, i ≤ xs.length → Pv i ys H → SqT K H a xs) (hl : ∀ i ys H, i ≤ xs.length → Pv i ys H → ys.length ≤ sizeLine)
    (hs : ∀ i x ys H, xs[i]? = some x → Pv i ys H → g x (blk k js σ) H fun σ2 H2 => tc σ2 H2 fun b H3 => if b = true then te σ2 H3 fun v H4 => Nx xs.length i Pv (ys ++ [v]) H4 else Nx xs.length i Pv ys H3)
    (hd : ∀ ys H, Pv xs.length ys H → ∀ p H', H p = none → H' p = some (.lst ys) → Kp [] H H' → Q (.ref p) H') : rCoT K k js g tc te σ Q (.ref a) H := by
  refine ⟨a, rfl, ⟨xs, hq 0 [] H (Nat.zero_le _) h0⟩, fun i m ys H => m = xs.length - i ∧ i ≤ xs.length ∧ Pv i ys H, ⟨xs.length, by simp, Nat.zero_le _, h0⟩, ?_⟩
  rintro i m ys H1 ⟨rfl, hi, p⟩
  have q := hq i ys H1 hi p
  by_cases hlt : i < xs.length
  · refine .inr ⟨⟨xs, xs[i], q, by simp [hlt]⟩, hl i ys H1 hi p, fun x H' y => ?_⟩
    obtain ⟨e1, y⟩ := y
    subst e1
    exact hs i x ys H' (y xs q) p
  · have e1 : i = xs.length := by omega
    subst e1
    exact .inl ⟨⟨xs, q, Nat.le_refl _⟩, hl _ ys H1 hi p, fun q hn => hd ys H1 p q _ hn upd_same (Kp.new hn)⟩
end
theorem rd_callX {sp : Sp} {t : TA} {σ : St} {H : Hp} {Q : VK} {E : XK} (h : t σ H fun vs H1 => sp vs H1 Q E) : tCallX sp t σ H Q E := h
theorem rd_chain {r r' : R2} {ta tb tc : TE} {σ : St} {H : Hp} {Q : VK} (h : ta σ H fun x H1 => tb σ H1 fun y H2 => r x y H2 fun z H3 => ∃ k, z = .bl k ∧ (if k = true then tc σ H3 fun w' H4 => r' y w' H4 Q else Q (.bl false) H3)) : tChain r r' ta tb tc σ H Q := h
theorem rd_join {t u : TS} {D : Ends} {σ : St} {H : Hp} (J : St → Hp → Prop) (h : ∀ R : St → Hp → Prop, (∀ σ' H', J σ' H' → R σ' H') → t { D with nx := R } σ H) (hJ : ∀ σ' H', J σ' H' → u D σ' H') : tSeq t u D σ H := h _ hJ
theorem pg_tupK {X : Cx} {K : PySem.W.Frag} {es : List Expr} {k : Nat} {t : TGs} {n : Nat} {pos : Pos} (hK : X.K = K) (hc : X.calm = true) (h : PGs X es t) (hn : (assignEach es X.env).length = n := by rfl) (hst : (assignEach es X.env).findIdx? (·.1) = none := by rfl) : PG X (.Tuple es k pos) (gTup K n t) :=
  hK ▸ pg_tup hc h hn hst
end L2

set_option Elab.async false
set_option linter.all false
set_option maxRecDepth 100000
namespace L2
open PySem PySem.Spec PyProof.Rows
/-! ### a, b = (u, v): the stores from the last one -/
section
variable {X : Cx} {K : PySem.W.Frag}
def tSwap (K : PySem.W.Frag) (i j : Nat) (te : TE) : TS := fun D σ H => te σ H fun x H1 => ∃ a u v, x = .ref a ∧ SqT K H1 a [u, v] ∧ D.nx ((σ.set j (some v)).set i (some u)) H1
theorem ps_swap {i j k : Nat} {x1 x2 : Str} {p1 p2 tpos pos : Pos} {e : Expr} {te : TE} (hc : X.calm = true) (hN : X.N.Nodup) (hi : X.N[i]? = some x1) (hj : X.N[j]? = some x2) (h1 : X.env.scope.names.lookup x1 = some .local) (h2 : X.env.scope.names.lookup x2 = some .local) (he : PE X e te)
    (hs : swapsWithSole [.Tuple [.Name x1 p1, .Name x2 p2] k tpos] e pos.line X.env = pure false := by rfl) (hw : swappedStores [.Tuple [.Name x1 p1, .Name x2 p2] k tpos] e X.env = pure (some [x1, x2]) := by rfl) :
    PS X (.Assign [.Tuple [.Name x1 p1, .Name x2 p2] k tpos] e pos) (tSwap X.K i j te) := by
  intro pins s σ H D I h
  refine Assign_Tuple_swapped (names := [x1, x2]) (thn (he pins s σ H _ I h) fun v s1 ⟨x, H1, I1, r1, q1⟩ => ?_) hs hw
  obtain ⟨a, u, w, rfl, hq, q⟩ := q1
  cases r1
  obtain ⟨its, rv, ht, hz⟩ := I1.tuple hq
  obtain ⟨uu, ww, rfl, ru, rw'⟩ := vals2 rv
  refine wpAny_unpackItems_tuple (items := #[uu, ww]) (I1.ok.hd hc) ht fun g hx => ?_
  have I2 : Inv X pins σ H1 { s1 with heap := g } := I1.kept (t' := s1.toks) fun b o e => hx b o (Nat.ne_of_lt (Heap.lt_size e)) e
  show wpAny _ _ (assignInOrder [bindName X.env x2, bindName X.env x1] [ww, uu]) _ _ _
  refine wpAny_assignInOrder_more (wpAny_bindName (store_ok I2 hN hj (.inl h2) rw' (fun s3 I3 => ?_) (.inr h2)))
  refine wpAny_assignInOrder_more (wpAny_bindName (store_ok I3 hN hi (.inl h1) ru (fun s4 I4 => ?_) (.inr h1)))
  exact wpAny_assignInOrder_none ⟨_, H1, I4, q⟩
variable {D : Ends} {σ : St} {H : Hp} {i j : Nat} {te : TE}
theorem rd_swap (h : te σ H fun x H1 => ∃ a u v, x = .ref a ∧ SqT K H1 a [u, v] ∧ D.nx ((σ.set j (some v)).set i (some u)) H1) : tSwap K i j te D σ H := h
end
end L2

set_option Elab.async false
set_option linter.all false
set_option maxRecDepth 100000
set_option maxHeartbeats 1000000
namespace L2
open PySem PySem.Spec PyProof.Rows
/-! ### t[::-1] of a tuple -/
section
variable {prog : Program} {w : World} {A : Around} {E : Value → Shared → Prop} {s : Shared}
theorem slApp_back {sl : Addr} {vs : Value} {n : Nat} {Q : Int × Int × Nat → Shared → Prop} (hs : s.heap.IsSliceOf sl .none .none vs) (ps : IsPart vs (some (-1))) (h : Q ((n : Int) - 1, -1, n) s) : wpAny (model prog w) A (Builtin.Slice.sliceApplied (.ref sl) (pure (n : Int))) Q E s := by
  obtain ⟨os, go, cs, ds⟩ := id hs
  unfold Builtin.Slice.sliceApplied Builtin.Slice.sliceFields
  refine wpAny_bind (wpAny_bind (wpAny_field go ds (x := .none) rfl (wpAny_bind (wpAny_field go ds (x := .none) rfl (wpAny_bind (wpAny_field go ds (x := vs) rfl (wpAny_pure ?_)))))))
  refine wpAny_bind (HT.slicePart_ ps ?_)
  show wpAny _ _ (if ((-1 : Int) == 0) = true then _ else _) _ _ s; rw [if_neg (by decide)]
  refine wpAny_bind (HT.slicePart_ .none (wpAny_bind (HT.slicePart_ .none (wpAny_bind (wpAny_pure ?_)))))
  show wpAny _ _ (pure ((n : Int) - 1, (-1 : Int), Builtin.Slice.slicePlaces ((n : Int) - 1) (-1) (-1))) _ _ s
  have e : Builtin.Slice.slicePlaces ((n : Int) - 1) (-1) (-1) = n := by
    unfold Builtin.Slice.slicePlaces
    rw [if_neg (by decide)]
    by_cases z : ((n : Int) - 1) > -1
    · rw [if_pos z]; simp
    · rw [if_neg z]; omega
  rw [e]; exact wpAny_pure h
theorem pick_backT (xs : List Value) : ((List.range xs.length).filterMap fun (m : Nat) => xs.toArray[(((xs.length : Int) - 1) + (m : Int) * -1).toNat]?).toArray = xs.reverse.toArray := by
  congr 1
  have e3 : (List.range xs.length).filterMap (fun (m : Nat) => xs.toArray[(((xs.length : Int) - 1) + (m : Int) * -1).toNat]?) = (List.range xs.length).map fun k => (xs[xs.length - 1 - k]?).getD default := by
    refine fm_some fun k hk => ?_
    have := List.mem_range.mp hk
    have lt : xs.length - 1 - k < xs.length := by omega
    rw [show (((xs.length : Int) - 1) + (k : Int) * -1).toNat = xs.length - 1 - k by omega]
    simp [lt]
  rw [e3]
  refine List.ext_getElem? fun i => ?_
  by_cases hi : i < xs.length
  · rw [List.getElem?_map, List.getElem?_range hi, List.getElem?_reverse hi]
    have lt : xs.length - 1 - i < xs.length := by omega
    simp [lt]
  · rw [List.getElem?_eq_none (by simp; omega), List.getElem?_eq_none (by simp; omega)]
theorem getT_back {t sl : Addr} {xs : List Value} {vs : Value} {Q : Value → Shared → Prop} (ht : IsTup s.heap t xs.toArray) (hs : s.heap.IsSliceOf sl .none .none vs) (ps : IsPart vs (some (-1))) (hz : xs.length ≤ sizeLine)
    (h : Q (.ref s.heap.objs.size) { s with heap := s.heap.push { cls := .type "tuple", data := .seq xs.reverse.toArray } }) : wpAny (model prog w) A (getItem (.ref t) (.ref sl)) Q E s := by
  obtain ⟨os, hos, hcs, hds⟩ := id hs; have ts : s.TypeIs (.ref sl) "slice" := ⟨os, hos, hcs⟩
  have fits : sizeOk (.seq xs.reverse.toArray) := by show xs.reverse.toArray.size ≤ sizeLine; simpa using hz
  unfold getItem; (try with_reducible refine wpAny_holding ?_); (first | refine wpAny_bind (wpAny_pure ?_) | skip); refine wpAny_bind (wpAny_sequenceKey ht.typeIs (by decide) ?_)
  refine wpAny_bind (wpAny_callSpecial?_slot (name := Str.ofString "__getitem__") ht.typeIs PyProof.Rows.slot_tuple_getitem (wpAny_call_entry PyProof.Rows.slot_tuple_getitem ht.typeIs entry_tuple_getitem ?_ (args_tuple_getitem _ _)))
  show wpAny _ _ (Builtin.Tuple.tupleItemsOf (.ref t) >>= _) _ _ s; refine wpAny_bind (tupleItemsOf_ ht ?_); refine wpAny_bind (wpAny_typeOf ts ?_); rw [if_pos (by decide)]
  refine wpAny_bind (slApp_back hs ps ?_)
  have no : ¬ ((((xs.toArray.size : Int) - 1) == 0 && (-1 : Int) == 1 && xs.toArray.size == xs.toArray.size) = true) := by simp
  show wpAny _ _ (if ((((xs.toArray.size : Int) - 1) == 0 && (-1 : Int) == 1 && xs.toArray.size == xs.toArray.size)) = true then _ else _) _ _ s
  rw [if_neg no]
  have e := pick_backT xs
  rw [← List.size_toArray (as := xs)] at e
  rw [e]
  first
    | exact wpAny_bind (m := Builtin.Tuple.tupleExact _) (wpAny_newObj_type (wpAny_pure ⟨_, rfl, wpAny_pure h⟩) fits)
    | exact wpAny_bind (wpAny_bind (m := Builtin.Tuple.tupleExact _) (wpAny_newObj_type (wpAny_pure (wpAny_pure ⟨_, rfl, wpAny_pure h⟩)) fits))
    | exact wpAny_bind (wpAny_bind (m := Builtin.Tuple.tupleExact _) (wpAny_newObj_type (wpAny_pure ⟨_, rfl, wpAny_pure h⟩) fits))
end
section
variable {X : Cx} {e se : Expr} {te : TE} {ts : TO} {p2 pos : Pos} {K : PySem.W.Frag} {σ : St} {H : Hp} {Q : VK}
def rRevT (K : PySem.W.Frag) : V → Option Int → Hp → VK → Prop := fun x st H Q => ∃ a xs, x = .ref a ∧ st = some (-1) ∧ SqT K H a xs ∧ ∀ p, H p = none → Q (.ref p) (upd H p (.tup xs.reverse))
def tRevT (K : PySem.W.Frag) (te : TE) (ts : TO) : TE := fun σ H Q => te σ H fun x H1 => ts σ H1 fun st H2 => rRevT K x st H2 Q
theorem pe_revT (he : PE X e te) (hs : PO X (some se) ts) : PE X (.Subscript e (.Slice none none (some se) p2) pos) (tRevT X.K te ts) := by
  intro pins s σ H Q I h
  refine Subscript_ (thn (he pins s σ H _ I h) fun v s1 ⟨x, H1, I1, r1, q1⟩ => ?_)
  refine wpAny_Slice ?_
  rw [evalPart_none]
  refine wpAny_pure (wpAny_pure ?_)
  refine thn (hs pins s1 σ H1 _ I1 q1) fun vs s3 ⟨st, H3, I3, ps, q3⟩ => ?_
  obtain ⟨a, xs, rfl, rfl, hx, q⟩ := q3
  cases r1
  have I4 : Inv X pins σ H3 { s3 with heap := s3.heap.push { cls := .type "slice", data := .fields #[.none, .none, vs] } } := I3.kept (t' := s3.toks) fun b ob q => Heap.get?_push_of_some _ q
  obtain ⟨its, r, ht, hz⟩ := I4.tuple hx
  show wpAny (model X.prog X.w) X.A (subscriptTail e (.Slice none none (some se) p2) (.ref a) (.ref s3.heap.objs.size)) (EP X pins σ Q) X.xe { s3 with heap := s3.heap.push { cls := .type "slice", data := .fields #[.none, .none, vs] } }
  refine tail_any (T := "tuple") (ops := [.ref a, .ref s3.heap.objs.size]) ht.typeIs PyProof.Rows.slot_tuple_getitem.lookup ?_ (by with_unfolding_all rfl)
  refine getT_back ht (Heap.IsSliceOf.new ..) ps (by rw [← r.length]; exact hz) ?_
  refine ⟨.ref _, _, I4.laid (t' := s3.toks) (o := .tup xs.reverse) (fun b ob q => Heap.get?_push_of_some _ q) (Nat.le_refl _) ?_, rfl, q _ (I4.hok.fresh (Nat.le_refl _))⟩
  exact ⟨by rw [List.length_reverse]; exact hz, _, r.reverse, IsTup.new _ _⟩
theorem rd_revT (h : te σ H fun x H1 => ts σ H1 fun st H2 => rRevT K x st H2 Q) : tRevT K te ts σ H Q := h
theorem rr_t {a : Addr} {xs : List V} (h1 : H a = some (.tup xs)) (h : ∀ p H', H p = none → H' p = some (.tup xs.reverse) → Kp [] H H' → Q (.ref p) H') : rRevT K (.ref a) (some (-1)) H Q := ⟨a, xs, rfl, rfl, SqT.of h1, fun p n => h p _ n upd_same (Kp.new n)⟩
theorem rlt_t {a b : Addr} {ns ms : List Int} (h1 : H a = some (.tup (ns.map V.int))) (h2 : H b = some (.tup (ms.map V.int))) (h : Q (.bl (HT.lexLt ns ms)) H) : rLtT K (.ref a) (.ref b) H Q := ⟨a, b, ns, ms, rfl, rfl, SqT.of h1, SqT.of h2, h⟩
end
end L2

set_option Elab.async false
set_option linter.all false
set_option maxRecDepth 100000
namespace L2
open PySem PySem.Spec PyProof.Rows
/-! ### any of a list of truths; tuple(t) of a tuple -/
section
variable {X : Cx} {K : PySem.W.Frag} {H : Hp} {Q : VK}
theorem any_at : ∀ (bs : List Bool), ((List.range bs.length).any fun i => (bs[i]?).getD false) = bs.any id
  | [] => rfl
  | b :: r => by
    rw [List.length_cons, List.range_succ_eq_map, List.any_cons, List.any_map, List.any_cons, ← any_at r]
    rfl
def rAny (K : PySem.W.Frag) : List V → Hp → VK → Prop := fun xs H Q => ∃ (p : Addr) (bs : List Bool), xs = [.ref p] ∧ SqL K H p (bs.map V.bl) ∧ Q (.bl (bs.any id)) H
theorem call_anyL (hc : X.calm = true) : CallR X (.builtin "any") (rAny X.K) := by
  intro pins s σ H xs us Q I r h
  obtain ⟨p, bs, rfl, hq, q⟩ := h
  obtain ⟨u, rfl, ru⟩ := vals1 r
  cases ru
  obtain ⟨its, rv, pl, hz⟩ := I.list hq
  have ei := vals_bls rv
  subst ei
  have lt : p < s.heap.objs.size := by obtain ⟨o, e, _⟩ := pl.isList; exact Heap.lt_size e
  refine call_any_walk (wpAny_pyIter_list pl.isList ?_)
  refine ⟨s.heap.objs.size, [s.heap.objs.size, p], [s.heap.objs.size], (bs.map Value.bool).toArray.size, _, _, fun i => (bs[i]?).getD false, rfl, Walks.list (A := X.A.in1) (I.ok.hd hc) _ p (Nat.ne_of_lt lt) (bs.map Value.bool).toArray,
    ⟨⟨_, Heap.get?_push_size _ rfl, rfl, rfl⟩, pl.isList.push _⟩, fun i v s' Q' E' hP hQ => ?_, fun h' tk hk => ?_⟩
  · have hP' : (bs.map Value.bool)[i]? = some v := by simpa using hP
    rw [List.getElem?_map] at hP'
    cases e : bs[i]? with
    | none => rw [e] at hP'; cases hP'
    | some b =>
      rw [e] at hP'
      cases hP'
      simp only [e, Option.getD_some] at hQ
      exact wpAny_truthy_bool hQ
  · have e : ((List.range (bs.map Value.bool).toArray.size).any fun i => (bs[i]?).getD false) = bs.any id := by
      rw [List.size_toArray, List.length_map]; exact any_at bs
    rw [e]
    refine ⟨.bl _, H, I.kept (t' := tk) fun b o e => hk b o (fun hm => ?_) (Heap.get?_push_of_some _ e), rfl, q⟩
    rw [List.mem_singleton.mp hm] at e
    exact Nat.lt_irrefl _ (Heap.lt_size e)
theorem rany {p : Addr} {bs : List Bool} (h1 : H p = some (.lst (bs.map V.bl))) (h : Q (.bl (bs.any id)) H) : rAny K [.ref p] H Q := ⟨p, bs, rfl, SqL.of h1, h⟩
theorem rtup_t {a : Addr} {xs : List V} (h1 : H a = some (.tup xs)) (h : Q (.ref a) H) : rTupOf K [.ref a] H Q := ⟨a, xs, rfl, .inr ⟨SqT.of h1, h⟩⟩
end
theorem call_lstK {X : Cx} {K : PySem.W.Frag} (h : X.K = K) : CallR X (.type "list") (rLstOf K) := h ▸ call_lstA
theorem call_tupK {X : Cx} {K : PySem.W.Frag} (h : X.K = K) : CallR X (.type "tuple") (rTupOf K) := h ▸ call_tupA
end L2

set_option Elab.async false
set_option linter.all false
set_option maxRecDepth 100000
set_option maxHeartbeats 8000000
namespace My
open PySem L2 PyProof.Rows
def top (i : Nat) : Stmt := PySem.Challenge.pw_mixedscales_k09_carries_looked_at.main.body.getD i (.Pass ⟨0, 0, 0, 0⟩)
local macro_rules | `(tactic| walk_at "rd") => `(tactic| repeat (first
  | with_reducible refine rd_seq ?_ | with_reducible refine rd_set ?_ | with_reducible refine rd_ret ?_ | with_reducible refine rd_if ?_ | with_reducible refine rd_next ?_ | with_reducible refine rd_drop ?_
  | with_reducible refine rd_c ?_ | (with_reducible refine' rd_var ?e1 ?_; (case e1 => with_unfolding_all rfl)) | with_reducible refine rd_op ?_ | with_reducible refine rd_un ?_ | with_reducible refine rd_test ?_ | with_reducible refine rd_tb ?_ | with_reducible refine rd_bl ?_
  | with_reducible refine rd_and ?_ | with_reducible refine rd_or ?_ | with_reducible refine rd_not ?_ | with_reducible refine rd_ifx ?_ | with_reducible refine rd_andV ?_ | with_reducible refine rd_orV ?_ | with_reducible refine rd_notV ?_
  | with_reducible refine rd_cons ?_ | with_reducible refine rd_nil ?_ | with_reducible refine rd_cb ?_ | with_reducible refine rd_call ?_ | with_reducible refine rd_tupN ?_ | with_reducible refine rd_lstN ?_ | with_reducible refine rd_sl ?_ | with_reducible refine rd_nopart ?_ | with_reducible refine rd_part ?_ | with_reducible refine rd_ii ?_
  | with_reducible refine rd_bm ?_ | with_reducible refine rd_true ?_ | with_reducible refine rd_gname ?_ | with_reducible refine rd_gcons ?_ | with_reducible refine rd_gnil ?_ | with_reducible refine rd_gsub ?_ | with_reducible refine rd_i0 ?_ | with_reducible refine rd_u ?_ | with_reducible refine ra_int ?_ | with_reducible refine re_int ?_ | with_reducible refine rn_int ?_
  | (with_reducible refine' rx_tup ?e1 ?e2 ?_; (case e1 => assumption); (case e2 => with_unfolding_all rfl)) | (with_reducible refine' rx_lst ?e1 ?e2 ?_; (case e1 => exact SqL.of (by assumption)); (case e2 => with_unfolding_all rfl)) | (with_reducible refine' rlen_t ?e1 ?_; (case e1 => assumption)) | (with_reducible refine' rlen_l ?e1 ?_; (case e1 => exact SqL.of (by assumption))) | with_reducible refine rmax_i ?_ | with_reducible refine rmin_i ?_ | with_reducible refine rint_b ?_ | with_reducible refine rint_i ?_
  | (with_reducible refine' rm_r ?e1 ?e2 ?_; (case e1 => omega); (case e2 => omega)) | (with_reducible refine' rm_l ?e1 ?e2 ?_; (case e1 => omega); (case e2 => omega)) | (with_reducible refine' rd_iC ?e1 ?_; (case e1 => (show (0 : Int) < _; omega)))
  | with_reducible refine rd_for1 ?_ | with_reducible refine rd_forL ?_ | with_reducible refine rd_comp1 ?_ | with_reducible refine rd_compL ?_ | (with_reducible refine' rd_aug ?e1 ?_; (case e1 => with_unfolding_all rfl)) | with_reducible refine rd_asg ?_))
/-- what is asked of the text's globals -/
structure Txt (K : PySem.W.Frag) (mg : Str → Option Value) (cNP : Addr) : Prop where
  len : mg "len" = none
  range : mg "range" = none
  sum : mg "sum" = none
  tuple : mg "tuple" = none
  list : mg "list" = none
  max : mg "max" = none
  NoPlace : mg "NoPlace" = some (.ref cNP)
  xNoPlace : PySem.W.excIn K cNP [.type "ValueError", .type "Exception", .type "BaseException", .type "object"] "ValueError.__new__" = true

/-! ### the mirror -/
def hasP (hd rg : List Int) (pl : Int) : Bool := decide (0 ≤ pl) && (decide (0 < (rg.length : Int)) || decide (pl < hd.length))
def bAt (hd rg : List Int) (i : Nat) : Int := if i < hd.length then hd.getD i 0 else rg.getD ((i - hd.length) % rg.length) 0
def wAt (hd rg : List Int) : Nat → Int
  | 0 => 1
  | n + 1 => wAt hd rg n * bAt hd rg n
def Ok (ns : List Int) : Prop := ∀ b ∈ ns, 2 ≤ b ∧ b ≤ 1000000
theorem bAt_ok {hd rg : List Int} (h1 : Ok hd) (h2 : Ok rg) {pl : Int} (h : hasP hd rg pl = true) : 2 ≤ bAt hd rg pl.toNat ∧ bAt hd rg pl.toNat ≤ 1000000 := by
  unfold hasP at h
  rw [Bool.and_eq_true, decide_eq_true_eq] at h
  obtain ⟨h0, h⟩ := h
  unfold bAt
  by_cases hl : pl.toNat < hd.length
  · rw [if_pos hl]
    have e : hd.getD pl.toNat 0 = hd[pl.toNat] := by simp [hl]
    rw [e]
    exact h1 _ (List.getElem_mem _)
  · rw [if_neg hl]
    have hr : 0 < rg.length := by
      rcases Bool.or_eq_true_iff.mp h with z | z
      · have z2 := of_decide_eq_true z; omega
      · have z2 := of_decide_eq_true z; omega
    have lt : (pl.toNat - hd.length) % rg.length < rg.length := Nat.mod_lt _ hr
    have e : rg.getD ((pl.toNat - hd.length) % rg.length) 0 = rg[(pl.toNat - hd.length) % rg.length] := by simp [lt]
    rw [e]
    exact h2 _ (List.getElem_mem _)

/-! ### promises -/
def spHas : Sp := fun vs H Q _ => ∃ v hd rg pl, vs = [v, .int pl] ∧ Scl H v hd rg ∧ Q (.bl (hasP hd rg pl)) H
def spRef (C : Addr) : Sp := fun vs H Q E => ∃ v hd rg pl, vs = [v, .int pl] ∧ Scl H v hd rg ∧ (hasP hd rg pl = true → Q .non H) ∧ (hasP hd rg pl = false → E (.ref C) none H)
def spBase (C : Addr) : Sp := fun vs H Q E => ∃ v hd rg pl, vs = [v, .int pl] ∧ Scl H v hd rg ∧ (hasP hd rg pl = true → Q (.int (bAt hd rg pl.toNat)) H) ∧ (hasP hd rg pl = false → E (.ref C) none H)
def spWorth (C : Addr) : Sp := fun vs H Q E => ∃ v hd rg pl, vs = [v, .int pl] ∧ Scl H v hd rg ∧ Ok hd ∧ Ok rg ∧ pl ≤ 1000 ∧ (hasP hd rg pl = true → Q (.int (wAt hd rg pl.toNat)) H) ∧ (hasP hd rg pl = false → E (.ref C) none H)
section
variable {P : Program} {w : World} {K : PySem.W.Frag} {mg : Str → Option Value} {base : Heap} {cNP : Addr}
abbrev s_has_place : Stmt := top 4
theorem sc_has_place : FnScope ["scale", "place"] ["scale", "place"] (defScope s_has_place) := ⟨rfl, rfl, rfl, by decide +kernel, rfl, by decide +kernel, by decide +kernel⟩
theorem ok_has_place {f : Addr} {fd : FuncData} (F : Fun K "has_place" "has_place" s_has_place f fd) (T : Txt K mg cNP) : FnOk P w K mg base CX0 1 f fd ["scale", "place"] spHas := by
  refine F.ok sc_has_place (fun vs H Q E h => ?_) (fun cdv A outer s H vs Q E hr h => ?_)
  · obtain ⟨v, hd, rg, pl, rfl, _⟩ := h
    rfl
  · obtain ⟨v, hd, rg, pl, rfl, ⟨a, x, y, rfl, ha, ⟨b, rfl, hb⟩, ⟨c, rfl, hc⟩⟩, k⟩ := h
    refine ⟨_, (pss_cons (ps_if (pt_cmpR op_lt (pv 1) pe_int (nomark _)) (pss_one (ps_ret pe_bl)) pss_nil)
      (pss_one (ps_ret (pe_or (pe_cmpR op_gt (pe_callB call_lenA (by rfl) T.len boot_len (pa_cons (pe_ix ix_any (pv 0) pe_int (fun _ _ => rfl)) pa_nil)) pe_int (nomark _)) (pe_one (pe_cmpR op_lt (pv 1) (pe_callB call_lenA (by rfl) T.len boot_len (pa_cons (pe_ix ix_any (pv 0) pe_int (fun _ _ => rfl)) pa_nil)) (nomark _))))))), ?_⟩
    walk_at "rd"
    refine rd_dec (fun h0 => ?_) (fun h0 => ?_)
    · walk_at "rd"
      have e : hasP hd rg pl = false := by unfold hasP; rw [decide_eq_false (by omega), Bool.false_and]
      rw [e] at k
      exact k
    · walk_at "rd"
      have e : hasP hd rg pl = (decide (0 < (rg.length : Int)) || decide (pl < hd.length)) := by unfold hasP; rw [decide_eq_true (by omega), Bool.true_and]
      rw [e] at k
      rw [List.length_map]
      refine rd_dec (fun h1 => ?_) (fun h1 => ?_)
      · rw [decide_eq_true h1, Bool.true_or] at k
        exact k
      · rw [decide_eq_false h1, Bool.false_or] at k
        walk_at "rd"
        rw [List.length_map]
        exact k
abbrev s_refuse_no_place : Stmt := top 5
theorem sc_refuse_no_place : FnScope ["scale", "place"] ["scale", "place"] (defScope s_refuse_no_place) := ⟨rfl, rfl, rfl, by decide +kernel, rfl, by decide +kernel, by decide +kernel⟩
theorem ok_refuse_no_place {f f1 : Addr} {fd fd1 : FuncData} (F : Fun K "refuse_no_place" "refuse_no_place" s_refuse_no_place f fd) (T : Txt K mg cNP) (c_has_place : Fn P w K mg base CX0 1 "has_place" f1 fd1 ["scale", "place"] spHas) :
    FnOk P w K mg base (CX1 P w) 2 f fd ["scale", "place"] (spRef cNP) := by
  refine F.okX sc_refuse_no_place (fun vs H Q E h => ?_) (fun cdv A outer s H vs Q E hr hA h => ?_)
  · obtain ⟨v, hd, rg, pl, rfl, _⟩ := h
    rfl
  · obtain ⟨v, hd, rg, pl, rfl, hs, k1, k2⟩ := h
    refine ⟨_, (pss_one (ps_if (pt_not (pt_val (pf c_has_place (hr.mono (by decide)) (by rfl) (pa_cons (pv 0) (pa_cons (pv 1) pa_nil))))) (pss_one (ps_raise hA PySem.F.excBase_ValueError T.xNoPlace T.NoPlace (by rfl) pe_str)) pss_nil)), ?_⟩
    walk_at "rd"
    refine ⟨v, hd, rg, pl, rfl, hs, ?_⟩
    walk_at "rd"
    refine rd_b (fun h1 => ?_) (fun h1 => ?_)
    · refine k2 ?_
      simpa using h1
    · walk_at "rd"
      exact k1 (by simpa using h1)
abbrev s_base_at : Stmt := top 6
theorem sc_base_at : FnScope ["scale", "place", "head", "ring"] ["scale", "place"] (defScope s_base_at) := ⟨rfl, rfl, rfl, by decide +kernel, rfl, by decide +kernel, by decide +kernel⟩
theorem ok_base_at {f f1 : Addr} {fd fd1 : FuncData} (F : Fun K "base_at" "base_at" s_base_at f fd) (T : Txt K mg cNP) (c_refuse_no_place : Fn P w K mg base (CX1 P w) 2 "refuse_no_place" f1 fd1 ["scale", "place"] (spRef cNP)) :
    FnOk P w K mg base (CX1 P w) 3 f fd ["scale", "place"] (spBase cNP) := by
  have nd := sc_base_at.nd
  refine F.okX sc_base_at (fun vs H Q E h => ?_) (fun cdv A outer s H vs Q E hr hA h => ?_)
  · obtain ⟨v, hd, rg, pl, rfl, _⟩ := h
    rfl
  · obtain ⟨v, hd, rg, pl, rfl, hs, k1, k2⟩ := h
    refine ⟨_, (pss_cons (ps_expr (pfX c_refuse_no_place (hr.mono (by decide)) (by rfl) (pa_cons (pv 0) (pa_cons (pv 1) pa_nil))))
      (pss_cons (ps_set (i := 2) nd rfl (by first | exact Or.inl rfl | exact Or.inr rfl) (pe_ix ix_any (pv 0) pe_int (fun _ _ => rfl)) (hs := sw_sub))
      (pss_cons (ps_set (i := 3) nd rfl (by first | exact Or.inl rfl | exact Or.inr rfl) (pe_ix ix_any (pv 0) pe_int (fun _ _ => rfl)) (hs := sw_sub))
      (pss_cons (ps_if (pt_cmpR op_lt (pv 1) (pe_callB call_lenA (by rfl) T.len boot_len (pa_cons (pv 2) pa_nil)) (nomark _)) (pss_one (ps_ret (pe_ix ix_any (pv 2) (pv 1) (fun _ _ => rfl)))) pss_nil)
      (pss_one (ps_ret (pe_ix ix_any (pv 3) (pe_op op_mod (pe_op op_sub (pv 1) (pe_callB call_lenA (by rfl) T.len boot_len (pa_cons (pv 2) pa_nil))) (pe_callB call_lenA (by rfl) T.len boot_len (pa_cons (pv 3) pa_nil))) (fun _ _ => rfl)))))))), ?_⟩
    walk_at "rd"
    refine ⟨v, hd, rg, pl, rfl, hs, fun hp => ?_, k2⟩
    obtain ⟨a, x, y, rfl, ha, ⟨b, rfl, hb⟩, ⟨c, rfl, hc⟩⟩ := hs
    have k := k1 hp
    unfold hasP at hp
    rw [Bool.and_eq_true, decide_eq_true_eq] at hp
    obtain ⟨h0, hp⟩ := hp
    walk_at "rd"
    rw [List.length_map]
    unfold bAt at k
    refine rd_dec (fun h1 => ?_) (fun h1 => ?_)
    · walk_at "rd"
      have lt : pl.toNat < hd.length := by omega
      rw [if_pos lt] at k
      refine rx_tup hb (atI_pos h0 ?_) k
      simp [lt]
    · have hr0 : 0 < rg.length := by
        rcases Bool.or_eq_true_iff.mp hp with z | z
        · have z2 := of_decide_eq_true z; omega
        · have z2 := of_decide_eq_true z; omega
      have lt : ¬ pl.toNat < hd.length := by omega
      rw [if_neg lt] at k
      walk_at "rd"
      rw [List.length_map, List.length_map]
      refine rd_iC (by show (0 : Int) < _; omega) ?_
      have e : ((pl - (hd.length : Int)) % (rg.length : Int)).toNat = (pl.toNat - hd.length) % rg.length := by
        rw [Int.toNat_emod (by omega) (by omega)]
        congr 1
        omega
      have lt2 : (pl.toNat - hd.length) % rg.length < rg.length := Nat.mod_lt _ hr0
      refine rx_tup hc (atI_pos (Int.emod_nonneg _ (by omega)) ?_) k
      rw [e]
      simp [lt2]
/-! ### the law's own drawing -/
/-- a deck at d, its cells at c -/
def Dk (H : Hp) (d c : Addr) : Prop := ∃ (cells : List Int) (at_ seed : Int), H d = some (.lst [.ref c, .int at_, .int seed]) ∧ H c = some (.lst (cells.map V.int)) ∧ cells ≠ [] ∧ cells.length ≤ 64 ∧ 0 ≤ at_
theorem Dk.ne {H : Hp} {d c : Addr} (h : Dk H d c) : d ≠ c := by
  obtain ⟨cells, at_, seed, h1, h2, h3, _⟩ := h
  intro z
  subst z
  rw [h1] at h2
  cases cells with
  | nil => exact h3 rfl
  | cons x r => simp at h2
theorem Dk.kp {H H' : Hp} {d c : Addr} (h : Dk H d c) (k : Kp [] H H') : Dk H' d c := let ⟨cells, a, s, h1, h2, h3⟩ := h; ⟨cells, a, s, k.get h1, k.get h2, h3⟩
theorem Dk.out {H : Hp} {d c p : Addr} (D : Dk H d c) (n : H p = none) : p ∉ [d, c] := by
  obtain ⟨cells, a, se, q1, q2, _⟩ := D
  intro hm
  rcases List.mem_cons.mp hm with z | z
  · rw [z, q1] at n; cases n
  · have z2 := List.mem_singleton.mp z
    rw [z2, q2] at n; cases n
def spTake : Sp := fun vs H Q _ => ∃ d c many, vs = [.ref d, .int many] ∧ Dk H d c ∧ 0 < many ∧ many.natAbs < 2 ^ 9000 ∧ ∀ r H', 0 ≤ r → r < many → Dk H' d c → Kp [d, c] H H' → Q (.int r) H'
abbrev s__law_take : Stmt := top 14
theorem sc__law_take : FnScope ["deck", "many", "at", "cell", "one"] ["deck", "many"] (defScope s__law_take) := ⟨rfl, rfl, rfl, by decide +kernel, rfl, by decide +kernel, by decide +kernel⟩
theorem ok__law_take {f : Addr} {fd : FuncData} (F : Fun K "_law_take" "_law_take" s__law_take f fd) (T : Txt K mg cNP) : FnOk P w K mg base CX0 1 f fd ["deck", "many"] spTake := by
  have nd := sc__law_take.nd
  refine F.ok sc__law_take (fun vs H Q E h => ?_) (fun cdv A outer s H vs Q E hr h => ?_)
  · obtain ⟨d, c, many, rfl, _⟩ := h
    rfl
  · obtain ⟨d, c, many, rfl, D, hm, hm2, k⟩ := h
    have hu := hr.units
    have ne := D.ne
    obtain ⟨cells, at_, seed, h1, h2, h3, h4, h5⟩ := D
    have hlen : 0 < cells.length := by cases cells with | nil => exact absurd rfl h3 | cons x r => simp
    refine ⟨_, (pss_cons (ps_set (i := 2) nd rfl (by first | exact Or.inl rfl | exact Or.inr rfl) (pe_op op_mod (pe_ix ix_any (pv 0) pe_int (fun _ _ => rfl)) (pe_callB call_lenA (by rfl) T.len boot_len (pa_cons (pe_ix ix_any (pv 0) pe_int (fun _ _ => rfl)) pa_nil))) (hs := sw_binop))
      (pss_cons (ps_asg (pe_op op_addA (pe_ix ix_any (pv 0) pe_int (fun _ _ => rfl)) pe_int) (pg_sub (pv 0) pe_int set_list))
      (pss_cons (ps_set (i := 3) nd rfl (by first | exact Or.inl rfl | exact Or.inr rfl) (pe_ix ix_any (pe_ix ix_any (pv 0) pe_int (fun _ _ => rfl)) (pv 2) (fun _ _ => rfl)) (hs := sw_sub))
      (pss_cons (ps_if (PW.pt (pw_or (pt_cmpR (op_eqA hu) (pv 3) pe_int (nomark _)) (pw_or1 (pt_cmpR (op_eqA hu) (pv 3) (pe_un un_neg pe_int) (nomark _))))) (pss_cons (ps_set (i := 4) nd rfl (by first | exact Or.inl rfl | exact Or.inr rfl) (pe_op op_mod (pe_op op_mulA (pe_op op_mod (pe_op op_addA (pe_ix ix_any (pv 0) pe_int (fun _ _ => rfl)) (pe_op op_mulA pe_int (pe_ix ix_any (pv 0) pe_int (fun _ _ => rfl)))) pe_int) pe_int) pe_int) (hs := sw_binop))
      (pss_cons (ps_set (i := 4) nd rfl (by first | exact Or.inl rfl | exact Or.inr rfl) (pe_op op_mod (pe_op op_mulA (pe_op op_mod (pe_op op_addA (pe_op op_mulA (pv 4) (pv 4)) (pe_op op_mulA pe_int (pe_ix ix_any (pv 0) pe_int (fun _ _ => rfl)))) pe_int) pe_int) pe_int) (hs := sw_binop))
      (pss_one (ps_ret (pe_op op_mod (pe_op op_fdivB (pv 4) pe_int) (pv 1)))))) pss_nil)
      (pss_cons (ps_asg (pe_op op_fdivB (pv 3) (pv 1)) (pg_sub (pe_ix ix_any (pv 0) pe_int (fun _ _ => rfl)) (pv 2) set_list))
      (pss_one (ps_ret (pe_op op_mod (pv 3) (pv 1))))))))), ?_⟩
    walk_at "rd"
    rw [List.length_map]
    refine rd_iC (by show (0 : Int) < _; omega) ?_
    walk_at "rd"
    refine rd_put h1 rfl fun H1 g1 kp1 g2 => ?_
    have c1 : H1 c = some (.lst (cells.map V.int)) := (g2 c ne.symm).trans h2
    have i0 : 0 ≤ at_ % (cells.length : Int) := Int.emod_nonneg _ (by omega)
    have i1 : at_ % (cells.length : Int) < cells.length := Int.emod_lt_of_pos _ (by omega)
    have lt : (at_ % (cells.length : Int)).toNat < cells.length := by omega
    walk_at "rd"
    have g1' : H1 d = some (.lst [.ref c, .int (at_ + 1), .int seed]) := g1
    refine rx_lst (SqL.of c1) (atI_pos i0 (v := .int (cells[(at_ % (cells.length : Int)).toNat])) (by simp [lt])) ?_
    generalize cells[(at_ % (cells.length : Int)).toNat] = cell
    walk_at "rd"
    refine rd_dec (fun e0 => iteT ?a) (fun e0 => ?_)
    rotate_left
    walk_at "rd"
    refine rd_dec (fun e1 => ?a2) (fun e1 => ?b)
    case a | a2 =>
      walk_at "rd"
      refine rd_iC ⟨by decide, by decide +kernel⟩ ?_
      walk_at "rd"
      exact k _ H1 (Int.emod_nonneg _ (by omega)) (Int.emod_lt_of_pos _ hm) ⟨cells, at_ + 1, seed, g1', c1, h3, h4, by omega⟩ (kp1.wide fun b hb => by simp at hb ⊢; exact .inl hb)
    case b =>
      walk_at "rd"
      refine rd_iC ⟨hm, hm2⟩ ?_
      walk_at "rd"
      refine rd_put c1 (ixN_pos i0 (by rw [List.length_map]; exact i1)) fun H2 q1 kp2 q2 => ?_
      walk_at "rd"
      rw [← List.map_set] at q1
      refine k _ H2 (Int.emod_nonneg _ (by omega)) (Int.emod_lt_of_pos _ hm) ⟨_, at_ + 1, seed, (q2 d ne).trans g1', q1, fun z => ?_, by rw [List.length_set]; exact h4, by omega⟩
        ((kp1.wide fun b hb => by simp at hb ⊢; exact .inl hb).trans (kp2.wide fun b hb => by simp at hb ⊢; exact .inr hb))
      have z2 := congrArg List.length z
      rw [List.length_set] at z2
      simp at z2
      exact h3 z2

theorem small9000 {m : Int} (h0 : 0 < m) (h : m ≤ 10 ^ 70) : m.natAbs < 2 ^ 9000 := by
  have e : (10 : Int) ^ 70 = ((10 ^ 70 : Nat) : Int) := by norm_cast
  rw [e] at h
  exact Nat.lt_of_le_of_lt (show m.natAbs ≤ 10 ^ 70 by omega) (by decide +kernel)
def spBaseL : Sp := fun vs H Q _ => ∃ d c, vs = [.ref d] ∧ Dk H d c ∧ ∀ b H', 2 ≤ b → b ≤ 1000000 → Dk H' d c → Kp [d, c] H H' → Q (.int b) H'
abbrev s__law_base : Stmt := top 15
theorem sc__law_base : FnScope ["deck", "drawn"] ["deck"] (defScope s__law_base) := ⟨rfl, rfl, rfl, by decide +kernel, rfl, by decide +kernel, by decide +kernel⟩
theorem ok__law_base {f f1 : Addr} {fd fd1 : FuncData} (F : Fun K "_law_base" "_law_base" s__law_base f fd) (T : Txt K mg cNP) (c__law_take : Fn P w K mg base CX0 1 "_law_take" f1 fd1 ["deck", "many"] spTake) : FnOk P w K mg base CX0 2 f fd ["deck"] spBaseL := by
  have nd := sc__law_base.nd
  refine F.ok sc__law_base (fun vs H Q E h => ?_) (fun cdv A outer s H vs Q E hr h => ?_)
  · obtain ⟨d, c, rfl, _⟩ := h
    rfl
  · obtain ⟨d, c, rfl, D, k⟩ := h
    have hu := hr.units
    refine ⟨_, (pss_cons (ps_set (i := 1) nd rfl (by first | exact Or.inl rfl | exact Or.inr rfl) (pe_op op_addA pe_int (pf c__law_take (hr.mono (by decide)) (by rfl) (pa_cons (pv 0) (pa_cons pe_int pa_nil)))) (hs := sw_binop))
      (pss_one (ps_ret (pe_ix ix_any (pe_lst (pa_cons pe_int (pa_cons pe_int (pa_cons (pv 1) (pa_cons pe_int (pa_cons pe_int (pa_cons pe_int (pa_cons pe_int (pa_cons pe_int (pa_cons (pe_op op_addA pe_int (pf c__law_take (hr.mono (by decide)) (by rfl) (pa_cons (pv 0) (pa_cons (pe_op op_sub (pe_op op_pow pe_int pe_int) pe_int) pa_nil)))) (pa_cons (pe_op op_pow pe_int pe_int) pa_nil))))))))))) (pf c__law_take (hr.mono (by decide)) (by rfl) (pa_cons (pv 0) (pa_cons pe_int pa_nil))) (fun _ _ => rfl))))), ?_⟩
    walk_at "rd"
    refine ⟨d, c, _, rfl, D, by decide, by decide +kernel, fun r H1 r0 r1 D1 kp1 => ?_⟩
    walk_at "rd"
    refine rd_iC ⟨by decide, by decide, by decide⟩ ?_
    walk_at "rd"
    refine ⟨d, c, _, rfl, D1, by decide, small9000 (by decide) (by decide), fun r2 H2 p0 p1 D2 kp2 => ?_⟩
    walk_at "rd"
    refine rd_iC ⟨by decide, by decide, by decide⟩ ?_
    walk_at "rd"
    refine lstN (by show 10 ≤ sizeLine; decide) fun p H3 n3 l3 kp3 => ?_
    walk_at "rd"
    refine ⟨d, c, _, rfl, D2.kp kp3, by decide, by decide +kernel, fun r4 H4 t0 t1 D4 kp4 => ?_⟩
    have np : p ∉ [d, c] := D2.out n3
    have l4 := kp4.keep p _ np l3
    have kk : Kp [d, c] H H4 := ((kp1.trans kp2).trans kp3.up).trans kp4
    have cs : r4 = 0 ∨ r4 = 1 ∨ r4 = 2 ∨ r4 = 3 ∨ r4 = 4 ∨ r4 = 5 ∨ r4 = 6 ∨ r4 = 7 ∨ r4 = 8 ∨ r4 = 9 := by omega
    have e6 : (10 : Int) ^ (6 : Int).toNat = 1000000 := by decide
    rcases cs with rfl | rfl | rfl | rfl | rfl | rfl | rfl | rfl | rfl | rfl <;> (refine rx_lst (SqL.of l4) rfl (k _ H4 ?_ ?_ D4 kk) <;> first | omega | decide)

def spSome : Sp := fun vs H Q _ => ∃ d c, vs = [.ref d] ∧ Dk H d c ∧ ∀ v ns H', Ints H' v ns → Ok ns → ns.length ≤ 12 → Dk H' d c → Kp [d, c] H H' → Q v H'
abbrev s__law_some_bases : Stmt := top 16
theorem sc__law_some_bases : FnScope ["deck", "many"] ["deck"] (defScope s__law_some_bases) := ⟨rfl, rfl, rfl, by decide +kernel, rfl, by decide +kernel, by decide +kernel⟩
theorem ok__law_some_bases {f f1 f2 : Addr} {fd fd1 fd2 : FuncData} (F : Fun K "_law_some_bases" "_law_some_bases" s__law_some_bases f fd) (T : Txt K mg cNP) (c__law_take : Fn P w K mg base CX0 1 "_law_take" f1 fd1 ["deck", "many"] spTake)
    (c__law_base : Fn P w K mg base CX0 2 "_law_base" f2 fd2 ["deck"] spBaseL) : FnOk P w K mg base CX0 3 f fd ["deck"] spSome := by
  have nd := sc__law_some_bases.nd
  refine F.ok sc__law_some_bases (fun vs H Q E h => ?_) (fun cdv A outer s H vs Q E hr h => ?_)
  · obtain ⟨d, c, rfl, _⟩ := h
    rfl
  · obtain ⟨d, c, rfl, D, k⟩ := h
    have hu := hr.units
    refine ⟨_, (pss_cons (ps_set (i := 1) nd rfl (by first | exact Or.inl rfl | exact Or.inr rfl) (pe_ix ix_any (pe_lst (pa_cons pe_int (pa_cons (pf c__law_take (hr.mono (by decide)) (by rfl) (pa_cons (pv 0) (pa_cons pe_int pa_nil))) (pa_cons (pf c__law_take (hr.mono (by decide)) (by rfl) (pa_cons (pv 0) (pa_cons pe_int pa_nil))) pa_nil)))) (pf c__law_take (hr.mono (by decide)) (by rfl) (pa_cons (pv 0) (pa_cons pe_int pa_nil))) (fun _ _ => rfl)) (hs := sw_sub))
      (pss_one (ps_ret (pe_callTy call_tupA (by rfl) T.tuple boot_tuple (pa_cons (pe_comp (by rfl) (bs := ["k"]) (comp_ok rfl (by rfl) rfl (by rfl) (by rfl) (.cons rfl .nil) (.cons (j := 0) rfl (by first | exact .inl rfl | exact .inr rfl) rfl (by first | exact .inl rfl | exact .inr rfl) .nil)) (pi_range1 (by rfl) T.range (pa_cons (pv 1) pa_nil)) (fun _ _ _ _ _ => (pg_name (i := 0) (show (["k", "deck"] : List Str).Nodup by decide +kernel) rfl (by first | exact Or.inl rfl | exact Or.inr rfl))) (fun _ _ _ _ _ => pts_nil) (fun _ _ _ _ _ => (pf c__law_base (hr.mono (by decide)) (by rfl) (pa_cons (pv 1) pa_nil)))) pa_nil))))), ?_⟩
    walk_at "rd"
    refine ⟨d, c, _, rfl, D, by decide, by decide +kernel, fun r H1 r0 r1 D1 kp1 => ?_⟩
    walk_at "rd"
    refine ⟨d, c, _, rfl, D1, by decide, by decide +kernel, fun r2 H2 p0 p1 D2 kp2 => ?_⟩
    walk_at "rd"
    refine lstN (by show 3 ≤ sizeLine; decide) fun p H3 n3 l3 kp3 => ?_
    walk_at "rd"
    refine ⟨d, c, _, rfl, D2.kp kp3, by decide, by decide +kernel, fun r4 H4 t0 t1 D4 kp4 => ?_⟩
    have l4 := kp4.keep p _ (D2.out n3) l3
    have kk : Kp [d, c] H H4 := ((kp1.trans kp2).trans kp3.up).trans kp4
    have key : ∃ m : Int, atI [V.int 0, V.int r, V.int r2] r4 = some (.int m) ∧ 0 ≤ m ∧ m ≤ 12 := by
      have cs : r4 = 0 ∨ r4 = 1 ∨ r4 = 2 := by omega
      rcases cs with rfl | rfl | rfl
      · exact ⟨0, rfl, by omega, by omega⟩
      · exact ⟨r, rfl, by omega, by omega⟩
      · exact ⟨r2, rfl, by omega, by omega⟩
    obtain ⟨m, hm, m0, m1⟩ := key
    refine rx_lst (SqL.of l4) hm ?_
    walk_at "rd"
    refine rcor (n := m.toNat) rfl (by omega) (by omega) (fun i ys H5 => ∃ ns : List Int, ys = ns.map V.int ∧ ns.length = i ∧ Ok ns ∧ Dk H5 d c ∧ Kp [d, c] H H5) ⟨[], rfl, rfl, (by intro b hb; cases hb), D4, kk⟩ ?_ ?_ ?_
    · rintro i ys H5 hi ⟨ns, rfl, e, _⟩
      rw [List.length_map]
      exact Nat.le_trans (by omega : ns.length ≤ 12) (by decide)
    · rintro i ys H5 hi ⟨ns, rfl, e, o, D5, kp5⟩
      walk_at "rd"
      refine iteT ?_
      walk_at "rd"
      refine ⟨d, c, rfl, D5, fun b H6 b0 b1 D6 kp6 => ?_⟩
      refine nx_of hi ⟨ns ++ [b], by simp, by simp [e], fun x hx => ?_, D6, kp5.trans kp6⟩
      rcases List.mem_append.mp hx with z | z
      · exact o x z
      · have z2 : x = b := by simpa using z
        subst z2
        exact ⟨b0, b1⟩
    · rintro ys H5 ⟨ns, rfl, e, o, D5, kp5⟩ q H6 nq lq kp6
      walk_at "rd"
      refine rtup_l (SqL.of lq) fun q2 H7 nq2 lq2 kp7 => ?_
      exact k _ ns H7 ⟨q2, rfl, lq2⟩ o (by omega) ((D5.kp kp6).kp kp7) ((kp5.trans kp6.up).trans kp7.up)
end
end My

set_option Elab.async false
set_option linter.all false
set_option maxRecDepth 100000
set_option maxHeartbeats 2000000
namespace My
open PySem L2 PyProof.Rows
local macro_rules | `(tactic| walk_at "rd") => `(tactic| repeat (first
  | with_reducible refine rd_seq ?_ | with_reducible refine rd_set ?_ | with_reducible refine rd_ret ?_ | with_reducible refine rd_if ?_ | with_reducible refine rd_next ?_ | with_reducible refine rd_drop ?_
  | with_reducible refine rd_c ?_ | (with_reducible refine' rd_var ?e1 ?_; (case e1 => with_unfolding_all rfl)) | with_reducible refine rd_op ?_ | with_reducible refine rd_un ?_ | with_reducible refine rd_test ?_ | with_reducible refine rd_tb ?_ | with_reducible refine rd_bl ?_
  | with_reducible refine rd_and ?_ | with_reducible refine rd_or ?_ | with_reducible refine rd_not ?_ | with_reducible refine rd_ifx ?_ | with_reducible refine rd_andV ?_ | with_reducible refine rd_orV ?_ | with_reducible refine rd_notV ?_
  | with_reducible refine rd_cons ?_ | with_reducible refine rd_nil ?_ | with_reducible refine rd_cb ?_ | with_reducible refine rd_call ?_ | with_reducible refine rd_tupN ?_ | with_reducible refine rd_lstN ?_ | with_reducible refine rd_sl ?_ | with_reducible refine rd_nopart ?_ | with_reducible refine rd_part ?_ | with_reducible refine rd_ii ?_
  | with_reducible refine rd_bm ?_ | with_reducible refine rd_true ?_ | with_reducible refine rd_gname ?_ | with_reducible refine rd_gcons ?_ | with_reducible refine rd_gnil ?_ | with_reducible refine rd_gsub ?_ | with_reducible refine rd_i0 ?_ | with_reducible refine rd_u ?_ | with_reducible refine ra_int ?_ | with_reducible refine re_int ?_ | with_reducible refine rn_int ?_
  | (with_reducible refine' rx_tup ?e1 ?e2 ?_; (case e1 => assumption); (case e2 => with_unfolding_all rfl)) | (with_reducible refine' rx_lst ?e1 ?e2 ?_; (case e1 => exact SqL.of (by assumption)); (case e2 => with_unfolding_all rfl)) | (with_reducible refine' rlen_t ?e1 ?_; (case e1 => assumption)) | (with_reducible refine' rlen_l ?e1 ?_; (case e1 => exact SqL.of (by assumption))) | with_reducible refine rmax_i ?_ | with_reducible refine rmin_i ?_ | with_reducible refine rint_b ?_ | with_reducible refine rint_i ?_
  | (with_reducible refine' rm_r ?e1 ?e2 ?_; (case e1 => omega); (case e2 => omega)) | (with_reducible refine' rm_l ?e1 ?e2 ?_; (case e1 => omega); (case e2 => omega)) | (with_reducible refine' rd_iC ?e1 ?_; (case e1 => (show (0 : Int) < _; omega)))
  | with_reducible refine rd_for1 ?_ | with_reducible refine rd_forL ?_ | with_reducible refine rd_comp1 ?_ | with_reducible refine rd_compL ?_ | (with_reducible refine' rd_aug ?e1 ?_; (case e1 => with_unfolding_all rfl)) | with_reducible refine rd_asg ?_))

/-! ### the law's bases and worths -/
/-- the first n bases, as far as there are places -/
def up (hd rg : List Int) (n : Nat) : List Int := (List.range (if rg = [] then min n hd.length else n)).map (bAt hd rg)
theorem flat_get (rg : List Int) (hr : 0 < rg.length) : ∀ (k j : Nat), j < k * rg.length → ((List.replicate k rg).flatten)[j]? = some (rg.getD (j % rg.length) 0)
  | 0, j, h => by simp at h
  | k + 1, j, h => by
    rw [List.replicate_succ, List.flatten_cons]
    by_cases hj : j < rg.length
    · rw [List.getElem?_append_left hj, Nat.mod_eq_of_lt hj]
      simp [hj]
    · rw [List.getElem?_append_right (by omega), flat_get rg hr k (j - rg.length) (by have e := Nat.succ_mul k rg.length; rw [Nat.succ_eq_add_one] at e; omega)]
      rw [← Nat.mod_eq_sub_mod (by omega)]
theorem flat_len (rg : List Int) (k : Nat) : ((List.replicate k rg).flatten).length = k * rg.length := len_rep rg k
theorem grown_get {hd rg : List Int} {k i : Nat} (h : i < (hd ++ (List.replicate k rg).flatten).length) : (hd ++ (List.replicate k rg).flatten)[i]? = some (bAt hd rg i) := by
  rw [List.length_append, flat_len] at h
  unfold bAt
  by_cases hl : i < hd.length
  · rw [if_pos hl, List.getElem?_append_left hl]
    simp [hl]
  · rw [if_neg hl, List.getElem?_append_right (by omega)]
    have hr : 0 < rg.length := by
      rcases Nat.eq_zero_or_pos rg.length with z | z
      · rw [z, Nat.mul_zero] at h; omega
      · exact z
    exact flat_get rg hr k _ (by omega)
theorem up_of {hd rg : List Int} {k n : Nat} (h1 : rg = [] → k = 0) (h2 : rg = [] ∨ n ≤ (hd ++ (List.replicate k rg).flatten).length) : (hd ++ (List.replicate k rg).flatten).take n = up hd rg n := by
  apply List.ext_getElem?
  intro i
  unfold up
  rw [List.getElem?_take, List.getElem?_map]
  by_cases hr : rg = []
  · have hk := h1 hr
    subst hk
    rw [if_pos hr]
    by_cases hi : i < n
    · rw [if_pos hi]
      by_cases hl : i < hd.length
      · rw [grown_get (by simp; omega), List.getElem?_range (by omega)]; rfl
      · rw [List.getElem?_eq_none (by simp; omega), List.getElem?_eq_none (by simp; omega)]; rfl
    · rw [if_neg hi, List.getElem?_eq_none (by simp; omega)]; rfl
  · rw [if_neg hr]
    have h2' : n ≤ (hd ++ (List.replicate k rg).flatten).length := h2.resolve_left hr
    by_cases hi : i < n
    · rw [if_pos hi, grown_get (by omega), List.getElem?_range hi]; rfl
    · rw [if_neg hi, List.getElem?_eq_none (by simp; omega)]; rfl
/-- the product of the first j -/
def pr (bs : List Int) : Nat → Int
  | 0 => 1
  | j + 1 => pr bs j * bs.getD j 0
theorem pr_up {hd rg : List Int} {n : Nat} : ∀ {j : Nat}, j ≤ (up hd rg n).length → pr (up hd rg n) j = wAt hd rg j
  | 0, _ => rfl
  | j + 1, h => by
    have e : (up hd rg n).getD j 0 = bAt hd rg j := by
      have lt : j < (up hd rg n).length := by omega
      have lt2 : j < (if rg = [] then min n hd.length else n) := by unfold up at lt; simpa using lt
      unfold up
      simp [lt2]
    rw [pr, wAt, pr_up (by omega), e]
def spBases : Sp := fun vs H Q _ => ∃ v hd rg many, vs = [v, .int many] ∧ Scl H v hd rg ∧ hd.length ≤ 12 ∧ rg.length ≤ 12 ∧ 0 ≤ many ∧ many ≤ 10000 ∧ ∀ p H', H p = none → H' p = some (.lst ((up hd rg many.toNat).map V.int)) → Kp [] H H' → Q (.ref p) H'
def spWorths : Sp := fun vs H Q _ => ∃ p bs, vs = [.ref p] ∧ H p = some (.lst (bs.map V.int)) ∧ (∀ b ∈ bs, 2 ≤ b ∧ b ≤ 1000000) ∧ bs.length ≤ 10000 ∧
  ∀ q H', H q = none → H' q = some (.lst ((List.range (bs.length + 1)).map fun j => V.int (pr bs j))) → Kp [] H H' → Q (.ref q) H'
section
variable {P : Program} {w : World} {K : PySem.W.Frag} {mg : Str → Option Value} {base : Heap} {cNP : Addr}
abbrev s__law_bases : Stmt := top 18
theorem sc__law_bases : FnScope ["scale", "many", "found", "head", "ring"] ["scale", "many"] (defScope s__law_bases) := ⟨rfl, rfl, rfl, by decide +kernel, rfl, by decide +kernel, by decide +kernel⟩
theorem ok__law_bases {f : Addr} {fd : FuncData} (F : Fun K "_law_bases" "_law_bases" s__law_bases f fd) (T : Txt K mg cNP) : FnOk P w K mg base CX0 1 f fd ["scale", "many"] spBases := by
  have nd := sc__law_bases.nd
  refine F.ok sc__law_bases (fun vs H Q E h => ?_) (fun cdv A outer s H vs Q E hr h => ?_)
  · obtain ⟨v, hd, rg, many, rfl, _⟩ := h
    rfl
  · obtain ⟨v, hd, rg, many, rfl, ⟨a, x, y, rfl, ha, ⟨b, rfl, hb⟩, ⟨c, rfl, hc⟩⟩, l1, l2, m0, m1, k⟩ := h
    have hu := hr.units
    refine ⟨_, (pss_cons (ps_asg (pv 0) (pg_tup (by rfl) (pgs_cons (pg_name (i := 3) nd rfl (by first | exact Or.inl rfl | exact Or.inr rfl)) (pgs_cons (pg_name (i := 4) nd rfl (by first | exact Or.inl rfl | exact Or.inr rfl)) pgs_nil))))
      (pss_cons (ps_set (i := 2) nd rfl (by first | exact Or.inl rfl | exact Or.inr rfl) (pe_callTy call_lstA (by rfl) T.list boot_list (pa_cons (pv 3) pa_nil)))
      (pss_cons (ps_while PassesOwn.never (PW.pt (pw_and (pt_cmpR (op_neA hu) (pv 4) (pe_ints (ns := []) (by first | assumption | decide +kernel)) (nomark _)) (pw_and1 (pt_cmpR op_lt (pe_callB call_lenA (by rfl) T.len boot_len (pa_cons (pv 2) pa_nil)) (pv 1) (nomark _))))) (pss_one (ps_set (i := 2) nd rfl (by first | exact Or.inl rfl | exact Or.inr rfl) (pe_op op_addA (pv 2) (pe_callTy call_lstA (by rfl) T.list boot_list (pa_cons (pv 4) pa_nil))) (hs := sw_binop))))
      (pss_one (ps_ret (pe_slice sl_any (pv 2) po_none (po_some (pv 1)))))))), ?_⟩
    walk_at "rd"
    refine rd_gtup ha rfl ?_
    walk_at "rd"
    refine rlst_t hb fun q H1 n1 g1 k1 => ?_
    walk_at "rd"
    refine rd_while (m0 := (many.toNat - hd.length) + 1) (fun m σ H2 => ∃ (q : Addr) (i : Nat), σ = [some (.ref a), some (.int many), some (.ref q), some (.ref b), some (.ref c)] ∧ Kp [] H H2 ∧ H2 q = some (.lst ((hd ++ (List.replicate i rg).flatten).map V.int)) ∧ (rg = [] → i = 0) ∧ (i = 0 ∨ (hd ++ (List.replicate i rg).flatten).length < many.toNat + 12) ∧ m = (many.toNat - (hd ++ (List.replicate i rg).flatten).length) + 1) ?_ ?_
    · exact ⟨q, 0, rfl, k1, by simpa using g1, fun _ => rfl, .inl rfl, by simp⟩
    · rintro m σ H2 ⟨q2, i, rfl, k2, g2, e1, e2, rfl⟩
      walk_at "rd"
      intro v3 H3 k3 i3
      refine rn_tup (Ints.dv (ns := rg) ⟨c, rfl, (k2.trans k3).get hc⟩) (Ints.dv i3) (by rw [depths_ints]; decide) ?_
      walk_at "rd"
      rw [eqs_ints]
      have g3 := k3.get g2
      have fin : (rg = [] ∨ many.toNat ≤ (hd ++ (List.replicate i rg).flatten).length) → ∀ p H', H3 p = none → H' p = some (.lst (cutV ((hd ++ (List.replicate i rg).flatten).map V.int) none (some many))) → Kp [] H3 H' → Q (.ref p) H' := fun hz p H' np gp kp => by
        rw [cut_to m0, ← List.map_take, up_of e1 hz] at gp
        exact k p H' ((k2.trans k3).non np) gp ((k2.trans k3).trans kp)
      refine rd_ndec (fun hr => ?_) (fun hr => ?_)
      · walk_at "rd"
        rw [List.length_map]
        refine rd_dec (fun hlt => ?_) (fun hlt => ?_)
        · refine ⟨_, fun _ _ h => h, ?_⟩
          walk_at "rd"
          refine rlst_t ((k2.trans k3).get hc) fun q4 H4 n4 g4 k4 => ?_
          walk_at "rd"
          have hrl : 0 < rg.length := by
            cases rg with
            | nil => exact absurd rfl hr
            | cons x r => simp
          have fl := flat_len rg i
          have ll : (hd ++ (List.replicate i rg).flatten).length = hd.length + i * rg.length := by rw [List.length_append, fl]
          refine ra_lst (k4.get g3) g4 (by rw [List.length_map, List.length_map]; exact Nat.le_trans (by omega : _ ≤ 20000) (by decide)) fun q5 H5 n5 g5 k5 => ?_
          walk_at "rd"
          have e3 : (hd ++ (List.replicate i rg).flatten).map V.int ++ rg.map V.int = (hd ++ (List.replicate (i + 1) rg).flatten).map V.int := by
            rw [← List.map_append, List.append_assoc, List.replicate_succ', List.flatten_append]
            simp
          rw [e3] at g5
          have l5 : (hd ++ (List.replicate (i + 1) rg).flatten).length = (hd ++ (List.replicate i rg).flatten).length + rg.length := by
            rw [List.length_append, List.length_append, flat_len, flat_len, Nat.succ_mul]; omega
          refine ⟨_, ?_, q5, i + 1, rfl, ((k2.trans k3).trans k4).trans k5, g5, fun z => absurd z hr, .inr (by omega), rfl⟩
          omega
        · walk_at "rd"
          refine rs_lst (SqL.of g3) (fin (.inr (by omega)))
      · refine iteF ?_
        walk_at "rd"
        refine rs_lst (SqL.of g3) (fin (.inl hr))
abbrev s__law_worths : Stmt := top 19
theorem sc__law_worths : FnScope ["bases", "found", "base"] ["bases"] (defScope s__law_worths) := ⟨rfl, rfl, rfl, by decide +kernel, rfl, by decide +kernel, by decide +kernel⟩
theorem ok__law_worths {f : Addr} {fd : FuncData} (F : Fun K "_law_worths" "_law_worths" s__law_worths f fd) (T : Txt K mg cNP) : FnOk P w K mg base CX0 1 f fd ["bases"] spWorths := by
  have nd := sc__law_worths.nd
  refine F.ok sc__law_worths (fun vs H Q E h => ?_) (fun cdv A outer s H vs Q E hr h => ?_)
  · obtain ⟨p, bs, rfl, _⟩ := h
    rfl
  · obtain ⟨p, bs, rfl, hp, ob, lb, k⟩ := h
    refine ⟨_, (pss_cons (ps_set (i := 1) nd rfl (by first | exact Or.inl rfl | exact Or.inr rfl) (pe_lst (pa_cons pe_int pa_nil)) (hs := sw_list))
      (pss_cons (ps_for PassesOwn.never (by rfl) (pi_list (pv 0)) (pg_name (i := 2) nd rfl (by first | exact Or.inl rfl | exact Or.inr rfl)) (pss_one (ps_expr (pe_bm PySem.F.plainAttrs_list PySem.F.slot_list_append PySem.F.type_list_append mt_append (pv 1) (pa_cons (pe_op op_mulA (pe_ix ix_any (pv 1) (pe_un un_neg pe_int) (fun _ _ => rfl)) (pv 2)) pa_nil)))))
      (pss_one (ps_ret (pv 1))))), ?_⟩
    walk_at "rd"
    refine lstN (by show 1 ≤ sizeLine; decide) fun q H1 n1 g1 k1 => ?_
    walk_at "rd"
    have npq : p ≠ q := ne_of_none hp n1
    refine rlol (xs := bs.map V.int) (fun i σ H2 => ∃ u, σ = [some (.ref p), some (.ref q), u] ∧ H2 p = some (.lst (bs.map V.int)) ∧ H2 q = some (.lst ((List.range (i + 1)).map fun j => V.int (pr bs j))) ∧ ∀ b o, H b = some o → H2 b = some o) ⟨_, rfl, k1.get hp, g1, fun b o h => k1.get h⟩ ?_ ?_ ?_
    · rintro i σ H2 hi ⟨u, rfl, h1, h2, h3⟩
      exact SqL.of h1
    · rintro i x σ H2 hx ⟨u, rfl, h1, h2, h3⟩
      have lt : i < bs.length := by
        have z := (List.getElem?_eq_some_iff.mp hx).1
        simpa using z
      have ex : x = .int (bs.getD i 0) := by
        rw [List.getElem?_map] at hx
        simp [lt] at hx
        simp [lt, hx]
      subst ex
      have ob2 : 2 ≤ bs.getD i 0 ∧ bs.getD i 0 ≤ 1000000 := by
        have e : bs.getD i 0 = bs[i] := by simp [lt]
        rw [e]
        exact ob _ (List.getElem_mem _)
      walk_at "rd"
      refine ⟨.inl ⟨rfl, _, SqL.of h2⟩, ?_⟩
      walk_at "rd"
      refine rx_lst (SqL.of h2) (v := .int (pr bs i)) ?_ ?_
      · rw [List.range_succ, List.map_append]
        exact atI_last _ _
      walk_at "rd"
      refine rd_more h2 (by simp; exact Nat.lt_of_le_of_lt (by omega : i + 1 ≤ 10001) (by decide)) fun H3 g3 k3 o3 => ?_
      refine ⟨_, rfl, (o3 p npq).trans h1, ?_, fun b o h => ?_⟩
      · rw [g3]
        rw [List.range_succ (n := i + 1), List.map_append]
        rfl
      · rw [o3 b (ne_of_none h n1)]
        exact h3 b o h
    · rintro σ H2 ⟨u, rfl, h1, h2, h3⟩
      walk_at "rd"
      rw [List.length_map] at h2
      exact k q H2 n1 h2 ⟨fun b o _ h => h3 b o h, fun b xs h => h3 b _ h⟩
end
end My

set_option Elab.async false
set_option linter.all false
set_option maxRecDepth 100000
set_option maxHeartbeats 2000000
namespace My
open PySem L2 PyProof.Rows
local macro_rules | `(tactic| walk_at "rd") => `(tactic| repeat (first
  | with_reducible refine rd_seq ?_ | with_reducible refine rd_set ?_ | with_reducible refine rd_ret ?_ | with_reducible refine rd_if ?_ | with_reducible refine rd_next ?_ | with_reducible refine rd_drop ?_
  | with_reducible refine rd_c ?_ | (with_reducible refine' rd_var ?e1 ?_; (case e1 => with_unfolding_all rfl)) | with_reducible refine rd_op ?_ | with_reducible refine rd_un ?_ | with_reducible refine rd_test ?_ | with_reducible refine rd_tb ?_ | with_reducible refine rd_bl ?_
  | with_reducible refine rd_and ?_ | with_reducible refine rd_or ?_ | with_reducible refine rd_not ?_ | with_reducible refine rd_ifx ?_ | with_reducible refine rd_andV ?_ | with_reducible refine rd_orV ?_ | with_reducible refine rd_notV ?_
  | with_reducible refine rd_cons ?_ | with_reducible refine rd_nil ?_ | with_reducible refine rd_cb ?_ | with_reducible refine rd_call ?_ | with_reducible refine rd_tupN ?_ | with_reducible refine rd_lstN ?_ | with_reducible refine rd_sl ?_ | with_reducible refine rd_nopart ?_ | with_reducible refine rd_part ?_ | with_reducible refine rd_ii ?_
  | with_reducible refine rd_bm ?_ | with_reducible refine rd_true ?_ | with_reducible refine rd_gname ?_ | with_reducible refine rd_gcons ?_ | with_reducible refine rd_gnil ?_ | with_reducible refine rd_gsub ?_ | with_reducible refine rd_i0 ?_ | with_reducible refine rd_u ?_ | with_reducible refine ra_int ?_ | with_reducible refine re_int ?_ | with_reducible refine rn_int ?_
  | (with_reducible refine' rx_tup ?e1 ?e2 ?_; (case e1 => assumption); (case e2 => with_unfolding_all rfl)) | (with_reducible refine' rx_lst ?e1 ?e2 ?_; (case e1 => exact SqL.of (by assumption)); (case e2 => with_unfolding_all rfl)) | (with_reducible refine' rlen_t ?e1 ?_; (case e1 => assumption)) | (with_reducible refine' rlen_l ?e1 ?_; (case e1 => exact SqL.of (by assumption))) | with_reducible refine rmax_i ?_ | with_reducible refine rmin_i ?_ | with_reducible refine rint_b ?_ | with_reducible refine rint_i ?_
  | (with_reducible refine' rm_r ?e1 ?e2 ?_; (case e1 => omega); (case e2 => omega)) | (with_reducible refine' rm_l ?e1 ?e2 ?_; (case e1 => omega); (case e2 => omega)) | (with_reducible refine' rd_iC ?e1 ?_; (case e1 => (show (0 : Int) < _; omega)))
  | with_reducible refine rd_for1 ?_ | with_reducible refine rd_forL ?_ | with_reducible refine rd_comp1 ?_ | with_reducible refine rd_compL ?_ | (with_reducible refine' rd_aug ?e1 ?_; (case e1 => with_unfolding_all rfl)) | with_reducible refine rd_asg ?_))

section
variable {P : Program} {w : World} {K : PySem.W.Frag} {mg : Str → Option Value} {base : Heap} {cNP : Addr}
instance : DecidablePred Ok := fun ns => inferInstanceAs (Decidable (∀ b ∈ ns, 2 ≤ b ∧ b ≤ 1000000))
def spScale : Sp := fun vs H Q _ => ∃ d c, vs = [.ref d] ∧ Dk H d c ∧ ∀ v hd rg H', Scl H' v hd rg → Ok hd → Ok rg → hd.length ≤ 12 → rg.length ≤ 12 → Dk H' d c → Kp [d, c] H H' → Q v H'
abbrev s__law_scale : Stmt := top 17
theorem sc__law_scale : FnScope ["deck", "some"] ["deck"] (defScope s__law_scale) := ⟨rfl, rfl, rfl, by decide +kernel, rfl, by decide +kernel, by decide +kernel⟩
/-- the body with other written lists in the place of its two -/
def absS (es fs : List Expr) : List Stmt → List Stmt
  | .If c [.Assign t (.List _ p) q, .Return (some (.Subscript (.BinOp a o (.List _ p2) q2) i p3)) p4] b p5 :: r => .If c [.Assign t (.List es p) q, .Return (some (.Subscript (.BinOp a o (.List fs p2) q2) i p3)) p4] b p5 :: r
  | r => r
def absE : List Stmt → List Expr
  | .If _ [.Assign _ (.List es _) _, _] _ _ :: _ => es
  | _ => []
def absF : List Stmt → List Expr
  | .If _ [_, .Return (some (.Subscript (.BinOp _ _ (.List fs _) _) _ _)) _] _ _ :: _ => fs
  | _ => []
theorem ok__law_scale {f f1 f2 : Addr} {fd fd1 fd2 : FuncData} (F : Fun K "_law_scale" "_law_scale" s__law_scale f fd) (T : Txt K mg cNP) (c__law_take : Fn P w K mg base CX0 1 "_law_take" f1 fd1 ["deck", "many"] spTake)
    (c__law_some_bases : Fn P w K mg base CX0 3 "_law_some_bases" f2 fd2 ["deck"] spSome) : FnOk P w K mg base CX0 4 f fd ["deck"] spScale := by
  have nd := sc__law_scale.nd
  refine F.ok sc__law_scale (fun vs H Q E h => ?_) (fun cdv A outer s H vs Q E hr h => ?_)
  · obtain ⟨d, c, rfl, _⟩ := h
    rfl
  · obtain ⟨d, c, rfl, D, k⟩ := h
    have hu := hr.units
    obtain ⟨es, fs, he, hf, hb⟩ : ∃ es fs, cScls es = some [([60, 60, 24, 7], []), ([12, 20], [10]), ([], [10]), ([], []), ([], [2])] ∧ cScls fs = some [([2, 3, 4, 5, 6], [7, 2])] ∧ defBody s__law_scale = absS es fs (defBody s__law_scale) :=
      ⟨absE (defBody s__law_scale), absF (defBody s__law_scale), by decide +kernel, by decide +kernel, by rfl⟩
    rw [hb]
    refine ⟨_, (pss_cons (ps_if (pt_cmpR (op_eqA hu) (pf c__law_take (hr.mono (by decide)) (by rfl) (pa_cons (pv 0) (pa_cons pe_int pa_nil))) pe_int (nomark _)) (pss_cons (ps_setScls (i := 1) nd rfl rfl (ps := [([60, 60, 24, 7], []), ([12, 20], [10]), ([], [10]), ([], []), ([], [2])]) (by first | assumption | decide +kernel) (by decide))
      (pss_one (ps_ret (pe_ix ix_any (pe_addScls (pv 1) (ps := [([2, 3, 4, 5, 6], [7, 2])]) (by first | assumption | decide +kernel) (by decide)) (pf c__law_take (hr.mono (by decide)) (by rfl) (pa_cons (pv 0) (pa_cons pe_int pa_nil))) (fun _ _ => rfl))))) pss_nil)
      (pss_one (ps_ret (pe_tup (pa_cons (pf c__law_some_bases (hr.mono (by decide)) (by rfl) (pa_cons (pv 0) pa_nil)) (pa_cons (pf c__law_some_bases (hr.mono (by decide)) (by rfl) (pa_cons (pv 0) pa_nil)) pa_nil)))))), ?_⟩
    walk_at "rd"
    refine ⟨d, c, _, rfl, D, by decide, by decide +kernel, fun r H1 r0 r1 D1 kp1 => ?_⟩
    walk_at "rd"
    refine rd_dec (fun e0 => ?a) (fun e0 => ?b)
    case b =>
      walk_at "rd"
      refine ⟨d, c, rfl, D1, fun v ns H2 i2 o2 l2 D2 kp2 => ?_⟩
      walk_at "rd"
      refine ⟨d, c, rfl, D2, fun v3 ms H3 i3 o3 l3 D3 kp3 => ?_⟩
      walk_at "rd"
      refine tupN (by show 2 ≤ sizeLine; decide) fun p H4 n4 l4 kp4 => ?_
      exact k _ ns ms H4 ⟨p, v, v3, rfl, l4, (i2.kp kp3).kp kp4, i3.kp kp4⟩ o2 o3 l2 l3 (D3.kp kp4) (((kp1.trans kp2).trans kp3).trans kp4.up)
    walk_at "rd"
    intro q vs HQ nq lq kq sq
    walk_at "rd"
    intro q2 ws HR nq2 lq2 kq2 sq2
    have l1 := Paired.length sq
    have l2 := Paired.length sq2
    refine ra_lst (kq2.get lq) lq2 (Nat.le_trans (by simp at l1 l2; omega : _ ≤ 100) (by decide)) fun q3 HS nq3 lq3 kq3 => ?_
    walk_at "rd"
    have kall : Kp [] H1 HS := (kq.trans kq2).trans kq3
    refine ⟨d, c, _, rfl, D1.kp kall, by decide, by decide +kernel, fun r9 H9 t0 t1 D9 kp9 => ?_⟩
    have l9 := kp9.keep q3 _ ((D1.kp (kq.trans kq2)).out nq3) lq3
    have kk : Kp [d, c] H H9 := (kp1.trans kall.up).trans kp9
    have sall := ((sq.kp kq2).app sq2).kp kq3
    obtain ⟨p, v, mp, ev, sv⟩ := sall.get (i := r9.toNat) (by simp; omega)
    have good : Ok p.1 ∧ Ok p.2 ∧ p.1.length ≤ 12 ∧ p.2.length ≤ 12 := by
      revert p
      intro p mp _
      have all : ∀ p ∈ ([([60, 60, 24, 7], []), ([12, 20], [10]), ([], [10]), ([], []), ([], [2])] ++ [([2, 3, 4, 5, 6], [7, 2])] : List (List Int × List Int)), Ok p.1 ∧ Ok p.2 ∧ p.1.length ≤ 12 ∧ p.2.length ≤ 12 := by decide
      exact all p mp
    exact rx_lst (SqL.of l9) (atI_pos t0 ev) (k _ _ _ H9 (sv.kp kp9) good.1 good.2.1 good.2.2.1 good.2.2.2 D9 kk)
end
end My

set_option Elab.async false
set_option linter.all false
set_option maxRecDepth 100000
set_option maxHeartbeats 2000000
namespace My
open PySem L2 PyProof.Rows
local macro_rules | `(tactic| walk_at "rd") => `(tactic| repeat (first
  | with_reducible refine rd_seq ?_ | with_reducible refine rd_set ?_ | with_reducible refine rd_ret ?_ | with_reducible refine rd_if ?_ | with_reducible refine rd_next ?_ | with_reducible refine rd_drop ?_
  | with_reducible refine rd_c ?_ | (with_reducible refine' rd_var ?e1 ?_; (case e1 => with_unfolding_all rfl)) | with_reducible refine rd_op ?_ | with_reducible refine rd_un ?_ | with_reducible refine rd_test ?_ | with_reducible refine rd_tb ?_ | with_reducible refine rd_bl ?_
  | with_reducible refine rd_and ?_ | with_reducible refine rd_or ?_ | with_reducible refine rd_not ?_ | with_reducible refine rd_ifx ?_ | with_reducible refine rd_andV ?_ | with_reducible refine rd_orV ?_ | with_reducible refine rd_notV ?_
  | with_reducible refine rd_cons ?_ | with_reducible refine rd_nil ?_ | with_reducible refine rd_cb ?_ | with_reducible refine rd_call ?_ | with_reducible refine rd_tupN ?_ | with_reducible refine rd_lstN ?_ | with_reducible refine rd_sl ?_ | with_reducible refine rd_nopart ?_ | with_reducible refine rd_part ?_ | with_reducible refine rd_ii ?_
  | with_reducible refine rd_bm ?_ | with_reducible refine rd_true ?_ | with_reducible refine rd_gname ?_ | with_reducible refine rd_gcons ?_ | with_reducible refine rd_gnil ?_ | with_reducible refine rd_gsub ?_ | with_reducible refine rd_i0 ?_ | with_reducible refine rd_u ?_ | with_reducible refine ra_int ?_ | with_reducible refine re_int ?_ | with_reducible refine rn_int ?_
  | (with_reducible refine' rx_tup ?e1 ?e2 ?_; (case e1 => assumption); (case e2 => with_unfolding_all rfl)) | (with_reducible refine' rx_lst ?e1 ?e2 ?_; (case e1 => exact SqL.of (by assumption)); (case e2 => with_unfolding_all rfl)) | (with_reducible refine' rlen_t ?e1 ?_; (case e1 => assumption)) | (with_reducible refine' rlen_l ?e1 ?_; (case e1 => exact SqL.of (by assumption))) | with_reducible refine rmax_i ?_ | with_reducible refine rmin_i ?_ | with_reducible refine rint_b ?_ | with_reducible refine rint_i ?_
  | (with_reducible refine' rm_r ?e1 ?e2 ?_; (case e1 => omega); (case e2 => omega)) | (with_reducible refine' rm_l ?e1 ?e2 ?_; (case e1 => omega); (case e2 => omega)) | (with_reducible refine' rd_iC ?e1 ?_; (case e1 => (show (0 : Int) < _; omega)))
  | with_reducible refine rd_for1 ?_ | with_reducible refine rd_forL ?_ | with_reducible refine rd_comp1 ?_ | with_reducible refine rd_compL ?_ | (with_reducible refine' rd_aug ?e1 ?_; (case e1 => with_unfolding_all rfl)) | with_reducible refine rd_asg ?_))

section
variable {P : Program} {w : World} {K : PySem.W.Frag} {mg : Str → Option Value} {base : Heap} {cNP : Addr}
theorem _root_.L2.SqL.kp {K : PySem.W.Frag} {H H' : Hp} {a : Addr} {xs : List V} (h : SqL K H a xs) (k : Kp [] H H') : SqL K H' a xs := by
  rcases h with (h | ⟨o, h⟩) | h
  · exact .inl (.inl (k.get h))
  · exact .inl (.inr ⟨o, k.get h⟩)
  · exact .inr h
def spDeck (K : PySem.W.Frag) : Sp := fun vs H Q _ => ∃ sc, ∃ ns : List Int, vs = [.ref sc] ∧ SqL K H sc (ns.map V.int) ∧ ns.length ≤ 63 ∧ ∀ d c H', Dk H' d c → H d = none → H c = none → Kp [] H H' → Q (.ref d) H'
abbrev s__law_deck : Stmt := top 13
theorem sc__law_deck : FnScope ["script", "cells", "seed", "k", "mixed"] ["script"] (defScope s__law_deck) := ⟨rfl, rfl, rfl, by decide +kernel, rfl, by decide +kernel, by decide +kernel⟩
theorem ok__law_deck {f : Addr} {fd : FuncData} (F : Fun K "_law_deck" "_law_deck" s__law_deck f fd) (T : Txt K mg cNP) : FnOk P w K mg base CX0 1 f fd ["script"] (spDeck K) := by
  have nd := sc__law_deck.nd
  refine F.ok sc__law_deck (fun vs H Q E h => ?_) (fun cdv A outer s H vs Q E hr h => ?_)
  · obtain ⟨d, c, rfl, _⟩ := h
    rfl
  · obtain ⟨sc, ns, rfl, h1, h2, k⟩ := h
    have hu := hr.units
    refine ⟨_, (pss_cons (ps_set (i := 1) nd rfl (by first | exact Or.inl rfl | exact Or.inr rfl) (pe_op op_addA (pe_slice sl_any (pv 0) po_none (po_some pe_int)) (pe_lst (pa_cons (pe_callB call_lenA (by rfl) T.len boot_len (pa_cons (pv 0) pa_nil)) pa_nil))) (hs := sw_binop))
      (pss_cons (ps_set (i := 2) nd rfl (by first | exact Or.inl rfl | exact Or.inr rfl) (pe_op op_mod (pe_op op_addA (pe_op op_addA (pe_op op_mulA (pe_callB (call_sumA (by rfl)) (by rfl) T.sum boot_sum (pa_cons (pe_slice sl_any (pv 0) po_none (po_some pe_int)) pa_nil)) pe_int) (pe_op op_mulA pe_int (pe_callB call_lenA (by rfl) T.len boot_len (pa_cons (pv 0) pa_nil)))) pe_int) pe_int) (hs := sw_binop))
      (pss_cons (ps_if (pt_cmpR (op_eqA hu) (pe_op op_mod (pe_callB (call_sumA (by rfl)) (by rfl) T.sum boot_sum (pa_cons (pe_slice sl_any (pv 0) po_none (po_some pe_int)) pa_nil)) pe_int) pe_int (nomark _)) (pss_one (ps_for PassesOwn.never (by rfl) (pi_range1 (by rfl) T.range (pa_cons (pe_callB call_lenA (by rfl) T.len boot_len (pa_cons (pv 1) pa_nil)) pa_nil)) (pg_name (i := 3) nd rfl (by first | exact Or.inl rfl | exact Or.inr rfl)) (pss_cons (ps_set (i := 4) nd rfl (by first | exact Or.inl rfl | exact Or.inr rfl) (pe_op op_mod (pe_op op_mulA (pe_op op_addA (pe_op op_addA (pe_op op_mod (pe_ix ix_any (pv 1) (pv 3) (fun _ _ => rfl)) pe_int) (pe_op op_mulA pe_int (pv 3))) pe_int) pe_int) pe_int) (hs := sw_binop))
      (pss_cons (ps_set (i := 4) nd rfl (by first | exact Or.inl rfl | exact Or.inr rfl) (pe_op op_mod (pe_op op_mulA (pe_op op_mod (pe_op op_addA (pe_op op_mulA (pv 4) (pv 4)) (pe_op op_mulA pe_int (pv 3))) pe_int) pe_int) pe_int) (hs := sw_binop))
      (pss_one (ps_asg (pe_op op_addA (pe_op op_mulA (pe_op op_mulA (pv 4) (pv 4)) pe_int) (pe_op op_mod (pe_op op_mulA (pv 4) pe_int) pe_int)) (pg_sub (pv 1) (pv 3) set_list))))))) pss_nil)
      (pss_one (ps_ret (pe_lst (pa_cons (pv 1) (pa_cons pe_int (pa_cons (pv 2) pa_nil))))))))), ?_⟩
    have cut : cutV (ns.map V.int) none (some 63) = ns.map V.int := by
      rw [cut_to (by decide)]
      exact List.take_of_length_le (by rw [List.length_map]; exact h2)
    walk_at "rd"
    refine rs_lst h1 fun p1 H1 n1 l1 k1 => ?_
    rw [cut] at l1
    walk_at "rd"
    have e1 := h1.kp k1
    refine rlen_l e1 ?_
    walk_at "rd"
    refine lstN (by show 1 ≤ sizeLine; decide) fun p2 H2 n2 l2 k2 => ?_
    refine ra_lst (k2.get l1) l2 (Nat.le_trans (by simp; omega : _ ≤ 100) (by decide)) fun c H3 n3 l3 k3 => ?_
    have e3 := h1.kp ((k1.trans k2).trans k3)
    walk_at "rd"
    refine rs_lst e3 fun p4 H4 n4 l4 k4 => ?_
    rw [cut] at l4
    walk_at "rd"
    refine rsum_l (SqL.of l4) ?_
    have e4 := e3.kp k4
    walk_at "rd"
    refine rlen_l e4 ?_
    walk_at "rd"
    refine rs_lst e4 fun p5 H5 n5 l5 k5 => ?_
    rw [cut] at l5
    walk_at "rd"
    refine rsum_l (SqL.of l5) ?_
    walk_at "rd"
    have hc : H c = none := (k1.trans k2).non n3
    have k15 : Kp [] H H5 := ((k1.trans k2).trans k3).trans (k4.trans k5)
    obtain ⟨cells, ec, l6, ln⟩ : ∃ cells : List Int, cells ≠ [] ∧ H5 c = some (.lst (cells.map V.int)) ∧ cells.length ≤ 64 :=
      ⟨ns ++ [((ns.map V.int).length : Int)], by simp, by rw [List.map_append]; exact (k4.trans k5).get l3, by simp; omega⟩
    clear l3 l4 l5 l1 l2 e1 e3 e4
    refine rd_dec (fun e0 => ?a) (fun e0 => ?b)
    case b =>
      walk_at "rd"
      refine lstN (by show 3 ≤ sizeLine; decide) fun d H6 n6 g6 k6 => ?_
      exact k d c H6 ⟨cells, 0, _, g6, k6.get l6, ec, ln, by decide⟩ (k15.non n6) hc (k15.trans k6)
    walk_at "rd"
    refine rrng (n := cells.length) (by rw [List.length_map]; omega) (by rw [List.length_map]; omega) (by omega) (fun i σ G => ∃ u v cs, σ = [some (.ref sc), some (.ref c), _, u, v] ∧ G c = some (.lst ((cs : List Int).map V.int)) ∧ cs.length = cells.length ∧ ∀ b o, H b = some o → G b = some o) ⟨_, _, cells, rfl, l6, rfl, fun b o h => k15.get h⟩ ?_ ?_
    · rintro i σ G hi ⟨u, v, cs, rfl, g1, g2, g3⟩
      walk_at "rd"
      refine rx_lst (SqL.of g1) (atI_pos (by omega) (v := .int (cs.getD i 0)) (by simp [show i < cs.length by omega])) ?_
      walk_at "rd"
      refine rd_put g1 (ixN_pos (by omega) (by rw [List.length_map]; omega)) fun H7 q1 kp7 q2 => ?_
      rw [← List.map_set] at q1
      exact ⟨_, _, _, rfl, q1, by rw [List.length_set]; exact g2, fun b o h => (q2 b (ne_of_none h hc)).trans (g3 b o h)⟩
    · rintro σ G ⟨u, v, cs, rfl, g1, g2, g3⟩
      walk_at "rd"
      refine lstN (by show 3 ≤ sizeLine; decide) fun d H6 n6 g6 k6 => ?_
      have kG : Kp [] H G := ⟨fun b o _ h => g3 b o h, fun b xs h => g3 b _ h⟩
      exact k d c H6 ⟨cs, 0, _, g6, k6.get g1, fun z => ec (List.length_eq_zero_iff.mp (by rw [← g2, z]; rfl)), by omega, by decide⟩ (kG.non n6) hc (kG.trans k6)
end
end My

set_option Elab.async false
set_option linter.all false
set_option maxRecDepth 100000
set_option maxHeartbeats 2000000
namespace My
open PySem L2 PyProof.Rows
local macro_rules | `(tactic| walk_at "rd") => `(tactic| repeat (first
  | with_reducible refine rd_seq ?_ | with_reducible refine rd_set ?_ | with_reducible refine rd_ret ?_ | with_reducible refine rd_if ?_ | with_reducible refine rd_next ?_ | with_reducible refine rd_drop ?_
  | with_reducible refine rd_c ?_ | (with_reducible refine' rd_var ?e1 ?_; (case e1 => with_unfolding_all rfl)) | with_reducible refine rd_op ?_ | with_reducible refine rd_un ?_ | with_reducible refine rd_test ?_ | with_reducible refine rd_tb ?_ | with_reducible refine rd_bl ?_
  | with_reducible refine rd_and ?_ | with_reducible refine rd_or ?_ | with_reducible refine rd_not ?_ | with_reducible refine rd_ifx ?_ | with_reducible refine rd_andV ?_ | with_reducible refine rd_orV ?_ | with_reducible refine rd_notV ?_
  | with_reducible refine rd_cons ?_ | with_reducible refine rd_nil ?_ | with_reducible refine rd_cb ?_ | with_reducible refine rd_call ?_ | with_reducible refine rd_tupN ?_ | with_reducible refine rd_lstN ?_ | with_reducible refine rd_sl ?_ | with_reducible refine rd_nopart ?_ | with_reducible refine rd_part ?_ | with_reducible refine rd_ii ?_
  | with_reducible refine rd_bm ?_ | with_reducible refine rd_true ?_ | with_reducible refine rd_gname ?_ | with_reducible refine rd_gcons ?_ | with_reducible refine rd_gnil ?_ | with_reducible refine rd_gsub ?_ | with_reducible refine rd_i0 ?_ | with_reducible refine rd_u ?_ | with_reducible refine ra_int ?_ | with_reducible refine re_int ?_ | with_reducible refine rn_int ?_
  | (with_reducible refine' rx_tup ?e1 ?e2 ?_; (case e1 => assumption); (case e2 => with_unfolding_all rfl)) | (with_reducible refine' rx_lst ?e1 ?e2 ?_; (case e1 => exact SqL.of (by assumption)); (case e2 => with_unfolding_all rfl)) | (with_reducible refine' rlen_t ?e1 ?_; (case e1 => assumption)) | (with_reducible refine' rlen_l ?e1 ?_; (case e1 => exact SqL.of (by assumption))) | with_reducible refine rmax_i ?_ | with_reducible refine rmin_i ?_ | with_reducible refine rint_b ?_ | with_reducible refine rint_i ?_
  | (with_reducible refine' rm_r ?e1 ?e2 ?_; (case e1 => omega); (case e2 => omega)) | (with_reducible refine' rm_l ?e1 ?e2 ?_; (case e1 => omega); (case e2 => omega)) | (with_reducible refine' rd_iC ?e1 ?_; (case e1 => (show (0 : Int) < _; omega)))
  | with_reducible refine rd_for1 ?_ | with_reducible refine rd_forL ?_ | with_reducible refine rd_comp1 ?_ | with_reducible refine rd_compL ?_ | (with_reducible refine' rd_aug ?e1 ?_; (case e1 => with_unfolding_all rfl)) | with_reducible refine rd_asg ?_ | with_reducible refine rd_rev ?_ | with_reducible refine rd_callX ?_ | with_reducible refine rd_chain ?_))
/-! ### digits, the mathematics -/
def wF (hd rg : List Int) (st : Nat) : Nat → Int
  | 0 => 1
  | i + 1 => wF hd rg st i * bAt hd rg (st + i)
def dg (hd rg : List Int) (st : Nat) (n : Int) (m : Nat) : List Int := (List.range m).map fun j => n / wF hd rg st j % bAt hd rg (st + j)
def Rch (hd rg : List Int) (st : Nat) (n : Int) (m : Nat) : Prop := ∀ j, j < m → hasP hd rg ((st + j : Nat) : Int) = true ∧ wF hd rg st j ≤ n
def DgOk (hd rg : List Int) (st : Nat) (n : Int) (m : Nat) : Prop := Rch hd rg st n m ∧ n < wF hd rg st m
def DgNo (hd rg : List Int) (st : Nat) (n : Int) (m : Nat) : Prop := Rch hd rg st n m ∧ hasP hd rg ((st + m : Nat) : Int) = false ∧ wF hd rg st m ≤ n
theorem b_ok {hd rg : List Int} (o1 : Ok hd) (o2 : Ok rg) {i : Nat} (h : hasP hd rg (i : Int) = true) : 2 ≤ bAt hd rg i ∧ bAt hd rg i ≤ 1000000 := by
  have z := bAt_ok o1 o2 h
  simpa using z
theorem DgOk.uniq {hd rg : List Int} {st : Nat} {n : Int} {m m' : Nat} (h : DgOk hd rg st n m) (h' : DgOk hd rg st n m') : m = m' := by
  rcases Nat.lt_trichotomy m m' with z | z | z
  · have := (h'.1 m z).2
    have := h.2
    omega
  · exact z
  · have := (h.1 m' z).2
    have := h'.2
    omega
theorem DgOk.no {hd rg : List Int} {st : Nat} {n : Int} {m m' : Nat} (h : DgOk hd rg st n m) (h' : DgNo hd rg st n m') : False := by
  rcases Nat.lt_trichotomy m m' with z | z | z
  · have := (h'.1 m z).2
    have := h.2
    omega
  · subst z
    have := h'.2.2
    have := h.2
    omega
  · have z1 := (h.1 m' z).1
    rw [h'.2.1] at z1
    cases z1
theorem wF_ge {hd rg : List Int} (o1 : Ok hd) (o2 : Ok rg) {st : Nat} : ∀ {i : Nat}, (∀ j, j < i → hasP hd rg ((st + j : Nat) : Int) = true) → (2 : Int) ^ i ≤ wF hd rg st i
  | 0, _ => by simp [wF]
  | i + 1, h => by
    have h1 := wF_ge o1 o2 (i := i) fun j hj => h j (by omega)
    have b := b_ok o1 o2 (h i (by omega))
    rw [wF, Int.pow_succ]
    exact Int.mul_le_mul h1 b.1 (by decide) (Int.le_trans (Int.pow_nonneg (by decide)) h1)
theorem Rch.ge {hd rg : List Int} {st : Nat} {n : Int} {i : Nat} (h : Rch hd rg st n i) (o1 : Ok hd) (o2 : Ok rg) : (2 : Int) ^ i ≤ wF hd rg st i := wF_ge o1 o2 fun j hj => (h j hj).1
theorem Rch.pos {hd rg : List Int} {st : Nat} {n : Int} {i : Nat} (h : Rch hd rg st n i) (o1 : Ok hd) (o2 : Ok rg) : 0 < wF hd rg st i := Int.lt_of_lt_of_le (Int.pow_pos (by decide)) (h.ge o1 o2)
theorem lt1000 {i : Nat} {n : Int} (h : (2 : Int) ^ i ≤ n) (hn : n < 2 ^ 4000) : i < 4000 := by
  refine Nat.lt_of_not_le fun z => ?_
  have z2 : (2 : Int) ^ 4000 ≤ 2 ^ i := by
    have := Nat.pow_le_pow_right (n := 2) (by decide) z
    exact_mod_cast this
  exact Int.lt_irrefl _ (Int.lt_of_lt_of_le hn (Int.le_trans z2 h))
theorem Rch.next {hd rg : List Int} {st : Nat} {n : Int} {i : Nat} (h : Rch hd rg st n i) (hp : hasP hd rg ((st + i : Nat) : Int) = true) (hw : wF hd rg st i ≤ n) : Rch hd rg st n (i + 1) := fun j hj => by
  by_cases e : j = i
  · subst e; exact ⟨hp, hw⟩
  · exact h j (by omega)
theorem dg_len {hd rg : List Int} {st : Nat} {n : Int} {i : Nat} : (dg hd rg st n i).length = i := by simp [dg]
theorem dg_next {hd rg : List Int} {st : Nat} {n : Int} {i : Nat} : dg hd rg st n (i + 1) = dg hd rg st n i ++ [n / wF hd rg st i % bAt hd rg (st + i)] := by
  unfold dg
  rw [List.range_succ, List.map_append]
  rfl
theorem small_b {b : Int} (h0 : 2 ≤ b) (h1 : b ≤ 1000000) : b.natAbs < 2 ^ 9000 := Nat.lt_of_le_of_lt (show b.natAbs ≤ 1000000 by omega) (by decide +kernel)
theorem small_n {b : Int} (h0 : 0 ≤ b) (h1 : b < 2 ^ 4000) : b.natAbs < 2 ^ 9000 := by
  have e : ((b.natAbs : Nat) : Int) = b := by omega
  have h2 : ((b.natAbs : Nat) : Int) < ((2 ^ 4000 : Nat) : Int) := by rw [e]; exact_mod_cast h1
  exact Nat.lt_trans (Int.ofNat_lt.mp h2) (by decide +kernel)

def spFrom (C : Addr) : Sp := fun vs H Q E => ∃ v hd rg, ∃ (st : Nat) (n : Int), vs = [v, .int (st : Int), .int n] ∧ Scl H v hd rg ∧ Ok hd ∧ Ok rg ∧ 0 ≤ n ∧ n < 2 ^ 4000 ∧
  (∀ m, DgOk hd rg st n m → ∀ p H', H p = none → H' p = some (.tup ((dg hd rg st n m).map V.int)) → Kp [] H H' → Q (.ref p) H') ∧ (∀ m, DgNo hd rg st n m → ∀ H', Kp [] H H' → E (.ref C) none H')
def spDigits (C : Addr) : Sp := fun vs H Q E => ∃ v n, vs = [v, .int n] ∧ spFrom C [v, .int ((0 : Nat) : Int), .int n] H Q E
structure TxG (K : PySem.W.Frag) (mg : Str → Option Value) (cNP cTG : Addr) : Prop extends Txt K mg cNP where
  TooGreat : mg "TooGreat" = some (.ref cTG)
  xTooGreat : PySem.W.excIn K cTG [.type "ValueError", .type "Exception", .type "BaseException", .type "object"] "ValueError.__new__" = true
section
variable {P : Program} {w : World} {K : PySem.W.Frag} {mg : Str → Option Value} {base : Heap} {cNP cTG : Addr}
end
end My

set_option Elab.async false
set_option linter.all false
set_option maxRecDepth 100000
set_option maxHeartbeats 2000000
namespace My
open PySem L2 PyProof.Rows
local macro_rules | `(tactic| walk_at "rd") => `(tactic| repeat (first
  | with_reducible refine rd_seq ?_ | with_reducible refine rd_set ?_ | with_reducible refine rd_ret ?_ | with_reducible refine rd_if ?_ | with_reducible refine rd_next ?_ | with_reducible refine rd_drop ?_
  | with_reducible refine rd_c ?_ | (with_reducible refine' rd_var ?e1 ?_; (case e1 => with_unfolding_all rfl)) | with_reducible refine rd_op ?_ | with_reducible refine rd_un ?_ | with_reducible refine rd_test ?_ | with_reducible refine rd_tb ?_ | with_reducible refine rd_bl ?_
  | with_reducible refine rd_and ?_ | with_reducible refine rd_or ?_ | with_reducible refine rd_not ?_ | with_reducible refine rd_ifx ?_ | with_reducible refine rd_andV ?_ | with_reducible refine rd_orV ?_ | with_reducible refine rd_notV ?_
  | with_reducible refine rd_cons ?_ | with_reducible refine rd_nil ?_ | with_reducible refine rd_cb ?_ | with_reducible refine rd_call ?_ | with_reducible refine rd_tupN ?_ | with_reducible refine rd_lstN ?_ | with_reducible refine rd_sl ?_ | with_reducible refine rd_nopart ?_ | with_reducible refine rd_part ?_ | with_reducible refine rd_ii ?_
  | with_reducible refine rd_bm ?_ | with_reducible refine rd_true ?_ | with_reducible refine rd_gname ?_ | with_reducible refine rd_gcons ?_ | with_reducible refine rd_gnil ?_ | with_reducible refine rd_gsub ?_ | with_reducible refine rd_i0 ?_ | with_reducible refine rd_u ?_ | with_reducible refine ra_int ?_ | with_reducible refine re_int ?_ | with_reducible refine rn_int ?_
  | (with_reducible refine' rx_tup ?e1 ?e2 ?_; (case e1 => assumption); (case e2 => with_unfolding_all rfl)) | (with_reducible refine' rx_lst ?e1 ?e2 ?_; (case e1 => exact SqL.of (by assumption)); (case e2 => with_unfolding_all rfl)) | (with_reducible refine' rlen_t ?e1 ?_; (case e1 => assumption)) | (with_reducible refine' rlen_l ?e1 ?_; (case e1 => exact SqL.of (by assumption))) | with_reducible refine rmax_i ?_ | with_reducible refine rmin_i ?_ | with_reducible refine rint_b ?_ | with_reducible refine rint_i ?_
  | (with_reducible refine' rm_r ?e1 ?e2 ?_; (case e1 => omega); (case e2 => omega)) | (with_reducible refine' rm_l ?e1 ?e2 ?_; (case e1 => omega); (case e2 => omega)) | (with_reducible refine' rd_iC ?e1 ?_; (case e1 => (show (0 : Int) < _; omega)))
  | with_reducible refine rd_for1 ?_ | with_reducible refine rd_forL ?_ | with_reducible refine rd_comp1 ?_ | with_reducible refine rd_compL ?_ | (with_reducible refine' rd_aug ?e1 ?_; (case e1 => with_unfolding_all rfl)) | with_reducible refine rd_asg ?_ | with_reducible refine rd_rev ?_ | with_reducible refine rd_callX ?_ | with_reducible refine rd_chain ?_))
theorem cut_last {xs : List V} {z : V} : cutV (xs ++ [z]) none (some (-1)) = xs := by
  unfold cutV
  have e : HT.sIx (xs ++ [z]).length 0 none = 0 := rfl
  have e2 : HT.sIx (xs ++ [z]).length (xs ++ [z]).length (some (-1)) = xs.length := by
    unfold HT.sIx
    simp only [List.length_append, List.length_singleton]
    rw [if_pos (by decide)]
    omega
  rw [e, e2]
  simp
theorem mod_div {a w b : Int} (hw : 0 < w) : a % (w * b) / w = a / w % b := by
  rw [Int.emod_def, Int.emod_def, Int.mul_assoc, Int.sub_eq_add_neg, ← Int.mul_neg, Int.add_mul_ediv_left _ _ (by omega), ← Int.sub_eq_add_neg]
  congr 2
  first | rw [Int.ediv_ediv_of_nonneg (by omega)] | rw [Int.ediv_ediv_eq_ediv_mul _ (by omega)] | rw [Int.ediv_ediv (by omega)]
theorem wF_mod {hd rg : List Int} {st i : Nat} {n : Int} : n % wF hd rg st (i + 1) % wF hd rg st i = n % wF hd rg st i := by
  rw [wF]
  exact Int.emod_emod_of_dvd _ ⟨_, rfl⟩
def spLDig : Sp := fun vs H Q _ => ∃ v hd rg n, vs = [v, .int n] ∧ Scl H v hd rg ∧ Ok hd ∧ Ok rg ∧ 0 ≤ n ∧ n < 2 ^ 4000 ∧
  (∀ m, DgOk hd rg 0 n m → ∀ p H', H p = none → H' p = some (.tup ((dg hd rg 0 n m).map V.int)) → Kp [] H H' → Q (.ref p) H') ∧ (∀ m, DgNo hd rg 0 n m → ∀ H', Kp [] H H' → Q .non H')
section
variable {P : Program} {w : World} {K : PySem.W.Frag} {mg : Str → Option Value} {base : Heap} {cNP cTG : Addr}
abbrev s__law_digits : Stmt := top 22
theorem sc__law_digits : FnScope ["scale", "number", "worths", "found", "worth", "head", "ring", "at", "base"] ["scale", "number"] (defScope s__law_digits) := ⟨rfl, rfl, rfl, by decide +kernel, rfl, by decide +kernel, by decide +kernel⟩
theorem ok__law_digits {f : Addr} {fd : FuncData} (F : Fun K "_law_digits" "_law_digits" s__law_digits f fd) (T : Txt K mg cNP) : FnOk P w K mg base CX0 1 f fd ["scale", "number"] spLDig := by
  have nd := sc__law_digits.nd
  refine F.ok sc__law_digits (fun vs H Q E h => ?_) (fun cdv A outer s H vs Q E hr h => ?_)
  · obtain ⟨v, hd, rg, n, rfl, _⟩ := h
    rfl
  · obtain ⟨v, hd, rg, n, rfl, ⟨a, x, y, rfl, ha, ⟨b, rfl, hb⟩, ⟨c, rfl, hc⟩⟩, o1, o2, n0, n1, k1, k2⟩ := h
    have hu := hr.units
    refine ⟨_, (pss_cons (ps_asg (pv 0) (pg_tup (by rfl) (pgs_cons (pg_name (i := 5) nd rfl (by first | exact Or.inl rfl | exact Or.inr rfl)) (pgs_cons (pg_name (i := 6) nd rfl (by first | exact Or.inl rfl | exact Or.inr rfl)) pgs_nil))))
      (pss_cons (ps_set (i := 2) nd rfl (by first | exact Or.inl rfl | exact Or.inr rfl) (pe_lst (pa_cons pe_int pa_nil)) (hs := sw_list))
      (pss_cons (ps_while PassesOwn.never (pt_cmpR op_le (pe_ix ix_any (pv 2) (pe_un un_neg pe_int) (fun _ _ => rfl)) (pv 1) (nomark _)) (pss_cons (ps_set (i := 7) nd rfl (by first | exact Or.inl rfl | exact Or.inr rfl) (pe_op op_sub (pe_callB call_lenA (by rfl) T.len boot_len (pa_cons (pv 2) pa_nil)) pe_int) (hs := sw_binop))
      (pss_cons (ps_if (pt_cmpR op_lt (pv 7) (pe_callB call_lenA (by rfl) T.len boot_len (pa_cons (pv 5) pa_nil)) (nomark _)) (pss_one (ps_set (i := 8) nd rfl (by first | exact Or.inl rfl | exact Or.inr rfl) (pe_ix ix_any (pv 5) (pv 7) (fun _ _ => rfl)) (hs := sw_sub))) (pss_one (ps_if (pt_cmpR (op_eqA hu) (pv 6) (pe_ints (ns := []) (by first | assumption | decide +kernel)) (nomark _)) (pss_one (ps_ret pe_non)) (pss_one (ps_set (i := 8) nd rfl (by first | exact Or.inl rfl | exact Or.inr rfl) (pe_ix ix_any (pv 6) (pe_op op_mod (pe_op op_sub (pv 7) (pe_callB call_lenA (by rfl) T.len boot_len (pa_cons (pv 5) pa_nil))) (pe_callB call_lenA (by rfl) T.len boot_len (pa_cons (pv 6) pa_nil))) (fun _ _ => rfl)) (hs := sw_sub))))))
      (pss_one (ps_expr (pe_bm PySem.F.plainAttrs_list PySem.F.slot_list_append PySem.F.type_list_append mt_append (pv 2) (pa_cons (pe_op op_mulA (pe_ix ix_any (pv 2) (pe_un un_neg pe_int) (fun _ _ => rfl)) (pv 8)) pa_nil)))))))
      (pss_cons (ps_set (i := 3) nd rfl (by first | exact Or.inl rfl | exact Or.inr rfl) (pe_lst pa_nil) (hs := sw_list))
      (pss_cons (ps_for PassesOwn.never (by rfl) (pi_list (pe_rev (pe_slice sl_any (pv 2) po_none (po_some (pe_un un_neg pe_int))) (po_some (pe_un un_neg pe_int)))) (pg_name (i := 4) nd rfl (by first | exact Or.inl rfl | exact Or.inr rfl)) (pss_cons (ps_expr (pe_bm PySem.F.plainAttrs_list PySem.F.slot_list_append PySem.F.type_list_append mt_append (pv 3) (pa_cons (pe_op op_fdivB (pv 1) (pv 4)) pa_nil)))
      (pss_one (ps_set (i := 1) nd rfl (by first | exact Or.inl rfl | exact Or.inr rfl) (pe_op op_mod (pv 1) (pv 4)) (hs := sw_binop)))))
      (pss_one (ps_ret (pe_callTy call_tupA (by rfl) T.tuple boot_tuple (pa_cons (pe_rev (pv 3) (po_some (pe_un un_neg pe_int))) pa_nil))))))))), ?_⟩
    walk_at "rd"
    refine rd_gtup ha rfl ?_
    walk_at "rd"
    refine lstN (by show 1 ≤ sizeLine; decide) fun q H1 nq g1 kp1 => ?_
    walk_at "rd"
    refine rd_while (m0 := 4000) (fun m σ H2 => ∃ (i : Nat) (u3 u4 u7 u8 : Option V), σ = [some (.ref a), some (.int n), some (.ref q), u3, u4, some (.ref b), some (.ref c), u7, u8] ∧ H2 q = some (.lst ((List.range (i + 1)).map fun j => V.int (wF hd rg 0 j))) ∧ (∀ b o, H b = some o → H2 b = some o) ∧ Rch hd rg 0 n i ∧ m = 4000 - i) ?_ ?_
    · exact ⟨0, _, _, _, _, rfl, g1, fun b o h => kp1.get h, fun j hj => absurd hj (by omega), rfl⟩
    · rintro m σ H2 ⟨i, u3, u4, u7, u8, rfl, g2, k3, hj, rfl⟩
      have kp2 : Kp [] H H2 := ⟨fun b o _ h => k3 b o h, fun b xs h => k3 b _ h⟩
      have wp := hj.pos o1 o2
      have hb2 := kp2.get hb
      have hc2 := kp2.get hc
      have l2 : (List.range (i + 1)).map (fun j => V.int (wF hd rg 0 j)) = ((List.range i).map fun j => V.int (wF hd rg 0 j)) ++ [V.int (wF hd rg 0 i)] := by rw [List.range_succ, List.map_append]; rfl
      walk_at "rd"
      refine rx_lst (SqL.of g2) (by rw [l2]; exact atI_last _ _) ?_
      walk_at "rd"
      refine rd_dec (fun hle => ?_) (fun hgt => ?_)
      · have i1000 := lt1000 (Int.le_trans (hj.ge o1 o2) hle) n1
        refine ⟨_, fun _ _ h => h, ?_⟩
        have e7 : ((((List.range (i + 1)).map fun j => V.int (wF hd rg 0 j)).length : Int) - 1) = (i : Int) := by simp
        walk_at "rd"
        rw [e7, List.length_map]
        refine rd_dec (fun h1 => ?_) (fun h1 => ?_)
        · have hp : hasP hd rg ((0 + i : Nat) : Int) = true := by
            unfold hasP
            rw [decide_eq_true (by omega), Bool.true_and, decide_eq_true (p := ((0 + i : Nat) : Int) < hd.length) (by omega), Bool.or_true]
          have hp0 : hasP hd rg (i : Int) = true := by simpa using hp
          obtain ⟨b0, b1⟩ := b_ok o1 o2 hp0
          walk_at "rd"
          refine rx_tup hb2 (atI_pos (by omega) (v := .int (bAt hd rg i)) (by unfold bAt; rw [if_pos (by omega)]; simp [show i < hd.length by omega])) ?_
          walk_at "rd"
          refine ⟨.inl ⟨rfl, _, SqL.of g2⟩, ?_⟩
          walk_at "rd"
          refine rx_lst (SqL.of g2) (by rw [l2]; exact atI_last _ _) ?_
          walk_at "rd"
          refine rd_more g2 (by simp; exact Nat.lt_of_lt_of_le (show i + 1 < 4001 by omega) (by decide)) fun H3 g3 kp3 g4 => ?_
          refine ⟨4000 - (i + 1), by omega, i + 1, _, _, _, _, rfl, ?_, fun b o h => (g4 b (ne_of_none h nq)).trans (k3 b o h), hj.next hp hle, rfl⟩
          rw [g3, List.range_succ (n := i + 1), List.map_append, List.map_singleton, wF, Nat.zero_add]
        · walk_at "rd"
          intro v3 H3 kp3 i3
          refine re_tup (Ints.dv (ns := rg) ⟨c, rfl, kp3.get hc2⟩) (Ints.dv i3) (by rw [depths_ints]; decide) ?_
          walk_at "rd"
          rw [eqs_ints]
          refine rd_dec (fun hr => ?_) (fun hr => ?_)
          · walk_at "rd"
            refine k2 i ⟨hj, ?_, hle⟩ H3 (kp2.trans kp3)
            subst hr
            unfold hasP
            rw [decide_eq_false (p := ((0 + i : Nat) : Int) < hd.length) (by omega)]
            simp
          · have hrl : 0 < rg.length := List.length_pos_iff.mpr hr
            have hp : hasP hd rg ((0 + i : Nat) : Int) = true := by
              unfold hasP
              rw [decide_eq_true (by omega), Bool.true_and, decide_eq_true (p := 0 < (rg.length : Int)) (by omega), Bool.true_or]
            have hp0 : hasP hd rg (i : Int) = true := by simpa using hp
            obtain ⟨b0, b1⟩ := b_ok o1 o2 hp0
            have hb3 := kp3.get hb2
            have hc3 := kp3.get hc2
            have g23 := kp3.get g2
            walk_at "rd"
            rw [List.length_map, List.length_map]
            refine rd_iC (by show (0 : Int) < _; omega) ?_
            have e : (((i : Int) - (hd.length : Int)) % (rg.length : Int)).toNat = (i - hd.length) % rg.length := by
              rw [Int.toNat_emod (by omega) (by omega)]
              congr 1
              omega
            have lt2 : (i - hd.length) % rg.length < rg.length := Nat.mod_lt _ hrl
            refine rx_tup hc3 (atI_pos (Int.emod_nonneg _ (by omega)) (v := .int (bAt hd rg i)) (by rw [e]; unfold bAt; rw [if_neg (by omega)]; simp [lt2])) ?_
            walk_at "rd"
            refine ⟨.inl ⟨rfl, _, SqL.of g23⟩, ?_⟩
            walk_at "rd"
            refine rx_lst (SqL.of g23) (by rw [l2]; exact atI_last _ _) ?_
            walk_at "rd"
            refine rd_more g23 (by simp; exact Nat.lt_of_lt_of_le (show i + 1 < 4001 by omega) (by decide)) fun H4 g3 kp4 g4 => ?_
            refine ⟨4000 - (i + 1), by omega, i + 1, _, _, _, _, rfl, ?_, fun b o h => (g4 b (ne_of_none h nq)).trans (kp3.get (k3 b o h)), hj.next hp hle, rfl⟩
            rw [g3, List.range_succ (n := i + 1), List.map_append, List.map_singleton, wF, Nat.zero_add]
      · walk_at "rd"
        refine lstN (by show 0 ≤ sizeLine; decide) fun r H3 nr g3 kp3 => ?_
        walk_at "rd"
        refine rs_lst (SqL.of (kp3.get g2)) fun t H4 nt g4 kp4 => ?_
        rw [l2, cut_last] at g4
        walk_at "rd"
        refine rr_l (SqL.of g4) fun t2 H5 nt2 g5 kp5 => ?_
        have gr : H5 r = some (.lst []) := kp5.get (kp4.get g3)
        have ntr : t2 ≠ r := fun z => by rw [z, kp4.get g3] at nt2; cases nt2
        have kp25 : Kp [] H H5 := (kp2.trans kp3).trans (kp4.trans kp5)
        have lt : n < wF hd rg 0 i := Int.not_le.mp hgt
        have i1000 : i ≤ 4000 := by
          cases i with
          | zero => omega
          | succ j => 
            have z := hj j (by omega)
            have := lt1000 (Int.le_trans (Rch.ge (i := j) (fun s hs => hj s (by omega)) o1 o2) z.2) n1
            omega
        have xl : (((List.range i).map fun j => V.int (wF hd rg 0 j)).reverse).length = i := by simp
        refine rlol (xs := ((List.range i).map fun j => V.int (wF hd rg 0 j)).reverse) (fun s σ G => ∃ (l : Int) (u4 u7 u8 : Option V), l = n % wF hd rg 0 (i - s) ∧ σ = [some (.ref a), some (.int l), some (.ref q), some (.ref r), u4, some (.ref b), some (.ref c), u7, u8] ∧ G r = some (.lst ((List.range s).map fun z => V.int (n % wF hd rg 0 (i - z) / wF hd rg 0 (i - 1 - z)))) ∧ (∀ b o, b ≠ r → H5 b = some o → G b = some o)) ⟨n, _, _, _, (Int.emod_eq_of_lt n0 lt).symm, rfl, gr, fun _ _ _ h => h⟩ ?_ ?_ ?_
        · rintro s σ G hs ⟨l, u4, u7, u8, el, rfl, q1, q2⟩
          exact SqL.of (q2 _ _ ntr g5)
        · rintro s x σ G hx ⟨l, u4, u7, u8, el, rfl, q1, q2⟩
          have hsi : s < i := by
            have z := (List.getElem?_eq_some_iff.mp hx).1
            rw [xl] at z
            exact z
          have ex : x = .int (wF hd rg 0 (i - 1 - s)) := by
            rw [List.getElem?_reverse (by simpa using hsi), List.getElem?_map, List.length_map, List.length_range, List.getElem?_range (by omega)] at hx
            exact (Option.some.inj hx).symm
          subst ex
          have hj' : Rch hd rg 0 n (i - 1 - s) := fun z hz => hj z (by omega)
          have wp' := hj'.pos o1 o2
          have wl := (hj (i - 1 - s) (by omega)).2
          walk_at "rd"
          refine ⟨.inl ⟨rfl, _, SqL.of q1⟩, ?_⟩
          walk_at "rd"
          refine rd_iC ⟨wp', small_n (by omega) (Int.lt_of_le_of_lt wl n1)⟩ ?_
          walk_at "rd"
          refine rd_more q1 (by simp; exact Nat.lt_of_lt_of_le (show s < 4001 by omega) (by decide)) fun G2 e1 kpG e2 => ?_
          walk_at "rd"
          refine ⟨_, _, _, _, ?_, rfl, ?_, fun b o hb h => (e2 b hb).trans (q2 b o hb h)⟩
          · rw [el, show i - s = (i - 1 - s) + 1 by omega, wF_mod, show i - (s + 1) = i - 1 - s by omega]
          · rw [e1, List.range_succ, List.map_append, List.map_singleton, el]
        · rintro σ G hP
          rw [xl] at hP
          obtain ⟨l, u4, u7, u8, el, rfl, q1, q2⟩ := hP
          walk_at "rd"
          refine rr_l (SqL.of q1) fun t3 H6 nt3 g6 kp6 => ?_
          walk_at "rd"
          refine rtup_l (SqL.of g6) fun t4 H7 nt4 g7 kp7 => ?_
          have nrH : H r = none := kp2.non nr
          have kG : Kp [] H G := ⟨fun b o _ h => q2 b o (ne_of_none h nrH) (kp25.get h), fun b xs h => q2 b _ (ne_of_none h nrH) (kp25.get h)⟩
          refine k1 i ⟨hj, lt⟩ t4 H7 ((kG.trans kp6).non nt4) ?_ ((kG.trans kp6).trans kp7)
          rw [g7]
          congr 2
          refine List.ext_getElem? fun j => ?_
          by_cases hji : j < i
          · rw [List.getElem?_reverse (by simpa using hji), List.getElem?_map, List.getElem?_map, List.length_map, List.length_range, List.getElem?_range (by omega), dg, List.getElem?_map, List.getElem?_range hji]
            have wpj : 0 < wF hd rg 0 j := Rch.pos (n := n) (fun z hz => hj z (by omega)) o1 o2
            show some (V.int _) = some (V.int _)
            rw [show i - (i - 1 - j) = j + 1 by omega, show i - 1 - (i - 1 - j) = j by omega, wF, mod_div wpj]
          · rw [List.getElem?_eq_none (by simp; omega), List.getElem?_eq_none (by simp [dg]; omega)]
end
end My

set_option Elab.async false
set_option linter.all false
set_option maxRecDepth 100000
set_option maxHeartbeats 2000000
namespace My
open PySem L2 PyProof.Rows
local macro_rules | `(tactic| walk_at "rd") => `(tactic| repeat (first
  | with_reducible refine rd_seq ?_ | with_reducible refine rd_set ?_ | with_reducible refine rd_ret ?_ | with_reducible refine rd_if ?_ | with_reducible refine rd_next ?_ | with_reducible refine rd_drop ?_
  | with_reducible refine rd_c ?_ | (with_reducible refine' rd_var ?e1 ?_; (case e1 => with_unfolding_all rfl)) | with_reducible refine rd_op ?_ | with_reducible refine rd_un ?_ | with_reducible refine rd_test ?_ | with_reducible refine rd_tb ?_ | with_reducible refine rd_bl ?_
  | with_reducible refine rd_and ?_ | with_reducible refine rd_or ?_ | with_reducible refine rd_not ?_ | with_reducible refine rd_ifx ?_ | with_reducible refine rd_andV ?_ | with_reducible refine rd_orV ?_ | with_reducible refine rd_notV ?_
  | with_reducible refine rd_cons ?_ | with_reducible refine rd_nil ?_ | with_reducible refine rd_cb ?_ | with_reducible refine rd_call ?_ | with_reducible refine rd_tupN ?_ | with_reducible refine rd_lstN ?_ | with_reducible refine rd_sl ?_ | with_reducible refine rd_nopart ?_ | with_reducible refine rd_part ?_ | with_reducible refine rd_ii ?_
  | with_reducible refine rd_bm ?_ | with_reducible refine rd_true ?_ | with_reducible refine rd_gname ?_ | with_reducible refine rd_gcons ?_ | with_reducible refine rd_gnil ?_ | with_reducible refine rd_gsub ?_ | with_reducible refine rd_i0 ?_ | with_reducible refine rd_u ?_ | with_reducible refine ra_int ?_ | with_reducible refine re_int ?_ | with_reducible refine rn_int ?_
  | (with_reducible refine' rx_tup ?e1 ?e2 ?_; (case e1 => assumption); (case e2 => with_unfolding_all rfl)) | (with_reducible refine' rx_lst ?e1 ?e2 ?_; (case e1 => exact SqL.of (by assumption)); (case e2 => with_unfolding_all rfl)) | (with_reducible refine' rlen_t ?e1 ?_; (case e1 => assumption)) | (with_reducible refine' rlen_l ?e1 ?_; (case e1 => exact SqL.of (by assumption))) | with_reducible refine rmax_i ?_ | with_reducible refine rmin_i ?_ | with_reducible refine rint_b ?_ | with_reducible refine rint_i ?_
  | (with_reducible refine' rm_r ?e1 ?e2 ?_; (case e1 => omega); (case e2 => omega)) | (with_reducible refine' rm_l ?e1 ?e2 ?_; (case e1 => omega); (case e2 => omega)) | (with_reducible refine' rd_iC ?e1 ?_; (case e1 => (show (0 : Int) < _; omega)))
  | with_reducible refine rd_for1 ?_ | with_reducible refine rd_forL ?_ | with_reducible refine rd_comp1 ?_ | with_reducible refine rd_compL ?_ | (with_reducible refine' rd_aug ?e1 ?_; (case e1 => with_unfolding_all rfl)) | with_reducible refine rd_asg ?_ | with_reducible refine rd_rev ?_ | with_reducible refine rd_callX ?_ | with_reducible refine rd_chain ?_ | with_reducible refine rd_forE ?_ | with_reducible refine rd_compZ ?_ | with_reducible refine rd_compT ?_))
theorem up_len {hd rg : List Int} {n : Nat} : (up hd rg n).length = if rg = [] then min n hd.length else n := by unfold up; simp
theorem up_get {hd rg : List Int} {n j : Nat} (h : j < (up hd rg n).length) : (up hd rg n)[j]? = some (bAt hd rg j) := by
  have h2 := h
  rw [up_len] at h2
  unfold up
  simp [h2]
theorem up_all {hd rg : List Int} {n : Nat} (o1 : Ok hd) (o2 : Ok rg) : ∀ b ∈ up hd rg n, 2 ≤ b ∧ b ≤ 1000000 := fun b hb => by
  obtain ⟨j, hj, e⟩ := List.getElem_of_mem hb
  have e2 := up_get hj
  rw [List.getElem?_eq_getElem hj, e] at e2
  cases e2
  have hp : hasP hd rg (j : Int) = true := by
    unfold hasP
    rw [decide_eq_true (by omega), Bool.true_and]
    rw [up_len] at hj
    by_cases hr : rg = []
    · rw [if_pos hr] at hj
      rw [decide_eq_true (p := (j : Int) < hd.length) (by omega), Bool.or_true]
    · have : 0 < rg.length := List.length_pos_iff.mpr hr
      rw [decide_eq_true (p := 0 < (rg.length : Int)) (by omega), Bool.true_or]
  have z := bAt_ok o1 o2 hp
  simpa using z

structure T3 (K : PySem.W.Frag) (mg : Str → Option Value) (cNP : Addr) : Prop extends Txt K mg cNP where
  enumerate : mg "enumerate" = none
  zip : mg "zip" = none
  min : mg "min" = none
  isinstance : mg "isinstance" = none
  int : mg "int" = none
  bool : mg "bool" = none
  i0 : PySem.W.kitOne K (.type "int") (.type "bool") = some false
  i1 : PySem.W.kitOne K (.type "int") (.type "int") = some true
theorem b_okN {hd rg : List Int} (o1 : Ok hd) (o2 : Ok rg) {i : Nat} (h : hasP hd rg (i : Int) = true) : 2 ≤ bAt hd rg i ∧ bAt hd rg i ≤ 1000000 := by
  have z := bAt_ok o1 o2 h
  simpa using z
/-- a row of digits -/
def Gd (hd rg ds : List Int) : Prop := ∀ (j : Nat) (z : Int), ds[j]? = some z → hasP hd rg (j : Int) = true ∧ 0 ≤ z ∧ z < bAt hd rg j
def vl (hd rg ds : List Int) : Nat → Int
  | 0 => 0
  | j + 1 => vl hd rg ds j + ds.getD j 0 * wAt hd rg j
theorem at_int {ds : List Int} {i : Nat} {x : V} (h : (ds.map V.int)[i]? = some x) : ∃ z, ds[i]? = some z ∧ x = .int z := by
  rw [List.getElem?_map] at h
  cases e : ds[i]? with
  | none => rw [e] at h; cases h
  | some z => rw [e] at h; cases h; exact ⟨z, rfl, rfl⟩
def spFW : Sp := fun vs H Q _ => ∃ v hd rg dv ds, vs = [v, dv] ∧ Scl H v hd rg ∧ Ints H dv ds ∧ Ok hd ∧ Ok rg ∧ Gd hd rg ds ∧ ∀ H', Kp [] H H' → Q .non H'
def spNum : Sp := fun vs H Q _ => ∃ v hd rg dv ds, vs = [v, dv] ∧ Scl H v hd rg ∧ Ints H dv ds ∧ Ok hd ∧ Ok rg ∧ Gd hd rg ds ∧ ∀ H', Kp [] H H' → Q (.int (vl hd rg ds ds.length)) H'
section
variable {P : Program} {w : World} {K : PySem.W.Frag} {mg : Str → Option Value} {base : Heap} {cNP : Addr}
abbrev s_first_wrong : Stmt := top 7
theorem sc_first_wrong : FnScope ["scale", "digits", "place", "digit"] ["scale", "digits"] (defScope s_first_wrong) := ⟨rfl, rfl, rfl, by decide +kernel, rfl, by decide +kernel, by decide +kernel⟩
theorem ok_first_wrong {f f1 f2 : Addr} {fd fd1 fd2 : FuncData} (F : Fun K "first_wrong" "first_wrong" s_first_wrong f fd) (T : T3 K mg cNP) (c_has_place : Fn P w K mg base CX0 1 "has_place" f1 fd1 ["scale", "place"] spHas)
    (c_base_at : Fn P w K mg base (CX1 P w) 3 "base_at" f2 fd2 ["scale", "place"] (spBase cNP)) : FnOk P w K mg base CX0 4 f fd ["scale", "digits"] spFW := by
  have nd := sc_first_wrong.nd
  refine F.ok sc_first_wrong (fun vs H Q E h => ?_) (fun cdv A outer s H vs Q E hr h => ?_)
  · obtain ⟨v, hd, rg, dv, ds, rfl, _⟩ := h
    rfl
  · obtain ⟨v, hd, rg, dv, ds, rfl, hs, ⟨a, rfl, ha⟩, o1, o2, hg, k⟩ := h
    have hu := hr.units
    refine ⟨_, (pss_cons (ps_for PassesOwn.never (by rfl) (pi_enumerate (by rfl) T.enumerate (pa_cons (pv 1) pa_nil)) (pg_tup (by rfl) (pgs_cons (pg_name (i := 2) nd rfl (by first | exact Or.inl rfl | exact Or.inr rfl)) (pgs_cons (pg_name (i := 3) nd rfl (by first | exact Or.inl rfl | exact Or.inr rfl)) pgs_nil))) (pss_cons (ps_if (pt_not (pt_val (pf c_has_place (hr.mono (by decide)) (by rfl) (pa_cons (pv 0) (pa_cons (pv 2) pa_nil))))) (pss_one (ps_ret (pv 2))) pss_nil)
      (pss_one (ps_if (PW.pt (pw_or (pt_cmpR op_lt (pv 3) pe_int (nomark _)) (pw_or1 (pt_cmpR op_ge (pv 3) (pf1 c_base_at (hr.mono (by decide)) (by rfl) (pa_cons (pv 0) (pa_cons (pv 2) pa_nil))) (nomark _))))) (pss_one (ps_ret (pv 2))) pss_nil))))
      (pss_one (ps_ret pe_non))), ?_⟩
    walk_at "rd"
    refine renu (xs := ds.map V.int) (fun i σ H2 => ∃ u2 u3, σ = [some v, some (.ref a), u2, u3] ∧ Kp [] H H2) ⟨_, _, rfl, Kp.refl⟩ ?_ ?_ ?_
    · rintro i σ H2 hi ⟨u2, u3, rfl, k2⟩
      exact SqT.of (k2.get ha)
    · rintro i x σ H2 hx ⟨u2, u3, rfl, k2⟩ p H3 np gp kp
      obtain ⟨z, hz, rfl⟩ := at_int hx
      obtain ⟨hp, z0, z1⟩ := hg i z hz
      have hs3 := hs.kp (k2.trans kp)
      refine rd_gtup gp rfl ?_
      walk_at "rd"
      refine ⟨v, hd, rg, _, rfl, hs3, ?_⟩
      rw [hp]
      walk_at "rd"
      refine iteF ?_
      walk_at "rd"
      refine rd_dec (fun y => absurd y (by omega)) (fun y => ?_)
      walk_at "rd"
      refine ⟨v, hd, rg, _, rfl, hs3, fun _ => ?_, fun y => by rw [hp] at y; cases y⟩
      rw [Int.toNat_natCast]
      walk_at "rd"
      refine rd_dec (fun y => absurd y (by omega)) (fun y => ?_)
      walk_at "rd"
      exact ⟨_, _, rfl, k2.trans kp⟩
    · rintro σ H2 ⟨u2, u3, rfl, k2⟩
      walk_at "rd"
      exact k H2 k2
end
end My

set_option Elab.async false
set_option linter.all false
set_option maxRecDepth 100000
set_option maxHeartbeats 4000000
set_option exponentiation.threshold 5000
namespace My
open PySem L2 PyProof.Rows
local macro_rules | `(tactic| walk_at "rd") => `(tactic| repeat (first
  | with_reducible refine rd_seq ?_ | with_reducible refine rd_set ?_ | with_reducible refine rd_ret ?_ | with_reducible refine rd_if ?_ | with_reducible refine rd_next ?_ | with_reducible refine rd_drop ?_
  | with_reducible refine rd_c ?_ | (with_reducible refine' rd_var ?e1 ?_; (case e1 => with_unfolding_all rfl)) | with_reducible refine rd_op ?_ | with_reducible refine rd_un ?_ | with_reducible refine rd_test ?_ | with_reducible refine rd_tb ?_ | with_reducible refine rd_bl ?_
  | with_reducible refine rd_and ?_ | with_reducible refine rd_or ?_ | with_reducible refine rd_not ?_ | with_reducible refine rd_ifx ?_ | with_reducible refine rd_andV ?_ | with_reducible refine rd_orV ?_ | with_reducible refine rd_notV ?_
  | with_reducible refine rd_cons ?_ | with_reducible refine rd_nil ?_ | with_reducible refine rd_cb ?_ | with_reducible refine rd_call ?_ | with_reducible refine rd_tupN ?_ | with_reducible refine rd_lstN ?_ | with_reducible refine rd_sl ?_ | with_reducible refine rd_nopart ?_ | with_reducible refine rd_part ?_ | with_reducible refine rd_ii ?_
  | with_reducible refine rd_bm ?_ | with_reducible refine rd_true ?_ | with_reducible refine rd_gname ?_ | with_reducible refine rd_gcons ?_ | with_reducible refine rd_gnil ?_ | with_reducible refine rd_gsub ?_ | with_reducible refine rd_i0 ?_ | with_reducible refine rd_u ?_ | with_reducible refine ra_int ?_ | with_reducible refine re_int ?_ | with_reducible refine rn_int ?_
  | (with_reducible refine' rx_tup ?e1 ?e2 ?_; (case e1 => assumption); (case e2 => with_unfolding_all rfl)) | (with_reducible refine' rx_lst ?e1 ?e2 ?_; (case e1 => exact SqL.of (by assumption)); (case e2 => with_unfolding_all rfl)) | (with_reducible refine' rlen_t ?e1 ?_; (case e1 => assumption)) | (with_reducible refine' rlen_l ?e1 ?_; (case e1 => exact SqL.of (by assumption))) | with_reducible refine rmax_i ?_ | with_reducible refine rmin_i ?_ | with_reducible refine rint_b ?_ | with_reducible refine rint_i ?_
  | (with_reducible refine' rm_r ?e1 ?e2 ?_; (case e1 => omega); (case e2 => omega)) | (with_reducible refine' rm_l ?e1 ?e2 ?_; (case e1 => omega); (case e2 => omega)) | (with_reducible refine' rd_iC ?e1 ?_; (case e1 => (show (0 : Int) < _; omega)))
  | with_reducible refine rd_for1 ?_ | with_reducible refine rd_forL ?_ | with_reducible refine rd_comp1 ?_ | with_reducible refine rd_compL ?_ | (with_reducible refine' rd_aug ?e1 ?_; (case e1 => with_unfolding_all rfl)) | with_reducible refine rd_asg ?_ | with_reducible refine rd_rev ?_ | with_reducible refine rd_callX ?_ | with_reducible refine rd_chain ?_ | with_reducible refine rd_forE ?_ | with_reducible refine rd_compZ ?_ | with_reducible refine rd_compT ?_ | with_reducible refine rd_revT ?_))
/-- the j-th place of a row of any whole numbers is wrong -/
def Wr (hd rg ds : List Int) (j : Nat) : Prop := hasP hd rg (j : Int) = false ∨ ds.getD j 0 < 0 ∨ bAt hd rg j ≤ ds.getD j 0
theorem gd_iff {hd rg ds : List Int} : Gd hd rg ds ↔ ∀ j, j < ds.length → ¬ Wr hd rg ds j := by
  constructor
  · intro h j hj w
    obtain ⟨hp, z0, z1⟩ := h j ds[j] (List.getElem?_eq_getElem hj)
    have e : ds.getD j 0 = ds[j] := by simp [hj]
    unfold Wr at w
    rw [hp, e] at w
    rcases w with w | w | w
    · cases w
    · omega
    · omega
  · intro h j z hz
    have hj : j < ds.length := (List.getElem?_eq_some_iff.mp hz).1
    have e : ds.getD j 0 = z := by rw [List.getD_eq_getElem?_getD, hz]; rfl
    have w := h j hj
    unfold Wr at w
    rw [e] at w
    cases q : hasP hd rg (j : Int) with
    | false => exact absurd (.inl q) w
    | true =>
      refine ⟨rfl, ?_, ?_⟩
      · exact Int.not_lt.mp fun y => w (.inr (.inl y))
      · exact Int.not_le.mp fun y => w (.inr (.inr y))
/-- the whole promise: None of a row of digits, else the first wrong place -/
def spFWG : Sp := fun vs H Q _ => ∃ v hd rg dv ds, vs = [v, dv] ∧ Scl H v hd rg ∧ Ints H dv ds ∧ (Gd hd rg ds → ∀ H', Kp [] H H' → Q .non H') ∧
  ∀ j, j < ds.length → (∀ i, i < j → ¬ Wr hd rg ds i) → Wr hd rg ds j → ∀ H', Kp [] H H' → Q (.int (j : Nat)) H'
section
variable {P : Program} {w : World} {K : PySem.W.Frag} {mg : Str → Option Value} {base : Heap} {cNP : Addr}
theorem ok_first_wrongG {f f1 f2 : Addr} {fd fd1 fd2 : FuncData} (F : Fun K "first_wrong" "first_wrong" s_first_wrong f fd) (T : T3 K mg cNP) (c_has_place : Fn P w K mg base CX0 1 "has_place" f1 fd1 ["scale", "place"] spHas)
    (c_base_at : Fn P w K mg base (CX1 P w) 3 "base_at" f2 fd2 ["scale", "place"] (spBase cNP)) : FnOk P w K mg base CX0 4 f fd ["scale", "digits"] spFWG := by
  have nd := sc_first_wrong.nd
  refine F.ok sc_first_wrong (fun vs H Q E h => ?_) (fun cdv A outer s H vs Q E hr h => ?_)
  · obtain ⟨v, hd, rg, dv, ds, rfl, _⟩ := h
    rfl
  · obtain ⟨v, hd, rg, dv, ds, rfl, hs, ⟨a, rfl, ha⟩, kn, kw⟩ := h
    have hu := hr.units
    refine ⟨_, (pss_cons (ps_for PassesOwn.never (by rfl) (pi_enumerate (by rfl) T.enumerate (pa_cons (pv 1) pa_nil)) (pg_tup (by rfl) (pgs_cons (pg_name (i := 2) nd rfl (by first | exact Or.inl rfl | exact Or.inr rfl)) (pgs_cons (pg_name (i := 3) nd rfl (by first | exact Or.inl rfl | exact Or.inr rfl)) pgs_nil))) (pss_cons (ps_if (pt_not (pt_val (pf c_has_place (hr.mono (by decide)) (by rfl) (pa_cons (pv 0) (pa_cons (pv 2) pa_nil))))) (pss_one (ps_ret (pv 2))) pss_nil)
      (pss_one (ps_if (PW.pt (pw_or (pt_cmpR op_lt (pv 3) pe_int (nomark _)) (pw_or1 (pt_cmpR op_ge (pv 3) (pf1 c_base_at (hr.mono (by decide)) (by rfl) (pa_cons (pv 0) (pa_cons (pv 2) pa_nil))) (nomark _))))) (pss_one (ps_ret (pv 2))) pss_nil))))
      (pss_one (ps_ret pe_non))), ?_⟩
    walk_at "rd"
    refine renu (xs := ds.map V.int) (fun i σ H2 => ∃ u2 u3, σ = [some v, some (.ref a), u2, u3] ∧ Kp [] H H2 ∧ ∀ j, j < i → ¬ Wr hd rg ds j) ⟨_, _, rfl, Kp.refl, fun j hj => absurd hj (by omega)⟩ ?_ ?_ ?_
    · rintro i σ H2 hi ⟨u2, u3, rfl, k2, hw⟩
      exact SqT.of (k2.get ha)
    · rintro i x σ H2 hx ⟨u2, u3, rfl, k2, hw⟩ p H3 np gp kp
      obtain ⟨z, hz, rfl⟩ := at_int hx
      have hi : i < ds.length := (List.getElem?_eq_some_iff.mp hz).1
      have e : ds.getD i 0 = z := by rw [List.getD_eq_getElem?_getD, hz]; rfl
      have hs3 := hs.kp (k2.trans kp)
      have k23 := k2.trans kp
      refine rd_gtup gp rfl ?_
      walk_at "rd"
      refine ⟨v, hd, rg, _, rfl, hs3, ?_⟩
      walk_at "rd"
      refine rd_b (fun hp => ?_) (fun hp => ?_)
      · walk_at "rd"
        exact kw i hi hw (.inl (by simpa using hp)) H3 k23
      · have hp' : hasP hd rg (i : Int) = true := by simpa using hp
        walk_at "rd"
        refine rd_dec (fun y => iteT ?_) (fun y => ?_)
        · walk_at "rd"
          exact kw i hi hw (.inr (.inl (by rw [e]; exact y))) H3 k23
        · walk_at "rd"
          refine ⟨v, hd, rg, _, rfl, hs3, fun _ => ?_, fun q => by rw [hp'] at q; cases q⟩
          rw [Int.toNat_natCast]
          walk_at "rd"
          refine rd_dec (fun y2 => ?_) (fun y2 => ?_)
          · walk_at "rd"
            exact kw i hi hw (.inr (.inr (by rw [e]; exact y2))) H3 k23
          · walk_at "rd"
            refine ⟨_, _, rfl, k23, fun j hj => ?_⟩
            by_cases ej : j = i
            · subst ej
              rintro (q | q | q)
              · rw [hp'] at q; cases q
              · rw [e] at q; exact y q
              · rw [e] at q; exact y2 q
            · exact hw j (by omega)
    · rintro σ H2 ⟨u2, u3, rfl, k2, hw⟩
      walk_at "rd"
      rw [List.length_map] at hw
      exact kn (gd_iff.mpr hw) H2 k2
end
end My

set_option Elab.async false
set_option linter.all false
set_option maxRecDepth 100000
set_option maxHeartbeats 2000000
namespace My
open PySem L2 PyProof.Rows
local macro_rules | `(tactic| walk_at "rd") => `(tactic| repeat (first
  | with_reducible refine rd_seq ?_ | with_reducible refine rd_set ?_ | with_reducible refine rd_ret ?_ | with_reducible refine rd_if ?_ | with_reducible refine rd_next ?_ | with_reducible refine rd_drop ?_
  | with_reducible refine rd_c ?_ | (with_reducible refine' rd_var ?e1 ?_; (case e1 => with_unfolding_all rfl)) | with_reducible refine rd_op ?_ | with_reducible refine rd_un ?_ | with_reducible refine rd_test ?_ | with_reducible refine rd_tb ?_ | with_reducible refine rd_bl ?_
  | with_reducible refine rd_and ?_ | with_reducible refine rd_or ?_ | with_reducible refine rd_not ?_ | with_reducible refine rd_ifx ?_ | with_reducible refine rd_andV ?_ | with_reducible refine rd_orV ?_ | with_reducible refine rd_notV ?_
  | with_reducible refine rd_cons ?_ | with_reducible refine rd_nil ?_ | with_reducible refine rd_cb ?_ | with_reducible refine rd_call ?_ | with_reducible refine rd_tupN ?_ | with_reducible refine rd_lstN ?_ | with_reducible refine rd_sl ?_ | with_reducible refine rd_nopart ?_ | with_reducible refine rd_part ?_ | with_reducible refine rd_ii ?_
  | with_reducible refine rd_bm ?_ | with_reducible refine rd_true ?_ | with_reducible refine rd_gname ?_ | with_reducible refine rd_gcons ?_ | with_reducible refine rd_gnil ?_ | with_reducible refine rd_gsub ?_ | with_reducible refine rd_i0 ?_ | with_reducible refine rd_u ?_ | with_reducible refine ra_int ?_ | with_reducible refine re_int ?_ | with_reducible refine rn_int ?_
  | (with_reducible refine' rx_tup ?e1 ?e2 ?_; (case e1 => assumption); (case e2 => with_unfolding_all rfl)) | (with_reducible refine' rx_lst ?e1 ?e2 ?_; (case e1 => exact SqL.of (by assumption)); (case e2 => with_unfolding_all rfl)) | (with_reducible refine' rlen_t ?e1 ?_; (case e1 => assumption)) | (with_reducible refine' rlen_l ?e1 ?_; (case e1 => exact SqL.of (by assumption))) | with_reducible refine rmax_i ?_ | with_reducible refine rmin_i ?_ | with_reducible refine rint_b ?_ | with_reducible refine rint_i ?_
  | (with_reducible refine' rm_r ?e1 ?e2 ?_; (case e1 => omega); (case e2 => omega)) | (with_reducible refine' rm_l ?e1 ?e2 ?_; (case e1 => omega); (case e2 => omega)) | (with_reducible refine' rd_iC ?e1 ?_; (case e1 => (show (0 : Int) < _; omega)))
  | with_reducible refine rd_for1 ?_ | with_reducible refine rd_forL ?_ | with_reducible refine rd_comp1 ?_ | with_reducible refine rd_compL ?_ | (with_reducible refine' rd_aug ?e1 ?_; (case e1 => with_unfolding_all rfl)) | with_reducible refine rd_asg ?_ | with_reducible refine rd_rev ?_ | with_reducible refine rd_callX ?_ | with_reducible refine rd_chain ?_ | with_reducible refine rd_forE ?_ | with_reducible refine rd_compZ ?_ | with_reducible refine rd_compT ?_))
theorem up_good {hd rg ds : List Int} (h : Gd hd rg ds) : (up hd rg ds.length).length = ds.length := by
  rw [up_len]
  by_cases hr : rg = []
  · rw [if_pos hr]
    by_cases e : ds.length = 0
    · omega
    · obtain ⟨hp, _⟩ := h (ds.length - 1) ds[ds.length - 1] (List.getElem?_eq_getElem (by omega))
      subst hr
      unfold hasP at hp
      simp at hp
      omega
  · rw [if_neg hr]
theorem Gd.nil {hd rg : List Int} : Gd hd rg [] := fun j z h => by simp at h
theorem Gd.set {hd rg ds : List Int} (h : Gd hd rg ds) (o1 : Ok hd) (o2 : Ok rg) (i : Nat) : Gd hd rg (ds.set i 0) := fun j z hz => by
  rw [List.getElem?_set] at hz
  by_cases e : i = j
  · subst e
    rw [if_pos rfl] at hz
    split at hz
    · rename_i lt
      cases hz
      obtain ⟨hp, _⟩ := h i ds[i] (List.getElem?_eq_getElem lt)
      have b := b_okN o1 o2 hp
      exact ⟨hp, by omega, by omega⟩
    · cases hz
  · rw [if_neg e] at hz
    exact h j z hz
theorem Gd.snoc {hd rg ds : List Int} {z : Int} (h : Gd hd rg ds) (hp : hasP hd rg (ds.length : Int) = true) (z0 : 0 ≤ z) (z1 : z < bAt hd rg ds.length) : Gd hd rg (ds ++ [z]) := fun j y hy => by
  by_cases e : j < ds.length
  · rw [List.getElem?_append_left e] at hy
    exact h j y hy
  · rw [List.getElem?_append_right (by omega)] at hy
    have e2 : j = ds.length := by
      have := (List.getElem?_eq_some_iff.mp hy).1
      simp at this
      omega
    subst e2
    simp at hy
    subst hy
    exact ⟨hp, z0, z1⟩
theorem up_has {hd rg : List Int} {n i : Nat} (h : i < (up hd rg n).length) : hasP hd rg (i : Int) = true := by
  rw [up_len] at h
  unfold hasP
  rw [decide_eq_true (by omega), Bool.true_and]
  by_cases hr : rg = []
  · rw [if_pos hr] at h
    rw [decide_eq_true (p := (i : Int) < hd.length) (by omega), Bool.or_true]
  · have : 0 < rg.length := List.length_pos_iff.mpr hr
    rw [decide_eq_true (p := 0 < (rg.length : Int)) (by omega), Bool.true_or]
def spRow : Sp := fun vs H Q _ => ∃ d c v hd rg most, vs = [.ref d, v, .int most] ∧ Dk H d c ∧ Scl H v hd rg ∧ Ok hd ∧ Ok rg ∧ hd.length ≤ 12 ∧ rg.length ≤ 12 ∧ 19 ≤ most ∧ most ≤ 1000 ∧
  ∀ dv ds H', Ints H' dv ds → Gd hd rg ds → (ds.length : Int) ≤ most → Dk H' d c → Kp [d, c] H H' → Q dv H'
def spLNum : Sp := fun vs H Q _ => ∃ v hd rg dv ds, vs = [v, dv] ∧ Scl H v hd rg ∧ Ints H dv ds ∧ Ok hd ∧ Ok rg ∧ hd.length ≤ 12 ∧ rg.length ≤ 12 ∧ ds.length ≤ 2000 ∧ Gd hd rg ds ∧ ∀ H', Kp [] H H' → Q (.int (vl hd rg ds ds.length)) H'
section
variable {P : Program} {w : World} {K : PySem.W.Frag} {mg : Str → Option Value} {base : Heap} {cNP : Addr}
abbrev s__law_number : Stmt := top 21
theorem sc__law_number : FnScope ["scale", "digits", "worths"] ["scale", "digits"] (defScope s__law_number) := ⟨rfl, rfl, rfl, by decide +kernel, rfl, by decide +kernel, by decide +kernel⟩
theorem ok__law_number {f f1 f2 : Addr} {fd fd1 fd2 : FuncData} (F : Fun K "_law_number" "_law_number" s__law_number f fd) (T : T3 K mg cNP) (c__law_bases : Fn P w K mg base CX0 1 "_law_bases" f1 fd1 ["scale", "many"] spBases)
    (c__law_worths : Fn P w K mg base CX0 1 "_law_worths" f2 fd2 ["bases"] spWorths) : FnOk P w K mg base CX0 2 f fd ["scale", "digits"] spLNum := by
  have nd := sc__law_number.nd
  refine F.ok sc__law_number (fun vs H Q E h => ?_) (fun cdv A outer s H vs Q E hr h => ?_)
  · obtain ⟨v, hd, rg, dv, ds, rfl, _⟩ := h
    rfl
  · obtain ⟨v, hd, rg, dv, ds, rfl, hs, ⟨a, rfl, ha⟩, o1, o2, l1, l2, ld, hg, k⟩ := h
    have hu := hr.units
    refine ⟨_, (pss_cons (ps_set (i := 2) nd rfl (by first | exact Or.inl rfl | exact Or.inr rfl) (pf c__law_worths (hr.mono (by decide)) (by rfl) (pa_cons (pf c__law_bases (hr.mono (by decide)) (by rfl) (pa_cons (pv 0) (pa_cons (pe_callB call_lenA (by rfl) T.len boot_len (pa_cons (pv 1) pa_nil)) pa_nil))) pa_nil)))
      (pss_one (ps_ret (pe_callB (call_sumA (by rfl)) (by rfl) T.sum boot_sum (pa_cons (pe_comp (by rfl) (bs := ["digit", "worth"]) (comp_ok rfl (by rfl) rfl (by rfl) (by rfl) .nil .nil) (pi_zip (by rfl) T.zip (pa_cons (pv 1) (pa_cons (pv 2) pa_nil))) (fun _ _ _ _ _ => (pg_tupK (K := K) (n := 2) rfl rfl (pgs_cons (pg_name (i := 0) (show (["digit", "worth"] : List Str).Nodup by decide +kernel) rfl (by first | exact Or.inl rfl | exact Or.inr rfl)) (pgs_cons (pg_name (i := 1) (show (["digit", "worth"] : List Str).Nodup by decide +kernel) rfl (by first | exact Or.inl rfl | exact Or.inr rfl)) pgs_nil)))) (fun _ _ _ _ _ => pts_nil) (fun _ _ _ _ _ => (pe_op op_mulA (pv 0) (pv 1)))) pa_nil))))), ?_⟩
    walk_at "rd"
    rw [List.length_map]
    refine ⟨v, hd, rg, _, rfl, hs, l1, l2, by omega, by omega, fun pb H1 n1 g1 k1 => ?_⟩
    rw [Int.toNat_natCast] at g1
    walk_at "rd"
    have ul := up_good hg
    refine ⟨pb, _, rfl, g1, up_all o1 o2, by omega, fun pw H2 n2 g2 k2 => ?_⟩
    rw [ul] at g2
    walk_at "rd"
    have k12 := k1.trans k2
    refine rcoz (xs := ds.map V.int) (ys := (List.range (ds.length + 1)).map fun j => V.int (pr (up hd rg ds.length) j)) (by simp) (fun i zs H3 => ∃ ns : List Int, zs = ns.map V.int ∧ ns.length = i ∧ ns.sum = vl hd rg ds i ∧ Kp [] H2 H3) ⟨[], rfl, rfl, rfl, Kp.refl⟩ ?_ ?_ ?_ ?_
    · rintro i zs H3 hi ⟨ns, rfl, e, es, k3⟩
      exact ⟨SqT.of (k3.get (k12.get ha)), SqL.of (k3.get g2)⟩
    · rintro i zs H3 hi ⟨ns, rfl, e, es, k3⟩
      rw [List.length_map] at hi ⊢
      exact Nat.le_trans (show ns.length ≤ 2000 by omega) (by decide)
    · rintro i x y zs H3 hx hy ⟨ns, rfl, e, es, k3⟩ p H4 np gp kp
      obtain ⟨z, hz, rfl⟩ := at_int hx
      have lt : i < ds.length := (List.getElem?_eq_some_iff.mp hz).1
      obtain ⟨hp, z0, z1⟩ := hg i z hz
      obtain ⟨b0, b1⟩ := b_okN o1 o2 hp
      have ey : y = .int (wAt hd rg i) := by
        rw [List.getElem?_map, List.getElem?_range (by omega)] at hy
        rw [← pr_up (n := ds.length) (by omega)]
        exact (Option.some.inj hy).symm
      subst ey
      refine rd_gtup gp rfl ?_
      walk_at "rd"
      refine iteT ?_
      walk_at "rd"
      refine nx_of (by rw [List.length_map]; exact lt) ⟨ns ++ [z * wAt hd rg i], by simp, by simp [e], ?_, k3.trans kp⟩
      rw [List.sum_append, es, vl]
      simp [hz]
    · rintro zs H3 ⟨ns, rfl, e, es, k3⟩ q H4 n4 g4 k4
      rw [List.length_map] at es
      walk_at "rd"
      refine rsum_l (SqL.of g4) ?_
      rw [es]
      exact k H4 ((k12.trans k3).trans k4)
abbrev s__law_row : Stmt := top 20
theorem sc__law_row : FnScope ["deck", "scale", "most", "many", "found", "k"] ["deck", "scale", "most"] (defScope s__law_row) := ⟨rfl, rfl, rfl, by decide +kernel, rfl, by decide +kernel, by decide +kernel⟩
theorem ok__law_row {f f1 f2 : Addr} {fd fd1 fd2 : FuncData} (F : Fun K "_law_row" "_law_row" s__law_row f fd) (T : T3 K mg cNP) (c__law_take : Fn P w K mg base CX0 1 "_law_take" f1 fd1 ["deck", "many"] spTake)
    (c__law_bases : Fn P w K mg base CX0 1 "_law_bases" f2 fd2 ["scale", "many"] spBases) : FnOk P w K mg base CX0 2 f fd ["deck", "scale", "most"] spRow := by
  have nd := sc__law_row.nd
  refine F.ok sc__law_row (fun vs H Q E h => ?_) (fun cdv A outer s H vs Q E hr h => ?_)
  · obtain ⟨d, c, v, hd, rg, most, rfl, _⟩ := h
    rfl
  · obtain ⟨d, c, v, hd, rg, most, rfl, D, hs, o1, o2, l1, l2, m0, m1, k⟩ := h
    have hu := hr.units
    refine ⟨_, (pss_cons (ps_set (i := 3) nd rfl (by first | exact Or.inl rfl | exact Or.inr rfl) (pe_ix ix_any (pe_lst (pa_cons (pf c__law_take (hr.mono (by decide)) (by rfl) (pa_cons (pv 0) (pa_cons pe_int pa_nil))) (pa_cons (pf c__law_take (hr.mono (by decide)) (by rfl) (pa_cons (pv 0) (pa_cons pe_int pa_nil))) (pa_cons (pf c__law_take (hr.mono (by decide)) (by rfl) (pa_cons (pv 0) (pa_cons (pe_op op_addA (pv 2) pe_int) pa_nil))) pa_nil)))) (pf c__law_take (hr.mono (by decide)) (by rfl) (pa_cons (pv 0) (pa_cons pe_int pa_nil))) (fun _ _ => rfl)) (hs := sw_sub))
      (pss_cons (ps_setC (i := 4) (by rfl) nd rfl rfl (by rfl) (bs := ["base"]) (comp_ok rfl (by rfl) rfl (by rfl) (by rfl) (.cons rfl .nil) (.cons (j := 0) rfl (by first | exact .inl rfl | exact .inr rfl) rfl (by first | exact .inl rfl | exact .inr rfl) .nil)) (pi_list (pf c__law_bases (hr.mono (by decide)) (by rfl) (pa_cons (pv 1) (pa_cons (pv 3) pa_nil)))) (fun _ _ _ _ _ => (pg_name (i := 0) (show (["base", "deck"] : List Str).Nodup by decide +kernel) rfl (by first | exact Or.inl rfl | exact Or.inr rfl))) (fun _ _ _ _ _ => pts_nil) (fun _ _ _ _ _ => (pe_ix (ix_anyK (K := K) rfl) (pe_lst (pa_cons pe_int (pa_cons (pe_op op_sub (pv 0) pe_int) (pa_cons (pf c__law_take (hr.mono (by decide)) (by rfl) (pa_cons (pv 1) (pa_cons (pv 0) pa_nil))) pa_nil)))) (pf c__law_take (hr.mono (by decide)) (by rfl) (pa_cons (pv 1) (pa_cons pe_int pa_nil))) (fun _ _ => rfl))))
      (pss_cons (ps_for PassesOwn.never (by rfl) (pi_range1 (by rfl) T.range (pa_cons (pe_callB (call_minA (by rfl)) (by rfl) T.min boot_min (pa_cons (pe_callB call_lenA (by rfl) T.len boot_len (pa_cons (pv 4) pa_nil)) (pa_cons (pe_ix ix_any (pe_lst (pa_cons pe_int (pa_cons pe_int (pa_cons pe_int (pa_cons pe_int pa_nil))))) (pf c__law_take (hr.mono (by decide)) (by rfl) (pa_cons (pv 0) (pa_cons pe_int pa_nil))) (fun _ _ => rfl)) pa_nil))) pa_nil)) (pg_name (i := 5) nd rfl (by first | exact Or.inl rfl | exact Or.inr rfl)) (pss_one (ps_asg pe_int (pg_sub (pv 4) (pe_op op_sub (pe_op op_sub (pe_callB call_lenA (by rfl) T.len boot_len (pa_cons (pv 4) pa_nil)) pe_int) (pv 5)) set_list))))
      (pss_one (ps_ret (pe_callTy call_tupA (by rfl) T.tuple boot_tuple (pa_cons (pv 4) pa_nil))))))), ?_⟩
    walk_at "rd"
    refine ⟨d, c, _, rfl, D, by decide, by decide +kernel, fun r1 H1 a1 b1 D1 k1 => ?_⟩
    walk_at "rd"
    refine ⟨d, c, _, rfl, D1, by decide, by decide +kernel, fun r2 H2 a2 b2 D2 k2 => ?_⟩
    walk_at "rd"
    refine ⟨d, c, _, rfl, D2, by omega, Nat.lt_of_le_of_lt (show _ ≤ 1001 by omega) (by decide +kernel), fun r3 H3 a3 b3 D3 k3 => ?_⟩
    walk_at "rd"
    refine lstN (by show 3 ≤ sizeLine; decide) fun p H4 n4 g4 k4 => ?_
    walk_at "rd"
    refine ⟨d, c, _, rfl, D3.kp k4, by decide, by decide +kernel, fun r5 H5 a5 b5 D5 k5 => ?_⟩
    have g5 := k5.keep p _ (D3.out n4) g4
    have kk : Kp [d, c] H H5 := (((k1.trans k2).trans k3).trans k4.up).trans k5
    have key : ∃ m : Int, atI [V.int r1, V.int r2, V.int r3] r5 = some (.int m) ∧ 0 ≤ m ∧ m ≤ most := by
      have cs : r5 = 0 ∨ r5 = 1 ∨ r5 = 2 := by omega
      rcases cs with rfl | rfl | rfl
      · exact ⟨r1, rfl, by omega, by omega⟩
      · exact ⟨r2, rfl, by omega, by omega⟩
      · exact ⟨r3, rfl, by omega, by omega⟩
    obtain ⟨m, hm, mm0, mm1⟩ := key
    refine rx_lst (SqL.of g5) hm ?_
    clear g4 g5
    walk_at "rd"
    refine ⟨v, hd, rg, m, rfl, hs.kp kk, l1, l2, mm0, by omega, fun pb H6 n6 g6 k6 => ?_⟩
    have ul : (up hd rg m.toNat).length ≤ m.toNat := by rw [up_len]; split <;> omega
    have npb : pb ∉ [d, c] := D5.out n6
    refine rcol (xs := (up hd rg m.toNat).map V.int) (fun i ys H7 => ∃ ns : List Int, ys = ns.map V.int ∧ ns.length = i ∧ Gd hd rg ns ∧ Dk H7 d c ∧ Kp [d, c] H H7 ∧ H7 pb = some (.lst ((up hd rg m.toNat).map V.int))) ⟨[], rfl, rfl, Gd.nil, D5.kp k6, kk.trans k6.up, g6⟩ ?_ ?_ ?_ ?_
    · rintro i ys H7 hi ⟨ns, rfl, e, hg, D7, k7, g7⟩
      exact SqL.of g7
    · rintro i ys H7 hi ⟨ns, rfl, e, hg, D7, k7, g7⟩
      rw [List.length_map] at hi ⊢
      exact Nat.le_trans (show ns.length ≤ 2000 by omega) (by decide)
    · rintro i x ys H7 hx ⟨ns, rfl, e, hg, D7, k7, g7⟩
      obtain ⟨z, hz, rfl⟩ := at_int hx
      have lt : i < (up hd rg m.toNat).length := (List.getElem?_eq_some_iff.mp hz).1
      have ez := up_get lt
      rw [hz] at ez
      cases ez
      have hp := up_has lt
      obtain ⟨b0, b1⟩ := b_okN o1 o2 hp
      walk_at "rd"
      refine iteT ?_
      walk_at "rd"
      refine ⟨d, c, _, rfl, D7, by omega, Nat.lt_of_le_of_lt (show _ ≤ 1000000 by omega) (by decide +kernel), fun r8 H8 a8 b8 D8 k8 => ?_⟩
      walk_at "rd"
      refine lstN (by show 3 ≤ sizeLine; decide) fun q H9 n9 g9 k9 => ?_
      walk_at "rd"
      refine ⟨d, c, _, rfl, D8.kp k9, by decide, by decide +kernel, fun r10 H10 a10 b10 D10 k10 => ?_⟩
      have g10 := k10.keep q _ (D8.out n9) g9
      have key2 : ∃ y : Int, atI [V.int 0, V.int (bAt hd rg i - 1), V.int r8] r10 = some (.int y) ∧ 0 ≤ y ∧ y < bAt hd rg i := by
        have cs : r10 = 0 ∨ r10 = 1 ∨ r10 = 2 := by omega
        rcases cs with rfl | rfl | rfl
        · exact ⟨0, rfl, by omega, by omega⟩
        · exact ⟨_, rfl, by omega, by omega⟩
        · exact ⟨r8, rfl, by omega, by omega⟩
      obtain ⟨y, hy, y0, y1⟩ := key2
      refine rx_lst (SqL.of g10) hy ?_
      refine nx_of (by rw [List.length_map]; exact lt) ⟨ns ++ [y], by simp, by simp [e], hg.snoc (by rw [e]; exact hp) y0 (by rw [e]; exact y1), D10, ((k7.trans k8).trans k9.up).trans k10, ?_⟩
      exact k10.keep pb _ npb (k9.get (k8.keep pb _ npb g7))
    · rintro ys H7 ⟨ns, rfl, e, hg, D7, k7, g7⟩ q H8 nq gq kq
      rw [List.length_map] at e
      have D8 := D7.kp kq
      have k8 := k7.trans kq.up
      have nqd : q ∉ [d, c] := D7.out nq
      walk_at "rd"
      rw [List.length_map]
      refine lstN (by show 4 ≤ sizeLine; decide) fun q2 H9 n9 g9 k9 => ?_
      walk_at "rd"
      refine ⟨d, c, _, rfl, D8.kp k9, by decide, by decide +kernel, fun r10 H10 a10 b10 D10 k10 => ?_⟩
      have g10 := k10.keep q2 _ (D8.out n9) g9
      have gq10 := k10.keep q _ nqd (k9.get gq)
      have key3 : ∃ y : Int, atI [V.int 0, V.int 0, V.int 2, V.int 90] r10 = some (.int y) ∧ 0 ≤ y ∧ y ≤ 90 := by
        have cs : r10 = 0 ∨ r10 = 1 ∨ r10 = 2 ∨ r10 = 3 := by omega
        rcases cs with rfl | rfl | rfl | rfl
        · exact ⟨0, rfl, by omega, by omega⟩
        · exact ⟨0, rfl, by omega, by omega⟩
        · exact ⟨2, rfl, by omega, by omega⟩
        · exact ⟨90, rfl, by omega, by omega⟩
      obtain ⟨y, hy, y0, y1⟩ := key3
      refine rx_lst (SqL.of g10) hy ?_
      clear g9 g10
      walk_at "rd"
      have nqH : H q = none := by
        cases z : H q with
        | none => rfl
        | some o => rw [k7.keep q o nqd z] at nq; cases nq
      refine rrng (n := (if y < (ns.length : Int) then y else (ns.length : Int)).toNat) rfl (by split <;> omega) (by split <;> omega) (fun i σ G => ∃ (u5 : Option V) (ms : List Int), σ = [some (.ref d), some v, some (.int most), some (.int m), some (.ref q), u5] ∧ G q = some (.lst (ms.map V.int)) ∧ ms.length = ns.length ∧ Gd hd rg ms ∧ Dk G d c ∧ Kp [d, c] H G) ⟨_, ns, rfl, gq10, rfl, hg, D10, (k8.trans k9.up).trans k10⟩ ?_ ?_
      · rintro i σ G hi ⟨u5, ms, rfl, q1, q2', q3, q4, q5⟩
        have hi2 : i < ns.length := by
          revert hi
          split <;> (intro hi; omega)
        walk_at "rd"
        rw [List.length_map]
        refine rd_put q1 (ixN_pos (by omega) (by rw [List.length_map]; omega)) fun G2 e1 kp2 e2 => ?_
        rw [show V.int 0 = V.int (0 : Int) from rfl, ← List.map_set] at e1
        have ndq : d ≠ q := fun z => nqd (by simp [z])
        have ncq : c ≠ q := fun z => nqd (by simp [z])
        obtain ⟨cells, at_, seed, t1, t2, t3⟩ := q4
        refine ⟨_, _, rfl, e1, by rw [List.length_set]; exact q2', q3.set o1 o2 _, ⟨cells, at_, seed, (e2 d ndq).trans t1, (e2 c ncq).trans t2, t3⟩, ?_⟩
        exact ⟨fun b o nb hb => (e2 b (ne_of_none hb nqH)).trans (q5.keep b o nb hb), fun b xs hb => kp2.tup b xs (q5.tup b xs hb)⟩
      · rintro σ G ⟨u5, ms, rfl, q1, q2', q3, q4, q5⟩
        walk_at "rd"
        refine rtup_l (SqL.of q1) fun t G2 nt gt kt => ?_
        exact k _ ms G2 ⟨t, rfl, gt⟩ q3 (by omega) (q4.kp kt) (q5.trans kt.up)
end
end My

set_option Elab.async false
set_option linter.all false
set_option maxRecDepth 100000
set_option maxHeartbeats 2000000
set_option exponentiation.threshold 5000
namespace My
open PySem L2 PyProof.Rows

theorem wF0 {hd rg : List Int} : ∀ j, wF hd rg 0 j = wAt hd rg j
  | 0 => rfl
  | j + 1 => by rw [wF, wAt, wF0 j, Nat.zero_add]
/-- the first m places are there -/
def Pls (hd rg : List Int) (m : Nat) : Prop := ∀ j, j < m → hasP hd rg (j : Int) = true
theorem Gd.pls {hd rg ds : List Int} (h : Gd hd rg ds) : Pls hd rg ds.length := fun j hj => (h j ds[j] (List.getElem?_eq_getElem hj)).1
theorem Pls.pos {hd rg : List Int} (o1 : Ok hd) (o2 : Ok rg) : ∀ {m : Nat}, Pls hd rg m → 0 < wAt hd rg m
  | 0, _ => by simp [wAt]
  | m + 1, h => by
    have z := b_okN o1 o2 (h m (by omega))
    rw [wAt]
    exact Int.mul_pos (Pls.pos o1 o2 fun j hj => h j (by omega)) (by omega)
theorem Pls.le {hd rg : List Int} (o1 : Ok hd) (o2 : Ok rg) {i : Nat} : ∀ {m : Nat}, Pls hd rg m → i ≤ m → wAt hd rg i ≤ wAt hd rg m
  | 0, _, hi => by rw [Nat.le_zero.mp hi]; exact Int.le_refl _
  | m + 1, h, hi => by
    by_cases e : i = m + 1
    · rw [e]; exact Int.le_refl _
    · have h' : Pls hd rg m := fun j hj => h j (by omega)
      have z := b_okN o1 o2 (h m (by omega))
      refine Int.le_trans (Pls.le o1 o2 h' (by omega)) ?_
      have p := h'.pos o1 o2
      rw [wAt]
      have y : wAt hd rg m * 1 ≤ wAt hd rg m * bAt hd rg m := Int.mul_le_mul_of_nonneg_left (by omega) (by omega)
      omega
theorem Pls.top {hd rg : List Int} (o1 : Ok hd) (o2 : Ok rg) : ∀ {m : Nat}, Pls hd rg m → wAt hd rg m ≤ 2 ^ (20 * m)
  | 0, _ => by simp [wAt]
  | m + 1, h => by
    have h' : Pls hd rg m := fun j hj => h j (by omega)
    have z := b_okN o1 o2 (h m (by omega))
    rw [wAt, show 20 * (m + 1) = 20 * m + 20 by omega, Int.pow_add]
    exact Int.mul_le_mul (h'.top o1 o2) (by omega) (by omega) (Int.pow_nonneg (by decide))
theorem gd_at {hd rg ds : List Int} (h : Gd hd rg ds) {j : Nat} (hp : hasP hd rg (j : Int) = true) (o1 : Ok hd) (o2 : Ok rg) : 0 ≤ ds.getD j 0 ∧ ds.getD j 0 < bAt hd rg j := by
  have z := b_okN o1 o2 hp
  rw [List.getD_eq_getElem?_getD]
  cases e : ds[j]? with
  | none => simp; omega
  | some y =>
    have q := h j y e
    simp
    omega
theorem vl_lt {hd rg ds : List Int} (h : Gd hd rg ds) (o1 : Ok hd) (o2 : Ok rg) : ∀ {j : Nat}, Pls hd rg j → 0 ≤ vl hd rg ds j ∧ vl hd rg ds j < wAt hd rg j
  | 0, _ => by simp [vl, wAt]
  | j + 1, hp => by
    have h' : Pls hd rg j := fun i hi => hp i (by omega)
    have ih := vl_lt h o1 o2 h'
    have q := gd_at h (hp j (by omega)) o1 o2
    have p := h'.pos o1 o2
    rw [vl, wAt]
    have y1 : 0 ≤ ds.getD j 0 * wAt hd rg j := Int.mul_nonneg q.1 (by omega)
    have y2 : ds.getD j 0 * wAt hd rg j ≤ (bAt hd rg j - 1) * wAt hd rg j := Int.mul_le_mul_of_nonneg_right (by omega) (by omega)
    rw [Int.sub_mul, Int.one_mul, Int.mul_comm (bAt hd rg j)] at y2
    omega
theorem vl_stay {hd rg ds : List Int} : ∀ k : Nat, vl hd rg ds (ds.length + k) = vl hd rg ds ds.length
  | 0 => rfl
  | k + 1 => by
    rw [← Nat.add_assoc, vl, vl_stay k, List.getD_eq_getElem?_getD, List.getElem?_eq_none (by omega)]
    simp
theorem vl_of {hd rg ds : List Int} {j : Nat} (h : ds.length ≤ j) : vl hd rg ds j = vl hd rg ds ds.length := by
  have e := vl_stay (hd := hd) (rg := rg) (ds := ds) (j - ds.length)
  rw [show ds.length + (j - ds.length) = j by omega] at e
  exact e
theorem wAt_dvd {hd rg : List Int} {i : Nat} : ∀ {m : Nat}, i ≤ m → wAt hd rg i ∣ wAt hd rg m
  | 0, hi => by rw [Nat.le_zero.mp hi]; exact Int.dvd_refl _
  | m + 1, hi => by
    by_cases e : i = m + 1
    · rw [e]; exact Int.dvd_refl _
    · rw [wAt]; exact Int.dvd_trans (wAt_dvd (by omega)) (Int.dvd_mul_right _ _)
theorem vl_mod {hd rg ds : List Int} (h : Gd hd rg ds) (o1 : Ok hd) (o2 : Ok rg) {j : Nat} (hp : Pls hd rg j) : ∀ {k : Nat}, j ≤ k → vl hd rg ds k % wAt hd rg j = vl hd rg ds j
  | 0, hk => by
    have e : j = 0 := by omega
    subst e
    have z := vl_lt h o1 o2 hp
    exact Int.emod_eq_of_lt z.1 z.2
  | k + 1, hk => by
    by_cases e : j = k + 1
    · have z := vl_lt h o1 o2 hp
      rw [← e]
      exact Int.emod_eq_of_lt z.1 z.2
    · obtain ⟨q, eq⟩ := wAt_dvd (hd := hd) (rg := rg) (i := j) (m := k) (by omega)
      rw [vl, eq, Int.mul_comm (ds.getD k 0), Int.mul_assoc, Int.add_mul_emod_self_left]
      exact vl_mod h o1 o2 hp (by omega)
theorem val_mod {hd rg ds : List Int} (h : Gd hd rg ds) (o1 : Ok hd) (o2 : Ok rg) {j : Nat} (hp : Pls hd rg j) : vl hd rg ds ds.length % wAt hd rg j = vl hd rg ds j := by
  by_cases e : j ≤ ds.length
  · exact vl_mod h o1 o2 hp e
  · rw [← vl_of (j := j) (by omega)]
    have z := vl_lt h o1 o2 hp
    exact Int.emod_eq_of_lt z.1 z.2
/-- a row without noughts behind is the row of its number -/
theorem strip {hd rg ds : List Int} (h : Gd hd rg ds) (o1 : Ok hd) (o2 : Ok rg) {m : Nat} (hm : m ≤ ds.length) (hz : ∀ j, m ≤ j → ds.getD j 0 = 0) (hl : m = 0 ∨ ds.getD (m - 1) 0 ≠ 0) :
    DgOk hd rg 0 (vl hd rg ds ds.length) m ∧ ds.take m = dg hd rg 0 (vl hd rg ds ds.length) m := by
  have P := h.pls
  have Pm : Pls hd rg m := fun j hj => P j (by omega)
  have e : vl hd rg ds ds.length = vl hd rg ds m := by
    have key : ∀ k, vl hd rg ds (m + k) = vl hd rg ds m := fun k => by
      induction k with
      | zero => rfl
      | succ k ih => rw [← Nat.add_assoc, vl, ih, hz (m + k) (by omega)]; simp
    have z := key (ds.length - m)
    rw [show m + (ds.length - m) = ds.length by omega] at z
    exact z
  have lt := vl_lt h o1 o2 Pm
  refine ⟨⟨fun j hj => ⟨by rw [Nat.zero_add]; exact P j (by omega), ?_⟩, ?_⟩, ?_⟩
  · rw [wF0, e]
    obtain ⟨i, rfl⟩ : ∃ i, m = i + 1 := ⟨m - 1, by omega⟩
    have Pi : Pls hd rg i := fun j hj => P j (by omega)
    have nz : ds.getD i 0 ≠ 0 := by
      rcases hl with z | z
      · omega
      · simpa using z
    have q := gd_at h (P i (by omega)) o1 o2
    have p := Pi.pos o1 o2
    have le := Pls.le o1 o2 (i := j) Pi (by omega)
    have y : 1 * wAt hd rg i ≤ ds.getD i 0 * wAt hd rg i := Int.mul_le_mul_of_nonneg_right (by omega) (by omega)
    have y0 := (vl_lt h o1 o2 Pi).1
    rw [vl]
    omega
  · rw [wF0, e]
    exact lt.2
  · refine List.ext_getElem? fun j => ?_
    by_cases hj : j < m
    · rw [List.getElem?_take_of_lt hj, dg, List.getElem?_map, List.getElem?_range hj]
      have hjl : j < ds.length := by omega
      have Pj : Pls hd rg j := fun i hi => P i (by omega)
      have Pj1 : Pls hd rg (j + 1) := fun i hi => P i (by omega)
      have p := Pj.pos o1 o2
      have l0 := vl_lt h o1 o2 Pj
      rw [List.getElem?_eq_getElem hjl]
      show some _ = some _
      congr 1
      show ds[j] = vl hd rg ds ds.length / wF hd rg 0 j % bAt hd rg (0 + j)
      rw [wF0, Nat.zero_add, ← mod_div p]
      have e2 : wAt hd rg j * bAt hd rg j = wAt hd rg (j + 1) := rfl
      rw [e2, val_mod h o1 o2 Pj1, vl, Int.add_mul_ediv_right _ _ (by omega), Int.ediv_eq_zero_of_lt l0.1 l0.2]
      simp [hjl]
    · rw [List.getElem?_eq_none (by simp; omega), List.getElem?_eq_none (by simp [dg]; omega)]

/-! ### sums -/
def cy (hd rg a b : List Int) : Nat → Int
  | 0 => 0
  | j + 1 => (a.getD j 0 + b.getD j 0 + cy hd rg a b j) / bAt hd rg j
def sd (hd rg a b : List Int) (j : Nat) : Int := (a.getD j 0 + b.getD j 0 + cy hd rg a b j) % bAt hd rg j
def sds (hd rg a b : List Int) (m : Nat) : List Int := (List.range m).map (sd hd rg a b)
def cys (hd rg a b : List Int) (m : Nat) : List Int := (List.range m).map fun j => cy hd rg a b (j + 1)
theorem cy_comm {hd rg a b : List Int} : ∀ j, cy hd rg a b j = cy hd rg b a j
  | 0 => rfl
  | j + 1 => by rw [cy, cy, cy_comm j, Int.add_comm (a.getD j 0)]
theorem cys_comm {hd rg a b : List Int} {m : Nat} : cys hd rg a b m = cys hd rg b a m := by unfold cys; simp only [cy_comm (a := a)]
theorem cy_le {hd rg a b : List Int} (ga : Gd hd rg a) (gb : Gd hd rg b) (o1 : Ok hd) (o2 : Ok rg) : ∀ {j : Nat}, Pls hd rg j → 0 ≤ cy hd rg a b j ∧ cy hd rg a b j ≤ 1
  | 0, _ => by simp [cy]
  | j + 1, h => by
    have ih := cy_le ga gb o1 o2 (j := j) fun i hi => h i (by omega)
    have hp := h j (by omega)
    have z := b_okN o1 o2 hp
    have q1 := gd_at ga hp o1 o2
    have q2 := gd_at gb hp o1 o2
    rw [cy]
    refine ⟨Int.ediv_nonneg (by omega) (by omega), ?_⟩
    refine Int.lt_add_one_iff.mp (Int.ediv_lt_of_lt_mul (by omega) ?_)
    omega
theorem sd_ok {hd rg a b : List Int} (o1 : Ok hd) (o2 : Ok rg) {j : Nat} (hp : hasP hd rg (j : Int) = true) : 0 ≤ sd hd rg a b j ∧ sd hd rg a b j < bAt hd rg j := by
  have z := b_okN o1 o2 hp
  exact ⟨Int.emod_nonneg _ (by omega), Int.emod_lt_of_pos _ (by omega)⟩
theorem sds_gd {hd rg a b : List Int} (o1 : Ok hd) (o2 : Ok rg) {m : Nat} (h : Pls hd rg m) : Gd hd rg (sds hd rg a b m) := fun j z hz => by
  have lt : j < m := by
    have := (List.getElem?_eq_some_iff.mp hz).1
    simpa [sds] using this
  rw [sds, List.getElem?_map, List.getElem?_range lt] at hz
  cases hz
  exact ⟨h j lt, (sd_ok o1 o2 (h j lt)).1, (sd_ok o1 o2 (h j lt)).2⟩
theorem sds_at {hd rg a b : List Int} {m j : Nat} (h : j < m) : (sds hd rg a b m).getD j 0 = sd hd rg a b j := by
  rw [List.getD_eq_getElem?_getD, sds, List.getElem?_map, List.getElem?_range h]
  rfl
theorem sds_len {hd rg a b : List Int} {m : Nat} : (sds hd rg a b m).length = m := by simp [sds]
theorem sum_inv {hd rg a b : List Int} {m : Nat} : ∀ {j : Nat}, j ≤ m → vl hd rg a j + vl hd rg b j = vl hd rg (sds hd rg a b m) j + cy hd rg a b j * wAt hd rg j
  | 0, _ => by simp [vl, cy]
  | j + 1, h => by
    have ih := sum_inv (hd := hd) (rg := rg) (a := a) (b := b) (m := m) (j := j) (by omega)
    rw [vl, vl, vl, sds_at (by omega), cy, wAt, sd]
    have e := Int.emod_add_mul_ediv (a.getD j 0 + b.getD j 0 + cy hd rg a b j) (bAt hd rg j)
    generalize (a.getD j 0 + b.getD j 0 + cy hd rg a b j) / bAt hd rg j = q at *
    generalize (a.getD j 0 + b.getD j 0 + cy hd rg a b j) % bAt hd rg j = r at *
    have e2 : q * (wAt hd rg j * bAt hd rg j) = (bAt hd rg j * q) * wAt hd rg j := by rw [Int.mul_comm (wAt hd rg j), ← Int.mul_assoc, Int.mul_comm q]
    have e3 : (r + bAt hd rg j * q) * wAt hd rg j = (a.getD j 0 + b.getD j 0 + cy hd rg a b j) * wAt hd rg j := by rw [e]
    rw [Int.add_mul, Int.add_mul, Int.add_mul] at e3
    omega
theorem cy_due {hd rg a b : List Int} (ga : Gd hd rg a) (gb : Gd hd rg b) (o1 : Ok hd) (o2 : Ok rg) {j : Nat} (h : Pls hd rg j) : cy hd rg a b j = if vl hd rg a a.length % wAt hd rg j + vl hd rg b b.length % wAt hd rg j ≥ wAt hd rg j then 1 else 0 := by
  rw [val_mod ga o1 o2 h, val_mod gb o1 o2 h, sum_inv (m := j) (Nat.le_refl _)]
  have c := cy_le ga gb o1 o2 h
  have l := vl_lt (sds_gd (a := a) (b := b) o1 o2 h) o1 o2 h
  have cs : cy hd rg a b j = 0 ∨ cy hd rg a b j = 1 := by omega
  rcases cs with e | e <;> rw [e]
  · rw [if_neg (by omega)]
  · rw [if_pos (by omega)]
theorem sum_all {hd rg a b : List Int} {m : Nat} (ha : a.length ≤ m) (hb : b.length ≤ m) : vl hd rg a a.length + vl hd rg b b.length = vl hd rg (sds hd rg a b m) m + cy hd rg a b m * wAt hd rg m := by
  rw [← vl_of ha, ← vl_of hb]
  exact sum_inv (Nat.le_refl _)
/-- where the last carry is handed on there is a place for it, if there is one for the number -/
theorem has_last {hd rg a b : List Int} (ga : Gd hd rg a) (gb : Gd hd rg b) (o1 : Ok hd) (o2 : Ok rg) {m k : Nat} (ha : a.length ≤ m) (hb : b.length ≤ m) (h : Pls hd rg m) (hd' : DgOk hd rg 0 (vl hd rg a a.length + vl hd rg b b.length) k) (hc : cy hd rg a b m ≠ 0) : hasP hd rg (m : Int) = true := by
  have c := cy_le ga gb o1 o2 h
  have l := vl_lt (sds_gd (a := a) (b := b) o1 o2 h) o1 o2 h
  have e := sum_all (hd := hd) (rg := rg) ha hb
  have e1 : cy hd rg a b m = 1 := by omega
  rw [e1, Int.one_mul] at e
  have lt : m < k := by
    refine Nat.lt_of_not_le fun z => ?_
    have y := hd'.2
    rw [wF0] at y
    have le := Pls.le o1 o2 (i := k) h z
    omega
  have z := (hd'.1 m lt).1
  simpa using z
theorem sum_lt {hd rg a b : List Int} (ga : Gd hd rg a) (gb : Gd hd rg b) (o1 : Ok hd) (o2 : Ok rg) (ha : a.length ≤ 100) (hb : b.length ≤ 100) : 0 ≤ vl hd rg a a.length + vl hd rg b b.length ∧ vl hd rg a a.length + vl hd rg b b.length < 2 ^ 4000 := by
  have l1 := vl_lt ga o1 o2 ga.pls
  have l2 := vl_lt gb o1 o2 gb.pls
  have t1 := ga.pls.top o1 o2
  have t2 := gb.pls.top o1 o2
  have p : ∀ n : Nat, n ≤ 100 → (2 : Int) ^ (20 * n) ≤ 2 ^ 2000 := fun n hn => by
    have := Nat.pow_le_pow_right (n := 2) (by decide) (show 20 * n ≤ 2000 by omega)
    exact_mod_cast this
  have p1 := p _ ha
  have p2 := p _ hb
  have q : (2 : Int) ^ 2000 + 2 ^ 2000 ≤ 2 ^ 4000 := by decide +kernel
  refine ⟨by omega, ?_⟩
  generalize (2 : Int) ^ 4000 = z at q
  generalize (2 : Int) ^ 2000 = y at q p1 p2
  omega
end My

set_option Elab.async false
set_option linter.all false
set_option maxRecDepth 100000
set_option maxHeartbeats 4000000
set_option exponentiation.threshold 5000
namespace My
open PySem L2 PyProof.Rows
local macro_rules | `(tactic| walk_at "rd") => `(tactic| repeat (first
  | with_reducible refine rd_seq ?_ | with_reducible refine rd_set ?_ | with_reducible refine rd_ret ?_ | with_reducible refine rd_if ?_ | with_reducible refine rd_next ?_ | with_reducible refine rd_drop ?_
  | with_reducible refine rd_c ?_ | (with_reducible refine' rd_var ?e1 ?_; (case e1 => with_unfolding_all rfl)) | with_reducible refine rd_op ?_ | with_reducible refine rd_un ?_ | with_reducible refine rd_test ?_ | with_reducible refine rd_tb ?_ | with_reducible refine rd_bl ?_
  | with_reducible refine rd_and ?_ | with_reducible refine rd_or ?_ | with_reducible refine rd_not ?_ | with_reducible refine rd_ifx ?_ | with_reducible refine rd_andV ?_ | with_reducible refine rd_orV ?_ | with_reducible refine rd_notV ?_
  | with_reducible refine rd_cons ?_ | with_reducible refine rd_nil ?_ | with_reducible refine rd_cb ?_ | with_reducible refine rd_call ?_ | with_reducible refine rd_tupN ?_ | with_reducible refine rd_lstN ?_ | with_reducible refine rd_sl ?_ | with_reducible refine rd_nopart ?_ | with_reducible refine rd_part ?_ | with_reducible refine rd_ii ?_
  | with_reducible refine rd_bm ?_ | with_reducible refine rd_true ?_ | with_reducible refine rd_gname ?_ | with_reducible refine rd_gcons ?_ | with_reducible refine rd_gnil ?_ | with_reducible refine rd_gsub ?_ | with_reducible refine rd_i0 ?_ | with_reducible refine rd_u ?_ | with_reducible refine ra_int ?_ | with_reducible refine re_int ?_ | with_reducible refine rn_int ?_
  | (with_reducible refine' rx_tup ?e1 ?e2 ?_; (case e1 => assumption); (case e2 => with_unfolding_all rfl)) | (with_reducible refine' rx_lst ?e1 ?e2 ?_; (case e1 => exact SqL.of (by assumption)); (case e2 => with_unfolding_all rfl)) | (with_reducible refine' rlen_t ?e1 ?_; (case e1 => assumption)) | (with_reducible refine' rlen_l ?e1 ?_; (case e1 => exact SqL.of (by assumption))) | with_reducible refine rmax_i ?_ | with_reducible refine rmin_i ?_ | with_reducible refine rint_b ?_ | with_reducible refine rint_i ?_
  | (with_reducible refine' rm_r ?e1 ?e2 ?_; (case e1 => omega); (case e2 => omega)) | (with_reducible refine' rm_l ?e1 ?e2 ?_; (case e1 => omega); (case e2 => omega)) | (with_reducible refine' rd_iC ?e1 ?_; (case e1 => (show (0 : Int) < _; omega)))
  | with_reducible refine rd_for1 ?_ | with_reducible refine rd_forL ?_ | with_reducible refine rd_comp1 ?_ | with_reducible refine rd_compL ?_ | (with_reducible refine' rd_aug ?e1 ?_; (case e1 => with_unfolding_all rfl)) | with_reducible refine rd_asg ?_ | with_reducible refine rd_rev ?_ | with_reducible refine rd_callX ?_ | with_reducible refine rd_chain ?_ | with_reducible refine rd_forE ?_ | with_reducible refine rd_compZ ?_ | with_reducible refine rd_compT ?_))
theorem vl_cong6 {hd rg ds es : List Int} : ∀ {n : Nat}, (∀ j, j < n → ds.getD j 0 = es.getD j 0) → vl hd rg ds n = vl hd rg es n
  | 0, _ => rfl
  | n + 1, h => by rw [vl, vl, vl_cong6 fun j hj => h j (by omega), h n (by omega)]
structure T6 (K : PySem.W.Frag) (mg : Str → Option Value) (cNP cTG : Addr) : Prop extends T3 K mg cNP where
  TooGreat : mg "TooGreat" = some (.ref cTG)
  xTooGreat : PySem.W.excIn K cTG [.type "ValueError", .type "Exception", .type "BaseException", .type "object"] "ValueError.__new__" = true
def spDAt : Sp := fun vs H Q _ => ∃ dv ds, ∃ pl : Nat, vs = [dv, .int (pl : Int)] ∧ Ints H dv ds ∧ Q (.int (ds.getD pl 0)) H
def spLast : Sp := fun vs H Q _ => ∃ (r : Addr) (m : Nat) (f : Nat → Int), vs = [.ref r] ∧ H r = some (.lst (((List.range m).map fun j => f (j + 1)).map V.int)) ∧ f 0 = 0 ∧ Q (.bl (decide (f m ≠ 0))) H
def spWN : Sp := fun vs H Q _ => ∃ (l : Addr) (ds : List Int), vs = [.ref l] ∧ H l = some (.lst (ds.map V.int)) ∧ ∀ m, m ≤ ds.length → (∀ j, m ≤ j → ds.getD j 0 = 0) → (m = 0 ∨ ds.getD (m - 1) 0 ≠ 0) → ∀ p H', H p = none → H' p = some (.tup ((ds.take m).map V.int)) → Kp [] H H' → Q (.ref p) H'
def spGT : Sp := fun vs H Q _ => ∃ v hd rg av a bv b, vs = [v, av, bv, .int 1] ∧ Scl H v hd rg ∧ Ints H av a ∧ Ints H bv b ∧ Ok hd ∧ Ok rg ∧ Gd hd rg a ∧ Gd hd rg b ∧ a.length ≤ 1000 ∧ b.length ≤ 1000 ∧
  ∀ t q r H', H q = none → q ≠ r → H' t = some (.tup [.ref q, .ref r]) → H' q = some (.lst ((sds hd rg a b (max a.length b.length)).map V.int)) → H' r = some (.lst ((cys hd rg a b (max a.length b.length)).map V.int)) → Kp [] H H' → Q (.ref t) H'
def spAdded : Sp := fun vs H Q _ => ∃ v hd rg av a bv b k, vs = [v, av, bv] ∧ Scl H v hd rg ∧ Ints H av a ∧ Ints H bv b ∧ Ok hd ∧ Ok rg ∧ Gd hd rg a ∧ Gd hd rg b ∧ a.length ≤ 1000 ∧ b.length ≤ 1000 ∧ DgOk hd rg 0 (vl hd rg a a.length + vl hd rg b b.length) k ∧
  ∀ p p1 p2 H', H' p = some (.tup [.ref p1, .ref p2]) → H' p1 = some (.tup ((dg hd rg 0 (vl hd rg a a.length + vl hd rg b b.length) k).map V.int)) → H' p2 = some (.tup ((cys hd rg a b (max a.length b.length)).map V.int)) → Kp [] H H' → Q (.ref p) H'
theorem pls_max {hd rg a b : List Int} (ga : Gd hd rg a) (gb : Gd hd rg b) : Pls hd rg (max a.length b.length) := fun j hj => by
  by_cases e : j < a.length
  · exact ga.pls j e
  · exact gb.pls j (by omega)
section
variable {P : Program} {w : World} {K : PySem.W.Frag} {mg : Str → Option Value} {base : Heap} {cNP cTG : Addr}
abbrev s_digit_at : Stmt := top 8
theorem sc_digit_at : FnScope ["digits", "place"] ["digits", "place"] (defScope s_digit_at) := ⟨rfl, rfl, rfl, by decide +kernel, rfl, by decide +kernel, by decide +kernel⟩
theorem ok_digit_at {f : Addr} {fd : FuncData} (F : Fun K "digit_at" "digit_at" s_digit_at f fd) (T : T3 K mg cNP) : FnOk P w K mg base CX0 1 f fd ["digits", "place"] spDAt := by
  have nd := sc_digit_at.nd
  refine F.ok sc_digit_at (fun vs H Q E h => ?_) (fun cdv A outer s H vs Q E hr h => ?_)
  · obtain ⟨dv, ds, pl, rfl, _⟩ := h
    rfl
  · obtain ⟨dv, ds, pl, rfl, ⟨a, rfl, ha⟩, k⟩ := h
    refine ⟨_, (pss_one (ps_ret (pe_ifExp (pt_cmpR op_lt (pv 1) (pe_callB call_lenA (by rfl) T.len boot_len (pa_cons (pv 0) pa_nil)) (nomark _)) (pe_ix ix_any (pv 0) (pv 1) (fun _ _ => rfl)) pe_int))), ?_⟩
    walk_at "rd"
    rw [List.length_map]
    refine rd_dec (fun h1 => ?_) (fun h1 => ?_)
    · walk_at "rd"
      have lt : pl < ds.length := by omega
      refine rx_tup ha (atI_nat (v := .int (ds.getD pl 0)) (by simp [lt])) k
    · walk_at "rd"
      have e : ds.getD pl 0 = 0 := by rw [List.getD_eq_getElem?_getD, List.getElem?_eq_none (by omega)]; rfl
      rw [e] at k
      exact k
abbrev s_without_noughts : Stmt := top 9
theorem sc_without_noughts : FnScope ["digits", "many"] ["digits"] (defScope s_without_noughts) := ⟨rfl, rfl, rfl, by decide +kernel, rfl, by decide +kernel, by decide +kernel⟩
theorem ok_without_noughts {f : Addr} {fd : FuncData} (F : Fun K "without_noughts" "without_noughts" s_without_noughts f fd) (T : T3 K mg cNP) : FnOk P w K mg base CX0 1 f fd ["digits"] spWN := by
  have nd := sc_without_noughts.nd
  refine F.ok sc_without_noughts (fun vs H Q E h => ?_) (fun cdv A outer s H vs Q E hr h => ?_)
  · obtain ⟨l, ds, rfl, _⟩ := h
    rfl
  · obtain ⟨l, ds, rfl, hl, k⟩ := h
    have hu := hr.units
    refine ⟨_, (pss_cons (ps_set (i := 1) nd rfl (by first | exact Or.inl rfl | exact Or.inr rfl) (pe_callB call_lenA (by rfl) T.len boot_len (pa_cons (pv 0) pa_nil)))
      (pss_cons (ps_while PassesOwn.never (PW.pt (pw_and (pt_cmpR op_gt (pv 1) pe_int (nomark _)) (pw_and1 (pt_cmpR (op_eqA hu) (pe_ix ix_any (pv 0) (pe_op op_sub (pv 1) pe_int) (fun _ _ => rfl)) pe_int (nomark _))))) (pss_one (ps_aug (i := 1) nd rfl (by first | exact Or.inl rfl | exact Or.inr rfl) pe_int iop_sub)))
      (pss_one (ps_ret (pe_callTy call_tupA (by rfl) T.tuple boot_tuple (pa_cons (pe_slice sl_any (pv 0) po_none (po_some (pv 1))) pa_nil)))))), ?_⟩
    walk_at "rd"
    rw [List.length_map]
    have fin : ∀ m : Nat, m ≤ ds.length → (∀ j, m ≤ j → ds.getD j 0 = 0) → (m = 0 ∨ ds.getD (m - 1) 0 ≠ 0) → ∀ p H1, H p = none → H1 p = some (.lst (cutV (ds.map V.int) none (some (m : Int)))) → Kp [] H H1 → rTupOf K [.ref p] H1 Q := fun m h1 h2 h3 p H1 np gp kp => by
      rw [cut_to (by omega), ← List.map_take, Int.toNat_natCast] at gp
      exact rtup_l (SqL.of gp) fun p2 H2 n2 g2 k2 => k m h1 h2 h3 p2 H2 (kp.non n2) g2 (kp.trans k2)
    refine rd_while (m0 := ds.length) (fun n σ H2 => n ≤ ds.length ∧ σ = [some (.ref l), some (.int (n : Int))] ∧ H2 = H ∧ ∀ j, n ≤ j → ds.getD j 0 = 0) ⟨Nat.le_refl _, rfl, rfl, fun j hj => by rw [List.getD_eq_getElem?_getD, List.getElem?_eq_none hj]; rfl⟩ ?_
    rintro n σ H2 ⟨hn, rfl, rfl, hz⟩
    walk_at "rd"
    refine rd_dec (fun h1 => ?_) (fun h1 => ?_)
    · walk_at "rd"
      have lt : n - 1 < ds.length := by omega
      refine rx_lst (SqL.of hl) (atI_pos (by omega) (v := .int (ds.getD (n - 1) 0)) (by rw [show ((n : Int) - 1).toNat = n - 1 by omega]; simp [lt])) ?_
      walk_at "rd"
      refine rd_dec (fun h2 => ?_) (fun h2 => ?_)
      · refine ⟨_, fun _ _ h => h, ?_⟩
        walk_at "rd"
        refine ⟨n - 1, by omega, by omega, ?_, rfl, fun j hj => ?_⟩
        · rw [show ((n : Int) - 1) = ((n - 1 : Nat) : Int) by omega]
          rfl
        · by_cases e : j = n - 1
          · rw [e]; exact h2
          · exact hz j (by omega)
      · walk_at "rd"
        exact rs_lst (SqL.of hl) fun p H1 np gp kp => fin n hn hz (.inr h2) p H1 np gp kp
    · refine iteF ?_
      walk_at "rd"
      exact rs_lst (SqL.of hl) fun p H1 np gp kp => fin n hn hz (.inl (by omega)) p H1 np gp kp
end
end My

set_option Elab.async false
set_option linter.all false
set_option maxRecDepth 100000
set_option maxHeartbeats 4000000
set_option exponentiation.threshold 5000
namespace My
open PySem L2 PyProof.Rows
local macro_rules | `(tactic| walk_at "rd") => `(tactic| repeat (first
  | with_reducible refine rd_seq ?_ | with_reducible refine rd_set ?_ | with_reducible refine rd_ret ?_ | with_reducible refine rd_if ?_ | with_reducible refine rd_next ?_ | with_reducible refine rd_drop ?_
  | with_reducible refine rd_c ?_ | (with_reducible refine' rd_var ?e1 ?_; (case e1 => with_unfolding_all rfl)) | with_reducible refine rd_op ?_ | with_reducible refine rd_un ?_ | with_reducible refine rd_test ?_ | with_reducible refine rd_tb ?_ | with_reducible refine rd_bl ?_
  | with_reducible refine rd_and ?_ | with_reducible refine rd_or ?_ | with_reducible refine rd_not ?_ | with_reducible refine rd_ifx ?_ | with_reducible refine rd_andV ?_ | with_reducible refine rd_orV ?_ | with_reducible refine rd_notV ?_
  | with_reducible refine rd_cons ?_ | with_reducible refine rd_nil ?_ | with_reducible refine rd_cb ?_ | with_reducible refine rd_call ?_ | with_reducible refine rd_tupN ?_ | with_reducible refine rd_lstN ?_ | with_reducible refine rd_sl ?_ | with_reducible refine rd_nopart ?_ | with_reducible refine rd_part ?_ | with_reducible refine rd_ii ?_
  | with_reducible refine rd_bm ?_ | with_reducible refine rd_true ?_ | with_reducible refine rd_gname ?_ | with_reducible refine rd_gcons ?_ | with_reducible refine rd_gnil ?_ | with_reducible refine rd_gsub ?_ | with_reducible refine rd_i0 ?_ | with_reducible refine rd_u ?_ | with_reducible refine ra_int ?_ | with_reducible refine re_int ?_ | with_reducible refine rn_int ?_
  | (with_reducible refine' rx_tup ?e1 ?e2 ?_; (case e1 => assumption); (case e2 => with_unfolding_all rfl)) | (with_reducible refine' rx_lst ?e1 ?e2 ?_; (case e1 => exact SqL.of (by assumption)); (case e2 => with_unfolding_all rfl)) | (with_reducible refine' rlen_t ?e1 ?_; (case e1 => assumption)) | (with_reducible refine' rlen_l ?e1 ?_; (case e1 => exact SqL.of (by assumption))) | with_reducible refine rmax_i ?_ | with_reducible refine rmin_i ?_ | with_reducible refine rint_b ?_ | with_reducible refine rint_i ?_
  | (with_reducible refine' rm_r ?e1 ?e2 ?_; (case e1 => omega); (case e2 => omega)) | (with_reducible refine' rm_l ?e1 ?e2 ?_; (case e1 => omega); (case e2 => omega)) | (with_reducible refine' rd_iC ?e1 ?_; (case e1 => (show (0 : Int) < _; omega)))
  | with_reducible refine rd_for1 ?_ | with_reducible refine rd_forL ?_ | with_reducible refine rd_comp1 ?_ | with_reducible refine rd_compL ?_ | (with_reducible refine' rd_aug ?e1 ?_; (case e1 => with_unfolding_all rfl)) | with_reducible refine rd_asg ?_ | with_reducible refine rd_rev ?_ | with_reducible refine rd_callX ?_ | with_reducible refine rd_chain ?_ | with_reducible refine rd_forE ?_ | with_reducible refine rd_compZ ?_ | with_reducible refine rd_compT ?_ | with_reducible refine rd_revT ?_))
structure T9 (K : PySem.W.Frag) (mg : Str → Option Value) (cNP : Addr) : Prop extends T3 K mg cNP where
  any : mg "any" = none
def ci (cs : List Int) : Nat → Int
  | 0 => 0
  | j + 1 => cs.getD j 0
def Shown (hd rg a b ds cs : List Int) : Prop := Gd hd rg a ∧ Gd hd rg b ∧ Gd hd rg ds ∧ cs.length = max a.length b.length ∧
  (∀ j, j < max a.length b.length → a.getD j 0 + b.getD j 0 + ci cs j = ds.getD j 0 + bAt hd rg j * cs.getD j 0) ∧ ∀ j, (ds.drop (max a.length b.length)).getD j 0 = [ci cs (max a.length b.length)].getD j 0
theorem take_getD {ds : List Int} {m : Nat} (hz : ∀ j, m ≤ j → ds.getD j 0 = 0) (j : Nat) : (ds.take m).getD j 0 = ds.getD j 0 := by
  by_cases h : j < m
  · rw [List.getD_eq_getElem?_getD, List.getD_eq_getElem?_getD, List.getElem?_take_of_lt h]
  · rw [hz j (by omega), List.getD_eq_getElem?_getD, List.getElem?_eq_none (by simp; omega)]
    rfl
theorem bare_eq {xs ys : List Int} {m n : Nat} (hm : m ≤ xs.length) (hx : ∀ j, m ≤ j → xs.getD j 0 = 0) (lx : m = 0 ∨ xs.getD (m - 1) 0 ≠ 0) (hn : n ≤ ys.length) (hy : ∀ j, n ≤ j → ys.getD j 0 = 0) (ly : n = 0 ∨ ys.getD (n - 1) 0 ≠ 0) :
    xs.take m = ys.take n ↔ ∀ j, xs.getD j 0 = ys.getD j 0 := by
  constructor
  · intro h j
    rw [← take_getD hx j, ← take_getD hy j, h]
  · intro h
    have e : m = n := by
      rcases Nat.lt_trichotomy m n with q | q | q
      · rcases ly with z | z
        · omega
        · exact absurd ((h (n - 1)).symm.trans (hx (n - 1) (by omega))) z
      · exact q
      · rcases lx with z | z
        · omega
        · exact absurd ((h (m - 1)).trans (hy (m - 1) (by omega))) z
    subst e
    refine List.ext_getElem? fun j => ?_
    by_cases hj : j < m
    · rw [List.getElem?_take_of_lt hj, List.getElem?_take_of_lt hj]
      have z := h j
      rw [List.getD_eq_getElem?_getD, List.getD_eq_getElem?_getD, List.getElem?_eq_getElem (show j < xs.length by omega), List.getElem?_eq_getElem (show j < ys.length by omega)] at z
      rw [List.getElem?_eq_getElem (show j < xs.length by omega), List.getElem?_eq_getElem (show j < ys.length by omega)]
      exact congrArg some z
    · rw [List.getElem?_eq_none (by simp; omega), List.getElem?_eq_none (by simp; omega)]
theorem cut_from {xs : List V} {n : Nat} : cutV xs (some (n : Int)) none = xs.drop n := by
  unfold cutV
  have e : HT.sIx xs.length 0 (some (n : Int)) = min n xs.length := HT.sIx_nat _ _ _
  have e2 : HT.sIx xs.length xs.length none = xs.length := rfl
  rw [e, e2, List.take_of_length_le (by simp)]
  by_cases h : n ≤ xs.length
  · rw [Nat.min_eq_left h]
  · rw [Nat.min_eq_right (by omega), List.drop_eq_nil_of_le (Nat.le_refl _), List.drop_eq_nil_of_le (by omega)]
open Classical in
noncomputable def bad (hd rg r : List Int) : Bool := decide (¬ Gd hd rg r)
def spWNT : Sp := fun vs H Q _ => ∃ (l : Addr) (ds : List Int), vs = [.ref l] ∧ H l = some (.tup (ds.map V.int)) ∧ ∀ m, m ≤ ds.length → (∀ j, m ≤ j → ds.getD j 0 = 0) → (m = 0 ∨ ds.getD (m - 1) 0 ≠ 0) → ∀ p H', H' p = some (.tup ((ds.take m).map V.int)) → Kp [] H H' → Q (.ref p) H'
def spShown : Sp := fun vs H Q _ => ∃ v hd rg av a bv b dv ds cv cs, vs = [v, av, bv, dv, cv] ∧ Scl H v hd rg ∧ Ints H av a ∧ Ints H bv b ∧ Ints H dv ds ∧ Ints H cv cs ∧ Ok hd ∧ Ok rg ∧ a.length ≤ 1000 ∧ b.length ≤ 1000 ∧ ∀ (r : Bool) H', (r = true ↔ Shown hd rg a b ds cs) → Kp [] H H' → Q (.bl r) H'
section
variable {P : Program} {w : World} {K : PySem.W.Frag} {mg : Str → Option Value} {base : Heap} {cNP cTG : Addr}
theorem ok_without_noughtsT {f : Addr} {fd : FuncData} (F : Fun K "without_noughts" "without_noughts" s_without_noughts f fd) (T : T3 K mg cNP) : FnOk P w K mg base CX0 1 f fd ["digits"] spWNT := by
  have nd := sc_without_noughts.nd
  refine F.ok sc_without_noughts (fun vs H Q E h => ?_) (fun cdv A outer s H vs Q E hr h => ?_)
  · obtain ⟨l, ds, rfl, _⟩ := h
    rfl
  · obtain ⟨l, ds, rfl, hl, k⟩ := h
    have hu := hr.units
    refine ⟨_, (pss_cons (ps_set (i := 1) nd rfl (by first | exact Or.inl rfl | exact Or.inr rfl) (pe_callB call_lenA (by rfl) T.len boot_len (pa_cons (pv 0) pa_nil)))
      (pss_cons (ps_while PassesOwn.never (PW.pt (pw_and (pt_cmpR op_gt (pv 1) pe_int (nomark _)) (pw_and1 (pt_cmpR (op_eqA hu) (pe_ix ix_any (pv 0) (pe_op op_sub (pv 1) pe_int) (fun _ _ => rfl)) pe_int (nomark _))))) (pss_one (ps_aug (i := 1) nd rfl (by first | exact Or.inl rfl | exact Or.inr rfl) pe_int iop_sub)))
      (pss_one (ps_ret (pe_callTy call_tupA (by rfl) T.tuple boot_tuple (pa_cons (pe_slice sl_anyB (pv 0) po_none (po_some (pv 1))) pa_nil)))))), ?_⟩
    walk_at "rd"
    rw [List.length_map]
    have fin : ∀ m : Nat, m ≤ ds.length → (∀ j, m ≤ j → ds.getD j 0 = 0) → (m = 0 ∨ ds.getD (m - 1) 0 ≠ 0) → ∀ p H1, H1 p = some (.tup (cutV (ds.map V.int) none (some (m : Int)))) → Kp [] H H1 → rTupOf K [.ref p] H1 Q := fun m h1 h2 h3 p H1 gp kp => by
      rw [cut_to (by omega), ← List.map_take, Int.toNat_natCast] at gp
      exact rtup_t gp (k m h1 h2 h3 p H1 gp kp)
    refine rd_while (m0 := ds.length) (fun n σ H2 => n ≤ ds.length ∧ σ = [some (.ref l), some (.int (n : Int))] ∧ H2 = H ∧ ∀ j, n ≤ j → ds.getD j 0 = 0) ⟨Nat.le_refl _, rfl, rfl, fun j hj => by rw [List.getD_eq_getElem?_getD, List.getElem?_eq_none hj]; rfl⟩ ?_
    rintro n σ H2 ⟨hn, rfl, rfl, hz⟩
    walk_at "rd"
    refine rd_dec (fun h1 => ?_) (fun h1 => ?_)
    · walk_at "rd"
      have lt : n - 1 < ds.length := by omega
      refine rx_tup hl (atI_pos (by omega) (v := .int (ds.getD (n - 1) 0)) (by rw [show ((n : Int) - 1).toNat = n - 1 by omega]; simp [lt])) ?_
      walk_at "rd"
      refine rd_dec (fun h2 => ?_) (fun h2 => ?_)
      · refine ⟨_, fun _ _ h => h, ?_⟩
        walk_at "rd"
        refine ⟨n - 1, by omega, by omega, ?_, rfl, fun j hj => ?_⟩
        · rw [show ((n : Int) - 1) = ((n - 1 : Nat) : Int) by omega]
          rfl
        · by_cases e : j = n - 1
          · rw [e]; exact h2
          · exact hz j (by omega)
      · walk_at "rd"
        exact rs_tupB hl fun p H1 gp kp => fin n hn hz (.inr h2) p H1 gp kp
    · refine iteF ?_
      walk_at "rd"
      exact rs_tupB hl fun p H1 gp kp => fin n hn hz (.inl (by omega)) p H1 gp kp

abbrev s_sum_shown : Stmt := top 11
theorem sc_sum_shown : FnScope ["scale", "one", "other", "digits", "carries", "many", "coming", "place", "whole"] ["scale", "one", "other", "digits", "carries"] (defScope s_sum_shown) := ⟨rfl, rfl, rfl, by decide +kernel, rfl, by decide +kernel, by decide +kernel⟩
theorem ok_sum_shown {f f1 f2 f3 f4 : Addr} {fd fd1 fd2 fd3 fd4 : FuncData} (F : Fun K "sum_shown" "sum_shown" s_sum_shown f fd) (T : T9 K mg cNP) (c_first_wrong : Fn P w K mg base CX0 4 "first_wrong" f1 fd1 ["scale", "digits"] spFWG)
    (c_digit_at : Fn P w K mg base CX0 1 "digit_at" f2 fd2 ["digits", "place"] spDAt) (c_base_at : Fn P w K mg base (CX1 P w) 3 "base_at" f3 fd3 ["scale", "place"] (spBase cNP)) (c_without_noughts : Fn P w K mg base CX0 1 "without_noughts" f4 fd4 ["digits"] spWNT) :
    FnOk P w K mg base CX0 5 f fd ["scale", "one", "other", "digits", "carries"] spShown := by
  have nd := sc_sum_shown.nd
  refine F.ok sc_sum_shown (fun vs H Q E h => ?_) (fun cdv A outer s H vs Q E hr h => ?_)
  · obtain ⟨v, hd, rg, av, a, bv, b, dv, ds, cv, cs, rfl, _⟩ := h
    rfl
  · obtain ⟨v, hd, rg, av, a, bv, b, dv, ds, cv, cs, rfl, hs, ia, ib, id', ic, o1, o2, la, lb, k⟩ := h
    have hu := hr.units
    refine ⟨_, (pss_cons (ps_if (pt_val (pe_callB (call_anyL (by rfl)) (by rfl) T.any boot_any (pa_cons (pe_comp (by rfl) (bs := ["row"]) (comp_ok rfl (by rfl) rfl (by rfl) (by rfl) (.cons rfl .nil) (.cons (j := 0) rfl (by first | exact .inl rfl | exact .inr rfl) rfl (by first | exact .inl rfl | exact .inr rfl) .nil)) (pi_tup (pe_tup (pa_cons (pv 1) (pa_cons (pv 2) (pa_cons (pv 3) pa_nil))))) (fun _ _ _ _ _ => (pg_name (i := 0) (show (["row", "scale"] : List Str).Nodup by decide +kernel) rfl (by first | exact Or.inl rfl | exact Or.inr rfl))) (fun _ _ _ _ _ => pts_nil) (fun _ _ _ _ _ => (pe_cmpR op_notN (pf c_first_wrong (hr.mono (by decide)) (by rfl) (pa_cons (pv 1) (pa_cons (pv 0) pa_nil))) pe_non (nomark _)))) pa_nil))) (pss_one (ps_ret pe_bl)) pss_nil)
      (pss_cons (ps_set (i := 5) nd rfl (by first | exact Or.inl rfl | exact Or.inr rfl) (pe_callB (call_maxA (by rfl)) (by rfl) T.max boot_max (pa_cons (pe_callB call_lenA (by rfl) T.len boot_len (pa_cons (pv 1) pa_nil)) (pa_cons (pe_callB call_lenA (by rfl) T.len boot_len (pa_cons (pv 2) pa_nil)) pa_nil))))
      (pss_cons (ps_if (pt_cmpR (op_neA hu) (pe_callB call_lenA (by rfl) T.len boot_len (pa_cons (pv 4) pa_nil)) (pv 5) (nomark _)) (pss_one (ps_ret pe_bl)) pss_nil)
      (pss_cons (ps_set (i := 6) nd rfl (by first | exact Or.inl rfl | exact Or.inr rfl) pe_int)
      (pss_cons (ps_for PassesOwn.never (by rfl) (pi_range1 (by rfl) T.range (pa_cons (pv 5) pa_nil)) (pg_name (i := 7) nd rfl (by first | exact Or.inl rfl | exact Or.inr rfl)) (pss_cons (ps_set (i := 8) nd rfl (by first | exact Or.inl rfl | exact Or.inr rfl) (pe_op op_addA (pe_op op_addA (pf c_digit_at (hr.mono (by decide)) (by rfl) (pa_cons (pv 1) (pa_cons (pv 7) pa_nil))) (pf c_digit_at (hr.mono (by decide)) (by rfl) (pa_cons (pv 2) (pa_cons (pv 7) pa_nil)))) (pv 6)) (hs := sw_binop))
      (pss_cons (ps_if (pt_cmpR (op_neA hu) (pv 8) (pe_op op_addA (pf c_digit_at (hr.mono (by decide)) (by rfl) (pa_cons (pv 3) (pa_cons (pv 7) pa_nil))) (pe_op op_mulA (pf1 c_base_at (hr.mono (by decide)) (by rfl) (pa_cons (pv 0) (pa_cons (pv 7) pa_nil))) (pe_ix ix_any (pv 4) (pv 7) (fun _ _ => rfl)))) (nomark _)) (pss_one (ps_ret pe_bl)) pss_nil)
      (pss_one (ps_set (i := 6) nd rfl (by first | exact Or.inl rfl | exact Or.inr rfl) (pe_ix ix_any (pv 4) (pv 7) (fun _ _ => rfl)) (hs := sw_sub))))))
      (pss_one (ps_ret (pe_cmpR (op_eqA hu) (pf c_without_noughts (hr.mono (by decide)) (by rfl) (pa_cons (pe_slice sl_anyB (pv 3) (po_some (pv 5)) po_none) pa_nil)) (pf c_without_noughts (hr.mono (by decide)) (by rfl) (pa_cons (pe_tup (pa_cons (pv 6) pa_nil)) pa_nil)) (nomark _))))))))), ?_⟩
    walk_at "rd"
    refine tupN (by show 3 ≤ sizeLine; decide) fun t H1 n1 g1 k1 => ?_
    refine rcot (xs := [av, bv, dv]) (fun i ys G => ys = (([bad hd rg a, bad hd rg b, bad hd rg ds]).take i).map V.bl ∧ Kp [] H1 G) ⟨rfl, Kp.refl⟩ (fun i ys G _ z => SqT.of (z.2.get g1)) (fun i ys G _ z => by rw [z.1]; simp; exact Nat.le_trans (Nat.min_le_right _ _) (by decide)) ?_ ?_
    · rintro i x ys G hx ⟨rfl, kG⟩
      have kHG := k1.trans kG
      have lt : i < 3 := (List.getElem?_eq_some_iff.mp hx).1
      have row : ∃ r, Ints G x r ∧ ([bad hd rg a, bad hd rg b, bad hd rg ds])[i]? = some (bad hd rg r) := by
        have cs' : i = 0 ∨ i = 1 ∨ i = 2 := by omega
        rcases cs' with rfl | rfl | rfl <;> cases hx
        · exact ⟨a, ia.kp kHG, rfl⟩
        · exact ⟨b, ib.kp kHG, rfl⟩
        · exact ⟨ds, id'.kp kHG, rfl⟩
      obtain ⟨r, ir, er⟩ := row
      have ext : ∀ (z : Bool), z = bad hd rg r → (([bad hd rg a, bad hd rg b, bad hd rg ds]).take i).map V.bl ++ [V.bl z] = (([bad hd rg a, bad hd rg b, bad hd rg ds]).take (i + 1)).map V.bl := fun z hz => by
        rw [List.take_succ, er, List.map_append, hz]
        rfl
      walk_at "rd"
      refine iteT ?_
      walk_at "rd"
      refine ⟨v, hd, rg, x, r, rfl, hs.kp kHG, ir, fun hg G2 k2 => ?_, fun j hj hw hW G2 k2 => ?_⟩
      · walk_at "rd"
        refine ⟨rfl, ?_⟩
        exact nx_of lt ⟨ext _ (by unfold bad; simp [hg]), kG.trans k2⟩
      · walk_at "rd"
        refine ⟨rfl, ?_⟩
        have ng : ¬ Gd hd rg r := fun hg => gd_iff.mp hg j hj hW
        exact nx_of lt ⟨ext _ (by unfold bad; simp [ng]), kG.trans k2⟩
    · rintro ys G ⟨rfl, kG⟩ q G2 nq gq k2
      have k02 := (k1.trans kG).trans k2
      walk_at "rd"
      refine rany (bs := [bad hd rg a, bad hd rg b, bad hd rg ds]) gq ?_
      walk_at "rd"
      refine rd_b (fun hb => ?_) (fun hb => ?_)
      · walk_at "rd"
        refine k false G2 ⟨fun z => (by cases z), fun sh => ?_⟩ k02
        have e1 : bad hd rg a = false := by unfold bad; simp [sh.1]
        have e2 : bad hd rg b = false := by unfold bad; simp [sh.2.1]
        have e3 : bad hd rg ds = false := by unfold bad; simp [sh.2.2.1]
        rw [e1, e2, e3] at hb
        exact hb
      · have all : bad hd rg a = false ∧ bad hd rg b = false ∧ bad hd rg ds = false := by simpa using hb
        have ga : Gd hd rg a := by have z := all.1; unfold bad at z; simpa using z
        have gb : Gd hd rg b := by have z := all.2.1; unfold bad at z; simpa using z
        have gd' : Gd hd rg ds := by have z := all.2.2; unfold bad at z; simpa using z
        have PL := pls_max ga gb
        obtain ⟨pa, rfl, ha⟩ := ia.kp k02
        obtain ⟨pb, rfl, hb'⟩ := ib.kp k02
        obtain ⟨pd, rfl, hd'⟩ := id'.kp k02
        obtain ⟨pc, rfl, hc⟩ := ic.kp k02
        walk_at "rd"
        rw [List.length_map, List.length_map, List.length_map]
        have eL : (if (b.length : Int) > (a.length : Int) then (b.length : Int) else (a.length : Int)) = ((max a.length b.length : Nat) : Int) := by split <;> omega
        rw [eL]
        refine rd_ndec (fun hl => ?_) (fun hl => ?_)
        · walk_at "rd"
          exact k false G2 ⟨fun z => (by cases z), fun sh => absurd (by rw [sh.2.2.2.1]) hl⟩ k02
        · have hl' : cs.length = max a.length b.length := by omega
          walk_at "rd"
          refine rrng (n := max a.length b.length) (by omega) (by omega) (by omega) (fun i σ G3 => ∃ u7 u8, σ = [some v, some (.ref pa), some (.ref pb), some (.ref pd), some (.ref pc), some (.int ((max a.length b.length : Nat) : Int)), some (.int (ci cs i)), u7, u8] ∧ Kp [] G2 G3 ∧ ∀ j, j < i → a.getD j 0 + b.getD j 0 + ci cs j = ds.getD j 0 + bAt hd rg j * cs.getD j 0) ⟨_, _, rfl, Kp.refl, fun j hj => absurd hj (by omega)⟩ ?_ ?_
          · rintro i σ G3 hi ⟨u7, u8, rfl, k3, hj⟩
            have e0 : (0 + (i : Int)) = ((i : Nat) : Int) := by omega
            rw [e0]
            have hp := PL i hi
            obtain ⟨b0, b1⟩ := b_okN o1 o2 hp
            have hc3 := k3.get hc
            have lc : i < cs.length := by omega
            walk_at "rd"
            refine ⟨_, a, i, rfl, ⟨pa, rfl, k3.get ha⟩, ?_⟩
            walk_at "rd"
            refine ⟨_, b, i, rfl, ⟨pb, rfl, k3.get hb'⟩, ?_⟩
            walk_at "rd"
            refine ⟨_, ds, i, rfl, ⟨pd, rfl, k3.get hd'⟩, ?_⟩
            walk_at "rd"
            refine ⟨v, hd, rg, _, rfl, hs.kp (k02.trans k3), fun _ => ?_, fun z => by rw [hp] at z; cases z⟩
            rw [Int.toNat_natCast]
            walk_at "rd"
            refine rx_tup hc3 (atI_nat (v := .int (cs.getD i 0)) (by simp [lc])) ?_
            walk_at "rd"
            refine rd_ndec (fun hne => ?_) (fun heq => ?_)
            · walk_at "rd"
              exact k false G3 ⟨fun z => (by cases z), fun sh => absurd (sh.2.2.2.2.1 i hi) hne⟩ (k02.trans k3)
            · walk_at "rd"
              refine rx_tup hc3 (atI_nat (v := .int (cs.getD i 0)) (by simp [lc])) ?_
              walk_at "rd"
              refine ⟨_, _, rfl, k3, fun j hj' => ?_⟩
              by_cases ej : j = i
              · subst ej; exact heq
              · exact hj j (by omega)
          · rintro σ G3 ⟨u7, u8, rfl, k3, hj⟩
            walk_at "rd"
            refine rs_tupB (k3.get hd') fun q4 G4 g4 k4 => ?_
            rw [cut_from, ← List.map_drop] at g4
            walk_at "rd"
            refine ⟨q4, _, rfl, g4, fun m m1 m2 m3 p5 G5 g5 k5 => ?_⟩
            walk_at "rd"
            refine tupN (by show 1 ≤ sizeLine; decide) fun q6 G6 n6 g6 k6 => ?_
            walk_at "rd"
            refine ⟨q6, [ci cs (max a.length b.length)], rfl, g6, fun n x1 x2 x3 p7 G7 g7 k7 => ?_⟩
            refine re_tup (Ints.dv ⟨p5, rfl, k7.get (k6.get g5)⟩) (Ints.dv ⟨p7, rfl, g7⟩) (by rw [depths_ints]; decide) ?_
            rw [eqs_ints]
            refine k _ G7 ?_ (((((k02.trans k3).trans k4).trans k5).trans k6).trans k7)
            rw [decide_eq_true_iff, bare_eq m1 m2 m3 x1 x2 x3]
            exact ⟨fun z => ⟨ga, gb, gd', hl', hj, z⟩, fun sh => sh.2.2.2.2.2⟩
end
end My

set_option Elab.async false
set_option linter.all false
set_option maxRecDepth 100000
set_option maxHeartbeats 4000000
set_option exponentiation.threshold 5000
namespace My
open PySem L2 PyProof.Rows
local macro_rules | `(tactic| walk_at "rd") => `(tactic| repeat (first
  | with_reducible refine rd_seq ?_ | with_reducible refine rd_set ?_ | with_reducible refine rd_ret ?_ | with_reducible refine rd_if ?_ | with_reducible refine rd_next ?_ | with_reducible refine rd_drop ?_
  | with_reducible refine rd_c ?_ | (with_reducible refine' rd_var ?e1 ?_; (case e1 => with_unfolding_all rfl)) | with_reducible refine rd_op ?_ | with_reducible refine rd_un ?_ | with_reducible refine rd_test ?_ | with_reducible refine rd_tb ?_ | with_reducible refine rd_bl ?_
  | with_reducible refine rd_and ?_ | with_reducible refine rd_or ?_ | with_reducible refine rd_not ?_ | with_reducible refine rd_ifx ?_ | with_reducible refine rd_andV ?_ | with_reducible refine rd_orV ?_ | with_reducible refine rd_notV ?_
  | with_reducible refine rd_cons ?_ | with_reducible refine rd_nil ?_ | with_reducible refine rd_cb ?_ | with_reducible refine rd_call ?_ | with_reducible refine rd_tupN ?_ | with_reducible refine rd_lstN ?_ | with_reducible refine rd_sl ?_ | with_reducible refine rd_nopart ?_ | with_reducible refine rd_part ?_ | with_reducible refine rd_ii ?_
  | with_reducible refine rd_bm ?_ | with_reducible refine rd_true ?_ | with_reducible refine rd_gname ?_ | with_reducible refine rd_gcons ?_ | with_reducible refine rd_gnil ?_ | with_reducible refine rd_gsub ?_ | with_reducible refine rd_i0 ?_ | with_reducible refine rd_u ?_ | with_reducible refine ra_int ?_ | with_reducible refine re_int ?_ | with_reducible refine rn_int ?_
  | (with_reducible refine' rx_tup ?e1 ?e2 ?_; (case e1 => assumption); (case e2 => with_unfolding_all rfl)) | (with_reducible refine' rx_lst ?e1 ?e2 ?_; (case e1 => exact SqL.of (by assumption)); (case e2 => with_unfolding_all rfl)) | (with_reducible refine' rlen_t ?e1 ?_; (case e1 => assumption)) | (with_reducible refine' rlen_l ?e1 ?_; (case e1 => exact SqL.of (by assumption))) | with_reducible refine rmax_i ?_ | with_reducible refine rmin_i ?_ | with_reducible refine rint_b ?_ | with_reducible refine rint_i ?_
  | (with_reducible refine' rm_r ?e1 ?e2 ?_; (case e1 => omega); (case e2 => omega)) | (with_reducible refine' rm_l ?e1 ?e2 ?_; (case e1 => omega); (case e2 => omega)) | (with_reducible refine' rd_iC ?e1 ?_; (case e1 => (show (0 : Int) < _; omega)))
  | with_reducible refine rd_for1 ?_ | with_reducible refine rd_forL ?_ | with_reducible refine rd_comp1 ?_ | with_reducible refine rd_compL ?_ | (with_reducible refine' rd_aug ?e1 ?_; (case e1 => with_unfolding_all rfl)) | with_reducible refine rd_asg ?_ | with_reducible refine rd_rev ?_ | with_reducible refine rd_callX ?_ | with_reducible refine rd_chain ?_ | with_reducible refine rd_forE ?_ | with_reducible refine rd_compZ ?_ | with_reducible refine rd_compT ?_ | with_reducible refine rd_revT ?_))
theorem up_not {hd rg : List Int} {n i : Nat} (hi : i < n) (h : (up hd rg n).length ≤ i) : hasP hd rg (i : Int) = false := by
  rw [up_len] at h
  by_cases hr : rg = []
  · rw [if_pos hr] at h
    subst hr
    unfold hasP
    rw [decide_eq_false (p := (i : Int) < hd.length) (by omega)]
    simp
  · rw [if_neg hr] at h
    omega
theorem dvs_of {K : PySem.W.Frag} {H : Hp} : ∀ {ys : List V}, (∀ y ∈ ys, ∃ r, Ints H y r) → ∃ es, DVs K H es ys ∧ D.depths es ≤ 1 ∧ es.length = ys.length
  | [], _ => ⟨[], by rw [DVs], by simp [D.depths], rfl⟩
  | y :: ys, h => by
    obtain ⟨r, ir⟩ := h y (by simp)
    obtain ⟨es, h1, h2, h3⟩ := dvs_of (K := K) (H := H) (ys := ys) fun z hz => h z (by simp [hz])
    refine ⟨.tup (r.map D.int) :: es, by rw [DVs]; exact ⟨y, ys, rfl, ir.dv, h1⟩, ?_, by simp [h3]⟩
    simp [D.depths, D.depth, depths_ints]
    omega
theorem rep_one {x : V} (n : Nat) : (List.replicate n [x]).flatten = List.replicate n x := by
  induction n with
  | zero => rfl
  | succ n ih => rw [List.replicate_succ, List.flatten_cons, ih]; rfl
theorem pad_at {xs : List Int} {n j : Nat} (h : j < xs.length + n) : ((xs ++ List.replicate n (0 : Int)).map V.int)[j]? = some (.int (xs.getD j 0)) := by
  rw [List.getElem?_map, List.getD_eq_getElem?_getD]
  by_cases e : j < xs.length
  · rw [List.getElem?_append_left e, List.getElem?_eq_getElem e]
    rfl
  · rw [List.getElem?_append_right (by omega), List.getElem?_replicate, if_pos (by omega), List.getElem?_eq_none (by omega)]
    rfl
theorem rnl {K : PySem.W.Frag} {H : Hp} {Q : VK} {a b : Addr} {xs ys : List V} {ds es : List L2.D} (h1 : H a = some (.lst xs)) (h2 : H b = some (.lst ys)) (h3 : DVs K H ds xs) (h4 : DVs K H es ys) (h5 : D.depths ds ≤ 40) (h : Q (.bl (!D.eqs ds es)) H) : rNeA K (.ref a) (.ref b) H Q :=
  .inr (.inr ⟨a, b, xs, ys, ds, es, rfl, rfl, SqL.of h1, SqL.of h2, h3, h4, h5, by simpa using h⟩)
theorem behind_iff {ds : List Int} {L : Nat} {c : Int} : (∀ j, (ds.drop L).getD j 0 = [c].getD j 0) ↔ c = ds.getD L 0 ∧ ∀ j, L < j → ds.getD j 0 = 0 := by
  have e : ∀ j, (ds.drop L).getD j 0 = ds.getD (L + j) 0 := fun j => by rw [List.getD_eq_getElem?_getD, List.getD_eq_getElem?_getD, List.getElem?_drop]
  constructor
  · intro h
    refine ⟨?_, fun j hj => ?_⟩
    · have z := h 0
      rw [e 0] at z
      exact z.symm
    · have z := h (j - L)
      rw [e, show L + (j - L) = j by omega] at z
      rw [z]
      obtain ⟨i, ei⟩ : ∃ i, j - L = i + 1 := ⟨j - L - 1, by omega⟩
      rw [ei]
      rfl
  · rintro ⟨h1, h2⟩ j
    rw [e]
    cases j with
    | zero => exact h1.symm
    | succ i => rw [h2 (L + (i + 1)) (by omega)]; rfl
def spLW : Sp := fun vs H Q _ => ∃ v hd rg dv ds, vs = [v, dv] ∧ Scl H v hd rg ∧ Ints H dv ds ∧ hd.length ≤ 12 ∧ rg.length ≤ 12 ∧ ds.length ≤ 5000 ∧ (Gd hd rg ds → ∀ H', Kp [] H H' → Q .non H') ∧ (¬ Gd hd rg ds → ∀ (j : Int) H', Kp [] H H' → Q (.int j) H')
def spDue9 : Sp := fun vs H Q _ => ∃ v hd rg av a bv b dv ds cv cs, vs = [v, av, bv, dv, cv] ∧ Scl H v hd rg ∧ Ints H av a ∧ Ints H bv b ∧ Ints H dv ds ∧ Ints H cv cs ∧ Ok hd ∧ Ok rg ∧ hd.length ≤ 12 ∧ rg.length ≤ 12 ∧ a.length ≤ 1000 ∧ b.length ≤ 1000 ∧ ds.length ≤ 2000 ∧ cs.length ≤ 2000 ∧ ∀ (r : Bool) H', (r = true ↔ Shown hd rg a b ds cs) → Kp [] H H' → Q (.bl r) H'
def spRight9 : Sp := fun vs H Q _ => ∃ v hd rg av a bv b dv ds cv cs, vs = [v, av, bv, dv, cv] ∧ Scl H v hd rg ∧ Ints H av a ∧ Ints H bv b ∧ Ints H dv ds ∧ Ints H cv cs ∧ Ok hd ∧ Ok rg ∧ hd.length ≤ 12 ∧ rg.length ≤ 12 ∧ a.length ≤ 1000 ∧ b.length ≤ 1000 ∧ ds.length ≤ 2000 ∧ cs.length ≤ 2000 ∧ ∀ H', Kp [] H H' → Q (.bl true) H'
section
variable {P : Program} {w : World} {K : PySem.W.Frag} {mg : Str → Option Value} {base : Heap} {cNP cTG : Addr}
abbrev s__law_wrong : Stmt := top 25
theorem sc__law_wrong : FnScope ["scale", "digits", "bases", "place"] ["scale", "digits"] (defScope s__law_wrong) := ⟨rfl, rfl, rfl, by decide +kernel, rfl, by decide +kernel, by decide +kernel⟩
theorem ok__law_wrong {f f1 : Addr} {fd fd1 : FuncData} (F : Fun K "_law_wrong" "_law_wrong" s__law_wrong f fd) (T : T3 K mg cNP) (c__law_bases : Fn P w K mg base CX0 1 "_law_bases" f1 fd1 ["scale", "many"] spBases) : FnOk P w K mg base CX0 2 f fd ["scale", "digits"] spLW := by
  have nd := sc__law_wrong.nd
  refine F.ok sc__law_wrong (fun vs H Q E h => ?_) (fun cdv A outer s H vs Q E hr h => ?_)
  · obtain ⟨v, hd, rg, dv, ds, rfl, _⟩ := h
    rfl
  · obtain ⟨v, hd, rg, dv, ds, rfl, hs, ⟨a, rfl, ha⟩, l1, l2, ld, kn, kw⟩ := h
    have hu := hr.units
    refine ⟨_, (pss_cons (ps_set (i := 2) nd rfl (by first | exact Or.inl rfl | exact Or.inr rfl) (pf c__law_bases (hr.mono (by decide)) (by rfl) (pa_cons (pv 0) (pa_cons (pe_callB call_lenA (by rfl) T.len boot_len (pa_cons (pv 1) pa_nil)) pa_nil))))
      (pss_cons (ps_for PassesOwn.never (by rfl) (pi_range1 (by rfl) T.range (pa_cons (pe_callB call_lenA (by rfl) T.len boot_len (pa_cons (pv 1) pa_nil)) pa_nil)) (pg_name (i := 3) nd rfl (by first | exact Or.inl rfl | exact Or.inr rfl)) (pss_one (ps_if (PW.pt (pw_or (pt_cmpR op_ge (pv 3) (pe_callB call_lenA (by rfl) T.len boot_len (pa_cons (pv 2) pa_nil)) (nomark _)) (pw_or (pt_cmpR op_lt (pe_ix ix_any (pv 1) (pv 3) (fun _ _ => rfl)) pe_int (nomark _)) (pw_or1 (pt_cmpR op_ge (pe_ix ix_any (pv 1) (pv 3) (fun _ _ => rfl)) (pe_ix ix_any (pv 2) (pv 3) (fun _ _ => rfl)) (nomark _)))))) (pss_one (ps_ret (pv 3))) pss_nil)))
      (pss_one (ps_ret pe_non)))), ?_⟩
    walk_at "rd"
    rw [List.length_map]
    refine ⟨v, hd, rg, _, rfl, hs, l1, l2, by omega, by omega, fun pb H1 n1 g1 k1 => ?_⟩
    rw [Int.toNat_natCast] at g1
    have ha1 := k1.get ha
    walk_at "rd"
    rw [List.length_map]
    refine rrng (n := ds.length) (by omega) (by omega) (by omega) (fun i σ G => ∃ u3, σ = [some v, some (.ref a), some (.ref pb), u3] ∧ G = H1 ∧ ∀ j, j < i → ¬ Wr hd rg ds j) ⟨_, rfl, rfl, fun j hj => absurd hj (by omega)⟩ ?_ ?_
    · rintro i σ G hi ⟨u3, rfl, rfl, hw⟩
      have e0 : (0 + (i : Int)) = ((i : Nat) : Int) := by omega
      rw [e0]
      have bad' : Wr hd rg ds i → ¬ Gd hd rg ds := fun hW hg => gd_iff.mp hg i hi hW
      walk_at "rd"
      rw [List.length_map]
      refine rd_dec (fun y => iteT ?_) (fun y => ?_)
      · walk_at "rd"
        exact kw (bad' (.inl (up_not hi (by omega)))) _ _ k1
      · have lt : i < (up hd rg ds.length).length := by omega
        have hp := up_has lt
        walk_at "rd"
        refine rx_tup ha1 (atI_nat (v := .int (ds.getD i 0)) (by simp [hi])) ?_
        walk_at "rd"
        refine rd_dec (fun y1 => iteT ?_) (fun y1 => ?_)
        · walk_at "rd"
          exact kw (bad' (.inr (.inl y1))) _ _ k1
        · walk_at "rd"
          refine rx_tup ha1 (atI_nat (v := .int (ds.getD i 0)) (by simp [hi])) ?_
          walk_at "rd"
          refine rx_lst (SqL.of g1) (atI_nat (v := .int (bAt hd rg i)) (by rw [List.getElem?_map, up_get lt]; rfl)) ?_
          walk_at "rd"
          refine rd_dec (fun y2 => ?_) (fun y2 => ?_)
          · walk_at "rd"
            exact kw (bad' (.inr (.inr y2))) _ _ k1
          · walk_at "rd"
            refine ⟨_, rfl, rfl, fun j hj => ?_⟩
            by_cases ej : j = i
            · subst ej
              rintro (q | q | q)
              · rw [hp] at q; cases q
              · exact y1 q
              · exact y2 q
            · exact hw j (by omega)
    · rintro σ G ⟨u3, rfl, rfl, hw⟩
      walk_at "rd"
      exact kn (gd_iff.mpr hw) _ k1
abbrev s__law_right : Stmt := top 28
theorem sc__law_right : FnScope ["scale", "one", "other", "digits", "carries", "due", "turn", "found"] ["scale", "one", "other", "digits", "carries"] (defScope s__law_right) := ⟨rfl, rfl, rfl, by decide +kernel, rfl, by decide +kernel, by decide +kernel⟩
theorem ok__law_right {f f1 f2 : Addr} {fd fd1 fd2 : FuncData} (F : Fun K "_law_right" "_law_right" s__law_right f fd) (T : T3 K mg cNP) (c__law_due : Fn P w K mg base CX0 3 "_law_due" f1 fd1 ["scale", "one", "other", "digits", "carries"] spDue9)
    (c_sum_shown : Fn P w K mg base CX0 5 "sum_shown" f2 fd2 ["scale", "one", "other", "digits", "carries"] spShown) : FnOk P w K mg base CX0 6 f fd ["scale", "one", "other", "digits", "carries"] spRight9 := by
  have nd := sc__law_right.nd
  refine F.ok sc__law_right (fun vs H Q E h => ?_) (fun cdv A outer s H vs Q E hr h => ?_)
  · obtain ⟨v, hd, rg, av, a, bv, b, dv, ds, cv, cs, rfl, _⟩ := h
    rfl
  · obtain ⟨v, hd, rg, av, a, bv, b, dv, ds, cv, cs, rfl, hs, ia, ib, id', ic, o1, o2, l1, l2, la, lb, ld, lc, k⟩ := h
    have hu := hr.units
    refine ⟨_, (pss_cons (ps_set (i := 5) nd rfl (by first | exact Or.inl rfl | exact Or.inr rfl) (pf c__law_due (hr.mono (by decide)) (by rfl) (pa_cons (pv 0) (pa_cons (pv 1) (pa_cons (pv 2) (pa_cons (pv 3) (pa_cons (pv 4) pa_nil)))))))
      (pss_cons (ps_for PassesOwn.never (by rfl) (pi_range1 (by rfl) T.range (pa_cons pe_int pa_nil)) (pg_name (i := 6) nd rfl (by first | exact Or.inl rfl | exact Or.inr rfl)) (pss_cons (ps_set (i := 7) nd rfl (by first | exact Or.inl rfl | exact Or.inr rfl) (pf c_sum_shown (hr.mono (by decide)) (by rfl) (pa_cons (pv 0) (pa_cons (pv 1) (pa_cons (pv 2) (pa_cons (pv 3) (pa_cons (pv 4) pa_nil)))))))
      (pss_one (ps_if (PW.pt (pw_or (pt_not (pt_val (pe_callB call_isB (by rfl) T.isinstance boot_isinstance (pa_cons (pv 7) (pa_cons (pe_bltn (v := .ty "bool") (by rfl) T.bool boot_bool rfl) pa_nil))))) (pw_or1 (pt_cmpR (op_neA hu) (pv 7) (pv 5) (nomark _))))) (pss_one (ps_ret pe_bl)) pss_nil))))
      (pss_one (ps_ret pe_bl)))), ?_⟩
    walk_at "rd"
    refine ⟨v, hd, rg, av, a, bv, b, dv, ds, cv, cs, rfl, hs, ia, ib, id', ic, o1, o2, l1, l2, la, lb, ld, lc, fun r H1 hr1 k1 => ?_⟩
    walk_at "rd"
    refine rrng (n := 2) rfl (by decide) (by decide) (fun _ σ G => ∃ u6 u7, σ = [some v, some av, some bv, some dv, some cv, some (.bl r), u6, u7] ∧ Kp [] H G) ⟨_, _, rfl, k1⟩ ?_ ?_
    · rintro i σ G hi ⟨u6, u7, rfl, kG⟩
      walk_at "rd"
      refine ⟨v, hd, rg, av, a, bv, b, dv, ds, cv, cs, rfl, hs.kp kG, ia.kp kG, ib.kp kG, id'.kp kG, ic.kp kG, o1, o2, la, lb, fun r2 G2 hr2 k2 => ?_⟩
      have er : r2 = r := Bool.eq_iff_iff.mpr (hr2.trans hr1.symm)
      subst er
      walk_at "rd"
      refine ris_ty (.bl _) (b := true) (by simp [PySem.W.kitOne]) ?_
      walk_at "rd"
      refine iteF ?_
      walk_at "rd"
      refine .inl ⟨rfl, ?_⟩
      rw [decide_eq_true rfl]
      walk_at "rd"
      refine iteF ?_
      walk_at "rd"
      exact ⟨_, _, rfl, kG.trans k2⟩
    · rintro σ G ⟨u6, u7, rfl, kG⟩
      walk_at "rd"
      exact k G kG
end
end My

set_option Elab.async false
set_option linter.all false
set_option maxRecDepth 100000
set_option maxHeartbeats 4000000
set_option exponentiation.threshold 5000
namespace My
open PySem L2 PyProof.Rows
local macro_rules | `(tactic| walk_at "rd") => `(tactic| repeat (first
  | with_reducible refine rd_seq ?_ | with_reducible refine rd_set ?_ | with_reducible refine rd_ret ?_ | with_reducible refine rd_if ?_ | with_reducible refine rd_next ?_ | with_reducible refine rd_drop ?_
  | with_reducible refine rd_c ?_ | (with_reducible refine' rd_var ?e1 ?_; (case e1 => with_unfolding_all rfl)) | with_reducible refine rd_op ?_ | with_reducible refine rd_un ?_ | with_reducible refine rd_test ?_ | with_reducible refine rd_tb ?_ | with_reducible refine rd_bl ?_
  | with_reducible refine rd_and ?_ | with_reducible refine rd_or ?_ | with_reducible refine rd_not ?_ | with_reducible refine rd_ifx ?_ | with_reducible refine rd_andV ?_ | with_reducible refine rd_orV ?_ | with_reducible refine rd_notV ?_
  | with_reducible refine rd_cons ?_ | with_reducible refine rd_nil ?_ | with_reducible refine rd_cb ?_ | with_reducible refine rd_call ?_ | with_reducible refine rd_tupN ?_ | with_reducible refine rd_lstN ?_ | with_reducible refine rd_sl ?_ | with_reducible refine rd_nopart ?_ | with_reducible refine rd_part ?_ | with_reducible refine rd_ii ?_
  | with_reducible refine rd_bm ?_ | with_reducible refine rd_true ?_ | with_reducible refine rd_gname ?_ | with_reducible refine rd_gcons ?_ | with_reducible refine rd_gnil ?_ | with_reducible refine rd_gsub ?_ | with_reducible refine rd_i0 ?_ | with_reducible refine rd_u ?_ | with_reducible refine ra_int ?_ | with_reducible refine re_int ?_ | with_reducible refine rn_int ?_
  | (with_reducible refine' rx_tup ?e1 ?e2 ?_; (case e1 => assumption); (case e2 => with_unfolding_all rfl)) | (with_reducible refine' rx_lst ?e1 ?e2 ?_; (case e1 => exact SqL.of (by assumption)); (case e2 => with_unfolding_all rfl)) | (with_reducible refine' rlen_t ?e1 ?_; (case e1 => assumption)) | (with_reducible refine' rlen_l ?e1 ?_; (case e1 => exact SqL.of (by assumption))) | with_reducible refine rmax_i ?_ | with_reducible refine rmin_i ?_ | with_reducible refine rint_b ?_ | with_reducible refine rint_i ?_
  | (with_reducible refine' rm_r ?e1 ?e2 ?_; (case e1 => omega); (case e2 => omega)) | (with_reducible refine' rm_l ?e1 ?e2 ?_; (case e1 => omega); (case e2 => omega)) | (with_reducible refine' rd_iC ?e1 ?_; (case e1 => (show (0 : Int) < _; omega)))
  | with_reducible refine rd_for1 ?_ | with_reducible refine rd_forL ?_ | with_reducible refine rd_comp1 ?_ | with_reducible refine rd_compL ?_ | (with_reducible refine' rd_aug ?e1 ?_; (case e1 => with_unfolding_all rfl)) | with_reducible refine rd_asg ?_ | with_reducible refine rd_rev ?_ | with_reducible refine rd_callX ?_ | with_reducible refine rd_chain ?_ | with_reducible refine rd_forE ?_ | with_reducible refine rd_compZ ?_ | with_reducible refine rd_compT ?_ | with_reducible refine rd_revT ?_))
def gdn (hd rg a b ds : List Int) : Nat → Prop
  | 0 => Gd hd rg a
  | 1 => Gd hd rg b
  | _ => Gd hd rg ds
def rwn (a b ds : List Int) : Nat → List Int
  | 0 => a
  | 1 => b
  | _ => ds
theorem rml {H : Hp} {Q : VK} {l : Addr} {x : V} {k : Int} (h1 : H l = some (.lst [x])) (k0 : -10000 ≤ k) (k1 : k ≤ 10000) (h : ∀ p H', H p = none → H' p = some (.lst (List.replicate k.toNat x)) → Kp [] H H' → Q (.ref p) H') : rMulA (.ref l) (.int k) H Q :=
  .inr ⟨l, k, [x], rfl, rfl, h1, by omega, by omega, Nat.le_trans (show [x].length * k.toNat ≤ 10000 by simp; omega) (by decide), fun p n => h p _ n (by rw [rep_one]; exact upd_same) (Kp.new n)⟩
theorem mapz {xs : List Int} {n : Nat} : xs.map V.int ++ List.replicate n (V.int 0) = (xs ++ List.replicate n (0 : Int)).map V.int := by rw [List.map_append, List.map_replicate]
section
variable {P : Program} {w : World} {K : PySem.W.Frag} {mg : Str → Option Value} {base : Heap} {cNP cTG : Addr}
abbrev s__law_due : Stmt := top 27
theorem sc__law_due : FnScope ["scale", "one", "other", "digits", "carries", "longer", "rows", "came", "bases", "k", "total"] ["scale", "one", "other", "digits", "carries"] (defScope s__law_due) := ⟨rfl, rfl, rfl, by decide +kernel, rfl, by decide +kernel, by decide +kernel⟩
theorem ok__law_due {f f1 f2 : Addr} {fd fd1 fd2 : FuncData} (F : Fun K "_law_due" "_law_due" s__law_due f fd) (T : T3 K mg cNP) (c__law_wrong : Fn P w K mg base CX0 2 "_law_wrong" f1 fd1 ["scale", "digits"] spLW)
    (c__law_bases : Fn P w K mg base CX0 1 "_law_bases" f2 fd2 ["scale", "many"] spBases) : FnOk P w K mg base CX0 3 f fd ["scale", "one", "other", "digits", "carries"] spDue9 := by
  have nd := sc__law_due.nd
  refine F.ok sc__law_due (fun vs H Q E h => ?_) (fun cdv A outer s H vs Q E hr h => ?_)
  · obtain ⟨v, hd, rg, av, a, bv, b, dv, ds, cv, cs, rfl, _⟩ := h
    rfl
  · obtain ⟨v, hd, rg, av, a, bv, b, dv, ds, cv, cs, rfl, hs, ia, ib, id', ic, o1, o2, l1, l2, la, lb, ld, lc, k⟩ := h
    have hu := hr.units
    have no : ∀ (H' : Hp), Kp [] H H' → ¬ Shown hd rg a b ds cs → Q (.bl false) H' := fun H' kp ns => k false H' ⟨fun z => (by cases z), fun z => absurd z ns⟩ kp
    refine ⟨_, (pss_cons (ps_if (pt_cmpR (op_neA hu) (pe_comp (by rfl) (bs := ["row"]) (comp_ok rfl (by rfl) rfl (by rfl) (by rfl) (.cons rfl .nil) (.cons (j := 0) rfl (by first | exact .inl rfl | exact .inr rfl) rfl (by first | exact .inl rfl | exact .inr rfl) .nil)) (pi_list (pe_lst (pa_cons (pv 1) (pa_cons (pv 2) (pa_cons (pv 3) pa_nil))))) (fun _ _ _ _ _ => (pg_name (i := 0) (show (["row", "scale"] : List Str).Nodup by decide +kernel) rfl (by first | exact Or.inl rfl | exact Or.inr rfl))) (fun _ _ _ _ _ => (pts_one (pt_cmpR op_notN (pf c__law_wrong (hr.mono (by decide)) (by rfl) (pa_cons (pv 1) (pa_cons (pv 0) pa_nil))) pe_non (nomark _)))) (fun _ _ _ _ _ => (pv 0))) (pe_lst pa_nil) (nomark _)) (pss_one (ps_ret pe_bl)) pss_nil)
      (pss_cons (ps_set (i := 5) nd rfl (by first | exact Or.inl rfl | exact Or.inr rfl) (pe_callB (call_maxA (by rfl)) (by rfl) T.max boot_max (pa_cons (pe_callB call_lenA (by rfl) T.len boot_len (pa_cons (pv 1) pa_nil)) (pa_cons (pe_callB call_lenA (by rfl) T.len boot_len (pa_cons (pv 2) pa_nil)) pa_nil))))
      (pss_cons (ps_setC (i := 6) (by rfl) nd rfl rfl (by rfl) (bs := ["row"]) (comp_ok rfl (by rfl) rfl (by rfl) (by rfl) (.cons rfl .nil) (.cons (j := 5) rfl (by first | exact .inl rfl | exact .inr rfl) rfl (by first | exact .inl rfl | exact .inr rfl) .nil)) (pi_list (pe_lst (pa_cons (pv 1) (pa_cons (pv 2) (pa_cons (pv 3) pa_nil))))) (fun _ _ _ _ _ => (pg_name (i := 0) (show (["row", "longer"] : List Str).Nodup by decide +kernel) rfl (by first | exact Or.inl rfl | exact Or.inr rfl))) (fun _ _ _ _ _ => pts_nil) (fun _ _ _ _ _ => (pe_op (op_addK (K := K) rfl) (pe_callTy (call_lstK (K := K) rfl) (by rfl) T.list boot_list (pa_cons (pv 0) pa_nil)) (pe_op op_mulA (pe_lst (pa_cons pe_int pa_nil)) (pe_op (op_addK (K := K) rfl) (pv 1) pe_int)))))
      (pss_cons (ps_if (pt_cmpR (op_neA hu) (pe_callB call_lenA (by rfl) T.len boot_len (pa_cons (pv 4) pa_nil)) (pv 5) (nomark _)) (pss_one (ps_ret pe_bl)) pss_nil)
      (pss_cons (ps_if (pt_cmpR (op_neA hu) (pe_comp (by rfl) (bs := ["digit"]) (comp_ok rfl (by rfl) rfl (by rfl) (by rfl) .nil .nil) (pi_tup (pe_slice sl_anyB (pv 3) (po_some (pe_op op_addA (pv 5) pe_int)) po_none)) (fun _ _ _ _ _ => (pg_name (i := 0) (show (["digit"] : List Str).Nodup by decide +kernel) rfl (by first | exact Or.inl rfl | exact Or.inr rfl))) (fun _ _ _ _ _ => (pts_one (pt_cmpR op_ne (pv 0) pe_int (nomark _)))) (fun _ _ _ _ _ => (pv 0))) (pe_lst pa_nil) (nomark _)) (pss_one (ps_ret pe_bl)) pss_nil)
      (pss_cons (ps_set (i := 7) nd rfl (by first | exact Or.inl rfl | exact Or.inr rfl) (pe_op op_catB (pe_ints (ns := [0]) (by first | assumption | decide +kernel)) (pv 4)) (hs := sw_binop))
      (pss_cons (ps_set (i := 8) nd rfl (by first | exact Or.inl rfl | exact Or.inr rfl) (pf c__law_bases (hr.mono (by decide)) (by rfl) (pa_cons (pv 0) (pa_cons (pv 5) pa_nil))))
      (pss_cons (ps_for PassesOwn.never (by rfl) (pi_range1 (by rfl) T.range (pa_cons (pv 5) pa_nil)) (pg_name (i := 9) nd rfl (by first | exact Or.inl rfl | exact Or.inr rfl)) (pss_cons (ps_set (i := 10) nd rfl (by first | exact Or.inl rfl | exact Or.inr rfl) (pe_op op_addA (pe_op op_addA (pe_ix ix_any (pe_ix ix_any (pv 6) pe_int (fun _ _ => rfl)) (pv 9) (fun _ _ => rfl)) (pe_ix ix_any (pe_ix ix_any (pv 6) pe_int (fun _ _ => rfl)) (pv 9) (fun _ _ => rfl))) (pe_ix ix_any (pv 7) (pv 9) (fun _ _ => rfl))) (hs := sw_binop))
      (pss_one (ps_if (pt_cmpR (op_neA hu) (pv 10) (pe_op op_addA (pe_ix ix_any (pe_ix ix_any (pv 6) pe_int (fun _ _ => rfl)) (pv 9) (fun _ _ => rfl)) (pe_op op_mulA (pe_ix ix_any (pv 8) (pv 9) (fun _ _ => rfl)) (pe_ix ix_any (pv 4) (pv 9) (fun _ _ => rfl)))) (nomark _)) (pss_one (ps_ret pe_bl)) pss_nil))))
      (pss_one (ps_ret (pe_cmpR (op_eqA hu) (pe_ix ix_any (pv 7) (pv 5) (fun _ _ => rfl)) (pe_ix ix_any (pe_ix ix_any (pv 6) pe_int (fun _ _ => rfl)) (pv 5) (fun _ _ => rfl)) (nomark _)))))))))))), ?_⟩
    walk_at "rd"
    refine lstN (by show 3 ≤ sizeLine; decide) fun l1' H1 n1 g1 kA => ?_
    refine rcol (xs := [av, bv, dv]) (fun i ys G => (∀ y ∈ ys, ∃ r, Ints G y r) ∧ ys.length ≤ i ∧ (ys = [] ↔ ∀ j, j < i → gdn hd rg a b ds j) ∧ Kp [] H1 G) ⟨by simp, by simp, ⟨fun _ j hj => absurd hj (by omega), fun _ => rfl⟩, Kp.refl⟩ (fun i ys G _ z => SqL.of (z.2.2.2.get g1)) (fun i ys G hi z => Nat.le_trans (show ys.length ≤ 3 by have := z.2.1; simp at hi; omega) (by decide)) ?_ ?_
    · rintro i x ys G hx ⟨hy, ly, he, kG⟩
      have kHG := kA.trans kG
      have lt : i < 3 := (List.getElem?_eq_some_iff.mp hx).1
      have row : ∃ r, Ints G x r ∧ r.length ≤ 5000 ∧ (gdn hd rg a b ds i ↔ Gd hd rg r) := by
        have cs' : i = 0 ∨ i = 1 ∨ i = 2 := by omega
        rcases cs' with rfl | rfl | rfl <;> cases hx
        · exact ⟨a, ia.kp kHG, by omega, Iff.rfl⟩
        · exact ⟨b, ib.kp kHG, by omega, Iff.rfl⟩
        · exact ⟨ds, id'.kp kHG, by omega, Iff.rfl⟩
      obtain ⟨r, ir, lr, er⟩ := row
      walk_at "rd"
      refine ⟨v, hd, rg, x, r, rfl, hs.kp kHG, ir, l1, l2, lr, fun hg G2 k2 => ?_, fun ng j G2 k2 => ?_⟩
      · walk_at "rd"
        refine ⟨rfl, ?_⟩
        walk_at "rd"
        refine iteF ?_
        refine nx_of lt ⟨fun y h => (hy y h).imp fun r i => i.kp k2, by omega, ⟨fun z j hj => ?_, fun z => he.mpr fun j hj => z j (by omega)⟩, kG.trans k2⟩
        by_cases ej : j = i
        · subst ej; exact er.mpr hg
        · exact he.mp z j (by omega)
      · walk_at "rd"
        refine ⟨rfl, ?_⟩
        walk_at "rd"
        refine iteT ?_
        walk_at "rd"
        refine nx_of lt ⟨fun y h => ?_, by simp; omega, ⟨fun z => absurd z (by simp), fun z => absurd (er.mp (z i (by omega))) ng⟩, kG.trans k2⟩
        rcases List.mem_append.mp h with q | q
        · exact (hy y q).imp fun r i => i.kp k2
        · rw [List.mem_singleton.mp q]; exact ⟨r, ir.kp k2⟩
    · rintro ys G ⟨hy, ly, he, kG⟩ q G2 nq gq k2
      have he' : ys = [] ↔ Gd hd rg a ∧ Gd hd rg b ∧ Gd hd rg ds := by
        rw [he]
        constructor
        · intro z; exact ⟨z 0 (by show 0 < 3; decide), z 1 (by show 1 < 3; decide), z 2 (by show 2 < 3; decide)⟩
        · rintro ⟨z0, z1, z2⟩ j hj
          have cs' : j = 0 ∨ j = 1 ∨ j = 2 := by have : j < 3 := hj; omega
          rcases cs' with rfl | rfl | rfl
          · exact z0
          · exact z1
          · exact z2
      walk_at "rd"
      refine lstN (by show 0 ≤ sizeLine; decide) fun p2 G3 n3 g3 k3 => ?_
      obtain ⟨es, e1, e2, e3⟩ := dvs_of (K := K) (H := G3) (ys := ys) fun y h => (hy y h).imp fun r i => (i.kp k2).kp k3
      have k03 := ((kA.trans kG).trans k2).trans k3
      refine rnl (es := []) (k3.get gq) g3 e1 (by rw [DVs]) (by omega) ?_
      by_cases hE : ys = []
      · have ee : es = [] := List.length_eq_zero_iff.mp (by rw [e3, hE]; rfl)
        subst ee
        obtain ⟨ga, gb, gd'⟩ := he'.mp hE
        have PL := pls_max ga gb
        rw [show D.eqs [] [] = true by simp [D.eqs]]
        obtain ⟨pa, rfl, ha⟩ := ia.kp k03
        obtain ⟨pb, rfl, hb⟩ := ib.kp k03
        obtain ⟨pd, rfl, hd'⟩ := id'.kp k03
        obtain ⟨pc, rfl, hc⟩ := ic.kp k03
        have s3 := hs.kp k03
        walk_at "rd"
        refine iteF ?_
        walk_at "rd"
        rw [List.length_map, List.length_map]
        have eL : (if (b.length : Int) > (a.length : Int) then (b.length : Int) else (a.length : Int)) = ((max a.length b.length : Nat) : Int) := by split <;> omega
        rw [eL]
        generalize hL : max a.length b.length = L at *
        have lL : L ≤ 1000 := by omega
        refine lstN (by show 3 ≤ sizeLine; decide) fun l2' G4 n4 g4 k4 => ?_
        refine rcol (xs := [.ref pa, .ref pb, .ref pd]) (fun i ys G => ∃ ps : List Addr, ys = ps.map V.ref ∧ ps.length = i ∧ (∀ j p, ps[j]? = some p → G p = some (.lst ((rwn a b ds j ++ List.replicate (L + 1) (0 : Int)).map V.int))) ∧ Kp [] G4 G) ⟨[], rfl, rfl, fun j p h => by simp at h, Kp.refl⟩ (fun i ys G _ z => SqL.of (z.choose_spec.2.2.2.get g4)) (fun i ys G hi z => by obtain ⟨ps, rfl, e, _⟩ := z; rw [List.length_map]; exact Nat.le_trans (show ps.length ≤ 3 by simp at hi; omega) (by decide)) ?_ ?_
        · rintro i x ys G hx ⟨ps, rfl, ep, hps, kG4⟩
          have lt : i < 3 := (List.getElem?_eq_some_iff.mp hx).1
          have row : ∃ pr, x = .ref pr ∧ G pr = some (.tup ((rwn a b ds i).map V.int)) ∧ (rwn a b ds i).length ≤ 2000 := by
            have cs' : i = 0 ∨ i = 1 ∨ i = 2 := by omega
            have kk := k4.trans kG4
            rcases cs' with rfl | rfl | rfl <;> cases hx
            · exact ⟨pa, rfl, kk.get ha, by show a.length ≤ 2000; omega⟩
            · exact ⟨pb, rfl, kk.get hb, by show b.length ≤ 2000; omega⟩
            · exact ⟨pd, rfl, kk.get hd', ld⟩
          obtain ⟨px, rfl, hpx, lpx⟩ := row
          walk_at "rd"
          refine iteT ?_
          walk_at "rd"
          refine rlst_t hpx fun p5 G5 n5 g5 k5 => ?_
          walk_at "rd"
          refine lstN (by show 1 ≤ sizeLine; decide) fun p6 G6 n6 g6 k6 => ?_
          walk_at "rd"
          refine rml g6 (by omega) (by omega) fun p7 G7 n7 g7 k7 => ?_
          rw [show ((L : Int) + 1).toNat = L + 1 by omega] at g7
          refine ra_lst (k7.get (k6.get g5)) g7 (by simp; exact Nat.le_trans (show _ ≤ 4000 by omega) (by decide)) fun p8 G8 n8 g8 k8 => ?_
          rw [mapz] at g8
          have k58 := ((k5.trans k6).trans k7).trans k8
          refine nx_of lt ⟨ps ++ [p8], by simp, by simp [ep], fun j p hj => ?_, kG4.trans k58⟩
          by_cases ej : j < ps.length
          · rw [List.getElem?_append_left ej] at hj
            exact k58.get (hps j p hj)
          · rw [List.getElem?_append_right (by omega)] at hj
            have e0 : j - ps.length = 0 := by
              have := (List.getElem?_eq_some_iff.mp hj).1
              simpa using this
            rw [e0] at hj
            have ep8 : p8 = p := Option.some.inj hj
            rw [← ep8, show j = i by omega]
            exact g8
        · rintro ys G ⟨ps, rfl, ep, hps, kG4⟩ q5 G5 n5 g5 k5
          obtain ⟨p0, p1, p2', rfl⟩ : ∃ p0 p1 p2', ps = [p0, p1, p2'] := by
            match ps, ep with
            | [x, y, z], _ => exact ⟨x, y, z, rfl⟩
          have k45 := (k4.trans kG4).trans k5
          have hc5 := k45.get hc
          have hd5 := k45.get hd'
          have r0 := k5.get (hps 0 p0 rfl)
          have r1 := k5.get (hps 1 p1 rfl)
          have r2 := k5.get (hps 2 p2' rfl)
          have k05 := k03.trans k45
          walk_at "rd"
          rw [List.length_map]
          refine rd_ndec (fun hl => ?_) (fun hl => ?_)
          · walk_at "rd"
            exact no G5 k05 fun sh => hl (by have := sh.2.2.2.1; rw [hL] at this; omega)
          · have hl' : cs.length = L := by omega
            walk_at "rd"
            refine rs_tupB hd5 fun q6 G6 g6 k6 => ?_
            rw [show ((L : Int) + 1) = ((L + 1 : Nat) : Int) by omega, cut_from, ← List.map_drop] at g6
            refine rcot (xs := (ds.drop (L + 1)).map V.int) (fun i ys G => ys = (((ds.drop (L + 1)).take i).filter fun z => decide (z ≠ 0)).map V.int ∧ Kp [] G6 G) ⟨rfl, Kp.refl⟩ (fun i ys G _ z => SqT.of (z.2.get g6)) (fun i ys G hi z => by rw [z.1, List.length_map]; exact Nat.le_trans (List.length_filter_le _ _) (Nat.le_trans (show _ ≤ 2000 by simp; omega) (by decide))) ?_ ?_
            · rintro i x ys G hx ⟨rfl, kG6⟩
              have lt := (List.getElem?_eq_some_iff.mp hx).1
              obtain ⟨z, hz, rfl⟩ := at_int hx
              walk_at "rd"
              refine ⟨rfl, ?_⟩
              walk_at "rd"
              by_cases ez : z = 0
              · subst ez
                rw [decide_eq_true rfl]
                refine iteF ?_
                refine nx_of lt ⟨?_, kG6⟩
                rw [List.take_succ, hz]
                simp
              · rw [show decide (V.int z = V.int 0) = false by simp [ez]]
                refine iteT ?_
                walk_at "rd"
                refine nx_of lt ⟨?_, kG6⟩
                rw [List.take_succ, hz]
                simp [ez]
            · rintro ys G ⟨rfl, kG6⟩ q7 G7 n7 g7 k7
              rw [List.length_map, List.take_of_length_le (Nat.le_refl _)] at g7
              walk_at "rd"
              refine lstN (by show 0 ≤ sizeLine; decide) fun q8 G8 n8 g8 k8 => ?_
              have k58 := ((k6.trans kG6).trans k7).trans k8
              have k08 := k05.trans k58
              refine rnl (ds := ((ds.drop (L + 1)).filter fun z => decide (z ≠ 0)).map D.int) (es := ([] : List Int).map D.int) (k8.get g7) g8 (dvs_ints _) (by rw [List.map_nil, DVs]) (by rw [depths_ints]; decide) ?_
              rw [eqs_ints]
              have hfil : ((ds.drop (L + 1)).filter fun z => decide (z ≠ 0)) = [] ↔ ∀ j, L < j → ds.getD j 0 = 0 := by
                rw [List.filter_eq_nil_iff]
                constructor
                · intro h j hj
                  rw [List.getD_eq_getElem?_getD]
                  cases e : ds[j]? with
                  | none => rfl
                  | some z =>
                    have hm : z ∈ ds.drop (L + 1) := List.mem_of_getElem? (i := j - (L + 1)) (by rw [List.getElem?_drop, show L + 1 + (j - (L + 1)) = j by omega]; exact e)
                    have := h z hm
                    simpa using this
                · intro h z hz
                  obtain ⟨j, hj⟩ := List.mem_iff_getElem?.mp hz
                  rw [List.getElem?_drop] at hj
                  have := h (L + 1 + j) (by omega)
                  rw [List.getD_eq_getElem?_getD, hj] at this
                  simpa using this
              walk_at "rd"
              refine rd_ndec (fun hne => ?_) (fun hnil => ?_)
              · walk_at "rd"
                refine no G8 k08 fun sh => hne (hfil.mpr ?_)
                have z := sh.2.2.2.2.2
                rw [hL] at z
                exact (behind_iff.mp z).2
              · have hbz := hfil.mp hnil
                have hc8 := k58.get hc5
                walk_at "rd"
                intro v9 G9 k9 i9
                obtain ⟨p9, rfl, g9⟩ := i9
                walk_at "rd"
                refine rcb g9 (k9.get hc8) (by simp; exact Nat.le_trans (show _ ≤ 3000 by omega) (by decide)) fun q10 G10 g10 k10 => ?_
                rw [← List.map_append] at g10
                have s10 := (hs.kp k08).kp (k9.trans k10)
                walk_at "rd"
                refine ⟨v, hd, rg, _, rfl, s10, l1, l2, by omega, by omega, fun qb G11 n11 g11 k11 => ?_⟩
                rw [Int.toNat_natCast] at g11
                have ul : (up hd rg L).length = L := by
                  rw [up_len]
                  by_cases hr0 : rg = []
                  · rw [if_pos hr0]
                    by_cases e : L = 0
                    · omega
                    · have hp := PL (L - 1) (by omega)
                      subst hr0
                      unfold hasP at hp
                      simp at hp
                      omega
                  · rw [if_neg hr0]
                have kE : Kp [] G5 G11 := (k58.trans (k9.trans k10)).trans k11
                have f0 := kE.get r0
                have f1' := kE.get r1
                have f2' := kE.get r2
                have fr := kE.get g5
                have fc := kE.get hc5
                have fm := k11.get g10
                have cam : ∀ j, j ≤ L → (([0] ++ cs).map V.int)[j]? = some (.int (ci cs j)) := fun j hj => by
                  cases j with
                  | zero => rfl
                  | succ j =>
                    have lt : j < cs.length := by omega
                    show ((0 :: cs).map V.int)[j + 1]? = some (.int (cs.getD j 0))
                    simp [lt]
                have k0E : Kp [] H G11 := k05.trans kE
                walk_at "rd"
                refine rrng (n := L) (by omega) (by omega) (by omega) (fun i σ G => ∃ u9 u10, σ = [some v, some (.ref pa), some (.ref pb), some (.ref pd), some (.ref pc), some (.int (L : Int)), some (.ref q5), some (.ref q10), some (.ref qb), u9, u10] ∧ G = G11 ∧ ∀ j, j < i → a.getD j 0 + b.getD j 0 + ci cs j = ds.getD j 0 + bAt hd rg j * cs.getD j 0) ⟨_, _, rfl, rfl, fun j hj => absurd hj (by omega)⟩ ?_ ?_
                · rintro i σ G hi ⟨u9, u10, rfl, rfl, hj⟩
                  have e0 : (0 + (i : Int)) = ((i : Nat) : Int) := by omega
                  rw [e0]
                  have hp := PL i hi
                  obtain ⟨b0, b1⟩ := b_okN o1 o2 hp
                  walk_at "rd"
                  refine rx_lst (SqL.of f0) (atI_nat (pad_at (by show i < a.length + (L + 1); omega))) ?_
                  walk_at "rd"
                  refine rx_lst (SqL.of f1') (atI_nat (pad_at (by show i < b.length + (L + 1); omega))) ?_
                  walk_at "rd"
                  refine rx_tup fm (atI_nat (cam i (by omega))) ?_
                  walk_at "rd"
                  refine rx_lst (SqL.of f2') (atI_nat (pad_at (by show i < ds.length + (L + 1); omega))) ?_
                  walk_at "rd"
                  refine rx_lst (SqL.of g11) (atI_nat (v := .int (bAt hd rg i)) (by rw [List.getElem?_map, up_get (by omega)]; rfl)) ?_
                  walk_at "rd"
                  refine rx_tup fc (atI_nat (v := .int (cs.getD i 0)) (by simp [show i < cs.length by omega])) ?_
                  walk_at "rd"
                  refine rd_ndec (fun hne => ?_) (fun heq => ?_)
                  · walk_at "rd"
                    exact no _ k0E fun sh => hne (sh.2.2.2.2.1 i (by rw [hL]; exact hi))
                  · walk_at "rd"
                    refine ⟨_, _, rfl, rfl, fun j hj' => ?_⟩
                    by_cases ej : j = i
                    · subst ej; exact heq
                    · exact hj j (by omega)
                · rintro σ G ⟨u9, u10, rfl, rfl, hj⟩
                  walk_at "rd"
                  refine rx_tup fm (atI_nat (cam L (Nat.le_refl _))) ?_
                  walk_at "rd"
                  refine rx_lst (SqL.of f2') (atI_nat (pad_at (by show L < ds.length + (L + 1); omega))) ?_
                  walk_at "rd"
                  refine k _ _ ?_ k0E
                  rw [decide_eq_true_iff]
                  constructor
                  · intro z
                    refine ⟨ga, gb, gd', by rw [hL]; exact hl', by rw [hL]; exact hj, ?_⟩
                    rw [hL]
                    exact behind_iff.mpr ⟨z, hbz⟩
                  · intro sh
                    have z := sh.2.2.2.2.2
                    rw [hL] at z
                    exact (behind_iff.mp z).1
      · have ee : D.eqs es [] = false := by
          cases es with
          | nil => exact absurd (List.length_eq_zero_iff.mp e3.symm) hE
          | cons x r => simp [D.eqs]
        rw [ee]
        walk_at "rd"
        refine iteT ?_
        walk_at "rd"
        exact no G3 k03 fun sh => hE (he'.mpr ⟨sh.1, sh.2.1, sh.2.2.1⟩)
end
end My

set_option Elab.async false
set_option linter.all false
set_option maxRecDepth 100000
set_option maxHeartbeats 4000000
set_option exponentiation.threshold 5000
namespace My
open PySem L2 PyProof.Rows
local macro_rules | `(tactic| walk_at "rd") => `(tactic| repeat (first
  | with_reducible refine rd_seq ?_ | with_reducible refine rd_set ?_ | with_reducible refine rd_ret ?_ | with_reducible refine rd_if ?_ | with_reducible refine rd_next ?_ | with_reducible refine rd_drop ?_
  | with_reducible refine rd_c ?_ | (with_reducible refine' rd_var ?e1 ?_; (case e1 => with_unfolding_all rfl)) | with_reducible refine rd_op ?_ | with_reducible refine rd_un ?_ | with_reducible refine rd_test ?_ | with_reducible refine rd_tb ?_ | with_reducible refine rd_bl ?_
  | with_reducible refine rd_and ?_ | with_reducible refine rd_or ?_ | with_reducible refine rd_not ?_ | with_reducible refine rd_ifx ?_ | with_reducible refine rd_andV ?_ | with_reducible refine rd_orV ?_ | with_reducible refine rd_notV ?_
  | with_reducible refine rd_cons ?_ | with_reducible refine rd_nil ?_ | with_reducible refine rd_cb ?_ | with_reducible refine rd_call ?_ | with_reducible refine rd_tupN ?_ | with_reducible refine rd_lstN ?_ | with_reducible refine rd_sl ?_ | with_reducible refine rd_nopart ?_ | with_reducible refine rd_part ?_ | with_reducible refine rd_ii ?_
  | with_reducible refine rd_bm ?_ | with_reducible refine rd_true ?_ | with_reducible refine rd_gname ?_ | with_reducible refine rd_gcons ?_ | with_reducible refine rd_gnil ?_ | with_reducible refine rd_gsub ?_ | with_reducible refine rd_i0 ?_ | with_reducible refine rd_u ?_ | with_reducible refine ra_int ?_ | with_reducible refine re_int ?_ | with_reducible refine rn_int ?_
  | (with_reducible refine' rx_tup ?e1 ?e2 ?_; (case e1 => assumption); (case e2 => with_unfolding_all rfl)) | (with_reducible refine' rx_lst ?e1 ?e2 ?_; (case e1 => exact SqL.of (by assumption)); (case e2 => with_unfolding_all rfl)) | (with_reducible refine' rlen_t ?e1 ?_; (case e1 => assumption)) | (with_reducible refine' rlen_l ?e1 ?_; (case e1 => exact SqL.of (by assumption))) | with_reducible refine rmax_i ?_ | with_reducible refine rmin_i ?_ | with_reducible refine rint_b ?_ | with_reducible refine rint_i ?_
  | (with_reducible refine' rm_r ?e1 ?e2 ?_; (case e1 => omega); (case e2 => omega)) | (with_reducible refine' rm_l ?e1 ?e2 ?_; (case e1 => omega); (case e2 => omega)) | (with_reducible refine' rd_iC ?e1 ?_; (case e1 => (show (0 : Int) < _; omega)))
  | with_reducible refine rd_for1 ?_ | with_reducible refine rd_forL ?_ | with_reducible refine rd_comp1 ?_ | with_reducible refine rd_compL ?_ | (with_reducible refine' rd_aug ?e1 ?_; (case e1 => with_unfolding_all rfl)) | with_reducible refine rd_asg ?_ | with_reducible refine rd_rev ?_ | with_reducible refine rd_callX ?_ | with_reducible refine rd_chain ?_ | with_reducible refine rd_forE ?_ | with_reducible refine rd_compZ ?_ | with_reducible refine rd_compT ?_ | with_reducible refine rd_revT ?_))
/-- a list of whole numbers, wherever one looks at it -/
theorem ints_at {ns : List Int} {j : Nat} (h : j < ns.length) : ∃ m, (ns.map V.int)[j]? = some (.int m) := ⟨ns[j], by simp [h]⟩
theorem Dk.put {H H' : Hp} {d c p : Addr} (D : Dk H d c) (h : ∀ b, b ≠ p → H' b = H b) (np : p ∉ [d, c]) : Dk H' d c := by
  obtain ⟨cells, at_, seed, t1, t2, t3⟩ := D
  exact ⟨cells, at_, seed, (h d (fun z => np (by simp [z]))).trans t1, (h c (fun z => np (by simp [z]))).trans t2, t3⟩
def spChanged : Sp := fun vs H Q _ => ∃ d c rv rs, vs = [.ref d, rv] ∧ Dk H d c ∧ Ints H rv rs ∧ rs.length ≤ 1900 ∧ ∀ v ns H', Ints H' v ns → ns.length ≤ rs.length + 1 → Dk H' d c → Kp [d, c] H H' → Q v H'
section
variable {P : Program} {w : World} {K : PySem.W.Frag} {mg : Str → Option Value} {base : Heap} {cNP cTG : Addr}
abbrev s__law_changed : Stmt := top 29
theorem sc__law_changed : FnScope ["deck", "row", "told", "at", "way"] ["deck", "row"] (defScope s__law_changed) := ⟨rfl, rfl, rfl, by decide +kernel, rfl, by decide +kernel, by decide +kernel⟩
theorem ok__law_changed {f f1 : Addr} {fd fd1 : FuncData} (F : Fun K "_law_changed" "_law_changed" s__law_changed f fd) (T : T3 K mg cNP) (c__law_take : Fn P w K mg base CX0 1 "_law_take" f1 fd1 ["deck", "many"] spTake) : FnOk P w K mg base CX0 2 f fd ["deck", "row"] spChanged := by
  have nd := sc__law_changed.nd
  refine F.ok sc__law_changed (fun vs H Q E h => ?_) (fun cdv A outer s H vs Q E hr h => ?_)
  · obtain ⟨d, c, rv, rs, rfl, _⟩ := h
    rfl
  · obtain ⟨d, c, rv, rs, rfl, D, ⟨a, rfl, ha⟩, lr, k⟩ := h
    have hu := hr.units
    refine ⟨_, (pss_cons (ps_set (i := 2) nd rfl (by first | exact Or.inl rfl | exact Or.inr rfl) (pe_callTy call_lstA (by rfl) T.list boot_list (pa_cons (pv 1) pa_nil)))
      (pss_cons (ps_set (i := 3) nd rfl (by first | exact Or.inl rfl | exact Or.inr rfl) (pf c__law_take (hr.mono (by decide)) (by rfl) (pa_cons (pv 0) (pa_cons (pe_op op_addA (pe_callB call_lenA (by rfl) T.len boot_len (pa_cons (pv 2) pa_nil)) pe_int) pa_nil))))
      (pss_cons (ps_set (i := 4) nd rfl (by first | exact Or.inl rfl | exact Or.inr rfl) (pf c__law_take (hr.mono (by decide)) (by rfl) (pa_cons (pv 0) (pa_cons pe_int pa_nil))))
      (pss_cons (ps_if (pt_cmpR (op_eqA hu) (pv 4) pe_int (nomark _)) (pss_one (ps_set (i := 2) nd rfl (by first | exact Or.inl rfl | exact Or.inr rfl) (pe_op op_addA (pv 2) (pe_lst (pa_cons (pe_ix ix_any (pe_lst (pa_cons pe_int (pa_cons pe_int (pa_cons pe_int (pa_cons (pe_un un_neg pe_int) pa_nil))))) (pf c__law_take (hr.mono (by decide)) (by rfl) (pa_cons (pv 0) (pa_cons pe_int pa_nil))) (fun _ _ => rfl)) pa_nil))) (hs := sw_binop))) (pss_one (ps_if (pt_cmpR (op_eqA hu) (pv 4) pe_int (nomark _)) (pss_one (ps_set (i := 2) nd rfl (by first | exact Or.inl rfl | exact Or.inr rfl) (pe_op op_addA (pe_slice sl_any (pv 2) po_none (po_some (pv 3))) (pe_slice sl_any (pv 2) (po_some (pe_op op_addA (pv 3) pe_int)) po_none)) (hs := sw_binop))) (pss_one (ps_if (pt_cmpR op_lt (pv 3) (pe_callB call_lenA (by rfl) T.len boot_len (pa_cons (pv 2) pa_nil)) (nomark _)) (pss_one (ps_asg (pe_ix ix_any (pe_lst (pa_cons (pe_op op_addA (pe_ix ix_any (pv 2) (pv 3) (fun _ _ => rfl)) pe_int) (pa_cons (pe_op op_sub (pe_ix ix_any (pv 2) (pv 3) (fun _ _ => rfl)) pe_int) (pa_cons pe_int (pa_cons (pe_op op_sub pe_int (pe_ix ix_any (pv 2) (pv 3) (fun _ _ => rfl))) (pa_cons (pe_op op_pow pe_int pe_int) pa_nil)))))) (pf c__law_take (hr.mono (by decide)) (by rfl) (pa_cons (pv 0) (pa_cons pe_int pa_nil))) (fun _ _ => rfl)) (pg_sub (pv 2) (pv 3) set_list))) pss_nil)))))
      (pss_one (ps_ret (pe_callTy call_tupA (by rfl) T.tuple boot_tuple (pa_cons (pv 2) pa_nil)))))))), ?_⟩
    walk_at "rd"
    refine rlst_t ha fun p H1 n1 g1 k1 => ?_
    have np : p ∉ [d, c] := D.out n1
    walk_at "rd"
    rw [List.length_map]
    refine ⟨d, c, _, rfl, D.kp k1, by omega, Nat.lt_of_le_of_lt (show _ ≤ 2000 by omega) (by decide +kernel), fun at' H2 a2 b2 D2 k2 => ?_⟩
    have g2 := k2.keep p _ np g1
    walk_at "rd"
    refine ⟨d, c, _, rfl, D2, by decide, by decide +kernel, fun way H3 a3 b3 D3 k3 => ?_⟩
    have g3 := k3.keep p _ np g2
    have k03 : Kp [d, c] H H3 := (k1.up.trans k2).trans k3
    with_reducible refine rd_join (fun σ' H' => ∃ (q : Addr) (ns : List Int) (w3 w4 : Option V), σ' = [some (.ref d), some (.ref a), some (.ref q), w3, w4] ∧ H' q = some (.lst (ns.map V.int)) ∧ ns.length ≤ rs.length + 1 ∧ Dk H' d c ∧ Kp [d, c] H H') (fun R hR => ?_) ?_
    · walk_at "rd"
      refine rd_dec (fun w0 => ?_) (fun w0 => ?_)
      · walk_at "rd"
        refine lstN (by show 4 ≤ sizeLine; decide) fun p4 H4 n4 g4 k4 => ?_
        walk_at "rd"
        refine ⟨d, c, _, rfl, D3.kp k4, by decide, by decide +kernel, fun r5 H5 a5 b5 D5 k5 => ?_⟩
        have g45 := k5.keep p4 _ (D3.out n4) g4
        obtain ⟨m, hm⟩ := ints_at (ns := [0, 1, 2, -1]) (j := r5.toNat) (by simp; omega)
        refine rx_lst (SqL.of g45) (atI_pos a5 hm) ?_
        walk_at "rd"
        refine lstN (by show 1 ≤ sizeLine; decide) fun p6 H6 n6 g6 k6 => ?_
        refine ra_lst (k6.get (k5.keep p _ np (k4.get g3))) g6 (by simp; exact Nat.le_trans (show _ ≤ 2000 by omega) (by decide)) fun p7 H7 n7 g7 k7 => ?_
        exact hR _ _ ⟨p7, rs ++ [m], _, _, rfl, by rw [g7, List.map_append]; rfl, by simp, (D5.kp k6).kp k7, (((k03.trans k4.up).trans k5).trans k6.up).trans k7.up⟩
      · walk_at "rd"
        refine rd_dec (fun w1 => ?_) (fun w1 => ?_)
        · walk_at "rd"
          refine rs_lst (SqL.of g3) fun p4 H4 n4 g4 k4 => ?_
          have g34 := k4.get g3
          walk_at "rd"
          refine rs_lst (SqL.of g34) fun p5 H5 n5 g5 k5 => ?_
          obtain ⟨n, en⟩ : ∃ n : Nat, at' = n := ⟨at'.toNat, by omega⟩
          subst en
          rw [cut_to (by omega), ← List.map_take] at g4
          rw [show ((n : Int) + 1) = ((n + 1 : Nat) : Int) by omega, cut_from, ← List.map_drop] at g5
          refine ra_lst (k5.get g4) g5 (by simp; exact Nat.le_trans (show _ ≤ 4000 by omega) (by decide)) fun p7 H7 n7 g7 k7 => ?_
          exact hR _ _ ⟨p7, rs.take (n : Int).toNat ++ rs.drop (n + 1), _, _, rfl, by rw [g7, List.map_append], by simp; omega, ((D3.kp k4).kp k5).kp k7, ((k03.trans k4.up).trans k5.up).trans k7.up⟩
        · walk_at "rd"
          rw [List.length_map]
          refine rd_dec (fun w2 => ?_) (fun w2 => ?_)
          · obtain ⟨x, hx⟩ := ints_at (ns := rs) (j := at'.toNat) (by omega)
            walk_at "rd"
            refine rx_lst (SqL.of g3) (atI_pos a2 hx) ?_
            walk_at "rd"
            refine rx_lst (SqL.of g3) (atI_pos a2 hx) ?_
            walk_at "rd"
            refine rx_lst (SqL.of g3) (atI_pos a2 hx) ?_
            walk_at "rd"
            refine rd_iC ⟨by decide, by decide, by decide⟩ ?_
            walk_at "rd"
            refine lstN (by show 5 ≤ sizeLine; decide) fun p4 H4 n4 g4 k4 => ?_
            walk_at "rd"
            refine ⟨d, c, _, rfl, D3.kp k4, by decide, by decide +kernel, fun r5 H5 a5 b5 D5 k5 => ?_⟩
            have g45 := k5.keep p4 _ (D3.out n4) g4
            obtain ⟨m, hm⟩ := ints_at (ns := [x + 1, x - 1, 0, 1 - x, 10 ^ (30 : Int).toNat]) (j := r5.toNat) (by simp; omega)
            refine rx_lst (SqL.of g45) (atI_pos a5 hm) ?_
            have g35 := k5.keep p _ np (k4.get g3)
            walk_at "rd"
            refine rd_put g35 (ixN_pos a2 (by rw [List.length_map]; exact w2)) fun H6 e1 kp6 e2 => ?_
            rw [← List.map_set] at e1
            have npH : H p = none := n1
            refine hR _ _ ⟨p, _, _, _, rfl, e1, by rw [List.length_set]; omega, D5.put e2 np, ?_⟩
            have k05 := (k03.trans k4.up).trans k5
            exact ⟨fun b o nb hb => (e2 b (ne_of_none hb npH)).trans (k05.keep b o nb hb), fun b xs hb => kp6.tup b xs (k05.tup b xs hb)⟩
          · walk_at "rd"
            exact hR _ _ ⟨p, rs, _, _, rfl, g3, by omega, D3, k03⟩
    · rintro σ' H' ⟨q, ns, w3, w4, rfl, gq, lq, D', k'⟩
      walk_at "rd"
      refine rtup_l (SqL.of gq) fun t H4 nt gt kt => ?_
      exact k _ ns H4 ⟨t, rfl, gt⟩ lq (D'.kp kt) (k'.trans kt.up)
end
end My

set_option Elab.async false
set_option linter.all false
set_option maxRecDepth 100000
set_option maxHeartbeats 4000000
set_option exponentiation.threshold 5000
namespace My
open PySem L2 PyProof.Rows
local macro_rules | `(tactic| walk_at "rd") => `(tactic| repeat (first
  | with_reducible refine rd_seq ?_ | with_reducible refine rd_set ?_ | with_reducible refine rd_ret ?_ | with_reducible refine rd_if ?_ | with_reducible refine rd_next ?_ | with_reducible refine rd_drop ?_
  | with_reducible refine rd_c ?_ | (with_reducible refine' rd_var ?e1 ?_; (case e1 => with_unfolding_all rfl)) | with_reducible refine rd_op ?_ | with_reducible refine rd_un ?_ | with_reducible refine rd_test ?_ | with_reducible refine rd_tb ?_ | with_reducible refine rd_bl ?_
  | with_reducible refine rd_and ?_ | with_reducible refine rd_or ?_ | with_reducible refine rd_not ?_ | with_reducible refine rd_ifx ?_ | with_reducible refine rd_andV ?_ | with_reducible refine rd_orV ?_ | with_reducible refine rd_notV ?_
  | with_reducible refine rd_cons ?_ | with_reducible refine rd_nil ?_ | with_reducible refine rd_cb ?_ | with_reducible refine rd_call ?_ | with_reducible refine rd_tupN ?_ | with_reducible refine rd_lstN ?_ | with_reducible refine rd_sl ?_ | with_reducible refine rd_nopart ?_ | with_reducible refine rd_part ?_ | with_reducible refine rd_ii ?_
  | with_reducible refine rd_bm ?_ | with_reducible refine rd_true ?_ | with_reducible refine rd_gname ?_ | with_reducible refine rd_gcons ?_ | with_reducible refine rd_gnil ?_ | with_reducible refine rd_gsub ?_ | with_reducible refine rd_i0 ?_ | with_reducible refine rd_u ?_ | with_reducible refine ra_int ?_ | with_reducible refine re_int ?_ | with_reducible refine rn_int ?_
  | (with_reducible refine' rx_tup ?e1 ?e2 ?_; (case e1 => assumption); (case e2 => with_unfolding_all rfl)) | (with_reducible refine' rx_lst ?e1 ?e2 ?_; (case e1 => exact SqL.of (by assumption)); (case e2 => with_unfolding_all rfl)) | (with_reducible refine' rlen_t ?e1 ?_; (case e1 => assumption)) | (with_reducible refine' rlen_l ?e1 ?_; (case e1 => exact SqL.of (by assumption))) | with_reducible refine rmax_i ?_ | with_reducible refine rmin_i ?_ | with_reducible refine rint_b ?_ | with_reducible refine rint_i ?_
  | (with_reducible refine' rm_r ?e1 ?e2 ?_; (case e1 => omega); (case e2 => omega)) | (with_reducible refine' rm_l ?e1 ?e2 ?_; (case e1 => omega); (case e2 => omega)) | (with_reducible refine' rd_iC ?e1 ?_; (case e1 => (show (0 : Int) < _; omega)))
  | with_reducible refine rd_for1 ?_ | with_reducible refine rd_forL ?_ | with_reducible refine rd_comp1 ?_ | with_reducible refine rd_compL ?_ | (with_reducible refine' rd_aug ?e1 ?_; (case e1 => with_unfolding_all rfl)) | with_reducible refine rd_asg ?_ | with_reducible refine rd_rev ?_ | with_reducible refine rd_callX ?_ | with_reducible refine rd_chain ?_ | with_reducible refine rd_forE ?_ | with_reducible refine rd_compZ ?_ | with_reducible refine rd_compT ?_ | with_reducible refine rd_revT ?_))
def spSpoilt : Sp := fun vs H Q _ => ∃ d c v hd rg dv ds, vs = [.ref d, v, dv] ∧ Dk H d c ∧ Scl H v hd rg ∧ hd.length ≤ 12 ∧ rg.length ≤ 12 ∧ Ints H dv ds ∧ ds.length ≤ 90 ∧ ∀ w ns H', Ints H' w ns → ns.length ≤ 100 → Dk H' d c → Kp [d, c] H H' → Q w H'
def spSum9 : Sp := fun vs H Q _ => ∃ v hd rg av a bv b, vs = [v, av, bv] ∧ Scl H v hd rg ∧ Ok hd ∧ Ok rg ∧ hd.length ≤ 12 ∧ rg.length ≤ 12 ∧ Ints H av a ∧ Ints H bv b ∧ Gd hd rg a ∧ Gd hd rg b ∧ a.length ≤ 100 ∧ b.length ≤ 100 ∧
  ∀ p x y xs ys H', H' p = some (.tup [x, y]) → Ints H' x xs → Ints H' y ys → xs.length ≤ 101 → ys.length ≤ 100 → Kp [] H H' → Q (.ref p) H'
section
variable {P : Program} {w : World} {K : PySem.W.Frag} {mg : Str → Option Value} {base : Heap} {cNP cTG : Addr}
abbrev s__law_spoilt : Stmt := top 26
theorem sc__law_spoilt : FnScope ["deck", "scale", "digits", "row", "turn", "at", "base"] ["deck", "scale", "digits"] (defScope s__law_spoilt) := ⟨rfl, rfl, rfl, by decide +kernel, rfl, by decide +kernel, by decide +kernel⟩
theorem ok__law_spoilt {f f1 f2 : Addr} {fd fd1 fd2 : FuncData} (F : Fun K "_law_spoilt" "_law_spoilt" s__law_spoilt f fd) (T : T3 K mg cNP) (c__law_take : Fn P w K mg base CX0 1 "_law_take" f1 fd1 ["deck", "many"] spTake) (c__law_bases : Fn P w K mg base CX0 1 "_law_bases" f2 fd2 ["scale", "many"] spBases) : FnOk P w K mg base CX0 2 f fd ["deck", "scale", "digits"] spSpoilt := by
  have nd := sc__law_spoilt.nd
  refine F.ok sc__law_spoilt (fun vs H Q E h => ?_) (fun cdv A outer s H vs Q E hr h => ?_)
  · obtain ⟨d, c, v, hd, rg, dv, ds, rfl, _⟩ := h
    rfl
  · obtain ⟨d, c, v, hd, rg, dv, ds, rfl, D, hs, l1, l2, ⟨a, rfl, ha⟩, ld, k⟩ := h
    have hu := hr.units
    refine ⟨_, (pss_cons (ps_set (i := 3) nd rfl (by first | exact Or.inl rfl | exact Or.inr rfl) (pe_callTy call_lstA (by rfl) T.list boot_list (pa_cons (pv 2) pa_nil)))
      (pss_cons (ps_for PassesOwn.never (by rfl) (pi_range1 (by rfl) T.range (pa_cons (pf c__law_take (hr.mono (by decide)) (by rfl) (pa_cons (pv 0) (pa_cons pe_int pa_nil))) pa_nil)) (pg_name (i := 4) nd rfl (by first | exact Or.inl rfl | exact Or.inr rfl)) (pss_one (ps_if (pt_cmpR (op_neA hu) (pv 3) (pe_lst pa_nil) (nomark _)) (pss_cons (ps_set (i := 5) nd rfl (by first | exact Or.inl rfl | exact Or.inr rfl) (pf c__law_take (hr.mono (by decide)) (by rfl) (pa_cons (pv 0) (pa_cons (pe_callB call_lenA (by rfl) T.len boot_len (pa_cons (pv 3) pa_nil)) pa_nil))))
      (pss_cons (ps_set (i := 6) nd rfl (by first | exact Or.inl rfl | exact Or.inr rfl) (pe_ix ix_any (pe_op op_addA (pf c__law_bases (hr.mono (by decide)) (by rfl) (pa_cons (pv 1) (pa_cons (pe_op op_addA (pv 5) pe_int) pa_nil))) (pe_op op_mulA (pe_lst (pa_cons pe_int pa_nil)) pe_int)) (pv 5) (fun _ _ => rfl)) (hs := sw_sub))
      (pss_one (ps_asg (pe_ix ix_any (pe_lst (pa_cons (pe_un un_neg pe_int) (pa_cons (pv 6) (pa_cons (pe_op op_addA (pv 6) pe_int) (pa_cons (pe_op op_sub (pv 6) pe_int) (pa_cons (pe_op op_sub (pe_op op_pow pe_int pe_int) pe_int) (pa_cons (pe_op op_sub pe_int (pe_op op_pow pe_int pe_int)) pa_nil))))))) (pf c__law_take (hr.mono (by decide)) (by rfl) (pa_cons (pv 0) (pa_cons pe_int pa_nil))) (fun _ _ => rfl)) (pg_sub (pv 3) (pv 5) set_list))))) pss_nil)))
      (pss_cons (ps_if (PW.pt (pw_and (pt_cmpR (op_eqA hu) (pe_ix ix_any (pv 1) pe_int (fun _ _ => rfl)) (pe_ints (ns := []) (by first | assumption | decide +kernel)) (nomark _)) (pw_and1 (pt_cmpR (op_eqA hu) (pf c__law_take (hr.mono (by decide)) (by rfl) (pa_cons (pv 0) (pa_cons pe_int pa_nil))) pe_int (nomark _))))) (pss_one (ps_set (i := 3) nd rfl (by first | exact Or.inl rfl | exact Or.inr rfl) (pe_op op_addA (pv 3) (pe_op op_mulA (pe_lst (pa_cons pe_int pa_nil)) (pe_op op_sub (pe_op op_addA (pe_callB call_lenA (by rfl) T.len boot_len (pa_cons (pe_ix ix_any (pv 1) pe_int (fun _ _ => rfl)) pa_nil)) pe_int) (pe_callB call_lenA (by rfl) T.len boot_len (pa_cons (pv 3) pa_nil))))) (hs := sw_binop))) pss_nil)
      (pss_one (ps_ret (pe_callTy call_tupA (by rfl) T.tuple boot_tuple (pa_cons (pv 3) pa_nil))))))), ?_⟩
    walk_at "rd"
    refine rlst_t ha fun p H1 n1 g1 k1 => ?_
    have np : p ∉ [d, c] := D.out n1
    walk_at "rd"
    refine ⟨d, c, _, rfl, D.kp k1, by decide, by decide +kernel, fun r H2 a2 b2 D2 k2 => ?_⟩
    refine rrng (n := r.toNat) rfl (by omega) (by omega) (fun _ σ G => ∃ (u4 u5 u6 : Option V) (ns : List Int), σ = [some (.ref d), some v, some (.ref a), some (.ref p), u4, u5, u6] ∧ G p = some (.lst (ns.map V.int)) ∧ ns.length = ds.length ∧ Dk G d c ∧ Kp [d, c] H G) ⟨_, _, _, ds, rfl, k2.keep p _ np g1, rfl, D2, k1.up.trans k2⟩ ?_ ?_
    · rintro i σ G hi ⟨u4, u5, u6, ns, rfl, gp, ln', DG, kG⟩
      walk_at "rd"
      refine lstN (by show 0 ≤ sizeLine; decide) fun q3 G3 n3 g3 k3 => ?_
      refine rnl (ds := ns.map L2.D.int) (es := ([] : List Int).map L2.D.int) (k3.get gp) g3 (dvs_ints _) (by rw [List.map_nil, DVs]) (by rw [depths_ints]; decide) ?_
      rw [eqs_ints]
      walk_at "rd"
      have gp3 := k3.get gp
      have D3 := DG.kp k3
      refine rd_ndec (fun hne => ?_) (fun hnil => ?_)
      · have pos : 0 < ns.length := List.length_pos_iff.mpr hne
        walk_at "rd"
        rw [List.length_map]
        refine ⟨d, c, _, rfl, D3, by omega, Nat.lt_of_le_of_lt (show _ ≤ 2000 by omega) (by decide +kernel), fun at' G4 a4 b4 D4 k4 => ?_⟩
        have gp4 := k4.keep p _ np gp3
        walk_at "rd"
        refine ⟨v, hd, rg, _, rfl, (hs.kp kG).kp (k3.up.trans k4), l1, l2, by omega, by omega, fun q5 G5 n5 g5 k5 => ?_⟩
        walk_at "rd"
        refine lstN (by show 1 ≤ sizeLine; decide) fun q6 G6 n6 g6 k6 => ?_
        walk_at "rd"
        refine rml g6 (by decide) (by decide) fun q7 G7 n7 g7 k7 => ?_
        have ul : (up hd rg (at' + 1).toNat).length ≤ 200 := by rw [up_len]; split <;> omega
        refine ra_lst (k7.get (k6.get g5)) g7 (by simp; exact Nat.le_trans (show _ ≤ 2000 by omega) (by decide)) fun q8 G8 n8 g8 k8 => ?_
        rw [show List.replicate (99 : Int).toNat (V.int 2) = (List.replicate 99 (2 : Int)).map V.int by rw [List.map_replicate]; rfl, ← List.map_append] at g8
        obtain ⟨m, hm⟩ := ints_at (ns := up hd rg (at' + 1).toNat ++ List.replicate 99 (2 : Int)) (j := at'.toNat) (by simp; omega)
        walk_at "rd"
        refine rx_lst (SqL.of g8) (atI_pos a4 hm) ?_
        have k48 := ((k5.trans k6).trans k7).trans k8
        have gp8 := k48.get gp4
        have D8 := D4.kp k48
        walk_at "rd"
        refine rd_iC ⟨by decide, by decide, by decide⟩ ?_
        walk_at "rd"
        refine rd_iC ⟨by decide, by decide, by decide⟩ ?_
        walk_at "rd"
        refine lstN (by show 6 ≤ sizeLine; decide) fun q9 G9 n9 g9 k9 => ?_
        walk_at "rd"
        refine ⟨d, c, _, rfl, D8.kp k9, by decide, by decide +kernel, fun r10 G10 a10 b10 D10 k10 => ?_⟩
        have g910 := k10.keep q9 _ (D8.out n9) g9
        obtain ⟨y, hy⟩ := ints_at (ns := [-1, m, m + 1, m - 1, 10 ^ (60 : Int).toNat - 1, 1 - 10 ^ (60 : Int).toNat]) (j := r10.toNat) (by simp; omega)
        refine rx_lst (SqL.of g910) (atI_pos a10 hy) ?_
        have gp10 := k10.keep p _ np (k9.get gp8)
        walk_at "rd"
        refine rd_put gp10 (ixN_pos a4 (by rw [List.length_map]; exact b4)) fun G11 e1 kp e2 => ?_
        rw [← List.map_set] at e1
        have kk := ((((kG.trans k3.up).trans k4).trans k48.up).trans k9.up).trans k10
        refine ⟨_, _, _, _, rfl, e1, by rw [List.length_set]; exact ln', D10.put e2 np, ?_⟩
        exact ⟨fun b o nb hb => (e2 b (ne_of_none hb n1)).trans (kk.keep b o nb hb), fun b xs hb => kp.tup b xs (kk.tup b xs hb)⟩
      · walk_at "rd"
        exact ⟨_, _, _, ns, rfl, gp3, ln', D3, kG.trans k3.up⟩
    · rintro σ G ⟨u4, u5, u6, ns, rfl, gp, ln', DG, kG⟩
      have sG := hs.kp kG
      with_reducible refine rd_join (fun σ' H' => ∃ (q : Addr) (ms : List Int) (w4 w5 w6 : Option V), σ' = [some (.ref d), some v, some (.ref a), some (.ref q), w4, w5, w6] ∧ H' q = some (.lst (ms.map V.int)) ∧ ms.length ≤ 100 ∧ Dk H' d c ∧ Kp [d, c] H H') (fun R hR => ?_) ?_
      · obtain ⟨ax, x, y, rfl, hax, ⟨bx, rfl, hbx⟩, ⟨ex, rfl, hex⟩⟩ := id sG
        walk_at "rd"
        intro v3 G3 k3 i3
        refine re_tup (Ints.dv (ns := rg) ⟨ex, rfl, k3.get hex⟩) (Ints.dv i3) (by rw [depths_ints]; decide) ?_
        walk_at "rd"
        rw [eqs_ints]
        have gp3 := k3.get gp
        have D3 := DG.kp k3
        refine rd_dec (fun h0 => ?_) (fun h0 => ?_)
        · walk_at "rd"
          refine ⟨d, c, _, rfl, D3, by decide, by decide +kernel, fun r4 G4 a4 b4 D4 k4 => ?_⟩
          have gp4 := k4.keep p _ np gp3
          have hax4 := k4.tup _ _ (k3.get hax)
          have hbx4 := k4.tup _ _ (k3.get hbx)
          walk_at "rd"
          refine rd_dec (fun h1 => ?_) (fun h1 => ?_)
          · walk_at "rd"
            refine lstN (by show 1 ≤ sizeLine; decide) fun q6 G6 n6 g6 k6 => ?_
            have hax6 := k6.get hax4
            have hbx6 := k6.get hbx4
            have gp6 := k6.get gp4
            walk_at "rd"
            rw [List.length_map, List.length_map]
            refine rml g6 (by omega) (by omega) fun q7 G7 n7 g7 k7 => ?_
            refine ra_lst (k7.get gp6) g7 (by simp; exact Nat.le_trans (show _ ≤ 2000 by omega) (by decide)) fun q8 G8 n8 g8 k8 => ?_
            rw [mapz] at g8
            exact hR _ _ ⟨q8, _, _, _, _, rfl, g8, by simp; omega, ((D4.kp k6).kp k7).kp k8, ((((kG.trans k3.up).trans k4).trans k6.up).trans k7.up).trans k8.up⟩
          · walk_at "rd"
            exact hR _ _ ⟨p, ns, _, _, _, rfl, gp4, by omega, D4, (kG.trans k3.up).trans k4⟩
        · refine iteF ?_
          walk_at "rd"
          exact hR _ _ ⟨p, ns, _, _, _, rfl, gp3, by omega, D3, kG.trans k3.up⟩
      · rintro σ' H' ⟨q, ms, w4, w5, w6, rfl, gq, lq, D', k'⟩
        walk_at "rd"
        refine rtup_l (SqL.of gq) fun t H4 nt gt kt => ?_
        exact k _ ms H4 ⟨t, rfl, gt⟩ lq (D'.kp kt) (k'.trans kt.up)
abbrev s__law_sum : Stmt := top 30
theorem sc__law_sum : FnScope ["scale", "one", "other", "longer", "bases", "digits", "carries", "carry", "k", "total"] ["scale", "one", "other"] (defScope s__law_sum) := ⟨rfl, rfl, rfl, by decide +kernel, rfl, by decide +kernel, by decide +kernel⟩
theorem ok__law_sum {f f1 : Addr} {fd fd1 : FuncData} (F : Fun K "_law_sum" "_law_sum" s__law_sum f fd) (T : T3 K mg cNP) (c__law_bases : Fn P w K mg base CX0 1 "_law_bases" f1 fd1 ["scale", "many"] spBases) : FnOk P w K mg base CX0 2 f fd ["scale", "one", "other"] spSum9 := by
  have nd := sc__law_sum.nd
  refine F.ok sc__law_sum (fun vs H Q E h => ?_) (fun cdv A outer s H vs Q E hr h => ?_)
  · obtain ⟨v, hd, rg, av, a, bv, b, rfl, _⟩ := h
    rfl
  · obtain ⟨v, hd, rg, av, a, bv, b, rfl, hs, o1, o2, l1, l2, ⟨pa, rfl, ha⟩, ⟨pb, rfl, hb⟩, ga, gb, la, lb, k⟩ := h
    have hu := hr.units
    have PL := pls_max ga gb
    refine ⟨_, (pss_cons (ps_set (i := 3) nd rfl (by first | exact Or.inl rfl | exact Or.inr rfl) (pe_callB (call_maxA (by rfl)) (by rfl) T.max boot_max (pa_cons (pe_callB call_lenA (by rfl) T.len boot_len (pa_cons (pv 1) pa_nil)) (pa_cons (pe_callB call_lenA (by rfl) T.len boot_len (pa_cons (pv 2) pa_nil)) pa_nil))))
      (pss_cons (ps_set (i := 4) nd rfl (by first | exact Or.inl rfl | exact Or.inr rfl) (pf c__law_bases (hr.mono (by decide)) (by rfl) (pa_cons (pv 0) (pa_cons (pv 3) pa_nil))))
      (pss_cons (ps_set (i := 5) nd rfl (by first | exact Or.inl rfl | exact Or.inr rfl) (pe_lst pa_nil) (hs := sw_list))
      (pss_cons (ps_set (i := 6) nd rfl (by first | exact Or.inl rfl | exact Or.inr rfl) (pe_lst pa_nil) (hs := sw_list))
      (pss_cons (ps_set (i := 7) nd rfl (by first | exact Or.inl rfl | exact Or.inr rfl) pe_int)
      (pss_cons (ps_for PassesOwn.never (by rfl) (pi_range1 (by rfl) T.range (pa_cons (pv 3) pa_nil)) (pg_name (i := 8) nd rfl (by first | exact Or.inl rfl | exact Or.inr rfl)) (pss_cons (ps_set (i := 9) nd rfl (by first | exact Or.inl rfl | exact Or.inr rfl) (pe_op op_addA (pv 7) (pe_callB (call_sumA (by rfl)) (by rfl) T.sum boot_sum (pa_cons (pe_comp (by rfl) (bs := ["row"]) (comp_ok rfl (by rfl) rfl (by rfl) (by rfl) (.cons rfl .nil) (.cons (j := 8) rfl (by first | exact .inl rfl | exact .inr rfl) rfl (by first | exact .inl rfl | exact .inr rfl) .nil)) (pi_list (pe_lst (pa_cons (pv 1) (pa_cons (pv 2) pa_nil)))) (fun _ _ _ _ _ => (pg_name (i := 0) (show (["row", "k"] : List Str).Nodup by decide +kernel) rfl (by first | exact Or.inl rfl | exact Or.inr rfl))) (fun _ _ _ _ _ => (pts_one (pt_cmpR op_lt (pv 1) (pe_callB (call_lenK (K := K) rfl) (by rfl) T.len boot_len (pa_cons (pv 0) pa_nil)) (nomark _)))) (fun _ _ _ _ _ => (pe_ix (ix_anyK (K := K) rfl) (pv 0) (pv 1) (fun _ _ => rfl)))) pa_nil))) (hs := sw_binop))
      (pss_cons (ps_set (i := 7) nd rfl (by first | exact Or.inl rfl | exact Or.inr rfl) (pe_callTy call_intA (by rfl) T.int boot_int (pa_cons (pe_cmpR op_ge (pv 9) (pe_ix ix_any (pv 4) (pv 8) (fun _ _ => rfl)) (nomark _)) pa_nil)))
      (pss_cons (ps_expr (pe_bm PySem.F.plainAttrs_list PySem.F.slot_list_append PySem.F.type_list_append mt_append (pv 5) (pa_cons (pe_op op_sub (pv 9) (pe_op op_mulA (pv 7) (pe_ix ix_any (pv 4) (pv 8) (fun _ _ => rfl)))) pa_nil)))
      (pss_one (ps_expr (pe_bm PySem.F.plainAttrs_list PySem.F.slot_list_append PySem.F.type_list_append mt_append (pv 6) (pa_cons (pv 7) pa_nil))))))))
      (pss_one (ps_ret (pe_tup (pa_cons (pe_callTy call_tupA (by rfl) T.tuple boot_tuple (pa_cons (pe_op op_addA (pv 5) (pe_op op_mulA (pe_lst (pa_cons (pv 7) pa_nil)) (pv 7))) pa_nil)) (pa_cons (pe_callTy call_tupA (by rfl) T.tuple boot_tuple (pa_cons (pv 6) pa_nil)) pa_nil))))))))))), ?_⟩
    walk_at "rd"
    rw [List.length_map, List.length_map]
    have eL : (if (b.length : Int) > (a.length : Int) then (b.length : Int) else (a.length : Int)) = ((max a.length b.length : Nat) : Int) := by split <;> omega
    rw [eL]
    generalize hL : max a.length b.length = L at *
    refine ⟨v, hd, rg, _, rfl, hs, l1, l2, by omega, by omega, fun qb H1 n1 g1 k1 => ?_⟩
    rw [Int.toNat_natCast] at g1
    have ul : (up hd rg L).length = L := by
      rw [up_len]
      by_cases hr0 : rg = []
      · rw [if_pos hr0]
        by_cases e : L = 0
        · omega
        · have hp := PL (L - 1) (by omega)
          subst hr0
          unfold hasP at hp
          simp at hp
          omega
      · rw [if_neg hr0]
    walk_at "rd"
    refine lstN (by show 0 ≤ sizeLine; decide) fun q H2 n2 g2 k2 => ?_
    walk_at "rd"
    refine lstN (by show 0 ≤ sizeLine; decide) fun r H3 n3 g3 k3 => ?_
    have nqr : q ≠ r := fun z => by rw [z, n3] at g2; cases g2
    have nqH : H1 q = none := n2
    have nrH : H1 r = none := k2.non n3
    walk_at "rd"
    refine rrng (n := L) (by omega) (by omega) (by omega) (fun i σ G => ∃ (cr : Int) (u8 u9 : Option V) (xs ys : List Int), σ = [some v, some (.ref pa), some (.ref pb), some (.int (L : Int)), some (.ref qb), some (.ref q), some (.ref r), some (.int cr), u8, u9] ∧ 0 ≤ cr ∧ cr ≤ 1 ∧ G q = some (.lst (xs.map V.int)) ∧ xs.length = i ∧ G r = some (.lst (ys.map V.int)) ∧ ys.length = i ∧ ∀ c o, H1 c = some o → G c = some o) ⟨0, _, _, [], [], rfl, by decide, by decide, k3.get g2, rfl, g3, rfl, fun c o h => k3.get (k2.get h)⟩ ?_ ?_
    · rintro i σ G hi ⟨cr, u8, u9, xs, ys, rfl, c0, c1, gq, lx, gr, ly, kG⟩
      have e0 : (0 + (i : Int)) = ((i : Nat) : Int) := by omega
      rw [e0]
      have kpG : Kp [] H1 G := ⟨fun b o _ h => kG b o h, fun b xs h => kG b _ h⟩
      have hp := PL i hi
      obtain ⟨b0, b1⟩ := b_okN o1 o2 hp
      have haG := kpG.get (k1.get ha)
      have hbG := kpG.get (k1.get hb)
      walk_at "rd"
      refine lstN (by show 2 ≤ sizeLine; decide) fun q4 G4 n4 g4 k4 => ?_
      refine rcol (xs := [.ref pa, .ref pb]) (fun j' zs G5 => ∃ es : List Int, zs = es.map V.int ∧ es.length ≤ j' ∧ Kp [] G4 G5) ⟨[], rfl, by simp, Kp.refl⟩ (fun i ys G _ z => SqL.of (z.choose_spec.2.2.get g4)) (fun i ys G hi z => by obtain ⟨es, rfl, e, _⟩ := z; rw [List.length_map]; exact Nat.le_trans (show es.length ≤ 2 by simp at hi; omega) (by decide)) ?_ ?_
      · rintro j x zs G5 hx ⟨es, rfl, le, k5⟩
        have lt : j < 2 := (List.getElem?_eq_some_iff.mp hx).1
        have row : ∃ px rr, x = .ref px ∧ G5 px = some (.tup ((rr : List Int).map V.int)) := by
          have cs' : j = 0 ∨ j = 1 := by omega
          have kk := k4.trans k5
          rcases cs' with rfl | rfl <;> cases hx
          · exact ⟨pa, a, rfl, kk.get haG⟩
          · exact ⟨pb, b, rfl, kk.get hbG⟩
        obtain ⟨px, rr, rfl, hpx⟩ := row
        walk_at "rd"
        rw [List.length_map]
        refine rd_dec (fun hlt => ?_) (fun hge => ?_)
        · walk_at "rd"
          obtain ⟨z, hz⟩ := ints_at (ns := rr) (j := i) (by omega)
          refine rx_tup hpx (atI_nat hz) ?_
          exact nx_of lt ⟨es ++ [z], by simp, by simp; omega, k5⟩
        · exact nx_of lt ⟨es, rfl, by omega, k5⟩
      · rintro zs G5 ⟨es, rfl, le, k5⟩ q6 G6 n6 g6 k6
        walk_at "rd"
        refine rsum_l (SqL.of g6) ?_
        have k46 := (k4.trans k5).trans k6
        have kG6 : Kp [] H1 G6 := kpG.trans k46
        have gb6 := kG6.get g1
        have gq6 := k46.get gq
        have gr6 := k46.get gr
        walk_at "rd"
        refine rx_lst (SqL.of gb6) (atI_nat (v := .int (bAt hd rg i)) (by rw [List.getElem?_map, up_get (by omega)]; rfl)) ?_
        walk_at "rd"
        obtain ⟨c2, e2, c20, c21⟩ : ∃ c2 : Int, (if decide (cr + es.sum ≥ bAt hd rg i) = true then (1 : Int) else 0) = c2 ∧ 0 ≤ c2 ∧ c2 ≤ 1 := ⟨_, rfl, by split <;> decide, by split <;> decide⟩
        rw [e2]
        refine ⟨.inl ⟨rfl, _, SqL.of gq6⟩, ?_⟩
        walk_at "rd"
        refine rx_lst (SqL.of gb6) (atI_nat (v := .int (bAt hd rg i)) (by rw [List.getElem?_map, up_get (by omega)]; rfl)) ?_
        walk_at "rd"
        refine rd_more gq6 (by rw [List.length_map]; exact Nat.lt_of_lt_of_le (show _ < 1001 by omega) (by decide)) fun G7 f1' kp7 f2' => ?_
        have gr7 := (f2' r (Ne.symm nqr)).trans gr6
        walk_at "rd"
        refine ⟨.inl ⟨rfl, _, SqL.of gr7⟩, ?_⟩
        walk_at "rd"
        refine rd_more gr7 (by rw [List.length_map]; exact Nat.lt_of_lt_of_le (show _ < 1001 by omega) (by decide)) fun G8 f3' kp8 f4' => ?_
        refine ⟨c2, _, _, xs ++ [cr + es.sum - c2 * bAt hd rg i], ys ++ [c2], rfl, c20, c21, ?_, by simp [lx], ?_, by simp [ly], fun c o h => (f4' c (ne_of_none h nrH)).trans ((f2' c (ne_of_none h nqH)).trans (kG6.get h))⟩
        · rw [f4' q nqr, f1', List.map_append]
          rfl
        · rw [f3', List.map_append]
          rfl
    · rintro σ G ⟨cr, u8, u9, xs, ys, rfl, c0, c1, gq, lx, gr, ly, kG⟩
      have kpG : Kp [] H1 G := ⟨fun b o _ h => kG b o h, fun b xs h => kG b _ h⟩
      walk_at "rd"
      refine lstN (by show 1 ≤ sizeLine; decide) fun q4 G4 n4 g4 k4 => ?_
      walk_at "rd"
      refine rml g4 (by omega) (by omega) fun q5 G5 n5 g5 k5 => ?_
      refine ra_lst (k5.get (k4.get gq)) g5 (by simp; exact Nat.le_trans (show _ ≤ 2000 by omega) (by decide)) fun q6 G6 n6 g6 k6 => ?_
      rw [show List.replicate cr.toNat (V.int cr) = (List.replicate cr.toNat cr).map V.int by rw [List.map_replicate], ← List.map_append] at g6
      walk_at "rd"
      refine rtup_l (SqL.of g6) fun t7 G7 n7 g7 k7 => ?_
      have k47 := ((k4.trans k5).trans k6).trans k7
      walk_at "rd"
      refine rtup_l (SqL.of (k47.get gr)) fun t8 G8 n8 g8 k8 => ?_
      walk_at "rd"
      refine tupN (by show 2 ≤ sizeLine; decide) fun t9 G9 n9 g9 k9 => ?_
      exact k t9 _ _ _ _ G9 g9 ⟨t7, rfl, k9.get (k8.get g7)⟩ ⟨t8, rfl, k9.get g8⟩ (by simp; omega) (by omega) ((((k1.trans kpG).trans k47).trans k8).trans k9)
end
end My

set_option Elab.async false
set_option linter.all false
set_option maxRecDepth 100000
set_option maxHeartbeats 4000000
set_option exponentiation.threshold 5000
namespace My
open PySem L2 PyProof.Rows
local macro_rules | `(tactic| walk_at "rd") => `(tactic| repeat (first
  | with_reducible refine rd_seq ?_ | with_reducible refine rd_set ?_ | with_reducible refine rd_ret ?_ | with_reducible refine rd_if ?_ | with_reducible refine rd_next ?_ | with_reducible refine rd_drop ?_
  | with_reducible refine rd_c ?_ | (with_reducible refine' rd_var ?e1 ?_; (case e1 => with_unfolding_all rfl)) | with_reducible refine rd_op ?_ | with_reducible refine rd_un ?_ | with_reducible refine rd_test ?_ | with_reducible refine rd_tb ?_ | with_reducible refine rd_bl ?_
  | with_reducible refine rd_and ?_ | with_reducible refine rd_or ?_ | with_reducible refine rd_not ?_ | with_reducible refine rd_ifx ?_ | with_reducible refine rd_andV ?_ | with_reducible refine rd_orV ?_ | with_reducible refine rd_notV ?_
  | with_reducible refine rd_cons ?_ | with_reducible refine rd_nil ?_ | with_reducible refine rd_cb ?_ | with_reducible refine rd_call ?_ | with_reducible refine rd_tupN ?_ | with_reducible refine rd_lstN ?_ | with_reducible refine rd_sl ?_ | with_reducible refine rd_nopart ?_ | with_reducible refine rd_part ?_ | with_reducible refine rd_ii ?_
  | with_reducible refine rd_bm ?_ | with_reducible refine rd_true ?_ | with_reducible refine rd_gname ?_ | with_reducible refine rd_gcons ?_ | with_reducible refine rd_gnil ?_ | with_reducible refine rd_gsub ?_ | with_reducible refine rd_i0 ?_ | with_reducible refine rd_u ?_ | with_reducible refine ra_int ?_ | with_reducible refine re_int ?_ | with_reducible refine rn_int ?_
  | (with_reducible refine' rx_tup ?e1 ?e2 ?_; (case e1 => assumption); (case e2 => with_unfolding_all rfl)) | (with_reducible refine' rx_lst ?e1 ?e2 ?_; (case e1 => exact SqL.of (by assumption)); (case e2 => with_unfolding_all rfl)) | (with_reducible refine' rlen_t ?e1 ?_; (case e1 => assumption)) | (with_reducible refine' rlen_l ?e1 ?_; (case e1 => exact SqL.of (by assumption))) | with_reducible refine rmax_i ?_ | with_reducible refine rmin_i ?_ | with_reducible refine rint_b ?_ | with_reducible refine rint_i ?_
  | (with_reducible refine' rm_r ?e1 ?e2 ?_; (case e1 => omega); (case e2 => omega)) | (with_reducible refine' rm_l ?e1 ?e2 ?_; (case e1 => omega); (case e2 => omega)) | (with_reducible refine' rd_iC ?e1 ?_; (case e1 => (show (0 : Int) < _; omega)))
  | with_reducible refine rd_for1 ?_ | with_reducible refine rd_forL ?_ | with_reducible refine rd_comp1 ?_ | with_reducible refine rd_compL ?_ | (with_reducible refine' rd_aug ?e1 ?_; (case e1 => with_unfolding_all rfl)) | with_reducible refine rd_asg ?_ | with_reducible refine rd_rev ?_ | with_reducible refine rd_callX ?_ | with_reducible refine rd_chain ?_ | with_reducible refine rd_forE ?_ | with_reducible refine rd_compZ ?_ | with_reducible refine rd_compT ?_ | with_reducible refine rd_revT ?_))
def spForged : Sp := fun vs H Q _ => ∃ d c v hd rg av a bv b, vs = [.ref d, v, av, bv] ∧ Dk H d c ∧ Scl H v hd rg ∧ Ok hd ∧ Ok rg ∧ hd.length ≤ 12 ∧ rg.length ≤ 12 ∧ Ints H av a ∧ Ints H bv b ∧ a.length ≤ 100 ∧ b.length ≤ 100 ∧
  ∀ p x y xs ys H', H' p = some (.tup [x, y]) → Ints H' x xs → Ints H' y ys → xs.length ≤ 101 → ys.length ≤ 100 → Dk H' d c → Kp [d, c] H H' → Q (.ref p) H'
section
variable {P : Program} {w : World} {K : PySem.W.Frag} {mg : Str → Option Value} {base : Heap} {cNP cTG : Addr}
abbrev s__law_forged : Stmt := top 31
theorem sc__law_forged : FnScope ["deck", "scale", "one", "other", "longer", "bases", "at", "digits", "carries", "carry", "k", "total"] ["deck", "scale", "one", "other"] (defScope s__law_forged) := ⟨rfl, rfl, rfl, by decide +kernel, rfl, by decide +kernel, by decide +kernel⟩
theorem ok__law_forged {f f1 f2 : Addr} {fd fd1 fd2 : FuncData} (F : Fun K "_law_forged" "_law_forged" s__law_forged f fd) (T : T3 K mg cNP) (c__law_bases : Fn P w K mg base CX0 1 "_law_bases" f1 fd1 ["scale", "many"] spBases) (c__law_take : Fn P w K mg base CX0 1 "_law_take" f2 fd2 ["deck", "many"] spTake) : FnOk P w K mg base CX0 2 f fd ["deck", "scale", "one", "other"] spForged := by
  have nd := sc__law_forged.nd
  refine F.ok sc__law_forged (fun vs H Q E h => ?_) (fun cdv A outer s H vs Q E hr h => ?_)
  · obtain ⟨d, c, v, hd, rg, av, a, bv, b, rfl, _⟩ := h
    rfl
  · obtain ⟨d, c, v, hd, rg, av, a, bv, b, rfl, D, hs, o1, o2, l1, l2, ⟨pa, rfl, ha⟩, ⟨pb, rfl, hb⟩, la, lb, k⟩ := h
    have hu := hr.units
    refine ⟨_, (pss_cons (ps_set (i := 4) nd rfl (by first | exact Or.inl rfl | exact Or.inr rfl) (pe_callB (call_maxA (by rfl)) (by rfl) T.max boot_max (pa_cons (pe_callB call_lenA (by rfl) T.len boot_len (pa_cons (pv 2) pa_nil)) (pa_cons (pe_callB call_lenA (by rfl) T.len boot_len (pa_cons (pv 3) pa_nil)) pa_nil))))
      (pss_cons (ps_set (i := 5) nd rfl (by first | exact Or.inl rfl | exact Or.inr rfl) (pe_slice sl_any (pe_op op_addA (pf c__law_bases (hr.mono (by decide)) (by rfl) (pa_cons (pv 1) (pa_cons (pv 4) pa_nil))) (pe_op op_mulA (pe_lst (pa_cons pe_int pa_nil)) (pv 4))) po_none (po_some (pv 4))) (hs := sw_sub))
      (pss_cons (ps_set (i := 6) nd rfl (by first | exact Or.inl rfl | exact Or.inr rfl) (pf c__law_take (hr.mono (by decide)) (by rfl) (pa_cons (pv 0) (pa_cons (pe_op op_addA (pv 4) pe_int) pa_nil))))
      (pss_cons (ps_set (i := 7) nd rfl (by first | exact Or.inl rfl | exact Or.inr rfl) (pe_lst pa_nil) (hs := sw_list))
      (pss_cons (ps_set (i := 8) nd rfl (by first | exact Or.inl rfl | exact Or.inr rfl) (pe_lst pa_nil) (hs := sw_list))
      (pss_cons (ps_set (i := 9) nd rfl (by first | exact Or.inl rfl | exact Or.inr rfl) pe_int)
      (pss_cons (ps_for PassesOwn.never (by rfl) (pi_range1 (by rfl) T.range (pa_cons (pv 4) pa_nil)) (pg_name (i := 10) nd rfl (by first | exact Or.inl rfl | exact Or.inr rfl)) (pss_cons (ps_set (i := 11) nd rfl (by first | exact Or.inl rfl | exact Or.inr rfl) (pe_op op_addA (pv 9) (pe_callB (call_sumA (by rfl)) (by rfl) T.sum boot_sum (pa_cons (pe_comp (by rfl) (bs := ["row"]) (comp_ok rfl (by rfl) rfl (by rfl) (by rfl) (.cons rfl .nil) (.cons (j := 10) rfl (by first | exact .inl rfl | exact .inr rfl) rfl (by first | exact .inl rfl | exact .inr rfl) .nil)) (pi_list (pe_lst (pa_cons (pv 2) (pa_cons (pv 3) pa_nil)))) (fun _ _ _ _ _ => (pg_name (i := 0) (show (["row", "k"] : List Str).Nodup by decide +kernel) rfl (by first | exact Or.inl rfl | exact Or.inr rfl))) (fun _ _ _ _ _ => (pts_one (pt_cmpR op_lt (pv 1) (pe_callB (call_lenK (K := K) rfl) (by rfl) T.len boot_len (pa_cons (pv 0) pa_nil)) (nomark _)))) (fun _ _ _ _ _ => (pe_ix (ix_anyK (K := K) rfl) (pv 0) (pv 1) (fun _ _ => rfl)))) pa_nil))) (hs := sw_binop))
      (pss_cons (ps_set (i := 9) nd rfl (by first | exact Or.inl rfl | exact Or.inr rfl) (pe_op op_fdivB (pv 11) (pe_ix ix_any (pv 5) (pv 10) (fun _ _ => rfl))) (hs := sw_binop))
      (pss_cons (ps_if (pt_cmpR (op_eqA hu) (pv 10) (pv 6) (nomark _)) (pss_one (ps_set (i := 9) nd rfl (by first | exact Or.inl rfl | exact Or.inr rfl) (pe_op op_addA (pv 9) (pe_ix ix_any (pe_lst (pa_cons (pe_un un_neg pe_int) (pa_cons pe_int pa_nil))) (pf c__law_take (hr.mono (by decide)) (by rfl) (pa_cons (pv 0) (pa_cons pe_int pa_nil))) (fun _ _ => rfl))) (hs := sw_binop))) pss_nil)
      (pss_cons (ps_expr (pe_bm PySem.F.plainAttrs_list PySem.F.slot_list_append PySem.F.type_list_append mt_append (pv 7) (pa_cons (pe_op op_sub (pv 11) (pe_op op_mulA (pv 9) (pe_ix ix_any (pv 5) (pv 10) (fun _ _ => rfl)))) pa_nil)))
      (pss_one (ps_expr (pe_bm PySem.F.plainAttrs_list PySem.F.slot_list_append PySem.F.type_list_append mt_append (pv 8) (pa_cons (pv 9) pa_nil)))))))))
      (pss_one (ps_ret (pe_tup (pa_cons (pe_callTy call_tupA (by rfl) T.tuple boot_tuple (pa_cons (pe_op op_addA (pv 7) (pe_op op_mulA (pe_lst (pa_cons (pv 9) pa_nil)) (pe_callTy call_intA (by rfl) T.int boot_int (pa_cons (pe_cmpR (op_neA hu) (pv 9) pe_int (nomark _)) pa_nil)))) pa_nil)) (pa_cons (pe_callTy call_tupA (by rfl) T.tuple boot_tuple (pa_cons (pv 8) pa_nil)) pa_nil)))))))))))), ?_⟩
    walk_at "rd"
    rw [List.length_map, List.length_map]
    have eL : (if (b.length : Int) > (a.length : Int) then (b.length : Int) else (a.length : Int)) = ((max a.length b.length : Nat) : Int) := by split <;> omega
    rw [eL]
    generalize hL : max a.length b.length = L at *
    refine ⟨v, hd, rg, _, rfl, hs, l1, l2, by omega, by omega, fun q0 H0 n0 g0 k0 => ?_⟩
    rw [Int.toNat_natCast] at g0
    walk_at "rd"
    refine lstN (by show 1 ≤ sizeLine; decide) fun q1 H1 n1 g1 k1 => ?_
    walk_at "rd"
    refine rml g1 (by omega) (by omega) fun q2 H2 n2 g2 k2 => ?_
    rw [Int.toNat_natCast] at g2
    have ul : (up hd rg L).length ≤ L := by rw [up_len]; split <;> omega
    refine ra_lst (k2.get (k1.get g0)) g2 (by simp; exact Nat.le_trans (show _ ≤ 2000 by omega) (by decide)) fun q3 H3 n3 g3 k3 => ?_
    walk_at "rd"
    refine rs_lst (SqL.of g3) fun qb H4 n4 g4 k4 => ?_
    rw [cut_to (by omega), Int.toNat_natCast, show (up hd rg L).map V.int ++ List.replicate L (V.int 2) = (up hd rg L ++ List.replicate L (2 : Int)).map V.int by rw [List.map_append, List.map_replicate], ← List.map_take] at g4
    obtain ⟨bs, ebs, lbs, obs⟩ : ∃ bs : List Int, bs = (up hd rg L ++ List.replicate L (2 : Int)).take L ∧ bs.length = L ∧ ∀ x ∈ bs, 2 ≤ x ∧ x ≤ 1000000 := by
      refine ⟨_, rfl, by simp, fun x hx => ?_⟩
      rcases List.mem_append.mp (List.mem_of_mem_take hx) with z | z
      · exact up_all o1 o2 x z
      · rw [List.eq_of_mem_replicate z]; decide
    rw [← ebs] at g4
    clear ebs
    have k04 := (((k0.trans k1).trans k2).trans k3).trans k4
    have bat : ∀ i, i < L → ∃ x, (bs.map V.int)[i]? = some (.int x) ∧ 2 ≤ x ∧ x ≤ 1000000 := fun i hi => by
      have lt : i < bs.length := by omega
      exact ⟨bs[i], by simp [lt], obs _ (List.getElem_mem _)⟩
    walk_at "rd"
    refine ⟨d, c, _, rfl, D.kp k04, by omega, Nat.lt_of_le_of_lt (show _ ≤ 2000 by omega) (by decide +kernel), fun at' H5 a5 b5 D5 k5 => ?_⟩
    have nqb : qb ∉ [d, c] := (D.kp (((k0.trans k1).trans k2).trans k3)).out n4
    have gb5 := k5.keep qb _ nqb g4
    have k05 : Kp [d, c] H H5 := k04.up.trans k5
    walk_at "rd"
    refine lstN (by show 0 ≤ sizeLine; decide) fun q H6 n6 g6 k6 => ?_
    have nqd : q ∉ [d, c] := D5.out n6
    walk_at "rd"
    refine lstN (by show 0 ≤ sizeLine; decide) fun r H7 n7 g7 k7 => ?_
    have nrd : r ∉ [d, c] := (D5.kp k6).out n7
    have nqr : q ≠ r := fun z => by rw [z, n7] at g6; cases g6
    have nqH : H5 q = none := n6
    have nrH : H5 r = none := k6.non n7
    walk_at "rd"
    refine rrng (n := L) (by omega) (by omega) (by omega) (fun i σ G => ∃ (cr : Int) (u10 u11 : Option V) (xs ys : List Int), σ = [some (.ref d), some v, some (.ref pa), some (.ref pb), some (.int (L : Int)), some (.ref qb), some (.int at'), some (.ref q), some (.ref r), some (.int cr), u10, u11] ∧ G q = some (.lst (xs.map V.int)) ∧ xs.length = i ∧ G r = some (.lst (ys.map V.int)) ∧ ys.length = i ∧ Dk G d c ∧ Kp [d, c] H5 G) ⟨0, _, _, [], [], rfl, k7.get g6, rfl, g7, rfl, (D5.kp k6).kp k7, k6.up.trans k7.up⟩ ?_ ?_
    · rintro i σ G hi ⟨cr, u10, u11, xs, ys, rfl, gq, lx, gr, ly, DG, kG⟩
      have e0 : (0 + (i : Int)) = ((i : Nat) : Int) := by omega
      rw [e0]
      obtain ⟨bi, hbi, b0, b1⟩ := bat i hi
      have haG := kG.tup _ _ (k05.tup _ _ ha)
      have hbG := kG.tup _ _ (k05.tup _ _ hb)
      walk_at "rd"
      refine lstN (by show 2 ≤ sizeLine; decide) fun q4 G4 n4' g4' k4' => ?_
      refine rcol (xs := [.ref pa, .ref pb]) (fun j' zs G5 => ∃ es : List Int, zs = es.map V.int ∧ es.length ≤ j' ∧ Kp [] G4 G5) ⟨[], rfl, by simp, Kp.refl⟩ (fun i ys G _ z => SqL.of (z.choose_spec.2.2.get g4')) (fun i ys G hi z => by obtain ⟨es, rfl, e, _⟩ := z; rw [List.length_map]; exact Nat.le_trans (show es.length ≤ 2 by simp at hi; omega) (by decide)) ?_ ?_
      · rintro j x zs G5 hx ⟨es, rfl, le, k5'⟩
        have lt : j < 2 := (List.getElem?_eq_some_iff.mp hx).1
        have row : ∃ px rr, x = .ref px ∧ G5 px = some (.tup ((rr : List Int).map V.int)) := by
          have cs' : j = 0 ∨ j = 1 := by omega
          have kk := k4'.trans k5'
          rcases cs' with rfl | rfl <;> cases hx
          · exact ⟨pa, a, rfl, kk.get haG⟩
          · exact ⟨pb, b, rfl, kk.get hbG⟩
        obtain ⟨px, rr, rfl, hpx⟩ := row
        walk_at "rd"
        rw [List.length_map]
        refine rd_dec (fun hlt => ?_) (fun hge => ?_)
        · walk_at "rd"
          obtain ⟨z, hz⟩ := ints_at (ns := rr) (j := i) (by omega)
          refine rx_tup hpx (atI_nat hz) ?_
          exact nx_of lt ⟨es ++ [z], by simp, by simp; omega, k5'⟩
        · exact nx_of lt ⟨es, rfl, by omega, k5'⟩
      · rintro zs G5 ⟨es, rfl, le, k5'⟩ q6 G6 n6' g6' k6'
        walk_at "rd"
        refine rsum_l (SqL.of g6') ?_
        have k46 := (k4'.trans k5').trans k6'
        have gb6 := k46.get (kG.keep qb _ nqb gb5)
        have gq6 := k46.get gq
        have gr6 := k46.get gr
        have D6 := DG.kp k46
        have kG6 := kG.trans k46.up
        walk_at "rd"
        refine rx_lst (SqL.of gb6) (atI_nat hbi) ?_
        refine rd_iC ⟨by omega, Nat.lt_of_le_of_lt (show _ ≤ 1000000 by omega) (by decide +kernel)⟩ ?_
        with_reducible refine rd_join (fun σ' H' => ∃ (c2 : Int), σ' = [some (.ref d), some v, some (.ref pa), some (.ref pb), some (.int (L : Int)), some (.ref qb), some (.int at'), some (.ref q), some (.ref r), some (.int c2), some (.int (i : Int)), some (.int (cr + es.sum))] ∧ H' q = some (.lst (xs.map V.int)) ∧ H' r = some (.lst (ys.map V.int)) ∧ H' qb = some (.lst (bs.map V.int)) ∧ Dk H' d c ∧ Kp [d, c] H5 H') (fun R hR => ?_) ?_
        · walk_at "rd"
          refine rd_dec (fun he => ?_) (fun he => ?_)
          · walk_at "rd"
            refine lstN (by show 2 ≤ sizeLine; decide) fun q8 G8 n8 g8 k8 => ?_
            walk_at "rd"
            refine ⟨d, c, _, rfl, D6.kp k8, by decide, by decide +kernel, fun r9 G9 a9 b9 D9 k9 => ?_⟩
            have g89 := k9.keep q8 _ (D6.out n8) g8
            obtain ⟨m, hm⟩ := ints_at (ns := [-1, 1]) (j := r9.toNat) (by simp; omega)
            refine rx_lst (SqL.of g89) (atI_pos a9 hm) ?_
            walk_at "rd"
            exact hR _ _ ⟨_, rfl, k9.keep q _ nqd (k8.get gq6), k9.keep r _ nrd (k8.get gr6), k9.keep qb _ nqb (k8.get gb6), D9, (kG6.trans k8.up).trans k9⟩
          · walk_at "rd"
            exact hR _ _ ⟨_, rfl, gq6, gr6, gb6, D6, kG6⟩
        · rintro σ' G8 ⟨c2, rfl, hq8, hr8, hb8, D8, k8⟩
          walk_at "rd"
          refine ⟨.inl ⟨rfl, _, SqL.of hq8⟩, ?_⟩
          walk_at "rd"
          refine rx_lst (SqL.of hb8) (atI_nat hbi) ?_
          walk_at "rd"
          refine rd_more hq8 (by rw [List.length_map]; exact Nat.lt_of_lt_of_le (show _ < 1001 by omega) (by decide)) fun G9 f1' kp9 f2' => ?_
          have gr9 := (f2' r (Ne.symm nqr)).trans hr8
          walk_at "rd"
          refine ⟨.inl ⟨rfl, _, SqL.of gr9⟩, ?_⟩
          walk_at "rd"
          refine rd_more gr9 (by rw [List.length_map]; exact Nat.lt_of_lt_of_le (show _ < 1001 by omega) (by decide)) fun G10 f3' kp10 f4' => ?_
          refine ⟨c2, _, _, xs ++ [cr + es.sum - c2 * bi], ys ++ [c2], rfl, ?_, by simp [lx], ?_, by simp [ly], (D8.put f2' nqd).put f4' nrd, ?_⟩
          · rw [f4' q nqr, f1', List.map_append]
            rfl
          · rw [f3', List.map_append]
            rfl
          · exact ⟨fun b o nb hb => (f4' b (ne_of_none hb nrH)).trans ((f2' b (ne_of_none hb nqH)).trans (k8.keep b o nb hb)), fun b xs hb => kp10.tup b xs (kp9.tup b xs (k8.tup b xs hb))⟩
    · rintro σ G ⟨cr, u10, u11, xs, ys, rfl, gq, lx, gr, ly, DG, kG⟩
      walk_at "rd"
      refine lstN (by show 1 ≤ sizeLine; decide) fun q4 G4 n4' g4' k4' => ?_
      walk_at "rd"
      obtain ⟨n, en, hn0, hn⟩ : ∃ n : Int, (if (!decide (cr = 0)) = true then (1 : Int) else 0) = n ∧ 0 ≤ n ∧ n ≤ 1 := ⟨_, rfl, by split <;> decide, by split <;> decide⟩
      rw [en]
      refine rml g4' (by omega) (by omega) fun q5 G5 n5 g5 k5' => ?_
      refine ra_lst (k5'.get (k4'.get gq)) g5 (by simp; exact Nat.le_trans (show _ ≤ 2000 by omega) (by decide)) fun q6 G6 n6' g6' k6' => ?_
      rw [show List.replicate n.toNat (V.int cr) = (List.replicate n.toNat cr).map V.int by rw [List.map_replicate], ← List.map_append] at g6'
      walk_at "rd"
      refine rtup_l (SqL.of g6') fun t7 G7 n7' g7' k7' => ?_
      have k47 := ((k4'.trans k5').trans k6').trans k7'
      walk_at "rd"
      refine rtup_l (SqL.of (k47.get gr)) fun t8 G8 n8 g8 k8 => ?_
      walk_at "rd"
      refine tupN (by show 2 ≤ sizeLine; decide) fun t9 G9 n9 g9 k9 => ?_
      have kk := (k47.trans k8).trans k9
      exact k t9 _ _ _ _ G9 g9 ⟨t7, rfl, k9.get (k8.get g7')⟩ ⟨t8, rfl, k9.get g8⟩ (by simp; omega) (by omega) (DG.kp kk) ((k05.trans kG).trans kk.up)
end
end My

set_option Elab.async false
set_option linter.all false
set_option maxRecDepth 100000
set_option maxHeartbeats 8000000
set_option exponentiation.threshold 5000
namespace My
open PySem L2 PyProof.Rows
local macro_rules | `(tactic| walk_at "rd") => `(tactic| repeat (first
  | with_reducible refine rd_seq ?_ | with_reducible refine rd_set ?_ | with_reducible refine rd_ret ?_ | with_reducible refine rd_if ?_ | with_reducible refine rd_next ?_ | with_reducible refine rd_drop ?_
  | with_reducible refine rd_c ?_ | (with_reducible refine' rd_var ?e1 ?_; (case e1 => with_unfolding_all rfl)) | with_reducible refine rd_op ?_ | with_reducible refine rd_un ?_ | with_reducible refine rd_test ?_ | with_reducible refine rd_tb ?_ | with_reducible refine rd_bl ?_
  | with_reducible refine rd_and ?_ | with_reducible refine rd_or ?_ | with_reducible refine rd_not ?_ | with_reducible refine rd_ifx ?_ | with_reducible refine rd_andV ?_ | with_reducible refine rd_orV ?_ | with_reducible refine rd_notV ?_
  | with_reducible refine rd_cons ?_ | with_reducible refine rd_nil ?_ | with_reducible refine rd_cb ?_ | with_reducible refine rd_call ?_ | with_reducible refine rd_tupN ?_ | with_reducible refine rd_lstN ?_ | with_reducible refine rd_sl ?_ | with_reducible refine rd_nopart ?_ | with_reducible refine rd_part ?_ | with_reducible refine rd_ii ?_
  | with_reducible refine rd_bm ?_ | with_reducible refine rd_true ?_ | with_reducible refine rd_gname ?_ | with_reducible refine rd_gcons ?_ | with_reducible refine rd_gnil ?_ | with_reducible refine rd_gsub ?_ | with_reducible refine rd_i0 ?_ | with_reducible refine rd_u ?_ | with_reducible refine ra_int ?_ | with_reducible refine re_int ?_ | with_reducible refine rn_int ?_
  | (with_reducible refine' rx_tup ?e1 ?e2 ?_; (case e1 => assumption); (case e2 => with_unfolding_all rfl)) | (with_reducible refine' rx_lst ?e1 ?e2 ?_; (case e1 => exact SqL.of (by assumption)); (case e2 => with_unfolding_all rfl)) | (with_reducible refine' rlen_t ?e1 ?_; (case e1 => assumption)) | (with_reducible refine' rlen_l ?e1 ?_; (case e1 => exact SqL.of (by assumption))) | with_reducible refine rmax_i ?_ | with_reducible refine rmin_i ?_ | with_reducible refine rint_b ?_ | with_reducible refine rint_i ?_
  | (with_reducible refine' rm_r ?e1 ?e2 ?_; (case e1 => omega); (case e2 => omega)) | (with_reducible refine' rm_l ?e1 ?e2 ?_; (case e1 => omega); (case e2 => omega)) | (with_reducible refine' rd_iC ?e1 ?_; (case e1 => (show (0 : Int) < _; omega)))
  | with_reducible refine rd_for1 ?_ | with_reducible refine rd_forL ?_ | with_reducible refine rd_comp1 ?_ | with_reducible refine rd_compL ?_ | (with_reducible refine' rd_aug ?e1 ?_; (case e1 => with_unfolding_all rfl)) | with_reducible refine rd_asg ?_ | with_reducible refine rd_rev ?_ | with_reducible refine rd_callX ?_ | with_reducible refine rd_chain ?_ | with_reducible refine rd_forE ?_ | with_reducible refine rd_compZ ?_ | with_reducible refine rd_compT ?_ | with_reducible refine rd_revT ?_))
theorem ints_mk {H : Hp} {a : Addr} {ns : List Int} (h : H a = some (.tup (ns.map V.int))) : Ints H (.ref a) ns := ⟨a, rfl, h⟩
def spLaw (K : PySem.W.Frag) : Sp := fun vs H Q _ => ∃ sc, ∃ ns : List Int, vs = [.ref sc] ∧ SqL K H sc (ns.map V.int) ∧ ns.length ≤ 63 ∧ ∀ H', Q (.bl true) H'
section
variable {P : Program} {w : World} {K : PySem.W.Frag} {mg : Str → Option Value} {base : Heap} {cNP cTG : Addr}
abbrev s_law : Stmt := top 32
theorem sc_law : FnScope ["script", "deck", "turn", "scale", "one", "other", "some", "row", "digits", "carries", "told", "out"] ["script"] (defScope s_law) := ⟨rfl, rfl, rfl, by decide +kernel, rfl, by decide +kernel, by decide +kernel⟩
theorem ok_law {f f1 f2 f3 f4 f5 f6 f7 f8 f9 : Addr} {fd fd1 fd2 fd3 fd4 fd5 fd6 fd7 fd8 fd9 : FuncData} (F : Fun K "law" "law" s_law f fd) (T : T3 K mg cNP)
    (c__law_deck : Fn P w K mg base CX0 1 "_law_deck" f1 fd1 ["script"] (spDeck K)) (c__law_scale : Fn P w K mg base CX0 4 "_law_scale" f2 fd2 ["deck"] spScale)
    (c__law_row : Fn P w K mg base CX0 2 "_law_row" f3 fd3 ["deck", "scale", "most"] spRow) (c__law_take : Fn P w K mg base CX0 1 "_law_take" f4 fd4 ["deck", "many"] spTake)
    (c__law_sum : Fn P w K mg base CX0 2 "_law_sum" f5 fd5 ["scale", "one", "other"] spSum9) (c__law_changed : Fn P w K mg base CX0 2 "_law_changed" f6 fd6 ["deck", "row"] spChanged)
    (c__law_spoilt : Fn P w K mg base CX0 2 "_law_spoilt" f7 fd7 ["deck", "scale", "digits"] spSpoilt) (c__law_forged : Fn P w K mg base CX0 2 "_law_forged" f8 fd8 ["deck", "scale", "one", "other"] spForged) (c__law_right : Fn P w K mg base CX0 6 "_law_right" f9 fd9 ["scale", "one", "other", "digits", "carries"] spRight9) :
    FnOk P w K mg base CX0 7 f fd ["script"] (spLaw K) := by
  have nd := sc_law.nd
  refine F.ok sc_law (fun vs H Q E h => ?_) (fun cdv A outer s H vs Q E hr h => ?_)
  · obtain ⟨sc, ns, rfl, _⟩ := h
    rfl
  · obtain ⟨sc, ns, rfl, h1, h2, k⟩ := h
    have hu := hr.units
    refine ⟨_, (pss_cons (ps_set (i := 1) nd rfl (by first | exact Or.inl rfl | exact Or.inr rfl) (pf c__law_deck (hr.mono (by decide)) (by rfl) (pa_cons (pv 0) pa_nil)))
      (pss_cons (ps_for PassesOwn.never (by rfl) (pi_range1 (by rfl) T.range (pa_cons pe_int pa_nil)) (pg_name (i := 2) nd rfl (by first | exact Or.inl rfl | exact Or.inr rfl)) (pss_cons (ps_set (i := 3) nd rfl (by first | exact Or.inl rfl | exact Or.inr rfl) (pf c__law_scale (hr.mono (by decide)) (by rfl) (pa_cons (pv 1) pa_nil)))
      (pss_cons (ps_set (i := 4) nd rfl (by first | exact Or.inl rfl | exact Or.inr rfl) (pf c__law_row (hr.mono (by decide)) (by rfl) (pa_cons (pv 1) (pa_cons (pv 3) (pa_cons pe_int pa_nil)))))
      (pss_cons (ps_set (i := 5) nd rfl (by first | exact Or.inl rfl | exact Or.inr rfl) (pf c__law_row (hr.mono (by decide)) (by rfl) (pa_cons (pv 1) (pa_cons (pv 3) (pa_cons (pe_ix ix_any (pe_lst (pa_cons pe_int (pa_cons pe_int pa_nil))) (pf c__law_take (hr.mono (by decide)) (by rfl) (pa_cons (pv 1) (pa_cons pe_int pa_nil))) (fun _ _ => rfl)) pa_nil)))))
      (pss_cons (ps_asg (pf c__law_sum (hr.mono (by decide)) (by rfl) (pa_cons (pv 3) (pa_cons (pv 4) (pa_cons (pv 5) pa_nil)))) (pg_tup (by rfl) (pgs_cons (pg_name (i := 8) nd rfl (by first | exact Or.inl rfl | exact Or.inr rfl)) (pgs_cons (pg_name (i := 9) nd rfl (by first | exact Or.inl rfl | exact Or.inr rfl)) pgs_nil))))
      (pss_cons (ps_set (i := 6) nd rfl (by first | exact Or.inl rfl | exact Or.inr rfl) (pe_lst (pa_cons (pv 8) (pa_cons (pe_op op_catB (pv 8) (pe_ints (ns := [0]) (by first | assumption | decide +kernel))) (pa_cons (pe_op op_catB (pv 8) (pe_ints (ns := [0, 0, 0]) (by first | assumption | decide +kernel))) (pa_cons (pf c__law_changed (hr.mono (by decide)) (by rfl) (pa_cons (pv 1) (pa_cons (pv 8) pa_nil))) (pa_cons (pf c__law_changed (hr.mono (by decide)) (by rfl) (pa_cons (pv 1) (pa_cons (pv 8) pa_nil))) pa_nil)))))) (hs := sw_list))
      (pss_cons (ps_expr (pe_bm PySem.F.plainAttrs_list PySem.F.slot_list_append PySem.F.type_list_append mt_append (pv 6) (pa_cons (pe_op op_catB (pe_op op_catB (pv 8) (pe_op op_repT (pe_ints (ns := [0]) (by first | assumption | decide +kernel)) (pf c__law_take (hr.mono (by decide)) (by rfl) (pa_cons (pv 1) (pa_cons pe_int pa_nil))))) (pe_ints (ns := [1]) (by first | assumption | decide +kernel))) pa_nil)))
      (pss_cons (ps_for PassesOwn.never (by rfl) (pi_list (pe_lst (pa_cons (pv 4) (pa_cons (pf c__law_spoilt (hr.mono (by decide)) (by rfl) (pa_cons (pv 1) (pa_cons (pv 3) (pa_cons (pv 4) pa_nil)))) pa_nil)))) (pg_name (i := 7) nd rfl (by first | exact Or.inl rfl | exact Or.inr rfl)) (pss_cons (ps_asg (pf c__law_forged (hr.mono (by decide)) (by rfl) (pa_cons (pv 1) (pa_cons (pv 3) (pa_cons (pv 7) (pa_cons (pv 5) pa_nil))))) (pg_tup (by rfl) (pgs_cons (pg_name (i := 10) nd rfl (by first | exact Or.inl rfl | exact Or.inr rfl)) (pgs_cons (pg_name (i := 11) nd rfl (by first | exact Or.inl rfl | exact Or.inr rfl)) pgs_nil))))
      (pss_one (ps_if (PW.pt (pw_or (pt_not (pt_val (pf c__law_right (hr.mono (by decide)) (by rfl) (pa_cons (pv 3) (pa_cons (pv 7) (pa_cons (pv 5) (pa_cons (pv 10) (pa_cons (pv 11) pa_nil)))))))) (pw_or1 (pt_not (pt_val (pf c__law_right (hr.mono (by decide)) (by rfl) (pa_cons (pv 3) (pa_cons (pv 5) (pa_cons (pv 7) (pa_cons (pv 10) (pa_cons (pv 11) pa_nil))))))))))) (pss_one (ps_ret pe_bl)) pss_nil))))
      (pss_cons (ps_for PassesOwn.never (by rfl) (pi_list (pv 6)) (pg_name (i := 7) nd rfl (by first | exact Or.inl rfl | exact Or.inr rfl)) (pss_one (ps_for PassesOwn.never (by rfl) (pi_list (pe_lst (pa_cons (pv 9) (pa_cons (pf c__law_changed (hr.mono (by decide)) (by rfl) (pa_cons (pv 1) (pa_cons (pv 9) pa_nil))) (pa_cons (pf c__law_changed (hr.mono (by decide)) (by rfl) (pa_cons (pv 1) (pa_cons (pv 9) pa_nil))) pa_nil))))) (pg_name (i := 10) nd rfl (by first | exact Or.inl rfl | exact Or.inr rfl)) (pss_one (ps_if (pt_not (pt_val (pf c__law_right (hr.mono (by decide)) (by rfl) (pa_cons (pv 3) (pa_cons (pv 4) (pa_cons (pv 5) (pa_cons (pv 7) (pa_cons (pv 10) pa_nil)))))))) (pss_one (ps_ret pe_bl)) pss_nil)))))
      (pss_cons (ps_if (pt_not (pt_val (pf c__law_right (hr.mono (by decide)) (by rfl) (pa_cons (pv 3) (pa_cons (pf c__law_spoilt (hr.mono (by decide)) (by rfl) (pa_cons (pv 1) (pa_cons (pv 3) (pa_cons (pv 4) pa_nil)))) (pa_cons (pv 5) (pa_cons (pv 8) (pa_cons (pv 9) pa_nil)))))))) (pss_one (ps_ret pe_bl)) pss_nil)
      (pss_one (ps_if (pt_not (pt_val (pf c__law_right (hr.mono (by decide)) (by rfl) (pa_cons (pv 3) (pa_cons (pv 4) (pa_cons (pf c__law_spoilt (hr.mono (by decide)) (by rfl) (pa_cons (pv 1) (pa_cons (pv 3) (pa_cons (pv 5) pa_nil)))) (pa_cons (pv 8) (pa_cons (pv 9) pa_nil)))))))) (pss_one (ps_ret pe_bl)) pss_nil))))))))))))
      (pss_one (ps_ret (pe_and (pf c__law_right (hr.mono (by decide)) (by rfl) (pa_cons (pe_scl (ns := []) (ms := [2]) (by first | assumption | decide +kernel) (by first | assumption | decide +kernel)) (pa_cons (pe_ints (ns := []) (by first | assumption | decide +kernel)) (pa_cons (pe_ints (ns := []) (by first | assumption | decide +kernel)) (pa_cons (pe_ints (ns := []) (by first | assumption | decide +kernel)) (pa_cons (pe_ints (ns := []) (by first | assumption | decide +kernel)) pa_nil)))))) (pe_one (pf c__law_right (hr.mono (by decide)) (by rfl) (pa_cons (pe_scl (ns := [2]) (ms := []) (by first | assumption | decide +kernel) (by first | assumption | decide +kernel)) (pa_cons (pe_ints (ns := [1]) (by first | assumption | decide +kernel)) (pa_cons (pe_ints (ns := [1]) (by first | assumption | decide +kernel)) (pa_cons (pe_ints (ns := [0, 1]) (by first | assumption | decide +kernel)) (pa_cons (pe_ints (ns := [1]) (by first | assumption | decide +kernel)) pa_nil)))))))))))), ?_⟩
    walk_at "rd"
    refine ⟨sc, ns, rfl, h1, h2, fun d c H1 D1 nd1 nc1 k1 => ?_⟩
    walk_at "rd"
    refine rrng (n := 5) rfl (by decide) (by decide) (fun i σ H2 => ∃ u2 u3 u4 u5 u6 u7 u8 u9 u10 u11, σ = [some (.ref sc), some (.ref d), u2, u3, u4, u5, u6, u7, u8, u9, u10, u11] ∧ Dk H2 d c) ⟨_, _, _, _, _, _, _, _, _, _, rfl, D1⟩ ?_ ?_
    · rintro i σ H2 hi ⟨u2, u3, u4, u5, u6, u7, u8, u9, u10, u11, rfl, D2⟩
      walk_at "rd"
      refine ⟨d, c, rfl, D2, fun v hd rg H3 s3 o1 o2 l1 l2 D3 k3 => ?_⟩
      walk_at "rd"
      refine ⟨d, c, v, hd, rg, _, rfl, D3, s3, o1, o2, l1, l2, by decide, by decide, fun av a H4 i4 ga la D4 k4 => ?_⟩
      have s4 := s3.kp k4
      walk_at "rd"
      refine lstN (by show 2 ≤ sizeLine; decide) fun q5 H5 n5 g5 k5 => ?_
      walk_at "rd"
      refine ⟨d, c, _, rfl, D4.kp k5, by decide, by decide +kernel, fun r6 H6 a6 b6 D6 k6 => ?_⟩
      have g6 := k6.keep q5 _ (D4.out n5) g5
      have key : ∃ m : Int, atI [V.int 20, V.int 80] r6 = some (.int m) ∧ 20 ≤ m ∧ m ≤ 80 := by
        have cs : r6 = 0 ∨ r6 = 1 := by omega
        rcases cs with rfl | rfl
        · exact ⟨20, rfl, by omega, by omega⟩
        · exact ⟨80, rfl, by omega, by omega⟩
      obtain ⟨m6, hm6, m60, m61⟩ := key
      refine rx_lst (SqL.of g6) hm6 ?_
      have s6 := (s4.kp k5).kp k6
      walk_at "rd"
      refine ⟨d, c, v, hd, rg, _, rfl, D6, s6, o1, o2, l1, l2, by omega, by omega, fun bv b H7 i7 gb lb D7 k7 => ?_⟩
      have s7 := s6.kp k7
      have i47 := ((i4.kp k5).kp k6).kp k7
      walk_at "rd"
      refine ⟨v, hd, rg, av, a, bv, b, rfl, s7, o1, o2, l1, l2, i47, i7, ga, gb, by omega, by omega, fun p8 x y xs ys H8 gp ix iy lx ly k8 => ?_⟩
      refine rd_gtup gp rfl ?_
      obtain ⟨px, rfl, hpx⟩ := id ix
      have D8 := D7.kp k8
      walk_at "rd"
      intro v9 H9 k9 i9
      obtain ⟨p9, rfl, g9⟩ := i9
      have hx9 := k9.get hpx
      walk_at "rd"
      refine rcb hx9 g9 (by simp; exact Nat.le_trans (show _ ≤ 2000 by omega) (by decide)) fun t1 H10 e10 k10 => ?_
      rw [← List.map_append] at e10
      have hx10 := k10.get hx9
      walk_at "rd"
      intro v11 H11 k11 i11
      obtain ⟨p11, rfl, g11⟩ := i11
      have hx11 := k11.get hx10
      walk_at "rd"
      refine rcb hx11 g11 (by simp; exact Nat.le_trans (show _ ≤ 2000 by omega) (by decide)) fun t2 H12 e12 k12 => ?_
      rw [← List.map_append] at e12
      have hx12 := k12.get hx11
      have k8to12 : Kp [] H8 H12 := ((k9.trans k10).trans k11).trans k12
      walk_at "rd"
      refine ⟨d, c, _, xs, rfl, D8.kp k8to12, ⟨px, rfl, hx12⟩, by omega, fun v13 n13 H13 i13 ln13 D13 k13 => ?_⟩
      have hx13 := k13.tup _ _ hx12
      walk_at "rd"
      refine ⟨d, c, _, xs, rfl, D13, ⟨px, rfl, hx13⟩, by omega, fun v14 n14 H14 i14 ln14 D14 k14 => ?_⟩
      have hx14 := k14.tup _ _ hx13
      walk_at "rd"
      refine lstN (by show 5 ≤ sizeLine; decide) fun ls H15 n15 g15 k15 => ?_
      have nls : ls ∉ [d, c] := D14.out n15
      have hx15 := k15.get hx14
      walk_at "rd"
      refine ⟨.inl ⟨rfl, _, SqL.of g15⟩, ?_⟩
      walk_at "rd"
      intro v16 H16 k16 i16
      obtain ⟨p16, rfl, g16⟩ := i16
      have hx16 := k16.get hx15
      walk_at "rd"
      refine ⟨d, c, _, rfl, (D14.kp k15).kp k16, by decide, by decide +kernel, fun r17 H17 a17 b17 D17 k17 => ?_⟩
      refine rrt (k17.tup _ _ g16) (by omega) (by omega) fun q18 H18 g18 k18 => ?_
      have hx18 := k18.get (k17.tup _ _ hx16)
      refine rcb hx18 g18 (by simp; exact Nat.le_trans (show _ ≤ 2000 by omega) (by decide)) fun q19 H19 g19 k19 => ?_
      walk_at "rd"
      intro v20 H20 k20 i20
      obtain ⟨p20, rfl, g20⟩ := i20
      refine rcb (k20.get g19) g20 (by simp; exact Nat.le_trans (show _ ≤ 2000 by omega) (by decide)) fun q21 H21 g21 k21 => ?_
      rw [mapz, ← List.map_append] at g21
      have k15to21 : Kp [d, c] H15 H21 := (((k16.up.trans k17).trans k18.up).trans k19.up).trans (k20.trans k21).up
      have gls := k15to21.keep ls _ nls g15
      walk_at "rd"
      refine rd_more gls (by show 5 < sizeLine; decide) fun H22 f1' kp22 f2' => ?_
      have kA : Kp [d, c] H7 H21 := ((((k8.trans k8to12).up.trans k13).trans k14).trans k15.up).trans k15to21
      have kB : Kp [d, c] H12 H21 := ((k13.trans k14).trans k15.up).trans k15to21
      have D22 : Dk H22 d c := ((((D17.kp k18).kp k19).kp k20).kp k21).put f2' nls
      have s22 := (s7.kp kA).kp kp22
      have ia22 := (i47.kp kA).kp kp22
      have ib22 := (i7.kp kA).kp kp22
      have iy22 := ((iy.kp k8to12).kp kB).kp kp22
      have ix22 : Ints H22 (.ref px) xs := ((ix.kp k8to12).kp kB).kp kp22
      have items : ∀ z ∈ [V.ref px, V.ref t1, V.ref t2, v13, v14] ++ [V.ref q21], ∃ r, Ints H22 z r ∧ r.length ≤ 2000 := fun z hz => by
        simp only [List.cons_append, List.nil_append, List.mem_cons, List.not_mem_nil, or_false] at hz
        rcases hz with rfl | rfl | rfl | rfl | rfl | rfl
        · exact ⟨xs, ix22, by omega⟩
        · exact ⟨_, (((ints_mk e10).kp (k11.trans k12)).kp kB).kp kp22, by simp; omega⟩
        · exact ⟨_, ((ints_mk e12).kp kB).kp kp22, by simp; omega⟩
        · exact ⟨_, (i13.kp ((k14.trans k15.up).trans k15to21)).kp kp22, by omega⟩
        · exact ⟨_, (i14.kp (k15.up.trans k15to21)).kp kp22, by omega⟩
        · exact ⟨_, (ints_mk g21).kp kp22, by simp; omega⟩
      generalize hit : [V.ref px, V.ref t1, V.ref t2, v13, v14] ++ [V.ref q21] = its at items f1'
      clear hit
      walk_at "rd"
      refine ⟨d, c, v, hd, rg, av, a, rfl, D22, s22, l1, l2, ia22, by omega, fun w23 n23 H23 i23 ln23 D23 k23 => ?_⟩
      walk_at "rd"
      refine lstN (by show 2 ≤ sizeLine; decide) fun la2 H24 n24 g24 k24 => ?_
      have nla2 : la2 ∉ [d, c] := D23.out n24
      have k22to24 : Kp [d, c] H22 H24 := k23.trans k24.up
      refine rlol (xs := [av, w23]) (fun _ σ G => ∃ u2 u7 u10 u11, σ = [some (.ref sc), some (.ref d), u2, some v, some av, some bv, some (.ref ls), u7, some (.ref px), some y, u10, u11] ∧ Dk G d c ∧ Kp [d, c] H24 G) ⟨_, _, _, _, rfl, D23.kp k24, Kp.refl⟩ ?_ ?_ ?_
      · rintro j σ G hj ⟨u2, u7, u10, u11, rfl, DG, kG⟩
        exact SqL.of (kG.keep la2 _ nla2 g24)
      · rintro j x σ G hx ⟨u2, u7, u10, u11, rfl, DG, kG⟩
        have kk := k22to24.trans kG
        have row : ∃ r, Ints G x r ∧ r.length ≤ 100 := by
          have lt : j < 2 := (List.getElem?_eq_some_iff.mp hx).1
          have cs : j = 0 ∨ j = 1 := by omega
          rcases cs with rfl | rfl <;> cases hx
          · exact ⟨a, ia22.kp kk, by omega⟩
          · exact ⟨n23, (i23.kp k24).kp kG, ln23⟩
        obtain ⟨r, ir, lr⟩ := row
        walk_at "rd"
        refine ⟨d, c, v, hd, rg, x, r, bv, b, rfl, DG, s22.kp kk, o1, o2, l1, l2, ir, ib22.kp kk, lr, by omega, fun p x' y' xs' ys' G2 gp2 ix2 iy2 lx2 ly2 DG2 kG2 => ?_⟩
        refine rd_gtup gp2 rfl ?_
        have s2 := (s22.kp kk).kp kG2
        have ir2 := ir.kp kG2
        have ib2 := (ib22.kp kk).kp kG2
        walk_at "rd"
        refine ⟨v, hd, rg, x, r, bv, b, x', xs', y', ys', rfl, s2, ir2, ib2, ix2, iy2, o1, o2, l1, l2, by omega, by omega, by omega, by omega, fun G3 kG3 => ?_⟩
        walk_at "rd"
        refine iteF ?_
        walk_at "rd"
        refine ⟨v, hd, rg, bv, b, x, r, x', xs', y', ys', rfl, s2.kp kG3, ib2.kp kG3, ir2.kp kG3, ix2.kp kG3, iy2.kp kG3, o1, o2, l1, l2, by omega, by omega, by omega, by omega, fun G4 kG4 => ?_⟩
        walk_at "rd"
        refine iteF ?_
        walk_at "rd"
        exact ⟨_, _, _, _, rfl, (DG2.kp kG3).kp kG4, ((kG.trans kG2).trans kG3.up).trans kG4.up⟩
      · rintro σ G ⟨u2, u7, u10, u11, rfl, DG, kG⟩
        have kk := k22to24.trans kG
        have gls2 := kk.keep ls _ nls f1'
        walk_at "rd"
        refine rlol (xs := its) (fun _ σ G2 => ∃ u2 u7 u10 u11, σ = [some (.ref sc), some (.ref d), u2, some v, some av, some bv, some (.ref ls), u7, some (.ref px), some y, u10, u11] ∧ Dk G2 d c ∧ Kp [d, c] H22 G2) ⟨_, _, _, _, rfl, DG, kk⟩ ?_ ?_ ?_
        · rintro j σ G2 hj ⟨u2, u7, u10, u11, rfl, DG2, kG2⟩
          exact SqL.of (kG2.keep ls _ nls f1')
        · rintro j x σ G2 hx ⟨u2, u7, u10, u11, rfl, DG2, kG2⟩
          obtain ⟨r, ir, lr⟩ := items x (List.mem_of_getElem? hx)
          walk_at "rd"
          refine ⟨d, c, y, ys, rfl, DG2, iy22.kp kG2, by omega, fun v3 m3 G3 i3 lm3 DG3 kG3 => ?_⟩
          walk_at "rd"
          refine ⟨d, c, y, ys, rfl, DG3, (iy22.kp kG2).kp kG3, by omega, fun v4 m4 G4 i4' lm4 DG4 kG4 => ?_⟩
          walk_at "rd"
          refine lstN (by show 3 ≤ sizeLine; decide) fun la5 G5 n5' g5' kG5 => ?_
          have k2to5 : Kp [d, c] H22 G5 := ((kG2.trans kG3).trans kG4).trans kG5.up
          refine rlol (xs := [y, v3, v4]) (fun _ σ G6 => ∃ u2 u10 u11, σ = [some (.ref sc), some (.ref d), u2, some v, some av, some bv, some (.ref ls), some x, some (.ref px), some y, u10, u11] ∧ Kp [] G5 G6) ⟨_, _, _, rfl, Kp.refl⟩ ?_ ?_ ?_
          · rintro j' σ G6 hj' ⟨u2, u10, u11, rfl, kG6⟩
            exact SqL.of (kG6.get g5')
          · rintro j' z σ G6 hz ⟨u2, u10, u11, rfl, kG6⟩
            have told : ∃ m, Ints G6 z m ∧ m.length ≤ 2000 := by
              have lt : j' < 3 := (List.getElem?_eq_some_iff.mp hz).1
              have cs : j' = 0 ∨ j' = 1 ∨ j' = 2 := by omega
              rcases cs with rfl | rfl | rfl <;> cases hz
              · exact ⟨ys, (iy22.kp k2to5).kp kG6, by omega⟩
              · exact ⟨m3, ((i3.kp kG4).kp kG5).kp kG6, by omega⟩
              · exact ⟨m4, (i4'.kp kG5).kp kG6, by omega⟩
            obtain ⟨m, im, lm⟩ := told
            walk_at "rd"
            refine ⟨v, hd, rg, av, a, bv, b, x, r, z, m, rfl, (s22.kp k2to5).kp kG6, (ia22.kp k2to5).kp kG6, (ib22.kp k2to5).kp kG6, (ir.kp k2to5).kp kG6, im, o1, o2, l1, l2, by omega, by omega, by omega, by omega, fun G7 kG7 => ?_⟩
            walk_at "rd"
            refine iteF ?_
            walk_at "rd"
            exact ⟨_, _, _, rfl, kG6.trans kG7⟩
          · rintro σ G6 ⟨u2, u10, u11, rfl, kG6⟩
            exact ⟨_, _, _, _, rfl, (DG4.kp kG5).kp kG6, k2to5.trans kG6.up⟩
        · rintro σ G2 ⟨u2, u7, u10, u11, rfl, DG2, kG2⟩
          walk_at "rd"
          refine ⟨d, c, v, hd, rg, av, a, rfl, DG2, s22.kp kG2, l1, l2, ia22.kp kG2, by omega, fun w3 m3 G3 i3 lm3 DG3 kG3 => ?_⟩
          have k23' := kG2.trans kG3
          walk_at "rd"
          refine ⟨v, hd, rg, w3, m3, bv, b, _, xs, y, ys, rfl, s22.kp k23', i3, ib22.kp k23', ix22.kp k23', iy22.kp k23', o1, o2, l1, l2, by omega, by omega, by omega, by omega, fun G4 kG4 => ?_⟩
          walk_at "rd"
          refine iteF ?_
          have k24' := k23'.trans kG4.up
          walk_at "rd"
          refine ⟨d, c, v, hd, rg, bv, b, rfl, DG3.kp kG4, s22.kp k24', l1, l2, ib22.kp k24', by omega, fun w5 m5 G5 i5 lm5 DG5 kG5 => ?_⟩
          have k25' := k24'.trans kG5
          walk_at "rd"
          refine ⟨v, hd, rg, av, a, w5, m5, _, xs, y, ys, rfl, s22.kp k25', ia22.kp k25', i5, ix22.kp k25', iy22.kp k25', o1, o2, l1, l2, by omega, by omega, by omega, by omega, fun G6 kG6 => ?_⟩
          walk_at "rd"
          refine iteF ?_
          walk_at "rd"
          exact ⟨_, _, _, _, _, _, _, _, _, _, rfl, DG5.kp kG6⟩
    · rintro σ H2 ⟨u2, u3, u4, u5, u6, u7, u8, u9, u10, u11, rfl, D2⟩
      walk_at "rd"
      intro v3 H3 k3 s3
      walk_at "rd"
      intro v4 H4 k4 i4
      walk_at "rd"
      intro v5 H5 k5 i5
      walk_at "rd"
      intro v6 H6 k6 i6
      walk_at "rd"
      intro v7 H7 k7 i7
      walk_at "rd"
      refine ⟨v3, [], [2], v4, [], v5, [], v6, [], v7, [], rfl, (((s3.kp k4).kp k5).kp k6).kp k7, ((i4.kp k5).kp k6).kp k7, (i5.kp k6).kp k7, i6.kp k7, i7, (by intro b hb; cases hb), (by intro b hb; simp at hb; omega), by simp, by simp, by simp, by simp, by simp, by simp, fun H8 k8 => ?_⟩
      walk_at "rd"
      refine iteT ?_
      walk_at "rd"
      intro v9 H9 k9 s9
      walk_at "rd"
      intro v10 H10 k10 i10
      walk_at "rd"
      intro v11 H11 k11 i11
      walk_at "rd"
      intro v12 H12 k12 i12
      walk_at "rd"
      intro v13 H13 k13 i13
      walk_at "rd"
      exact ⟨v9, [2], [], v10, [1], v11, [1], v12, [0, 1], v13, [1], rfl, (((s9.kp k10).kp k11).kp k12).kp k13, ((i10.kp k11).kp k12).kp k13, (i11.kp k12).kp k13, i12.kp k13, i13, (by intro b hb; simp at hb; omega), (by intro b hb; cases hb), by simp, by simp, by simp, by simp, by simp, by simp, fun H14 k14 => k H14⟩
end
end My

set_option maxRecDepth 100000
set_option maxHeartbeats 0
open PySem PySem.W PyProof.Rows
open_top hd for PySem.Challenge.rw_mixedscales_k09_carries_looked_at

set_option Elab.async false
set_option linter.all false
set_option maxRecDepth 100000
set_option maxHeartbeats 8000000
namespace My
open PySem L2 PyProof.Rows
theorem all_mk {l : PySem.W.OpenLaw} {w : World} {K : PySem.W.Frag} {h : Heap} {mg : Str → Option Value} {fa cNP f_has_place f_refuse_no_place f_base_at f_first_wrong f_digit_at f_without_noughts f_sum_shown f__law_take f__law_base f__law_some_bases f__law_scale f__law_bases f__law_row f__law_wrong f__law_spoilt f__law_due f__law_right f__law_changed f__law_sum f__law_forged f__law_deck f_law : Addr} (X : K.In h) (G : h.Ns mainGlobals mg) (hfa : mg "law" = some (.ref fa))
    {od_has_place an_has_place od_refuse_no_place an_refuse_no_place od_base_at an_base_at od_first_wrong an_first_wrong od_digit_at an_digit_at od_without_noughts an_without_noughts od_sum_shown an_sum_shown od__law_take an__law_take od__law_base an__law_base od__law_some_bases an__law_some_bases od__law_scale an__law_scale od__law_bases an__law_bases od__law_row an__law_row od__law_wrong an__law_wrong od__law_spoilt an__law_spoilt od__law_due an__law_due od__law_right an__law_right od__law_changed an__law_changed od__law_sum an__law_sum od__law_forged an__law_forged od__law_deck an__law_deck od_law an_law : Option Addr} {sl_has_place sl_refuse_no_place sl_base_at sl_first_wrong sl_digit_at sl_without_noughts sl_sum_shown sl__law_take sl__law_base sl__law_some_bases sl__law_scale sl__law_bases sl__law_row sl__law_wrong sl__law_spoilt sl__law_due sl__law_right sl__law_changed sl__law_sum sl__law_forged sl__law_deck sl_law : Array (Option Value)} {oc_has_place kV_has_place dc_has_place pm_has_place cd_has_place ct_has_place oc_refuse_no_place kV_refuse_no_place dc_refuse_no_place pm_refuse_no_place cd_refuse_no_place ct_refuse_no_place oc_base_at kV_base_at dc_base_at pm_base_at cd_base_at ct_base_at oc_first_wrong kV_first_wrong dc_first_wrong pm_first_wrong cd_first_wrong ct_first_wrong oc_digit_at kV_digit_at dc_digit_at pm_digit_at cd_digit_at ct_digit_at oc_without_noughts kV_without_noughts dc_without_noughts pm_without_noughts cd_without_noughts ct_without_noughts oc_sum_shown kV_sum_shown dc_sum_shown pm_sum_shown cd_sum_shown ct_sum_shown oc__law_take kV__law_take dc__law_take pm__law_take cd__law_take ct__law_take oc__law_base kV__law_base dc__law_base pm__law_base cd__law_base ct__law_base oc__law_some_bases kV__law_some_bases dc__law_some_bases pm__law_some_bases cd__law_some_bases ct__law_some_bases oc__law_scale kV__law_scale dc__law_scale pm__law_scale cd__law_scale ct__law_scale oc__law_bases kV__law_bases dc__law_bases pm__law_bases cd__law_bases ct__law_bases oc__law_row kV__law_row dc__law_row pm__law_row cd__law_row ct__law_row oc__law_wrong kV__law_wrong dc__law_wrong pm__law_wrong cd__law_wrong ct__law_wrong oc__law_spoilt kV__law_spoilt dc__law_spoilt pm__law_spoilt cd__law_spoilt ct__law_spoilt oc__law_due kV__law_due dc__law_due pm__law_due cd__law_due ct__law_due oc__law_right kV__law_right dc__law_right pm__law_right cd__law_right ct__law_right oc__law_changed kV__law_changed dc__law_changed pm__law_changed cd__law_changed ct__law_changed oc__law_sum kV__law_sum dc__law_sum pm__law_sum cd__law_sum ct__law_sum oc__law_forged kV__law_forged dc__law_forged pm__law_forged cd__law_forged ct__law_forged oc__law_deck kV__law_deck dc__law_deck pm__law_deck cd__law_deck ct__law_deck oc_law kV_law dc_law pm_law cd_law ct_law : Value}
    (a_has_place : PySem.W.nsIn K mainGlobals "has_place" = some (some (.ref f_has_place)))
    (l_has_place : K.lookup f_has_place = some ⟨oc_has_place, od_has_place, .func (PySem.W.fnOf "has_place" "has_place" (defArgs s_has_place) (defBody s_has_place) (defScope s_has_place) .none kV_has_place dc_has_place pm_has_place an_has_place cd_has_place ct_has_place), sl_has_place⟩)
    (c_has_place : PySem.W.codeIn K cd_has_place "has_place" = true)
    (k_has_place : PySem.W.keepIn K (.ref f_has_place) = true)
    (a_refuse_no_place : PySem.W.nsIn K mainGlobals "refuse_no_place" = some (some (.ref f_refuse_no_place)))
    (l_refuse_no_place : K.lookup f_refuse_no_place = some ⟨oc_refuse_no_place, od_refuse_no_place, .func (PySem.W.fnOf "refuse_no_place" "refuse_no_place" (defArgs s_refuse_no_place) (defBody s_refuse_no_place) (defScope s_refuse_no_place) .none kV_refuse_no_place dc_refuse_no_place pm_refuse_no_place an_refuse_no_place cd_refuse_no_place ct_refuse_no_place), sl_refuse_no_place⟩)
    (c_refuse_no_place : PySem.W.codeIn K cd_refuse_no_place "refuse_no_place" = true)
    (k_refuse_no_place : PySem.W.keepIn K (.ref f_refuse_no_place) = true)
    (a_base_at : PySem.W.nsIn K mainGlobals "base_at" = some (some (.ref f_base_at)))
    (l_base_at : K.lookup f_base_at = some ⟨oc_base_at, od_base_at, .func (PySem.W.fnOf "base_at" "base_at" (defArgs s_base_at) (defBody s_base_at) (defScope s_base_at) .none kV_base_at dc_base_at pm_base_at an_base_at cd_base_at ct_base_at), sl_base_at⟩)
    (c_base_at : PySem.W.codeIn K cd_base_at "base_at" = true)
    (k_base_at : PySem.W.keepIn K (.ref f_base_at) = true)
    (a_first_wrong : PySem.W.nsIn K mainGlobals "first_wrong" = some (some (.ref f_first_wrong)))
    (l_first_wrong : K.lookup f_first_wrong = some ⟨oc_first_wrong, od_first_wrong, .func (PySem.W.fnOf "first_wrong" "first_wrong" (defArgs s_first_wrong) (defBody s_first_wrong) (defScope s_first_wrong) .none kV_first_wrong dc_first_wrong pm_first_wrong an_first_wrong cd_first_wrong ct_first_wrong), sl_first_wrong⟩)
    (c_first_wrong : PySem.W.codeIn K cd_first_wrong "first_wrong" = true)
    (k_first_wrong : PySem.W.keepIn K (.ref f_first_wrong) = true)
    (a_digit_at : PySem.W.nsIn K mainGlobals "digit_at" = some (some (.ref f_digit_at)))
    (l_digit_at : K.lookup f_digit_at = some ⟨oc_digit_at, od_digit_at, .func (PySem.W.fnOf "digit_at" "digit_at" (defArgs s_digit_at) (defBody s_digit_at) (defScope s_digit_at) .none kV_digit_at dc_digit_at pm_digit_at an_digit_at cd_digit_at ct_digit_at), sl_digit_at⟩)
    (c_digit_at : PySem.W.codeIn K cd_digit_at "digit_at" = true)
    (k_digit_at : PySem.W.keepIn K (.ref f_digit_at) = true)
    (a_without_noughts : PySem.W.nsIn K mainGlobals "without_noughts" = some (some (.ref f_without_noughts)))
    (l_without_noughts : K.lookup f_without_noughts = some ⟨oc_without_noughts, od_without_noughts, .func (PySem.W.fnOf "without_noughts" "without_noughts" (defArgs s_without_noughts) (defBody s_without_noughts) (defScope s_without_noughts) .none kV_without_noughts dc_without_noughts pm_without_noughts an_without_noughts cd_without_noughts ct_without_noughts), sl_without_noughts⟩)
    (c_without_noughts : PySem.W.codeIn K cd_without_noughts "without_noughts" = true)
    (k_without_noughts : PySem.W.keepIn K (.ref f_without_noughts) = true)
    (a_sum_shown : PySem.W.nsIn K mainGlobals "sum_shown" = some (some (.ref f_sum_shown)))
    (l_sum_shown : K.lookup f_sum_shown = some ⟨oc_sum_shown, od_sum_shown, .func (PySem.W.fnOf "sum_shown" "sum_shown" (defArgs s_sum_shown) (defBody s_sum_shown) (defScope s_sum_shown) .none kV_sum_shown dc_sum_shown pm_sum_shown an_sum_shown cd_sum_shown ct_sum_shown), sl_sum_shown⟩)
    (c_sum_shown : PySem.W.codeIn K cd_sum_shown "sum_shown" = true)
    (k_sum_shown : PySem.W.keepIn K (.ref f_sum_shown) = true)
    (a__law_take : PySem.W.nsIn K mainGlobals "_law_take" = some (some (.ref f__law_take)))
    (l__law_take : K.lookup f__law_take = some ⟨oc__law_take, od__law_take, .func (PySem.W.fnOf "_law_take" "_law_take" (defArgs s__law_take) (defBody s__law_take) (defScope s__law_take) .none kV__law_take dc__law_take pm__law_take an__law_take cd__law_take ct__law_take), sl__law_take⟩)
    (c__law_take : PySem.W.codeIn K cd__law_take "_law_take" = true)
    (k__law_take : PySem.W.keepIn K (.ref f__law_take) = true)
    (a__law_base : PySem.W.nsIn K mainGlobals "_law_base" = some (some (.ref f__law_base)))
    (l__law_base : K.lookup f__law_base = some ⟨oc__law_base, od__law_base, .func (PySem.W.fnOf "_law_base" "_law_base" (defArgs s__law_base) (defBody s__law_base) (defScope s__law_base) .none kV__law_base dc__law_base pm__law_base an__law_base cd__law_base ct__law_base), sl__law_base⟩)
    (c__law_base : PySem.W.codeIn K cd__law_base "_law_base" = true)
    (k__law_base : PySem.W.keepIn K (.ref f__law_base) = true)
    (a__law_some_bases : PySem.W.nsIn K mainGlobals "_law_some_bases" = some (some (.ref f__law_some_bases)))
    (l__law_some_bases : K.lookup f__law_some_bases = some ⟨oc__law_some_bases, od__law_some_bases, .func (PySem.W.fnOf "_law_some_bases" "_law_some_bases" (defArgs s__law_some_bases) (defBody s__law_some_bases) (defScope s__law_some_bases) .none kV__law_some_bases dc__law_some_bases pm__law_some_bases an__law_some_bases cd__law_some_bases ct__law_some_bases), sl__law_some_bases⟩)
    (c__law_some_bases : PySem.W.codeIn K cd__law_some_bases "_law_some_bases" = true)
    (k__law_some_bases : PySem.W.keepIn K (.ref f__law_some_bases) = true)
    (a__law_scale : PySem.W.nsIn K mainGlobals "_law_scale" = some (some (.ref f__law_scale)))
    (l__law_scale : K.lookup f__law_scale = some ⟨oc__law_scale, od__law_scale, .func (PySem.W.fnOf "_law_scale" "_law_scale" (defArgs s__law_scale) (defBody s__law_scale) (defScope s__law_scale) .none kV__law_scale dc__law_scale pm__law_scale an__law_scale cd__law_scale ct__law_scale), sl__law_scale⟩)
    (c__law_scale : PySem.W.codeIn K cd__law_scale "_law_scale" = true)
    (k__law_scale : PySem.W.keepIn K (.ref f__law_scale) = true)
    (a__law_bases : PySem.W.nsIn K mainGlobals "_law_bases" = some (some (.ref f__law_bases)))
    (l__law_bases : K.lookup f__law_bases = some ⟨oc__law_bases, od__law_bases, .func (PySem.W.fnOf "_law_bases" "_law_bases" (defArgs s__law_bases) (defBody s__law_bases) (defScope s__law_bases) .none kV__law_bases dc__law_bases pm__law_bases an__law_bases cd__law_bases ct__law_bases), sl__law_bases⟩)
    (c__law_bases : PySem.W.codeIn K cd__law_bases "_law_bases" = true)
    (k__law_bases : PySem.W.keepIn K (.ref f__law_bases) = true)
    (a__law_row : PySem.W.nsIn K mainGlobals "_law_row" = some (some (.ref f__law_row)))
    (l__law_row : K.lookup f__law_row = some ⟨oc__law_row, od__law_row, .func (PySem.W.fnOf "_law_row" "_law_row" (defArgs s__law_row) (defBody s__law_row) (defScope s__law_row) .none kV__law_row dc__law_row pm__law_row an__law_row cd__law_row ct__law_row), sl__law_row⟩)
    (c__law_row : PySem.W.codeIn K cd__law_row "_law_row" = true)
    (k__law_row : PySem.W.keepIn K (.ref f__law_row) = true)
    (a__law_wrong : PySem.W.nsIn K mainGlobals "_law_wrong" = some (some (.ref f__law_wrong)))
    (l__law_wrong : K.lookup f__law_wrong = some ⟨oc__law_wrong, od__law_wrong, .func (PySem.W.fnOf "_law_wrong" "_law_wrong" (defArgs s__law_wrong) (defBody s__law_wrong) (defScope s__law_wrong) .none kV__law_wrong dc__law_wrong pm__law_wrong an__law_wrong cd__law_wrong ct__law_wrong), sl__law_wrong⟩)
    (c__law_wrong : PySem.W.codeIn K cd__law_wrong "_law_wrong" = true)
    (k__law_wrong : PySem.W.keepIn K (.ref f__law_wrong) = true)
    (a__law_spoilt : PySem.W.nsIn K mainGlobals "_law_spoilt" = some (some (.ref f__law_spoilt)))
    (l__law_spoilt : K.lookup f__law_spoilt = some ⟨oc__law_spoilt, od__law_spoilt, .func (PySem.W.fnOf "_law_spoilt" "_law_spoilt" (defArgs s__law_spoilt) (defBody s__law_spoilt) (defScope s__law_spoilt) .none kV__law_spoilt dc__law_spoilt pm__law_spoilt an__law_spoilt cd__law_spoilt ct__law_spoilt), sl__law_spoilt⟩)
    (c__law_spoilt : PySem.W.codeIn K cd__law_spoilt "_law_spoilt" = true)
    (k__law_spoilt : PySem.W.keepIn K (.ref f__law_spoilt) = true)
    (a__law_due : PySem.W.nsIn K mainGlobals "_law_due" = some (some (.ref f__law_due)))
    (l__law_due : K.lookup f__law_due = some ⟨oc__law_due, od__law_due, .func (PySem.W.fnOf "_law_due" "_law_due" (defArgs s__law_due) (defBody s__law_due) (defScope s__law_due) .none kV__law_due dc__law_due pm__law_due an__law_due cd__law_due ct__law_due), sl__law_due⟩)
    (c__law_due : PySem.W.codeIn K cd__law_due "_law_due" = true)
    (k__law_due : PySem.W.keepIn K (.ref f__law_due) = true)
    (a__law_right : PySem.W.nsIn K mainGlobals "_law_right" = some (some (.ref f__law_right)))
    (l__law_right : K.lookup f__law_right = some ⟨oc__law_right, od__law_right, .func (PySem.W.fnOf "_law_right" "_law_right" (defArgs s__law_right) (defBody s__law_right) (defScope s__law_right) .none kV__law_right dc__law_right pm__law_right an__law_right cd__law_right ct__law_right), sl__law_right⟩)
    (c__law_right : PySem.W.codeIn K cd__law_right "_law_right" = true)
    (k__law_right : PySem.W.keepIn K (.ref f__law_right) = true)
    (a__law_changed : PySem.W.nsIn K mainGlobals "_law_changed" = some (some (.ref f__law_changed)))
    (l__law_changed : K.lookup f__law_changed = some ⟨oc__law_changed, od__law_changed, .func (PySem.W.fnOf "_law_changed" "_law_changed" (defArgs s__law_changed) (defBody s__law_changed) (defScope s__law_changed) .none kV__law_changed dc__law_changed pm__law_changed an__law_changed cd__law_changed ct__law_changed), sl__law_changed⟩)
    (c__law_changed : PySem.W.codeIn K cd__law_changed "_law_changed" = true)
    (k__law_changed : PySem.W.keepIn K (.ref f__law_changed) = true)
    (a__law_sum : PySem.W.nsIn K mainGlobals "_law_sum" = some (some (.ref f__law_sum)))
    (l__law_sum : K.lookup f__law_sum = some ⟨oc__law_sum, od__law_sum, .func (PySem.W.fnOf "_law_sum" "_law_sum" (defArgs s__law_sum) (defBody s__law_sum) (defScope s__law_sum) .none kV__law_sum dc__law_sum pm__law_sum an__law_sum cd__law_sum ct__law_sum), sl__law_sum⟩)
    (c__law_sum : PySem.W.codeIn K cd__law_sum "_law_sum" = true)
    (k__law_sum : PySem.W.keepIn K (.ref f__law_sum) = true)
    (a__law_forged : PySem.W.nsIn K mainGlobals "_law_forged" = some (some (.ref f__law_forged)))
    (l__law_forged : K.lookup f__law_forged = some ⟨oc__law_forged, od__law_forged, .func (PySem.W.fnOf "_law_forged" "_law_forged" (defArgs s__law_forged) (defBody s__law_forged) (defScope s__law_forged) .none kV__law_forged dc__law_forged pm__law_forged an__law_forged cd__law_forged ct__law_forged), sl__law_forged⟩)
    (c__law_forged : PySem.W.codeIn K cd__law_forged "_law_forged" = true)
    (k__law_forged : PySem.W.keepIn K (.ref f__law_forged) = true)
    (a__law_deck : PySem.W.nsIn K mainGlobals "_law_deck" = some (some (.ref f__law_deck)))
    (l__law_deck : K.lookup f__law_deck = some ⟨oc__law_deck, od__law_deck, .func (PySem.W.fnOf "_law_deck" "_law_deck" (defArgs s__law_deck) (defBody s__law_deck) (defScope s__law_deck) .none kV__law_deck dc__law_deck pm__law_deck an__law_deck cd__law_deck ct__law_deck), sl__law_deck⟩)
    (c__law_deck : PySem.W.codeIn K cd__law_deck "_law_deck" = true)
    (k__law_deck : PySem.W.keepIn K (.ref f__law_deck) = true)
    (a_law : PySem.W.nsIn K mainGlobals "law" = some (some (.ref f_law)))
    (l_law : K.lookup f_law = some ⟨oc_law, od_law, .func (PySem.W.fnOf "law" "law" (defArgs s_law) (defBody s_law) (defScope s_law) .none kV_law dc_law pm_law an_law cd_law ct_law), sl_law⟩)
    (c_law : PySem.W.codeIn K cd_law "law" = true)
    (k_law : PySem.W.keepIn K (.ref f_law) = true)
    (q_NoPlace : PySem.W.nsIn K mainGlobals "NoPlace" = some (some (.ref cNP)))
    (n_len : PySem.W.nsIn K mainGlobals "len" = some none)
    (n_range : PySem.W.nsIn K mainGlobals "range" = some none)
    (n_sum : PySem.W.nsIn K mainGlobals "sum" = some none)
    (n_tuple : PySem.W.nsIn K mainGlobals "tuple" = some none)
    (n_list : PySem.W.nsIn K mainGlobals "list" = some none)
    (n_max : PySem.W.nsIn K mainGlobals "max" = some none)
    (n_min : PySem.W.nsIn K mainGlobals "min" = some none)
    (n_enumerate : PySem.W.nsIn K mainGlobals "enumerate" = some none)
    (n_zip : PySem.W.nsIn K mainGlobals "zip" = some none)
    (n_any : PySem.W.nsIn K mainGlobals "any" = some none)
    (n_isinstance : PySem.W.nsIn K mainGlobals "isinstance" = some none)
    (n_int : PySem.W.nsIn K mainGlobals "int" = some none)
    (n_bool : PySem.W.nsIn K mainGlobals "bool" = some none)
    (xp : PySem.W.excIn K cNP [.type "ValueError", .type "Exception", .type "BaseException", .type "object"] "ValueError.__new__" = true)
    (i0 : PySem.W.kitOne K (.type "int") (.type "bool") = some false)
    (i1 : PySem.W.kitOne K (.type "int") (.type "int") = some true)
    : ∃ fd : FuncData, (∀ (s : Shared) (v : Value), BindsTo s fd ⟨[v], []⟩ [("script", v)]) ∧ ∀ base : Heap, K.In base → base.Ns mainGlobals mg → FnOk l.prog w K mg base CX0 7 fa fd ["script"] (spLaw K) := by
  have e := hfa.symm.trans (PySem.W.mg_of X G a_law)
  cases e
  have F_has_place := fun_mk (st := s_has_place) l_has_place c_has_place k_has_place
  have b_has_place := F_has_place.binds (ps := ["scale", "place"]) fun _ _ _ _ _ _ us hl => match us, hl with | [_, _], _ => rfl
  have m_has_place := PySem.W.mg_of X G a_has_place
  have F_refuse_no_place := fun_mk (st := s_refuse_no_place) l_refuse_no_place c_refuse_no_place k_refuse_no_place
  have b_refuse_no_place := F_refuse_no_place.binds (ps := ["scale", "place"]) fun _ _ _ _ _ _ us hl => match us, hl with | [_, _], _ => rfl
  have m_refuse_no_place := PySem.W.mg_of X G a_refuse_no_place
  have F_base_at := fun_mk (st := s_base_at) l_base_at c_base_at k_base_at
  have b_base_at := F_base_at.binds (ps := ["scale", "place"]) fun _ _ _ _ _ _ us hl => match us, hl with | [_, _], _ => rfl
  have m_base_at := PySem.W.mg_of X G a_base_at
  have F_first_wrong := fun_mk (st := s_first_wrong) l_first_wrong c_first_wrong k_first_wrong
  have b_first_wrong := F_first_wrong.binds (ps := ["scale", "digits"]) fun _ _ _ _ _ _ us hl => match us, hl with | [_, _], _ => rfl
  have m_first_wrong := PySem.W.mg_of X G a_first_wrong
  have F_digit_at := fun_mk (st := s_digit_at) l_digit_at c_digit_at k_digit_at
  have b_digit_at := F_digit_at.binds (ps := ["digits", "place"]) fun _ _ _ _ _ _ us hl => match us, hl with | [_, _], _ => rfl
  have m_digit_at := PySem.W.mg_of X G a_digit_at
  have F_without_noughts := fun_mk (st := s_without_noughts) l_without_noughts c_without_noughts k_without_noughts
  have b_without_noughts := F_without_noughts.binds (ps := ["digits"]) fun _ _ _ _ _ _ us hl => match us, hl with | [_], _ => rfl
  have m_without_noughts := PySem.W.mg_of X G a_without_noughts
  have F_sum_shown := fun_mk (st := s_sum_shown) l_sum_shown c_sum_shown k_sum_shown
  have b_sum_shown := F_sum_shown.binds (ps := ["scale", "one", "other", "digits", "carries"]) fun _ _ _ _ _ _ us hl => match us, hl with | [_, _, _, _, _], _ => rfl
  have m_sum_shown := PySem.W.mg_of X G a_sum_shown
  have F__law_take := fun_mk (st := s__law_take) l__law_take c__law_take k__law_take
  have b__law_take := F__law_take.binds (ps := ["deck", "many"]) fun _ _ _ _ _ _ us hl => match us, hl with | [_, _], _ => rfl
  have m__law_take := PySem.W.mg_of X G a__law_take
  have F__law_base := fun_mk (st := s__law_base) l__law_base c__law_base k__law_base
  have b__law_base := F__law_base.binds (ps := ["deck"]) fun _ _ _ _ _ _ us hl => match us, hl with | [_], _ => rfl
  have m__law_base := PySem.W.mg_of X G a__law_base
  have F__law_some_bases := fun_mk (st := s__law_some_bases) l__law_some_bases c__law_some_bases k__law_some_bases
  have b__law_some_bases := F__law_some_bases.binds (ps := ["deck"]) fun _ _ _ _ _ _ us hl => match us, hl with | [_], _ => rfl
  have m__law_some_bases := PySem.W.mg_of X G a__law_some_bases
  have F__law_scale := fun_mk (st := s__law_scale) l__law_scale c__law_scale k__law_scale
  have b__law_scale := F__law_scale.binds (ps := ["deck"]) fun _ _ _ _ _ _ us hl => match us, hl with | [_], _ => rfl
  have m__law_scale := PySem.W.mg_of X G a__law_scale
  have F__law_bases := fun_mk (st := s__law_bases) l__law_bases c__law_bases k__law_bases
  have b__law_bases := F__law_bases.binds (ps := ["scale", "many"]) fun _ _ _ _ _ _ us hl => match us, hl with | [_, _], _ => rfl
  have m__law_bases := PySem.W.mg_of X G a__law_bases
  have F__law_row := fun_mk (st := s__law_row) l__law_row c__law_row k__law_row
  have b__law_row := F__law_row.binds (ps := ["deck", "scale", "most"]) fun _ _ _ _ _ _ us hl => match us, hl with | [_, _, _], _ => rfl
  have m__law_row := PySem.W.mg_of X G a__law_row
  have F__law_wrong := fun_mk (st := s__law_wrong) l__law_wrong c__law_wrong k__law_wrong
  have b__law_wrong := F__law_wrong.binds (ps := ["scale", "digits"]) fun _ _ _ _ _ _ us hl => match us, hl with | [_, _], _ => rfl
  have m__law_wrong := PySem.W.mg_of X G a__law_wrong
  have F__law_spoilt := fun_mk (st := s__law_spoilt) l__law_spoilt c__law_spoilt k__law_spoilt
  have b__law_spoilt := F__law_spoilt.binds (ps := ["deck", "scale", "digits"]) fun _ _ _ _ _ _ us hl => match us, hl with | [_, _, _], _ => rfl
  have m__law_spoilt := PySem.W.mg_of X G a__law_spoilt
  have F__law_due := fun_mk (st := s__law_due) l__law_due c__law_due k__law_due
  have b__law_due := F__law_due.binds (ps := ["scale", "one", "other", "digits", "carries"]) fun _ _ _ _ _ _ us hl => match us, hl with | [_, _, _, _, _], _ => rfl
  have m__law_due := PySem.W.mg_of X G a__law_due
  have F__law_right := fun_mk (st := s__law_right) l__law_right c__law_right k__law_right
  have b__law_right := F__law_right.binds (ps := ["scale", "one", "other", "digits", "carries"]) fun _ _ _ _ _ _ us hl => match us, hl with | [_, _, _, _, _], _ => rfl
  have m__law_right := PySem.W.mg_of X G a__law_right
  have F__law_changed := fun_mk (st := s__law_changed) l__law_changed c__law_changed k__law_changed
  have b__law_changed := F__law_changed.binds (ps := ["deck", "row"]) fun _ _ _ _ _ _ us hl => match us, hl with | [_, _], _ => rfl
  have m__law_changed := PySem.W.mg_of X G a__law_changed
  have F__law_sum := fun_mk (st := s__law_sum) l__law_sum c__law_sum k__law_sum
  have b__law_sum := F__law_sum.binds (ps := ["scale", "one", "other"]) fun _ _ _ _ _ _ us hl => match us, hl with | [_, _, _], _ => rfl
  have m__law_sum := PySem.W.mg_of X G a__law_sum
  have F__law_forged := fun_mk (st := s__law_forged) l__law_forged c__law_forged k__law_forged
  have b__law_forged := F__law_forged.binds (ps := ["deck", "scale", "one", "other"]) fun _ _ _ _ _ _ us hl => match us, hl with | [_, _, _, _], _ => rfl
  have m__law_forged := PySem.W.mg_of X G a__law_forged
  have F__law_deck := fun_mk (st := s__law_deck) l__law_deck c__law_deck k__law_deck
  have b__law_deck := F__law_deck.binds (ps := ["script"]) fun _ _ _ _ _ _ us hl => match us, hl with | [_], _ => rfl
  have m__law_deck := PySem.W.mg_of X G a__law_deck
  have F_law := fun_mk (st := s_law) l_law c_law k_law
  have m_NoPlace := PySem.W.mg_of X G q_NoPlace
  have z_len := PySem.W.mg_none_of X G n_len
  have z_range := PySem.W.mg_none_of X G n_range
  have z_sum := PySem.W.mg_none_of X G n_sum
  have z_tuple := PySem.W.mg_none_of X G n_tuple
  have z_list := PySem.W.mg_none_of X G n_list
  have z_max := PySem.W.mg_none_of X G n_max
  have z_min := PySem.W.mg_none_of X G n_min
  have z_enumerate := PySem.W.mg_none_of X G n_enumerate
  have z_zip := PySem.W.mg_none_of X G n_zip
  have z_any := PySem.W.mg_none_of X G n_any
  have z_isinstance := PySem.W.mg_none_of X G n_isinstance
  have z_int := PySem.W.mg_none_of X G n_int
  have z_bool := PySem.W.mg_none_of X G n_bool
  have T0 : Txt K mg cNP := ⟨z_len, z_range, z_sum, z_tuple, z_list, z_max, m_NoPlace, xp⟩
  have T : T3 K mg cNP := ⟨T0, z_enumerate, z_zip, z_min, z_isinstance, z_int, z_bool, i0, i1⟩
  refine ⟨PySem.W.fnOf "law" "law" (defArgs s_law) (defBody s_law) (defScope s_law) .none kV_law dc_law pm_law an_law cd_law ct_law, fun s v => .of_eq rfl, fun base _ _ => ?_⟩
  have c_has_place := Fn.mk (ok_has_place (P := l.prog) (w := w) (base := base) F_has_place T0) m_has_place k_has_place b_has_place
  have c_refuse_no_place := Fn.mk (ok_refuse_no_place F_refuse_no_place T0 c_has_place) m_refuse_no_place k_refuse_no_place b_refuse_no_place
  have c_base_at := Fn.mk (ok_base_at F_base_at T0 c_refuse_no_place) m_base_at k_base_at b_base_at
  have T9' : T9 K mg cNP := ⟨T, z_any⟩
  have c_first_wrong := Fn.mk (ok_first_wrongG F_first_wrong T c_has_place c_base_at) m_first_wrong k_first_wrong b_first_wrong
  have c_digit_at := Fn.mk (ok_digit_at (P := l.prog) (w := w) (base := base) F_digit_at T) m_digit_at k_digit_at b_digit_at
  have c_without_noughts := Fn.mk (ok_without_noughtsT (P := l.prog) (w := w) (base := base) F_without_noughts T) m_without_noughts k_without_noughts b_without_noughts
  have c_sum_shown := Fn.mk (ok_sum_shown F_sum_shown T9' c_first_wrong c_digit_at c_base_at c_without_noughts) m_sum_shown k_sum_shown b_sum_shown
  have c__law_take := Fn.mk (ok__law_take (P := l.prog) (w := w) (base := base) F__law_take T0) m__law_take k__law_take b__law_take
  have c__law_base := Fn.mk (ok__law_base F__law_base T0 c__law_take) m__law_base k__law_base b__law_base
  have c__law_some_bases := Fn.mk (ok__law_some_bases F__law_some_bases T0 c__law_take c__law_base) m__law_some_bases k__law_some_bases b__law_some_bases
  have c__law_scale := Fn.mk (ok__law_scale F__law_scale T0 c__law_take c__law_some_bases) m__law_scale k__law_scale b__law_scale
  have c__law_bases := Fn.mk (ok__law_bases (P := l.prog) (w := w) (base := base) F__law_bases T0) m__law_bases k__law_bases b__law_bases
  have c__law_row := Fn.mk (ok__law_row F__law_row T c__law_take c__law_bases) m__law_row k__law_row b__law_row
  have c__law_wrong := Fn.mk (ok__law_wrong F__law_wrong T c__law_bases) m__law_wrong k__law_wrong b__law_wrong
  have c__law_due := Fn.mk (ok__law_due F__law_due T c__law_wrong c__law_bases) m__law_due k__law_due b__law_due
  have c__law_right := Fn.mk (ok__law_right F__law_right T c__law_due c_sum_shown) m__law_right k__law_right b__law_right
  have c__law_changed := Fn.mk (ok__law_changed F__law_changed T c__law_take) m__law_changed k__law_changed b__law_changed
  have c__law_spoilt := Fn.mk (ok__law_spoilt F__law_spoilt T c__law_take c__law_bases) m__law_spoilt k__law_spoilt b__law_spoilt
  have c__law_sum := Fn.mk (ok__law_sum F__law_sum T c__law_bases) m__law_sum k__law_sum b__law_sum
  have c__law_forged := Fn.mk (ok__law_forged F__law_forged T c__law_bases c__law_take) m__law_forged k__law_forged b__law_forged
  have c__law_deck := Fn.mk (ok__law_deck (P := l.prog) (w := w) (base := base) F__law_deck T0) m__law_deck k__law_deck b__law_deck
  exact ok_law F_law T c__law_deck c__law_scale c__law_row c__law_take c__law_sum c__law_changed c__law_spoilt c__law_forged c__law_right
end My
open PySem PySem.W PyProof.Rows
set_option maxRecDepth 100000 in
set_option maxHeartbeats 0 in
theorem PySem.Challenge.cw_mixedscales_k09_carries_looked_at_holds : PySem.Challenge.rw_mixedscales_k09_carries_looked_at.Holds :=
  hd (by
  k_fill
  refine L2.walk_ofK (l := PySem.Challenge.rw_mixedscales_k09_carries_looked_at) (n := 63) (k := 7) (x := "script") (CX := L2.CX0) (sp := My.spLaw) rfl (by decide) rfl ⟨rfl, by decide, by decide⟩ (fun w h Y => PySem.W.kIn_of Y) ?F ?S ?C
  case S => exact fun _ _ a ns hl _ hS => ⟨a, ns, rfl, hS, hl, fun _ => rfl⟩
  case C => exact fun _ _ _ _ z => z
  case F =>
    intro w mg fa h KX G hmg
    refine' My.all_mk KX G hmg ?a_has_place ?l_has_place ?c_has_place ?k_has_place ?a_refuse_no_place ?l_refuse_no_place ?c_refuse_no_place ?k_refuse_no_place ?a_base_at ?l_base_at ?c_base_at ?k_base_at ?a_first_wrong ?l_first_wrong ?c_first_wrong ?k_first_wrong ?a_digit_at ?l_digit_at ?c_digit_at ?k_digit_at ?a_without_noughts ?l_without_noughts ?c_without_noughts ?k_without_noughts ?a_sum_shown ?l_sum_shown ?c_sum_shown ?k_sum_shown ?a__law_take ?l__law_take ?c__law_take ?k__law_take ?a__law_base ?l__law_base ?c__law_base ?k__law_base ?a__law_some_bases ?l__law_some_bases ?c__law_some_bases ?k__law_some_bases ?a__law_scale ?l__law_scale ?c__law_scale ?k__law_scale ?a__law_bases ?l__law_bases ?c__law_bases ?k__law_bases ?a__law_row ?l__law_row ?c__law_row ?k__law_row ?a__law_wrong ?l__law_wrong ?c__law_wrong ?k__law_wrong ?a__law_spoilt ?l__law_spoilt ?c__law_spoilt ?k__law_spoilt ?a__law_due ?l__law_due ?c__law_due ?k__law_due ?a__law_right ?l__law_right ?c__law_right ?k__law_right ?a__law_changed ?l__law_changed ?c__law_changed ?k__law_changed ?a__law_sum ?l__law_sum ?c__law_sum ?k__law_sum ?a__law_forged ?l__law_forged ?c__law_forged ?k__law_forged ?a__law_deck ?l__law_deck ?c__law_deck ?k__law_deck ?a_law ?l_law ?c_law ?k_law ?q_NoPlace ?n_len ?n_range ?n_sum ?n_tuple ?n_list ?n_max ?n_min ?n_enumerate ?n_zip ?n_any ?n_isinstance ?n_int ?n_bool ?xp ?i0 ?i1
    (case a_has_place => k_is)
    (case l_has_place => k_is)
    (case c_has_place => k_is)
    (case k_has_place => k_is)
    (case a_refuse_no_place => k_is)
    (case l_refuse_no_place => k_is)
    (case c_refuse_no_place => k_is)
    (case k_refuse_no_place => k_is)
    (case a_base_at => k_is)
    (case l_base_at => k_is)
    (case c_base_at => k_is)
    (case k_base_at => k_is)
    (case a_first_wrong => k_is)
    (case l_first_wrong => k_is)
    (case c_first_wrong => k_is)
    (case k_first_wrong => k_is)
    (case a_digit_at => k_is)
    (case l_digit_at => k_is)
    (case c_digit_at => k_is)
    (case k_digit_at => k_is)
    (case a_without_noughts => k_is)
    (case l_without_noughts => k_is)
    (case c_without_noughts => k_is)
    (case k_without_noughts => k_is)
    (case a_sum_shown => k_is)
    (case l_sum_shown => k_is)
    (case c_sum_shown => k_is)
    (case k_sum_shown => k_is)
    (case a__law_take => k_is)
    (case l__law_take => k_is)
    (case c__law_take => k_is)
    (case k__law_take => k_is)
    (case a__law_base => k_is)
    (case l__law_base => k_is)
    (case c__law_base => k_is)
    (case k__law_base => k_is)
    (case a__law_some_bases => k_is)
    (case l__law_some_bases => k_is)
    (case c__law_some_bases => k_is)
    (case k__law_some_bases => k_is)
    (case a__law_scale => k_is)
    (case l__law_scale => k_is)
    (case c__law_scale => k_is)
    (case k__law_scale => k_is)
    (case a__law_bases => k_is)
    (case l__law_bases => k_is)
    (case c__law_bases => k_is)
    (case k__law_bases => k_is)
    (case a__law_row => k_is)
    (case l__law_row => k_is)
    (case c__law_row => k_is)
    (case k__law_row => k_is)
    (case a__law_wrong => k_is)
    (case l__law_wrong => k_is)
    (case c__law_wrong => k_is)
    (case k__law_wrong => k_is)
    (case a__law_spoilt => k_is)
    (case l__law_spoilt => k_is)
    (case c__law_spoilt => k_is)
    (case k__law_spoilt => k_is)
    (case a__law_due => k_is)
    (case l__law_due => k_is)
    (case c__law_due => k_is)
    (case k__law_due => k_is)
    (case a__law_right => k_is)
    (case l__law_right => k_is)
    (case c__law_right => k_is)
    (case k__law_right => k_is)
    (case a__law_changed => k_is)
    (case l__law_changed => k_is)
    (case c__law_changed => k_is)
    (case k__law_changed => k_is)
    (case a__law_sum => k_is)
    (case l__law_sum => k_is)
    (case c__law_sum => k_is)
    (case k__law_sum => k_is)
    (case a__law_forged => k_is)
    (case l__law_forged => k_is)
    (case c__law_forged => k_is)
    (case k__law_forged => k_is)
    (case a__law_deck => k_is)
    (case l__law_deck => k_is)
    (case c__law_deck => k_is)
    (case k__law_deck => k_is)
    (case a_law => k_is)
    (case l_law => k_is)
    (case c_law => k_is)
    (case k_law => k_is)
    (case q_NoPlace => k_is)
    (case n_len => k_is)
    (case n_range => k_is)
    (case n_sum => k_is)
    (case n_tuple => k_is)
    (case n_list => k_is)
    (case n_max => k_is)
    (case n_min => k_is)
    (case n_enumerate => k_is)
    (case n_zip => k_is)
    (case n_any => k_is)
    (case n_isinstance => k_is)
    (case n_int => k_is)
    (case n_bool => k_is)
    (case xp => k_exc)
    (case i0 => kit_is)
    (case i1 => kit_is)
  )
