import PyProof.Rows.All
import Wide.All
import OpenK.AllK
import Wide.FinOn
import Lean
import PyProof.EqAt
import PyProof.EqKinds
import PyProof.TupleCall
import PySem.Challenge.RW_mixedscales_k27_digits_papers_looked_at
set_option Elab.async false
set_option compiler.extract_closed false
set_option bootstrap.genMatcherCode false
set_option genSizeOfSpec false
set_option linter.all false
set_option maxRecDepth 100000
/-! THE HAND LAYER, for ints, bools, texts, own classes, LISTS and tuples (index, slices, in, append, pop ..), calls, loops. Paste it whole ahead of your own text; what your proof does not reach may be deleted. -/
noncomputable section
namespace L2
open PySem PySem.Spec PyProof.Rows
abbrev AO := List (Addr × Obj)
abbrev Fg := PySem.W.Frag
abbrev SV := Str -> Option Value
abbrev VSP := Value -> Shared -> Prop
abbrev Key := Sum Int Str
def Z3j : Key -> Value -> Bool
 | .inl k, v => Value.isInt k v
 | .inr x, v => Value.isStrOf x v
def keyH (w : World) : Key -> Int
 | .inl k => hashInt k
 | .inr x => hashStr w x
theorem Z0j : ∀ {k : Key} {v : Value}, Z3j k v = true -> (∃ i t, k = Sum.inl i /\ v = Value.int i t) \/ (∃ x t, k = Sum.inr x /\ v = Value.str x t)
 | .inl i, v, h => by
  obtain ⟨t, e⟩ := Value.isInt_shape (k := i) (v := v) h
  exact .inl ⟨i, t, rfl, e⟩
 | .inr x, v, h => by
  obtain ⟨t, e⟩ := Value.isStrOf_shape (x := x) (v := v) h
  exact .inr ⟨x, t, rfl, e⟩
theorem Zap (i : Int) (t : Tok) : Z3j (.inl i) (.int i t) = true := by simp [Z3j, Value.isInt]
theorem Zaq (x : Str) (t : Tok) : Z3j (.inr x) (.str x t) = true := by simp [Z3j, Value.isStrOf]
theorem Zkj (a b : Int) : decide ((Sum.inl a : Key) = Sum.inl b) = (a == b) := by
 by_cases e : a = b
 ·subst e; simp
 ·have h : ¬ (Sum.inl a : Key) = Sum.inl b := fun q => e (Sum.inl.inj q)
  rw [decide_eq_false h]
  exact (beq_eq_false_iff_ne.mpr e).symm
theorem Zkk (a b : Str) : decide ((Sum.inr a : Key) = Sum.inr b) = decide (a = b) := by
 by_cases e : a = b
 ·subst e; simp
 ·have h : ¬ (Sum.inr a : Key) = Sum.inr b := fun q => e (Sum.inr.inj q)
  rw [decide_eq_false h, decide_eq_false e]
theorem Zkl (a : Int) (b : Str) : decide ((Sum.inl a : Key) = Sum.inr b) = false := decide_eq_false (fun q => nomatch q)
theorem Zkm (a : Str) (b : Int) : decide ((Sum.inr a : Key) = Sum.inl b) = false := decide_eq_false (fun q => nomatch q)
def Z0b (prog : Program) (w : World) : PySem.KeyKind prog w Key where
 is := Z3j
 hash := keyH w
 inj := fun v a b ha hb => by
  rcases Z0j ha with ⟨i, t, rfl, rfl⟩ | ⟨x, t, rfl, rfl⟩
  ·rcases Z0j hb with ⟨j, u, rfl, e⟩ | ⟨y, u, rfl, e⟩
   ·injection e with e1 _; rw [e1]
   ·exact nomatch e
  ·rcases Z0j hb with ⟨j, u, rfl, e⟩ | ⟨y, u, rfl, e⟩
   ·exact nomatch e
   ·injection e with e1 _; rw [e1]
 byValue := fun k v h => by
  rcases Z0j h with ⟨i, t, rfl, rfl⟩ | ⟨x, t, rfl, rfl⟩ <;> rfl
 pyHash := fun hv h => by
  rcases Z0j hv with ⟨i, t, rfl, rfl⟩ | ⟨x, t, rfl, rfl⟩
  ·exact wpAny_pyHash_int h
  ·exact wpAny_pyHash_str h
 eqBool := fun hu hv h => by
  rcases Z0j hu with ⟨i, t, rfl, rfl⟩ | ⟨x, t, rfl, rfl⟩
  ·rcases Z0j hv with ⟨j, u, rfl, rfl⟩ | ⟨y, u, rfl, rfl⟩
   ·rw [Zkj] at h; exact wpAny_eqBool_int h
   ·rw [Zkl] at h; exact SeqAt.EqAt.int_str i t y u _ _ _ _ h
  ·rcases Z0j hv with ⟨j, u, rfl, rfl⟩ | ⟨y, u, rfl, rfl⟩
   ·rw [Zkm] at h; exact SeqAt.EqAt.str_int x t j u _ _ _ _ h
   ·rw [Zkk] at h; exact wpAny_eqBool_str h
 «strs» := fun k x t v h => by
  rcases Z0j h with ⟨i, u, rfl, e⟩ | ⟨y, u, rfl, e⟩
  ·exact nomatch e
  ·injection e with e1 _
   subst e1
   cases v <;> rfl
theorem Z7r (prog : Program) (w : World) (i : Int) (t : Tok) : (Z0b prog w).is (.inl i) (.int i t) = true := Zap i t
theorem Z7s (prog : Program) (w : World) (x : Str) (t : Tok) : (Z0b prog w).is (.inr x) (.str x t) = true := Zaq x t
inductive V where
 | non | bl (b : Bool) | int (i : Int) | str (x : Str) | byt (b : Array UInt8) | flt (b : UInt64) | ref (a : Addr) | ty (n : String)
 deriving DecidableEq
def RelV : V -> Value -> Prop
 | .non, u => u = Value.none
 | .bl b, u => u = Value.bool b
 | .int i, u => ∃ t, u = Value.int i t
 | .str x, u => ∃ t, u = Value.str x t
 | .byt b, u => ∃ t, u = Value.bytes b t
 | .flt b, u => ∃ t, u = Value.float b t
 | .ref a, u => u = Value.ref a
 | .ty n, u => u = Value.type n
abbrev Vals : List V -> List Value -> Prop := Paired RelV
theorem Vals.length {xs : List V} {us : List Value} (r : Vals xs us) : xs.length = us.length := Paired.length r
theorem Vals.get : ∀ {xs : List V} {us : List Value} {i : Nat} {x : V}, Vals xs us -> xs[i]? = some x -> ∃ u, us[i]? = some u /\ RelV x u
 | _, _, _, _, .nil, e => by simp at e
 | _, _, 0, _, .cons r _, e => by simp at e; subst e; exact ⟨_, rfl, r⟩
 | _, _, i + 1, x, .cons _ t, e => by
  obtain ⟨u, h1, h2⟩ := Vals.get (i := i) (x := x) t (by simpa using e)
  exact ⟨u, by simpa using h1, h2⟩
theorem Vals.set {x : V} {u : Value} (r : RelV x u) : ∀ {xs : List V} {us : List Value} (i : Nat), Vals xs us -> Vals (xs.set i x) (us.set i u)
 | _, _, _, .nil => .nil
 | _, _, 0, .cons _ t => .cons r t
 | _, _, i + 1, .cons q t => .cons q (Vals.set r i t)
theorem Vals.append : ∀ {xs ys : List V} {us ws : List Value}, Vals xs us -> Vals ys ws -> Vals (xs ++ ys) (us ++ ws)
 | _, _, _, _, .nil, s => s
 | _, _, _, _, .cons r t, s => .cons r (Vals.append t s)
theorem Vals.take : ∀ {xs : List V} {us : List Value} (n : Nat), Vals xs us -> Vals (xs.take n) (us.take n)
 | _, _, 0, _ => .nil
 | _, _, _ + 1, .nil => .nil
 | _, _, n + 1, .cons r t => .cons r (Vals.take n t)
theorem Vals.drop : ∀ {xs : List V} {us : List Value} (n : Nat), Vals xs us -> Vals (xs.drop n) (us.drop n)
 | _, _, 0, r => r
 | _, _, _ + 1, .nil => .nil
 | _, _, n + 1, .cons _ t => Vals.drop n t
def RelO : Option V -> Option Value -> Prop
 | some v, some u => RelV v u
 | none, none => True
 | _, _ => False
def KV {κ : Type} : List (κ × V) -> List (κ × Value) -> Prop := Paired fun (p : κ × V) (q : κ × Value) => p.1 = q.1 /\ RelV p.2 q.2
def kV : Key -> V
 | .inl i => .int i
 | .inr x => .str x
inductive HO where
 | lst (xs : List V)
 | tup (xs : List V)
 | dK (kvs : List (Key × V)) | dT (kvs : List (List Key × V))
 | set (S : Int -> Bool) (n : Nat)
 | ins (C dx : Addr) (fs : List (Str × V))
 | own (x : Addr)
 | xd (fs : List (Str × V))
 | met (f x : Addr)
 | rng (lo hi : Int)
 | frz (o : Obj) (u : HO)
 | tbl (ps : Array Value)
 | ext (φ : Heap -> Prop)
abbrev Hp := Addr -> Option HO
def upd (H : Hp) (a : Addr) (o : HO) : Hp := fun b => if b = a then some o else H b
theorem Z03 {H : Hp} {a : Addr} {o : HO} : upd H a o a = some o := by unfold upd; rw [if_pos rfl]
theorem Z06 {H : Hp} {a b : Addr} {o : HO} (h : b ≠ a) : upd H a o b = H b := by unfold upd; rw [if_neg h]
theorem Z50 {H : Hp} {a : Addr} {o u : HO} : upd (upd H a o) a u = upd H a u := by
 funext b; unfold upd; split <;> rfl
theorem Zkn {H : Hp} {a b : Addr} {o u : HO} (h : H a = some o) (h' : H b = some u) (d : o ≠ u) : a ≠ b := by
 intro e; subst e; rw [h] at h'; exact d (Option.some.inj h')
theorem Z0c {H : Hp} {a b : Addr} {o : HO} (h : H a = some o) (h' : H b = none) : a ≠ b := by
 intro e; subst e; rw [h] at h'; cases h'
section
variable (P : Program) (w : World)
def Z0r (H : Hp) (h : Heap) (a : Addr) : HO -> Prop
 | .lst xs => xs.length <= sizeLine /\ ∃ (its : List Value) (n : Nat), Vals xs its /\ h.get? a = some { cls := .type "list", data := .seq its.toArray n }
 | .tup xs => xs.length <= sizeLine /\ ∃ its : List Value, Vals xs its /\ IsTup h a its.toArray
 | .dK kvs => kvs.length <= sizeLine /\ (a == sysModules) = false /\ ∃ vs, KV kvs vs /\ h.DictOf (Z0b P w) a vs
 | .dT kvs => kvs.length <= sizeLine /\ (a == sysModules) = false /\ ∃ xs : List (List Key × Addr × Value),
   Paired (fun (p : List Key × V) (q : List Key × Addr × Value) => p.1 = q.1 /\ H q.2.1 = some (.tup (p.1.map kV)) /\ RelV p.2 q.2.2) kvs xs /\
   ∃ o es ep, h.get? a = some o /\ o.ExactDict /\ o.data = .dict es ep /\ es.toList = xs.map (entryOfKey (tupleKind (Z0b P w))) /\ (xs.map (·.1)).Nodup
 | .set S n => h.SetOf (intKind P w) a S n
 | .ins C dx fs => H dx = some (.own a) /\ fs.length <= 1000 /\ dx ≠ a /\ h.get? a = some (PySem.W.instObj C dx) /\
   ∃ mA, h.Ns1 dx mA /\ (∀ f, RelO (fs.lookup f) (mA f)) /\ PySem.Within mA (fs.map (·.1))
 | .own _ => ∃ o, h.get? a = some o
 | .xd fs => ∃ mA, h.Ns1 a mA /\ ∀ f, RelO (fs.lookup f) (mA f)
 | .rng lo hi => ∃ t u v, h.get? a = some { cls := .type "range", data := .fields #[.int lo t, .int hi u, .int 1 v] }
 | .frz o u => h.get? a = some o /\ Z0r H h a u
 | .tbl ps => h.get? a = some { cls := .none, data := .fields ps }
 | .met f x => h.get? a = some (PySem.W.methodObj (.ref f) (.ref x))
 | .ext φ => φ h /\ (∃ o, h.get? a = some o) /\ ∀ h1 h2 : Heap, φ h1 -> (∀ o, h1.get? a = some o -> h2.get? a = some o) -> φ h2
def HOk (H : Hp) (h : Heap) : Prop := ∀ a o, H a = some o -> Z0r P w H h a o
end
section
variable {P : Program} {w : World} {H H' : Hp} {h h' : Heap} {a : Addr} {o : HO}
theorem Z0r.lt (x : Z0r P w H h a o) : a < h.objs.size := by
 cases o with
 | lst xs => obtain ⟨_, _, _, _, e⟩ := x; exact Heap.lt_size e
 | tup xs => obtain ⟨_, _, _, p⟩ := x; exact p.lt
 | dK kvs => obtain ⟨_, _, _, _, o, _, _, e, _⟩ := x; exact Heap.lt_size e
 | dT kvs => obtain ⟨_, _, _, _, o, _, _, e, _⟩ := x; exact Heap.lt_size e
 | set S n => obtain ⟨o, _, _, _, e, _⟩ := x; exact Heap.lt_size e
 | ins C dx fs => obtain ⟨_, _, _, e, _⟩ := x; exact Heap.lt_size e
 | own y => obtain ⟨_, e⟩ := x; exact Heap.lt_size e
 | xd fs => obtain ⟨_, ⟨_, _, _, e, _⟩, _⟩ := x; exact Heap.lt_size e
 | rng lo hi => obtain ⟨_, _, _, e⟩ := x; exact Heap.lt_size e
 | frz ob u => obtain ⟨e, _⟩ := x; exact Heap.lt_size e
 | tbl ps => exact Heap.lt_size (show h.get? a = some _ from x)
 | met f y => exact Heap.lt_size (show h.get? a = some _ from x)
 | ext φ => obtain ⟨_, ⟨_, e⟩, _⟩ := x; exact Heap.lt_size e
theorem Paired.mapP {α β : Type} {F G : α -> β -> Prop} : ∀ {l₁ : List α} {l₂ : List β}, Paired F l₁ l₂ -> (∀ a b, F a b -> G a b) -> Paired G l₁ l₂
 | _, _, .nil, _ => .nil
 | _, _, .cons r t, f => .cons (f _ _ r) (Paired.mapP t f)
theorem Z0r.stay (x : Z0r P w H h a o) (k : ∀ b u, (b = a \/ H b = some (.own a)) -> h.get? b = some u -> h'.get? b = some u)
  (ho : ∀ b, H b = some (.own a) -> H' b = some (.own a)) (ht : ∀ b xs, H b = some (.tup xs) -> H' b = some (.tup xs)) : Z0r P w H' h' a o := by
 induction o with
 | lst xs => obtain ⟨z, its, n, r, e⟩ := x; exact ⟨z, its, n, r, k _ _ (.inl rfl) e⟩
 | tup xs => obtain ⟨z, its, r, ob, e, c⟩ := x; exact ⟨z, its, r, ob, k _ _ (.inl rfl) e, c⟩
 | dK kvs => obtain ⟨z, y, vs, r, ob, es, ep, e, c⟩ := x; exact ⟨z, y, vs, r, ob, es, ep, k _ _ (.inl rfl) e, c⟩
 | dT kvs =>
  obtain ⟨z, y, xs, r, ob, es, ep, e, c⟩ := x
  exact ⟨z, y, xs, Paired.mapP r fun p q z => ⟨z.1, ht _ _ z.2.1, z.2.2⟩, ob, es, ep, k _ _ (.inl rfl) e, c⟩
 | set S n => obtain ⟨ob, es, ep, t, e, c⟩ := x; exact ⟨ob, es, ep, t, k _ _ (.inl rfl) e, c⟩
 | ins C dx fs =>
  obtain ⟨d, z, ne, e, mA, ⟨od, es, ep, e2, c⟩, r⟩ := x
  exact ⟨ho _ d, z, ne, k _ _ (.inl rfl) e, mA, ⟨od, es, ep, k _ _ (.inr d) e2, c⟩, r⟩
 | own y => obtain ⟨ob, e⟩ := x; exact ⟨ob, k _ _ (.inl rfl) e⟩
 | xd fs => obtain ⟨mA, ⟨od, es, ep, e, c⟩, r⟩ := x; exact ⟨mA, ⟨od, es, ep, k _ _ (.inl rfl) e, c⟩, r⟩
 | rng lo hi => obtain ⟨t, u, v, e⟩ := x; exact ⟨t, u, v, k _ _ (.inl rfl) e⟩
 | frz ob u ih => obtain ⟨e, q⟩ := x; exact ⟨k _ _ (.inl rfl) e, ih q⟩
 | tbl ps =>
  have e : h.get? a = some { cls := .none, data := .fields ps } := x
  show h'.get? a = some { cls := .none, data := .fields ps }
  exact k a _ (.inl rfl) e
 | met f y =>
  have e : h.get? a = some (PySem.W.methodObj (.ref f) (.ref y)) := x
  show h'.get? a = some (PySem.W.methodObj (.ref f) (.ref y))
  exact k a _ (.inl rfl) e
 | ext φ => obtain ⟨p, ⟨o, e⟩, st⟩ := x; exact ⟨st _ _ p fun o q => k _ _ (.inl rfl) q, ⟨o, k _ _ (.inl rfl) e⟩, st⟩
theorem HOk.lt (x : HOk P w H h) (e : H a = some o) : a < h.objs.size := (x a o e).lt
theorem HOk.fresh (x : HOk P w H h) (e : h.objs.size <= a) : H a = none := by
 cases q : H a with
 | none => rfl
 | some u => exact absurd (Nat.lt_of_lt_of_le (x.lt q) e) (Nat.lt_irrefl _)
theorem HOk.kept (x : HOk P w H h) (k : ∀ b u, h.get? b = some u -> h'.get? b = some u) : HOk P w H h' := fun a o e =>
 (x a o e).stay (fun b u ψ q => k b u q) (fun ψ q => q) fun ψ ψ q => q
theorem HOk.laid (x : HOk P w H h) (k : ∀ b u, h.get? b = some u -> h'.get? b = some u) (hp : h.objs.size <= a) (new : Z0r P w (upd H a o) h' a o) : HOk P w (upd H a o) h' := fun b u e => by
 have hn := x.fresh hp
 by_cases hb : b = a
 ·subst hb; rw [Z03] at e; cases e; exact new
 ·rw [Z06 hb] at e
  exact (x b u e).stay (fun c v ψ q => k c v q) (fun c q => by rw [Z06 (Z0c q hn)]; exact q) fun c xs q => by rw [Z06 (Z0c q hn)]; exact q
end
def Rd (H : Hp) (a : Addr) (u : HO) : Prop := H a = some u \/ ∃ o, H a = some (.frz o u)
theorem Rd.of {H : Hp} {a : Addr} {u : HO} (h : H a = some u) : Rd H a u := .inl h
theorem Rd.ok {P : Program} {w : World} {H : Hp} {h : Heap} {a : Addr} {u : HO} (r : Rd H a u) (x : HOk P w H h) : Z0r P w H h a u := by
 rcases r with r | ⟨o, r⟩
 ·exact x a u r
 ·obtain ⟨_, q⟩ := x a _ r
  exact q
def Mut : Option HO -> Prop
 | some (.lst _) => True
 | some (.dK _) => True
 | some (.dT _) => True
 | some (.set _ _) => True
 | some (.ins _ _ _) => True
 | some (.ext _) => True
 | _ => False
section
variable {P : Program} {w : World} {H : Hp} {h h' : Heap} {x e : Addr} {o' : HO}
theorem HOk.write (ok : HOk P w H h) (mu : Mut (H x)) (he : e = x \/ H e = some (.own x)) (k : ∀ b u, b ≠ e -> h.get? b = some u -> h'.get? b = some u) (heo : ∃ u, h'.get? e = some u)
  (new : Z0r P w (upd H x o') h' x o') : HOk P w (upd H x o') h' := fun b u q => by
 have nown : ∀ c y, H c = some (.own y) -> c ≠ x := fun c y r z => by subst z; rw [r] at mu; exact mu
 have ntup : ∀ c xs, H c = some (.tup xs) -> c ≠ x := fun c xs r z => by subst z; rw [r] at mu; exact mu
 by_cases hb : b = x
 ·subst hb; rw [Z03] at q; cases q; exact new
 ·rw [Z06 hb] at q
  by_cases hbe : b = e
  ·have q' : H b = some (.own x) := by
    rcases he with z | z
    ·exact absurd (hbe.trans z) hb
    ·rw [hbe]; exact z
   rw [q] at q'; cases q'
   obtain ⟨v, hv⟩ := heo
   exact ⟨v, by rw [hbe]; exact hv⟩
  ·refine (ok b u q).stay (fun c v hc r => k c v ?_ r) (fun c r => by rw [Z06 (nown c b r)]; exact r) fun c xs r => by rw [Z06 (ntup c xs r)]; exact r
   rcases hc with rfl | hc
   ·exact hbe
   ·rintro rfl
    rcases he with z | z
    ·exact nown c b hc z
    ·rw [hc] at z; cases z; exact hb rfl
end
structure Un (fs ex : List Addr) (H H' : Hp) (h h' : Heap) : Prop where
 keep : ∀ b o, h.get? b = some o -> H b = none -> b ∉ fs -> b ∉ ex -> h'.get? b = some o
 slot : ∀ b o, h.get? b = some o -> H b = none -> b ∈ fs -> b ∉ ex -> ∃ sl, h'.get? b = some { o with slots := sl }
 free : ∀ b o, h.get? b = some o -> H b = none -> b ∉ ex -> H' b = none
 there : ∀ b o, h.get? b = some o -> b ∉ ex -> ∃ o', h'.get? b = some o'
 tups : ∀ b xs, H b = some (.tup xs) -> H' b = some (.tup xs)
 frzs : ∀ b o u, H b = some (.frz o u) -> H' b = some (.frz o u)
 tbls : ∀ b ps, H b = some (.tbl ps) -> ∃ more, H' b = some (.tbl (ps ++ more))
section
variable {fs fs' ex ex' : List Addr} {H H1 H2 : Hp} {h h1 h2 h' : Heap} {a x e : Addr} {o : HO}
theorem Un.any (u : Un fs ex H H1 h h1) {b : Addr} {ob : Obj} (q : h.get? b = some ob) (n : H b = none) (hx : b ∉ ex) : ∃ sl, h1.get? b = some { ob with slots := sl } := by
 by_cases hb : b ∈ fs
 ·exact u.slot b ob q n hb hx
 ·exact ⟨ob.slots, u.keep b ob q n hb hx⟩
theorem Un.trans (a : Un fs ex H H1 h h1) (b : Un fs ex H1 H2 h1 h2) : Un fs ex H H2 h h2 where
 keep := fun c ob q n hc hx => b.keep c ob (a.keep c ob q n hc hx) (a.free c ob q n hx) hc hx
 slot := fun c ob q n hc hx => by
  obtain ⟨sl, e1⟩ := a.slot c ob q n hc hx
  obtain ⟨sl', e2⟩ := b.slot c _ e1 (a.free c ob q n hx) hc hx
  exact ⟨sl', e2⟩
 free := fun c ob q n hx => by
  obtain ⟨o', e1⟩ := a.there c ob q hx
  exact b.free c o' e1 (a.free c ob q n hx) hx
 there := fun c ob q hx => by
  obtain ⟨o', e1⟩ := a.there c ob q hx
  exact b.there c o' e1 hx
 tups := fun c xs q => b.tups c xs (a.tups c xs q)
 frzs := fun c ob xs q => b.frzs c ob xs (a.frzs c ob xs q)
 tbls := fun c ps q => by
  obtain ⟨m1, e1⟩ := a.tbls c ps q
  obtain ⟨m2, e2⟩ := b.tbls c _ e1
  exact ⟨m1 ++ m2, by rw [e2, Array.append_assoc]⟩
theorem Un.kept (k : ∀ b u, h.get? b = some u -> h'.get? b = some u) : Un fs ex H H h h' :=
 ⟨fun b ob q ψ ψ ψ => k b ob q, fun b ob q ψ ψ ψ => ⟨ob.slots, k b ob q⟩, fun ψ ψ ψ n ψ => n, fun b ob q ψ => ⟨ob, k b ob q⟩, fun ψ ψ q => q, fun ψ ψ ψ q => q, fun ψ ps q => ⟨#[], by rw [q]; simp⟩⟩
theorem Un.refl : Un fs ex H H h h := Un.kept fun ψ ψ q => q
theorem Un.laid (k : ∀ b u, h.get? b = some u -> h'.get? b = some u) (hp : h.objs.size <= a) (hn : H a = none) : Un fs ex H (upd H a o) h h' where
 keep := fun b u q ψ ψ ψ => k b u q
 slot := fun b u q ψ ψ ψ => ⟨u.slots, k b u q⟩
 free := fun b u q n ψ => by rw [Z06 (Nat.ne_of_lt (Nat.lt_of_lt_of_le (Heap.lt_size q) hp))]; exact n
 there := fun b u q ψ => ⟨u, k b u q⟩
 tups := fun b xs q => by rw [Z06 (Z0c q hn)]; exact q
 frzs := fun b u xs q => by rw [Z06 (Z0c q hn)]; exact q
 tbls := fun b ps q => ⟨#[], by rw [Z06 (Z0c q hn), q]; simp⟩
theorem Un.write (mu : Mut (H x)) (he : e = x \/ H e = some (.own x)) (k : ∀ b u, b ≠ e -> h.get? b = some u -> h'.get? b = some u) (heo : ∃ u, h'.get? e = some u) : Un fs ex H (upd H x o) h h' := by
 have hx : ∀ b, H b = none -> b ≠ x := fun b n z => by subst z; rw [n] at mu; exact mu
 have hb : ∀ b, H b = none -> b ≠ e := fun b n z => by
  subst z
  rcases he with r | r
  ·exact hx b n r
  ·rw [n] at r; cases r
 have hm : ∀ b u, H b = some u -> ¬ Mut (some u) -> b ≠ x := fun b u q nm z => by subst z; rw [q] at mu; exact nm mu
 refine ⟨fun b u q n ψ ψ => k b u (hb b n) q, fun b u q n ψ ψ => ⟨u.slots, k b u (hb b n) q⟩, fun b u q n ψ => by rw [Z06 (hx b n)]; exact n, fun b u q ψ => ?_,
  fun b xs q => by rw [Z06 (hm b _ q fun z => z)]; exact q, fun b u xs q => by rw [Z06 (hm b _ q fun z => z)]; exact q, fun b ps q => ⟨#[], by rw [Z06 (hm b _ q fun z => z), q]; simp⟩⟩
 by_cases hbe : b = e
 ·subst hbe; exact heo
 ·exact ⟨u, k b u hbe q⟩
theorem Un.mono (u : Un fs ex H H1 h h1) (hs : ∀ b ∈ fs, b ∈ fs') (hx : ∀ b ∈ ex, b ∈ ex') : Un fs' ex' H H1 h h1 :=
 ⟨fun b ob q n hb he => u.keep b ob q n (fun z => hb (hs b z)) fun z => he (hx b z), fun ψ ψ q n ψ he => u.any q n fun z => he (hx _ z), fun b ob q n he => u.free b ob q n fun z => he (hx b z), fun b ob q he => u.there b ob q fun z => he (hx b z), u.tups, u.frzs, u.tbls⟩
end
def trk (h : Heap) (H : Hp) : List Addr := (List.range h.objs.size).filter fun a => (H a).isSome
def hidT (h : Heap) (H : Hp) : Heap := PySem.W.hideAll h (trk h H)
theorem Zar (h : Heap) (H : Hp) : (hidT h H).objs.size = h.objs.size := PySem.W.hideAll_size _ _
theorem Ze1 {h : Heap} {H : Hp} {b : Addr} {o : Obj} (e : h.get? b = some o) (n : H b = none) : (hidT h H).get? b = some o :=
 PySem.W.hideAll_get _ e fun hm => by
  have q : (H b).isSome = true := (List.mem_filter.mp hm).2
  rw [n] at q; simp at q
theorem Zhk {h : Heap} {H : Hp} {b : Addr} {o : Obj} (e : (hidT h H).get? b = some o) : h.get? b = some o /\ H b = none := by
 have e' : h.get? b = some o := PySem.W.of_hideAll (trk h H) e
 refine ⟨e', ?_⟩
 cases q : H b with
 | none => rfl
 | some x =>
  have hm : b ∈ trk h H := List.mem_filter.mpr ⟨List.mem_range.mpr (Heap.lt_size e'), by simp [q]⟩
  have z : (hidT h H).get? b = none := PySem.W.hideAll_none (trk h H) hm
  rw [z] at e; cases e
def Zhl (g h : Heap) (L : Addr) : List (Addr × Obj) := (List.range h.objs.size).filterMap fun a => if a = L \/ (g.get? a).isSome = true then none else (h.get? a).map fun o => (a, o)
def rest (g h : Heap) (L d : Addr) : List (Addr × Obj) := (Zhl g h L).filter fun p => decide (p.1 ≠ d)
structure Mod (K : L2.Fg) (mg : L2.SV) (base : Heap) : Prop where
 kin : K.In base
 glob : base.Ns mainGlobals mg
 blt : ∃ mb, base.Ns builtinsNs mb /\ ∀ x : Str, x ≠ "__name__" -> mb x = bootBuiltins x
 nolimit : base.NoLimit
structure Cx where
 prog : Program
 w : World
 K : PySem.W.Frag
 mg : Str -> Option Value
 base : Heap
 A : Around
 N : List Str
 s₀ : Shared
 H₀ : Hp
 env : Env
 outer : List Env
 stack : List Env
 ex : List Addr
 fn : Str -> Bool
 calm : Bool
 pn : List (Addr × Obj)
 xe : Value -> Shared -> Prop
def frs (l : List Env) : List Addr := l.filterMap (·.frame)
abbrev Cx.fs (X : Cx) : List Addr := frs X.outer
def Vis (sc : Scope) (x : Str) : Prop := sc.names.lookup x = some .local \/ sc.names.lookup x = some .cell \/ sc.names.lookup x = some .free
def Loc (sc : Scope) (x : Str) : Prop := sc.names.lookup x = some .local \/ sc.names.lookup x = some .cell
def Look (env : Env) (h : Heap) (m : L2.SV) (x : Str) (u : Value) : Prop :=
 (env.kindOf x = some .local /\ m x = some u) \/ ((env.kindOf x = some .cell \/ env.kindOf x = some .free) /\ ∃ c, env.cells.lookup x = some c /\ h.IsCell c (some u))
structure Cx.Ok (X : Cx) : Prop where
 mod : Mod X.K X.mg X.base
 kind : X.env.scope.kind = .function
 glob : X.env.globals = mainGlobals
 blt : X.env.builtins = builtinsNs
 above : X.s₀.heap.objs.size <= X.env.locals
 inj : ∀ x y c, X.env.cells.lookup x = some c -> X.env.cells.lookup y = some c -> x = y
 has : ∀ x, (X.env.kindOf x = some .cell \/ X.env.kindOf x = some .free) -> ∃ c, X.env.cells.lookup x = some c
 cab : ∀ x c, X.fn x = true -> X.env.cells.lookup x = some c -> X.s₀.heap.objs.size <= c
 hd : X.calm = true -> X.A.handled = none
 frames : X.A.frames = some X.stack
 stk : X.stack = X.outer \/ (X.stack = X.env :: X.outer /\ X.env.frame = some X.env.locals)
 exf : ∀ b ∈ X.ex, b ≠ X.env.locals /\ ∀ x c, X.env.cells.lookup x = some c -> c ≠ b
 bs : ∀ b o, X.base.get? b = some o -> X.s₀.heap.get? b = some o /\ X.H₀ b = none
 bsz : X.base.objs.size <= X.s₀.heap.objs.size
 noex : ∀ b o, X.base.get? b = some o -> b ∉ X.ex
 exfs : ∀ b ∈ X.ex, b ∉ X.fs
 funs : X.s₀.heap.FunFrames X.base X.outer
 frf : ∀ b ∈ X.fs, X.H₀ b = none
structure Inv (X : Cx) (pins : L2.AO) (σ : List (Option V)) (H : Hp) (s : Shared) : Prop where
 ok : X.Ok
 os : s.os = X.s₀.os
 bare : AllBare s.gens
 base : Un X.fs X.ex X.H₀ H X.s₀.heap s.heap
 loc : ∃ m, s.heap.Ns X.env.locals m /\ ∀ (i : Nat) (x : Str) (v : V), X.N[i]? = some x -> σ[i]? = some (some v) -> Vis X.env.scope x -> ∃ u, RelV v u /\ Look X.env s.heap m x u
 cell : ∀ x c, X.env.cells.lookup x = some c -> ∃ v, s.heap.IsCell c v
 free : H X.env.locals = none
 freeC : ∀ x c, X.env.cells.lookup x = some c -> H c = none
 pin : ∀ p ∈ X.pn ++ pins, s.heap.get? p.1 = some p.2 /\ H p.1 = none /\ p.1 ≠ X.env.locals /\ p.1 ∉ X.fs /\ ∀ v, p.2.data ≠ .cell v
 hok : HOk X.prog X.w H s.heap
 len : σ.length = X.N.length
section
variable {X : Cx} {pins : L2.AO} {σ : List (Option V)} {H H' : Hp} {s : Shared} {h' : Heap}
theorem Cx.Ok.nofr (ok : X.Ok) {b : Addr} {o : Obj} (e : X.base.get? b = some o) : b ∉ X.fs := fun hb => by
 have := (ok.funs.mem hb).1
 rw [e] at this; cases this
theorem Inv.bs (I : Inv X pins σ H s) : ∀ b o, X.base.get? b = some o -> s.heap.get? b = some o /\ H b = none := fun b o e =>
 ⟨I.base.keep b o (I.ok.bs b o e).1 (I.ok.bs b o e).2 (I.ok.nofr e) (I.ok.noex b o e), I.base.free b o (I.ok.bs b o e).1 (I.ok.bs b o e).2 (I.ok.noex b o e)⟩
theorem Inv.bk (I : Inv X pins σ H s) : ∀ b o, X.base.get? b = some o -> s.heap.get? b = some o := fun b o e => (I.bs b o e).1
theorem Inv.mod (I : Inv X pins σ H s) : Mod X.K X.mg X.base := I.ok.mod
theorem Inv.kIn (I : Inv X pins σ H s) : X.K.In s.heap := I.ok.mod.kin.keeps I.bk
theorem Inv.nolimit (I : Inv X pins σ H s) : s.heap.NoLimit := I.ok.mod.nolimit.keeps I.bk
theorem Inv.fr (I : Inv X pins σ H s) : ∃ m, Fr X.base X.env.locals s.heap m :=
 let ⟨m, hn, _⟩ := I.loc
 ⟨m, hn, I.bk, Nat.le_trans I.ok.bsz I.ok.above⟩
theorem Inv.lt (I : Inv X pins σ H s) : X.env.locals < s.heap.objs.size := let ⟨_, hn, _⟩ := I.loc; hn.lt
theorem Inv.sz (I : Inv X pins σ H s) : X.s₀.heap.objs.size <= s.heap.objs.size := Nat.le_trans I.ok.above (Nat.le_of_lt I.lt)
theorem Inv.nofs (I : Inv X pins σ H s) {a : Addr} (h : s.heap.objs.size <= a) : a ∉ X.fs := fun hb => by
 obtain ⟨_, o, ho, _⟩ := I.ok.funs.mem hb
 exact absurd (Nat.lt_of_lt_of_le (Heap.lt_size ho) (Nat.le_trans I.sz h)) (Nat.lt_irrefl _)
theorem Inv.cne (I : Inv X pins σ H s) : ∀ x c, X.env.cells.lookup x = some c -> c ≠ X.env.locals := fun x c e z => by
 obtain ⟨v, o, ho, hd⟩ := I.cell x c e
 obtain ⟨m, ⟨o', es, ep, ho', hd', _⟩, _⟩ := I.loc
 rw [z, ho'] at ho; cases ho; rw [hd'] at hd; cases hd
theorem Inv.funs (I : Inv X pins σ H s) : s.heap.FunFrames X.base X.outer := by
 have all : ∀ (l : List Env), (∀ b ∈ frs l, b ∈ X.fs) -> X.s₀.heap.FunFrames X.base l -> s.heap.FunFrames X.base l := by
  intro l
  induction l with
  | nil => intro ψ ψ; trivial
  | cons env r ih =>
   intro hs hl
   obtain ⟨hk, ⟨L, o, hf, hn, ho, hd⟩, hr⟩ := hl
   have hL : L ∈ X.fs := hs L (by unfold frs; rw [List.filterMap_cons, hf]; exact List.mem_cons_self)
   obtain ⟨sl, e⟩ := I.base.slot L o ho (I.ok.frf L hL) hL fun z => I.ok.exfs L z hL
   exact ⟨hk, ⟨L, _, hf, hn, e, hd⟩, ih (fun b hb => hs b (by unfold frs; rw [List.filterMap_cons, hf]; exact List.mem_cons_of_mem _ hb)) hr⟩
 exact all X.outer (fun ψ hb => hb) I.ok.funs
theorem Inv.stack (I : Inv X pins σ H s) : s.heap.FunFrames X.base X.stack := by
 rcases I.ok.stk with e | ⟨e, hf⟩
 ·rw [e]; exact I.funs
 ·rw [e]
  obtain ⟨m, hn, _⟩ := I.loc
  refine .cons (by rw [I.ok.kind]; decide) hf hn ?_ I.funs
  exact Heap.get?_none_of_le (Nat.le_trans I.ok.bsz I.ok.above)
theorem Inv.stkSub (I : Inv X pins σ H s) : ∀ b ∈ frs X.stack, b ∈ X.env.locals :: X.fs := fun b hb => by
 rcases I.ok.stk with e | ⟨e, hf⟩
 ·rw [e] at hb; exact List.mem_cons_of_mem _ hb
 ·rw [e] at hb
  unfold frs at hb
  rw [List.filterMap_cons, hf] at hb
  exact hb
theorem Inv.stkFree (I : Inv X pins σ H s) : ∀ b ∈ frs X.stack, H b = none := fun b hb => by
 rcases List.mem_cons.mp (I.stkSub b hb) with e | hb
 ·rw [e]; exact I.free
 ·obtain ⟨_, o, ho, _⟩ := I.ok.funs.mem hb
  exact I.base.free b o ho (I.ok.frf b hb) fun z => I.ok.exfs b z hb
theorem Inv.step {g' : Array GenState} {t' : Nat} {d' : Drawn} {ch : List Addr} (I : Inv X pins σ H s)
  (hch : ∀ b ∈ ch, (b ∈ X.ex \/ X.s₀.heap.objs.size <= b) /\ b ≠ X.env.locals /\ (∀ x c, X.env.cells.lookup x = some c -> c ≠ b) /\ ∀ p ∈ X.pn ++ pins, p.1 ≠ b)
  (keep : ∀ b o, b ≠ X.env.locals -> b ∉ X.fs -> b ∉ ch -> s.heap.get? b = some o -> H b = none -> h'.get? b = some o)
  (slot : ∀ b o, b ≠ X.env.locals -> b ∈ X.fs -> b ∉ ch -> s.heap.get? b = some o -> H b = none -> ∃ sl, h'.get? b = some { o with slots := sl }) (free : ∀ b o, b ∉ ch -> s.heap.get? b = some o -> H b = none -> H' b = none)
  (there : ∀ b o, b ∉ ch -> s.heap.get? b = some o -> ∃ o', h'.get? b = some o')
  (tups : ∀ b xs, H b = some (.tup xs) -> H' b = some (.tup xs)) (frzs : ∀ b o u, H b = some (.frz o u) -> H' b = some (.frz o u)) (tbls : ∀ b ps, H b = some (.tbl ps) -> ∃ more, H' b = some (.tbl (ps ++ more)))
  (ns : ∀ m, s.heap.Ns X.env.locals m -> h'.Ns X.env.locals m) (hok : HOk X.prog X.w H' h') (hg : AllBare g') :
  Inv X pins σ H' { s with heap := h', gens := g', drawn := d', toks := t' } := by
 have neL : ∀ b o, X.s₀.heap.get? b = some o -> b ≠ X.env.locals := fun b o e => Nat.ne_of_lt (Nat.lt_of_lt_of_le (Heap.lt_size e) I.ok.above)
 have neC : ∀ b o, X.s₀.heap.get? b = some o -> b ∉ X.ex -> b ∉ ch := fun b o e hx hb => by
  rcases (hch b hb).1 with z | z
  ·exact hx z
  ·exact absurd (Nat.lt_of_lt_of_le (Heap.lt_size e) z) (Nat.lt_irrefl _)
 have cellK : ∀ x c, X.env.cells.lookup x = some c -> ∀ v, s.heap.IsCell c v -> h'.IsCell c v := fun x c e v ⟨o, ho, hd⟩ => by
  have nch : c ∉ ch := fun z => (hch c z).2.2.1 x c e rfl
  by_cases hc : c ∈ X.fs
  ·obtain ⟨sl, q⟩ := slot c o (I.cne x c e) hc nch ho (I.freeC x c e)
   exact ⟨_, q, hd⟩
  ·exact ⟨o, keep c o (I.cne x c e) hc nch ho (I.freeC x c e), hd⟩
 refine ⟨I.ok, I.os, hg, ⟨fun b o e n hb hx => ?_, fun b o e n hb hx => ?_, fun b o e n hx => ?_, fun b o e hx => ?_, fun b xs e => tups b xs (I.base.tups b xs e), fun b o xs e => frzs b o xs (I.base.frzs b o xs e), fun b ps e => ?_⟩, ?_, fun x c e => ?_, ?_, fun x c e => ?_, fun p hp => ?_, hok, I.len⟩
 ·exact keep b o (neL b o e) hb (neC b o e hx) (I.base.keep b o e n hb hx) (I.base.free b o e n hx)
 ·obtain ⟨sl, e1⟩ := I.base.slot b o e n hb hx
  obtain ⟨sl', e2⟩ := slot b _ (neL b o e) hb (neC b o e hx) e1 (I.base.free b o e n hx)
  exact ⟨sl', e2⟩
 ·obtain ⟨o', e1⟩ := I.base.there b o e hx
  exact free b o' (neC b o e hx) e1 (I.base.free b o e n hx)
 ·obtain ⟨o', e1⟩ := I.base.there b o e hx
  exact there b o' (neC b o e hx) e1
 ·obtain ⟨m1, e1⟩ := I.base.tbls b ps e
  obtain ⟨m2, e2⟩ := tbls b _ e1
  exact ⟨m1 ++ m2, by rw [e2, Array.append_assoc]⟩
 ·obtain ⟨m, hn, hl⟩ := I.loc
  refine ⟨m, ns m hn, fun i x v e1 e2 e3 => ?_⟩
  obtain ⟨u, r, l⟩ := hl i x v e1 e2 e3
  refine ⟨u, r, ?_⟩
  rcases l with l | ⟨k, c, e, z⟩
  ·exact .inl l
  ·exact .inr ⟨k, c, e, cellK x c e _ z⟩
 ·obtain ⟨v, z⟩ := I.cell x c e
  exact ⟨v, cellK x c e v z⟩
 ·obtain ⟨m, ⟨o, _, _, ho, _⟩, _⟩ := I.loc
  exact free _ o (fun z => (hch _ z).2.1 rfl) ho I.free
 ·obtain ⟨v, o, ho, hd⟩ := I.cell x c e
  exact free c o (fun z => (hch c z).2.2.1 x c e rfl) ho (I.freeC x c e)
 ·obtain ⟨e, n, ne, nf, d⟩ := I.pin p hp
  have nch : p.1 ∉ ch := fun z => (hch p.1 z).2.2.2 p hp rfl
  exact ⟨keep p.1 p.2 ne nf nch e n, free p.1 p.2 nch e n, ne, nf, d⟩
theorem Inv.un {t' : Nat} (I : Inv X pins σ H s) (u : Un X.fs [] H H' s.heap h') (hok : HOk X.prog X.w H' h') : Inv X pins σ H' { s with heap := h', toks := t' } := by
 obtain ⟨m, ⟨o, es, ep, ho, r⟩, _⟩ := id I.loc
 obtain ⟨sl, hL⟩ := u.any ho I.free (by simp)
 exact I.step (g' := s.gens) (d' := s.drawn) (ch := []) (fun ψ z => nomatch z) (fun b o ψ hb ψ e n => u.keep b o e n hb (by simp)) (fun b o ψ hb ψ e n => u.slot b o e n hb (by simp)) (fun b o ψ e n => u.free b o e n (by simp)) (fun b o ψ e => u.there b o e (by simp)) u.tups u.frzs u.tbls (fun m' hm => by
  obtain ⟨o', es', ep', ho', r'⟩ := hm
  rw [ho] at ho'; cases ho'
  exact ⟨_, es', ep', hL, r'⟩) hok I.bare
theorem Inv.call {g' : Array GenState} {t' : Nat} {d' : Drawn} {ch : List Addr} (I : Inv X pins σ H s) (u : Un (frs X.stack) ch H H' s.heap h') (hok : HOk X.prog X.w H' h') (hg : AllBare g')
  (hch : ∀ b ∈ ch, (b ∈ X.ex \/ X.s₀.heap.objs.size <= b) /\ b ≠ X.env.locals /\ (∀ x c, X.env.cells.lookup x = some c -> c ≠ b) /\ ∀ p ∈ X.pn ++ pins, p.1 ≠ b) :
  Inv X pins σ H' { s with heap := h', gens := g', drawn := d', toks := t' } := by
 obtain ⟨m, ⟨o, es, ep, ho, r⟩, _⟩ := id I.loc
 obtain ⟨sl, hL⟩ := u.any ho I.free fun z => (hch _ z).2.1 rfl
 exact I.step (ch := ch) hch (fun b o hL hb hc e n => u.keep b o e n (fun z => (List.mem_cons.mp (I.stkSub b z)).elim hL hb) hc) (fun b o ψ ψ hc e n => u.any e n hc) (fun b o hc e n => u.free b o e n hc) (fun b o hc e => u.there b o e hc) u.tups u.frzs u.tbls (fun m' hm => by
  obtain ⟨o', es', ep', ho', r'⟩ := hm
  rw [ho] at ho'; cases ho'
  exact ⟨_, es', ep', hL, r'⟩) hok hg
theorem Inv.turned {t' : Nat} {it : Addr} (I : Inv X pins σ H s) (k : ∀ b o, b ≠ it -> s.heap.get? b = some o -> h'.get? b = some o) (hn : H it = none) (hL : it ≠ X.env.locals)
  (h1 : it ∈ X.ex \/ X.s₀.heap.objs.size <= it) (h2 : ∀ x c, X.env.cells.lookup x = some c -> c ≠ it) (h3 : ∀ p ∈ X.pn ++ pins, p.1 ≠ it) : Inv X pins σ H { s with heap := h', toks := t' } := by
 have nit : ∀ b u, H b = some u -> b ≠ it := fun b u e z => by rw [z, hn] at e; cases e
 refine I.step (g' := s.gens) (d' := s.drawn) (ch := [it]) (fun b hb => ?_) (fun b o ψ ψ hc e ψ => k b o (fun z => hc (by simp [z])) e) (fun b o ψ ψ hc e ψ => ⟨o.slots, k b o (fun z => hc (by simp [z])) e⟩) (fun ψ ψ ψ ψ n => n)
  (fun b o hc e => ⟨o, k b o (fun z => hc (by simp [z])) e⟩) (fun ψ ψ e => e) (fun ψ ψ ψ e => e) (fun b ps e => ⟨#[], by rw [e]; simp⟩) (fun m hm => ?_) (fun b u e => ?_) I.bare
 ·have e : b = it := by simpa using hb
  subst e
  exact ⟨h1, hL, h2, h3⟩
 ·obtain ⟨o, es, ep, ho, r⟩ := hm
  exact ⟨o, es, ep, k _ o (Ne.symm hL) ho, r⟩
 ·refine (I.hok b u e).stay (fun c v hc q => k c v ?_ q) (fun ψ q => q) fun ψ ψ q => q
  rcases hc with z | z
  ·rw [z]; exact nit b u e
  ·exact nit c _ z
theorem Inv.tok (I : Inv X pins σ H s) (t : Nat) : Inv X pins σ H { s with toks := t } := I.un (h' := s.heap) (t' := t) Un.refl I.hok
theorem Inv.kept {t' : Nat} (I : Inv X pins σ H s) (k : ∀ b u, s.heap.get? b = some u -> h'.get? b = some u) : Inv X pins σ H { s with heap := h', toks := t' } := I.un (Un.kept k) (I.hok.kept k)
theorem Inv.laid {a : Addr} {o : HO} {t' : Nat} (I : Inv X pins σ H s) (k : ∀ b u, s.heap.get? b = some u -> h'.get? b = some u) (hp : s.heap.objs.size <= a) (new : Z0r X.prog X.w (upd H a o) h' a o) :
  Inv X pins σ (upd H a o) { s with heap := h', toks := t' } := I.un (Un.laid k hp (I.hok.fresh hp)) (I.hok.laid k hp new)
theorem Inv.write {x e : Addr} {o : HO} {t' : Nat} (I : Inv X pins σ H s) (mu : Mut (H x)) (he : e = x \/ H e = some (.own x)) (k : ∀ b u, b ≠ e -> s.heap.get? b = some u -> h'.get? b = some u) (heo : ∃ u, h'.get? e = some u)
  (new : Z0r X.prog X.w (upd H x o) h' x o) : Inv X pins σ (upd H x o) { s with heap := h', toks := t' } := I.un (Un.write mu he k heo) (I.hok.write mu he k heo new)
theorem Inv.pins_of {pins' : L2.AO} (I : Inv X pins σ H s) (h : ∀ p ∈ pins', s.heap.get? p.1 = some p.2 /\ H p.1 = none /\ p.1 ≠ X.env.locals /\ p.1 ∉ X.fs /\ ∀ v, p.2.data ≠ .cell v) : Inv X pins' σ H s :=
 ⟨I.ok, I.os, I.bare, I.base, I.loc, I.cell, I.free, I.freeC, fun p hp => (List.mem_append.mp hp).elim (fun z => I.pin p (List.mem_append_left _ z)) (h p), I.hok, I.len⟩
theorem Z8h {N : List Str} (hN : N.Nodup) {i j : Nat} {x : Str} (a : N[i]? = some x) (b : N[j]? = some x) : i = j := by
 obtain ⟨h1, e1⟩ := List.getElem?_eq_some_iff.mp a
 obtain ⟨h2, e2⟩ := List.getElem?_eq_some_iff.mp b
 exact (List.getElem_inj hN).mp (e1.trans e2.symm)
theorem Zas {M : Model} {A : Around} {E : L2.VSP} {i : Nat} {x : Str} {v : V} {u : Value} {Q : Unit -> Shared -> Prop} (I : Inv X pins σ H s) (hN : X.N.Nodup) (hi : X.N[i]? = some x) (hx : Loc X.env.scope x) (r : RelV v u)
  (h : ∀ s', Inv X pins (σ.set i (some v)) H s' -> (∃ a, Heap.SameBut a s.heap s'.heap /\ (a = X.env.locals \/ X.env.cells.lookup x = some a)) -> Q () s') (hf : X.fn x = true \/ X.env.scope.names.lookup x = some .local := by first | exact .inl rfl | exact .inr rfl | assumption) : wpAny M A (storeName X.env x u) Q E s := by
 obtain ⟨m, hn, hl⟩ := id I.loc
 have hcls : (X.env.scope.kind == .class || (X.env.scope.kind == .module && X.env.locals != X.env.globals)) = false := by rw [I.ok.kind]; rfl
 have hiσ : i < σ.length := by rw [I.len]; exact (List.getElem?_eq_some_iff.mp hi).1
 have cne := I.cne
 have tracked : ∀ {a : Addr} {h' : Heap}, (∃ o, s.heap.get? a = some o /\ H a = none) -> Heap.SameBut a s.heap h' -> HOk X.prog X.w H h' := fun {a h'} ha hs b ob e => by
  obtain ⟨_, _, hfree⟩ := ha
  refine (I.hok b ob e).stay (fun c w' hc q => (hs.2 c ?_).trans q) (fun ψ q => q) fun ψ ψ q => q
  rintro rfl
  rcases hc with rfl | hc
  ·rw [hfree] at e; cases e
  ·rw [hfree] at hc; cases hc
 rcases hx with hk | hk
 ·refine wpAny_storeName_local hk hn (fun h' hn' hs => ?_) hcls
  obtain ⟨oL, _, _, hoL, _⟩ := id hn
  refine h _ ⟨I.ok, I.os, I.bare, ⟨fun b o e n hb hx => ?_, fun b o e n hb hx => ?_, I.base.free, fun b o e hx => ?_, I.base.tups, I.base.frzs, I.base.tbls⟩, ⟨_, hn', fun j y v' e1 e2 e3 => ?_⟩, fun y c e => ?_, I.free, I.freeC, fun p hp => ?_, tracked ⟨oL, hoL, I.free⟩ hs, by simpa using I.len⟩ ⟨_, hs, .inl rfl⟩
  ·exact (hs.2 b (Nat.ne_of_lt (Nat.lt_of_lt_of_le (Heap.lt_size e) I.ok.above))).trans (I.base.keep b o e n hb hx)
  ·obtain ⟨sl, e1⟩ := I.base.slot b o e n hb hx
   exact ⟨sl, (hs.2 b (Nat.ne_of_lt (Nat.lt_of_lt_of_le (Heap.lt_size e) I.ok.above))).trans e1⟩
  ·obtain ⟨o', e1⟩ := I.base.there b o e hx
   exact ⟨o', (hs.2 b (Nat.ne_of_lt (Nat.lt_of_lt_of_le (Heap.lt_size e) I.ok.above))).trans e1⟩
  ·by_cases hj : j = i
   ·subst hj
    rw [hi] at e1; cases e1
    rw [List.getElem?_set_self hiσ] at e2
    cases e2
    exact ⟨u, r, .inl ⟨hk, by simp⟩⟩
   ·rw [List.getElem?_set_ne (Ne.symm hj)] at e2
    obtain ⟨u', r', q⟩ := hl j y v' e1 e2 e3
    refine ⟨u', r', ?_⟩
    rcases q with ⟨k, e⟩ | ⟨k, c, e, z⟩
    ·refine .inl ⟨k, ?_⟩
     have : y ≠ x := fun e => hj (Z8h hN e1 (e ▸ hi))
     simp [this, e]
    ·exact .inr ⟨k, c, e, z.sameBut hs (cne y c e)⟩
  ·obtain ⟨w', z⟩ := I.cell y c e
   exact ⟨w', z.sameBut hs (cne y c e)⟩
  ·obtain ⟨e, n, ne, nf, d⟩ := I.pin p hp
   exact ⟨(hs.2 p.1 ne).trans e, n, ne, nf, d⟩
 ·have hfn : X.fn x = true := by
   rcases hf with z | z
   ·exact z
   ·rw [z] at hk; cases hk
  obtain ⟨c, hc⟩ := I.ok.has x (.inl hk)
  obtain ⟨w', z⟩ := I.cell x c hc
  refine wpAny_storeName_cell I.ok.kind hk hc z (fun h' hc' hs => ?_)
  obtain ⟨oc, hoc, hocd⟩ := id z
  refine h { s with heap := h' } ⟨I.ok, I.os, I.bare, ⟨fun b o e n hb hx => ?_, fun b o e n hb hx => ?_, I.base.free, fun b o e hx => ?_, I.base.tups, I.base.frzs, I.base.tbls⟩, ⟨m, hn.sameBut hs (Ne.symm (cne x c hc)), fun j y v' e1 e2 e3 => ?_⟩, fun y c' e => ?_, I.free, I.freeC, fun p hp => ?_, tracked ⟨oc, hoc, I.freeC x c hc⟩ hs, by simpa using I.len⟩ ⟨c, hs, .inr hc⟩
  ·exact (hs.2 b (Nat.ne_of_lt (Nat.lt_of_lt_of_le (Heap.lt_size e) (I.ok.cab x c hfn hc)))).trans (I.base.keep b o e n hb hx)
  ·obtain ⟨sl, e1⟩ := I.base.slot b o e n hb hx
   exact ⟨sl, (hs.2 b (Nat.ne_of_lt (Nat.lt_of_lt_of_le (Heap.lt_size e) (I.ok.cab x c hfn hc)))).trans e1⟩
  ·obtain ⟨o', e1⟩ := I.base.there b o e hx
   exact ⟨o', (hs.2 b (Nat.ne_of_lt (Nat.lt_of_lt_of_le (Heap.lt_size e) (I.ok.cab x c hfn hc)))).trans e1⟩
  ·by_cases hj : j = i
   ·subst hj
    rw [hi] at e1; cases e1
    rw [List.getElem?_set_self hiσ] at e2
    cases e2
    exact ⟨u, r, .inr ⟨.inl hk, c, hc, hc'⟩⟩
   ·rw [List.getElem?_set_ne (Ne.symm hj)] at e2
    obtain ⟨u', r', q⟩ := hl j y v' e1 e2 e3
    refine ⟨u', r', ?_⟩
    rcases q with q | ⟨k, c', e, z'⟩
    ·exact .inl q
    ·refine .inr ⟨k, c', e, z'.sameBut hs ?_⟩
     rintro rfl
     exact hj (Z8h hN e1 (I.ok.inj _ _ _ e hc ▸ hi))
  ·by_cases hcc : c' = c
   ·subst hcc; exact ⟨_, hc'⟩
   ·obtain ⟨w2, z2⟩ := I.cell y c' e
    exact ⟨w2, z2.sameBut hs hcc⟩
  ·obtain ⟨e, n, ne, nf, d⟩ := I.pin p hp
   refine ⟨(hs.2 p.1 ?_).trans e, n, ne, nf, d⟩
   intro q
   rw [q, hoc] at e
   have q' : oc = p.2 := Option.some.inj e
   exact d w' (by rw [<- q']; exact hocd)
theorem Z8i {M : Model} {A : Around} {E : L2.VSP} {i : Nat} {x : Str} {v : V} {u : Value} {Q : Unit -> Shared -> Prop} (I : Inv X pins σ H s) (hN : X.N.Nodup) (hi : X.N[i]? = some x) (hx : Loc X.env.scope x) (r : RelV v u)
  (h : ∀ s', Inv X pins (σ.set i (some v)) H s' -> Q () s') (hf : X.fn x = true \/ X.env.scope.names.lookup x = some .local := by first | exact .inl rfl | exact .inr rfl | assumption) : wpAny M A (storeName X.env x u) Q E s :=
 Zas I hN hi hx r (fun s' I' ψ => h s' I') hf
theorem Inv.call' {s' : Shared} {ch : List Addr} (I : Inv X pins σ H s) (ho : s'.os = s.os) (u : Un (frs X.stack) ch H H' s.heap s'.heap) (hok : HOk X.prog X.w H' s'.heap) (hg : AllBare s'.gens)
  (hch : ∀ b ∈ ch, (b ∈ X.ex \/ X.s₀.heap.objs.size <= b) /\ b ≠ X.env.locals /\ (∀ x c, X.env.cells.lookup x = some c -> c ≠ b) /\ ∀ p ∈ X.pn ++ pins, p.1 ≠ b) : Inv X pins σ H' s' := by
 obtain ⟨h', g', d', t', o'⟩ := s'
 have e : o' = s.os := ho
 subst e
 exact I.call (g' := g') (t' := t') (d' := d') u hok hg hch
end
abbrev XK := Value -> Option Addr -> Hp -> Prop
abbrev St := List (Option V)
abbrev VK := V -> Hp -> Prop
abbrev TE := St -> Hp -> VK -> Prop
abbrev TT := St -> Hp -> (Bool -> Hp -> Prop) -> Prop
abbrev TA := St -> Hp -> (List V -> Hp -> Prop) -> Prop
structure Ends where
 nx : St -> Hp -> Prop
 rt : VK
 bk : St -> Hp -> Prop := fun ψ ψ => False
 ct : St -> Hp -> Prop := fun ψ ψ => False
abbrev TS := Ends -> St -> Hp -> Prop
def EP (X : Cx) (pins : L2.AO) (σ : St) (Q : VK) (u : Value) (s' : Shared) : Prop := ∃ v H', Inv X pins σ H' s' /\ RelV v u /\ Q v H'
def TP (X : Cx) (pins : L2.AO) (σ : St) (Q : Bool -> Hp -> Prop) (b : Bool) (s' : Shared) : Prop := ∃ H', Inv X pins σ H' s' /\ Q b H'
def AP (X : Cx) (pins : L2.AO) (σ : St) (Q : List V -> Hp -> Prop) (us : List Value) (s' : Shared) : Prop := ∃ vs H', Inv X pins σ H' s' /\ Vals vs us /\ Q vs H'
def SP (X : Cx) (pins : L2.AO) (D : Ends) (f : Flow) (s' : Shared) : Prop :=
 match f with
 | .next => ∃ σ' H', Inv X pins σ' H' s' /\ D.nx σ' H'
 | .brk => ∃ σ' H', Inv X pins σ' H' s' /\ D.bk σ' H'
 | .cont => ∃ σ' H', Inv X pins σ' H' s' /\ D.ct σ' H'
 | .ret u => ∃ v σ' H', Inv X pins σ' H' s' /\ RelV v u /\ D.rt v H'
def PE (X : Cx) (e : Expr) (t : TE) : Prop :=
 ∀ (pins : L2.AO) (s : Shared) (σ : St) (H : Hp) (Q : VK), Inv X pins σ H s -> t σ H Q -> wpAny (model X.prog X.w) X.A (eval e X.env) (EP X pins σ Q) X.xe s
def PT (X : Cx) (e : Expr) (t : TT) : Prop :=
 ∀ (pins : L2.AO) (s : Shared) (σ : St) (H : Hp) (Q : Bool -> Hp -> Prop), Inv X pins σ H s -> t σ H Q -> wpAny (model X.prog X.w) X.A (isTrue e X.env (eval e X.env)) (TP X pins σ Q) X.xe s
def PW (X : Cx) (e : Expr) (t : TT) : Prop :=
 ∀ (whole : Sem Value) (pins : L2.AO) (s : Shared) (σ : St) (H : Hp) (Q : Bool -> Hp -> Prop), Inv X pins σ H s -> t σ H Q -> wpAny (model X.prog X.w) X.A (isTrue e X.env whole) (TP X pins σ Q) X.xe s
theorem PW.pt {X : Cx} {e : Expr} {t : TT} (h : PW X e t) : PT X e t := h _
def PA (X : Cx) (es : List Expr) (t : TA) : Prop :=
 ∀ (pos : Pos) (pins : L2.AO) (s : Shared) (σ : St) (H : Hp) (Q : List V -> Hp -> Prop), Inv X pins σ H s -> t σ H Q -> wpAny (model X.prog X.w) X.A (spliced (backTo pos (starEach es X.env))) (AP X pins σ Q) X.xe s
def PS (X : Cx) (st : Stmt) (t : TS) : Prop :=
 ∀ (pins : L2.AO) (s : Shared) (σ : St) (H : Hp) (D : Ends), Inv X pins σ H s -> t D σ H -> wpAny (model X.prog X.w) X.A (exec st X.env) (SP X pins D) X.xe s
def PSs (X : Cx) (st : List Stmt) (t : TS) : Prop :=
 ∀ (pins : L2.AO) (s : Shared) (σ : St) (H : Hp) (D : Ends), Inv X pins σ H s -> t D σ H -> wpAny (model X.prog X.w) X.A (execs st X.env) (SP X pins D) X.xe s
theorem thn {α : Type} {t : Sem α} {Q Q' : α -> Shared -> Prop} {M : Model} {A : Around} {E : L2.VSP} {s : Shared} (h : wpAny M A t Q E s) (hQ : ∀ a s, Q a s -> Q' a s) : wpAny M A t Q' E s := wpAny_mono h hQ fun ψ ψ x => x
section
variable {X : Cx}
theorem bin {a b : Expr} {ta tb : TE} (ha : PE X a ta) (hb : PE X b tb) {pins : L2.AO} {s : Shared} {σ : St} {H : Hp} {R : V -> V -> Hp -> Prop} (I : Inv X pins σ H s) (h : ta σ H fun x H1 => tb σ H1 fun y H2 => R x y H2)
  {α : Type} {Q : α -> Shared -> Prop} {f : Value -> Value -> Sem α}
  (hf : ∀ v u s2 x y H2, Inv X pins σ H2 s2 -> RelV x v -> RelV y u -> R x y H2 -> wpAny (model X.prog X.w) X.A (f v u) Q X.xe s2) :
  wpAny (model X.prog X.w) X.A (eval a X.env) (fun v s₁ => wpAny (model X.prog X.w) X.A (eval b X.env) (fun u s₂ => wpAny (model X.prog X.w) X.A (f v u) Q X.xe s₂) X.xe s₁) X.xe s := by
 refine thn (ha pins s σ H _ I h) fun v s1 ⟨x, H1, I1, r1, q1⟩ => ?_
 refine thn (hb pins s1 σ H1 _ I1 q1) fun u s2 ⟨y, H2, I2, r2, q2⟩ => ?_
 exact hf v u s2 x y H2 I2 r1 r2 q2
def tVar (i : Nat) : TE := fun σ H Q => ∃ v, σ[i]? = some (some v) /\ Q v H
def tC (v : V) : TE := fun ψ H Q => Q v H
theorem Z10 {i : Nat} {x : Str} {pos : Pos} (hN : X.N[i]? = some x) (hv : Vis X.env.scope x) (hd : (x == ("__debug__" : Str)) = false := by decide) (hcd : (x == ("__classdict__" : Str)) = false := by decide) : PE X (.Name x pos) (tVar i) := by
 intro pins s σ H Q I h
 obtain ⟨v, e, h⟩ := h
 obtain ⟨m, hn, hl⟩ := I.loc
 obtain ⟨u, r, l⟩ := hl i x v hN e hv
 have fin : EP X pins σ Q u s := ⟨v, H, I, r, h⟩
 rcases l with ⟨hk, hm⟩ | ⟨hk, c, hc, hcell⟩
 ·exact wpAny_Name (wpAny_loadName_local I.ok.kind hk hn hm fin) hd
 ·rcases hk with hk | hk
  ·exact wpAny_Name (wpAny_loadName_cell I.ok.kind hk hc hcell fin) hd
  ·exact wpAny_Name (wpAny_loadName_free I.ok.kind hk hc hcell fin hcd) hd
theorem Z4h {i j pos} : PE X (.Constant (.int i) j pos) (tC (.int i)) := fun ψ ψ ψ H ψ I h => wpAny_Constant_int ⟨.int i, H, I.tok _, ⟨_, rfl⟩, h⟩
theorem Zpr {b j pos} : PE X (.Constant (.bool b) j pos) (tC (.bl b)) := fun ψ ψ ψ H ψ I h => Constant_bool ⟨.bl b, H, I, rfl, h⟩
theorem Zko {j pos} : PE X (.Constant .none j pos) (tC .non) := fun ψ ψ ψ H ψ I h => Constant_none ⟨.non, H, I, rfl, h⟩
def Gl (X : Cx) (x : Str) : Prop := X.env.kindOf x = some .globalImplicit
theorem Zhm {E : L2.VSP} {pins : L2.AO} {s : Shared} {σ : St} {H : Hp} {x : Str} {u : Value} {pos : Pos} {Q : L2.VSP} (I : Inv X pins σ H s) (hg : Gl X x) (hm : X.mg x = some u) (h : Q u s)
  (hd : (x == ("__debug__" : Str)) = false := by decide) : wpAny (model X.prog X.w) X.A (eval (.Name x pos) X.env) Q E s :=
 Calls.Name_function_global I.ok.kind hg (Calls.loadGlobal_global (by rw [I.ok.glob]; exact I.mod.glob.keeps I.bk) hm h) hd
theorem Z34 {E : L2.VSP} {pins : L2.AO} {s : Shared} {σ : St} {H : Hp} {x : Str} {u : Value} {pos : Pos} {Q : L2.VSP} (I : Inv X pins σ H s) (hg : Gl X x) (hm : X.mg x = none) (hv : bootBuiltins x = some u) (h : Q u s)
  (hn : x ≠ "__name__" := by decide) (hd : (x == ("__debug__" : Str)) = false := by decide) : wpAny (model X.prog X.w) X.A (eval (.Name x pos) X.env) Q E s := by
 obtain ⟨mb, h1, h2⟩ := I.mod.blt
 exact Calls.Name_function_global I.ok.kind hg (Calls.loadGlobal_builtin (by rw [I.ok.glob]; exact I.mod.glob.keeps I.bk) hm (by rw [I.ok.blt]; exact h1.keeps I.bk) ((h2 x hn).trans hv) h) hd
theorem Zhn {x : Str} {v : V} {u : Value} {pos : Pos} (hg : Gl X x) (hm : X.mg x = none) (hv : bootBuiltins x = some u) (r : RelV v u) (hn : x ≠ "__name__" := by decide) (hd : (x == ("__debug__" : Str)) = false := by decide) : PE X (.Name x pos) (tC v) :=
 fun ψ ψ ψ H ψ I h => Z34 I hg hm hv ⟨v, H, I, r, h⟩ hn hd
variable {a b : Expr} {ta tb : TE} {pos : Pos}
def PC (X : Cx) (op : CmpOp) (a b : Expr) (t : TE) : Prop :=
 ∀ (pins : L2.AO) (s : Shared) (σ : St) (H : Hp) (Q : VK), Inv X pins σ H s -> t σ H Q ->
  wpAny (model X.prog X.w) X.A (eval a X.env) (fun v s₁ => wpAny (model X.prog X.w) X.A (eval b X.env) (fun u s₂ => wpAny (model X.prog X.w) X.A (compareOp op v u) (EP X pins σ Q) X.xe s₂) X.xe s₁) X.xe s
theorem Ze2 (b : Expr) {op : CmpOp} (h : op ≠ .In) (h2 : op ≠ .NotIn) : behindInMarks op b = false := by
 have e1 : (op == CmpOp.In) = false := by cases op <;> first | rfl | exact absurd rfl h
 have e2 : (op == CmpOp.NotIn) = false := by cases op <;> first | rfl | exact absurd rfl h2
 cases b <;> simp [behindInMarks, e1, e2]
def tB (t : TE) : TT := fun σ H Q => t σ H fun x H1 => ∃ c, x = .bl c /\ Q c H1
theorem Zkp {op : CmpOp} {t : TE} (h : PC X op a b t) (h1 : behindInMarks op b = false := by first | exact Ze2 _ (by decide) (by decide) | rfl) : PT X (.Compare a [op] [b] pos) (tB t) := by
 intro pins s σ H Q I hw
 refine wpAny_isTrue_Compare1 (thn (h pins s σ H _ I hw) fun v s1 h1 => thn h1 fun u s2 h2 => thn h2 fun c s3 ⟨x, H1, I1, r1, q1⟩ => ?_) h1
 obtain ⟨d, rfl, q⟩ := q1
 cases r1
 exact wpAny_truthy_bool ⟨H1, I1, q⟩
theorem Zkq {e : Expr} {t : TE} (h : PE X e t) (he : ∀ whole, isTrue e X.env whole = (do let v <- whole; standAt e.pos; holding [v] (truthy v)) := by intro ψ; rfl) : PT X e (tB t) := by
 intro pins s σ H Q I hw
 refine isTrue_plain (thn (h pins s σ H _ I hw) fun v s1 ⟨x, H1, I1, r1, q1⟩ => ?_) (he _)
 obtain ⟨d, rfl, q⟩ := q1
 cases r1
 exact wpAny_truthy_bool ⟨H1, I1, q⟩
variable {tA tB' : TT} {rest : List Expr}
def tAnd (t u : TT) : TT := fun σ H Q => t σ H fun c H1 => if c = true then u σ H1 Q else Q false H1
def tOr (t u : TT) : TT := fun σ H Q => t σ H fun c H1 => if c = true then Q true H1 else u σ H1 Q
def tNot (t : TT) : TT := fun σ H Q => t σ H fun c H1 => Q (!c) H1
theorem Zho (ha : PT X a tA) : PW X (.BoolOp .And [a] pos) tA := by
 intro wh pins s σ H Q I h
 refine isTrue_and (thn (ha pins s σ H Q I h) fun c s1 e => ?_)
 cases c with
 | true => exact isTrue_and_nil e
 | false => exact e
theorem Zkr (ha : PT X a tA) : PW X (.BoolOp .Or [a] pos) tA := by
 intro wh pins s σ H Q I h
 refine isTrue_or (thn (ha pins s σ H Q I h) fun c s1 e => ?_)
 cases c with
 | false => exact isTrue_or_nil e
 | true => exact e
theorem Zks (ha : PT X a tA) (hb : PW X (.BoolOp .And (b :: rest) pos) tB') : PW X (.BoolOp .And (a :: b :: rest) pos) (tAnd tA tB') := by
 intro wh pins s σ H Q I h
 refine isTrue_and (thn (ha pins s σ H _ I h) fun c s1 ⟨H1, I1, q1⟩ => ?_)
 cases c with
 | true => exact hb wh pins s1 σ H1 Q I1 q1
 | false => exact ⟨H1, I1, q1⟩
theorem Zps (ha : PT X a tA) (hb : PW X (.BoolOp .Or (b :: rest) pos) tB') : PW X (.BoolOp .Or (a :: b :: rest) pos) (tOr tA tB') := by
 intro wh pins s σ H Q I h
 refine isTrue_or (thn (ha pins s σ H _ I h) fun c s1 ⟨H1, I1, q1⟩ => ?_)
 cases c with
 | true => exact ⟨H1, I1, q1⟩
 | false => exact hb wh pins s1 σ H1 Q I1 q1
theorem Zkt (ha : PT X a tA) : PT X (.UnaryOp .Not a pos) (tNot tA) := by
 intro pins s σ H Q I h
 exact isTrue_not (ha pins s σ H (fun c H1 => Q (!c) H1) I h)
def Zku (ta tb : TE) : TE := fun σ H Q => ta σ H fun x H1 => ∃ c, x = .bl c /\ if c = true then tb σ H1 Q else Q (.bl false) H1
theorem Zkv {op} {t : TE} (h : PE X a t) : PE X (.BoolOp op [a] pos) t := fun pins s σ H Q I hw => BoolOp_one (h pins s σ H Q I hw)
theorem Zkw (ha : PE X a ta) (hb : PE X (.BoolOp .And (b :: rest) pos) tb) : PE X (.BoolOp .And (a :: b :: rest) pos) (Zku ta tb) := by
 intro pins s σ H Q I h
 refine BoolOp_and (thn (ha pins s σ H _ I h) fun v s1 ⟨x, H1, I1, r1, q1⟩ => ?_)
 obtain ⟨c, rfl, q1⟩ := q1
 cases r1
 refine wpAny_truthy_bool ?_
 cases c with
 | true => exact hb pins s1 σ H1 Q I1 q1
 | false => exact ⟨.bl false, H1, I1, rfl, q1⟩
end
def SqL (K : L2.Fg) (H : Hp) (a : Addr) (xs : List V) : Prop :=
 Rd H a (.lst xs) \/
  ∃ (o : Obj) (its : Array Value) (n : Nat), K.lookup a = some o /\ o.cls = .type "list" /\ o.dict = none /\ o.data = .seq its n /\ its.size <= sizeLine /\ Vals xs its.toList
def SqT (K : L2.Fg) (H : Hp) (a : Addr) (xs : List V) : Prop :=
 Rd H a (.tup xs) \/
  ∃ (o : Obj) (its : Array Value) (n : Nat), K.lookup a = some o /\ o.cls = .type "tuple" /\ o.data = .seq its n /\ its.size <= sizeLine /\ Vals xs its.toList
def absV : Value -> Option V
 | .none => some .non
 | .bool b => some (.bl b)
 | .int i _ => some (.int i)
 | .str x _ => some (.str x)
 | .bytes b _ => some (.byt b)
 | .float b _ => some (.flt b)
 | .ref a => some (.ref a)
 | .type n => some (.ty n)
 | _ => none
theorem RelV.abs {x : V} {u : Value} (r : RelV x u) : absV u = some x := by
 cases x with
 | non => cases r; rfl
 | bl _ => cases r; rfl
 | int _ => obtain ⟨t, rfl⟩ := r; rfl
 | str _ => obtain ⟨t, rfl⟩ := r; rfl
 | byt _ => obtain ⟨t, rfl⟩ := r; rfl
 | flt _ => obtain ⟨t, rfl⟩ := r; rfl
 | ref _ => cases r; rfl
 | ty _ => cases r; rfl
theorem RelV.inj {x y : V} {u : Value} (r : RelV x u) (q : RelV y u) : x = y := Option.some.inj (r.abs.symm.trans q.abs)
theorem Vals.inj : ∀ {xs ys : List V} {us : List Value}, Vals xs us -> Vals ys us -> xs = ys
 | _, _, _, .nil, .nil => rfl
 | _, _, _, .cons r t, .cons r' t' => by rw [r.inj r', Vals.inj t t']
section
variable {X : Cx} {pins : L2.AO} {σ : St} {H : Hp} {s : Shared} {a : Addr} {xs ys : List V}
theorem SqL.of {K : L2.Fg} (h : H a = some (.lst xs)) : SqL K H a xs := .inl (.inl h)
theorem SqT.of {K : L2.Fg} (h : H a = some (.tup xs)) : SqT K H a xs := .inl (.inl h)
theorem Inv.list (I : Inv X pins σ H s) (h : SqL X.K H a xs) : ∃ its : List Value, Vals xs its /\ PlainL s.heap a its.toArray /\ xs.length <= sizeLine := by
 rcases h with h | ⟨o, its, n, hk, hc, hd, hs, hz, r⟩
 ·obtain ⟨z, its, n, r, e⟩ := h.ok I.hok
  exact ⟨its, r, ⟨_, n, e, rfl, rfl, rfl⟩, z⟩
 ·refine ⟨its.toList, r, ⟨o, n, I.kIn a o hk, hc, hd, by simpa using hs⟩, ?_⟩
  have e := r.length
  simp only [Array.length_toList] at e
  omega
theorem Inv.tuple (I : Inv X pins σ H s) (h : SqT X.K H a xs) : ∃ its : List Value, Vals xs its /\ IsTup s.heap a its.toArray /\ xs.length <= sizeLine := by
 rcases h with h | ⟨o, its, n, hk, hc, hs, hz, r⟩
 ·obtain ⟨z, its, r, p⟩ := h.ok I.hok
  exact ⟨its, r, p, z⟩
 ·refine ⟨its.toList, r, ⟨o, I.kIn a o hk, hc, n, by simpa using hs⟩, ?_⟩
  have e := r.length
  simp only [Array.length_toList] at e
  omega
theorem Inv.list_inj (I : Inv X pins σ H s) (h : SqL X.K H a xs) (h' : SqL X.K H a ys) : xs = ys := by
 obtain ⟨its, r, ⟨o, n, e, _, _, d⟩, _⟩ := I.list h
 obtain ⟨its', r', ⟨o', n', e', _, _, d'⟩, _⟩ := I.list h'
 rw [e] at e'; cases e'
 rw [d] at d'
 injection d' with d1 _
 have : its = its' := by simpa using congrArg Array.toList d1
 subst this
 exact r.inj r'
theorem Inv.tuple_inj (I : Inv X pins σ H s) (h : SqT X.K H a xs) (h' : SqT X.K H a ys) : xs = ys := by
 obtain ⟨its, r, ⟨o, e, _, n, d⟩, _⟩ := I.tuple h
 obtain ⟨its', r', ⟨o', e', _, n', d'⟩, _⟩ := I.tuple h'
 rw [e] at e'; cases e'
 rw [d] at d'
 injection d' with d1 _
 have : its = its' := by simpa using congrArg Array.toList d1
 subst this
 exact r.inj r'
end
abbrev Cx.wish (X : Cx) (E : L2.VSP) : Cx := { X with xe := E }
abbrev Cx.nox (X : Cx) : Cx := X.wish fun ψ ψ => False
theorem Cx.Ok.wish {X : Cx} (ok : X.Ok) (E : L2.VSP) : (X.wish E).Ok :=
 ⟨ok.mod, ok.kind, ok.glob, ok.blt, ok.above, ok.inj, ok.has, ok.cab, ok.hd, ok.frames, ok.stk, ok.exf, ok.bs, ok.bsz, ok.noex, ok.exfs, ok.funs, ok.frf⟩
theorem Cx.Ok.unwish {X : Cx} {E : L2.VSP} (ok : (X.wish E).Ok) : X.Ok :=
 ⟨ok.mod, ok.kind, ok.glob, ok.blt, ok.above, ok.inj, ok.has, ok.cab, ok.hd, ok.frames, ok.stk, ok.exf, ok.bs, ok.bsz, ok.noex, ok.exfs, ok.funs, ok.frf⟩
section
variable {X : Cx} {pins : L2.AO} {σ : St} {H : Hp} {s : Shared} {E : L2.VSP}
theorem Inv.wish (I : Inv X pins σ H s) (E : L2.VSP) : Inv (X.wish E) pins σ H s := ⟨I.ok.wish E, I.os, I.bare, I.base, I.loc, I.cell, I.free, I.freeC, I.pin, I.hok, I.len⟩
theorem Inv.unwish (I : Inv (X.wish E) pins σ H s) : Inv X pins σ H s := ⟨I.ok.unwish, I.os, I.bare, I.base, I.loc, I.cell, I.free, I.freeC, I.pin, I.hok, I.len⟩
theorem SP.unwish {D : Ends} {f : Flow} {s' : Shared} (h : SP (X.wish E) pins D f s') : SP X pins D f s' := by
 cases f with
 | next => obtain ⟨σ', H', I, q⟩ := h; exact ⟨σ', H', I.unwish, q⟩
 | brk => obtain ⟨σ', H', I, q⟩ := h; exact ⟨σ', H', I.unwish, q⟩
 | cont => obtain ⟨σ', H', I, q⟩ := h; exact ⟨σ', H', I.unwish, q⟩
 | ret u => obtain ⟨v, σ', H', I, r, q⟩ := h; exact ⟨v, σ', H', I.unwish, r, q⟩
theorem PE.nox {e : Expr} {t : TE} (h : PE X.nox e t) : PE X e t := fun pins s σ H Q I hw =>
 wpAny_mono (h pins s σ H Q (I.wish _) hw) (fun _ _ ⟨v, H', I', r, q⟩ => ⟨v, H', I'.unwish, r, q⟩) fun ψ ψ z => False.elim z
theorem PT.nox {e : Expr} {t : TT} (h : PT X.nox e t) : PT X e t := fun pins s σ H Q I hw =>
 wpAny_mono (h pins s σ H Q (I.wish _) hw) (fun _ _ ⟨H', I', q⟩ => ⟨H', I'.unwish, q⟩) fun ψ ψ z => False.elim z
theorem PSs.nox {st : List Stmt} {t : TS} (h : PSs X.nox st t) : PSs X st t := fun pins s σ H D I hw =>
 wpAny_mono (h pins s σ H D (I.wish _) hw) (fun ψ ψ q => q.unwish) fun ψ ψ z => False.elim z
end
section
variable {X : Cx} {st : Stmt} {rest : List Stmt} {t u : TS} {e : Expr} {te : TE} {pos : Pos}
def Zkx : TS := fun D σ H => D.nx σ H
def tSeq (t u : TS) : TS := fun D σ H => t { D with nx := u D } σ H
theorem Zhp : PSs X [] Zkx := fun ψ ψ σ H ψ I h => wpAny_execs_nil ⟨σ, H, I, h⟩
theorem Z51 (h1 : PS X st t) (h2 : PSs X rest u) : PSs X (st :: rest) (tSeq t u) := by
 intro pins s σ H D I h
 refine wpAny_execs_cons (thn (h1 pins s σ H { D with nx := u D } I h) fun f s1 q => ?_)
 cases f with
 | next =>
  obtain ⟨σ', H', I', q⟩ := q
  exact h2 pins s1 σ' H' D I' q
 | ret v => exact q
 | brk => exact q
 | cont => exact q
theorem Zat (h1 : PS X st t) : PSs X [st] t := by
 intro pins s σ H D I h
 refine wpAny_execs_cons (thn (h1 pins s σ H D I h) fun f s1 q => ?_)
 cases f with
 | next => exact wpAny_execs_nil q
 | ret v => exact q
 | brk => exact q
 | cont => exact q
theorem Inv.quiet {pins : L2.AO} {σ : St} {H : Hp} {s : Shared} (I : Inv X pins σ H s) : interactive X.env = false := by simp [interactive, I.ok.kind]
def Z3k (te : TE) : TS := fun D σ H => te σ H fun ψ H1 => D.nx σ H1
theorem Z52 (he : PE X e te) (hs : swapsWith e none pos.line X.env = pure false := by rfl) : PS X (.Expr e pos) (Z3k te) := by
 intro pins s σ H D I h
 exact wpAny_Expr_any (thn (he pins s σ H _ I h) fun v s1 ⟨x, H1, I1, r1, q1⟩ => ⟨σ, H1, I1, q1⟩) I.quiet hs
def tRet (te : TE) : TS := fun D σ H => te σ H D.rt
theorem Zky (he : PE X e te) : PS X (.Return (some e) pos) (tRet te) := by
 intro pins s σ H D I h
 exact wpAny_Return_some (thn (he pins s σ H _ I h) fun v s1 ⟨x, H1, I1, r1, q1⟩ => ⟨x, σ, H1, I1, r1, q1⟩)
def tIfS (c : TT) (t u : TS) : TS := fun D σ H => c σ H fun b H1 => if b = true then t D σ H1 else u D σ H1
theorem Zpt {c : Expr} {a b : List Stmt} {tc : TT} (hc : PT X c tc) (ha : PSs X a t) (hb : PSs X b u) : PS X (.If c a b pos) (tIfS tc t u) := by
 intro pins s σ H D I h
 refine wpAny_If (thn (hc pins s σ H _ I h) fun d s1 ⟨H1, I1, q1⟩ => ?_)
 cases d with
 | true => exact ha pins s1 σ H1 D I1 q1
 | false => exact hb pins s1 σ H1 D I1 q1
end
abbrev TG := V -> St -> Hp -> (St -> Hp -> Prop) -> Prop
abbrev TGs := List V -> St -> Hp -> (St -> Hp -> Prop) -> Prop
def PG (X : Cx) (target : Expr) (t : TG) : Prop :=
 ∀ (pins : L2.AO) (s : Shared) (σ : St) (H : Hp) (v : V) (u : Value) (Q : St -> Hp -> Prop), Inv X pins σ H s -> RelV v u -> t v σ H Q ->
  wpAny (model X.prog X.w) X.A (assign target X.env u) (fun ψ s' => ∃ σ' H', Inv X pins σ' H' s' /\ Q σ' H') X.xe s
def PGs (X : Cx) (ts : List Expr) (t : TGs) : Prop :=
 ∀ (pins : L2.AO) (s : Shared) (σ : St) (H : Hp) (vs : List V) (us : List Value) (Q : St -> Hp -> Prop), Inv X pins σ H s -> Vals vs us -> t vs σ H Q ->
  wpAny (model X.prog X.w) X.A (assignInOrder ((assignEach ts X.env).map (·.2)) us) (fun ψ s' => ∃ σ' H', Inv X pins σ' H' s' /\ Q σ' H') X.xe s
abbrev TSet := V -> V -> V -> Hp -> (Hp -> Prop) -> Prop
def PSet (X : Cx) (t : TSet) : Prop :=
 ∀ (pins : L2.AO) (s : Shared) (σ : St) (H : Hp) (o i v : V) (ov iv u : Value) (Q : Hp -> Prop), Inv X pins σ H s -> RelV o ov -> RelV i iv -> RelV v u -> t o i v H Q ->
  wpAny (model X.prog X.w) X.A (setItem ov iv u) (fun ψ s' => ∃ H', Inv X pins σ H' s' /\ Q H') X.xe s
section
variable {X : Cx} {pos : Pos}
def Z7t (i : Nat) : TG := fun v σ H Q => Q (σ.set i (some v)) H
theorem Zhq {i : Nat} {x : Str} (hN : X.N.Nodup) (hi : X.N[i]? = some x) (hx : Loc X.env.scope x) (hf : X.fn x = true \/ X.env.scope.names.lookup x = some .local := by first | exact .inl rfl | exact .inr rfl | assumption) : PG X (.Name x pos) (Z7t i) := by
 intro pins s σ H v u Q I r h
 exact wpAny_assign_Name (Z8i I hN hi hx r (fun s' I' => ⟨_, H, I', h⟩) hf)
def gNil : TGs := fun vs σ H Q => vs = [] /\ Q σ H
def Ze3 (t : TG) (u : TGs) : TGs := fun vs σ H Q => ∃ v r, vs = v :: r /\ t v σ H fun σ' H' => u r σ' H' Q
theorem Zau : PGs X [] gNil := by
 intro pins s σ H vs us Q I r h
 obtain ⟨e, h⟩ := h
 subst e
 cases r
 exact assignInOrder_nil ⟨σ, H, I, h⟩
theorem Z53 {e : Expr} {es : List Expr} {t : TG} {u : TGs} (h1 : PG X e t) (h2 : PGs X es u)
  (hs : (assignEach (e :: es) X.env).map (·.2) = assign e X.env :: (assignEach es X.env).map (·.2) := by rfl) : PGs X (e :: es) (Ze3 t u) := by
 intro pins s σ H vs us Q I r h
 obtain ⟨v, vr, e1, h⟩ := h
 subst e1
 cases r with
 | cons r rr =>
  rw [hs]
  refine assignInOrder_cons (thn (h1 pins s σ H _ _ _ I r h) fun _ s1 ⟨σ1, H1, I1, q1⟩ => ?_)
  exact h2 pins s1 σ1 H1 _ _ Q I1 rr q1
def gTup (K : L2.Fg) (n : Nat) (t : TGs) : TG := fun v σ H Q => ∃ a xs, v = .ref a /\ SqT K H a xs /\ xs.length = n /\ t xs σ H Q
theorem Zkz {es : List Expr} {k : Nat} {t : TGs} {n : Nat} (hc : X.calm = true) (h : PGs X es t)
  (hn : (assignEach es X.env).length = n := by rfl) (hst : (assignEach es X.env).findIdx? (·.1) = none := by rfl) : PG X (.Tuple es k pos) (gTup X.K n t) := by
 intro pins s σ H v u Q I r hw
 obtain ⟨a, xs, e1, hq, hl, hw⟩ := hw
 subst e1
 cases r
 obtain ⟨its, rv, ht, hz⟩ := I.tuple hq
 refine assign_Tuple_tuple (I.ok.hd hc) ht (by simp [hn, <- hl, rv.length]) hst fun h' hx => ?_
 have I1 : Inv X pins σ H { s with heap := h' } := I.kept (t' := s.toks) fun b o e => hx b o (Nat.ne_of_lt (Heap.lt_size e)) e
 exact h pins _ σ H xs _ Q I1 (by simpa using rv) hw
def gSub (to ti : TE) (t : TSet) : TG := fun v σ H Q => to σ H fun o H1 => ti σ H1 fun i H2 => t o i v H2 fun H3 => Q σ H3
theorem Z61 {o i : Expr} {to ti : TE} {t : TSet} (ho : PE X o to) (hi : PE X i ti) (hs : PSet X t)
  (ha : ∀ v, assign (.Subscript o i pos) X.env v = (do
   let ov <- holding [v] (eval o X.env)
   let iv <- holding [v, ov] (eval i X.env)
   standAt pos
   holding [v, ov, iv] (setItem ov iv v)
   release [v, ov, iv] []) := by intro ψ; rfl) : PG X (.Subscript o i pos) (gSub to ti t) := by
 intro pins s σ H v u Q I r h
 rw [ha]
 refine wpAny_bind (wpAny_holding (thn (ho pins s σ H _ I h) fun ov s1 ⟨x, H1, I1, r1, q1⟩ => ?_))
 refine wpAny_bind (wpAny_holding (thn (hi pins s1 σ H1 _ I1 q1) fun iv s2 ⟨y, H2, I2, r2, q2⟩ => ?_))
 refine wpAny_bind (wpAny_standAt (wpAny_bind (wpAny_holding (thn (hs pins s2 σ H2 x y v ov iv u _ I2 r1 r2 r q2) fun _ s3 ⟨H3, I3, q3⟩ => ?_))))
 exact wpAny_release ⟨σ, H3, I3, q3⟩
def tAsg (te : TE) (g : TG) : TS := fun D σ H => te σ H fun x H1 => g x σ H1 D.nx
theorem Z62 {tg e : Expr} {te : TE} {g : TG} (he : PE X e te) (hg : PG X tg g) (hs : swapsWithSole [tg] e pos.line X.env = pure false := by rfl) (hw : swappedStores [tg] e X.env = pure none := by rfl)
  (h1 : (assignEach [tg] X.env).map (·.2) = [assign tg X.env] := by rfl) : PS X (.Assign [tg] e pos) (tAsg te g) := by
 intro pins s σ H D I h
 refine wpAny_Assign_stores (thn (he pins s σ H _ I h) fun v s1 ⟨x, H1, I1, r1, q1⟩ => ?_) hs hw
 rw [h1]
 exact thn (hg pins s1 σ H1 x v _ I1 r1 q1) fun ψ s2 q => q
theorem Z8j {i : Nat} {x : Str} {e : Expr} {te : TE} {pos' : Pos} (hN : X.N.Nodup) (hi : X.N[i]? = some x) (hx : Loc X.env.scope x) (he : PE X e te) (hs : swapsWith e (some (.Name x pos')) pos.line X.env = pure false := by rfl) (hf : X.fn x = true \/ X.env.scope.names.lookup x = some .local := by first | exact .inl rfl | exact .inr rfl | assumption) :
  PS X (.Assign [.Name x pos'] e pos) (tAsg te (Z7t i)) := by
 intro pins s σ H D I h
 refine wpAny_Assign_Name (thn (he pins s σ H _ I h) fun v s1 ⟨y, H1, I1, r1, q1⟩ => ?_) hs
 exact Z8i I1 hN hi hx r1 (fun s2 I2 => ⟨_, H1, I2, q1⟩) hf
end
section
variable {X : Cx} {pos : Pos}
def Zgd (c : TT) (tb : TS) : TS := fun D σ H => ∃ W : Nat -> St -> Hp -> Prop, (∃ m, W m σ H) /\ ∀ m σ H, W m σ H ->
 c σ H fun b H1 => if b = true then ∃ N : St -> Hp -> Prop, (∀ σ' H', N σ' H' -> ∃ m', m' < m /\ W m' σ' H') /\ tb { D with nx := N, ct := N, bk := D.nx } σ H1 else D.nx σ H1
theorem Ze4 {c : Expr} {body : List Stmt} {tc : TT} {tb : TS} (hp : PassesOwn (model X.prog X.w) X.A X.env X.xe) (hc : PT X c tc) (hb : PSs X body tb) : PS X (.While c body [] pos) (Zgd tc tb) := by
 intro pins s σ H D I h
 obtain ⟨W, ⟨m0, w0⟩, turn⟩ := h
 refine wpAny_While (codeAny_whileLoop (fun n s' => ∃ σ' H', Inv X pins σ' H' s' /\ W n σ' H') ?_ m0 ⟨σ, H, I, w0⟩)
 rintro n s1 ⟨σ1, H1, I1, w1⟩
 refine wpAny_passesOwn hp (thn (hc pins s1 σ1 H1 _ I1 (turn n σ1 H1 w1)) fun b s2 ⟨H2, I2, q2⟩ => ?_)
 cases b with
 | true =>
  obtain ⟨N, hN, q2⟩ := q2
  rw [if_pos rfl]
  refine wpAny_passesOwn hp (thn (hb pins s2 σ1 H2 _ I2 q2) fun f s3 q3 => ?_)
  cases f with
  | next =>
   obtain ⟨σ3, H3, I3, n3⟩ := q3
   obtain ⟨m', hm, w3⟩ := hN σ3 H3 n3
   exact ⟨m', hm, σ3, H3, I3, w3⟩
  | cont =>
   obtain ⟨σ3, H3, I3, n3⟩ := q3
   obtain ⟨m', hm, w3⟩ := hN σ3 H3 n3
   exact ⟨m', hm, σ3, H3, I3, w3⟩
  | brk => exact q3
  | ret v => exact q3
 | false =>
  rw [if_neg Bool.false_ne_true]
  exact wpAny_execs_nil ⟨σ1, H2, I2, q2⟩
end
structure It where
 go : Nat -> Hp -> Prop
 yld : Nat -> Hp -> V -> Hp -> Prop
 stop : Nat -> Hp -> Prop
def FpOk (X : Cx) (pins : L2.AO) (H : Hp) (b : Addr) : Prop :=
 H b = none /\ b ≠ X.env.locals /\ b ∉ X.fs /\ (b ∈ X.ex \/ X.s₀.heap.objs.size <= b) /\ (∀ x c, X.env.cells.lookup x = some c -> c ≠ b) /\ ∀ p ∈ X.pn ++ pins, p.1 ≠ b
theorem Inv.fpOk {X : Cx} {pins : L2.AO} {σ : St} {H H' : Hp} {s : Shared} {b : Addr} (I : Inv X pins σ H s) (hb : s.heap.objs.size <= b) (hn : H' b = none) : FpOk X pins H' b := by
 refine ⟨hn, Nat.ne_of_gt (Nat.lt_of_lt_of_le I.lt hb), I.nofs hb, .inr (Nat.le_trans I.sz hb), fun x c e z => ?_, fun p hp z => ?_⟩
 ·obtain ⟨v, q⟩ := I.cell x c e
  exact absurd (Nat.lt_of_lt_of_le q.lt (by rw [z]; exact hb)) (Nat.lt_irrefl _)
 ·exact absurd (Nat.lt_of_lt_of_le (Heap.lt_size (I.pin p hp).1) (by rw [z]; exact hb)) (Nat.lt_irrefl _)
structure Turn (P : Program) (w : World) (K : L2.Fg) (tg : Expr) (J : It) (fp : List Addr) (it : Addr) (tn : Nat -> Heap -> Prop) : Prop where
 mem : it ∈ fp
 obj : ∀ i h, tn i h -> ∀ b ∈ fp, ∃ o, h.get? b = some o /\ ∀ v, o.data ≠ .cell v
 keep : ∀ i h h', tn i h -> (∀ b ∈ fp, ∀ o, h.get? b = some o -> h'.get? b = some o) -> tn i h'
 item : ∀ (X : Cx), X.prog = P -> X.w = w -> X.K = K -> X.calm = true -> ∀ (i : Nat) (pins : L2.AO) (s : Shared) (σ : St) (H : Hp) (E : L2.VSP), Inv X pins σ H s -> (∀ b ∈ fp, FpOk X pins H b) -> tn i s.heap -> J.go i H ->
  wpAny (model P w) X.A (pyNext (.ref it)) (fun r s1 => ∃ u, r = some u /\
   wpAny (model P w) X.A (letOwnedTupleGo tg (.ref it) u) (fun ψ s2 => ∃ x H', Inv X pins σ H' s2 /\ RelV x u /\ J.yld i H x H' /\ tn (i + 1) s2.heap /\ ∀ b ∈ fp, H' b = none) E s1) E s
 done : ∀ (X : Cx), X.prog = P -> X.w = w -> X.K = K -> X.calm = true -> ∀ (i : Nat) (pins : L2.AO) (s : Shared) (σ : St) (H : Hp) (E : L2.VSP), Inv X pins σ H s -> (∀ b ∈ fp, FpOk X pins H b) -> tn i s.heap -> J.stop i H ->
  wpAny (model P w) X.A (pyNext (.ref it)) (fun r s1 => r = none /\ Inv X pins σ H s1) E s
 self : ∀ (A : Around) (i : Nat) (s : Shared) (Q : L2.VSP) (E : L2.VSP), tn i s.heap -> Q (.ref it) s -> wpAny (model P w) A (pyIter (.ref it)) Q E s
abbrev TI := St -> Hp -> (It -> Hp -> Prop) -> Prop
def PIE (X : Cx) (pins : L2.AO) (σ : St) (tg : Expr) (R : It -> Hp -> Prop) (itv : Value) (s2 : Shared) : Prop :=
 ∃ (it : Addr) (fp : List Addr) (tn : Nat -> Heap -> Prop) (J : It) (H' : Hp), itv = .ref it /\ Inv X pins σ H' s2 /\ Turn X.prog X.w X.K tg J fp it tn /\ tn 0 s2.heap /\ (∀ b ∈ fp, FpOk X pins H' b) /\ R J H'
def PI (X : Cx) (tg iter : Expr) (wi : TI) : Prop :=
 ∀ (pins : L2.AO) (s : Shared) (σ : St) (H : Hp) (R : It -> Hp -> Prop), Inv X pins σ H s -> wi σ H R ->
  wpAny (model X.prog X.w) X.A (eval iter X.env) (fun v s1 => wpAny (model X.prog X.w) X.A (pyIter v) (PIE X pins σ tg R) X.xe s1) X.xe s
theorem Z9q {M : Model} {A : Around} {E : L2.VSP} {s : Shared} {tg : Expr} {it : Addr} {u : Value} {o : Obj} {n : String} {vs : Array Value} {Q : Unit -> Shared -> Prop} (ho : s.heap.get? it = some o) (hc : o.cls = .type n) (hd : o.data = .fields vs)
  (hn : ["enumerate", "zip", "dict_itemiterator", "dict_reverseitemiterator", "odict_iterator", "itertools.zip_longest", "itertools.pairwise"].contains n = false) (hQ : Q () s) : wpAny M A (letOwnedTupleGo tg (.ref it) u) Q E s := by
 unfold letOwnedTupleGo
 cases tg <;> first
  | exact wpAny_pure hQ
  | (cases u <;> first
    | exact wpAny_pure hQ
    | (refine wpAny_bind (wpAny_load ho ?_)
       rw [hc, hd]
       show wpAny M A (if (["enumerate", "zip", "dict_itemiterator", "dict_reverseitemiterator", "odict_iterator", "itertools.zip_longest", "itertools.pairwise"].contains n && vs[0]? == some (rawInt _)) = true then _ else _) Q E s
       rw [if_neg (by intro h; rw [hn, Bool.false_and] at h; cases h)]
       exact wpAny_pure hQ))
def Itl (K : L2.Fg) (a : Addr) : It :=
 ⟨fun i H => ∃ xs x, SqL K H a xs /\ xs[i]? = some x, fun i H x H' => H' = H /\ ∀ xs, SqL K H a xs -> xs[i]? = some x, fun i H => ∃ xs, SqL K H a xs /\ xs.length <= i⟩
def Itt (K : L2.Fg) (a : Addr) : It :=
 ⟨fun i H => ∃ xs x, SqT K H a xs /\ xs[i]? = some x, fun i H x H' => H' = H /\ ∀ xs, SqT K H a xs -> xs[i]? = some x, fun i H => ∃ xs, SqT K H a xs /\ xs.length <= i⟩
def Itr (lo : Int) (n : Nat) : It := ⟨fun i ψ => i < n, fun i H x H' => H' = H /\ x = .int (lo + i), fun i ψ => n <= i⟩
theorem Zav {P : Program} {w : World} {K : L2.Fg} {tg : Expr} (a it : Addr) : Turn P w K tg (Itl K a) [it] it (fun i h => h.IsListIter it a i) where
 mem := by simp
 obj := fun i h st b hb => by
  have e : b = it := by simpa using hb
  subst e
  obtain ⟨o, e, c, d⟩ := st
  exact ⟨o, e, fun v z => by rw [d] at z; cases z⟩
 keep := fun i h h' st k => st.at fun o e => k it (by simp) o e
 item := by
  intro X hP hw hK hc i pins s σ H E I hf st hg
  subst hP hw hK
  obtain ⟨xs, x, hq, hx⟩ := hg
  obtain ⟨its, rv, p, hz⟩ := I.list hq
  obtain ⟨u, hu, ru⟩ := rv.get hx
  obtain ⟨f0, f1, f2, f3, f4, f5⟩ := hf it (by simp)
  refine wpAny_pyNext_list_item st p.isList (x := u) (by simpa using hu) fun h' st' sb => ?_
  have I1 : Inv X pins σ H { s with heap := h' } := I.turned (t' := s.toks) (fun b o hb e => (sb.2 b hb).trans e) f0 f1 f3 f4 f5
  obtain ⟨o, e, c, d⟩ := id st'
  exact ⟨u, rfl, Z9q (s := { s with heap := h' }) e c d (by decide) ⟨x, H, I1, ru, ⟨rfl, fun ys hy => by rw [I.list_inj hy hq]; exact hx⟩, st', fun b hb => (hf b hb).1⟩⟩
 done := by
  intro X hP hw hK hc i pins s σ H E I hf st hg
  subst hP hw hK
  obtain ⟨xs, hq, hx⟩ := hg
  obtain ⟨its, rv, p, hz⟩ := I.list hq
  obtain ⟨f0, f1, f2, f3, f4, f5⟩ := hf it (by simp)
  have hl := rv.length
  exact wpAny_pyNext_list_end (I.ok.hd hc) st p.isList (by simp; omega) fun h' eb => ⟨rfl, I.turned (t' := s.toks) (fun b o hb e => eb b o hb e) f0 f1 f3 f4 f5⟩
 self := fun ψ ψ ψ ψ ψ st h => wpAny_pyIter_listiter st h
theorem Z9r {P : Program} {w : World} {K : L2.Fg} {tg : Expr} (a it : Addr) : Turn P w K tg (Itt K a) [it] it (fun i h => h.IsTupleIter it a i) where
 mem := by simp
 obj := fun i h st b hb => by
  have e : b = it := by simpa using hb
  subst e
  obtain ⟨o, e, c, d⟩ := st
  exact ⟨o, e, fun v z => by rw [d] at z; cases z⟩
 keep := fun i h h' st k => st.at fun o e => k it (by simp) o e
 item := by
  intro X hP hw hK hc i pins s σ H E I hf st hg
  subst hP hw hK
  obtain ⟨xs, x, hq, hx⟩ := hg
  obtain ⟨its, rv, p, hz⟩ := I.tuple hq
  obtain ⟨u, hu, ru⟩ := rv.get hx
  obtain ⟨f0, f1, f2, f3, f4, f5⟩ := hf it (by simp)
  refine wpAny_pyNext_tuple_item st (show s.heap.IsTuple a its.toArray from p) (x := u) (by simpa using hu) fun h' st' sb => ?_
  have I1 : Inv X pins σ H { s with heap := h' } := I.turned (t' := s.toks) (fun b o hb e => (sb.2 b hb).trans e) f0 f1 f3 f4 f5
  obtain ⟨o, e, c, d⟩ := id st'
  exact ⟨u, rfl, Z9q (s := { s with heap := h' }) e c d (by decide) ⟨x, H, I1, ru, ⟨rfl, fun ys hy => by rw [I.tuple_inj hy hq]; exact hx⟩, st', fun b hb => (hf b hb).1⟩⟩
 done := by
  intro X hP hw hK hc i pins s σ H E I hf st hg
  subst hP hw hK
  obtain ⟨xs, hq, hx⟩ := hg
  obtain ⟨its, rv, p, hz⟩ := I.tuple hq
  obtain ⟨f0, f1, f2, f3, f4, f5⟩ := hf it (by simp)
  have hl := rv.length
  exact wpAny_pyNext_tuple_end (I.ok.hd hc) st (show s.heap.IsTuple a its.toArray from p) (by simp; omega) fun h' eb => ⟨rfl, I.turned (t' := s.toks) (fun b o hb e => eb b o hb e) f0 f1 f3 f4 f5⟩
 self := fun ψ ψ ψ ψ ψ st h => wpAny_pyIter_tupleiter st h
theorem Z9s {P : Program} {w : World} {K : L2.Fg} {tg : Expr} (it : Addr) (lo : Int) (n : Nat) : Turn P w K tg (Itr lo n) [it] it (fun i h => IsRangeIter h it (lo + (i : Nat) * 1) ((n : Int) - (i : Nat)) 1) where
 mem := by simp
 obj := fun i h st b hb => by
  have e : b = it := by simpa using hb
  subst e
  exact ⟨_, st, fun v z => by
   have z' : Data.fields _ = Data.cell v := z
   cases z'⟩
 keep := fun i h h' st k => k it (by simp) _ st
 item := by
  intro X hP hw hK hc i pins s σ H E I hf st hg
  subst hP hw hK
  obtain ⟨f0, f1, f2, f3, f4, f5⟩ := hf it (by simp)
  have W := Walks.range (prog := X.prog) (w := X.w) (I.ok.hd hc) it lo 1 n
  refine W.item i s _ _ hg st fun v h' tk hv st' kk => ?_
  obtain ⟨t, rfl⟩ := hv
  have I1 : Inv X pins σ H { s with heap := h', toks := tk } := I.turned (fun b o hb e => kk b o (by simpa using hb) e) f0 f1 f3 f4 f5
  refine ⟨_, rfl, Z9q (s := { s with heap := h', toks := tk }) (n := "range_iterator") st' rfl rfl (by decide) ⟨.int (lo + i), H, I1, ⟨t, ?_⟩, ⟨rfl, rfl⟩, st', fun b hb => (hf b hb).1⟩⟩
  rw [Int.mul_one]
 done := by
  intro X hP hw hK hc i pins s σ H E I hf st hg
  subst hP hw hK
  obtain ⟨f0, f1, f2, f3, f4, f5⟩ := hf it (by simp)
  exact wpAny_pyNext_range_end (I.ok.hd hc) st (by have : n <= i := hg; omega) fun h' eb => ⟨rfl, I.turned (t' := s.toks) (fun b o hb e => eb b o hb e) f0 f1 f3 f4 f5⟩
 self := fun ψ ψ ψ ψ ψ st h => wpAny_pyIter_rangeiter st h
section
variable {X : Cx} {tg : Expr}
theorem Z8k {pins : L2.AO} {σ : St} {H : Hp} {s : Shared} {R : It -> Hp -> Prop} {E : L2.VSP} {lo hi : Int} {t u v : Tok} {tk : Nat} (I : Inv X pins σ H s) (h1 : -(2 ^ 62) <= lo) (h2 : lo < 2 ^ 62) (h3 : -(2 ^ 62) <= hi) (h4 : hi < 2 ^ 62)
  (q : R (Itr lo (hi - lo).toNat) H) : wpAny (model X.prog X.w) X.A (pyIter (.ref s.heap.objs.size)) (PIE X pins σ tg R) E { s with heap := s.heap.push { cls := .type "range", data := .fields #[.int lo t, .int hi u, .int 1 v] }, toks := tk } := by
 refine wpAny_pyIter_range (IsRange.new ..) (small_one h1 h2 h3 h4) ?_
 have I1 : Inv X pins σ H { s with heap := s.heap.push { cls := .type "range", data := .fields #[.int lo t, .int hi u, .int 1 v] }, toks := tk } := I.kept fun b o e => Heap.get?_push_of_some _ e
 refine ⟨(s.heap.push { cls := .type "range", data := .fields #[.int lo t, .int hi u, .int 1 v] }).objs.size, [(s.heap.push { cls := .type "range", data := .fields #[.int lo t, .int hi u, .int 1 v] }).objs.size], _, _, H, rfl,
  I1.kept (t' := tk) fun b o e => Heap.get?_push_of_some _ e, Z9s _ lo (hi - lo).toNat, ?_, fun b hb => ?_, q⟩
 ·have e1 : lo + ((0 : Nat) : Int) * 1 = lo := by simp
  have e2 : (((hi - lo).toNat : Nat) : Int) - ((0 : Nat) : Int) = Builtin.Range.rangeSize lo hi 1 := by rw [rangeSize_one]; split <;> omega
  show IsRangeIter _ _ (lo + ((0 : Nat) : Int) * 1) ((((hi - lo).toNat : Nat) : Int) - ((0 : Nat) : Int)) 1
  rw [e1, e2]
  exact Heap.get?_push_size _ rfl
 ·have e : b = (s.heap.push { cls := .type "range", data := .fields #[.int lo t, .int hi u, .int 1 v] }).objs.size := by simpa using hb
  subst e
  exact I1.fpOk (Nat.le_refl _) (I1.hok.fresh (Nat.le_refl _))
def Zl0 (ta : TA) : TI := fun σ H R => ta σ H fun vs H1 => ∃ j : Int, vs = [.int j] /\ -(2 ^ 62) <= j /\ j < 2 ^ 62 /\ R (Itr 0 j.toNat) H1
def Zl1 (ta : TA) : TI := fun σ H R => ta σ H fun vs H1 => ∃ i j : Int, vs = [.int i, .int j] /\ (-(2 ^ 62) <= i /\ i < 2 ^ 62 /\ -(2 ^ 62) <= j /\ j < 2 ^ 62) /\ R (Itr i (j - i).toNat) H1
theorem Zaw {a : Expr} {ta : TA} {p pos : Pos} (hg : Gl X "range") (hm : X.mg "range" = none) (ha : PA X [a] ta) (hs : starEach [a] X.env = [(false, eval a X.env)] := by rfl) : PI X tg (.Call (.Name "range" p) [a] [] pos) (Zl0 ta) := by
 intro pins s σ H R I h
 refine Call_ (Z34 I hg hm boot_range (PyProof.Rows.callWith_type1 (thn (ha pos pins s σ H _ I h) fun us s1 ⟨vs, H1, I1, r1, q1⟩ => ?_) hs rfl))
 obtain ⟨j, e, q1, q2, q⟩ := q1
 subst e
 cases r1 with
 | cons r rr =>
  cases rr
  obtain ⟨t, rfl⟩ := r
  exact call_range_1 (Z8k I1 (by omega) (by omega) q1 q2 (by simpa using q))
theorem Zax {a b : Expr} {ta : TA} {p pos : Pos} (hg : Gl X "range") (hm : X.mg "range" = none) (ha : PA X [a, b] ta) (hs : starEach [a, b] X.env = [(false, eval a X.env), (false, eval b X.env)] := by rfl) (hs2 : starEach [b] X.env = [(false, eval b X.env)] := by rfl) :
  PI X tg (.Call (.Name "range" p) [a, b] [] pos) (Zl1 ta) := by
 intro pins s σ H R I h
 refine Call_ (Z34 I hg hm boot_range (PyProof.Rows.callWith_type1 (thn (ha pos pins s σ H _ I h) fun us s1 ⟨vs, H1, I1, r1, q1⟩ => ?_) (by rw [hs, hs2]) (by rw [hs2]; rfl)))
 obtain ⟨i, j, e, ⟨q1, q2, q3, q4⟩, q⟩ := q1
 subst e
 cases r1 with
 | cons r rr =>
  cases rr with
  | cons r' rr =>
   cases rr
   obtain ⟨t, rfl⟩ := r
   obtain ⟨t', rfl⟩ := r'
   exact call_range_2 (Z8k I1 q1 q2 q3 q4 q)
def tFor (wi : TI) (g : TG) (tb : TS) : TS := fun D σ H => wi σ H fun J H1 => ∃ W : Nat -> Nat -> St -> Hp -> Prop, (∃ m, W 0 m σ H1) /\ ∀ i m σ H, W i m σ H ->
 (J.stop i H /\ D.nx σ H) \/ (J.go i H /\ ∃ N : St -> Hp -> Prop, (∀ σ' H', N σ' H' -> ∃ m', m' < m /\ W (i + 1) m' σ' H') /\ ∀ x H', J.yld i H x H' -> g x σ H' fun σ2 H2 => tb { D with nx := N, ct := N, bk := D.nx } σ2 H2)
def Z63 (fp : List Addr) (h : Heap) : List (Addr × Obj) := fp.filterMap fun b => (h.get? b).map fun o => (b, o)
theorem Z27 {fp : List Addr} {h : Heap} {b : Addr} {o : Obj} (hb : b ∈ fp) (e : h.get? b = some o) : (b, o) ∈ Z63 fp h := List.mem_filterMap.mpr ⟨b, hb, by rw [e]; rfl⟩
theorem Zay {fp : List Addr} {h : Heap} {p : Addr × Obj} (hp : p ∈ Z63 fp h) : p.1 ∈ fp /\ h.get? p.1 = some p.2 := by
 obtain ⟨b, hb, e⟩ := List.mem_filterMap.mp hp
 cases q : h.get? b with
 | none => rw [q] at e; cases e
 | some o =>
  rw [q] at e
  have e' : (b, o) = p := Option.some.inj e
  subst e'
  exact ⟨hb, q⟩
theorem Inv.pinned {pins : L2.AO} {σ : St} {H : Hp} {s : Shared} {fp : List Addr} (I : Inv X pins σ H s) (hf : ∀ b ∈ fp, FpOk X pins H b) (ho : ∀ b ∈ fp, ∃ o, s.heap.get? b = some o /\ ∀ v, o.data ≠ .cell v) : Inv X (pins ++ Z63 fp s.heap) σ H s :=
 I.pins_of fun p hp => (List.mem_append.mp hp).elim (fun z => I.pin p (List.mem_append_right _ z)) fun z => by
  obtain ⟨hb, e⟩ := Zay z
  obtain ⟨f0, f1, f2, _⟩ := hf p.1 hb
  obtain ⟨o, e', d⟩ := ho p.1 hb
  rw [e] at e'; cases e'
  exact ⟨e, f0, f1, f2, d⟩
theorem Inv.unpinned {pins pl : L2.AO} {σ : St} {H : Hp} {s : Shared} (I : Inv X (pins ++ pl) σ H s) : Inv X pins σ H s := I.pins_of fun p hp => I.pin p (List.mem_append_right _ (List.mem_append_left _ hp))
theorem Zl2 {iter : Expr} {body : List Stmt} {wi : TI} {g : TG} {tb : TS} {pos : Pos} (hp : PassesOwn (model X.prog X.w) X.A X.env X.xe) (hc : X.calm = true) (hi : PI X tg iter wi) (hg : PG X tg g) (hb : PSs X body tb)
  (hs : ∀ x, foldedSetIterable iter X.env x = pure x := by intro ψ; rfl) : PS X (.For tg iter body [] pos) (tFor wi g tb) := by
 intro pins s σ H D I h
 refine wpAny_For (thn (hi pins s σ H _ I h) fun v s1 h1 => thn h1 fun itv s2 h2 => ?_) hs
 obtain ⟨it, fp, tn, J, H2, e, I2, T, st2, f2, W, ⟨m0, w0⟩, turn⟩ := h2
 subst e
 have stat : ∀ {H' : Hp}, (∀ b ∈ fp, H' b = none) -> ∀ b ∈ fp, FpOk X pins H' b := fun hn b hb => ⟨hn b hb, (f2 b hb).2⟩
 refine codeAny_forLoop_any (fun n s' => ∃ i σ' H', Inv X pins σ' H' s' /\ tn i s'.heap /\ (∀ b ∈ fp, H' b = none) /\ W i n σ' H') ?_ m0 ⟨0, σ, H2, I2, st2, fun b hb => (f2 b hb).1, w0⟩
 rintro n s3 ⟨i, σ3, H3, I3, st3, fr3, w3⟩
 rcases turn i n σ3 H3 w3 with ⟨stop, qn⟩ | ⟨go, N, hN, step⟩
 ·refine wpAny_passesOwn hp (thn (T.done X rfl rfl rfl hc i pins s3 σ3 H3 X.xe I3 (stat fr3) st3 stop) fun r s4 ⟨hr, I4⟩ => ?_)
  subst hr
  exact wpAny_execs_nil ⟨σ3, H3, I4, qn⟩
 ·refine wpAny_passesOwn hp (thn (T.item X rfl rfl rfl hc i pins s3 σ3 H3 X.xe I3 (stat fr3) st3 go) fun r s4 ⟨u, hr, h4⟩ => ?_)
  subst hr
  refine wpAny_passesOwn hp (thn h4 fun _ s5 ⟨x, H5, I5, r5, y5, st5, fr5⟩ => ?_)
  have I5' := I5.pinned (stat fr5) (T.obj _ _ st5)
  refine wpAny_passesOwn hp (thn (hg _ s5 σ3 H5 x u _ I5' r5 (step x H5 y5)) fun _ s6 ⟨σ6, H6, I6, q6⟩ => ?_)
  refine wpAny_passesOwn hp (thn (hb _ s6 σ6 H6 _ I6 q6) fun f s7 q7 => ?_)
  have again : ∀ {σ7 : St} {H7 : Hp}, Inv X (pins ++ Z63 fp s5.heap) σ7 H7 s7 -> N σ7 H7 -> ∃ m, m < n /\ ∃ i σ' H', Inv X pins σ' H' s7 /\ tn i s7.heap /\ (∀ b ∈ fp, H' b = none) /\ W i m σ' H' := fun {σ7 H7} I7 n7 => by
   obtain ⟨m', hm, w7⟩ := hN σ7 H7 n7
   refine ⟨m', hm, i + 1, σ7, H7, I7.unpinned, T.keep _ _ _ st5 fun b hb o e => (I7.pin (b, o) (List.mem_append_right _ (List.mem_append_right _ (Z27 hb e)))).1, fun b hb => ?_, w7⟩
   obtain ⟨o, e, d⟩ := T.obj _ _ st5 b hb
   exact (I7.pin (b, o) (List.mem_append_right _ (List.mem_append_right _ (Z27 hb e)))).2.1
  cases f with
  | next => obtain ⟨σ7, H7, I7, n7⟩ := q7; exact again I7 n7
  | cont => obtain ⟨σ7, H7, I7, n7⟩ := q7; exact again I7 n7
  | brk => obtain ⟨σ7, H7, I7, q7⟩ := q7; exact ⟨σ7, H7, I7.unpinned, q7⟩
  | ret v => obtain ⟨x7, σ7, H7, I7, r7, q7⟩ := q7; exact ⟨x7, σ7, H7, I7.unpinned, r7, q7⟩
end
abbrev R2 := V -> V -> Hp -> VK -> Prop
def OpR (X : Cx) (f : Value -> Value -> Sem Value) (r : R2) : Prop :=
 ∀ (pins : L2.AO) (s : Shared) (σ : St) (H : Hp) (x y : V) (v u : Value) (Q : VK), Inv X pins σ H s -> RelV x v -> RelV y u -> r x y H Q ->
  wpAny (model X.prog X.w) X.A (f v u) (EP X pins σ Q) X.xe s
def UnR (X : Cx) (f : Value -> Sem Value) (r : V -> Hp -> VK -> Prop) : Prop :=
 ∀ (pins : L2.AO) (s : Shared) (σ : St) (H : Hp) (x : V) (v : Value) (Q : VK), Inv X pins σ H s -> RelV x v -> r x H Q ->
  wpAny (model X.prog X.w) X.A (f v) (EP X pins σ Q) X.xe s
def Z0s (X : Cx) (f : Value) (r : List V -> Hp -> VK -> Prop) : Prop :=
 ∀ (pins : L2.AO) (s : Shared) (σ : St) (H : Hp) (xs : List V) (us : List Value) (Q : VK), Inv X pins σ H s -> Vals xs us -> r xs H Q ->
  wpAny (model X.prog X.w) X.A (call f us) (EP X pins σ Q) X.xe s
def tOp (r : R2) (ta tb : TE) : TE := fun σ H Q => ta σ H fun x H1 => tb σ H1 fun y H2 => r x y H2 Q
def tUn (r : V -> Hp -> VK -> Prop) (ta : TE) : TE := fun σ H Q => ta σ H fun x H1 => r x H1 Q
def rI (C : Int -> Int -> Prop) (g : Int -> Int -> V) : R2 := fun x y H Q => ∃ i j, x = .int i /\ y = .int j /\ C i j /\ Q (g i j) H
def rI0 (g : Int -> Int -> V) : R2 := fun x y H Q => ∃ i j, x = .int i /\ y = .int j /\ Q (g i j) H
def rU (g : Int -> V) : V -> Hp -> VK -> Prop := fun x H Q => ∃ i, x = .int i /\ Q (g i) H
section
variable {X : Cx} {a b : Expr} {ta tb : TE} {pos : Pos}
theorem binT (ha : PE X a ta) (hb : PE X b tb) {pins : L2.AO} {s : Shared} {σ : St} {H : Hp} {R : V -> V -> Hp -> Prop} (I : Inv X pins σ H s)
  (h : ta σ H fun x H1 => tb σ H1 fun y H2 => R x y H2) {Q : L2.VSP} {f : Value -> Value -> Sem Value}
  (hf : ∀ v u s2 x y H2, Inv X pins σ H2 s2 -> RelV x v -> RelV y u -> R x y H2 -> wpAny (model X.prog X.w) X.A (f v u) Q X.xe s2) :
  wpAny (model X.prog X.w) X.A (eval a X.env) (fun v s₁ => wpAny (model X.prog X.w) X.A (eval b X.env) (fun u s₂ => wpAny (model X.prog X.w) X.A (f v u) Q X.xe s₂) X.xe s₁) X.xe s := by
 refine thn (ha pins s σ H _ I h) fun v s1 ⟨x, H1, I1, r1, q1⟩ => ?_
 refine thn (hb pins s1 σ H1 _ I1 q1) fun u s2 ⟨y, H2, I2, r2, q2⟩ => ?_
 exact hf v u s2 x y H2 I2 r1 r2 q2
theorem Zpu {op : Operator} {r : R2} (ho : OpR X (binaryOp op) r) (ha : PE X a ta) (hb : PE X b tb) : PE X (.BinOp a op b pos) (tOp r ta tb) := by
 intro pins s σ H Q I h
 exact wpAny_BinOp (binT ha hb I h fun v u s2 x y H2 I2 rx ry q => ho pins s2 σ H2 x y v u Q I2 rx ry q)
theorem Zpv {op : UnaryOp} {r : V -> Hp -> VK -> Prop} (ho : UnR X (unaryOp op) r) (ha : PE X a ta) : PE X (.UnaryOp op a pos) (tUn r ta) := by
 intro pins s σ H Q I h
 exact UnaryOp_ (thn (ha pins s σ H _ I h) fun v s1 ⟨x, H1, I1, r1, q1⟩ => ho pins s1 σ H1 x v Q I1 r1 q1)
theorem opI {f : Value -> Value -> Sem Value} {C : Int -> Int -> Prop} {g : Int -> Int -> Int}
  (rule : ∀ (i j : Int) (t u : Tok) (s : Shared) (Q : L2.VSP) (E : L2.VSP), C i j -> Q (.int (g i j) s.toks) { s with toks := s.toks + 1 } -> wpAny (model X.prog X.w) X.A (f (.int i t) (.int j u)) Q E s) :
  OpR X f (rI C fun i j => .int (g i j)) := by
 intro pins s σ H x y v u Q I rx ry h
 obtain ⟨i, j, rfl, rfl, hc, q⟩ := h
 obtain ⟨t, rfl⟩ := rx
 obtain ⟨t', rfl⟩ := ry
 exact rule i j t t' s _ _ hc ⟨.int (g i j), H, I.tok _, ⟨_, rfl⟩, q⟩
theorem opI0 {f : Value -> Value -> Sem Value} {g : Int -> Int -> Int}
  (rule : ∀ (i j : Int) (t u : Tok) (s : Shared) (Q : L2.VSP) (E : L2.VSP), Q (.int (g i j) s.toks) { s with toks := s.toks + 1 } -> wpAny (model X.prog X.w) X.A (f (.int i t) (.int j u)) Q E s) :
  OpR X f (rI0 fun i j => .int (g i j)) := by
 intro pins s σ H x y v u Q I rx ry h
 obtain ⟨i, j, rfl, rfl, q⟩ := h
 obtain ⟨t, rfl⟩ := rx
 obtain ⟨t', rfl⟩ := ry
 exact rule i j t t' s _ _ ⟨.int (g i j), H, I.tok _, ⟨_, rfl⟩, q⟩
theorem opB0 {f : Value -> Value -> Sem Value} {g : Int -> Int -> Bool}
  (rule : ∀ (i j : Int) (t u : Tok) (s : Shared) (Q : L2.VSP) (E : L2.VSP), Q (.bool (g i j)) s -> wpAny (model X.prog X.w) X.A (f (.int i t) (.int j u)) Q E s) :
  OpR X f (rI0 fun i j => .bl (g i j)) := by
 intro pins s σ H x y v u Q I rx ry h
 obtain ⟨i, j, rfl, rfl, q⟩ := h
 obtain ⟨t, rfl⟩ := rx
 obtain ⟨t', rfl⟩ := ry
 exact rule i j t t' s _ _ ⟨.bl (g i j), H, I, rfl, q⟩
def CPow (i j : Int) : Prop := 0 <= j /\ j <= 1000000 /\ i.natAbs < 2 ^ 64
def CMul (i j : Int) : Prop := (-(2 ^ 64) < i /\ i < 2 ^ 64) \/ (-(2 ^ 64) < j /\ j < 2 ^ 64)
theorem CMul.ok {i j : Int} (h : CMul i j) : IntMulOk i j := by
 rcases h with ⟨h1, h2⟩ | ⟨h1, h2⟩
 ·exact .of_left (intBits_le_64 h1 h2)
 ·exact .of_right (intBits_le_64 h1 h2)
theorem Z9t (k : Nat) : (0 : Int) <= 2 ^ k := by
 rw [two_pow_cast]
 exact Int.natCast_nonneg _
theorem Zl3 : OpR X (binaryOp .Add) (rI0 fun i j => .int (i + j)) := opI0 fun ψ ψ ψ ψ ψ ψ ψ q => add_int q
theorem Zl4 : OpR X (binaryOp .Sub) (rI0 fun i j => .int (i - j)) := opI0 fun ψ ψ ψ ψ ψ ψ ψ q => sub_int q
theorem Zl5 : OpR X (binaryOp .Mod) (rI (fun ψ j => 0 < j) fun i j => .int (i % j)) := opI fun i j ψ ψ ψ ψ ψ hc q => by
 have h1 : (0 : Int) < j := hc
 exact mod_int' (by omega) (by rw [Int.fmod_eq_emod_of_nonneg i (by omega)]; exact q)
theorem Zl6 : OpR X (binaryOp .Pow) (rI CPow fun i j => .int (i ^ j.toNat)) := opI fun ψ ψ ψ ψ ψ ψ ψ hc q => pow_int_small hc.1 hc.2.1 hc.2.2 q
theorem unI {f : Value -> Sem Value} {g : Int -> Int}
  (rule : ∀ (i : Int) (t : Tok) (s : Shared) (Q : L2.VSP) (E : L2.VSP), Q (.int (g i) s.toks) { s with toks := s.toks + 1 } -> wpAny (model X.prog X.w) X.A (f (.int i t)) Q E s) :
  UnR X f (rU fun i => .int (g i)) := by
 intro pins s σ H x v Q I rx h
 obtain ⟨i, rfl, q⟩ := h
 obtain ⟨t, rfl⟩ := rx
 exact rule i t s _ _ ⟨.int (g i), H, I.tok _, ⟨_, rfl⟩, q⟩
theorem Zl7 : UnR X (unaryOp .USub) (rU fun i => .int (-i)) := unI fun ψ ψ ψ ψ ψ q => neg_int q
end
def scal : V -> V -> Bool
 | .non, .non => true | .non, .int _ => true | .int _, .non => true | .non, .bl _ => true | .bl _, .non => true | .non, .str _ => true | .str _, .non => true
 | .int _, .int _ => true | .bl _, .bl _ => true | .str _, .str _ => true | .byt _, .byt _ => true
 | .int _, .str _ => true | .str _, .int _ => true | .bl _, .str _ => true | .str _, .bl _ => true
 | _, _ => false
def rEq : R2 := fun x y H Q => scal x y = true /\ Q (.bl (decide (x = y))) H
def rNe : R2 := fun x y H Q => scal x y = true /\ Q (.bl (!decide (x = y))) H
theorem Zaz {i j : Int} : decide (V.int i = V.int j) = (i == j) := by
 rw [Bool.eq_iff_iff]
 simp
theorem Zge {i j : Bool} : decide (V.bl i = V.bl j) = (i == j) := by
 rw [Bool.eq_iff_iff]
 simp
theorem Zb0 {i j : Str} : decide (V.str i = V.str j) = (i == j) := by
 rw [Bool.eq_iff_iff]
 simp
theorem Zb1 {i j : Array UInt8} : decide (V.byt i = V.byt j) = (i.toList == j.toList) := by
 rw [Bool.eq_iff_iff]
 cases i
 cases j
 simp
section
variable {X : Cx} {a b c : Expr} {ta tb : TE} {pos : Pos}
theorem Z0k {pins : L2.AO} {σ : St} {H : Hp} {s : Shared} {Q : VK} {k k' : Bool} (I : Inv X pins σ H s) (q : Q (.bl k) H) (e : k = k') : EP X pins σ Q (.bool k') s := by
 subst e
 exact ⟨.bl k, H, I, rfl, q⟩
theorem Zpw : OpR X (compareOp .Eq) rEq := by
 intro pins s σ H x y v u Q I rx ry h
 obtain ⟨hs, q⟩ := h
 cases x with
 | non =>
  cases rx
  cases y with
  | non => cases ry; exact PySem.EqNone.eq_none_none (Z0k I q (by simp))
  | bl j => cases ry; exact PySem.EqNone.eq_none_bool (Z0k I q (by simp))
  | int j => obtain ⟨t', rfl⟩ := ry; exact PySem.EqNone.eq_none_int (Z0k I q (by simp))
  | str j => obtain ⟨t', rfl⟩ := ry; exact PySem.EqNone.eq_none_str (Z0k I q (by simp))
  | _ => exact absurd (show false = true from hs) Bool.false_ne_true
 | bl i =>
  cases rx
  cases y with
  | non => cases ry; exact PySem.EqNone.eq_bool_none (Z0k I q (by simp))
  | bl j => cases ry; exact eq_bool (Z0k I q Zge)
  | str j => obtain ⟨t', rfl⟩ := ry; exact PySem.EqMixed.eq_bool_str (Z0k I q (by simp))
  | _ => exact absurd (show false = true from hs) Bool.false_ne_true
 | int i =>
  obtain ⟨t, rfl⟩ := rx
  cases y with
  | non => cases ry; exact PySem.EqNone.eq_int_none (Z0k I q (by simp))
  | int j => obtain ⟨t', rfl⟩ := ry; exact eq_int (Z0k I q Zaz)
  | str j => obtain ⟨t', rfl⟩ := ry; exact PySem.EqMixed.eq_int_str (Z0k I q (by simp))
  | _ => exact absurd (show false = true from hs) Bool.false_ne_true
 | str i =>
  obtain ⟨t, rfl⟩ := rx
  cases y with
  | non => cases ry; exact PySem.EqNone.eq_str_none (Z0k I q (by simp))
  | bl j => cases ry; exact PySem.EqMixed.eq_str_bool (Z0k I q (by simp))
  | int j => obtain ⟨t', rfl⟩ := ry; exact PySem.EqMixed.eq_str_int (Z0k I q (by simp))
  | str j => obtain ⟨t', rfl⟩ := ry; exact eq_str (Z0k I q Zb0)
  | _ => exact absurd (show false = true from hs) Bool.false_ne_true
 | byt i =>
  obtain ⟨t, rfl⟩ := rx
  cases y with
  | byt j => obtain ⟨t', rfl⟩ := ry; exact PySem.W.eq_bytes (Z0k I q Zb1)
  | _ => exact absurd (show false = true from hs) Bool.false_ne_true
 | _ => cases y <;> exact absurd (show false = true from hs) Bool.false_ne_true
theorem Zpx : OpR X (compareOp .NotEq) rNe := by
 intro pins s σ H x y v u Q I rx ry h
 obtain ⟨hs, q⟩ := h
 cases x with
 | non =>
  cases rx
  cases y with
  | non => cases ry; exact PySem.EqNone.ne_none_none (Z0k I q (by simp))
  | bl j => cases ry; exact PySem.EqNone.ne_none_bool (Z0k I q (by simp))
  | int j => obtain ⟨t', rfl⟩ := ry; exact PySem.EqNone.ne_none_int (Z0k I q (by simp))
  | str j => obtain ⟨t', rfl⟩ := ry; exact PySem.EqNone.ne_none_str (Z0k I q (by simp))
  | _ => exact absurd (show false = true from hs) Bool.false_ne_true
 | bl i =>
  cases rx
  cases y with
  | non => cases ry; exact PySem.EqNone.ne_bool_none (Z0k I q (by simp))
  | bl j => cases ry; exact ne_bool (Z0k I q (congrArg not Zge))
  | str j => obtain ⟨t', rfl⟩ := ry; exact PySem.EqMixed.ne_bool_str (Z0k I q (by simp))
  | _ => exact absurd (show false = true from hs) Bool.false_ne_true
 | int i =>
  obtain ⟨t, rfl⟩ := rx
  cases y with
  | non => cases ry; exact PySem.EqNone.ne_int_none (Z0k I q (by simp))
  | int j => obtain ⟨t', rfl⟩ := ry; exact ne_int (Z0k I q (congrArg not Zaz))
  | str j => obtain ⟨t', rfl⟩ := ry; exact PySem.EqMixed.ne_int_str (Z0k I q (by simp))
  | _ => exact absurd (show false = true from hs) Bool.false_ne_true
 | str i =>
  obtain ⟨t, rfl⟩ := rx
  cases y with
  | non => cases ry; exact PySem.EqNone.ne_str_none (Z0k I q (by simp))
  | bl j => cases ry; exact PySem.EqMixed.ne_str_bool (Z0k I q (by simp))
  | int j => obtain ⟨t', rfl⟩ := ry; exact PySem.EqMixed.ne_str_int (Z0k I q (by simp))
  | str j => obtain ⟨t', rfl⟩ := ry; exact ne_str (Z0k I q (congrArg not Zb0))
  | _ => exact absurd (show false = true from hs) Bool.false_ne_true
 | byt i =>
  obtain ⟨t, rfl⟩ := rx
  cases y with
  | byt j => obtain ⟨t', rfl⟩ := ry; exact PySem.W.ne_bytes (Z0k I q (congrArg not Zb1))
  | _ => exact absurd (show false = true from hs) Bool.false_ne_true
 | _ => cases y <;> exact absurd (show false = true from hs) Bool.false_ne_true
theorem Zpy : OpR X (compareOp .Lt) (rI0 fun i j => .bl (decide (i < j))) := opB0 fun ψ ψ ψ ψ ψ ψ ψ q => lt_int q
theorem Zl8 : OpR X (compareOp .Gt) (rI0 fun i j => .bl (decide (j < i))) := opB0 fun ψ ψ ψ ψ ψ ψ ψ q => gt_int q
theorem Zpz : OpR X (compareOp .GtE) (rI0 fun i j => .bl (decide (j <= i))) := opB0 fun ψ ψ ψ ψ ψ ψ ψ q => ge_int q
theorem Zl9 : OpR X (compareOp .Is) (fun x y H Q => y = .non /\ Q (.bl (decide (x = .non))) H) := by
 intro pins s σ H x y v u Q I rx ry h
 obtain ⟨rfl, q⟩ := h
 cases ry
 refine is_none_gen (Z0k I q ?_)
 cases x <;> first
  | (cases rx; rfl)
  | (obtain ⟨t, rfl⟩ := rx; rfl)
theorem OpR.or {f : Value -> Value -> Sem Value} {r r' : R2} (h : OpR X f r) (h' : OpR X f r') : OpR X f (fun x y H Q => r x y H Q \/ r' x y H Q) := by
 intro pins s σ H x y v u Q I rx ry q
 rcases q with q | q
 ·exact h pins s σ H x y v u Q I rx ry q
 ·exact h' pins s σ H x y v u Q I rx ry q
theorem Z2i (b : Expr) {op : CmpOp} (h : op ≠ .In := by decide) (h2 : op ≠ .NotIn := by decide) : behindInMarks op b = false := by
 have e1 : (op == CmpOp.In) = false := by cases op <;> first | rfl | exact absurd rfl h
 have e2 : (op == CmpOp.NotIn) = false := by cases op <;> first | rfl | exact absurd rfl h2
 cases b <;> simp [behindInMarks, e1, e2]
theorem Zhr {op : CmpOp} {r : R2} (ho : OpR X (compareOp op) r) (ha : PE X a ta) (hb : PE X b tb) (hm : behindInMarks op b = false) : PE X (.Compare a [op] [b] pos) (tOp r ta tb) := by
 intro pins s σ H Q I h
 exact wpAny_Compare1 (binT ha hb I h fun v u s2 x y H2 I2 rx ry q => ho pins s2 σ H2 x y v u Q I2 rx ry q) hm
def Zla (t : TE) : TT := fun σ H Q => t σ H fun x H' => ∃ k, x = .bl k /\ Q k H'
theorem Zhs {op : CmpOp} {r : R2} (ho : OpR X (compareOp op) r) (ha : PE X a ta) (hb : PE X b tb) (hm : behindInMarks op b = false) : PT X (.Compare a [op] [b] pos) (Zla (tOp r ta tb)) := by
 intro pins s σ H Q I h
 refine wpAny_isTrue_Compare1 (thn (ha pins s σ H _ I h) fun v s1 ⟨x, H1, I1, r1, q1⟩ => thn (hb pins s1 σ H1 _ I1 q1) fun u s2 ⟨y, H2, I2, r2, q2⟩ =>
  thn (ho pins s2 σ H2 x y v u _ I2 r1 r2 q2) fun c s3 ⟨z, H3, I3, r3, k, e, q3⟩ => ?_) hm
 subst e
 cases r3
 exact wpAny_truthy_bool ⟨H3, I3, q3⟩
theorem Z8l : (sizeLine : Nat) < 2 ^ 63 := by rw [sizeLine_eq]; decide
theorem Z2e {x : V} {us : List Value} (r : Vals [x] us) : ∃ u, us = [u] /\ RelV x u := by
 cases r with
 | cons r1 r2 => cases r2; exact ⟨_, rfl, r1⟩
theorem Ze5 {x y : V} {us : List Value} (r : Vals [x, y] us) : ∃ u w', us = [u, w'] /\ RelV x u /\ RelV y w' := by
 cases r with
 | cons r1 r2 =>
  cases r2 with
  | cons r3 r4 => cases r4; exact ⟨_, _, rfl, r1, r3⟩
theorem Ze6 : Z0s X (.builtin "abs") (fun xs H Q => ∃ i, xs = [.int i] /\ Q (.int (if i < 0 then -i else i)) H) := by
 intro pins s σ H xs us Q I r h
 obtain ⟨i, rfl, q⟩ := h
 obtain ⟨u, rfl, t, rfl⟩ := Z2e r
 exact call_abs_int fun u tk => ⟨.int (if i < 0 then -i else i), H, I.tok _, ⟨_, rfl⟩, q⟩
theorem Zb2 : Z0s X (.type "int") (fun xs H Q => (∃ i, xs = [.int i] /\ Q (.int i) H) \/ ∃ k, xs = [.bl k] /\ Q (.int (if k then 1 else 0)) H) := by
 intro pins s σ H xs us Q I r h
 rcases h with ⟨i, rfl, q⟩ | ⟨k, rfl, q⟩
 ·obtain ⟨u, rfl, t, rfl⟩ := Z2e r
  exact call_int_int ⟨.int i, H, I, ⟨_, rfl⟩, q⟩
 ·obtain ⟨u, rfl, r1⟩ := Z2e r
  cases r1
  exact call_int_bool ⟨.int (if k then 1 else 0), H, I.tok _, ⟨_, rfl⟩, q⟩
end
structure ObjM (h : Heap) (x dx C : Addr) (mA : L2.SV) : Prop where
 obj : h.get? x = some (PySem.W.instObj C dx)
 ns : h.Ns1 dx mA
 ne : dx ≠ x
theorem Zb3 {h : Heap} {dx : Addr} {mA : L2.SV} (n : h.Ns1 dx mA) : ∃ od, h.get? dx = some od /\ ∀ name, PySem.W.lookIn name od = some (mA name) := by
 obtain ⟨o, es, ep, ho, hd, hk, _, hm⟩ := n
 refine ⟨o, ho, fun name => ?_⟩
 have e := hm name
 unfold nsFind findBy at e
 rw [<- Array.find?_toList] at e
 unfold PySem.W.lookIn
 rw [hd]
 dsimp only
 split
 ·rename_i y q
  rw [q] at e
  exact congrArg some e
 ·rename_i q
  rw [q] at e
  have a : es.toList.any (·.refKey) = false := by
   rw [List.any_eq_false]
   intro y hy
   obtain ⟨z, t, hkey⟩ := hk y (Array.mem_toList_iff.mp hy)
   simp [DictEntry.refKey, hkey]
  have a' : ¬ es.toList.any (·.refKey) = true := by rw [a]; exact Bool.false_ne_true
  rw [if_neg a']
  exact congrArg some e
theorem ObjM.look {h : Heap} {x dx C : Addr} {mA : L2.SV} (I : ObjM h x dx C mA) : ∃ od, PySem.W.InstAt h x (PySem.W.instObj C dx) C (some od) /\ ∀ name, PySem.W.lookIn name od = some (mA name) :=
 let ⟨od, ho, hl⟩ := Zb3 I.ns
 ⟨od, ⟨I.obj, rfl, rfl, ho⟩, hl⟩
theorem RelO.some_of {v : V} {o : Option Value} (r : RelO (some v) o) : ∃ u, o = some u /\ RelV v u := by
 cases o with
 | none => exact (show False from r).elim
 | some u => exact ⟨u, rfl, r⟩
section
variable {P : Program} {w : World} {H : Hp} {h : Heap} {a C dx : Addr} {fs : List (Str × V)}
theorem Zht (hok : HOk P w H h) (e : H a = some (.ins C dx fs)) : ∃ mA, ObjM h a dx C mA /\ (∀ f, RelO (fs.lookup f) (mA f)) /\ PySem.Within mA (fs.map (·.1)) /\ fs.length <= 1000 /\ H dx = some (.own a) := by
 obtain ⟨d, z, ne, ob, mA, n, r, q⟩ := (show Z0r P w H h a (.ins C dx fs) from hok a _ e)
 exact ⟨mA, ⟨ob, n, ne⟩, r, q, z, d⟩
end
structure Cls (K : L2.Fg) (C : Addr) : Prop where
 pg : PySem.W.plainGet K C Str.empty = true
 hd : PySem.W.hasDictIn K C = true
 po : PySem.W.plainOver K C = true
 sa : PySem.W.findIn K (.ref C) "__setattr__" = some (some (.builtin "object.__setattr__"))
theorem Cls.get {K : L2.Fg} {C : Addr} (c : Cls K C) (f : Str) : PySem.W.plainGet K C f = true := c.pg
section
variable {X : Cx} {pins : L2.AO} {σ : St} {H : Hp} {s : Shared} {a C : Addr}
theorem Inv.made (I : Inv X pins σ H s) : Inv X pins σ (upd (upd H s.heap.objs.size (.own (s.heap.objs.size + 1))) (s.heap.objs.size + 1) (.ins C s.heap.objs.size []))
  { s with heap := (s.heap.push PySem.W.emptyDict).push (PySem.W.instObj C s.heap.objs.size) } := by
 have e1 : (s.heap.push PySem.W.emptyDict).get? s.heap.objs.size = some PySem.W.emptyDict := Heap.get?_push_size s.heap rfl
 have e2 : ((s.heap.push PySem.W.emptyDict).push (PySem.W.instObj C s.heap.objs.size)).get? (s.heap.objs.size + 1) = some (PySem.W.instObj C s.heap.objs.size) := by
  have := Heap.get?_push_size (s.heap.push PySem.W.emptyDict) (o := PySem.W.instObj C s.heap.objs.size) rfl
  rwa [Heap.size_push] at this
 have e3 : (s.heap.push PySem.W.emptyDict).Ns s.heap.objs.size (fun ψ => none) := ⟨PySem.W.emptyDict, #[], _, e1, rfl, (fun e he => absurd he (by simp)), fun ψ => rfl⟩
 have I1 := I.laid (a := s.heap.objs.size) (o := .own (s.heap.objs.size + 1)) (h' := s.heap.push PySem.W.emptyDict) (t' := s.toks) (fun b u q => Heap.get?_push_of_some _ q) (Nat.le_refl _) ⟨_, e1⟩
 refine I1.laid (a := s.heap.objs.size + 1) (o := .ins C s.heap.objs.size []) (t' := s.toks) (fun b u q => Heap.get?_push_of_some _ q) (Nat.le_of_eq (Heap.size_push _ _)) ?_
 have ne : s.heap.objs.size ≠ s.heap.objs.size + 1 := Nat.ne_of_lt (Nat.lt_succ_self _)
 refine ⟨by rw [Z06 ne, Z03], Nat.zero_le _, ne, e2, fun ψ => none, (Heap.Ns1.of_empty e3).at fun o q => Heap.get?_push_of_some _ q, fun ψ => True.intro, fun y hy => absurd rfl hy⟩
end
section
variable {X : Cx} {pins : L2.AO} {σ : St} {H : Hp} {s : Shared} {A : Around} {E : L2.VSP} {Q : L2.VSP} {c : Value} {b : Bool}
inductive TyOf (K : L2.Fg) (H : Hp) : V -> Value -> Prop where
 | non : TyOf K H .non (.type "NoneType")
 | bl (x : Bool) : TyOf K H (.bl x) (.type "bool")
 | int (i : Int) : TyOf K H (.int i) (.type "int")
 | str (x : Str) : TyOf K H (.str x) (.type "str")
 | flt (x : UInt64) : TyOf K H (.flt x) (.type "float")
 | lst {a : Addr} {xs : List V} (e : H a = some (.lst xs)) : TyOf K H (.ref a) (.type "list")
 | frz {a : Addr} {o : Obj} {xs : List V} (e : H a = some (.frz o (.lst xs))) : TyOf K H (.ref a) (.type "list")
 | tup {a : Addr} {xs : List V} (e : H a = some (.tup xs)) : TyOf K H (.ref a) (.type "tuple")
 | dK {a : Addr} {kvs : List (Key × V)} (e : H a = some (.dK kvs)) : TyOf K H (.ref a) (.type "dict")
 | dT {a : Addr} {kvs : List (List Key × V)} (e : H a = some (.dT kvs)) : TyOf K H (.ref a) (.type "dict")
 | ins {a C dx : Addr} {fs : List (Str × V)} (e : H a = some (.ins C dx fs)) (cl : Cls K C) (ha : PySem.W.findIn K (.ref C) "__class__" = some (some (.builtin "object.__class__")))
   (hn : PySem.W.specialIn K (.builtin "object.__class__") "__get__" = some (some (.builtin "getset_descriptor.__get__"))) (htk : PySem.W.takesIn K (.builtin "object.__class__") = some true)
   (hm : PySem.W.mroIn K C (.type "object") = some true) : TyOf K H (.ref a) (.ref C)
theorem Zb4 {x : V} {u t : Value} (I : Inv X pins σ H s) (rx : RelV x u) (ty : TyOf X.K H x t) (e : PySem.W.kitOne X.K t c = some b) (h : ∀ tk, Q (.bool b) { s with toks := tk }) :
  wpAny (model X.prog X.w) A (call (.builtin "isinstance") [u, c]) Q E s := by
 cases ty with
 | non => cases (show u = Value.none from rx); exact PySem.W.kia_one PySem.W.kitx_none I.kIn True.intro e (fun z => nomatch z) h
 | bl y => cases (show u = Value.bool y from rx); exact PySem.W.kia_one PySem.W.kitx_bool I.kIn True.intro e (fun z => nomatch z) h
 | int i => obtain ⟨t, q⟩ := (show ∃ t, u = Value.int i t from rx); cases q; exact PySem.W.kia_one PySem.W.kitx_int I.kIn True.intro e (fun z => nomatch z) h
 | str y => obtain ⟨t, q⟩ := (show ∃ t, u = Value.str y t from rx); cases q; exact PySem.W.kia_one PySem.W.kitx_str I.kIn True.intro e (fun z => nomatch z) h
 | flt y => obtain ⟨t, q⟩ := (show ∃ t, u = Value.float y t from rx); cases q; exact PySem.W.kia_one PySem.W.kitx_float I.kIn True.intro e (fun z => nomatch z) h
 | @lst a xs ea =>
  cases (show u = Value.ref a from rx)
  obtain ⟨_, _, n, _, h1⟩ := (show Z0r X.prog X.w H s.heap a (.lst xs) from I.hok a _ ea)
  exact PySem.W.kia_one PySem.W.kitx_list I.kIn ⟨_, h1, rfl⟩ e (fun z => nomatch z) h
 | @frz a ob xs ea =>
  cases (show u = Value.ref a from rx)
  obtain ⟨_, _, _, n, _, h1⟩ := (show Z0r X.prog X.w H s.heap a (.frz ob (.lst xs)) from I.hok a _ ea)
  exact PySem.W.kia_one PySem.W.kitx_list I.kIn ⟨_, h1, rfl⟩ e (fun z => nomatch z) h
 | @tup a xs ea =>
  cases (show u = Value.ref a from rx)
  obtain ⟨_, _, _, p⟩ := (show Z0r X.prog X.w H s.heap a (.tup xs) from I.hok a _ ea)
  obtain ⟨o, h1, h2, _⟩ := p
  exact PySem.W.kia_one PySem.W.kitx_tuple I.kIn ⟨o, h1, h2⟩ e (fun z => nomatch z) h
 | @dK a kvs ea =>
  cases (show u = Value.ref a from rx)
  obtain ⟨_, _, vs, _, p⟩ := (show Z0r X.prog X.w H s.heap a (.dK kvs) from I.hok a _ ea)
  obtain ⟨o, es, ep, h1, h2, _⟩ := p
  exact PySem.W.kia_one PySem.W.kitx_dict I.kIn ⟨o, h1, h2.1⟩ e (fun z => nomatch z) h
 | @dT a kvs ea =>
  cases (show u = Value.ref a from rx)
  obtain ⟨_, _, xs, _, o, es, ep, h1, h2, _⟩ := (show Z0r X.prog X.w H s.heap a (.dT kvs) from I.hok a _ ea)
  exact PySem.W.kia_one PySem.W.kitx_dict I.kIn ⟨o, h1, h2.1⟩ e (fun z => nomatch z) h
 | @ins a C dx fs ea cl ha hn htk hm =>
  cases (show u = Value.ref a from rx)
  obtain ⟨mA, O, _⟩ := Zht I.hok ea
  obtain ⟨od, J, _⟩ := O.look
  exact PySem.W.kia_one (PySem.W.kitx_own (cl.get _) cl.hd ha hn htk hm) I.kIn J e (fun z => nomatch z) h
end
structure Room (k : Nat) (A : Around) : Prop where
 hd : A.handled = none
 dp : A.depth + 3 * k + 5 < recursionLimit
 un : A.units + 16 * k + 200 < cLine
theorem Room.mono {j k : Nat} {A : Around} (r : Room k A) (h : j <= k) : Room j A := ⟨r.hd, by have := r.dp; omega, by have := r.un; omega⟩
theorem Room.deeper {k : Nat} {A : Around} (r : Room (k + 1) A) (env : Env) : Room k (A.deeper env) :=
 ⟨r.hd, by have := r.dp; show A.depth + 1 + 3 * k + 5 < _; omega, by have := r.un; show A.units + 3 + 16 * k + 200 < _; omega⟩
theorem Room.in1 {k : Nat} {A : Around} (r : Room (k + 1) A) : Room k A.in1 :=
 ⟨r.hd, by have := r.dp; show A.depth + 3 * k + 5 < _; omega, by have := r.un; show A.units + 1 + 16 * k + 200 < _; omega⟩
theorem Room.depth {k : Nat} {A : Around} (r : Room k A) : A.depth < recursionLimit := by have := r.dp; omega
theorem Room.units {k : Nat} {A : Around} (r : Room k A) : A.units + 64 < cLine := by have := r.un; omega
def tNil : TA := fun ψ H Q => Q [] H
def Z3l (ta : TE) (tr : TA) : TA := fun σ H Q => ta σ H fun x H1 => tr σ H1 fun xs H2 => Q (x :: xs) H2
section
variable {X : Cx} {e : Expr} {es : List Expr} {te : TE} {t : TA} {pos : Pos}
theorem Z3m : PA X [] tNil := fun ψ ψ ψ ψ H Q I h => Calls.spliced_nil ⟨[], H, I, .nil, h⟩
theorem Z1y (ha : PE X e te) (hr : PA X es t) (hs : starEach (e :: es) X.env = (false, eval e X.env) :: starEach es X.env := by rfl) : PA X (e :: es) (Z3l te t) := by
 intro pos pins s σ H Q I h
 rw [hs]
 show wpAny _ _ (spliced ((false, eval e X.env) :: backTo pos (starEach es X.env))) _ _ s
 refine Calls.spliced_cons (thn (ha pins s σ H _ I h) fun u s1 ⟨x, H1, I1, r1, q1⟩ => ?_)
 exact thn (hr pos pins s1 σ H1 _ I1 q1) fun us s2 ⟨xs, H2, I2, r2, q2⟩ => ⟨x :: xs, H2, I2, .cons r1 r2, q2⟩
def tTup (t : TA) : TE := fun σ H Q => t σ H fun xs H1 => xs.length <= sizeLine /\ ∀ p, H1 p = none -> Q (.ref p) (upd H1 p (.tup xs))
def tLst (t : TA) : TE := fun σ H Q => t σ H fun xs H1 => xs.length <= sizeLine /\ ∀ p, H1 p = none -> Q (.ref p) (upd H1 p (.lst xs))
theorem Zlb {x1} (h : PA X es t) : PE X (.Tuple es x1 pos) (tTup t) := by
 intro pins s σ H Q I hq
 refine wpAny_Tuple_spliced (thn (h pos pins s σ H _ I hq) fun us s1 ⟨xs, H1, I1, r, z, q⟩ => ⟨by rw [<- r.length]; exact z, ?_⟩)
 have hf : H1 s1.heap.objs.size = none := I1.hok.fresh (Nat.le_refl _)
 refine ⟨.ref s1.heap.objs.size, upd H1 s1.heap.objs.size (.tup xs), I1.laid (t' := s1.toks) (fun b u e => Heap.get?_push_of_some _ e) (Nat.le_refl _) ?_, rfl, q _ hf⟩
 exact ⟨z, us, r, ⟨_, Heap.get?_push_size _ rfl, rfl, _, rfl⟩⟩
theorem Zlc (h : PA X es t) : PE X (.List es pos) (tLst t) := by
 intro pins s σ H Q I hq
 refine wpAny_List_spliced (thn (h pos pins s σ H _ I hq) fun us s1 ⟨xs, H1, I1, r, z, q⟩ => ⟨by rw [<- r.length]; exact z, ?_⟩)
 have hf : H1 s1.heap.objs.size = none := I1.hok.fresh (Nat.le_refl _)
 refine ⟨.ref s1.heap.objs.size, upd H1 s1.heap.objs.size (.lst xs), I1.laid (t' := s1.toks) (fun b u e => Heap.get?_push_of_some _ e) (Nat.le_refl _) ?_, rfl, q _ hf⟩
 exact ⟨z, us, 0, r, Heap.get?_push_size _ rfl⟩
end
abbrev Sp := List V -> Hp -> VK -> XK -> Prop
abbrev CXT := List Env -> Hp -> Shared -> XK -> Value -> Shared -> Prop
structure Env0 (P : Program) (w : World) (K : L2.Fg) (mg : L2.SV) (base : Heap) (A : Around) (outer : List Env) (s : Shared) (H : Hp) : Prop where
 frames : A.frames = some outer
 mod : Mod K mg base
 bs : ∀ b o, base.get? b = some o -> s.heap.get? b = some o /\ H b = none
 bsz : base.objs.size <= s.heap.objs.size
 funs : s.heap.FunFrames base outer
 frf : ∀ b ∈ frs outer, H b = none
 hok : HOk P w H s.heap
 bare : AllBare s.gens
def CE (outer : List Env) (P : Program) (w : World) (H : Hp) (s : Shared) (Q : VK) (u : Value) (s' : Shared) : Prop :=
 ∃ v H', s'.os = s.os /\ AllBare s'.gens /\ Un (frs outer) [] H H' s.heap s'.heap /\ HOk P w H' s'.heap /\ RelV v u /\ Q v H'
def CR (CX : CXT) (outer : List Env) (P : Program) (w : World) (H : Hp) (s : Shared) (Q : VK) (E : XK) (r : Result) (s' : Shared) : Prop :=
 match r with
 | .ok (.ret u) => CE outer P w H s Q u s'
 | .ok _ => False
 | .error e => CX outer H s E e s'
structure FnOk (P : Program) (w : World) (K : L2.Fg) (mg : L2.SV) (base : Heap) (CX : CXT) (k : Nat) (f : Addr) (fd : FuncData) (ps : List Str) (sp : Sp) : Prop where
 len : ∀ vs H Q E, sp vs H Q E -> vs.length = ps.length
 run : ∀ (A : Around) (outer : List Env) (s : Shared) (H : Hp) (args : Args) (us : List Value) (vs : List V) (Q : VK) (E : XK), Room k A -> Env0 P w K mg base A outer s H -> BindsTo s fd args (ps.zip us) -> Vals vs us -> sp vs H Q E ->
  codeAny (model P w) A (.call (.ref f) args) (CR CX outer P w H s Q E) s
theorem FnOk.mono {P : Program} {w : World} {K : L2.Fg} {mg : L2.SV} {base : Heap} {CX : CXT} {j k : Nat} {f : Addr} {fd : FuncData} {ps : List Str} {sp : Sp} (F : FnOk P w K mg base CX j f fd ps sp) (h : j <= k) :
  FnOk P w K mg base CX k f fd ps sp := ⟨F.len, fun A outer s H args us vs Q E hr => F.run A outer s H args us vs Q E (hr.mono h)⟩
theorem FnOk.imp {P : Program} {w : World} {K : L2.Fg} {mg : L2.SV} {base : Heap} {CX : CXT} {k : Nat} {f : Addr} {fd : FuncData} {ps : List Str} {sp sp' : Sp} (F : FnOk P w K mg base CX k f fd ps sp)
  (h : ∀ vs H Q E, sp' vs H Q E -> sp vs H Q E) : FnOk P w K mg base CX k f fd ps sp' :=
 ⟨fun vs H Q E q => F.len vs H Q E (h _ _ _ _ q), fun A outer s H args us vs Q E hr he hb hv hs => F.run A outer s H args us vs Q E hr he hb hv (h _ _ _ _ hs)⟩
theorem Env0.in1 {P : Program} {w : World} {K : L2.Fg} {mg : L2.SV} {base : Heap} {A : Around} {outer : List Env} {s : Shared} {H : Hp} (e : Env0 P w K mg base A outer s H) :
  Env0 P w K mg base A.in1 outer s H := ⟨e.frames, e.mod, e.bs, e.bsz, e.funs, e.frf, e.hok, e.bare⟩
section
variable {X : Cx} {pins : L2.AO} {σ : St} {H : Hp} {s s' : Shared}
theorem Inv.env0 (I : Inv X pins σ H s) : Env0 X.prog X.w X.K X.mg X.base X.A X.stack s H :=
 ⟨I.ok.frames, I.ok.mod, I.bs, Nat.le_trans I.ok.bsz I.sz, I.stack, I.stkFree, I.hok, I.bare⟩
theorem Inv.after {Q : VK} {u : Value} (I : Inv X pins σ H s) (h : CE X.stack X.prog X.w H s Q u s') : EP X pins σ Q u s' := by
 obtain ⟨v, H', os, bare, un, hok, r, q⟩ := h
 obtain ⟨hh, g, d, t, os'⟩ := s'
 obtain rfl : os' = s.os := os
 exact ⟨v, H', I.call (h' := hh) (g' := g) (d' := d) (t' := t) (ch := []) un hok bare (fun b z => absurd z (by simp)), r, q⟩
end
def Ze7 (sp : Sp) (dvs : List V) (E : XK) (t : TA) : TE := fun σ H Q => t σ H fun vs H1 => sp (vs ++ dvs) H1 Q E
def Z9u (K : L2.Fg) (fd : FuncData) (ps : List Str) (ds : List Value) : Prop :=
 ∀ (s : Shared) (us : List Value), K.In s.heap -> (us ++ ds).length = ps.length -> BindsTo s fd ⟨us, []⟩ (ps.zip (us ++ ds))
theorem Z9u.all {K : L2.Fg} {fd : FuncData} {ps : List Str} (h : ∀ us : List Value, us.length = ps.length -> bindArgs fd ⟨us, []⟩ = pure (ps.zip us)) : Z9u K fd ps [] := fun s us ψ hl => by
 rw [List.append_nil] at hl ⊢
 exact .of_eq (h us hl)
def Z8m (CX : CXT) (X : Cx) (E : XK) : Prop := ∀ (pins : L2.AO) (σ : St) (H : Hp) (s : Shared) (e : Value) (s' : Shared), Inv X pins σ H s -> CX X.stack H s E e s' -> X.xe e s'
section
variable {X : Cx} {CX : CXT} {k : Nat} {f : Addr} {fd : FuncData} {ps : List Str} {sp : Sp} {dvs : List V} {ds : List Value} {E : XK} {x : Str} {p pos : Pos} {e : Expr} {es : List Expr} {t : TA}
theorem Zld {pins : L2.AO} {σ : St} {H : Hp} {s : Shared} {Q : VK} {us : List Value} {vs : List V} (F : FnOk X.prog X.w X.K X.mg X.base CX k f fd ps sp) (hr : Room k X.A) (hb : Z9u X.K fd ps ds) (hd : Vals dvs ds) (hx : Z8m CX X E)
  (I : Inv X pins σ H s) (r : Vals vs us) (h : sp (vs ++ dvs) H Q E) : wpAny (model X.prog X.w) X.A (call (.ref f) us) (EP X pins σ Q) X.xe s := by
 have r2 : Vals (vs ++ dvs) (us ++ ds) := r.append hd
 have hl : (us ++ ds).length = ps.length := by rw [<- r2.length]; exact F.len _ _ _ _ h
 refine wpAny_call (codeAny_mono (F.run X.A X.stack s H ⟨us, []⟩ (us ++ ds) (vs ++ dvs) Q E hr I.env0 (hb s us I.kIn hl) r2 h) fun r s' hq => ?_)
 cases r with
 | error e => exact hx pins σ H s e s' I hq
 | ok fl =>
  cases fl with
  | ret u => exact I.after hq
  | next => exact False.elim hq
  | brk => exact False.elim hq
  | cont => exact False.elim hq
theorem Zhu (F : FnOk X.prog X.w X.K X.mg X.base CX k f fd ps sp) (hr : Room k X.A) (hg : Gl X x) (hm : X.mg x = some (.ref f)) (hk : PySem.W.keepIn X.K (.ref f) = true) (hb : Z9u X.K fd ps ds) (hd : Vals dvs ds) (hx : Z8m CX X E)
  (ha : PA X (e :: es) t) (hdb : (x == ("__debug__" : Str)) = false := by decide) (he : starEach (e :: es) X.env = (false, eval e X.env) :: starEach es X.env := by rfl) (hpl : (backTo pos (starEach es X.env)).any (·.1) = false := by rfl) :
  PE X (.Call (.Name x p) (e :: es) [] pos) (Ze7 sp dvs E t) := by
 intro pins s σ H Q I h
 refine wpAny_Call_Name_kw (Zhm I hg hm ?_ hdb)
 refine PySem.W.callWith_K (h₀ := X.base) I.ok.mod.kin hk (thn (ha pos pins s σ H _ I h) fun us s1 ⟨vs, H1, I1, r, q⟩ => ⟨I1.kIn, ?_⟩) he hpl
 exact Zld F hr hb hd hx I1 r q
end
structure Z0m (N P : List Str) (sc : Scope) : Prop where
 kind : sc.kind = .function
 co : sc.isCoroutine = false
 gen : sc.isGenerator = false
 nd : N.Nodup
 pre : N.take P.length = P
 par : ∀ x ∈ P, sc.names.lookup x = some .local \/ sc.names.lookup x = some .cell
 nofree : ∀ y ∈ sc.names, y.2 ≠ .free
theorem Z64 {kindOf : Str -> Option NameKind} {x : Str} : ∀ {binds : List (Str × Value)} {m : L2.SV}, (∀ v, (x, v) ∉ binds) -> bindL kindOf binds m x = m x
 | [], _, _ => rfl
 | (n, v) :: r, m, h => by
  unfold bindL
  rw [Z64 fun w hw => h w (List.mem_cons_of_mem _ hw)]
  split
  ·have : x ≠ n := by rintro rfl; exact h v List.mem_cons_self
   simp [this]
  ·rfl
theorem Z65 {kindOf : Str -> Option NameKind} {x : Str} : ∀ {binds : List (Str × Value)} {m : L2.SV}, (∀ v, (x, v) ∉ binds) -> bindC kindOf binds m x = m x
 | [], _, _ => rfl
 | (n, v) :: r, m, h => by
  unfold bindC
  rw [Z65 fun w hw => h w (List.mem_cons_of_mem _ hw)]
  split
  ·rfl
  ·have : x ≠ n := by rintro rfl; exact h v List.mem_cons_self
   simp [this]
theorem Z66 {kindOf : Str -> Option NameKind} {x : Str} {v : Value} : ∀ {P : List Str} {vs : List Value} {i : Nat} {m : L2.SV}, P.Nodup -> P[i]? = some x -> vs[i]? = some v -> kindOf x = some .local ->
  bindL kindOf (P.zip vs) m x = some v
 | [], _, _, _, _, h, _, _ => by simp at h
 | _ :: _, [], _, _, _, _, h, _ => by simp at h
 | p :: P, w :: vs, 0, m, nd, h1, h2, hk => by
  simp at h1 h2; subst h1; subst h2
  show bindL kindOf ((p, w) :: P.zip vs) m p = _
  unfold bindL
  rw [Z64 fun v hv => (List.nodup_cons.mp nd).1 (List.of_mem_zip hv).1, if_pos hk]
  simp
 | p :: P, w :: vs, i + 1, m, nd, h1, h2, hk => by
  show bindL kindOf ((p, w) :: P.zip vs) m x = _
  unfold bindL
  exact Z66 (i := i) (List.nodup_cons.mp nd).2 (by simpa using h1) (by simpa using h2) hk
theorem Z67 {kindOf : Str -> Option NameKind} {x : Str} {v : Value} : ∀ {P : List Str} {vs : List Value} {i : Nat} {m : L2.SV}, P.Nodup -> P[i]? = some x -> vs[i]? = some v -> kindOf x ≠ some .local ->
  bindC kindOf (P.zip vs) m x = some v
 | [], _, _, _, _, h, _, _ => by simp at h
 | _ :: _, [], _, _, _, _, h, _ => by simp at h
 | p :: P, w :: vs, 0, m, nd, h1, h2, hk => by
  simp at h1 h2; subst h1; subst h2
  show bindC kindOf ((p, w) :: P.zip vs) m p = _
  unfold bindC
  rw [Z65 fun v hv => (List.nodup_cons.mp nd).1 (List.of_mem_zip hv).1, if_neg hk]
  simp
 | p :: P, w :: vs, i + 1, m, nd, h1, h2, hk => by
  show bindC kindOf ((p, w) :: P.zip vs) m x = _
  unfold bindC
  exact Z67 (i := i) (List.nodup_cons.mp nd).2 (by simpa using h1) (by simpa using h2) hk
def start (N : List Str) (vs : List V) : St := vs.map some ++ List.replicate (N.length - vs.length) none
def cxOf (CX : CXT) (P : Program) (w : World) (K : L2.Fg) (mg : L2.SV) (base : Heap) (N : List Str) (qual : Str) (scope : Scope) (f : Addr) (cd : Value) (A : Around) (outer : List Env) (s : Shared) (H : Hp) (E : XK) : Cx where
 prog := P
 w := w
 K := K
 mg := mg
 base := base
 A := A.deeper (envOfC qual scope s.heap.objs.size f cd)
 N := N
 s₀ := s
 H₀ := H
 env := envOfC qual scope s.heap.objs.size f cd
 outer := outer
 stack := envOfC qual scope s.heap.objs.size f cd :: outer
 ex := []
 calm := true
 fn := fun ψ => true
 pn := []
 xe := fun e s' => wpAny (model P w) (A.deeper (envOfC qual scope s.heap.objs.size f cd)) (leaving (envOfC qual scope s.heap.objs.size f cd) e) (fun ψ s'' => CX outer H s E e s'') (fun e' s'' => CX outer H s E e' s'') s'
theorem Z8n {sc : Scope} {n : Nat} {x : Str} (h : sc.names.lookup x = some .cell) : ∃ c, (cellsFrom n sc.names []).lookup x = some c := by
 have q := PySem.W.cellsFrom_some sc.names n [] (.inl h)
 exact Option.isSome_iff_exists.mp q
theorem Zb5 {CX : CXT} {P : Program} {w : World} {K : L2.Fg} {mg : L2.SV} {base : Heap} {N ps : List Str} {qual : Str} {scope : Scope} {f : Addr} {cd : Value} {A : Around} {outer : List Env} {s s1 : Shared} {H : Hp} {E : XK} {us : List Value} {vs : List V}
  (S : Z0m N ps scope) (hd : A.handled = none) (e0 : Env0 P w K mg base A outer s H) (hl : vs.length = ps.length) (r : Vals vs us)
  (x : InCallC s s.heap.objs.size (bindL (envOfC qual scope s.heap.objs.size f cd).kindOf (ps.zip us) fun ψ => none) (cellsFrom (s.heap.objs.size + 1) scope.names []) (bindC (envOfC qual scope s.heap.objs.size f cd).kindOf (ps.zip us) fun ψ => none) s1) :
  Inv (cxOf CX P w K mg base N qual scope f cd A outer s H E) [] (start N vs) H s1 := by
 have hpl : ps.length <= N.length := by have := congrArg List.length S.pre; rw [List.length_take] at this; omega
 obtain ⟨h1, tk, rfl, hk⟩ := x.done
 have noA : ∀ b : Addr, b ∉ (cxOf CX P w K mg base N qual scope f cd A outer s H E).ex := fun b z => absurd (show b ∈ ([] : List Addr) from z) (by simp)
 refine ⟨⟨e0.mod, S.kind, rfl, rfl, Nat.le_refl _, fun y z c h1 h2 => ?_, fun y hy => ?_, fun y c ψ h => ?_, fun ψ => hd, Around.frames_deeper e0.frames, .inr ⟨rfl, rfl⟩, fun b z => absurd z (noA b), e0.bs, e0.bsz, fun b ψ ψ => noA b, fun b z => absurd z (noA b), e0.funs, e0.frf⟩,
  rfl, e0.bare, Un.kept hk, ⟨_, x.toInCall.ns, fun i y v h1 h2 h3 => ?_⟩, fun y c h => ⟨_, x.cell y c h⟩, e0.hok.fresh (Nat.le_refl _), fun y c h => ?_, fun p hp => absurd (show p ∈ ([] : L2.AO) from hp) (by simp), e0.hok.kept hk, ?_⟩
 ·exact name_of_addr x.apart (PySem.mem_of_lookup h1) (PySem.mem_of_lookup h2)
 ·have hy : scope.names.lookup y = some .cell \/ scope.names.lookup y = some .free := hy
  rcases hy with hy | hy
  ·exact Z8n hy
  ·exact absurd rfl (S.nofree _ (PySem.mem_of_lookup hy))
 ·exact Nat.le_of_lt (x.above y c (PySem.mem_of_lookup h))
 ·have hi : i < vs.length := by
   unfold start at h2
   by_cases hi : i < vs.length
   ·exact hi
   ·rw [List.getElem?_append_right (by simpa using hi)] at h2
    rw [List.getElem?_replicate] at h2
    split at h2 <;> cases h2
  have ha : vs[i]? = some v := by
   unfold start at h2
   rw [List.getElem?_append_left (by simpa using hi), List.getElem?_map] at h2
   cases e : vs[i]? with
   | none => rw [e] at h2; cases h2
   | some a => rw [e] at h2; cases h2; rfl
  obtain ⟨u, hu, rv⟩ := r.get ha
  have hp : ps[i]? = some y := by
   rw [<- S.pre, List.getElem?_take_of_lt (by omega)]; exact h1
  have ndP : ps.Nodup := by rw [<- S.pre]; exact S.nd.sublist (List.take_sublist _ _)
  refine ⟨u, rv, ?_⟩
  rcases S.par y (List.mem_of_getElem? hp) with k | k
  ·exact .inl ⟨k, Z66 ndP hp hu k⟩
  ·obtain ⟨c, e⟩ := Z8n (n := s.heap.objs.size + 1) k
   refine .inr ⟨.inl k, c, e, ?_⟩
   have q := x.cell y c e
   rw [Z67 ndP hp hu (by show scope.names.lookup y ≠ _; rw [k]; decide)] at q
   exact q
 ·exact e0.hok.fresh (Nat.le_of_lt (x.above y c (PySem.mem_of_lookup h)))
 ·unfold start
  show _ = N.length
  rw [List.length_append, List.length_map, List.length_replicate]
  omega
theorem Zle {CX : CXT} {P : Program} {w : World} {K : L2.Fg} {mg : L2.SV} {base : Heap} {k : Nat} {f : Addr} {name qual : Str} {params : Arguments} {body : List Stmt} {scope : Scope} {dV kV doc pm cdv ct oc : Value} {an od : Option Addr}
  {osl : Array (Option Value)} {N ps : List Str} {sp : Sp} (lk : K.lookup f = some ⟨oc, od, .func (PySem.W.fnOf name qual params body scope dV kV doc pm an cdv ct), osl⟩) (hcd : PySem.W.codeIn K cdv qual = true) (S : Z0m N ps scope)
  (len : ∀ vs H Q E, sp vs H Q E -> vs.length = ps.length)
  (hbody : ∀ (A : Around) (outer : List Env) (s : Shared) (H : Hp) (vs : List V) (Q : VK) (E : XK), Room k (A.deeper (envOfC qual scope s.heap.objs.size f cdv)) -> sp vs H Q E ->
   ∃ t, PSs (cxOf CX P w K mg base N qual scope f cdv A outer s H E) body t /\ t { nx := fun ψ H' => Q .non H', rt := Q } (start N vs) H) :
  FnOk P w K mg base CX (k + 1) f (PySem.W.fnOf name qual params body scope dV kV doc pm an cdv ct) ps sp := by
 refine ⟨len, fun A outer s H args us vs Q E hr e0 hb r hsp => ?_⟩
 have hl := len _ _ _ _ hsp
 have KX : K.In s.heap := e0.mod.kin.keeps fun b o e => (e0.bs b o e).1
 have lim : s.heap.NoLimit := e0.mod.nolimit.keeps fun b o e => (e0.bs b o e).1
 have hkind : ∀ y ∈ ps.zip us, scope.names.lookup y.1 = some .local \/ (scope.names.lookup y.1 = some .cell /\ ((cellsFrom (s.heap.objs.size + 1) scope.names []).lookup y.1).isSome = true) := fun ⟨n, v⟩ hy => by
  rcases S.par n (List.of_mem_zip hy).1 with q | q
  ·exact .inl q
  ·exact .inr ⟨q, PySem.W.cellsFrom_some _ _ _ (.inl q)⟩
 refine codeAny_call_function hr.depth (KX _ _ lk) rfl S.co S.gen rfl (PySem.W.codeRec_of KX hcd) (hb _ _ _ _ ?_)
 refine wpAny_newFunctionEnv_cells S.kind hkind fun env he s1 x => ?_
 subst he
 refine ⟨lim.keeps x.toInCall.keep, codeAny_func ?_⟩
 obtain ⟨t, ht, hq⟩ := hbody A outer s H vs Q E (hr.deeper _) hsp
 have I : Inv (cxOf CX P w K mg base N qual scope f cdv A outer s H E) [] (start N vs) H s1 := Zb5 S hr.hd e0 hl r x
 refine wpAny_mono (ht [] s1 (start N vs) H _ I hq) (fun fl s' hs => ?_) fun e s' hs => hs
 have fin : ∀ {σ' : St} {H' : Hp} {v : V} {u : Value}, Inv (cxOf CX P w K mg base N qual scope f cdv A outer s H E) [] σ' H' s' -> RelV v u -> Q v H' -> CE outer P w H s Q u s' :=
  fun {σ' H' v u} J rv q => ⟨v, H', J.os, J.bare, J.base, J.hok, rv, q⟩
 cases fl with
 | ret u =>
  obtain ⟨v, σ', H', J, rv, q⟩ := hs
  exact fin J rv q
 | next =>
  obtain ⟨σ', H', J, q⟩ := hs
  exact fin (v := V.non) (u := Value.none) J rfl q
 | brk =>
  obtain ⟨_, _, _, q⟩ := hs
  exact False.elim q
 | cont =>
  obtain ⟨_, _, _, q⟩ := hs
  exact False.elim q
section
variable {X : Cx} {x : Str} {p pos : Pos} {e : Expr} {es : List Expr} {t : TA} {id T : String} {r : List V -> Hp -> VK -> Prop}
def tCB (r : List V -> Hp -> VK -> Prop) (t : TA) : TE := fun σ H Q => t σ H fun vs H1 => r vs H1 Q
theorem Z3e (hc : Z0s X (.builtin id) r) (hg : Gl X x) (hm : X.mg x = none) (hv : bootBuiltins x = some (.builtin id)) (ha : PA X (e :: es) t) (hn : x ≠ "__name__" := by decide) (hdb : (x == ("__debug__" : Str)) = false := by decide)
  (he : starEach (e :: es) X.env = (false, eval e X.env) :: starEach es X.env := by rfl) (hpl : (backTo pos (starEach es X.env)).any (·.1) = false := by rfl) : PE X (.Call (.Name x p) (e :: es) [] pos) (tCB r t) := by
 intro pins s σ H Q I h
 refine wpAny_Call_Name_kw (Z34 I hg hm hv ?_ hn hdb)
 exact PyProof.Rows.callWith_builtin1 (thn (ha pos pins s σ H _ I h) fun us s1 ⟨vs, H1, I1, r1, q1⟩ => hc pins s1 σ H1 vs us Q I1 r1 q1) he hpl
theorem Z1q (hc : Z0s X (.type T) r) (hg : Gl X x) (hm : X.mg x = none) (hv : bootBuiltins x = some (.type T)) (ha : PA X (e :: es) t) (hn : x ≠ "__name__" := by decide) (hdb : (x == ("__debug__" : Str)) = false := by decide)
  (he : starEach (e :: es) X.env = (false, eval e X.env) :: starEach es X.env := by rfl) (hpl : (backTo pos (starEach es X.env)).any (·.1) = false := by rfl) : PE X (.Call (.Name x p) (e :: es) [] pos) (tCB r t) := by
 intro pins s σ H Q I h
 refine wpAny_Call_Name_kw (Z34 I hg hm hv ?_ hn hdb)
 exact PyProof.Rows.callWith_type1 (thn (ha pos pins s σ H _ I h) fun us s1 ⟨vs, H1, I1, r1, q1⟩ => hc pins s1 σ H1 vs us Q I1 r1 q1) he hpl
end
end L2
namespace HT
open PySem PyProof.Rows
section
variable {prog : Program} {w : World} {A : Around} {E : L2.VSP} {s : Shared}
theorem cat_tup {t b : Addr} {vs ws : List Value} {Q : L2.VSP} (ht : IsTup s.heap t vs.toArray) (hb : IsTup s.heap b ws.toArray) (hv : vs ≠ [])
  (h1 : ws = [] -> Q (.ref t) s) (h2 : ws ≠ [] -> Q (.ref s.heap.objs.size) { s with heap := s.heap.push { cls := .type "tuple", data := .seq (vs ++ ws).toArray } })
  (hsz : vs.length + ws.length <= sizeLine) : wpAny (model prog w) A (binaryOp .Add (.ref t) (.ref b)) Q E s := by
 obtain ⟨⟨cls, dd, data, sl⟩, ho, hc, n, hd⟩ := id ht
 obtain ⟨⟨cls2, dd2, data2, sl2⟩, ho2, hc2, n2, hd2⟩ := id hb
 simp only at hc hd hc2 hd2
 subst hc hd hc2 hd2
 have e : vs.toArray ++ ws.toArray = (vs ++ ws).toArray := by simp
 by_cases hw : ws = []
 ·exact concat_meets ⟨_, ho, rfl⟩ ⟨_, ho2, rfl⟩ noFill_tuple_add seq_tuple_add PySem.F.slot_tuple_add PySem.F.entry_tuple_add (PySem.F.args_tuple_add_2 _ _)
   (tuple_addW1 t b vs.toArray ws.toArray n n2 dd dd2 sl sl2 (by simpa using hv) (by simp [hw])) ⟨ho, ho2, h1 hw⟩
 ·refine concat_meets ⟨_, ho, rfl⟩ ⟨_, ho2, rfl⟩ noFill_tuple_add seq_tuple_add PySem.F.slot_tuple_add PySem.F.entry_tuple_add (PySem.F.args_tuple_add_2 _ _)
   (tuple_addW2 t b vs.toArray ws.toArray n n2 dd dd2 sl sl2 (by simpa using hv) (by simpa using hw) (by rw [List.size_toArray, List.size_toArray]; exact hsz)) ⟨ho, ho2, ?_⟩
  rw [e]
  exact h2 hw
def sIx (n d : Nat) : Option Int -> Nat
 | none => d
 | some v => if v < 0 then (v + (n : Int)).toNat else min v.toNat n
theorem sIx_none (n d : Nat) : sIx n d none = d := rfl
theorem sIx_nat (n d k : Nat) : sIx n d (some (k : Int)) = min k n := by
 show (if (k : Int) < 0 then ((k : Int) + (n : Int)).toNat else min (k : Int).toNat n) = min k n
 rw [if_neg (by omega), Int.toNat_natCast]
theorem Zlf (n d : Nat) (hd : d <= n) (o : Option Int) : sIx n d o <= n := by
 cases o with
 | none => exact hd
 | some v =>
  show (if v < 0 then (v + (n : Int)).toNat else min v.toNat n) <= n
  by_cases hv : v < 0
  ·rw [if_pos hv]; omega
  ·rw [if_neg hv]; exact Nat.min_le_right _ _
theorem Zb6 (v : Int) (n d : Nat) : (if v < 0 then max (v + (n : Int)) 0 else min v (n : Int)) = ((sIx n d (some v) : Nat) : Int) := by
 show (if v < 0 then max (v + (n : Int)) 0 else min v (n : Int)) = (((if v < 0 then (v + (n : Int)).toNat else min v.toNat n) : Nat) : Int)
 by_cases hv : v < 0
 ·simp only [if_pos hv]; omega
 ·simp only [if_neg hv]; omega
theorem Z9v (lo hi : Option Int) (n : Nat) : Builtin.Slice.sliceAdjust lo hi 1 (n : Int) = (((sIx n 0 lo : Nat) : Int), ((sIx n n hi : Nat) : Int)) := by
 have h1 : ¬ ((1 : Int) < 0) := by omega
 unfold Builtin.Slice.sliceAdjust
 simp only [h1, if_false]
 refine Prod.ext ?_ ?_
 ·cases lo with
  | none => rfl
  | some v => exact Zb6 v n 0
 ·cases hi with
  | none => rfl
  | some v => exact Zb6 v n n
theorem Z9w (i j : Nat) : Builtin.Slice.slicePlaces (i : Int) (j : Int) 1 = j - i := by
 unfold Builtin.Slice.slicePlaces
 have h1 : (1 : Int) > 0 := by omega
 simp only [h1, if_true, Int.ediv_one]
 split <;> omega
theorem slicePart_ {v : Value} {o : Option Int} {Q : Option Int -> Shared -> Prop} (p : IsPart v o) (h : Q o s) : wpAny (model prog w) A (Builtin.Slice.slicePartIndex v) Q E s := by
 cases p with
 | none => exact slicePart_none h
 | int i t => exact slicePart_int h
theorem sliceApplied_gen {sl : Addr} {vl vu : Value} {lo hi : Option Int} {n : Nat} {Q : Int × Int × Nat -> Shared -> Prop} (hs : s.heap.IsSliceOf sl vl vu .none) (pl : IsPart vl lo) (pu : IsPart vu hi)
  (h : Q (((sIx n 0 lo : Nat) : Int), 1, sIx n n hi - sIx n 0 lo) s) : wpAny (model prog w) A (Builtin.Slice.sliceApplied (.ref sl) (pure (n : Int))) Q E s := by
 obtain ⟨os, hos, hcs, hds⟩ := id hs
 unfold Builtin.Slice.sliceApplied Builtin.Slice.sliceFields
 refine wpAny_bind (wpAny_bind (wpAny_field hos hds (x := vl) rfl (wpAny_bind (wpAny_field hos hds (x := vu) rfl (wpAny_bind (wpAny_field hos hds (x := .none) rfl (wpAny_pure ?_)))))))
 refine wpAny_bind (slicePart_none ?_)
 show wpAny _ _ (if ((1 : Int) == 0) = true then _ else _) _ _ s
 rw [if_neg (by decide)]
 refine wpAny_bind (slicePart_ pl (wpAny_bind (slicePart_ pu (wpAny_bind (wpAny_pure ?_)))))
 show wpAny _ _ (match Builtin.Slice.sliceAdjust lo hi 1 (n : Int) with | (lo, hi) => pure (lo, (1 : Int), Builtin.Slice.slicePlaces lo hi 1)) _ _ s
 rw [Z9v lo hi n]
 show wpAny _ _ (pure (((sIx n 0 lo : Nat) : Int), (1 : Int), Builtin.Slice.slicePlaces ((sIx n 0 lo : Nat) : Int) ((sIx n n hi : Nat) : Int) 1)) _ _ s
 rw [Z9w]
 exact wpAny_pure h
theorem Ze8 (xs : Array Value) (i k : Nat) : ((List.range k).filterMap fun (m : Nat) => xs[((i : Int) + (m : Int) * 1).toNat]?).toArray = ((xs.toList.drop i).take k).toArray := by
 have e : (fun (m : Nat) => xs[((i : Int) + (m : Int) * 1).toNat]?) = fun m => xs[i + m]? := by
  funext m
  have : ((i : Int) + (m : Int) * 1).toNat = i + m := by omega
  rw [this]
 rw [e]
 have := pick_run xs i k
 rw [List.filterMap_map] at this
 have e2 : ((fun x => xs[x]?) ∘ fun x => i + x) = fun m => xs[i + m]? := rfl
 rw [e2] at this
 rw [this]
theorem getItem_tuple_cut {t sl : Addr} {items : Array Value} {vl vu : Value} {lo hi : Option Int} {Q : L2.VSP} (ht : IsTup s.heap t items) (hs : s.heap.IsSliceOf sl vl vu .none) (pl : IsPart vl lo) (pu : IsPart vu hi)
  (hw : ¬ (sIx items.size 0 lo = 0 /\ sIx items.size items.size hi = items.size))
  (h : Q (.ref s.heap.objs.size) { s with heap := s.heap.push { cls := .type "tuple", data := .seq ((items.toList.drop (sIx items.size 0 lo)).take (sIx items.size items.size hi - sIx items.size 0 lo)).toArray } })
  (hsz : items.size <= sizeLine) : wpAny (model prog w) A (getItem (.ref t) (.ref sl)) Q E s := by
 have htake : sizeOk (.seq ((items.toList.drop (sIx items.size 0 lo)).take (sIx items.size items.size hi - sIx items.size 0 lo)).toArray) := by
  show ((items.toList.drop (sIx items.size 0 lo)).take (sIx items.size items.size hi - sIx items.size 0 lo)).toArray.size <= sizeLine
  rw [List.size_toArray, List.length_take, List.length_drop, Array.length_toList]
  omega
 have hj : sIx items.size items.size hi <= items.size := Zlf _ _ (Nat.le_refl _) hi
 obtain ⟨os, hos, hcs, hds⟩ := id hs
 have hTs : s.TypeIs (.ref sl) "slice" := ⟨os, hos, hcs⟩
 unfold getItem
 try with_reducible refine wpAny_holding ?_
 first | refine wpAny_bind (wpAny_pure ?_) | skip
 refine wpAny_bind (wpAny_sequenceKey ht.typeIs (by decide) ?_)
 refine wpAny_bind (wpAny_callSpecial?_slot (name := Str.ofString "__getitem__") ht.typeIs PyProof.Rows.slot_tuple_getitem
  (wpAny_call_entry PyProof.Rows.slot_tuple_getitem ht.typeIs entry_tuple_getitem ?_ (args_tuple_getitem _ _)))
 show wpAny _ _ (Builtin.Tuple.tupleItemsOf (.ref t) >>= _) _ _ s
 refine wpAny_bind (tupleItemsOf_ ht ?_)
 refine wpAny_bind (wpAny_typeOf hTs ?_)
 rw [if_pos (by decide)]
 refine wpAny_bind (sliceApplied_gen hs pl pu ?_)
 have hno : ¬ ((((sIx items.size 0 lo : Nat) : Int) == 0 && (1 : Int) == 1 && (sIx items.size items.size hi - sIx items.size 0 lo) == items.size) = true) := by
  intro q
  rw [Bool.and_eq_true, Bool.and_eq_true] at q
  have q1 : ((sIx items.size 0 lo : Nat) : Int) = 0 := eq_of_beq q.1.1
  have q2 : sIx items.size items.size hi - sIx items.size 0 lo = items.size := eq_of_beq q.2
  exact hw ⟨by omega, by omega⟩
 show wpAny _ _ (if (((sIx items.size 0 lo : Nat) : Int) == 0 && (1 : Int) == 1 && (sIx items.size items.size hi - sIx items.size 0 lo) == items.size) = true then _ else _) _ _ s
 rw [if_neg hno, Ze8]
 first
  | exact wpAny_bind (m := Builtin.Tuple.tupleExact _) (wpAny_newObj_type (wpAny_pure ⟨_, rfl, wpAny_pure h⟩) htake)
  | exact wpAny_bind (m := Builtin.Tuple.tupleExact _) (wpAny_newObj_type (wpAny_bind (wpAny_pure (wpAny_pure ⟨_, rfl, wpAny_pure h⟩))) htake)
  | exact wpAny_bind (wpAny_bind (m := Builtin.Tuple.tupleExact _) (wpAny_newObj_type (wpAny_pure (wpAny_pure ⟨_, rfl, wpAny_pure h⟩)) htake))
  | exact wpAny_bind (wpAny_bind (m := Builtin.Tuple.tupleExact _) (wpAny_newObj_type (wpAny_pure ⟨_, rfl, wpAny_pure h⟩) htake))
end
end HT
namespace L2
open PySem PySem.Spec PyProof.Rows
abbrev TO := St -> Hp -> (Option Int -> Hp -> Prop) -> Prop
def PO (X : Cx) (e : Option Expr) (t : TO) : Prop :=
 ∀ (pins : L2.AO) (s : Shared) (σ : St) (H : Hp) (Q : Option Int -> Hp -> Prop), Inv X pins σ H s -> t σ H Q ->
  wpAny (model X.prog X.w) X.A (evalPart e X.env) (fun u s' => ∃ o H', Inv X pins σ H' s' /\ IsPart u o /\ Q o H') X.xe s
def Zb7 : TO := fun ψ H Q => Q none H
def Zlg (t : TE) : TO := fun σ H Q => t σ H fun x H1 => ∃ i, x = .int i /\ Q (some i) H1
theorem Z4i {ns : List Int} : ∀ {us : List Value}, Vals (ns.map V.int) us -> IntsAre us ns := by
 induction ns with
 | nil => intro us r; rw [List.map_nil] at r; cases r; exact .nil
 | cons n ns ih =>
  intro us r
  rw [List.map_cons] at r
  cases r with
  | cons r1 r2 =>
   obtain ⟨t, e⟩ := r1
   subst e
   exact .cons n t (ih r2)
section
variable {X : Cx} {e : Expr} {te : TE} {lo hi : Option Expr} {tl th : TO} {pos p2 : Pos}
theorem Zhv : PO X none Zb7 := by
 intro pins s σ H Q I h
 rw [evalPart_none]
 exact wpAny_pure ⟨none, H, I, .none, h⟩
theorem Zhw (h : PE X e te) : PO X (some e) (Zlg te) := by
 intro pins s σ H Q I hw
 rw [evalPart_some]
 refine thn (h pins s σ H _ I hw) fun u s1 ⟨x, H1, I1, r1, q1⟩ => ?_
 obtain ⟨i, rfl, q⟩ := q1
 obtain ⟨t, rfl⟩ := r1
 exact ⟨some i, H1, I1, .int i t, q⟩
def SlR (X : Cx) (r : V -> Option Int -> Option Int -> Hp -> VK -> Prop) : Prop :=
 ∀ (pins : L2.AO) (s : Shared) (σ : St) (H : Hp) (x : V) (v vl vu : Value) (lo hi : Option Int) (sl : Addr) (Q : VK), Inv X pins σ H s -> RelV x v -> s.heap.IsSliceOf sl vl vu .none -> IsPart vl lo -> IsPart vu hi -> r x lo hi H Q ->
  ∃ T id, typeLookup (.type T) "__getitem__" = pure (some (.builtin id)) /\ s.TypeIs v T /\ wpAny (model X.prog X.w) X.A (getItem v (.ref sl)) (EP X pins σ Q) X.xe s
theorem SlR.or {r r' : V -> Option Int -> Option Int -> Hp -> VK -> Prop} (h : SlR X r) (h' : SlR X r') : SlR X (fun x lo hi H Q => r x lo hi H Q \/ r' x lo hi H Q) := by
 intro pins s σ H x v vl vu lo hi sl Q I rx hs pl pu q
 rcases q with q | q
 ·exact h pins s σ H x v vl vu lo hi sl Q I rx hs pl pu q
 ·exact h' pins s σ H x v vl vu lo hi sl Q I rx hs pl pu q
def tSl (r : V -> Option Int -> Option Int -> Hp -> VK -> Prop) (te : TE) (tl th : TO) : TE := fun σ H Q => te σ H fun x H1 => tl σ H1 fun l H2 => th σ H2 fun u H3 => r x l u H3 Q
theorem Ze9 {r : V -> Option Int -> Option Int -> Hp -> VK -> Prop} (hr : SlR X r) (he : PE X e te) (hl : PO X lo tl) (hu : PO X hi th) : PE X (.Subscript e (.Slice lo hi none p2) pos) (tSl r te tl th) := by
 intro pins s σ H Q I h
 refine Subscript_ (thn (he pins s σ H _ I h) fun v s1 ⟨x, H1, I1, r1, q1⟩ => ?_)
 refine wpAny_Slice (thn (hl pins s1 σ H1 _ I1 q1) fun vl s2 ⟨l, H2, I2, pl, q2⟩ => thn (hu pins s2 σ H2 _ I2 q2) fun vu s3 ⟨u, H3, I3, pu, q3⟩ => ?_)
 rw [evalPart_none]
 refine wpAny_pure ?_
 have I4 : Inv X pins σ H3 { s3 with heap := s3.heap.push { cls := .type "slice", data := .fields #[vl, vu, .none] } } := I3.kept (t' := s3.toks) fun b ob q => Heap.get?_push_of_some _ q
 obtain ⟨T, id, hT, ht, hg⟩ := hr pins { s3 with heap := s3.heap.push { cls := .type "slice", data := .fields #[vl, vu, .none] } } σ H3 x v vl vu l u s3.heap.objs.size Q I4 r1 (Heap.IsSliceOf.new ..) pl pu q3
 show wpAny (model X.prog X.w) X.A (subscriptTail e (.Slice lo hi none p2) v (.ref s3.heap.objs.size)) (EP X pins σ Q) X.xe { s3 with heap := s3.heap.push { cls := .type "slice", data := .fields #[vl, vu, .none] } }
 exact tail_any (ops := [.ref s3.heap.objs.size, v]) ht hT hg (by with_unfolding_all rfl)
def cutV (xs : List V) (lo hi : Option Int) : List V := (xs.drop (HT.sIx xs.length 0 lo)).take (HT.sIx xs.length xs.length hi - HT.sIx xs.length 0 lo)
theorem Z3n (xs : List V) (lo hi : Option Int) : (cutV xs lo hi).length <= xs.length := by
 unfold cutV
 rw [List.length_take, List.length_drop]
 omega
def rSlT (K : L2.Fg) : V -> Option Int -> Option Int -> Hp -> VK -> Prop := fun x lo hi H Q => ∃ a xs, x = .ref a /\ SqT K H a xs /\
 ¬ (HT.sIx xs.length 0 lo = 0 /\ HT.sIx xs.length xs.length hi = xs.length) /\ ∀ p, H p = none -> Q (.ref p) (upd H p (.tup (cutV xs lo hi)))
theorem Zlh : SlR X (rSlT X.K) := by
 intro pins s σ H x v vl vu lo hi sl Q I rx hs pl pu h
 obtain ⟨a, xs, rfl, hx, hw, q⟩ := h
 cases rx
 obtain ⟨its, r, ht, hz⟩ := I.tuple hx
 have hlen : its.toArray.size = xs.length := by rw [List.size_toArray]; exact r.length.symm
 refine ⟨"tuple", _, PyProof.Rows.slot_tuple_getitem.lookup, ht.typeIs, ?_⟩
 refine HT.getItem_tuple_cut ht hs pl pu (by rw [hlen]; exact hw) ?_ (by rw [hlen]; exact hz)
 rw [hlen]
 refine ⟨.ref s.heap.objs.size, _, I.laid (t' := s.toks) (o := .tup (cutV xs lo hi)) (fun b ob q => Heap.get?_push_of_some _ q) (Nat.le_refl _) ?_, rfl, q _ (I.hok.fresh (Nat.le_refl _))⟩
 exact ⟨Nat.le_trans (Z3n xs lo hi) hz, _, (r.drop (HT.sIx xs.length 0 lo)).take (HT.sIx xs.length xs.length hi - HT.sIx xs.length 0 lo), IsTup.new _ _⟩
def Zli (K : L2.Fg) : R2 := fun x y H Q => ∃ a b xs ys, x = .ref a /\ y = .ref b /\ SqT K H a xs /\ SqT K H b ys /\ xs ≠ [] /\ xs.length + ys.length <= sizeLine /\
 (ys = [] -> Q (.ref a) H) /\ (ys ≠ [] -> ∀ p, H p = none -> Q (.ref p) (upd H p (.tup (xs ++ ys))))
theorem Vals.nil_iff {xs : List V} {us : List Value} (r : Vals xs us) : us = [] ↔ xs = [] := by
 cases r with
 | nil => simp
 | cons _ _ => simp
theorem Zhx : OpR X (binaryOp .Add) (Zli X.K) := by
 intro pins s σ H x y v u Q I rx ry h
 obtain ⟨a, b, xs, ys, rfl, rfl, ha, hb, hx, hz, q1, q2⟩ := h
 cases rx
 cases ry
 obtain ⟨its, r1, p1, _⟩ := I.tuple ha
 obtain ⟨its2, r2, p2, _⟩ := I.tuple hb
 refine HT.cat_tup p1 p2 (fun z => hx (r1.nil_iff.mp z)) (fun z => ⟨.ref a, H, I, rfl, q1 (r2.nil_iff.mp z)⟩) (fun z => ?_) (by rw [<- r1.length, <- r2.length]; exact hz)
 refine ⟨.ref s.heap.objs.size, _, I.laid (t' := s.toks) (o := .tup (xs ++ ys)) (fun b ob q => Heap.get?_push_of_some _ q) (Nat.le_refl _) ?_, rfl, q2 (fun w => z (r2.nil_iff.mpr w)) _ (I.hok.fresh (Nat.le_refl _))⟩
 exact ⟨by rw [List.length_append]; exact hz, _, r1.append r2, IsTup.new _ _⟩
end
def ixN (n : Nat) (i : Int) : Option Nat := if 0 <= i then (if i < n then some i.toNat else none) else if -(n : Int) <= i then some (i + n).toNat else none
def atI {α : Type} (xs : List α) (i : Int) : Option α := (ixN xs.length i).bind fun j => xs[j]?
theorem Zb8 {n : Nat} {i : Int} {j : Nat} (h : ixN n i = some j) : seqIndex? i n = some j /\ j < n /\ -(n : Int) <= i /\ i < n := by
 unfold ixN at h
 by_cases h0 : 0 <= i
 ·rw [if_pos h0] at h
  by_cases h1 : i < n
  ·rw [if_pos h1] at h
   have e : i.toNat = j := Option.some.inj h
   exact ⟨by rw [seqIndex_of h0 h1, e], by omega, by omega, h1⟩
  ·rw [if_neg h1] at h; cases h
 ·rw [if_neg h0] at h
  by_cases h1 : -(n : Int) <= i
  ·rw [if_pos h1] at h
   have e : (i + n).toNat = j := Option.some.inj h
   exact ⟨by rw [seqIndex_neg (by omega) h1, e], by omega, h1, by omega⟩
  ·rw [if_neg h1] at h; cases h
theorem Zb9 {α : Type} {xs : List α} {i : Int} {v : α} (h : atI xs i = some v) : ∃ j, seqIndex? i xs.length = some j /\ xs[j]? = some v /\ j < xs.length /\ -(xs.length : Int) <= i /\ i < xs.length := by
 unfold atI at h
 cases e : ixN xs.length i with
 | none => rw [e] at h; cases h
 | some j =>
  rw [e] at h
  obtain ⟨h1, h2, h3, h4⟩ := Zb8 e
  exact ⟨j, h1, h, h2, h3, h4⟩
def Z2g (b : Expr) : Prop := ∀ o i, subscripted b false o i = operate [o, i] (getItem o i)
def IxR (X : Cx) (r : R2) : Prop :=
 ∀ (value slice : Expr) (pins : L2.AO) (s : Shared) (σ : St) (H : Hp) (x y : V) (v u : Value) (Q : VK), Inv X pins σ H s -> RelV x v -> RelV y u -> r x y H Q ->
  subscripted slice false v u = operate [v, u] (getItem v u) -> wpAny (model X.prog X.w) X.A (subscriptTail value slice v u) (EP X pins σ Q) X.xe s
def MtR (X : Cx) (id : String) (r : V -> List V -> Hp -> VK -> Prop) : Prop :=
 ∀ (pins : L2.AO) (s : Shared) (σ : St) (H : Hp) (x : V) (xs : List V) (v : Value) (us : List Value) (Q : VK), Inv X pins σ H s -> RelV x v -> Vals xs us -> r x xs H Q ->
  wpAny (model X.prog X.w) X.A (call (.builtin id) (v :: us)) (EP X pins σ Q) X.xe s
section
variable {X : Cx} {a b : Expr} {ta tb : TE} {pos : Pos}
theorem IxR.or {r r' : R2} (h : IxR X r) (h' : IxR X r') : IxR X (fun x y H Q => r x y H Q \/ r' x y H Q) := by
 intro value slice pins s σ H x y v u Q I rx ry q hs
 rcases q with q | q
 ·exact h value slice pins s σ H x y v u Q I rx ry q hs
 ·exact h' value slice pins s σ H x y v u Q I rx ry q hs
theorem Z9x {r : R2} (hr : IxR X r) (ha : PE X a ta) (hb : PE X b tb) (hs : Z2g b) : PE X (.Subscript a b pos) (tOp r ta tb) := by
 intro pins s σ H Q I h
 exact Subscript_ (binT ha hb I h fun v u s2 x y H2 I2 rx ry q => hr a b pins s2 σ H2 x y v u Q I2 rx ry q (hs _ _))
def rIxL (K : L2.Fg) : R2 := fun x y H Q => ∃ p xs i v, x = .ref p /\ y = .int i /\ SqL K H p xs /\ atI xs i = some v /\ Q v H
def rIxT (K : L2.Fg) : R2 := fun x y H Q => ∃ p xs i v, x = .ref p /\ y = .int i /\ SqT K H p xs /\ atI xs i = some v /\ Q v H
theorem Zhy : IxR X (rIxL X.K) := by
 intro value slice pins s σ H x y v u Q I rx ry h hs
 obtain ⟨p, xs, i, z, rfl, rfl, hq, he, q⟩ := h
 cases rx
 obtain ⟨t, rfl⟩ := ry
 obtain ⟨its, r, pl, hz⟩ := I.list hq
 obtain ⟨j, h1, h2, h3, h4, h5⟩ := Zb9 he
 obtain ⟨w, ew, rw'⟩ := r.get h2
 have hl := r.length
 have hn := Z8l
 have fin : EP X pins σ Q w s := ⟨z, H, I, rw', q⟩
 by_cases h0 : 0 <= i
 ·have hj : i.toNat = j := by
   rw [seqIndex_of h0 h5] at h1
   exact Option.some.inj h1
  exact item_listR pl.isList h0 (by omega) (by rw [hj]; simpa using ew) fin hs
 ·have hj : (i + (its.toArray.size : Int)).toNat = j := by
   rw [seqIndex_neg (by omega) h4] at h1
   rw [List.size_toArray, <- hl]
   exact Option.some.inj h1
  exact subscriptTail_builtinR (x := w) pl.isList.typeIs slot_list_getitem.lookup
   (wpAny_getItem_list_neg (Q := fun r s' => r = w /\ EP X pins σ Q r s') pl.isList (by omega) (by rw [List.size_toArray] <;> omega) (by omega) (by rw [hj]; simpa using ew) ⟨rfl, fin⟩) hs
theorem Zlj : IxR X (rIxT X.K) := by
 intro value slice pins s σ H x y v u Q I rx ry h hs
 obtain ⟨p, xs, i, z, rfl, rfl, hq, he, q⟩ := h
 cases rx
 obtain ⟨t, rfl⟩ := ry
 obtain ⟨its, r, pl, hz⟩ := I.tuple hq
 obtain ⟨j, h1, h2, h3, h4, h5⟩ := Zb9 he
 obtain ⟨w, ew, rw'⟩ := r.get h2
 have hl := r.length
 have hn := Z8l
 have fin : EP X pins σ Q w s := ⟨z, H, I, rw', q⟩
 exact subscriptTail_builtinR (x := w) pl.typeIs slot_tuple_getitem.lookup
  (getItem_tuple (j := j) (Q := fun r s' => r = w /\ EP X pins σ Q r s') pl (by omega) (by omega) (by rw [List.size_toArray, <- hl]; exact h1) (by simpa using ew) ⟨rfl, fin⟩) hs
theorem Z9y (its : List Value) (n j : Nat) (u : Value) : Obj.mapSeq (·.setIfInBounds j u) { cls := .type "list", data := .seq its.toArray n } = { cls := .type "list", data := .seq (its.set j u).toArray n } := by
 simp [Obj.mapSeq]
theorem Inv.lst {pins : L2.AO} {σ : St} {H : Hp} {s : Shared} {p : Addr} {xs : List V} (I : Inv X pins σ H s) (h : H p = some (.lst xs)) :
  ∃ (its : List Value) (n : Nat), Vals xs its /\ s.heap.get? p = some { cls := .type "list", data := .seq its.toArray n } /\ xs.length <= sizeLine := by
 obtain ⟨z, its, n, r, e⟩ := I.hok p _ h
 exact ⟨its, n, r, e, z⟩
theorem Inv.lstUpd {pins : L2.AO} {σ : St} {H : Hp} {s : Shared} {p : Addr} {xs ys : List V} {its its' : List Value} {n n' : Nat} {f : Obj -> Obj} (I : Inv X pins σ H s) (h : H p = some (.lst xs))
  (ho : s.heap.get? p = some { cls := .type "list", data := .seq its.toArray n }) (hf : f { cls := .type "list", data := .seq its.toArray n } = { cls := .type "list", data := .seq its'.toArray n' }) (r : Vals ys its') (hz : ys.length <= sizeLine) (t : Nat) :
  Inv X pins σ (upd H p (.lst ys)) { s with heap := s.heap.update p f, toks := t } := by
 have e : (s.heap.update p f).get? p = some { cls := .type "list", data := .seq its'.toArray n' } := by
  rw [Heap.get?_update_self f ho (by rw [hf] <;> rfl), hf]
 refine I.write (x := p) (e := p) (by rw [h]; trivial) (.inl rfl) (fun b u hb q => (Heap.get?_update_other _ _ (Ne.symm hb)).trans q) ⟨_, e⟩ ?_
 exact ⟨hz, its', n', r, e⟩
def Zea : V -> V -> V -> Hp -> (Hp -> Prop) -> Prop := fun o i v H Q => ∃ p xs k j, o = .ref p /\ i = .int k /\ H p = some (.lst xs) /\ ixN xs.length k = some j /\ Q (upd H p (.lst (xs.set j v)))
theorem Z54 : PSet X Zea := by
 intro pins s σ H o i v ov iv u Q I ro ri rv h
 obtain ⟨p, xs, k, j, rfl, rfl, hp, hj, q⟩ := h
 cases ro
 obtain ⟨t, rfl⟩ := ri
 obtain ⟨its, n, r, ho, hz⟩ := I.lst hp
 obtain ⟨h1, h2, h3, h4⟩ := Zb8 hj
 have hl := r.length
 have hn := Z8l
 have I' : Inv X pins σ (upd H p (.lst (xs.set j v))) { s with heap := s.heap.update p (Obj.mapSeq (·.setIfInBounds j u)) } :=
  I.lstUpd hp ho (Z9y its n j u) (r.set rv j) (by rw [List.length_set]; exact hz) s.toks
 by_cases h0 : 0 <= k
 ·have hk : k.toNat = j := by
   rw [seqIndex_of h0 h4] at h1
   exact Option.some.inj h1
  exact PySem.W.ki_setAt ho h0 (by omega) (by rw [List.size_toArray, <- hl]; exact h4) (by rw [hk]; exact ⟨_, I', q⟩)
 ·have hk : (k + (its.toArray.size : Int)).toNat = j := by
   rw [seqIndex_neg (by omega) h3] at h1
   rw [List.size_toArray, <- hl]
   exact Option.some.inj h1
  exact PySem.W.ki_setBack ho (by omega) (by rw [List.size_toArray, <- hl]; exact h3) (by omega) (by rw [hk]; exact ⟨_, I', q⟩)
theorem Z68 (lo hi : Option Int) (n : Nat) : (sliceBounds lo hi none n).1 = ((HT.sIx n 0 lo : Nat) : Int) /\ (sliceBounds lo hi none n).2.1 = ((HT.sIx n n hi : Nat) : Int) /\ (sliceBounds lo hi none n).2.2 = 1 := by
 refine ⟨?_, ?_, rfl⟩
 ·cases lo with
  | none => simp [sliceBounds, HT.sIx]
  | some i =>
   simp only [sliceBounds, HT.sIx, Option.getD_none, show (1 : Int) > 0 by decide, if_true]
   by_cases h : i < 0
   ·simp only [h, if_true] <;> omega
   ·simp only [h, if_false] <;> omega
 ·cases hi with
  | none => simp [sliceBounds, HT.sIx]
  | some i =>
   simp only [sliceBounds, HT.sIx, Option.getD_none, show (1 : Int) > 0 by decide, if_true]
   by_cases h : i < 0
   ·simp only [h, if_true] <;> omega
   ·simp only [h, if_false] <;> omega
theorem Z55 (its : List Value) (lo hi : Option Int) : slicePick its.toArray lo hi none = ((its.drop (HT.sIx its.length 0 lo)).take (HT.sIx its.length its.length hi - HT.sIx its.length 0 lo)).toArray := by
 obtain ⟨h1, h2, h3⟩ := Z68 lo hi its.toArray.size
 unfold slicePick
 rw [h1, h2, h3]
 simp only [sliceRange_one, pick_run, List.size_toArray] <;> rfl
def rSlL (K : L2.Fg) : V -> Option Int -> Option Int -> Hp -> VK -> Prop := fun x lo hi H Q => ∃ a xs, x = .ref a /\ SqL K H a xs /\ ∀ p, H p = none -> Q (.ref p) (upd H p (.lst (cutV xs lo hi)))
theorem Zhz : SlR X (rSlL X.K) := by
 intro pins s σ H x v vl vu lo hi sl Q I rx hs pl pu h
 obtain ⟨a, xs, rfl, hx, q⟩ := h
 cases rx
 obtain ⟨its, r, ht, hz⟩ := I.list hx
 have hlen := r.length
 refine ⟨"list", _, slot_list_getitem.lookup, ht.isList.typeIs, ?_⟩
 refine wpAny_getItem_list_slice ht.isList hs pl pu .none (by simp) ?_ (by rw [List.size_toArray] <;> omega)
 rw [Z55, <- hlen]
 refine ⟨.ref s.heap.objs.size, _, I.laid (t' := s.toks) (o := .lst (cutV xs lo hi)) (fun b ob q => Heap.get?_push_of_some _ q) (Nat.le_refl _) ?_, rfl, q _ (I.hok.fresh (Nat.le_refl _))⟩
 exact ⟨Nat.le_trans (Z3n xs lo hi) hz, _, 0, (r.drop (HT.sIx xs.length 0 lo)).take (HT.sIx xs.length xs.length hi - HT.sIx xs.length 0 lo), Heap.get?_push_size _ rfl⟩
def Z49 : V -> Bool
 | .non => true
 | .bl _ => true
 | .int _ => true
 | .str _ => true
 | _ => false
def eqV : V -> V -> Bool
 | .non, .non => true
 | .bl a, .bl b => a == b
 | .bl a, .int b => (if a then 1 else 0) == b
 | .int a, .bl b => a == (if b then 1 else 0)
 | .int a, .int b => a == b
 | .str a, .str b => a == b
 | _, _ => false
theorem Z17 {A : Around} {s : Shared} {y x : V} {u v : Value} (ry : RelV y u) (rx : RelV x v) (fy : Z49 y = true) (fx : Z49 x = true) : SeqAt.EqAt A s u v (eqV y x) := by
 cases y with
 | non =>
  cases ry
  cases x with
  | non => cases rx; exact SeqAt.EqAt.same _
  | bl b => cases rx; exact SeqAt.EqAt.none_bool b
  | int b => obtain ⟨t, rfl⟩ := rx; exact SeqAt.EqAt.none_int b t
  | str b => obtain ⟨t, rfl⟩ := rx; exact SeqAt.EqAt.none_str b t
  | _ => exact absurd (show false = true from fx) Bool.false_ne_true
 | bl a =>
  cases ry
  cases x with
  | non => cases rx; exact SeqAt.EqAt.bool_none a
  | bl b => cases rx; exact SeqAt.EqAt.bool_bool a b
  | int b => obtain ⟨t, rfl⟩ := rx; exact SeqAt.EqAt.bool_int a b t
  | str b => obtain ⟨t, rfl⟩ := rx; exact SeqAt.EqAt.bool_str a b t
  | _ => exact absurd (show false = true from fx) Bool.false_ne_true
 | int a =>
  obtain ⟨t', rfl⟩ := ry
  cases x with
  | non => cases rx; exact SeqAt.EqAt.int_none a t'
  | bl b => cases rx; exact SeqAt.EqAt.int_bool a t' b
  | int b => obtain ⟨t, rfl⟩ := rx; exact SeqAt.EqAt.int_int a t' b t
  | str b => obtain ⟨t, rfl⟩ := rx; exact SeqAt.EqAt.int_str a t' b t
  | _ => exact absurd (show false = true from fx) Bool.false_ne_true
 | str a =>
  obtain ⟨t', rfl⟩ := ry
  cases x with
  | non => cases rx; exact SeqAt.EqAt.str_none a t'
  | bl b => cases rx; exact SeqAt.EqAt.str_bool a t' b
  | int b => obtain ⟨t, rfl⟩ := rx; exact SeqAt.EqAt.str_int a t' b t
  | str b => obtain ⟨t, rfl⟩ := rx; exact SeqAt.EqAt.str_str a t' b t
  | _ => exact absurd (show false = true from fx) Bool.false_ne_true
 | _ => exact absurd (show false = true from fy) Bool.false_ne_true
def eqU (x : V) (u : Value) : Bool := match u with
 | .none => eqV .non x
 | .bool b => eqV (.bl b) x
 | .int i _ => eqV (.int i) x
 | .str z _ => eqV (.str z) x
 | _ => false
theorem Zgf {x y : V} {u : Value} (r : RelV y u) (f : Z49 y = true) : eqU x u = eqV y x := by
 cases y with
 | non => cases r; rfl
 | bl b => cases r; rfl
 | int i => obtain ⟨t, rfl⟩ := r; rfl
 | str z => obtain ⟨t, rfl⟩ := r; rfl
 | _ => exact absurd (show false = true from f) Bool.false_ne_true
theorem Z7u {x : V} : ∀ {xs : List V} {us : List Value}, Vals xs us -> xs.all Z49 = true -> us.any (eqU x) = xs.any fun y => eqV y x
 | _, _, .nil, _ => rfl
 | y :: xs, u :: us, .cons r t, f => by
  rw [List.all_cons, Bool.and_eq_true] at f
  rw [List.any_cons, List.any_cons, Zgf r f.1, Z7u t f.2]
theorem Z56 {A : Around} {s : Shared} {x : V} {v : Value} (rx : RelV x v) (fx : Z49 x = true) : ∀ {xs : List V} {us : List Value}, Vals xs us -> xs.all Z49 = true -> ∀ u ∈ us, SeqAt.EqAt A s u v (eqU x u)
 | _, _, .nil, _ => fun u hu => by cases hu
 | y :: xs, u :: us, .cons r t, f => fun u' hu => by
  rw [List.all_cons, Bool.and_eq_true] at f
  rcases List.mem_cons.mp hu with rfl | hu
  ·rw [Zgf r f.1]; exact Z17 r rx f.1 fx
  ·exact Z56 rx fx t f.2 u' hu
def inV (x : V) (xs : List V) : Bool := xs.any fun y => eqV y x
def rIn (K : L2.Fg) (neg : Bool) : R2 := fun x y H Q => ∃ p xs, y = .ref p /\ (SqL K H p xs \/ SqT K H p xs) /\ Z49 x = true /\ xs.all Z49 = true /\ Q (.bl (if neg then !inV x xs else inV x xs)) H
theorem Z69 : OpR X (compareOp .NotIn) (rIn X.K true) := by
 intro pins s σ H x y v u Q I rx ry h
 obtain ⟨p, xs, rfl, hq, fx, fs, q⟩ := h
 cases ry
 rcases hq with hq | hq
 ·obtain ⟨its, r, pl, hz⟩ := I.list hq
  refine SeqAt.notIn_listAt (eqU x) pl.isList (fun w hw => Z56 rx fx r fs w (by simpa using hw)) ⟨.bl _, H, I, rfl, ?_⟩
  rw [show its.toArray.any (eqU x) = its.any (eqU x) by simp, Z7u r fs]
  exact q
 ·obtain ⟨its, r, pl, hz⟩ := I.tuple hq
  refine SeqAt.notIn_tupleAt (eqU x) pl (fun w hw => Z56 rx fx r fs w (by simpa using hw)) ⟨.bl _, H, I, rfl, ?_⟩
  rw [show its.toArray.any (eqU x) = its.any (eqU x) by simp, Z7u r fs]
  exact q
theorem Z6a : Z0s X (.builtin "len") (fun xs H Q => ∃ p ys, xs = [.ref p] /\ (SqL X.K H p ys \/ SqT X.K H p ys) /\ Q (.int ys.length) H) := by
 intro pins s σ H xs us Q I r h
 obtain ⟨p, ys, rfl, hq, q⟩ := h
 obtain ⟨u, rfl, rx⟩ := Z2e r
 cases rx
 have hn := Z8l
 rcases hq with hq | hq
 ·obtain ⟨its, r', pl, hz⟩ := I.list hq
  have hlen := r'.length
  exact Calls.call_len_list pl.isList (by simp only [List.size_toArray] <;> omega) ⟨.int ys.length, H, I.tok _, ⟨s.toks + 1, by rw [List.size_toArray, hlen]⟩, q⟩
 ·obtain ⟨its, r', pl, hz⟩ := I.tuple hq
  have hlen := r'.length
  exact len_tuple pl (by simp only [List.size_toArray] <;> omega) ⟨.int ys.length, H, I.tok _, ⟨s.toks + 1, by rw [List.size_toArray, hlen]⟩, q⟩
theorem Z0s.or {f : Value} {r r' : List V -> Hp -> VK -> Prop} (h : Z0s X f r) (h' : Z0s X f r') : Z0s X f (fun xs H Q => r xs H Q \/ r' xs H Q) := by
 intro pins s σ H xs us Q I rs q
 rcases q with q | q
 ·exact h pins s σ H xs us Q I rs q
 ·exact h' pins s σ H xs us Q I rs q
theorem Z6b : Z0s X (.type "list") (fun xs H Q => ∃ p ys, xs = [.ref p] /\ (SqL X.K H p ys \/ SqT X.K H p ys) /\ ∀ l, H l = none -> Q (.ref l) (upd H l (.lst ys))) := by
 intro pins s σ H xs us Q I r h
 obtain ⟨p, ys, rfl, hq, q⟩ := h
 obtain ⟨u, rfl, rx⟩ := Z2e r
 cases rx
 have fin : ∀ (its : List Value), Vals ys its -> ys.length <= sizeLine -> ∀ (h' : Heap) (c' : Nat), (∀ b o', s.heap.get? b = some o' -> h'.get? b = some o') ->
   h'.get? s.heap.objs.size = some { cls := .type "list", dict := none, data := .seq its.toArray c', slots := #[] } -> EP X pins σ Q (.ref s.heap.objs.size) { s with heap := h' } := fun its r' hz h' c' kp e =>
  ⟨.ref s.heap.objs.size, _, I.laid (t' := s.toks) kp (Nat.le_refl _) (show Z0r X.prog X.w _ h' _ (.lst ys) from ⟨hz, its, c', r', e⟩), rfl, q _ (I.hok.fresh (Nat.le_refl _))⟩
 rcases hq with hq | hq
 ·obtain ⟨its, r', pl, hz⟩ := I.list hq
  have hlen := r'.length
  obtain ⟨o, ho, hc, n, hd⟩ := pl.isList
  exact call_list_seq p (.inl rfl) ho hc hd (fun h' c' kp e => fin its r' hz h' c' kp e) (by simp only [List.size_toArray] <;> omega)
 ·obtain ⟨its, r', pl, hz⟩ := I.tuple hq
  have hlen := r'.length
  obtain ⟨o, ho, hc, n, hd⟩ := pl
  exact call_list_seq p (.inr rfl) ho hc hd (fun h' c' kp e => fin its r' hz h' c' kp e) (by simp only [List.size_toArray] <;> omega)
theorem Z57 : Z0s X (.type "tuple") (fun xs H Q => ∃ p ys, xs = [.ref p] /\ ((SqL X.K H p ys /\ ∀ l, H l = none -> Q (.ref l) (upd H l (.tup ys))) \/ (SqT X.K H p ys /\ Q (.ref p) H))) := by
 intro pins s σ H xs us Q I r h
 obtain ⟨p, ys, rfl, h⟩ := h
 obtain ⟨u, rfl, rx⟩ := Z2e r
 cases rx
 rcases h with ⟨hq, q⟩ | ⟨hq, q⟩
 ·obtain ⟨its, r', pl, hz⟩ := I.list hq
  have hlen := r'.length
  refine call_tuple_list pl.isList (fun h' kp => ?_) (by simp only [List.size_toArray] <;> omega)
  have I1 : Inv X pins σ H { s with heap := h' } := I.kept (t' := s.toks) kp
  have I2 : Inv X pins σ (upd H h'.objs.size (.tup ys)) { s with heap := h'.push { cls := .type "tuple", data := .seq its.toArray } } :=
   I1.laid (t' := s.toks) (fun b o e => Heap.get?_push_of_some _ e) (Nat.le_refl _) (show Z0r X.prog X.w _ _ _ (.tup ys) from ⟨hz, its, r', IsTup.new _ _⟩)
  exact ⟨.ref h'.objs.size, _, I2, rfl, q _ (I1.hok.fresh (Nat.le_refl _))⟩
 ·obtain ⟨its, r', pl, hz⟩ := I.tuple hq
  exact call_tuple_same pl ⟨.ref p, H, I, rfl, q⟩
def tyV (K : L2.Fg) (T : String) (x : V) (H : Hp) : Prop := match x with
 | .str _ => T = "str"
 | .int _ => T = "int"
 | .ref p => (T = "list" /\ ∃ xs, SqL K H p xs) \/ (T = "tuple" /\ ∃ o, K.lookup p = some o /\ o.cls = .type "tuple" /\ o.dict = none) \/
   (T = "dict" /\ ((∃ kvs, H p = some (.dK kvs)) \/ ∃ kvs, H p = some (.dT kvs))) \/ (T = "set" /\ ∃ S n, H p = some (.set S n))
 | _ => False
theorem Zgg {pins : L2.AO} {σ : St} {H : Hp} {s : Shared} {T : String} {x : V} {v : Value} (I : Inv X pins σ H s) (r : RelV x v) (ty : tyV X.K T x H) :
  s.TypeIs v T /\ ∀ a, v = .ref a -> ∃ ob, s.heap.get? a = some ob /\ ob.dict = none := by
 cases x with
 | str z =>
  obtain ⟨t, rfl⟩ := r
  cases (show T = "str" from ty)
  exact ⟨typeIs_str s z t, fun ψ e => nomatch e⟩
 | int i =>
  obtain ⟨t, rfl⟩ := r
  cases (show T = "int" from ty)
  exact ⟨typeIs_int s i t, fun ψ e => nomatch e⟩
 | ref p =>
  cases r
  rcases ty with ⟨rfl, xs, hq⟩ | ⟨rfl, o, hk, hc, hd⟩ | ⟨rfl, hk⟩ | ⟨rfl, S, n, hk⟩
  ·obtain ⟨its, _, pl, _⟩ := I.list hq
   refine ⟨pl.isList.typeIs, fun a e => ?_⟩
   cases e
   obtain ⟨o, n, e, c, hd, _⟩ := pl
   exact ⟨o, e, hd⟩
  ·refine ⟨⟨o, I.kIn p o hk, hc⟩, fun a e => ?_⟩
   cases e
   exact ⟨o, I.kIn _ o hk, hd⟩
  ·have z : ∃ o, s.heap.get? p = some o /\ o.ExactDict := by
    rcases hk with ⟨kvs, hk⟩ | ⟨kvs, hk⟩
    ·obtain ⟨_, _, _, _, o, _, _, e, ex, _⟩ := I.hok p _ hk
     exact ⟨o, e, ex⟩
    ·obtain ⟨_, _, _, _, o, _, _, e, ex, _⟩ := I.hok p _ hk
     exact ⟨o, e, ex⟩
   obtain ⟨o, e, ex⟩ := z
   refine ⟨⟨o, e, ex.1⟩, fun a e2 => ?_⟩
   cases e2
   exact ⟨o, e, ex.2.1⟩
  ·obtain ⟨o, _, _, _, e, ex, _⟩ := I.hok p _ hk
   refine ⟨⟨o, e, ex.1⟩, fun a e2 => ?_⟩
   cases e2
   exact ⟨o, e, ex.2.1⟩
 | _ => exact False.elim ty
def tBM0 (K : L2.Fg) (T : String) (r : V -> List V -> Hp -> VK -> Prop) (to : TE) : TE := fun σ H Q => to σ H fun x H1 => tyV K T x H1 /\ r x [] H1 Q
def tBM (K : L2.Fg) (T : String) (r : V -> List V -> Hp -> VK -> Prop) (to : TE) (t : TA) : TE := fun σ H Q => to σ H fun x H1 => tyV K T x H1 /\ t σ H1 fun xs H2 => r x xs H2 Q
variable {o e : Expr} {es : List Expr} {to : TE} {t : TA} {name : Str} {apos cpos : Pos} {T id : String} {r : V -> List V -> Hp -> VK -> Prop}
theorem Zlk (pa : PlainAttrs T) (slot : Slot T name id) (hty : typeOf (.builtin id) = pure (.type "method_descriptor")) (hm : MtR X id r) (ho : PE X o to)
  (hbase : attributeBase o name X.env (eval o X.env) = eval o X.env := by rfl) (hline : (apos.endLine == cpos.line) = true := by rfl) : PE X (.Call (.Attribute o name apos) [] [] cpos) (tBM0 X.K T r to) := by
 intro pins s σ H Q I h
 refine wpAny_Call_method0_late hbase hline (thn (ho pins s σ H _ I h) fun v s1 ⟨x, H1, I1, r1, ty, q1⟩ => ?_)
 obtain ⟨h1, h2⟩ := Zgg I1 r1 ty
 exact ⟨T, id, pa, slot, hty, h1, h2, Calls.callWith_builtin rfl (PySem.evalArgs_none (hm pins s1 σ H1 x [] v [] Q I1 r1 .nil q1))⟩
theorem Zeb (pa : PlainAttrs T) (slot : Slot T name id) (hty : typeOf (.builtin id) = pure (.type "method_descriptor")) (hm : MtR X id r) (ho : PE X o to) (ha : PA X (e :: es) t)
  (hbase : attributeBase o name X.env (eval o X.env) = eval o X.env := by rfl)
  (hfew : ((backTo cpos (starEach (e :: es) X.env)).all (fun x => !x.1) && (backToKw cpos (keywordEach [] X.env)).all (fun x => x.1.isSome)
   && decide ((e :: es).length + ([] : List Keyword).length + (if ([] : List Keyword).isEmpty then 0 else 1) < 30)) = true := by rfl)
  (hline : (apos.endLine == cpos.line) = true := by rfl) (hs : starEach (e :: es) X.env = (false, eval e X.env) :: starEach es X.env := by rfl) (hplain : (backTo cpos (starEach es X.env)).any (·.1) = false := by rfl) :
  PE X (.Call (.Attribute o name apos) (e :: es) [] cpos) (tBM X.K T r to t) := by
 intro pins s σ H Q I h
 refine wpAny_Call_method_late hbase hfew hline rfl (thn (ho pins s σ H _ I h) fun v s1 ⟨x, H1, I1, r1, ty, q1⟩ => ?_)
 obtain ⟨h1, h2⟩ := Zgg I1 r1 ty
 refine ⟨T, id, pa, slot, hty, h1, h2, ?_⟩
 have hA := ha cpos pins s1 σ H1 _ I1 q1
 rw [hs] at hA ⊢
 refine Calls.callWith_builtin (by show (false || (backTo cpos (starEach es X.env)).any (·.1)) = false; rw [hplain] <;> rfl) (Calls.evalArgs_plain ?_)
 exact thn hA fun us s2 ⟨vs, H2, I2, r2, q2⟩ => hm pins s2 σ H2 x vs v us Q I2 r1 r2 q2
end
def MtM (X : Cx) (id : String) (r : V -> List V -> Hp -> VK -> Prop) : Prop :=
 ∀ (pins : L2.AO) (s : Shared) (σ : St) (H : Hp) (x : V) (xs : List V) (v : Value) (us : List Value) (Q : VK), Inv X pins σ H s -> RelV x v -> Vals xs us -> r x xs H Q ->
  wpAny (model X.prog X.w) X.A (call (.builtin id) (v :: us)) (EP X pins σ Q) X.xe s
theorem Vals.one : ∀ {x : V} {us : List Value}, Vals [x] us -> ∃ u, us = [u] /\ RelV x u
 | _, _, .cons r .nil => ⟨_, rfl, r⟩
theorem Vals.zero : ∀ {us : List Value}, Vals [] us -> us = []
 | _, .nil => rfl
theorem Vals.dropLast {xs : List V} {us : List Value} (h : Vals xs us) : Vals xs.dropLast us.dropLast := by
 induction h with
 | nil => exact .nil
 | cons r t ih =>
  cases t with
  | nil => exact .nil
  | cons q t' => exact .cons r ih
theorem Vals.eraseIdx : ∀ {xs : List V} {us : List Value} (i : Nat), Vals xs us -> Vals (xs.eraseIdx i) (us.eraseIdx i)
 | _, _, _, .nil => .nil
 | _, _, 0, .cons _ t => t
 | _, _, i + 1, .cons r t => .cons r (Vals.eraseIdx i t)
theorem Vals.reverse {xs : List V} {us : List Value} (h : Vals xs us) : Vals xs.reverse us.reverse := by
 induction h with
 | nil => exact .nil
 | cons r t ih => rw [List.reverse_cons, List.reverse_cons]; exact Vals.append ih (.cons r .nil)
theorem Vals.rep {xs : List V} {us : List Value} (h : Vals xs us) : ∀ k : Nat, Vals (List.replicate k xs).flatten (List.replicate k us).flatten
 | 0 => .nil
 | k + 1 => by
  rw [List.replicate_succ, List.replicate_succ, List.flatten_cons, List.flatten_cons]
  exact Vals.append h (Vals.rep h k)
theorem Z9z {α : Type} (l : List α) : l.eraseIdx (l.length - 1) = l.dropLast := by
 induction l with
 | nil => rfl
 | cons a r ih =>
  cases r with
  | nil => rfl
  | cons b r =>
   have e : (a :: b :: r).length - 1 = ((b :: r).length - 1) + 1 := by
    have h1 : (a :: b :: r).length = r.length + 2 := rfl
    have h2 : (b :: r).length = r.length + 1 := rfl
    omega
   rw [e, List.eraseIdx_cons_succ, ih]
   all_goals rfl
theorem Z6c {α : Type} : ∀ (l : List α) (i : Nat), (l.eraseIdx i).length <= l.length
 | [], _ => Nat.le_refl _
 | _ :: _, 0 => Nat.le_succ _
 | _ :: r, i + 1 => Nat.succ_le_succ (Z6c r i)
theorem Z6d (its : List Value) : ∀ (k : Nat) (acc : List Value),
  List.foldl (fun x1 x2 => x1 ++ x2) acc.toArray (List.replicate k its.toArray) = (acc ++ (List.replicate k its).flatten).toArray
 | 0, acc => by simp
 | k + 1, acc => by
  have e : acc.toArray ++ its.toArray = (acc ++ its).toArray := by simp
  have e2 : (acc ++ its) ++ (List.replicate k its).flatten = acc ++ (List.replicate (k + 1) its).flatten := by
   rw [List.replicate_succ, List.flatten_cons, List.append_assoc]
  rw [<- e2, <- Z6d its k (acc ++ its), <- e, List.replicate_succ, List.foldl_cons]
section
variable {X : Cx} {pins : L2.AO} {σ : St} {H : Hp} {s : Shared} {l : Addr} {xs ys : List V}
theorem Inv.lset {its its' : List Value} {n : Nat} {f : Array Value -> Array Value} {t' : Nat} (I : Inv X pins σ H s) (hH : H l = some (.lst xs))
  (e : s.heap.get? l = some { cls := .type "list", data := .seq its.toArray n }) (hf : f its.toArray = its'.toArray) (hv : Vals ys its') (hz : ys.length <= sizeLine) :
  Inv X pins σ (upd H l (.lst ys)) { s with heap := s.heap.update l (Obj.mapSeq f), toks := t' } := by
 have q := PySem.IsL.update e f
 rw [hf] at q
 refine I.write (x := l) (e := l) (by rw [hH]; exact trivial) (.inl rfl) (fun b' u hb hu => (Heap.get?_update_other s.heap (Obj.mapSeq f) (Ne.symm hb)).trans hu) ⟨_, q⟩ ?_
 exact ⟨hz, its', _, hv, q⟩
theorem Inv.lnew {its : List Value} {t' : Nat} (I : Inv X pins σ H s) (hv : Vals ys its) (hz : ys.length <= sizeLine) :
  Inv X pins σ (upd H s.heap.objs.size (.lst ys)) { s with heap := s.heap.push { cls := .type "list", data := .seq its.toArray }, toks := t' } :=
 I.laid (fun ψ ψ q => Heap.get?_push_of_some _ q) (Nat.le_refl _) ⟨hz, its, 0, hv, Heap.get?_push_size _ rfl⟩
theorem Inv.fresh (I : Inv X pins σ H s) : H s.heap.objs.size = none := I.hok.fresh (Nat.le_refl _)
theorem Inv.lstM (I : Inv X pins σ H s) (hH : H l = some (.lst xs)) : xs.length <= sizeLine /\ ∃ (its : List Value) (n : Nat), Vals xs its /\ xs.length = its.length /\ s.heap.get? l = some { cls := .type "list", data := .seq its.toArray n } := by
 obtain ⟨z, its, n, r, e⟩ := I.hok l _ hH
 exact ⟨z, its, n, r, r.length, e⟩
theorem Z8o {n : Nat} (h : n <= sizeLine) : Builtin.List.listTooLong n = false := by
 unfold Builtin.List.listTooLong
 exact decide_eq_false (by omega)
end
section
variable {X : Cx}
def Z7v : V -> List V -> Hp -> VK -> Prop := fun x vs H Q => ∃ l xs y, x = .ref l /\ vs = [y] /\ H l = some (.lst xs) /\ xs.length < sizeLine /\ Q .non (upd H l (.lst (xs ++ [y])))
theorem Z6e : MtM X "list.append" Z7v := by
 intro pins s σ H x vs v us Q I rx rv h
 obtain ⟨l, xs, y, rfl, rfl, hH, hz, q⟩ := h
 cases rx
 obtain ⟨u, rfl, ru⟩ := rv.one
 obtain ⟨z, its, n, r, hl, e⟩ := I.lstM hH
 refine call_meets F.slot_list_append ⟨_, e, rfl⟩ F.entry_list_append (F.args_list_append_2 _ _) (PySem.list_append l its.toArray n u (by rw [List.size_toArray]; omega)) ⟨e, ?_⟩
 refine ⟨.non, _, I.lset (its' := its ++ [u]) hH e (by simp) (r.append (.cons ru .nil)) ?_, rfl, q⟩
 rw [List.length_append, List.length_singleton]
 omega
def Zi0 : V -> List V -> Hp -> VK -> Prop := fun x vs H Q => ∃ l b xs zs, x = .ref l /\ vs = [.ref b] /\ H l = some (.lst xs) /\ H b = some (.lst zs) /\ xs.length + zs.length <= sizeLine /\ Q .non (upd H l (.lst (xs ++ zs)))
theorem Zll : MtM X "list.extend" Zi0 := by
 intro pins s σ H x vs v us Q I rx rv h
 obtain ⟨l, b, xs, zs, rfl, rfl, hH, hB, hz, q⟩ := h
 cases rx
 obtain ⟨u, rfl, ru⟩ := rv.one
 cases ru
 obtain ⟨z, its, n, r, hl, e⟩ := I.lstM hH
 obtain ⟨z2, its2, n2, r2, hl2, e2⟩ := I.lstM hB
 have hsz : its.toArray.size + its2.toArray.size <= sizeLine := by rw [List.size_toArray, List.size_toArray]; omega
 have hlong : ¬ (!its.toArray.isEmpty && Builtin.List.listTooLong (its.toArray.size + its2.toArray.size)) = true := by
  rw [Z8o hsz, Bool.and_false]
  exact Bool.false_ne_true
 refine call_meets F.slot_list_extend ⟨_, e, rfl⟩ F.entry_list_extend (F.args_list_extend_2 _ _)
  (AutoSeq1.list_extend_list_list_0 l its.toArray n b its2.toArray n2 hlong (by rw [List.size_toArray]; omega) (by omega)) ⟨e, e2, ?_⟩
 refine ⟨.non, _, I.lset (its' := its ++ its2) hH e (by simp) (r.append r2) ?_, rfl, q⟩
 rw [List.length_append]
 omega
def rPop : V -> List V -> Hp -> VK -> Prop := fun x vs H Q => ∃ l xs y, x = .ref l /\ vs = [] /\ H l = some (.lst xs) /\ xs[xs.length - 1]? = some y /\ Q y (upd H l (.lst xs.dropLast))
theorem Zlm : MtM X "list.pop" rPop := by
 intro pins s σ H x vs v us Q I rx rv h
 obtain ⟨l, xs, y, rfl, rfl, hH, hy, q⟩ := h
 cases rx
 have hus := rv.zero
 subst hus
 obtain ⟨z, its, n, r, hl, e⟩ := I.lstM hH
 obtain ⟨u, hu, ru⟩ := r.get hy
 have hy' : its.toArray[its.toArray.size - 1]? = some u := by
  show its.toArray[its.length - 1]? = some u
  rw [<- Array.getElem?_toList, <- hl]
  exact hu
 refine call_meets F.slot_list_pop ⟨_, e, rfl⟩ F.entry_list_pop (F.args_list_pop_1 _) (MeetsSeq.list_pop_last l its.toArray n u hy' (by rw [List.size_toArray]; omega)) ⟨e, ?_⟩
 refine ⟨y, _, I.lset (its' := its.dropLast) hH e ?_ r.dropLast ?_, ru, q⟩
 ·show its.toArray.eraseIdxIfInBounds (its.toArray.size - 1) = its.dropLast.toArray
  rw [List.size_toArray, List.eraseIdxIfInBounds_toArray, Z9z]
 ·rw [List.length_dropLast]
  omega
def Zba : V -> List V -> Hp -> VK -> Prop := fun x vs H Q => ∃ l xs i k y, x = .ref l /\ vs = [.int i] /\ H l = some (.lst xs) /\ -(2 ^ 63) <= i /\ i < 2 ^ 63 /\ seqIndex? i xs.length = some k /\ xs[k]? = some y /\ Q y (upd H l (.lst (xs.eraseIdx k)))
theorem Z8p : MtM X "list.pop" Zba := by
 intro pins s σ H x vs v us Q I rx rv h
 obtain ⟨l, xs, i, k, y, rfl, rfl, hH, h1, h2, hk, hy, q⟩ := h
 cases rx
 obtain ⟨u, rfl, ru⟩ := rv.one
 obtain ⟨t, rfl⟩ := ru
 obtain ⟨z, its, n, r, hl, e⟩ := I.lstM hH
 obtain ⟨w, hw, rw'⟩ := r.get hy
 refine call_meets F.slot_list_pop ⟨_, e, rfl⟩ F.entry_list_pop (F.args_list_pop_2 _ _)
  (MeetsSeq.list_pop_at l its.toArray n i t k w (fitsIndex_both h1 h2) (by rw [List.size_toArray, <- hl]; exact hk) (by rw [<- Array.getElem?_toList]; exact hw) (by rw [List.size_toArray]; omega)) ⟨e, ?_⟩
 refine ⟨y, _, I.lset (its' := its.eraseIdx k) hH e ?_ (r.eraseIdx k) ?_, rw', q⟩
 ·show its.toArray.eraseIdxIfInBounds k = (its.eraseIdx k).toArray
  rw [List.eraseIdxIfInBounds_toArray]
 ·have := Z6c xs k
  omega
def rCat : R2 := fun x y H Q => ∃ l b xs zs, x = .ref l /\ y = .ref b /\ H l = some (.lst xs) /\ H b = some (.lst zs) /\ xs.length + zs.length <= sizeLine /\ ∀ p, H p = none -> Q (.ref p) (upd H p (.lst (xs ++ zs)))
theorem Zln : OpR X (binaryOp .Add) rCat := by
 intro pins s σ H x y v u Q I rx ry h
 obtain ⟨l, b, xs, zs, rfl, rfl, hH, hB, hz, q⟩ := h
 cases rx
 cases ry
 obtain ⟨z, its, n, r, hl, e⟩ := I.lstM hH
 obtain ⟨z2, its2, n2, r2, hl2, e2⟩ := I.lstM hB
 refine PySem.P.add_list e e2 ?_ (by rw [List.size_toArray, List.size_toArray]; omega)
 have ea : its.toArray ++ its2.toArray = (its ++ its2).toArray := by simp
 rw [ea]
 exact ⟨.ref _, _, I.lnew (t' := s.toks) (r.append r2) (by rw [List.length_append]; omega), rfl, q _ I.fresh⟩
def rRep : R2 := fun x y H Q => ∃ l k xs, x = .ref l /\ y = .int k /\ H l = some (.lst xs) /\ -(2 ^ 63) <= k /\ k < 2 ^ 63 /\ xs.length * k.toNat <= sizeLine /\
 ∀ p, H p = none -> Q (.ref p) (upd H p (.lst (List.replicate k.toNat xs).flatten))
theorem Zi1 {α : Type} (xs : List α) (k : Nat) : (List.replicate k xs).flatten.length = k * xs.length := by
 induction k with
 | zero => simp
 | succ k ih => rw [List.replicate_succ, List.flatten_cons, List.length_append, ih, Nat.succ_mul, Nat.add_comm]
theorem Zlo : OpR X (binaryOp .Mult) rRep := by
 intro pins s σ H x y v u Q I rx ry h
 obtain ⟨l, k, xs, rfl, rfl, hH, h1, h2, hz, q⟩ := h
 cases rx
 obtain ⟨t, rfl⟩ := ry
 obtain ⟨z, its, n, r, hl, e⟩ := I.lstM hH
 have hlen : its.toArray.size * k.toNat <= sizeLine := by rw [List.size_toArray, <- hl]; exact hz
 have hcap : ¬ its.toArray.size * k.toNat > (2 ^ 63 - 1) / 8 := by
  have : (sizeLine : Nat) <= (2 ^ 63 - 1) / 8 := by decide
  omega
 have hfit : ¬ (!Builtin.List.listFitsIndex k) = true := by
  rw [fitsIndex_both h1 h2]
  exact Bool.false_ne_true
 have hlong : ¬ Builtin.List.listTooLong (its.toArray.size * k.toNat) = true := by
  rw [Z8o hlen]
  exact Bool.false_ne_true
 have hnew : List.foldl (fun x1 x2 => x1 ++ x2) #[] (List.replicate (if its.toArray.isEmpty = true then 0 else k.toNat) its.toArray) = (List.replicate k.toNat its).flatten.toArray := by
  have f0 : ∀ m : Nat, List.foldl (fun x1 x2 => x1 ++ x2) #[] (List.replicate m its.toArray) = (List.replicate m its).flatten.toArray := fun m => by
   have := Z6d its m []
   rw [List.nil_append] at this
   exact this
  rw [f0]
  cases its with
  | nil => simp
  | cons a r' => rw [if_neg (by simp)]
 refine wpAny_binaryOp_repeat_ref (T := "list") (U := "int") (by decide) ⟨_, e, rfl⟩ (fun s' => typeIs_int s' k t) noFill_list_mul F.fills_int_mul F.slot_int_rmul repeat_list F.slot_int_index.lookup
  (call_meets F.slot_int_rmul (typeIs_int s k t) F.entry_int_rmul (F.args_int_rmul_2 _ _) (int___rmul___int_list k t l its.toArray n)
   ⟨e, rfl, ⟨_, e, rfl⟩, call_meets F.slot_list_mul ⟨_, e, rfl⟩ F.entry_list_mul (F.args_list_mul_2 _ _) (AutoListH.list___mul___list_int_3 l its.toArray n k t hfit hcap hlong) ⟨e, ?_⟩⟩)
 rw [hnew]
 exact ⟨.ref _, _, I.lnew (t' := s.toks) (r.rep k.toNat) (by rw [Zi1, Nat.mul_comm]; exact hz), rfl, q _ I.fresh⟩
end
end L2
namespace Att
open PySem PySem.W PySem.Calls PyProof.Rows
theorem Z3o {P : Params} {h : Heap} : ∀ (ns : List Int) (vs : List Value), WellAll P h vs (ns.map WData.int) -> IntsAre vs ns := by
 intro ns
 induction ns with
 | nil =>
  intro vs w
  rw [List.map_nil] at w
  cases w
  exact .nil
 | cons n ns ih =>
  intro vs w
  rw [List.map_cons] at w
  cases w with
  | cons a b =>
   cases a
   exact .cons _ _ (ih _ b)
theorem Zbb {l : OpenLaw} {n : Nat} (hn : l.most = some n) {P : Params} {h : Heap} {args : List WData} {vals : List Value}
  (hpre : l.row.toRowW.claim.pre args = true) (hwl : WellAll P h vals args) :
  ∃ a vs ns, vals = [Value.ref a] /\ args = [WData.list (ns.map WData.int)] /\ h.get? a = some { cls := .type "list", data := .seq vs.toArray } /\ IntsAre vs ns /\ ns.length <= n := by
 have hsh : WShape.hasAll [] args [.list .int] = true := (pre_splitW hpre).1
 have hc : l.pre.holds [] { args := args } = true := (pre_splitW hpre).2
 obtain ⟨d, r, rfl, h1, h2⟩ := hasAllW_cons hsh
 obtain rfl := hasAllW_nil h2
 obtain ⟨xs, rfl, h3⟩ := hasW_list h1
 obtain ⟨ns, rfl⟩ := items_int h3
 have hlen : ns.length <= n := by
  unfold OpenLaw.pre at hc
  have h4 : (WTm.not (.lt (.lit (.int (n : Int))) (.len (.arg 0)))).holds [] { args := [.list (ns.map .int)] } = true := by
   have h4 := (holds_andW hc).1
   rw [hn] at h4
   exact h4
  have h5 := condW_of h4 (w_not (w_lt w_lit (w_len_list (w_arg rfl))))
  rw [List.length_map] at h5
  refine Nat.le_of_not_lt fun q => ?_
  have q' : (n : Int) < ((ns.length : Nat) : Int) := by omega
  first
   | (rw [decide_eq_true q'] at h5; exact absurd h5 (by decide))
   | (simp at h5; omega)
 cases hwl with
 | cons w1 w2 =>
  cases w2
  cases w1 with
  | list ho hall => exact ⟨_, _, ns, rfl, rfl, ho, Z3o ns _ hall, hlen⟩
theorem Zbc (l : OpenLaw) (args : List WData) : l.row.toRowW.claim.post args (.bool true) args = true :=
 postW_of (r := l.row.toRowW) (X := (true == true))
  (show WShape.has [] (.bool true) .bool = true by first | rfl | decide | simp [WShape.has, WShape.arms, WShape.armsAll])
  (show (WTm.eq .res (.lit (.bool true))).value [] { args := args, res := some (.bool true), after := args } = some (.bool (true == true)) from w_eq_bool (w_res rfl) w_lit) rfl
theorem attach_call {l : OpenLaw} {n : Nat} {q : Program} {loose : List Str} {XP : (Str -> Option Value) -> Heap -> Prop} {YP : World -> Heap -> Prop} {d : DefRec}
  (hn : l.most = some n) (hdf : d.params.defaults = [])
  (call : ∀ (w : World) (s₀ s₁ : Shared) (mg mb : L2.SV) (fa : Addr) (o : Obj) (pm cd doc : Value) (a : Addr) (vs : List Value) (ns : List Int),
   Ground q loose [] XP w s₀ mg mb s₁.heap -> YP w s₁.heap ->
   s₁.heap.get? fa = some o -> o.data = .func (docDef d.name d.params d.body d.scope pm cd doc) -> s₁.heap.CodeRec cd d.name -> mg d.name = some (.ref fa) ->
   s₁.heap.get? a = some { cls := .type "list", data := .seq vs.toArray } -> IntsAre vs ns -> ns.length <= n -> s₁.gens = #[] ->
   codeAny (model l.prog w) callerA (.call (.ref fa) ⟨[.ref a], []⟩) (fun r s' => r = .ok (.ret (.bool true)) /\ OldK s₁.heap s'.heap /\ s'.os = s₁.os /\ AllBare s'.gens) s₁) :
  WalkO q loose XP YP l.row.toRowW d [] (fun f vs => PySem.call f vs) := by
 intro w s₀ s₁ mg mb G Y fa o pm cd doc dV kV ho hd hcd hD hmg hg args vals as hpre hlay hrd hwl hlo
 obtain rfl : dV = .none := Dflts.none hD hdf
 obtain rfl : kV = .none := Dflts.noKw hD
 obtain ⟨a, vs, ns, rfl, rfl, hobj, hints, hlen⟩ := Zbb hn hpre hwl
 refine enter_call (codeAny_mono (call w s₀ s₁ mg mb fa o pm cd doc a vs ns G Y ho (fd_plain hd) hcd hmg hobj hints hlen hg) fun r s' hq => ?_)
 obtain ⟨rfl, h2, h3, h4⟩ := hq
 exact ⟨.inl ⟨.bool true, .bool true, [], rfl, fun ψ => rfl, .bool true, Zbc l _, fun ψ => ⟨List.Pairwise.nil, fun ψ hm => (nomatch hm)⟩⟩, h2, h3, h4⟩
end Att
namespace L2
open PySem PySem.Spec PyProof.Rows
theorem Z6f : ∀ {vs : List Value} {ns : List Int}, IntsAre vs ns -> Vals (ns.map V.int) vs
 | _, _, .nil => .nil
 | _, _, .cons n t h => .cons ⟨t, rfl⟩ (Z6f h)
def Only (H : Hp) : Prop := ∀ b, H b = none \/ ∃ o xs, H b = some (.frz o (.lst xs))
theorem Zec {P : Program} {w : World} {K : L2.Fg} {mg mb : L2.SV} {CX : CXT} {k : Nat} {fa a : Addr} {fd : FuncData} {x : Str} {sp : Sp} {s₁ : Shared} {vs : List Value} {ns : List Int}
  (KX : K.In s₁.heap) (hns : s₁.heap.Ns mainGlobals mg) (hb : s₁.heap.Ns builtinsNs mb) (hbb : ∀ x : Str, x ≠ "__name__" -> mb x = bootBuiltins x) (hlim : s₁.heap.NoLimit) (hg : s₁.gens = #[])
  (ha : s₁.heap.get? a = some { cls := .type "list", data := .seq vs.toArray }) (hi : IntsAre vs ns) (hl : ns.length <= sizeLine) (hr : Room k callerA)
  (F : ∀ base : Heap, K.In base -> base.Ns mainGlobals mg -> FnOk P w K mg base CX k fa fd [x] sp) (hbind : ∀ (s : Shared) (u : Value), BindsTo s fd ⟨[u], []⟩ [(x, u)])
  (hsp : ∀ H : Hp, Only H -> SqL K H a (ns.map V.int) -> sp [.ref a] H (fun v ψ => v = .bl true) fun ψ ψ ψ => False)
  (hCX : ∀ H e s', CX [] H s₁ (fun ψ ψ ψ => False) e s' -> False) :
  codeAny (model P w) callerA (.call (.ref fa) ⟨[.ref a], []⟩) (fun r s' => r = .ok (.ret (.bool true)) /\ OldK s₁.heap s'.heap /\ s'.os = s₁.os /\ AllBare s'.gens) s₁ := by
 have rv := Z6f hi
 have lenV := hi.length
 have core : ∀ H : Hp, Only H -> SqL K H a (ns.map V.int) -> HOk P w H s₁.heap -> (∀ b, H b ≠ none -> b = a) -> (H a ≠ none -> K.lookup a = none) ->
   codeAny (model P w) callerA (.call (.ref fa) ⟨[.ref a], []⟩) (fun r s' => r = .ok (.ret (.bool true)) /\ OldK s₁.heap s'.heap /\ s'.os = s₁.os /\ AllBare s'.gens) s₁ := by
  intro H hO hS hok hA hK
  have base_of : ∀ {b : Addr} {o : Obj}, s₁.heap.get? b = some o -> H b = none -> (hidT s₁.heap H).get? b = some o := fun e n => Ze1 e n
  have noA : ∀ {b : Addr} {o : Obj} {es : Array DictEntry} {ep : Nat}, s₁.heap.get? b = some o -> o.data = .dict es ep -> H b = none := fun {b o es ep} e d => by
   cases q : H b with
   | none => rfl
   | some u =>
    have e' : b = a := hA b (by rw [q]; simp)
    subst e'
    rw [ha] at e; cases e
    have d' : Data.seq vs.toArray _ = Data.dict es ep := d
    cases d'
  have nsK : ∀ {b : Addr} {m : L2.SV}, s₁.heap.Ns b m -> (hidT s₁.heap H).Ns b m := fun {b m} ⟨o, es, ep, e, d, r⟩ => ⟨o, es, ep, base_of e (noA e d), d, r⟩
  have hKb : K.In (hidT s₁.heap H) := fun b o e => base_of (KX b o e) (by
   cases q : H b with
   | none => rfl
   | some u =>
    have e' : b = a := hA b (by rw [q]; simp)
    subst e'
    rw [hK (by rw [q]; simp)] at e; cases e)
  have hM : Mod K mg (hidT s₁.heap H) := ⟨hKb, nsK hns, ⟨mb, nsK hb, hbb⟩, let ⟨mc, h1, h2⟩ := hlim; ⟨mc, nsK h1, h2⟩⟩
  have e0 : Env0 P w K mg (hidT s₁.heap H) callerA [] s₁ H := ⟨rfl, hM, fun b o e => Zhk e, Nat.le_of_eq (Zar _ _), trivial, fun b hb => absurd (show b ∈ ([] : List Addr) from hb) (by simp), hok, .of_eq hg⟩
  refine codeAny_mono ((F _ hKb (nsK hns)).run callerA [] s₁ H ⟨[.ref a], []⟩ [.ref a] [.ref a] _ _ hr e0 (hbind s₁ (.ref a)) (.cons rfl .nil) (hsp H hO hS)) fun r s' h => ?_
  cases r with
  | error e => exact (hCX H e s' h).elim
  | ok fl =>
   cases fl with
   | next => exact False.elim h
   | brk => exact False.elim h
   | cont => exact False.elim h
   | ret u =>
    obtain ⟨v, H', os, bare, un, hok', r', q⟩ := h
    have q' : v = .bl true := q
    subst q'
    obtain rfl : u = Value.bool true := r'
    refine ⟨rfl, OldK.of_keep fun b o e => ?_, os, bare⟩
    cases q : H b with
    | none => exact un.keep b o e q (by intro z; exact absurd (show b ∈ ([] : List Addr) from z) (by simp)) (by simp)
    | some u =>
     rcases hO b with z | ⟨ob, xs, z⟩
     ·rw [q] at z; cases z
     ·have z2 := un.frzs b ob _ z
      obtain ⟨e1, _⟩ := hok b _ z
      obtain ⟨e2, _⟩ := hok' b _ z2
      rw [e] at e1; cases e1
      exact e2
 cases hk : K.lookup a with
 | some o =>
  have e := KX a o hk
  rw [ha] at e
  cases e
  refine core (fun ψ => none) (fun ψ => .inl rfl) (.inr ⟨_, vs.toArray, _, hk, rfl, rfl, rfl, by rw [List.size_toArray, lenV]; exact hl, by simpa using rv⟩) (fun b u z => by have z' : (none : Option HO) = some u := z; cases z') (fun b z => absurd rfl z) fun z => absurd rfl z
 | none =>
  refine core (fun b => if b = a then some (.frz { cls := .type "list", data := .seq vs.toArray } (.lst (ns.map V.int))) else none) (fun b => ?_) (.inl (.inr ⟨{ cls := .type "list", data := .seq vs.toArray }, if_pos rfl⟩)) (fun b u z => ?_) (fun b z => ?_) fun ψ => hk
  ·by_cases hb : b = a
   ·exact .inr ⟨_, _, if_pos hb⟩
   ·exact .inl (if_neg hb)
  ·by_cases hb : b = a
   ·have z' := (if_pos hb).symm.trans z
    cases z'
    subst hb
    exact ⟨ha, by rw [List.length_map]; exact hl, vs, _, rv, ha⟩
   ·have z' := (if_neg hb).symm.trans z
    cases z'
  ·by_cases hb : b = a
   ·exact hb
   ·exact absurd (if_neg hb) z
theorem Zi2 {l : PySem.W.OpenLaw} {n k : Nat} {q : Program} {loose : List Str} {XP : (Str -> Option Value) -> Heap -> Prop} {YP : World -> Heap -> Prop} {d : DefRec} {K : Params -> PySem.W.Frag} {CX : World -> CXT} {sp : World -> Sp} {x : Str}
  (hn : l.most = some n) (hn2 : n <= sizeLine) (hdf : d.params.defaults = []) (hr : Room k callerA)
  (hY : ∀ (w : World) (h : Heap), YP w h -> (K w.params).In h)
  (F : ∀ (w : World) (mg : L2.SV) (fa : Addr) (h : Heap), (K w.params).In h -> h.Ns mainGlobals mg -> mg d.name = some (.ref fa) ->
   ∃ fd : FuncData, (∀ (s : Shared) (u : Value), BindsTo s fd ⟨[u], []⟩ [(x, u)]) /\
    ∀ base : Heap, (K w.params).In base -> base.Ns mainGlobals mg -> FnOk l.prog w (K w.params) mg base (CX w) k fa fd [x] (sp w))
  (hsp : ∀ (w : World) (H : Hp) (a : Addr) (ns : List Int), ns.length <= n -> Only H -> SqL (K w.params) H a (ns.map V.int) -> sp w [.ref a] H (fun v ψ => v = .bl true) fun ψ ψ ψ => False)
  (hCX : ∀ (w : World) (H : Hp) (s : Shared) (e : Value) (s' : Shared), CX w [] H s (fun ψ ψ ψ => False) e s' -> False) :
  PySem.W.WalkO q loose XP YP l.row.toRowW d [] (fun f vs => PySem.call f vs) := by
 refine Att.attach_call hn hdf fun w s₀ s₁ mg mb fa o pm cd doc a vs ns G Y ho hd hcd hmg hobj hints hlen hg => ?_
 have KX := hY w _ Y
 obtain ⟨fd, hb, hF⟩ := F w mg fa _ KX G.T.g hmg
 exact Zec KX G.T.g G.T.b G.T.builtins G.T.nolimit hg hobj hints (Nat.le_trans hlen hn2) hr hF hb (fun H hO hS => hsp w H a ns hlen hO hS) fun H e s' => hCX w H s₁ e s'
theorem Zed {l : PySem.W.OpenLaw} {n k : Nat} {q : Program} {loose : List Str} {XP : (Str -> Option Value) -> Heap -> Prop} {YP : World -> Heap -> Prop} {d : DefRec} {K : Params -> PySem.W.Frag} {CX : CXT} {sp : PySem.W.Frag -> Sp} {x : Str}
  (hn : l.most = some n) (hn2 : n <= sizeLine) (hdf : d.params.defaults = []) (hr : Room k callerA)
  (hY : ∀ (w : World) (h : Heap), YP w h -> (K w.params).In h)
  (F : ∀ (w : World) (mg : L2.SV) (fa : Addr) (h : Heap), (K w.params).In h -> h.Ns mainGlobals mg -> mg d.name = some (.ref fa) ->
   ∃ fd : FuncData, (∀ (s : Shared) (u : Value), BindsTo s fd ⟨[u], []⟩ [(x, u)]) /\
    ∀ base : Heap, (K w.params).In base -> base.Ns mainGlobals mg -> FnOk l.prog w (K w.params) mg base CX k fa fd [x] (sp (K w.params)))
  (hsp : ∀ (K : L2.Fg) (H : Hp) (a : Addr) (ns : List Int), ns.length <= n -> Only H -> SqL K H a (ns.map V.int) -> sp K [.ref a] H (fun v ψ => v = .bl true) fun ψ ψ ψ => False)
  (hCX : ∀ (H : Hp) (s : Shared) (e : Value) (s' : Shared), CX [] H s (fun ψ ψ ψ => False) e s' -> False) :
  PySem.W.WalkO q loose XP YP l.row.toRowW d [] (fun f vs => PySem.call f vs) :=
 Zi2 (K := K) (CX := fun ψ => CX) (sp := fun w => sp (K w.params)) hn hn2 hdf hr hY F (fun w H a ns h1 h2 h3 => hsp (K w.params) H a ns h1 h2 h3) fun ψ H s e s' => hCX H s e s'
def Z0o (s : Stmt) : Arguments := match s with
 | .FunctionDef _ a _ _ _ _ _ _ _ _ => a
 | _ => { posonlyargs := [], args := [], vararg := none, kwonlyargs := [], kw_defaults := [], kwarg := none, defaults := [] }
def Z0e (s : Stmt) : List Stmt := match s with
 | .FunctionDef _ _ b _ _ _ _ _ _ _ => b
 | _ => []
def Z05 (s : Stmt) : Scope := match s with
 | .FunctionDef _ _ _ _ _ _ sc _ _ _ => sc
 | _ => { kind := .function, names := [], isGenerator := false, isCoroutine := false }
abbrev CX0 : CXT := fun ψ ψ ψ ψ ψ ψ => False
abbrev E0 : XK := fun ψ ψ ψ => False
structure Fun (K : L2.Fg) (x qual : Str) (st : Stmt) (f : Addr) (fd : FuncData) : Prop where
 ex : ∃ (oc : Value) (od : Option Addr) (kV doc pm : Value) (an : Option Addr) (cdv ct : Value) (osl : Array (Option Value)),
  fd = PySem.W.fnOf x qual (Z0o st) (Z0e st) (Z05 st) .none kV doc pm an cdv ct /\ K.lookup f = some ⟨oc, od, .func fd, osl⟩ /\ PySem.W.codeIn K cdv qual = true
 kp : PySem.W.keepIn K (.ref f) = true
section
variable {P : Program} {w : World} {K : L2.Fg} {mg : L2.SV} {base : Heap}
theorem Fun.ok {x qual : Str} {st : Stmt} {f : Addr} {fd : FuncData} {N ps : List Str} {k : Nat} {sp : Sp} (F : Fun K x qual st f fd) (S : Z0m N ps (Z05 st)) (len : ∀ vs H Q E, sp vs H Q E -> vs.length = ps.length)
  (hbody : ∀ (cdv : Value) (A : Around) (outer : List Env) (s : Shared) (H : Hp) (vs : List V) (Q : VK) (E : XK), Room k (A.deeper (envOfC qual (Z05 st) s.heap.objs.size f cdv)) -> sp vs H Q E ->
   ∃ t, PSs (cxOf CX0 P w K mg base N qual (Z05 st) f cdv A outer s H E).nox (Z0e st) t /\ t { nx := fun ψ H' => Q .non H', rt := Q } (start N vs) H) : FnOk P w K mg base CX0 (k + 1) f fd ps sp := by
 obtain ⟨oc, od, kV, doc, pm, an, cdv, ct, osl, rfl, lk, hcd⟩ := F.ex
 refine Zle lk hcd S len fun A outer s H vs Q E hr hsp => ?_
 obtain ⟨t, h, q⟩ := hbody cdv A outer s H vs Q E hr hsp
 exact ⟨t, h.nox, q⟩
theorem Fun.binds {x qual : Str} {st : Stmt} {f : Addr} {fd : FuncData} {ps : List Str} (F : Fun K x qual st f fd)
  (h : ∀ (kV doc pm : Value) (an : Option Addr) (cdv ct : Value) (us : List Value), us.length = ps.length -> bindArgs (PySem.W.fnOf x qual (Z0o st) (Z0e st) (Z05 st) .none kV doc pm an cdv ct) ⟨us, []⟩ = pure (ps.zip us)) : Z9u K fd ps [] := by
 obtain ⟨oc, od, kV, doc, pm, an, cdv, ct, osl, rfl, lk, hcd⟩ := F.ex
 exact .all (h kV doc pm an cdv ct)
theorem Z1d {x qual : Str} {st : Stmt} {f : Addr} {oc : Value} {od an : Option Addr} {osl : Array (Option Value)} {kV doc pm cdv ct : Value} (l : K.lookup f = some ⟨oc, od, .func (PySem.W.fnOf x qual (Z0o st) (Z0e st) (Z05 st) .none kV doc pm an cdv ct), osl⟩)
  (c : PySem.W.codeIn K cdv qual = true) (k : PySem.W.keepIn K (.ref f) = true) : Fun K x qual st f (PySem.W.fnOf x qual (Z0o st) (Z0e st) (Z05 st) .none kV doc pm an cdv ct) := ⟨⟨oc, od, kV, doc, pm, an, cdv, ct, osl, rfl, l, c⟩, k⟩
end
def Same (H H' : Hp) : Prop := ∀ b o, H b = some o -> H' b = some o
theorem Same.refl (H : Hp) : Same H H := fun ψ ψ h => h
theorem Same.trans {H H1 H2 : Hp} (a : Same H H1) (b : Same H1 H2) : Same H H2 := fun c o h => b c o (a c o h)
theorem Same.free {H H' : Hp} (e : Same H H') {l : Addr} (h : H' l = Option.none) : H l = Option.none := by
 cases q : H l with
 | none => rfl
 | some o =>
  rw [e l o q] at h
  cases h
theorem Same.seq {K : L2.Fg} {H H' : Hp} {a : Addr} {xs : List V} (e : Same H H') (h : SqL K H a xs) : SqL K H' a xs := by
 rcases h with (h | ⟨o, h⟩) | h
 ·exact .inl (.inl (e _ _ h))
 ·exact .inl (.inr ⟨o, e _ _ h⟩)
 ·exact .inr h
theorem Z6g {prog : Program} {w : World} {A : Around} {R : Result -> Shared -> Prop} {s : Shared} {elt target iter : Expr} {ifs : List Expr} {scope : Scope} {pos : Pos} {it acc : Value} {env : Env} (I : Nat -> Shared -> Prop)
  (turn : ∀ n s, I n s -> wpAny (model prog w) A (pyNext it) (fun r s₁ => match r with
   | none => R (.ok .next) s₁
   | some v => wpAny (model prog w) A (letOwnedTupleGo target it v) (fun ψ s₁' => wpAny (model prog w) A (assign target env v) (fun ψ s₂ =>
     wpAny (model prog w) A (forIn ifs true fun c r => if r = true then do let ok <- isTrue c env (eval c env); pure (ForInStep.yield ok) else pure (ForInStep.yield r)) (fun ok s₃ =>
      if ok = true then wpAny (model prog w) A (eval elt env) (fun x s₄ =>
       wpAny (model prog w) A (call (.builtin "list.append") [acc, x]) (fun ψ s₅ => ∃ m, m < n /\ I m s₅) (fun ψ ψ => False) s₄) (fun ψ ψ => False) s₃
      else ∃ m, m < n /\ I m s₃) (fun ψ ψ => False) s₂) (fun ψ ψ => False) s₁') (fun ψ ψ => False) s₁) (fun ψ ψ => False) s)
  (n : Nat) (h : I n s) : codeAny (model prog w) A (.compLoop (.ListComp elt [⟨target, iter, ifs, 0⟩] scope pos) 0 it acc env) R s := by
 refine codeAny_loop rfl I (fun n s hI => ?_) n h
 show wpAny _ A ((compTurn (.ListComp elt [⟨target, iter, ifs, 0⟩] scope pos) 0 it acc env).onRaise (fun x => do noteFrame x env; theTreesLotGoes x)) _ _ s
 refine wpAny_noted (wpAny_noRaise ?_)
 rw [compTurn_list]
 refine wpAny_bind (wpAny_standAt (wpAny_bind (thn (turn n s hI) fun r s₁ h₁ => ?_)))
 cases r with
 | none => exact wpAny_pure h₁
 | some v =>
  refine wpAny_bind (thn h₁ fun ψ s₁' h₁' => ?_)
  refine wpAny_bind (thn h₁' fun ψ s₂ h₂ => wpAny_bind (thn h₂ fun ok s₃ h₃ => ?_))
  cases ok with
  | false => exact wpAny_pure ⟨rfl, h₃⟩
  | true => exact wpAny_bind (wpAny_bind (thn h₃ fun x s₄ h₄ => wpAny_bind (thn h₄ fun ψ s₅ h₅ => wpAny_pure (wpAny_pure ⟨rfl, h₅⟩))))
theorem Inv.adopt {X : Cx} {pins : L2.AO} {σ : St} {H : Hp} {s : Shared} {d : Addr} {o : HO} (I : Inv X pins σ H s) (f : FpOk X pins H d) (new : Z0r X.prog X.w (upd H d o) s.heap d o) : Inv X pins σ (upd H d o) s := by
 obtain ⟨f0, f1, f2, f3, f4, f5⟩ := f
 have nd : ∀ b u, H b = some u -> b ≠ d := fun b u e z => by rw [z, f0] at e; cases e
 refine I.step (h' := s.heap) (g' := s.gens) (d' := s.drawn) (t' := s.toks) (ch := [d]) (fun b hb => ?_) (fun b u ψ ψ ψ e ψ => e) (fun b u ψ ψ ψ e ψ => ⟨u.slots, e⟩) (fun b u hc e n => ?_) (fun b u ψ e => ⟨u, e⟩)
  (fun b xs e => by rw [Z06 (nd b _ e)]; exact e) (fun b u v e => by rw [Z06 (nd b _ e)]; exact e) (fun b ps e => ⟨#[], by rw [Z06 (nd b _ e), e]; simp⟩) (fun m hm => hm) (fun b u e => ?_) I.bare
 ·have z : b = d := by simpa using hb
  subst z
  exact ⟨f3, f1, f4, f5⟩
 ·rw [Z06 (fun z => hc (by simp [z]))]; exact n
 ·by_cases hb : b = d
  ·subst hb; rw [Z03] at e; cases e; exact new
  ·rw [Z06 hb] at e
   exact (I.hok b u e).stay (fun ψ ψ ψ q => q) (fun c q => by rw [Z06 (nd c _ q)]; exact q) fun c xs q => by rw [Z06 (nd c _ q)]; exact q
inductive Caps (X : Cx) (sc : Scope) (cl : List (Str × Addr)) : List Nat -> List Str -> Prop
 | nil : Caps X sc cl [] []
 | cons {j : Nat} {js : List Nat} {y : Str} {ys : List Str} (hN : X.N[j]? = some y) (hk : X.env.kindOf y = some .cell \/ X.env.kindOf y = some .free) (hl : cl.lookup y = X.env.cells.lookup y)
   (hv : sc.names.lookup y = some .cell \/ sc.names.lookup y = some .free) (r : Caps X sc cl js ys) : Caps X sc cl (j :: js) (y :: ys)
def blk (k : Nat) (js : List Nat) (σ : St) : St := List.replicate k none ++ js.map fun j => (σ[j]?).getD none
theorem Caps.get {X : Cx} {sc : Scope} {cl : List (Str × Addr)} {σ : St} : ∀ {js : List Nat} {ys : List Str} {i : Nat} {y : Str} {v : V}, Caps X sc cl js ys -> ys[i]? = some y -> (js.map fun (j : Nat) => (σ[j]?).getD none)[i]? = some (some v) ->
  ∃ j : Nat, X.N[j]? = some y /\ σ[j]? = some (some v) /\ (X.env.kindOf y = some .cell \/ X.env.kindOf y = some .free) /\ cl.lookup y = X.env.cells.lookup y /\ (sc.names.lookup y = some .cell \/ sc.names.lookup y = some .free)
 | _, _, _, _, _, .nil, e, _ => by simp at e
 | _, _, 0, y, v, .cons (j := j) hN hk hl hv _, e, e2 => by
  simp at e e2
  subst e
  refine ⟨j, hN, ?_, hk, hl, hv⟩
  cases q : σ[j]? with
  | none => rw [q] at e2; simp at e2
  | some z => rw [q] at e2; simp at e2; rw [e2]
 | _, _, i + 1, y, v, .cons _ _ _ _ r, e, e2 => Caps.get (i := i) r (by simpa using e) (by simpa using e2)
theorem Caps.len {X : Cx} {sc : Scope} {cl : List (Str × Addr)} : ∀ {js : List Nat} {ys : List Str}, Caps X sc cl js ys -> js.length = ys.length
 | _, _, .nil => rfl
 | _, _, .cons _ _ _ _ r => by simp [r.len]
def Z0w (X : Cx) (N : List Str) (scope : Scope) (cl : List (Str × Addr)) (C : Addr) (pins : L2.AO) (fp : List Addr) (s2 : Shared) (H2 : Hp) : Cx where
 prog := X.prog
 w := X.w
 K := X.K
 mg := X.mg
 base := X.base
 A := X.A
 N := N
 s₀ := s2
 H₀ := H2
 env := compEnvC scope cl C X.env
 outer := X.stack
 stack := X.stack
 ex := fp
 fn := fun ψ => false
 calm := X.calm
 pn := X.pn ++ pins
 xe := fun ψ ψ => False
def PTs (X : Cx) (ifs : List Expr) (t : TT) : Prop :=
 ∀ (pins : L2.AO) (s : Shared) (σ : St) (H : Hp) (Q : Bool -> Hp -> Prop), Inv X pins σ H s -> t σ H Q ->
  wpAny (model X.prog X.w) X.A (forIn ifs true fun c r => if r = true then do let ok <- isTrue c X.env (eval c X.env); pure (ForInStep.yield ok) else pure (ForInStep.yield r)) (TP X pins σ Q) X.xe s
def Zlp : TT := fun ψ H Q => Q true H
theorem Zi3 {X : Cx} : PTs X [] Zlp := fun ψ ψ ψ H ψ I h => wpAny_tests_nil ⟨H, I, h⟩
theorem Zi4 {X : Cx} {c : Expr} {t : TT} (h : PT X c t) : PTs X [c] t := fun pins s σ H Q I hq => wpAny_tests_one (h pins s σ H Q I hq)
def Zlq (wi : TI) (k : Nat) (js : List Nat) (g : TG) (tc : TT) (te : TE) : TE := fun σ H Q => wi σ H fun J H1 => ∃ W : Nat -> Nat -> List V -> Hp -> Prop, (∃ m, W 0 m [] H1) /\ ∀ i m ys H, W i m ys H ->
 (J.stop i H /\ ys.length <= sizeLine /\ ∀ p, H p = none -> Q (.ref p) (upd H p (.lst ys))) \/
 (J.go i H /\ ys.length <= sizeLine /\ ∀ x H', J.yld i H x H' -> g x (blk k js σ) H' fun σ2 H2 => tc σ2 H2 fun b H3 => if b = true then te σ2 H3 fun v H4 => ∃ m', m' < m /\ W (i + 1) m' (ys ++ [v]) H4 else ∃ m', m' < m /\ W (i + 1) m' ys H3)
section
variable {X : Cx} {elt tg iter : Expr} {ifs : List Expr} {scope : Scope} {pos : Pos} {cl : List (Str × Addr)} {bs caps : List Str} {js : List Nat} {wi : TI} {g : TG} {tc : TT} {te : TE}
structure Z6h (X : Cx) (scope : Scope) (cl : List (Str × Addr)) (js : List Nat) (caps : List Str) : Prop where
 clos : closureFor scope X.env = pure cl
 cell : ∀ y ∈ scope.names, y.2 ≠ .cell
 kind : scope.kind = .function
 names : ∀ y ∈ scope.names, y.2 = .local -> scope.names.lookup y.1 = some .local
 fr : ∀ y ∈ scope.names, y.2 = .free -> (cl.lookup y.1).isSome = true
 sub : ∀ y c, cl.lookup y = some c -> X.env.cells.lookup y = some c
 cap : Caps X (relabel scope X.env) cl js caps
theorem Z35 {scope : Scope} {env : Env} {x : Str} {k : NameKind} (hc : ∀ y ∈ scope.names, y.2 ≠ .cell) (hk : k = .cell \/ k = .free) (h : (relabel scope env).names.lookup x = some k) : ∃ y ∈ scope.names, y.1 = x /\ y.2 = .free := by
 have m := PySem.mem_of_lookup h
 obtain ⟨y, hy, e⟩ := List.mem_map.mp m
 obtain ⟨n, k'⟩ := y
 dsimp only at e
 by_cases q : (k' == NameKind.free && env.scope.kind == .function && env.kindOf n == some .cell) = true
 ·rw [if_pos q] at e
  have e1 : n = x := congrArg Prod.fst e
  refine ⟨(n, k'), hy, e1, ?_⟩
  simp only [Bool.and_eq_true, beq_iff_eq] at q
  exact q.1.1
 ·rw [if_neg q] at e
  have e1 : n = x := congrArg Prod.fst e
  have e2 : k' = k := congrArg Prod.snd e
  rcases hk with z | z
  ·exact absurd (e2.trans z) (hc (n, k') hy)
  ·exact ⟨(n, k'), hy, e1, e2.trans z⟩
theorem Zbd {pins : L2.AO} {σ : St} {H2 : Hp} {s2 : Shared} {fp : List Addr} {C : Addr} (c : Z6h X scope cl js caps) (I2 : Inv X pins σ H2 s2) (hC : s2.heap.objs.size <= C) (f2 : ∀ b ∈ fp, FpOk X pins H2 b) (ho : ∀ b ∈ fp, ∃ o, s2.heap.get? b = some o) :
  (Z0w X (bs ++ caps) scope cl C pins fp s2 H2).Ok := by
 have lt : ∀ b ∈ fp, b < C := fun b hb => let ⟨o, e⟩ := ho b hb; Nat.lt_of_lt_of_le (Heap.lt_size e) hC
 refine ⟨I2.ok.mod, c.kind, I2.ok.glob, I2.ok.blt, hC, fun x y a h1 h2 => I2.ok.inj x y a (c.sub _ _ h1) (c.sub _ _ h2), fun x hx => ?_, fun x a h ψ => absurd (show false = true from h) Bool.false_ne_true, I2.ok.hd, I2.ok.frames, .inl rfl, fun b hb => ⟨Nat.ne_of_lt (lt b hb), fun x a h => (f2 b hb).2.2.2.2.1 x a (c.sub _ _ h)⟩,
  I2.bs, Nat.le_trans I2.ok.bsz I2.sz, fun b o e hb => ?_, fun b hb z => ?_, I2.stack, I2.stkFree⟩
 ·have hx' : (relabel scope X.env).names.lookup x = some .cell \/ (relabel scope X.env).names.lookup x = some .free := hx
  obtain ⟨y, hy, e1, e2⟩ : ∃ y ∈ scope.names, y.1 = x /\ y.2 = .free := by
   rcases hx' with q | q
   ·exact Z35 c.cell (.inl rfl) q
   ·exact Z35 c.cell (.inr rfl) q
  subst e1
  exact Option.isSome_iff_exists.mp (c.fr y hy e2)
 ·rcases (f2 b hb).2.2.2.1 with z | z
  ·exact I2.ok.noex b o e z
  ·exact absurd (Nat.lt_of_lt_of_le (Heap.lt_size (I2.ok.bs b o e).1) z) (Nat.lt_irrefl _)
 ·have f := f2 b hb
  rcases List.mem_cons.mp (I2.stkSub b z) with q | q
  ·exact f.2.1 q
  ·exact f.2.2.1 q
theorem Zbe {pins : L2.AO} {σ : St} {H2 : Hp} {s2 : Shared} {fp : List Addr} {it : Addr} {tn : Nat -> Heap -> Prop} {J : It} {RR : Value -> Addr -> Result -> Shared -> Prop} {Z : List V -> Hp -> Prop} {E : L2.VSP} (hc : X.calm = true) (c : Z6h X scope cl js caps)
  (hg : ∀ C pins fp s2 H2, PG (Z0w X (bs ++ caps) scope cl C pins fp s2 H2) tg g) (ht : ∀ C pins fp s2 H2, PTs (Z0w X (bs ++ caps) scope cl C pins fp s2 H2) ifs tc) (he : ∀ C pins fp s2 H2, PE (Z0w X (bs ++ caps) scope cl C pins fp s2 H2) elt te)
  (I2 : Inv X pins σ H2 s2) (T : Turn X.prog X.w X.K tg J fp it tn) (st2 : tn 0 s2.heap) (f2 : ∀ b ∈ fp, FpOk X pins H2 b) (W : Nat -> Nat -> List V -> Hp -> Prop) {m0 : Nat} (w0 : W 0 m0 [] H2)
  (turn : ∀ i m ys H, W i m ys H ->
   (J.stop i H /\ ys.length <= sizeLine /\ Z ys H) \/
   (J.go i H /\ ys.length <= sizeLine /\ ∀ x H', J.yld i H x H' -> g x (blk bs.length js σ) H' fun σ2 H2 => tc σ2 H2 fun b H3 => if b = true then te σ2 H3 fun v H4 => ∃ m', m' < m /\ W (i + 1) m' (ys ++ [v]) H4 else ∃ m', m' < m /\ W (i + 1) m' ys H3))
  (hR : ∀ (D C : Addr) (s4 : Shared) (H3 : Hp) (ys : List V) (mC : L2.SV), Inv X pins σ (upd H3 D (.lst ys)) s4 -> H3 D = none -> FpOk X pins (upd H3 D (.lst ys)) C -> s4.heap.Ns C mC -> Z ys H3 -> RR (.ref D) C (.ok .next) s4) :
  wpAny (model X.prog X.w) X.A (newList []) (fun acc s₃ => wpAny (model X.prog X.w) X.A (newFunctionEnv scope X.env.globals cl [] X.env.qual none .none (some X.env)) (fun cenv s₄ =>
   codeAny (model X.prog X.w) X.A (.compStart (.ListComp elt [⟨tg, iter, ifs, 0⟩] scope pos) 0 (.ref it) acc { cenv with scope := relabel scope X.env }) (RR acc cenv.locals) s₄) E s₃) E s2 := by
 refine wpAny_newObj_type (wpAny_newFunctionEnv c.cell (by intro y hy; simp at hy) (fun h₁ hns₁ hsb₁ => ?_) c.kind)
 dsimp only at hns₁ hsb₁ ⊢
 generalize hP : s2.heap.push { cls := .type "list", dict := none, data := .seq ([] : List Value).toArray } = P2 at hns₁ hsb₁ ⊢
 have hCs : P2.objs.size = s2.heap.objs.size + 1 := by rw [<- hP, Heap.size_push]
 have hCle : s2.heap.objs.size <= P2.objs.size := by rw [hCs]; exact Nat.le_succ _
 have hDC : s2.heap.objs.size ≠ P2.objs.size := by rw [hCs]; exact Nat.ne_of_lt (Nat.lt_succ_self _)
 have below : ∀ b, b < s2.heap.objs.size -> b ≠ P2.objs.size := fun b hb => by rw [hCs]; exact Nat.ne_of_lt (Nat.lt_succ_of_lt hb)
 have old : ∀ b o, s2.heap.get? b = some o -> h₁.get? b = some o := fun b o e => hsb₁.extBut b o (below b (Heap.lt_size e)) (Heap.get?_push_of_some _ (hP ▸ Heap.get?_push_of_some _ e))
 have hacc : h₁.get? s2.heap.objs.size = some { cls := .type "list", data := .seq ([] : List Value).toArray } := hsb₁.extBut _ _ hDC (Heap.get?_push_of_some _ (hP ▸ Heap.get?_push_size _ rfl))
 have ob2 : ∀ b ∈ fp, ∃ o, s2.heap.get? b = some o := fun b hb => let ⟨o, e, _⟩ := T.obj 0 _ st2 b hb; ⟨o, e⟩
 have okY := Zbd (bs := bs) c I2 hCle f2 ob2
 have fD : ∀ {H3 : Hp}, H3 s2.heap.objs.size = none -> FpOk X pins H3 s2.heap.objs.size := fun hn => I2.fpOk (Nat.le_refl _) hn
 have fC : ∀ {H3 : Hp}, H3 P2.objs.size = none -> FpOk X pins H3 P2.objs.size := fun hn => I2.fpOk hCle hn
 have stkne : ∀ b, b ∈ frs X.stack -> b < s2.heap.objs.size := fun b hb => by
  rcases List.mem_cons.mp (I2.stkSub b hb) with q | q
  ·rw [q]; exact I2.lt
  ·obtain ⟨_, o, e, _⟩ := I2.ok.funs.mem q
   exact Nat.lt_of_lt_of_le (Heap.lt_size e) I2.sz
 have fpY : ∀ {H3 : Hp} {o : Obj}, (∀ b ∈ fp, H3 b = none) -> ∀ b ∈ fp, FpOk (Z0w X (bs ++ caps) scope cl P2.objs.size pins fp s2 H2) [(s2.heap.objs.size, o)] H3 b := fun {H3 o} hn b hb => by
  obtain ⟨o', e'⟩ := ob2 b hb
  have f := f2 b hb
  refine ⟨hn b hb, below b (Heap.lt_size e'), okY.exfs b hb, .inl hb, fun x a h => f.2.2.2.2.1 x a (c.sub _ _ h), fun p hp => ?_⟩
  rcases List.mem_append.mp hp with z | z
  ·exact f.2.2.2.2.2 p z
  ·have z' : p = (s2.heap.objs.size, o) := by simpa using z
   subst z'
   exact Ne.symm (Nat.ne_of_lt (Heap.lt_size e'))
 have IY : Inv (Z0w X (bs ++ caps) scope cl P2.objs.size pins fp s2 H2) [(s2.heap.objs.size, { cls := .type "list", data := .seq ([] : List Value).toArray })] (blk bs.length js σ) H2 { s2 with heap := h₁, toks := s2.toks + ([] : List (Str × Value)).length } := by
  obtain ⟨m, hn, hl⟩ := I2.loc
  refine ⟨okY, rfl, I2.bare, Un.kept old, ⟨_, hns₁, fun i x v e1 e2 e3 => ?_⟩, fun x a h => ?_, I2.hok.fresh hCle, fun x a h => I2.freeC x a (c.sub _ _ h), fun p hp => ?_, I2.hok.kept old, ?_⟩
  ·have hi : ¬ i < bs.length := fun hi => by
    have e2' : (List.replicate bs.length none ++ _)[i]? = some (some v) := e2
    rw [List.getElem?_append_left (by simpa using hi), List.getElem?_replicate, if_pos hi] at e2'
    cases e2'
   have e1' : (bs ++ caps)[i]? = some x := e1
   rw [List.getElem?_append_right (by lia)] at e1'
   have e2' : (List.replicate bs.length none ++ js.map fun j => (σ[j]?).getD none)[i]? = some (some v) := e2
   rw [List.getElem?_append_right (by simpa using hi), List.length_replicate] at e2'
   obtain ⟨j, q1, q2, q3, q4, q5⟩ := c.cap.get e1' e2'
   have vis : Vis X.env.scope x := by rcases q3 with z | z; exact .inr (.inl z); exact .inr (.inr z)
   obtain ⟨u, r, l⟩ := hl j x v q1 q2 vis
   refine ⟨u, r, .inr ⟨q5, ?_⟩⟩
   rcases l with ⟨z, _⟩ | ⟨_, a, z, z2⟩
   ·rcases q3 with y | y <;> (rw [y] at z; cases z)
   ·obtain ⟨ob, eo, d⟩ := z2
    exact ⟨a, q4.trans z, ob, old _ _ eo, d⟩
  ·obtain ⟨v, ob, eo, d⟩ := I2.cell x a (c.sub _ _ h)
   exact ⟨v, ob, old _ _ eo, d⟩
  ·rcases List.mem_append.mp hp with z | z
   ·obtain ⟨q1, q2, q3, q4, q5⟩ := I2.pin p z
    refine ⟨old _ _ q1, q2, below _ (Heap.lt_size q1), fun y => ?_, q5⟩
    rcases List.mem_cons.mp (I2.stkSub p.1 y) with q | q
    ·exact q3 q
    ·exact q4 q
   ·have z' : p = (s2.heap.objs.size, { cls := .type "list", data := .seq ([] : List Value).toArray }) := by simpa using z
    subst z'
    refine ⟨hacc, I2.hok.fresh (Nat.le_refl _), hDC, fun y => absurd (stkne _ y) (Nat.lt_irrefl _), fun v y => ?_⟩
    have y' : Data.seq _ _ = Data.cell v := y
    cases y'
  ·show (List.replicate bs.length none ++ js.map fun j => (σ[j]?).getD none).length = (bs ++ caps).length
   rw [List.length_append, List.length_replicate, List.length_map, List.length_append, c.cap.len]
 have stat : ∀ {H3 : Hp} {o : Obj}, (∀ b ∈ fp, H3 b = none) -> ∀ b ∈ fp, FpOk (Z0w X (bs ++ caps) scope cl P2.objs.size pins fp s2 H2) [(s2.heap.objs.size, o)] H3 b := fpY
 have loop : codeAny (model X.prog X.w) X.A (.compLoop (.ListComp elt [⟨tg, iter, ifs, 0⟩] scope pos) 0 (.ref it) (.ref s2.heap.objs.size) (compEnvC scope cl P2.objs.size X.env)) (RR (.ref s2.heap.objs.size) P2.objs.size)
   { s2 with heap := h₁, toks := s2.toks + ([] : List (Str × Value)).length } := by
  refine Z6g (fun n s' => ∃ (i : Nat) (ys : List V) (its : List Value) (nn : Nat) (H' : Hp), Inv (Z0w X (bs ++ caps) scope cl P2.objs.size pins fp s2 H2) [(s2.heap.objs.size, { cls := .type "list", data := .seq its.toArray nn })] (blk bs.length js σ) H' s' /\ Vals ys its /\ tn i s'.heap /\ (∀ b ∈ fp, H' b = none) /\ W i n ys H') ?_ m0
   ⟨0, [], [], 0, H2, IY, .nil, T.keep _ _ _ st2 fun b ψ o e => old b o e, fun b hb => (f2 b hb).1, w0⟩
  rintro n s3 ⟨i, ys, its, nn, H3, I3, rv, st3, fr3, w3⟩
  rcases turn i n ys H3 w3 with ⟨stop, hz, hZ⟩ | ⟨go, hz, step⟩
  ·refine thn (T.done (Z0w X (bs ++ caps) scope cl P2.objs.size pins fp s2 H2) rfl rfl rfl hc i _ s3 _ H3 _ I3 (stat fr3) st3 stop) fun r s4 ⟨hr, I4⟩ => ?_
   subst hr
   obtain ⟨q1, q2, q3, q4, _⟩ := I4.pin (s2.heap.objs.size, { cls := .type "list", data := .seq its.toArray nn }) (by simp)
   have JX : Inv X pins σ H3 s4 := I2.call' (ch := fp) I4.os I4.base I4.hok I4.bare fun b hb => let f := f2 b hb; ⟨f.2.2.2.1, f.2.1, f.2.2.2.2.1, f.2.2.2.2.2⟩
   have JD : Inv X pins σ (upd H3 s2.heap.objs.size (.lst ys)) s4 := JX.adopt (fD q2) ⟨hz, its, nn, rv, q1⟩
   obtain ⟨mC, hnC, _⟩ := I4.loc
   exact hR _ _ s4 H3 ys mC JD q2 (fC (by rw [Z06 (Ne.symm hDC)]; exact I4.free)) hnC hZ
  ·refine thn (T.item (Z0w X (bs ++ caps) scope cl P2.objs.size pins fp s2 H2) rfl rfl rfl hc i _ s3 _ H3 _ I3 (stat fr3) st3 go) fun r s4 ⟨u, hr, h4⟩ => ?_
   subst hr
   refine thn h4 fun _ s5 ⟨x, H5, I5, r5, y5, st5, fr5⟩ => ?_
   have I5' := I5.pinned (stat fr5) (T.obj _ _ st5)
   refine thn (hg _ _ _ _ _ _ s5 _ H5 x u _ I5' r5 (step x H5 y5)) fun _ s6 ⟨σ6, H6, I6, q6⟩ => ?_
   refine thn (ht _ _ _ _ _ _ s6 σ6 H6 _ I6 q6) fun ok s7 ⟨H7, I7, q7⟩ => ?_
   have back : ∀ {σ8 : St} {H8 : Hp} {s8 : Shared}, Inv (Z0w X (bs ++ caps) scope cl P2.objs.size pins fp s2 H2) ([(s2.heap.objs.size, { cls := .type "list", data := .seq its.toArray nn })] ++ Z63 fp s5.heap) σ8 H8 s8 -> tn (i + 1) s8.heap /\ ∀ b ∈ fp, H8 b = none := fun {σ8 H8 s8} I8 =>
    ⟨T.keep _ _ _ st5 fun b hb o e => (I8.pin (b, o) (List.mem_append_right _ (List.mem_append_right _ (Z27 hb e)))).1, fun b hb => by
     obtain ⟨o, e, d⟩ := T.obj _ _ st5 b hb
     exact (I8.pin (b, o) (List.mem_append_right _ (List.mem_append_right _ (Z27 hb e)))).2.1⟩
   have base : ∀ {σ8 : St} {H8 : Hp} {s8 : Shared} {o : Obj}, Inv (Z0w X (bs ++ caps) scope cl P2.objs.size pins fp s2 H2) [(s2.heap.objs.size, o)] σ8 H8 s8 -> Inv (Z0w X (bs ++ caps) scope cl P2.objs.size pins fp s2 H2) [(s2.heap.objs.size, o)] (blk bs.length js σ) H8 s8 := fun {σ8 H8 s8 o} I8 => by
    obtain ⟨mC, hnC, _⟩ := I8.loc
    refine ⟨I8.ok, I8.os, I8.bare, I8.base, ⟨mC, hnC, fun i x v e1 e2 e3 => ?_⟩, I8.cell, I8.free, I8.freeC, I8.pin, I8.hok, IY.len⟩
    obtain ⟨u, r, l⟩ := IY.loc.choose_spec.2 i x v e1 e2 e3
    have hl0 := IY.loc.choose_spec.1
    refine ⟨u, r, ?_⟩
    rcases l with ⟨k, z⟩ | ⟨k, a, z, ob, eo, d⟩
    ·have hb : ¬ i < bs.length := fun hi => by
      have e2' : (List.replicate bs.length none ++ _)[i]? = some (some v) := e2
      rw [List.getElem?_append_left (by simpa using hi), List.getElem?_replicate, if_pos hi] at e2'
      cases e2'
     have e1' : (bs ++ caps)[i]? = some x := e1
     rw [List.getElem?_append_right (by lia)] at e1'
     have e2' : (List.replicate bs.length none ++ js.map fun j => (σ[j]?).getD none)[i]? = some (some v) := e2
     rw [List.getElem?_append_right (by simpa using hb), List.length_replicate] at e2'
     obtain ⟨j, q1, q2, q3, q4, q5⟩ := c.cap.get e1' e2'
     have k' : (relabel scope X.env).names.lookup x = some .local := k
     rcases q5 with y | y <;> (rw [y] at k'; cases k')
    ·
     obtain ⟨v8, o8, e8, d8⟩ := I8.cell x a z
     obtain ⟨vX, oX, eX, dX⟩ := I2.cell x a (c.sub _ _ z)
     have h8 := I8.base.any eX (I2.freeC x a (c.sub _ _ z)) (fun hx => (f2 a hx).2.2.2.2.1 x a (c.sub _ _ z) rfl)
     obtain ⟨sl, h8⟩ := h8
     have eo' : h₁.get? a = some oX := old _ _ eX
     have eo2 : h₁.get? a = some ob := eo
     rw [eo'] at eo2
     cases eo2
     exact .inr ⟨k, a, z, _, h8, d⟩
   cases ok with
   | false =>
    obtain ⟨m', hm, w7⟩ := q7
    obtain ⟨st7, fr7⟩ := back I7
    exact ⟨m', hm, i + 1, ys, its, nn, H7, base I7.unpinned, rv, st7, fr7, w7⟩
   | true =>
    refine thn (he _ _ _ _ _ _ s7 σ6 H7 _ I7 q7) fun y s8 ⟨v, H8, I8, r8, m', hm, w8⟩ => ?_
    obtain ⟨st8, fr8⟩ := back I8
    have I8' := I8.unpinned
    obtain ⟨q1, q2, q3, q4, _⟩ := I8'.pin (s2.heap.objs.size, { cls := .type "list", data := .seq its.toArray nn }) (by simp)
    refine PySem.wpAny_list_append_plain (items := its.toArray) (hsz := by rw [List.size_toArray, <- rv.length]; exact hz) ⟨_, q1⟩ fun h9 hl9 hs9 => ?_
    obtain ⟨n9, e9⟩ := hl9
    have I80 : Inv (Z0w X (bs ++ caps) scope cl P2.objs.size pins fp s2 H2) [] σ6 H8 s8 := I8'.pins_of fun p hp => absurd hp (by simp)
    have I9 : Inv (Z0w X (bs ++ caps) scope cl P2.objs.size pins fp s2 H2) [] σ6 H8 { s8 with heap := h9, toks := s8.toks } := I80.turned (it := s2.heap.objs.size) (fun b o hb e => (hs9.2 b hb).trans e) q2 q3 (.inr (Nat.le_refl _))
     (fun x a h z => by
      obtain ⟨v', ob, eo, _⟩ := I2.cell x a (c.sub _ _ h)
      exact absurd (Heap.lt_size eo) (by rw [z]; exact Nat.lt_irrefl _))
     (fun p hp z => by
      have hp' : p ∈ X.pn ++ pins := (List.mem_append.mp hp).elim (fun z => z) fun z => absurd z (by simp)
      exact absurd (Heap.lt_size (I2.pin p hp').1) (by rw [z]; exact Nat.lt_irrefl _))
    have ea : its.toArray.push y = (its ++ [y]).toArray := by simp
    rw [ea] at e9
    have I10 : Inv (Z0w X (bs ++ caps) scope cl P2.objs.size pins fp s2 H2) [(s2.heap.objs.size, { cls := .type "list", data := .seq (its ++ [y]).toArray n9 })] σ6 H8 { s8 with heap := h9 } := I9.pins_of fun p hp => by
     have z' : p = (s2.heap.objs.size, { cls := .type "list", data := .seq (its ++ [y]).toArray n9 }) := by simpa using hp
     subst z'
     refine ⟨e9, q2, q3, q4, fun v' y' => ?_⟩
     have y2 : Data.seq _ _ = Data.cell v' := y'
     cases y2
    have hDf : s2.heap.objs.size ∉ fp := fun hb => by
     obtain ⟨o', e'⟩ := ob2 _ hb
     exact absurd (Heap.lt_size e') (Nat.lt_irrefl _)
    exact ⟨m', hm, i + 1, ys ++ [v], its ++ [y], n9, H8, base I10, rv.append (.cons r8 .nil), T.keep _ _ _ st8 fun b hb o e => (hs9.2 b (fun z => hDf (z ▸ hb))).trans e, fr8, w8⟩
 exact codeAny_compStart_list loop (T.self _ 0 _ _ _ (T.keep _ _ _ st2 fun b ψ o e => old b o e) loop)
theorem Zi5 (hc : X.calm = true) (c : Z6h X scope cl js caps) (hi : PI X tg iter wi)
  (hg : ∀ C pins fp s2 H2, PG (Z0w X (bs ++ caps) scope cl C pins fp s2 H2) tg g) (ht : ∀ C pins fp s2 H2, PTs (Z0w X (bs ++ caps) scope cl C pins fp s2 H2) ifs tc) (he : ∀ C pins fp s2 H2, PE (Z0w X (bs ++ caps) scope cl C pins fp s2 H2) elt te)
  (hs : ∀ x, foldedSetIterable iter X.env x = pure x := by intro ψ; rfl) : PE X (.ListComp elt [⟨tg, iter, ifs, 0⟩] scope pos) (Zlq wi bs.length js g tc te) := by
 intro pins s σ H Q I h
 rw [eval_ListComp]
 refine wpAny_comprehension_free (use := none) rfl hs c.clos c.kind c.names (thn (hi pins s σ H _ I h) fun v s1 h1 => thn h1 fun itv s2 h2 => ?_)
 obtain ⟨it, fp, tn, J, H2, e, I2, T, st2, f2, W, ⟨m0, w0⟩, turn⟩ := h2
 subst e
 refine Zbe (RR := fun acc C => compPost (model X.prog X.w) X.A X.xe none (EP X pins σ Q) acc C) (Z := fun ys H => ∀ p, H p = none -> Q (.ref p) (upd H p (.lst ys))) hc c hg ht he I2 T st2 f2 W w0 turn fun D C s4 H3 ys mC J4 hD fC hnC hZ => ?_
 refine ⟨mC, hnC, fun h' hs' => ⟨.ref D, upd H3 D (.lst ys), ?_, rfl, hZ D hD⟩⟩
 exact J4.turned (t' := s4.toks) (it := C) (fun b o hb e => (hs'.2 b hb).trans e) fC.1 fC.2.1 fC.2.2.2.1 fC.2.2.2.2.1 fC.2.2.2.2.2
end
section
variable {X : Cx}
def Zi6 (i j : Int) : Prop := 0 < j /\ j.natAbs < 2 ^ 9000
theorem Z6i {n : Nat} (h0 : 0 < n) (h : n < 2 ^ 9000) : n.log2 < 9000 := (Nat.log2_lt (Nat.ne_of_gt h0)).mpr h
theorem Zee : OpR X (binaryOp .FloorDiv) (rI Zi6 fun i j => .int (i / j)) := opI fun i j ψ ψ ψ ψ ψ hc q => by
 have h1 : (0 : Int) < j := hc.1
 exact floordiv_int (by lia) (by rw [Int.fdiv_eq_ediv_of_nonneg i (by lia)]; exact q) (.inl (PyProof.noPylong_of_log2 (Z6i (by lia) hc.2)))
theorem Z4j {i : Int} (h : i.natAbs < 2 ^ 9000) : Builtin.Int.intBits i <= 2 ^ 20 := by
 unfold Builtin.Int.intBits
 split
 ·exact Nat.zero_le _
 ·have h2 : i.natAbs.log2 < 9000 := by
   rcases Nat.eq_zero_or_pos i.natAbs with h0 | hp
   ·rw [h0]; decide
   ·exact Z6i hp h
  have e : (2 : Nat) ^ 20 = 1048576 := by decide
  lia
def Zbf (i j : Int) : Prop := (-(2 ^ 64) < i /\ i < 2 ^ 64) \/ (-(2 ^ 64) < j /\ j < 2 ^ 64) \/ (i.natAbs < 2 ^ 9000 /\ j.natAbs < 2 ^ 9000)
theorem Zbf.ok {i j : Int} (h : Zbf i j) : IntMulOk i j := by
 rcases h with ⟨h1, h2⟩ | ⟨h1, h2⟩ | ⟨h1, h2⟩
 ·exact .of_left (intBits_le_64 h1 h2)
 ·exact .of_right (intBits_le_64 h1 h2)
 ·exact .of_bits (Z4j h1) (Z4j h2)
theorem Zi7 : OpR X (binaryOp .Mult) (rI Zbf fun i j => .int (i * j)) := opI fun ψ ψ ψ ψ ψ ψ ψ hc q => mul_int q hc.ok
end
inductive D where
 | non | bl (b : Bool) | int (i : Int) | str (x : Str) | tup (xs : List D)
mutual
def DV (K : L2.Fg) (H : Hp) : D -> V -> Prop
 | .non, v => v = .non
 | .bl b, v => v = .bl b
 | .int i, v => v = .int i
 | .str x, v => v = .str x
 | .tup ds, v => ∃ a xs, v = .ref a /\ SqT K H a xs /\ DVs K H ds xs
def DVs (K : L2.Fg) (H : Hp) : List D -> List V -> Prop
 | [], vs => vs = []
 | d :: ds, vs => ∃ v r, vs = v :: r /\ DV K H d v /\ DVs K H ds r
end
mutual
def D.eq : D -> D -> Bool
 | .non, .non => true
 | .bl a, .bl b => a == b
 | .bl a, .int b => (if a then 1 else 0) == b
 | .int a, .bl b => a == (if b then 1 else 0)
 | .int a, .int b => a == b
 | .str a, .str b => a == b
 | .tup xs, .tup ys => D.eqs xs ys
 | _, _ => false
def D.eqs : List D -> List D -> Bool
 | [], [] => true
 | x :: xs, y :: ys => D.eq x y && D.eqs xs ys
 | _, _ => false
end
mutual
def D.depth : D -> Nat
 | .tup xs => D.depths xs + 1
 | _ => 0
def D.depths : List D -> Nat
 | [] => 0
 | x :: xs => max (D.depth x) (D.depths xs)
end
theorem DVs.length {K : L2.Fg} {H : Hp} : ∀ {ds : List D} {vs : List V}, DVs K H ds vs -> ds.length = vs.length
 | [], vs, h => by rw [DVs] at h; subst h; rfl
 | d :: ds, vs, h => by
  rw [DVs] at h
  obtain ⟨v, r, rfl, _, h2⟩ := h
  simp [DVs.length h2]
theorem DVs.get {K : L2.Fg} {H : Hp} : ∀ {ds : List D} {vs : List V} {j : Nat} {d : D}, DVs K H ds vs -> ds[j]? = some d -> ∃ v, vs[j]? = some v /\ DV K H d v
 | [], vs, j, d, h, e => by simp at e
 | d' :: ds, vs, j, d, h, e => by
  rw [DVs] at h
  obtain ⟨v, r, rfl, h1, h2⟩ := h
  cases j with
  | zero => simp at e; subst e; exact ⟨v, rfl, h1⟩
  | succ j =>
   obtain ⟨v', e', h'⟩ := DVs.get (j := j) h2 (by simpa using e)
   exact ⟨v', by simpa using e', h'⟩
theorem Zef (n : Nat) (e : Nat -> Bool) : (List.range (n + 1)).all e = (e 0 && (List.range n).all fun j => e (j + 1)) := by
 rw [List.range_succ_eq_map, List.all_cons, List.all_map]
 rfl
theorem Z2u : ∀ (xs ys : List D), D.eqs xs ys = ((List.range (min xs.length ys.length)).all (fun j => D.eq (xs.getD j .non) (ys.getD j .non)) && xs.length == ys.length)
 | [], [] => by simp [D.eqs]
 | [], y :: ys => by simp [D.eqs]
 | x :: xs, [] => by simp [D.eqs]
 | x :: xs, y :: ys => by
  rw [D.eqs, Z2u xs ys]
  have e : min (x :: xs).length (y :: ys).length = min xs.length ys.length + 1 := by simp only [List.length_cons]; lia
  rw [e, Zef]
  simp [Bool.and_assoc]
section
variable {X : Cx} {pins : L2.AO} {σ : St} {H : Hp} {s : Shared}
theorem Z1e (A : Around) : A.in1.units = A.units + 1 := rfl
mutual
theorem Zgh (I : Inv X pins σ H s) : ∀ (d e : D) (x : V), DV X.K H d x -> DV X.K H e x -> D.eq d e = true
 | .non, e, x, hx, hy => by
  rw [DV] at hx; subst hx
  cases e with
  | tup b => rw [DV] at hy; obtain ⟨p, ys, z, _⟩ := hy; cases z
  | _ => rw [DV] at hy; first | rfl | cases hy
 | .bl a, e, x, hx, hy => by
  rw [DV] at hx; subst hx
  cases e with
  | tup b => rw [DV] at hy; obtain ⟨p, ys, z, _⟩ := hy; cases z
  | bl b => rw [DV] at hy; cases hy; rw [D.eq]; exact beq_self_eq_true _
  | _ => rw [DV] at hy; cases hy
 | .int a, e, x, hx, hy => by
  rw [DV] at hx; subst hx
  cases e with
  | tup b => rw [DV] at hy; obtain ⟨p, ys, z, _⟩ := hy; cases z
  | int b => rw [DV] at hy; cases hy; rw [D.eq]; exact beq_self_eq_true _
  | _ => rw [DV] at hy; cases hy
 | .str a, e, x, hx, hy => by
  rw [DV] at hx; subst hx
  cases e with
  | tup b => rw [DV] at hy; obtain ⟨p, ys, z, _⟩ := hy; cases z
  | str b => rw [DV] at hy; cases hy; rw [D.eq]; exact beq_self_eq_true _
  | _ => rw [DV] at hy; cases hy
 | .tup ds, e, x, hx, hy => by
  rw [DV] at hx
  obtain ⟨a, xs, rfl, ha, hxs⟩ := hx
  cases e with
  | tup es =>
   rw [DV] at hy
   obtain ⟨b, ys, z, hb, hys⟩ := hy
   cases z
   have e1 := I.tuple_inj ha hb
   subst e1
   rw [D.eq]
   exact Zbg I ds es xs hxs hys
  | _ => rw [DV] at hy; cases hy
theorem Zbg (I : Inv X pins σ H s) : ∀ (ds es : List D) (xs : List V), DVs X.K H ds xs -> DVs X.K H es xs -> D.eqs ds es = true
 | [], es, xs, hx, hy => by
  rw [DVs] at hx; subst hx
  cases es with
  | nil => rfl
  | cons e es => rw [DVs] at hy; obtain ⟨v, r, z, _⟩ := hy; cases z
 | d :: ds, es, xs, hx, hy => by
  rw [DVs] at hx
  obtain ⟨x, xr, rfl, hx1, hx2⟩ := hx
  cases es with
  | nil => rw [DVs] at hy; cases hy
  | cons e es =>
   rw [DVs] at hy
   obtain ⟨y, yr, z, hy1, hy2⟩ := hy
   cases z
   rw [D.eqs, Zgh I d e x hx1 hy1, Zbg I ds es xr hx2 hy2]
   rfl
end
mutual
theorem Zgi (I : Inv X pins σ H s) : ∀ (d e : D) (A : Around) (x y : V) (u v : Value), RelV x u -> RelV y v -> DV X.K H d x -> DV X.K H e y -> A.units + d.depth < cLine -> SeqAt.EqAt A s u v (D.eq d e)
 | .non, e, A, x, y, u, v, rx, ry, hx, hy, hu => by
  rw [DV] at hx; subst hx
  cases e with
  | non => rw [DV] at hy; subst hy; exact Z17 rx ry rfl rfl
  | bl b => rw [DV] at hy; subst hy; exact Z17 rx ry rfl rfl
  | int b => rw [DV] at hy; subst hy; exact Z17 rx ry rfl rfl
  | str b => rw [DV] at hy; subst hy; exact Z17 rx ry rfl rfl
  | tup b =>
   rw [DV] at hy
   obtain ⟨p, ys, rfl, hp, _⟩ := hy
   cases rx; cases ry
   obtain ⟨its, _, pt, _⟩ := I.tuple hp
   exact SeqAt.EqAt.none_tuple (show s.heap.IsTuple p its.toArray from pt) (by lia)
 | .bl a, e, A, x, y, u, v, rx, ry, hx, hy, hu => by
  rw [DV] at hx; subst hx
  cases e with
  | non => rw [DV] at hy; subst hy; exact Z17 rx ry rfl rfl
  | bl b => rw [DV] at hy; subst hy; exact Z17 rx ry rfl rfl
  | int b => rw [DV] at hy; subst hy; exact Z17 rx ry rfl rfl
  | str b => rw [DV] at hy; subst hy; exact Z17 rx ry rfl rfl
  | tup b =>
   rw [DV] at hy
   obtain ⟨p, ys, rfl, hp, _⟩ := hy
   cases rx; cases ry
   obtain ⟨its, _, pt, _⟩ := I.tuple hp
   exact SeqAt.EqAt.bool_tuple a (show s.heap.IsTuple p its.toArray from pt) (by lia)
 | .int a, e, A, x, y, u, v, rx, ry, hx, hy, hu => by
  rw [DV] at hx; subst hx
  cases e with
  | non => rw [DV] at hy; subst hy; exact Z17 rx ry rfl rfl
  | bl b => rw [DV] at hy; subst hy; exact Z17 rx ry rfl rfl
  | int b => rw [DV] at hy; subst hy; exact Z17 rx ry rfl rfl
  | str b => rw [DV] at hy; subst hy; exact Z17 rx ry rfl rfl
  | tup b =>
   rw [DV] at hy
   obtain ⟨p, ys, rfl, hp, _⟩ := hy
   obtain ⟨t, rfl⟩ := rx
   cases ry
   obtain ⟨its, _, pt, _⟩ := I.tuple hp
   exact SeqAt.EqAt.int_tuple a t (show s.heap.IsTuple p its.toArray from pt) (by lia)
 | .str a, e, A, x, y, u, v, rx, ry, hx, hy, hu => by
  rw [DV] at hx; subst hx
  cases e with
  | non => rw [DV] at hy; subst hy; exact Z17 rx ry rfl rfl
  | bl b => rw [DV] at hy; subst hy; exact Z17 rx ry rfl rfl
  | int b => rw [DV] at hy; subst hy; exact Z17 rx ry rfl rfl
  | str b => rw [DV] at hy; subst hy; exact Z17 rx ry rfl rfl
  | tup b =>
   rw [DV] at hy
   obtain ⟨p, ys, rfl, hp, _⟩ := hy
   obtain ⟨t, rfl⟩ := rx
   cases ry
   obtain ⟨its, _, pt, _⟩ := I.tuple hp
   exact SeqAt.EqAt.str_tuple a t (show s.heap.IsTuple p its.toArray from pt) (by lia)
 | .tup ds, e, A, x, y, u, v, rx, ry, hx, hy, hu => by
  rw [DV] at hx
  obtain ⟨a, xs, rfl, ha, hxs⟩ := hx
  cases rx
  obtain ⟨its, r1, pt, _⟩ := I.tuple ha
  have hu' : A.units + (D.depths ds + 1) < cLine := by rw [D.depth] at hu; exact hu
  cases e with
  | non => rw [DV] at hy; subst hy; cases ry; exact SeqAt.EqAt.tuple_none (show s.heap.IsTuple a its.toArray from pt) (by lia)
  | bl b => rw [DV] at hy; subst hy; cases ry; exact SeqAt.EqAt.tuple_bool b (show s.heap.IsTuple a its.toArray from pt) (by lia)
  | int b => rw [DV] at hy; subst hy; obtain ⟨t, rfl⟩ := ry; exact SeqAt.EqAt.tuple_int b t (show s.heap.IsTuple a its.toArray from pt) (by lia)
  | str b => rw [DV] at hy; subst hy; obtain ⟨t, rfl⟩ := ry; exact SeqAt.EqAt.tuple_str b t (show s.heap.IsTuple a its.toArray from pt) (by lia)
  | tup es =>
   rw [DV] at hy
   obtain ⟨b, ys, rfl, hb, hys⟩ := hy
   cases ry
   obtain ⟨its2, r2, pt2, _⟩ := I.tuple hb
   by_cases hab : a = b
   ·subst hab
    have e1 := Zgh I (.tup ds) (.tup es) (.ref a) (by rw [DV]; exact ⟨a, xs, rfl, ha, hxs⟩) (by rw [DV]; exact ⟨a, ys, rfl, hb, hys⟩)
    rw [e1]
    exact SeqAt.EqAt.same _
   ·have key := SeqAt.RcAt.tuples (A := A) (e := fun j => D.eq (ds.getD j .non) (es.getD j .non)) (show s.heap.IsTuple a its.toArray from pt) (show s.heap.IsTuple b its2.toArray from pt2) (by lia) fun j h1 h2 => ?_
    ·have l1 := hxs.length
     have l2 := hys.length
     have l3 := r1.length
     have l4 := r2.length
     refine SeqAt.EqAt.of_refs hab ?_
     rw [D.eq, Z2u]
     rw [List.size_toArray, List.size_toArray, <- l3, <- l4, <- l1, <- l2] at key
     exact key
    ·exact Z2v I ds es A.in1 xs ys its its2 r1 r2 hxs hys (by rw [Z1e]; lia) j (by simpa using h1) (by simpa using h2)
theorem Z2v (I : Inv X pins σ H s) : ∀ (ds es : List D) (A : Around) (xs ys : List V) (us vs : List Value), Vals xs us -> Vals ys vs -> DVs X.K H ds xs -> DVs X.K H es ys -> A.units + D.depths ds < cLine ->
  ∀ j (h1 : j < us.length) (h2 : j < vs.length), SeqAt.EqAt A s us[j] vs[j] (D.eq (ds.getD j .non) (es.getD j .non))
 | [], _, _, xs, _, us, _, r1, _, hx, _, _ => fun j h1 ψ => by
  rw [DVs] at hx; subst hx
  cases r1
  simp at h1
 | d :: ds, [], _, _, ys, _, vs, _, r2, _, hy, _ => fun j ψ h2 => by
  rw [DVs] at hy; subst hy
  cases r2
  simp at h2
 | d :: ds, e :: es, A, xs, ys, us, vs, r1, r2, hx, hy, hu => fun j h1 h2 => by
  rw [DVs] at hx hy
  obtain ⟨x, xr, rfl, hx1, hx2⟩ := hx
  obtain ⟨y, yr, rfl, hy1, hy2⟩ := hy
  rw [D.depths] at hu
  cases r1 with
  | cons q1 t1 =>
   cases r2 with
   | cons q2 t2 =>
    cases j with
    | zero => exact Zgi I d e A x y _ _ q1 q2 hx1 hy1 (by lia)
    | succ j => exact Z2v I ds es A xr yr _ _ t1 t2 hx2 hy2 (by lia) j (by simpa using h1) (by simpa using h2)
end
end
section
variable {X : Cx}
def rEqT (K : L2.Fg) (neg : Bool) : R2 := fun x y H Q => ∃ ds es, DV K H (.tup ds) x /\ DV K H (.tup es) y /\ D.depths ds <= 40 /\ Q (.bl (if neg then !D.eqs ds es else D.eqs ds es)) H
theorem Zlr (hu : X.A.units + 64 < cLine) : OpR X (compareOp .Eq) (rEqT X.K false) := by
 intro pins s σ H x y v u Q I rx ry h
 obtain ⟨ds, es, hx, hy, hd, q⟩ := h
 rw [DV] at hx hy
 obtain ⟨a, xs, rfl, ha, hxs⟩ := hx
 obtain ⟨b, ys, rfl, hb, hys⟩ := hy
 cases rx; cases ry
 obtain ⟨its, r1, pt, _⟩ := I.tuple ha
 obtain ⟨its2, r2, pt2, _⟩ := I.tuple hb
 refine SeqAt.eq_tupleAt (e := fun j => D.eq (ds.getD j .non) (es.getD j .non)) (show s.heap.IsTuple a its.toArray from pt) (show s.heap.IsTuple b its2.toArray from pt2) (by lia) (fun j h1 h2 => ?_) ⟨.bl _, H, I, rfl, ?_⟩
 ·exact Z2v I ds es X.A.in1 xs ys its its2 r1 r2 hxs hys (by rw [Z1e]; lia) j (by simpa using h1) (by simpa using h2)
 ·rw [List.size_toArray, List.size_toArray, <- r1.length, <- r2.length, <- hxs.length, <- hys.length, <- Z2u]
  exact q
theorem Zls (hu : X.A.units + 64 < cLine) : OpR X (compareOp .NotEq) (rEqT X.K true) := by
 intro pins s σ H x y v u Q I rx ry h
 obtain ⟨ds, es, hx, hy, hd, q⟩ := h
 rw [DV] at hx hy
 obtain ⟨a, xs, rfl, ha, hxs⟩ := hx
 obtain ⟨b, ys, rfl, hb, hys⟩ := hy
 cases rx; cases ry
 obtain ⟨its, r1, pt, _⟩ := I.tuple ha
 obtain ⟨its2, r2, pt2, _⟩ := I.tuple hb
 refine SeqAt.RcNeAt.tuples (e := fun j => D.eq (ds.getD j .non) (es.getD j .non)) (show s.heap.IsTuple a its.toArray from pt) (show s.heap.IsTuple b its2.toArray from pt2) (by lia) (fun j h1 h2 => ?_) X.prog X.w X.xe _ ⟨.bl _, H, I, rfl, ?_⟩
 ·exact Z2v I ds es X.A.in1 xs ys its its2 r1 r2 hxs hys (by rw [Z1e]; lia) j (by simpa using h1) (by simpa using h2)
 ·rw [List.size_toArray, List.size_toArray, <- r1.length, <- r2.length, <- hxs.length, <- hys.length, <- Z2u]
  exact q
def rEqL (K : L2.Fg) (neg : Bool) : R2 := fun x y H Q => ∃ a b xs ys ds es, x = .ref a /\ y = .ref b /\ SqL K H a xs /\ SqL K H b ys /\ DVs K H ds xs /\ DVs K H es ys /\ D.depths ds <= 40 /\ Q (.bl (if neg then !D.eqs ds es else D.eqs ds es)) H
theorem Z7w : ∀ {xs ys : List D}, xs.length ≠ ys.length -> D.eqs xs ys = false
 | [], [], h => absurd rfl h
 | [], _ :: _, _ => rfl
 | _ :: _, [], _ => rfl
 | x :: xs, y :: ys, h => by rw [D.eqs, Z7w (fun z => h (by simp [z])), Bool.and_false]
theorem Zlt (hu : X.A.units + 64 < cLine) : OpR X (compareOp .Eq) (rEqL X.K false) := by
 intro pins s σ H x y v u Q I rx ry h
 obtain ⟨a, b, xs, ys, ds, es, rfl, rfl, ha, hb, hxs, hys, hd, q⟩ := h
 cases rx; cases ry
 obtain ⟨its, r1, pt, _⟩ := I.list ha
 obtain ⟨its2, r2, pt2, _⟩ := I.list hb
 by_cases hl : its.length = its2.length
 ·refine SeqAt.eq_listAt (e := fun j => D.eq (ds.getD j .non) (es.getD j .non)) pt.isList pt2.isList (by simp [hl]) (by lia) (fun j h1 h2 => ?_) ⟨.bl _, H, I, rfl, ?_⟩
  ·exact Z2v I ds es X.A.in1 xs ys its its2 r1 r2 hxs hys (by rw [Z1e]; lia) j (by simpa using h1) (by simpa using h2)
  ·have e := Z2u ds es
   have l1 := hxs.length; have l2 := hys.length; have l3 := r1.length; have l4 := r2.length
   rw [show min ds.length es.length = its.toArray.size by rw [List.size_toArray]; lia, show (ds.length == es.length) = true by rw [beq_iff_eq]; lia, Bool.and_true] at e
   rw [<- e]
   exact q
 ·refine SeqAt.eq_list_lengthsAt pt.isList pt2.isList (by simp [hl]) (by lia) ⟨.bl _, H, I, rfl, ?_⟩
  have e : D.eqs ds es = false := Z7w (by have l1 := hxs.length; have l2 := hys.length; have l3 := r1.length; have l4 := r2.length; lia)
  simp only [Bool.false_eq_true, if_false] at q
  rw [e] at q
  exact q
theorem Zlu (hu : X.A.units + 64 < cLine) : OpR X (compareOp .NotEq) (rEqL X.K true) := by
 intro pins s σ H x y v u Q I rx ry h
 obtain ⟨a, b, xs, ys, ds, es, rfl, rfl, ha, hb, hxs, hys, hd, q⟩ := h
 cases rx; cases ry
 obtain ⟨its, r1, pt, _⟩ := I.list ha
 obtain ⟨its2, r2, pt2, _⟩ := I.list hb
 by_cases hl : its.length = its2.length
 ·refine SeqAt.RcNeAt.lists (e := fun j => D.eq (ds.getD j .non) (es.getD j .non)) pt.isList pt2.isList (by simp [hl]) (by lia) (fun j h1 h2 => ?_) X.prog X.w X.xe _ ⟨.bl _, H, I, rfl, ?_⟩
  ·exact Z2v I ds es X.A.in1 xs ys its its2 r1 r2 hxs hys (by rw [Z1e]; lia) j (by simpa using h1) (by simpa using h2)
  ·have e := Z2u ds es
   have l1 := hxs.length; have l2 := hys.length; have l3 := r1.length; have l4 := r2.length
   rw [show min ds.length es.length = its.toArray.size by rw [List.size_toArray]; lia, show (ds.length == es.length) = true by rw [beq_iff_eq]; lia, Bool.and_true] at e
   rw [<- e]
   exact q
 ·refine SeqAt.RcNeAt.lists_lengths pt.isList pt2.isList (by simp [hl]) (by lia) X.prog X.w X.xe _ ⟨.bl _, H, I, rfl, ?_⟩
  have e : D.eqs ds es = false := Z7w (by have l1 := hxs.length; have l2 := hys.length; have l3 := r1.length; have l4 := r2.length; lia)
  simp only [if_true] at q
  rw [e] at q
  exact q
theorem Z7x : Z0s X (.builtin "isinstance") (fun xs H Q => ∃ x c cv t b, xs = [x, c] /\ (∀ u, RelV c u -> u = cv) /\ TyOf X.K H x t /\ PySem.W.kitOne X.K t cv = some b /\ Q (.bl b) H) := by
 intro pins s σ H xs us Q I r h
 obtain ⟨x, c, cv, t, b, rfl, rc, ty, e, q⟩ := h
 obtain ⟨u, v, rfl, rx, rv⟩ := Ze5 r
 have e2 := rc v rv
 subst e2
 exact Zb4 I rx ty e fun tk => ⟨.bl b, H, I.tok _, rfl, q⟩
end
structure Zeg (F : List Addr) (e : Addr) (oe : Obj) (vs : Array Value) (hd : Value) (h h' : Heap) (T' : Addr) (fl : Value) : Prop where
 keep : ∀ b o, h.get? b = some o -> b ≠ e -> hd ≠ .ref b -> b ∉ F -> h'.get? b = some o
 slot : ∀ b o, h.get? b = some o -> b ∈ F -> ∃ sl, h'.get? b = some { o with slots := sl }
 exc : h'.get? e = some { oe with data := .fields (vs.setIfInBounds 1 (.ref T')) }
 new : h.objs.size <= T'
 ent : ∃ oT ts, h'.get? T' = some oT /\ oT.data = .fields ts /\ ts[3]? = some fl
theorem mapF {o : Obj} {vs : Array Value} (hd : o.data = .fields vs) (f : Array Value -> Array Value) : Obj.mapFields f o = { o with data := .fields (f vs) } := by
 obtain ⟨a, b, c, d⟩ := o
 subst hd
 rfl
section
variable {M : Model} {A : Around} {E : L2.VSP} {s : Shared} {base : Heap} {env : Env} {outer : List Env} {L e : Addr} {oe : Obj} {vs : Array Value} {hd : Value}
theorem Z4k {hn : Bool} {Q : Unit -> Shared -> Prop} (hfr : A.frames = some (env :: outer)) (hl : s.heap.FunFrames base (env :: outer)) (hf : env.frame = some L) (he : s.heap.get? e = some oe) (hdt : oe.data = .fields vs) (h1 : 1 < vs.size) (nf : e ∉ frs (env :: outer))
  (h : ∀ h' T', Zeg (frs (env :: outer)) e oe vs .none s.heap h' T' (rawInt L) -> Q () { s with heap := h' }) :
  wpAny M A (do setField (.ref e) 1 (<- EntryCells.newEntry hd (<- frameOf env) .none (rawInt L) .none (<- entryPlaceOf L hn))) Q E s := by
 refine wpAny_bind (wpAny_frameOf_fun hfr hl hf fun g gs => wpAny_bind (wpAny_entryPlaceOf fun pl ok => ?_))
 unfold EntryCells.newEntry newFields
 refine wpAny_bind (wpAny_newObj_type ?_ (ok.sizeOk5 _ _ _ _ _))
 have sz : g.objs.size = s.heap.objs.size := gs.1
 have ge : g.get? e = some oe := (gs.2.1 e nf).trans he
 have pe := Heap.get?_push_of_some (h := g) { cls := .type "traceback", dict := none, data := .fields ([hd, .ref L, .none, rawInt L, .none] ++ (if pl.isEmpty then List.replicate 6 Value.none else pl)).toArray } ge
 refine wpAny_setField pe hdt h1 (h _ g.objs.size ⟨fun b o eb n1 ψ n3 => ?_, fun b o eb hb => ?_, ?_, Nat.le_of_eq sz.symm, ?_⟩)
 ·rw [Heap.get?_update_other _ _ (Ne.symm n1)]
  exact Heap.get?_push_of_some _ ((gs.2.1 b n3).trans eb)
 ·obtain ⟨sl, q⟩ := gs.2.2 b o eb
  refine ⟨sl, ?_⟩
  rw [Heap.get?_update_other _ _ (fun z : e = b => nf (z.symm ▸ hb))]
  exact Heap.get?_push_of_some _ q
 ·rw [Heap.get?_update_self _ pe (by rw [mapF hdt]; exact Obj.isFreed_of_fields rfl), mapF hdt]
 ·have ne : e ≠ g.objs.size := Nat.ne_of_lt (Heap.lt_size ge)
  refine ⟨_, _, by rw [Heap.get?_update_other _ _ ne]; exact Heap.get?_push_size g rfl, rfl, ?_⟩
  simp
theorem Zbh {Q : Unit -> Shared -> Prop} (hfr : A.frames = some (env :: outer)) (hl : s.heap.FunFrames base (env :: outer)) (hf : env.frame = some L) (he : s.heap.get? e = some oe) (hdt : oe.data = .fields vs) (h1 : vs[1]? = some hd) (nf : e ∉ frs (env :: outer))
  (hh : hd = .none \/ ∃ T oT ts, hd = .ref T /\ T ≠ e /\ T ∉ frs (env :: outer) /\ s.heap.get? T = some oT /\ oT.data = .fields ts /\ ts[3]? = some .none)
  (h : ∀ h' T', Zeg (frs (env :: outer)) e oe vs hd s.heap h' T' (rawInt L) -> Q () { s with heap := h' }) : wpAny M A (noteFrame (.ref e) env) Q E s := by
 have sz1 := (Array.getElem?_eq_some_iff.mp h1).1
 unfold noteFrame
 simp only [hf]
 refine wpAny_bind (wpAny_field he hdt h1 ?_)
 rcases hh with z | ⟨T, oT, ts, z, ne, nF, eT, dT, t3⟩
 ·subst z
  rw [if_neg (by decide)]
  exact Z4k hfr hl hf he hdt sz1 nf h
 ·subst z
  rw [if_pos (show (Value.ref T != Value.none) = true from by simp)]
  refine wpAny_bind (wpAny_field eT dT t3 ?_)
  rw [if_neg (show ¬ ((Value.none == rawInt L) = true) from by simp [rawInt])]
  refine wpAny_bind (wpAny_setField eT dT (Array.getElem?_eq_some_iff.mp t3).1 ?_)
  have oth : ∀ b, b ≠ T -> (s.heap.update T (Obj.mapFields (·.setIfInBounds 3 Value.none))).get? b = s.heap.get? b := fun b hb => Heap.get?_update_other _ _ (Ne.symm hb)
  have szT : (s.heap.update T (Obj.mapFields (·.setIfInBounds 3 Value.none))).objs.size = s.heap.objs.size := by simp [Heap.update]
  have fl : (s.heap.update T (Obj.mapFields (·.setIfInBounds 3 Value.none))).FunFrames base (env :: outer) := hl.of_keeps fun b o eb nfb => ⟨o, (oth b (fun q => by rw [q, eT] at eb; cases eb; exact nfb ts dT)).trans eb, rfl⟩
  refine Z4k (s := { s with heap := s.heap.update T (Obj.mapFields (·.setIfInBounds 3 Value.none)) }) hfr fl hf ((oth e (Ne.symm ne)).trans he) hdt sz1 nf fun h' T' N => h h' T' ⟨fun b o eb n1 n2 n3 => ?_, fun b o eb hb => ?_, N.exc, by have := N.new; rw [szT] at this; exact this, N.ent⟩
  ·exact N.keep b o ((oth b (fun q => n2 (by rw [q]))).trans eb) n1 (fun q => by cases q) n3
  ·exact N.slot b o ((oth b (fun q => nF (q ▸ hb))).trans eb) hb
theorem Z7y {h0 : Heap} {F : List Addr} {T' : Addr} {fl : Value} {Q : Unit -> Shared -> Prop} (h1 : 1 < vs.size) (lt : e < h0.objs.size) (N : Zeg F e oe vs hd h0 s.heap T' fl) (hF : ∀ b ∈ F, b < h0.objs.size) (h : ∀ h', Zeg F e oe vs hd h0 h' T' .none -> Q () { s with heap := h' }) : wpAny M A (setFlight (.ref e) none) Q E s := by
 obtain ⟨oT, ts, eT, dT, t3⟩ := N.ent
 have sz3 := (Array.getElem?_eq_some_iff.mp t3).1
 unfold setFlight
 refine wpAny_bind (wpAny_field N.exc rfl (x := .ref T') (by simp [h1]) ?_)
 rw [if_pos (show (Value.ref T' != Value.none) = true from by simp)]
 have oth : ∀ b, b < h0.objs.size -> (s.heap.update T' (Obj.mapFields (·.setIfInBounds 3 ((none : Option Addr).elim Value.none fun f => rawInt f)))).get? b = s.heap.get? b := fun b hb => Heap.get?_update_other _ _ (Nat.ne_of_gt (Nat.lt_of_lt_of_le hb N.new))
 refine wpAny_setField eT dT sz3 (h _ ⟨fun b o eb n1 n2 n3 => (oth b (Heap.lt_size eb)).trans (N.keep b o eb n1 n2 n3), fun b o eb hb => ?_, (oth e lt).trans N.exc, N.new, ?_⟩)
 ·obtain ⟨sl, q⟩ := N.slot b o eb hb
  exact ⟨sl, (oth b (hF b hb)).trans q⟩
 ·refine ⟨_, _, Heap.get?_update_self _ eT (by rw [mapF dT]; exact Obj.isFreed_of_fields rfl), by rw [mapF dT], ?_⟩
  simp [sz3]
end
structure Flw (H : Hp) (n : Heap) (h : Heap) (e : Addr) (oc : Value) (od : Option Addr) (fresh : Bool) : Prop where
 un : H e = none
 yn : n.get? e = none
 ob : ∃ oe vs hd, h.get? e = some oe /\ oe.cls = oc /\ oe.dict = od /\ oe.data = .fields vs /\ vs[1]? = some hd /\
  (if fresh = true then hd = .none else ∃ T oT ts, hd = .ref T /\ T ≠ e /\ H T = none /\ n.get? T = none /\ h.get? T = some oT /\ oT.data = .fields ts /\ ts[3]? = some .none)
def CX1 (P : Program) (w : World) : CXT := fun outer H s E e s' => ∃ ea H' oc od, e = .ref ea /\ s'.os = s.os /\ AllBare s'.gens /\ Un (frs outer) [] H H' s.heap s'.heap /\ HOk P w H' s'.heap /\ Flw H' s.heap s'.heap ea oc od false /\ E oc od H'
section
variable {X : Cx} {pins : L2.AO} {σ : St} {H : Hp} {s : Shared}
theorem Inv.frmLt (I : Inv X pins σ H s) : ∀ b ∈ frs X.stack, b < s.heap.objs.size := fun b hb => by
 rcases List.mem_cons.mp (I.stkSub b hb) with q | q
 ·rw [q]; exact I.lt
 ·obtain ⟨_, o, e, _⟩ := I.ok.funs.mem q
  exact Nat.lt_of_lt_of_le (Heap.lt_size e) I.sz
theorem Z4l (I : Inv X pins σ H s) {b : Addr} {o : Obj} {vs : Array Value} (e : s.heap.get? b = some o) (d : o.data = .fields vs) : b ∉ frs X.stack := fun hb => by
 obtain ⟨_, o', e', n⟩ := I.stack.mem hb
 rw [e] at e'; cases e'
 exact n vs d
theorem land {env : Env} {outer : List Env} {L e : Addr} {oc : Value} {od : Option Addr} {n : Heap} {fr : Bool} {E : L2.VSP} {Q : Unit -> Shared -> Prop} (I : Inv X pins σ H s) (hle : ∀ b o, n.get? b = some o -> ∃ o', s.heap.get? b = some o') (hst : X.stack = env :: outer) (hf : env.frame = some L) (F : Flw H n s.heap e oc od fr)
  (h : ∀ h', (∀ b o, s.heap.get? b = some o -> n.get? b ≠ none -> b ∉ frs X.stack -> h'.get? b = some o) -> (∀ b o, s.heap.get? b = some o -> b ∈ frs X.stack -> ∃ sl, h'.get? b = some { o with slots := sl }) -> (∀ b u o, H b = some u -> s.heap.get? b = some o -> h'.get? b = some o) ->
   (∀ b o, s.heap.get? b = some o -> (∀ vs, o.data ≠ .fields vs) -> b ∉ frs X.stack -> h'.get? b = some o) -> (∀ p ∈ X.pn ++ pins, n.get? p.1 ≠ none -> h'.get? p.1 = some p.2) -> Flw H n h' e oc od false -> Q () { s with heap := h' }) :
  wpAny (model X.prog X.w) X.A (noteFrame (.ref e) env) (fun ψ s1 => wpAny (model X.prog X.w) X.A (setFlight (.ref e) none) Q E s1) E s := by
 obtain ⟨oe, vs, hd, ge, c, d, dt, h1, hh⟩ := F.ob
 have hfr : X.A.frames = some (env :: outer) := by rw [<- hst]; exact I.ok.frames
 have ffr := I.stack
 rw [hst] at ffr
 have nf : e ∉ frs (env :: outer) := by rw [<- hst]; exact Z4l I ge dt
 have sz1 := (Array.getElem?_eq_some_iff.mp h1).1
 have lt := Heap.lt_size ge
 have hF : ∀ b ∈ frs (env :: outer), b < s.heap.objs.size := by rw [<- hst]; exact I.frmLt
 refine Zbh hfr ffr hf ge dt h1 nf ?_ fun g T' N => ?_
 ·cases fr with
  | true => exact .inl hh
  | false =>
   obtain ⟨T, oT, ts, z, ne, hT, _, eT, dT, t3⟩ := hh
   exact .inr ⟨T, oT, ts, z, ne, by rw [<- hst]; exact Z4l I eT dT, eT, dT, t3⟩
 ·refine Z7y (s := { s with heap := g }) sz1 lt N hF fun g' N' => ?_
  have nh : ∀ b, H b ≠ none -> hd ≠ .ref b := fun b hb z => by
   cases fr with
   | true => rw [show hd = .none from hh] at z; cases z
   | false =>
    obtain ⟨T, oT, ts, z', _, hT, _⟩ := hh
    rw [z'] at z; cases z
    exact hb hT
  have nl : ∀ b, n.get? b ≠ none -> hd ≠ .ref b := fun b hb z => by
   cases fr with
   | true => rw [show hd = .none from hh] at z; cases z
   | false =>
    obtain ⟨T, oT, ts, z', _, _, hT, _⟩ := hh
    rw [z'] at z; cases z
    exact hb hT
  have nd : ∀ b o, s.heap.get? b = some o -> (∀ vs, o.data ≠ .fields vs) -> hd ≠ .ref b := fun b o eb hb z => by
   cases fr with
   | true => rw [show hd = .none from hh] at z; cases z
   | false =>
    obtain ⟨T, oT, ts, z', _, _, _, eT, dT, _⟩ := hh
    rw [z'] at z; cases z
    rw [eT] at eb; cases eb
    exact hb ts dT
  have yn := F.yn
  refine h g' (fun b o eb hb hn => N'.keep b o eb (fun z => hb (by rw [z]; exact yn)) (nl b hb) (by rw [<- hst]; exact hn)) (fun b o eb hb => N'.slot b o eb (by rw [<- hst]; exact hb)) (fun b u o hb eb => N'.keep b o eb (fun z => by rw [z, F.un] at hb; cases hb) (nh b (by rw [hb]; simp)) ?_)
   (fun b o eb hb hn => N'.keep b o eb (fun z => by rw [z, ge] at eb; cases eb; exact hb vs dt) (nd b o eb hb) (by rw [<- hst]; exact hn)) (fun p hp lt => ?_) ⟨F.un, F.yn, _, _, _, N'.exc, c, d, rfl, (by simp [sz1]; rfl), ?_⟩
  ·intro z
   have z2 := I.stkFree b (by rw [hst]; exact z)
   rw [z2] at hb; cases hb
  ·obtain ⟨q1, q2, q3, q4, q5⟩ := I.pin p hp
   refine N'.keep p.1 p.2 q1 (fun z => lt (by rw [z]; exact yn)) (nl p.1 lt) fun z => ?_
   rcases List.mem_cons.mp (I.stkSub p.1 (by rw [hst]; exact z)) with y | y
   ·exact q3 y
   ·exact q4 y
  ·obtain ⟨oT, ts, eT, dT, t3⟩ := N'.ent
   have hn : s.heap.objs.size <= T' := N'.new
   refine ⟨T', oT, ts, rfl, Nat.ne_of_gt (Nat.lt_of_lt_of_le lt hn), I.hok.fresh hn, ?_, eT, dT, t3⟩
   cases z : n.get? T' with
   | none => rfl
   | some o =>
    obtain ⟨o', e'⟩ := hle T' o z
    exact absurd (Nat.lt_of_lt_of_le (Heap.lt_size e') hn) (Nat.lt_irrefl _)
end
theorem Flw.mono {H : Hp} {m n : Heap} {h : Heap} {e : Addr} {oc : Value} {od : Option Addr} {fr : Bool} (F : Flw H n h e oc od fr) (le : ∀ b, n.get? b = none -> m.get? b = none) : Flw H m h e oc od fr := by
 obtain ⟨a, b, oe, vs, hd, e1, e2, e3, e4, e5, e6⟩ := F
 refine ⟨a, le _ b, oe, vs, hd, e1, e2, e3, e4, e5, ?_⟩
 cases fr with
 | true => exact e6
 | false =>
  obtain ⟨T, oT, ts, q1, q2, q3, q4, q5⟩ := e6
  exact ⟨T, oT, ts, q1, q2, q3, le _ q4, q5⟩
section
variable {P : Program} {w : World} {K : L2.Fg} {mg : L2.SV} {base : Heap} {N : List Str} {qual : Str} {scope : Scope} {f : Addr} {cd : Value} {A : Around} {outer : List Env} {s : Shared} {H : Hp} {E : XK}
theorem Zlv {pins : L2.AO} {σ : St} {H' : Hp} {s' : Shared} {n : Heap} {e : Addr} {oc : Value} {od : Option Addr} {fr : Bool} (I : Inv (cxOf (CX1 P w) P w K mg base N qual scope f cd A outer s H E) pins σ H' s')
  (F : Flw H' n s'.heap e oc od fr) (le : ∀ b, n.get? b = none -> s.heap.get? b = none) (hle : ∀ b o, n.get? b = some o -> ∃ o', s'.heap.get? b = some o') (q : E oc od H') : (cxOf (CX1 P w) P w K mg base N qual scope f cd A outer s H E).xe (.ref e) s' := by
 show wpAny (model P w) (A.deeper (envOfC qual scope s.heap.objs.size f cd)) (leaving (envOfC qual scope s.heap.objs.size f cd) (.ref e)) _ _ s'
 unfold leaving
 have hfs : ∀ b, b ∈ frs (envOfC qual scope s.heap.objs.size f cd :: outer) -> b = s.heap.objs.size \/ b ∈ frs outer := fun b hb => List.mem_cons.mp hb
 refine wpAny_bind (land (X := cxOf (CX1 P w) P w K mg base N qual scope f cd A outer s H E) I hle rfl rfl F fun h' k1 k2 k3 k4 k5 F' => ?_)
 have nfr : ∀ b, b < s.heap.objs.size -> b ∉ frs outer -> b ∉ frs (envOfC qual scope s.heap.objs.size f cd :: outer) := fun b hb hn z => by
  rcases hfs b z with y | y
  ·exact absurd hb (by rw [y]; exact Nat.lt_irrefl _)
  ·exact hn y
 have B := I.base
 refine ⟨e, H', oc, od, rfl, I.os, I.bare, ⟨fun b o eb n hb hx => ?_, fun b o eb n hb hx => ?_, fun b o eb n hx => B.free b o eb n hx, fun b o eb hx => ?_, B.tups, B.frzs, B.tbls⟩, fun b u eb => ?_, F'.mono le, q⟩
 ·exact k1 b o (B.keep b o eb n hb hx) (fun z => by rw [le b z] at eb; cases eb) (nfr b (Heap.lt_size eb) hb)
 ·obtain ⟨sl, e1⟩ := B.slot b o eb n hb hx
  obtain ⟨sl', e2⟩ := k2 b _ e1 (List.mem_cons_of_mem _ hb)
  exact ⟨sl', e2⟩
 ·obtain ⟨o', e1⟩ := B.there b o eb hx
  by_cases hb : b ∈ frs outer
  ·obtain ⟨sl', e2⟩ := k2 b _ e1 (List.mem_cons_of_mem _ hb)
   exact ⟨_, e2⟩
  ·exact ⟨o', k1 b o' e1 (fun z => by rw [le b z] at eb; cases eb) (nfr b (Heap.lt_size eb) hb)⟩
 ·refine (I.hok b u eb).stay (fun c v hc r => ?_) (fun ψ r => r) fun ψ ψ r => r
  rcases hc with rfl | hc
  ·exact k3 c _ v eb r
  ·exact k3 c _ v hc r
theorem Zi8 {E1 : XK} (h : ∀ oc od H', E1 oc od H' -> E oc od H') : Z8m (CX1 P w) (cxOf (CX1 P w) P w K mg base N qual scope f cd A outer s H E) E1 := by
 intro pins σ H1 s1 e s' I hx
 obtain ⟨ea, H', oc, od, rfl, os, bare, un, hok, F, q⟩ := hx
 refine Zlv (I.call' (ch := []) os un hok bare fun b z => absurd z (by simp)) F (fun b z => ?_) (fun b o z => un.there b o z (by simp)) (h _ _ _ q)
 cases y : s.heap.get? b with
 | none => rfl
 | some o =>
  obtain ⟨o', e'⟩ := I.base.there b o y (by simp [cxOf])
  rw [z] at e'; cases e'
end
def XP (X : Cx) (pins : L2.AO) (σ : St) (E : XK) (e : Value) (s' : Shared) : Prop := ∃ s0 H0, Inv X pins σ H0 s0 /\ CX1 X.prog X.w X.stack H0 s0 E e s'
section
variable {X : Cx} {pos : Pos} {es : List Expr} {t : TA}
theorem PA.nox {es : List Expr} {t : TA} (h : PA X.nox es t) {Er : L2.VSP} {pos : Pos} {pins : L2.AO} {s : Shared} {σ : St} {H : Hp} {Q : List V -> Hp -> Prop} (I : Inv X pins σ H s) (q : t σ H Q) :
  wpAny (model X.prog X.w) X.A (spliced (backTo pos (starEach es X.env))) (AP X pins σ Q) Er s :=
 wpAny_mono (h pos pins s σ H Q (I.wish _) q) (fun _ _ ⟨vs, H', I', r, q⟩ => ⟨vs, H', I'.unwish, r, q⟩) fun ψ ψ z => False.elim z
end
def excO (e C : Addr) : HO := .ext fun h => ∃ o, h.get? e = some o /\ o.cls = .ref C /\ o.dict = none /\ PySem.W.notCls o = true
theorem Zeh (self : Value) : bindSpecial (.builtin "BaseException.__getattribute__") self = pure (.builtin "BaseException.__getattribute__", [self]) := PySem.F.attr_ValueError.ga.bind self
structure ExcK (K : L2.Fg) (C : Addr) : Prop where
 ga : PySem.W.findIn K (.ref C) "__getattribute__" = some (some (.builtin "BaseException.__getattribute__"))
 hk : PySem.W.findIn K (.ref C) "__getattr__" = some none
 cl : (PySem.W.clsIn K C).isSome = true
 at_ : PySem.W.findIn K (.ref C) "__class__" = some (some (.builtin "object.__class__"))
 gt : PySem.W.specialIn K (.builtin "object.__class__") "__get__" = some (some (.builtin "getset_descriptor.__get__"))
 tk : PySem.W.takesIn K (.builtin "object.__class__") = some true
 mo : PySem.W.mroIn K C (.type "object") = some true
 mb : PySem.W.mroIn K C (.type "BaseException") = some true
section
variable {prog : Program} {w : World} {A : Around} {E : L2.VSP} {s : Shared} {K : L2.Fg} {x C : Addr} {ox : Obj}
theorem Zbi {od : Option Obj} (c : ExcK K C) : PySem.W.findObj K C od "__class__" = some (.bind (.builtin "getset_descriptor.__get__") (.builtin "object.__class__")) := by
 obtain ⟨cd, hc⟩ := Option.isSome_iff_exists.mp c.cl
 unfold PySem.W.findObj
 rw [hc, Option.bind_some, c.at_, Option.bind_some]
 simp [c.gt, c.tk]
theorem Za0 {od : Option Obj} {Q : Option Value -> Shared -> Prop} (c : ExcK K C) (KX : K.In s.heap) (I : PySem.W.InstAt s.heap x ox C od) (h : Q (some (.ref C)) { s with toks := s.toks + 1 }) : wpAny (model prog w) A (getAttr? (.ref x) "__class__") Q E s := by
 obtain ⟨hh, g, d, t, os⟩ := s
 have L0 := I.type (M := model prog w)
 have L1 := PySem.W.looks_findIn (M := model prog w) KX c.ga
 have L2 := PySem.W.looks_findIn (M := model prog w) KX c.hk
 have L3 := PySem.W.looks_find (M := model prog w) KX I (Zbi c)
 have L4 := PySem.W.looks_mroIn (M := model prog w) KX c.mb
 have f3 := Zeh (.ref x)
 unfold getAttr? getAttrBy? getAttrBy
 refine wpAny_bind (wpAny_mkText (wpAny_bind (wpAny_attempt (wpAny_holding (wpAny_bind (L0.at (wpAny_bind (L1.at ?_))))))))
 show wpAny _ _ (getAttrByItsOwn _ _ _ _ _ _) _ _ _
 unfold getAttrByItsOwn hookBefore
 refine wpAny_bind ?_
 show wpAny _ _ (typeLookup (.ref C) "__getattr__") _ _ _
 refine L2.at ?_
 refine wpAny_bind (wpAny_attempt (wpAny_holding ?_))
 unfold callGetattribute boundAndCalled
 rw [if_neg (by decide), f3]
 refine wpAny_bind (wpAny_pure ?_)
 refine wpAny_call (codeAny_call_builtin PySem.F.attr_ValueError.ga.plain PySem.F.entry_bexc_ga ?_)
 have hk : builtinKind "BaseException.__getattribute__" = some .slot := by decide +kernel
 have hsp : splitId "BaseException.__getattribute__" = some ("BaseException", "__getattribute__") := by decide +kernel
 have ha := PySem.F.args_bexc_ga (.ref x) (.str "__class__" t)
 simp only [checkBuiltinCall, hk, hsp]
 refine wpAny_bind ?_
 unfold isInstance
 repeat (any_goals (first | assumption | lk | wp_step))
 refine wpAny_run (PySem.W.class_get (s := ⟨hh, g, d, t + 1, os⟩) KX I c.mo ?_)
 repeat (any_goals (first | assumption | lk | wp_step))
theorem Zbj {Q : Option Value -> Shared -> Prop} (c : ExcK K C) (KX : K.In s.heap) (I : PySem.W.InstAt s.heap x ox C none) (h : Q (some (.ref C)) { s with toks := s.toks + 1 }) : wpAny (model prog w) A (getAttr? (.ref x) "__class__") Q E s := Za0 c KX I h
theorem Z8q (c : ExcK K C) : PySem.W.KitX K (.ref x) (.ref C) (fun h => ∃ ox, PySem.W.InstAt h x ox C none) where
 ty := fun _ _ _ ⟨_, I⟩ => I.type
 it := fun ψ ψ KX ψ => by
  have e := c.cl
  unfold PySem.W.clsIn at e
  split at e
  ·rename_i c' d' cd' sl' ho
   intro A' Q' E' s' k q
   unfold isType loadHead
   exact wpAny_bind (wpAny_loadPart (k _ _ (KX _ _ ho)) (wpAny_pure q))
  ·cases e
 ne := fun h tp dd its n sl KX htp => by
  have e := c.cl
  refine Bool.eq_false_iff.mpr fun q => ?_
  have e2 : C = tp := Value.ref.inj (beq_iff_eq.mp q)
  subst e2
  unfold PySem.W.clsIn at e
  split at e
  ·rename_i c' d' cd' sl' ho
   have z := (KX _ _ ho).symm.trans htp
   cases z
  ·cases e
 ca := fun KX ⟨_, I⟩ k => Zbj c KX I k
end
section
variable {X : Cx}
theorem Z8r {pins : L2.AO} {σ : St} {H : Hp} {s : Shared} {e C : Addr} (I : Inv X pins σ H s) (h : H e = some (excO e C)) : ∃ ox, PySem.W.InstAt s.heap e ox C none := by
 obtain ⟨⟨o, h1, h2, h3, h4⟩, _, _⟩ := I.hok e _ h
 exact ⟨o, h1, h2, h4, by rw [h3]; trivial⟩
theorem Z6j : Z0s X (.builtin "isinstance") (fun xs H Q => ∃ e C c cv b, xs = [.ref e, c] /\ H e = some (excO e C) /\ ExcK X.K C /\ (∀ u, RelV c u -> u = cv) /\ PySem.W.kitOne X.K (.ref C) cv = some b /\ Q (.bl b) H) := by
 intro pins s σ H xs us Q I r h
 obtain ⟨e, C, c, cv, b, rfl, he, ck, rc, k, q⟩ := h
 obtain ⟨u, v, rfl, rx, rv⟩ := Ze5 r
 cases rx
 have e2 := rc v rv
 subst e2
 exact PySem.W.kia_one (Z8q ck) I.kIn (Z8r I he) k (fun z => nomatch z) fun tk => ⟨.bl b, H, I.tok _, rfl, q⟩
theorem Z6k : ∀ {cs : List Addr} {us : List Value}, Vals (cs.map V.ref) us -> us = cs.map Value.ref
 | [], us, r => by rw [List.map_nil] at r; cases r; rfl
 | c :: cs, us, r => by
  rw [List.map_cons] at r
  cases r with
  | cons q t => cases q; rw [Z6k t]; rfl
theorem Z58 : Z0s X (.builtin "isinstance") (fun xs H Q => ∃ (e C tp : Addr) (cs : List Addr) (b : Bool), xs = [.ref e, .ref tp] /\ H e = some (excO e C) /\ ExcK X.K C /\ H tp = some (.tup (cs.map V.ref)) /\ PySem.W.kitAny X.K (.ref C) (cs.map Value.ref) = some b /\ Q (.bl b) H) := by
 intro pins s σ H xs us Q I r h
 obtain ⟨e, C, tp, cs, b, rfl, he, ck, ht, k, q⟩ := h
 obtain ⟨u, v, rfl, rx, rv⟩ := Ze5 r
 cases rx
 cases rv
 obtain ⟨_, its, r1, o, h1, h2, n, h3⟩ := I.hok tp _ ht
 have e1 := Z6k r1
 subst e1
 obtain ⟨oc, od, dt, sl⟩ := o
 dsimp only at h2 h3
 subst h2 h3
 exact PySem.W.kia_tup (Z8q ck) I.kIn (Z8r I he) h1 k (fun z => nomatch z) fun tk => ⟨.bl b, H, I.tok _, rfl, q⟩
end
structure Kp (L : List Addr) (H H' : Hp) : Prop where
 keep : ∀ b o, b ∉ L -> H b = some o -> H' b = some o
 tup : ∀ b xs, H b = some (.tup xs) -> H' b = some (.tup xs)
theorem Kp.refl {L : List Addr} {H : Hp} : Kp L H H := ⟨fun ψ ψ ψ h => h, fun ψ ψ h => h⟩
theorem Kp.trans {L : List Addr} {H H1 H2 : Hp} (a : Kp L H H1) (b : Kp L H1 H2) : Kp L H H2 := ⟨fun c o n h => b.keep c o n (a.keep c o n h), fun c xs h => b.tup c xs (a.tup c xs h)⟩
theorem Kp.new {L : List Addr} {H : Hp} {p : Addr} {o : HO} (n : H p = none) : Kp L H (upd H p o) := ⟨fun b u ψ h => by rw [Z06 (Z0c h n)]; exact h, fun b xs h => by rw [Z06 (Z0c h n)]; exact h⟩
theorem Kp.set {L : List Addr} {H : Hp} {l : Addr} {xs ys : List V} (m : l ∈ L) (h : H l = some (.lst xs)) : Kp L H (upd H l (.lst ys)) :=
 ⟨fun b u n e => by rw [Z06 (fun z : b = l => n (by rw [z]; exact m))]; exact e, fun b zs e => by rw [Z06 (Zkn e h (by intro z; cases z))]; exact e⟩
theorem Kp.get {H H' : Hp} (k : Kp [] H H') {b : Addr} {o : HO} (h : H b = some o) : H' b = some o := k.keep b o (by simp) h
theorem Kp.non {H H' : Hp} (k : Kp [] H H') {b : Addr} (h : H' b = none) : H b = none := by
 cases q : H b with
 | none => rfl
 | some o => rw [k.get q] at h; cases h
def Ints (H : Hp) (v : V) (ns : List Int) : Prop := ∃ a, v = .ref a /\ H a = some (.tup (ns.map V.int))
theorem Ints.kp {L : List Addr} {H H' : Hp} {v : V} {ns : List Int} (h : Ints H v ns) (k : Kp L H H') : Ints H' v ns := let ⟨a, e, q⟩ := h; ⟨a, e, k.tup _ _ q⟩
def Scl (H : Hp) (v : V) (hd rg : List Int) : Prop := ∃ a x y, v = .ref a /\ H a = some (.tup [x, y]) /\ Ints H x hd /\ Ints H y rg
theorem Scl.kp {L : List Addr} {H H' : Hp} {v : V} {hd rg : List Int} (h : Scl H v hd rg) (k : Kp L H H') : Scl H' v hd rg := let ⟨a, x, y, e, q, i, j⟩ := h; ⟨a, x, y, e, k.tup _ _ q, i.kp k, j.kp k⟩
section
variable {X : Cx} {K : L2.Fg} {σ : St} {H : Hp} {Q : VK} {x y : V}
theorem Zi9 {sp : Sp} {E : XK} {tr : TA} (h : tr σ H fun vs H1 => sp vs H1 Q E) : Ze7 sp [] E tr σ H Q := by
 unfold Ze7
 have e : (fun (vs : List V) H1 => sp (vs ++ []) H1 Q E) = fun vs H1 => sp vs H1 Q E := by funext vs H1; rw [List.append_nil]
 rw [e]; exact h
def rIxA (K : L2.Fg) : R2 := fun x y H Q => rIxL K x y H Q \/ rIxT K x y H Q
theorem Zlw : IxR X (rIxA X.K) := Zhy.or Zlj
def rEqA (K : L2.Fg) : R2 := fun x y H Q => rEq x y H Q \/ rEqT K false x y H Q \/ rEqL K false x y H Q
def rNeA (K : L2.Fg) : R2 := fun x y H Q => rNe x y H Q \/ rEqT K true x y H Q \/ rEqL K true x y H Q
theorem Zlx (hu : X.A.units + 64 < cLine) : OpR X (compareOp .Eq) (rEqA X.K) := Zpw.or ((Zlr hu).or (Zlt hu))
theorem Zly (hu : X.A.units + 64 < cLine) : OpR X (compareOp .NotEq) (rNeA X.K) := Zpx.or ((Zls hu).or (Zlu hu))
end
theorem Zei {K : L2.Fg} {H : Hp} : ∀ ns : List Int, DVs K H (ns.map D.int) (ns.map V.int)
 | [] => by rw [List.map_nil, DVs]; rfl
 | n :: ns => by rw [List.map_cons, DVs]; exact ⟨_, _, rfl, by rw [DV], Zei ns⟩
theorem Z3p : ∀ ns : List Int, D.depths (ns.map D.int) = 0
 | [] => by rw [List.map_nil, D.depths]
 | n :: ns => by
  have e : D.depth (.int n) = 0 := by simp [D.depth]
  rw [List.map_cons, D.depths, Z3p ns, e]; rfl
theorem Z8s : ∀ ns ms : List Int, D.eqs (ns.map D.int) (ms.map D.int) = decide (ns = ms)
 | [], [] => by simp [D.eqs]
 | [], m :: ms => by simp [D.eqs]
 | n :: ns, [] => by simp [D.eqs]
 | n :: ns, m :: ms => by
  rw [List.map_cons, List.map_cons, D.eqs, D.eq, Z8s ns ms]
  by_cases h1 : n = m <;> by_cases h2 : ns = ms <;> simp [h1, h2]
structure Fn (P : Program) (w : World) (K : L2.Fg) (mg : L2.SV) (base : Heap) (CX : CXT) (k : Nat) (x : Str) (f : Addr) (fd : FuncData) (ps : List Str) (sp : Sp) : Prop where
 F : FnOk P w K mg base CX k f fd ps sp
 hm : mg x = some (.ref f)
 kp : PySem.W.keepIn K (.ref f) = true
 hb : Z9u K fd ps []
section
variable {P : Program} {w : World} {K : L2.Fg} {mg : L2.SV} {base : Heap}
theorem Fun.okX {x qual : Str} {st : Stmt} {f : Addr} {fd : FuncData} {N ps : List Str} {k : Nat} {sp : Sp} (F : Fun K x qual st f fd) (S : Z0m N ps (Z05 st)) (len : ∀ vs H Q E, sp vs H Q E -> vs.length = ps.length)
  (hbody : ∀ (cdv : Value) (A : Around) (outer : List Env) (s : Shared) (H : Hp) (vs : List V) (Q : VK) (E : XK), Room k (A.deeper (envOfC qual (Z05 st) s.heap.objs.size f cdv)) -> A.handled = none -> sp vs H Q E ->
   ∃ t, PSs (cxOf (CX1 P w) P w K mg base N qual (Z05 st) f cdv A outer s H E) (Z0e st) t /\ t { nx := fun ψ H' => Q .non H', rt := Q } (start N vs) H) : FnOk P w K mg base (CX1 P w) (k + 1) f fd ps sp := by
 obtain ⟨oc, od, kV, doc, pm, an, cdv, ct, osl, rfl, lk, hcd⟩ := F.ex
 exact Zle lk hcd S len fun A outer s H vs Q E hr hsp => hbody cdv A outer s H vs Q E hr hr.hd hsp
theorem PS.nox {X : Cx} {st : Stmt} {t : TS} (h : PS X.nox st t) : PS X st t := fun pins s σ H D I hw =>
 wpAny_mono (h pins s σ H D (I.wish _) hw) (fun ψ ψ q => q.unwish) fun ψ ψ z => False.elim z
end
inductive ClOf (cells : List (Str × Addr)) : List (Str × Addr) -> Prop
 | nil : ClOf cells []
 | cons {y : Str} {c : Addr} {r : List (Str × Addr)} (h : cells.lookup y = some c) (t : ClOf cells r) : ClOf cells ((y, c) :: r)
theorem ClOf.sub {cells : List (Str × Addr)} : ∀ {cl : List (Str × Addr)}, ClOf cells cl -> ∀ y c, cl.lookup y = some c -> cells.lookup y = some c
 | _, .nil, y, c, h => by simp at h
 | _, .cons (y := y') (c := c') q t, y, c, h => by
  rw [List.lookup_cons] at h
  by_cases e : y = y'
  ·subst e
   simp at h
   subst h
   exact q
  ·have e' : (y == y') = false := by simpa using e
   rw [e'] at h
   exact t.sub y c h
theorem Z1n {X : Cx} {scope : Scope} {cl : List (Str × Addr)} {js : List Nat} {caps : List Str} (clos : closureFor scope X.env = pure cl) (a : (scope.names.all fun y => y.2 != .cell) = true) (kind : scope.kind = .function)
  (b : (scope.names.all fun y => y.2 != .local || scope.names.lookup y.1 == some .local) = true) (c : (scope.names.all fun y => y.2 != .free || (cl.lookup y.1).isSome) = true) (d : ClOf X.env.cells cl) (cap : Caps X (relabel scope X.env) cl js caps) : Z6h X scope cl js caps := by
 refine ⟨clos, fun y hy => ?_, kind, fun y hy e => ?_, fun y hy e => ?_, d.sub, cap⟩
 ·have z := List.all_eq_true.mp a y hy
  simpa using z
 ·have z := List.all_eq_true.mp b y hy
  rw [e] at z
  simpa using z
 ·have z := List.all_eq_true.mp c y hy
  rw [e] at z
  simpa using z
section
variable {X : Cx} {K : L2.Fg} {H : Hp} {Q : VK}
theorem cut_to {xs : List V} {k : Int} (h : 0 <= k) : cutV xs none (some k) = xs.take k.toNat := by
 unfold cutV
 have e : HT.sIx xs.length 0 none = 0 := HT.sIx_none _ _
 have e2 : HT.sIx xs.length xs.length (some k) = min k.toNat xs.length := by
  obtain ⟨n, rfl⟩ := Int.eq_ofNat_of_zero_le h
  rw [show ((n : Nat) : Int).toNat = n by simp]
  exact HT.sIx_nat _ _ _
 rw [e, e2, List.drop_zero, Nat.sub_zero]
 rw [<- List.take_eq_take_min]
def rLen (K : L2.Fg) : List V -> Hp -> VK -> Prop := fun xs H Q => ∃ p ys, xs = [.ref p] /\ (SqL K H p ys \/ SqT K H p ys) /\ Q (.int ys.length) H
theorem Zbk : Z0s X (.builtin "len") (rLen X.K) := Z6a
def Zbl (K : L2.Fg) : List V -> Hp -> VK -> Prop := fun xs H Q => ∃ p ys, xs = [.ref p] /\ ((SqL K H p ys /\ ∀ l, H l = none -> Q (.ref l) (upd H l (.tup ys))) \/ (SqT K H p ys /\ Q (.ref p) H))
theorem Zbm : Z0s X (.type "tuple") (Zbl X.K) := Z57
def Zbn (K : L2.Fg) : List V -> Hp -> VK -> Prop := fun xs H Q => ∃ p ys, xs = [.ref p] /\ (SqL K H p ys \/ SqT K H p ys) /\ ∀ l, H l = none -> Q (.ref l) (upd H l (.lst ys))
theorem Zbo : Z0s X (.type "list") (Zbn X.K) := Z6b
def Zlz : List V -> Hp -> VK -> Prop := fun xs H Q => (∃ i, xs = [.int i] /\ Q (.int i) H) \/ ∃ k, xs = [.bl k] /\ Q (.int (if k then 1 else 0)) H
theorem Zbp : Z0s X (.type "int") Zlz := Zb2
def rIsA (K : L2.Fg) : List V -> Hp -> VK -> Prop := fun xs H Q => (∃ x c cv t b, xs = [x, c] /\ (∀ u, RelV c u -> u = cv) /\ TyOf K H x t /\ PySem.W.kitOne K t cv = some b /\ Q (.bl b) H) \/
  (∃ e C c cv b, xs = [.ref e, c] /\ H e = some (excO e C) /\ ExcK K C /\ (∀ u, RelV c u -> u = cv) /\ PySem.W.kitOne K (.ref C) cv = some b /\ Q (.bl b) H) \/
  (∃ (e C tp : Addr) (cs : List Addr) (b : Bool), xs = [.ref e, .ref tp] /\ H e = some (excO e C) /\ ExcK K C /\ H tp = some (.tup (cs.map V.ref)) /\ PySem.W.kitAny K (.ref C) (cs.map Value.ref) = some b /\ Q (.bl b) H)
theorem Z4m {x : V} {t : Value} {n : String} {b : Bool} (ty : TyOf K H x t) (k : PySem.W.kitOne K t (.type n) = some b) (h : Q (.bl b) H) : rIsA K [x, .ty n] H Q := .inl ⟨x, .ty n, .type n, t, b, rfl, fun ψ r => r, ty, k, h⟩
theorem Zej : Z0s X (.builtin "isinstance") (rIsA X.K) := Z7x.or (Z6j.or Z58)
theorem Z59 : ∀ {bs : List Bool} {us : List Value}, Vals (bs.map V.bl) us -> us = bs.map Value.bool
 | [], us, r => by rw [List.map_nil] at r; cases r; rfl
 | c :: cs, us, r => by
  rw [List.map_cons] at r
  cases r with
  | cons q t => cases q; rw [Z59 t]; rfl
end
end L2
namespace L2
open PySem PySem.Spec PyProof.Rows
def Scls (H : Hp) (ps : List (List Int × List Int)) (vs : List V) : Prop := Paired (fun p v => Scl H v p.1 p.2) ps vs
theorem Scls.kp {L : List Addr} {H H' : Hp} (k : Kp L H H') {ps : List (List Int × List Int)} {vs : List V} (h : Scls H ps vs) : Scls H' ps vs := Paired.mapP h fun ψ ψ s => s.kp k
theorem Scls.get {H : Hp} : ∀ {ps : List (List Int × List Int)} {vs : List V} {i : Nat}, Scls H ps vs -> i < ps.length -> ∃ p v, p ∈ ps /\ vs[i]? = some v /\ Scl H v p.1 p.2
 | _, _, _, .nil, h => by simp at h
 | _, _, 0, .cons a t, h => ⟨_, _, List.mem_cons_self, rfl, a⟩
 | _, _, i + 1, .cons a t, h => by
  obtain ⟨p, v, m, e, s⟩ := Scls.get (i := i) t (by simpa using h)
  exact ⟨p, v, List.mem_cons_of_mem _ m, by simpa using e, s⟩
end L2
namespace L2
open PySem
theorem Z2w {es : List Expr} {p : Pos} {t : Option Expr} {l : Nat} {env : Env} : swapsWith (.List es p) t l env = pure false := rfl
theorem Z1k {a b : Expr} {o : Operator} {p : Pos} {t : Option Expr} {l : Nat} {env : Env} : swapsWith (.BinOp a o b p) t l env = pure false := rfl
theorem Z4n {a b : Expr} {p : Pos} {t : Option Expr} {l : Nat} {env : Env} : swapsWith (.Subscript a b p) t l env = pure false := rfl
end L2
namespace L2
open PySem PySem.Spec PyProof.Rows
theorem Z7z {α β : Type} {f : α -> Option β} {g : α -> β} : ∀ {l : List α}, (∀ x ∈ l, f x = some (g x)) -> l.filterMap f = l.map g
 | [], _ => rfl
 | x :: r, h => by rw [List.filterMap_cons, h x (by simp), List.map_cons, Z7z fun y hy => h y (List.mem_cons_of_mem _ hy)]
theorem Zbq (its : List Value) : slicePick its.toArray none none (some (-1)) = its.reverse.toArray := by
 unfold slicePick
 have e1 : (sliceBounds none none (some (-1)) its.toArray.size) = ((its.length : Int) - 1, -1, -1) := by
  simp [sliceBounds]
 rw [e1]
 have e2 : sliceRange ((its.length : Int) - 1) (-1) (-1) = (List.range its.length).map fun k => its.length - 1 - k := by
  unfold sliceRange
  rw [if_neg (by decide)]
  have c : (if ((its.length : Int) - 1) > -1 then (((its.length : Int) - 1) - -1 - -1 - 1) / (- -1) else 0).toNat = its.length := by
   by_cases h : ((its.length : Int) - 1) > -1
   ·rw [if_pos h]; simp
   ·rw [if_neg h]; lia
  simp only [c]
  refine List.map_congr_left fun k hk => ?_
  have := List.mem_range.mp hk
  lia
 rw [e2]
 congr 1
 refine List.ext_getElem? fun i => ?_
 rw [List.filterMap_map]
 have e3 : (List.range its.length).filterMap ((fun x => its.toArray[x]?) ∘ fun k => its.length - 1 - k) = (List.range its.length).map fun k => (its[its.length - 1 - k]?).getD default := by
  refine Z7z fun k hk => ?_
  have := List.mem_range.mp hk
  have lt : its.length - 1 - k < its.length := by lia
  simp [lt]
 rw [e3]
 by_cases hi : i < its.length
 ·rw [List.getElem?_map, List.getElem?_range hi, List.getElem?_reverse hi]
  have lt : its.length - 1 - i < its.length := by lia
  simp [lt]
 ·rw [List.getElem?_eq_none (by simp; lia), List.getElem?_eq_none (by simp; lia)]
section
def rRev (K : L2.Fg) : V -> Option Int -> Hp -> VK -> Prop := fun x st H Q => ∃ a xs, x = .ref a /\ st = some (-1) /\ SqL K H a xs /\ ∀ p, H p = none -> Q (.ref p) (upd H p (.lst xs.reverse))
end
section
variable {X : Cx} {K : L2.Fg}
theorem Zek (h : X.K = K) : Z0s X (.builtin "isinstance") (rIsA K) := h ▸ Zej
theorem Z6l (h : X.K = K) : Z0s X (.builtin "len") (rLen K) := h ▸ Zbk
theorem Z2x (h : X.K = K) : IxR X (rIxA K) := h ▸ Zlw
end
theorem Zq0 (t b : Addr) (xs ys : Array Value) (n n2 : Nat) (dd dd2 : Option Addr) (sl sl2 : Array (Option Value)) (h0 : xs.isEmpty = true) :
  Meets (Builtin.«tuple.__add__» ⟨[.ref t, .ref b], []⟩) (fun ψ R s => s.heap.get? t = some ⟨.type "tuple", dd, .seq xs n, sl⟩ /\ s.heap.get? b = some ⟨.type "tuple", dd2, .seq ys n2, sl2⟩ /\ R (.ok (.ret (.ref b))) s) :=
 .of_wp fun prog w A R s h => by
  obtain ⟨g0, gn, dr, tk, os⟩ := s; obtain ⟨e1, e2, h⟩ := h; have sb := AutoSeq1.sub_tuple_tuple
  wp_walk using AutoSeq1.wpAny_loadPart' e1, AutoSeq1.wpAny_loadPart' e2; exact ⟨_, rfl, h⟩
section
variable {X : Cx} {K : L2.Fg} {H : Hp} {Q : VK}
theorem Z3b : fillsNumberSlot (.type "tuple") "mul" = pure false := PySem.fillsNumberSlot_seq (id := "tuple.__mul__") (r := some (.builtin "tuple.__rmul__")) F.slot_tuple_mul.lookup (by decide +kernel) F.slot_tuple_rmul.lookup (by decide +kernel)
theorem Z6m : seqRepeat? (.type "tuple") = pure (some (.builtin "tuple.__mul__")) := by
 unfold seqRepeat?; rw [PySem.seqSlot_of (T := "tuple") (name := "__mul__") (id := "tuple.__mul__") F.slot_tuple_mul.lookup (by decide +kernel), PySem.seqSlot_of (T := "tuple") (name := "__rmul__") (id := "tuple.__rmul__") F.slot_tuple_rmul.lookup (by decide +kernel)]; rfl
theorem Zq1 (k : Int) (t : Tok) (l : Addr) (xs : Array Value) (n : Nat) (dd : Option Addr) (sl : Array (Option Value)) :
  Meets (Builtin.«int.__rmul__» ⟨[.int k t, .ref l], []⟩) (fun ψ R s => s.heap.get? l = some ⟨.type "tuple", dd, .seq xs n, sl⟩ /\ R (.ok (.ret Value.notImplemented)) s) :=
 .of_wp fun prog w A R s h => by obtain ⟨g0, gn, dr, tk, os⟩ := s; obtain ⟨e1, h⟩ := h; wp_walk using AutoSeq1.wpAny_loadPart' e1; exact ⟨_, rfl, h⟩
theorem Zq2 (k : Int) (t : Tok) (l : Addr) (x : Value) (n : Nat) (dd : Option Addr) (sl : Array (Option Value)) (hk : k = 1) :
  Meets (Builtin.«tuple.__mul__» ⟨[.ref l, .int k t], []⟩) (fun ψ R s => s.heap.get? l = some ⟨.type "tuple", dd, .seq #[x] n, sl⟩ /\ R (.ok (.ret (.ref l))) s) :=
 .of_wp fun prog w A R s h => by subst hk; obtain ⟨g0, gn, dr, tk, os⟩ := s; obtain ⟨e1, h⟩ := h; wp_walk using AutoSeq1.wpAny_loadPart' e1; exact ⟨_, rfl, h⟩
theorem Zq3 (k : Int) (t : Tok) (l : Addr) (x : Value) (n : Nat) (dd : Option Addr) (sl : Array (Option Value)) (c1 : (decide (k < -2 ^ 63) || decide (k ≥ 2 ^ 63)) = false) (c2 : ((#[x] : Array Value).isEmpty || k == 1) = false) (c3 : (decide (k <= 0) || (#[x] : Array Value).isEmpty) = true) :
  Meets (Builtin.«tuple.__mul__» ⟨[.ref l, .int k t], []⟩) (fun ψ R s => s.heap.get? l = some ⟨.type "tuple", dd, .seq #[x] n, sl⟩ /\ R (.ok (.ret (.ref s.heap.objs.size))) { s with heap := s.heap.push { cls := .type "tuple", data := .seq #[] } }) :=
 .of_wp fun prog w A R s h => by
  obtain ⟨g0, gn, dr, tk, os⟩ := s; obtain ⟨e1, h⟩ := h; have f1 := AutoSeq1.idx_int; have sb := AutoSeq1.sub_tuple_tuple
  wp_walk using AutoSeq1.wpAny_loadPart' e1
  refine wpAny_ite_false (by rw [c1]; rfl) ?_
  wp_walk using AutoSeq1.wpAny_loadPart' e1
  refine wpAny_ite_false (by rw [c2]; rfl) ?_
  wp_walk using AutoSeq1.wpAny_loadPart' e1
  refine wpAny_ite_true (by rw [c3]; rfl) ?_
  wp_walk using AutoSeq1.wpAny_loadPart' e1
  exact ⟨_, rfl, h⟩
theorem Zq4 (k : Int) (t : Tok) (l : Addr) (x : Value) (n : Nat) (dd : Option Addr) (sl : Array (Option Value)) (c1 : (decide (k < -2 ^ 63) || decide (k ≥ 2 ^ 63)) = false) (c2 : ((#[x] : Array Value).isEmpty || k == 1) = false) (c3 : (decide (k <= 0) || (#[x] : Array Value).isEmpty) = false)
  (c4 : ¬ (((#[x] : Array Value).size : Int) * k > (2 ^ 63 - 1) / 8)) (c5 : Builtin.Tuple.tupleTooMany (((#[x] : Array Value).size : Int) * k) = false) (c6 : ((List.replicate k.toNat (#[x] : Array Value)).foldl (· ++ ·) #[]).size <= sizeLine) :
  Meets (Builtin.«tuple.__mul__» ⟨[.ref l, .int k t], []⟩) (fun ψ R s => s.heap.get? l = some ⟨.type "tuple", dd, .seq #[x] n, sl⟩ /\ R (.ok (.ret (.ref s.heap.objs.size))) { s with heap := s.heap.push { cls := .type "tuple", data := .seq ((List.replicate k.toNat (#[x] : Array Value)).foldl (· ++ ·) #[]) } }) :=
 .of_wp fun prog w A R s h => by
  obtain ⟨g0, gn, dr, tk, os⟩ := s; obtain ⟨e1, h⟩ := h; have f1 := AutoSeq1.idx_int; have sb := AutoSeq1.sub_tuple_tuple
  wp_walk using AutoSeq1.wpAny_loadPart' e1
  refine wpAny_ite_false (by rw [c1]; rfl) ?_
  wp_walk using AutoSeq1.wpAny_loadPart' e1
  refine wpAny_ite_false (by rw [c2]; rfl) ?_
  wp_walk using AutoSeq1.wpAny_loadPart' e1
  refine wpAny_ite_false (by rw [c3]; rfl) ?_
  wp_walk using AutoSeq1.wpAny_loadPart' e1
  refine wpAny_ite_false (decide_eq_false c4) ?_
  wp_walk using AutoSeq1.wpAny_loadPart' e1
  first
   | (refine wpAny_ite_false (by rw [c5]; rfl) ?_; wp_walk using AutoSeq1.wpAny_loadPart' e1; exact ⟨_, rfl, h⟩)
   | exact ⟨_, rfl, h⟩
theorem Z5a (u : Value) : ∀ (m : Nat) (acc : Array Value), (List.replicate m (#[u] : Array Value)).foldl (fun x1 x2 => x1 ++ x2) acc = acc ++ (List.replicate m u).toArray
 | 0, acc => by simp
 | m + 1, acc => by rw [List.replicate_succ, List.foldl_cons, Z5a u m]; apply Array.ext'; simp [List.replicate_succ]
theorem Z8t {v : V} {u : Value} (r : RelV v u) : ∀ m : Nat, Vals (List.replicate m v) (List.replicate m u)
 | 0 => .nil
 | m + 1 => .cons r (Z8t r m)
theorem Za1 {prog : Program} {w : World} {A : Around} {E : L2.VSP} {s : Shared} {t sl : Addr} {items : Array Value} {vl vu : Value} {lo hi : Option Int} {Q : L2.VSP} (ht : IsTup s.heap t items) (hs : s.heap.IsSliceOf sl vl vu .none) (pl : IsPart vl lo) (pu : IsPart vu hi)
  (hw : HT.sIx items.size 0 lo = 0 /\ HT.sIx items.size items.size hi = items.size) (h : Q (.ref t) s) : wpAny (model prog w) A (getItem (.ref t) (.ref sl)) Q E s := by
 obtain ⟨os, hos, hcs, hds⟩ := id hs; have ts : s.TypeIs (.ref sl) "slice" := ⟨os, hos, hcs⟩
 unfold getItem; (try with_reducible refine wpAny_holding ?_); (first | refine wpAny_bind (wpAny_pure ?_) | skip); refine wpAny_bind (wpAny_sequenceKey ht.typeIs (by decide) ?_)
 refine wpAny_bind (wpAny_callSpecial?_slot (name := Str.ofString "__getitem__") ht.typeIs PyProof.Rows.slot_tuple_getitem (wpAny_call_entry PyProof.Rows.slot_tuple_getitem ht.typeIs entry_tuple_getitem ?_ (args_tuple_getitem _ _)))
 show wpAny _ _ (Builtin.Tuple.tupleItemsOf (.ref t) >>= _) _ _ s; refine wpAny_bind (tupleItemsOf_ ht ?_); refine wpAny_bind (wpAny_typeOf ts ?_); rw [if_pos (by decide)]
 refine wpAny_bind (HT.sliceApplied_gen hs pl pu ?_)
 show wpAny _ _ (if (((HT.sIx items.size 0 lo : Nat) : Int) == 0 && (1 : Int) == 1 && (HT.sIx items.size items.size hi - HT.sIx items.size 0 lo) == items.size) = true then _ else _) _ _ s
 rw [if_pos (by rw [hw.1, hw.2]; simp)]
 unfold Builtin.Tuple.tupleIsExact
 refine wpAny_bind (wpAny_bind (wpAny_typeOf ht.typeIs (wpAny_pure ?_)))
 rw [if_pos (by decide)]
 refine wpAny_bind (wpAny_rule ?_)
 first
  | exact wpAny_pure ⟨_, rfl, wpAny_pure h⟩
  | exact wpAny_bind (wpAny_pure (wpAny_pure ⟨_, rfl, wpAny_pure h⟩))
def rSlW (K : L2.Fg) : V -> Option Int -> Option Int -> Hp -> VK -> Prop := fun x lo hi H Q => ∃ a xs, x = .ref a /\ SqT K H a xs /\ (HT.sIx xs.length 0 lo = 0 /\ HT.sIx xs.length xs.length hi = xs.length) /\ Q (.ref a) H
theorem Zbr : SlR X (rSlW X.K) := by
 intro pins s σ H x v vl vu lo hi sl Q I rx hs pl pu h
 obtain ⟨a, xs, rfl, hx, hw, q⟩ := h
 cases rx
 obtain ⟨its, r, ht, hz⟩ := I.tuple hx
 have hlen : its.toArray.size = xs.length := by rw [List.size_toArray]; exact r.length.symm
 exact ⟨"tuple", _, PyProof.Rows.slot_tuple_getitem.lookup, ht.typeIs, Za1 ht hs pl pu (by rw [hlen]; exact hw) ⟨.ref a, H, I, rfl, q⟩⟩
end
section
variable {prog : Program} {w : World} {A : Around} {E : L2.VSP} {s : Shared}
theorem Za2 {sl : Addr} {vs : Value} {n : Nat} {Q : Int × Int × Nat -> Shared -> Prop} (hs : s.heap.IsSliceOf sl .none .none vs) (ps : IsPart vs (some (-1))) (h : Q ((n : Int) - 1, -1, n) s) : wpAny (model prog w) A (Builtin.Slice.sliceApplied (.ref sl) (pure (n : Int))) Q E s := by
 obtain ⟨os, go, cs, ds⟩ := id hs
 unfold Builtin.Slice.sliceApplied Builtin.Slice.sliceFields
 refine wpAny_bind (wpAny_bind (wpAny_field go ds (x := .none) rfl (wpAny_bind (wpAny_field go ds (x := .none) rfl (wpAny_bind (wpAny_field go ds (x := vs) rfl (wpAny_pure ?_)))))))
 refine wpAny_bind (HT.slicePart_ ps ?_)
 show wpAny _ _ (if ((-1 : Int) == 0) = true then _ else _) _ _ s; rw [if_neg (by decide)]
 refine wpAny_bind (HT.slicePart_ .none (wpAny_bind (HT.slicePart_ .none (wpAny_bind (wpAny_pure ?_)))))
 show wpAny _ _ (pure ((n : Int) - 1, (-1 : Int), Builtin.Slice.slicePlaces ((n : Int) - 1) (-1) (-1))) _ _ s
 have e : Builtin.Slice.slicePlaces ((n : Int) - 1) (-1) (-1) = n := by
  unfold Builtin.Slice.slicePlaces
  rw [if_neg (by decide)]
  by_cases z : ((n : Int) - 1) > -1
  ·rw [if_pos z]; simp
  ·rw [if_neg z]; omega
 rw [e]; exact wpAny_pure h
theorem Za3 (xs : List Value) : ((List.range xs.length).filterMap fun (m : Nat) => xs.toArray[(((xs.length : Int) - 1) + (m : Int) * -1).toNat]?).toArray = xs.reverse.toArray := by
 congr 1
 have e3 : (List.range xs.length).filterMap (fun (m : Nat) => xs.toArray[(((xs.length : Int) - 1) + (m : Int) * -1).toNat]?) = (List.range xs.length).map fun k => (xs[xs.length - 1 - k]?).getD default := by
  refine Z7z fun k hk => ?_
  have := List.mem_range.mp hk
  have lt : xs.length - 1 - k < xs.length := by omega
  rw [show (((xs.length : Int) - 1) + (k : Int) * -1).toNat = xs.length - 1 - k by omega]
  simp [lt]
 rw [e3]
 refine List.ext_getElem? fun i => ?_
 by_cases hi : i < xs.length
 ·rw [List.getElem?_map, List.getElem?_range hi, List.getElem?_reverse hi]
  have lt : xs.length - 1 - i < xs.length := by omega
  simp [lt]
 ·rw [List.getElem?_eq_none (by simp; omega), List.getElem?_eq_none (by simp; omega)]
theorem Zbs {t sl : Addr} {xs : List Value} {vs : Value} {Q : L2.VSP} (ht : IsTup s.heap t xs.toArray) (hs : s.heap.IsSliceOf sl .none .none vs) (ps : IsPart vs (some (-1))) (hz : xs.length <= sizeLine)
  (h : Q (.ref s.heap.objs.size) { s with heap := s.heap.push { cls := .type "tuple", data := .seq xs.reverse.toArray } }) : wpAny (model prog w) A (getItem (.ref t) (.ref sl)) Q E s := by
 obtain ⟨os, hos, hcs, hds⟩ := id hs; have ts : s.TypeIs (.ref sl) "slice" := ⟨os, hos, hcs⟩
 have fits : sizeOk (.seq xs.reverse.toArray) := by show xs.reverse.toArray.size <= sizeLine; simpa using hz
 unfold getItem; (try with_reducible refine wpAny_holding ?_); (first | refine wpAny_bind (wpAny_pure ?_) | skip); refine wpAny_bind (wpAny_sequenceKey ht.typeIs (by decide) ?_)
 refine wpAny_bind (wpAny_callSpecial?_slot (name := Str.ofString "__getitem__") ht.typeIs PyProof.Rows.slot_tuple_getitem (wpAny_call_entry PyProof.Rows.slot_tuple_getitem ht.typeIs entry_tuple_getitem ?_ (args_tuple_getitem _ _)))
 show wpAny _ _ (Builtin.Tuple.tupleItemsOf (.ref t) >>= _) _ _ s; refine wpAny_bind (tupleItemsOf_ ht ?_); refine wpAny_bind (wpAny_typeOf ts ?_); rw [if_pos (by decide)]
 refine wpAny_bind (Za2 hs ps ?_)
 have no : ¬ ((((xs.toArray.size : Int) - 1) == 0 && (-1 : Int) == 1 && xs.toArray.size == xs.toArray.size) = true) := by simp
 show wpAny _ _ (if ((((xs.toArray.size : Int) - 1) == 0 && (-1 : Int) == 1 && xs.toArray.size == xs.toArray.size)) = true then _ else _) _ _ s
 rw [if_neg no]
 have e := Za3 xs
 rw [<- List.size_toArray (as := xs)] at e
 rw [e]
 first
  | exact wpAny_bind (m := Builtin.Tuple.tupleExact _) (wpAny_newObj_type (wpAny_pure ⟨_, rfl, wpAny_pure h⟩) fits)
  | exact wpAny_bind (wpAny_bind (m := Builtin.Tuple.tupleExact _) (wpAny_newObj_type (wpAny_pure (wpAny_pure ⟨_, rfl, wpAny_pure h⟩)) fits))
  | exact wpAny_bind (wpAny_bind (m := Builtin.Tuple.tupleExact _) (wpAny_newObj_type (wpAny_pure ⟨_, rfl, wpAny_pure h⟩) fits))
end
section
variable {K : L2.Fg} {H : Hp} {Q : VK}
def Zq5 (K : L2.Fg) : V -> Option Int -> Hp -> VK -> Prop := fun x st H Q => ∃ a xs, x = .ref a /\ st = some (-1) /\ SqT K H a xs /\ ∀ p, H p = none -> Q (.ref p) (upd H p (.tup xs.reverse))
end
section
variable {X : Cx} {K : L2.Fg} {H : Hp} {Q : VK}
theorem Zgj : ∀ (bs : List Bool), ((List.range bs.length).any fun i => (bs[i]?).getD false) = bs.any id
 | [] => rfl
 | b :: r => by
  rw [List.length_cons, List.range_succ_eq_map, List.any_cons, List.any_map, List.any_cons, <- Zgj r]
  rfl
def rAny (K : L2.Fg) : List V -> Hp -> VK -> Prop := fun xs H Q => ∃ (p : Addr) (bs : List Bool), xs = [.ref p] /\ SqL K H p (bs.map V.bl) /\ Q (.bl (bs.any id)) H
theorem Zbt (hc : X.calm = true) : Z0s X (.builtin "any") (rAny X.K) := by
 intro pins s σ H xs us Q I r h
 obtain ⟨p, bs, rfl, hq, q⟩ := h
 obtain ⟨u, rfl, ru⟩ := Z2e r
 cases ru
 obtain ⟨its, rv, pl, hz⟩ := I.list hq
 have ei := Z59 rv
 subst ei
 have lt : p < s.heap.objs.size := by obtain ⟨o, e, _⟩ := pl.isList; exact Heap.lt_size e
 refine call_any_walk (wpAny_pyIter_list pl.isList ?_)
 refine ⟨s.heap.objs.size, [s.heap.objs.size, p], [s.heap.objs.size], (bs.map Value.bool).toArray.size, _, _, fun i => (bs[i]?).getD false, rfl, Walks.list (A := X.A.in1) (I.ok.hd hc) _ p (Nat.ne_of_lt lt) (bs.map Value.bool).toArray,
  ⟨⟨_, Heap.get?_push_size _ rfl, rfl, rfl⟩, pl.isList.push _⟩, fun i v s' Q' E' hP hQ => ?_, fun h' tk hk => ?_⟩
 ·have hP' : (bs.map Value.bool)[i]? = some v := by simpa using hP
  rw [List.getElem?_map] at hP'
  cases e : bs[i]? with
  | none => rw [e] at hP'; cases hP'
  | some b =>
   rw [e] at hP'
   cases hP'
   simp only [e, Option.getD_some] at hQ
   exact wpAny_truthy_bool hQ
 ·have e : ((List.range (bs.map Value.bool).toArray.size).any fun i => (bs[i]?).getD false) = bs.any id := by
   rw [List.size_toArray, List.length_map]; exact Zgj bs
  rw [e]
  refine ⟨.bl _, H, I.kept (t' := tk) fun b o e => hk b o (fun hm => ?_) (Heap.get?_push_of_some _ e), rfl, q⟩
  rw [List.mem_singleton.mp hm] at e
  exact Nat.lt_irrefl _ (Heap.lt_size e)
end
theorem Zbu {X : Cx} {K : L2.Fg} (h : X.K = K) : Z0s X (.type "list") (Zbn K) := h ▸ Zbo
theorem Zbv {X : Cx} {K : L2.Fg} (h : X.K = K) : Z0s X (.type "tuple") (Zbl K) := h ▸ Zbm
inductive U where
 | non | bl (b : Bool) | int (i : Int) | str (x : Str) | ty (n : String) | nm (x : Str) | exc (c : Str) (pl : Option Int) | pile
 | tup (xs : List U) | lst (xs : List U) | scr (ns : List Int) | dic (ks vs : List U)
structure Om where
 cs : List Int
 rs : List Int
structure Wd where
 K : PySem.W.Frag
 mg : Str -> Option Value
 pa : Addr
 L : List Addr
 pl : Om -> Hp -> Prop
 st : ∀ ω H H', pl ω H -> (∀ b o, H b = some o -> (b ∈ L \/ ∃ x y, o = .frz x y) -> H' b = some o) -> pl ω H'
def DOb (ob : Obj) (kvs : List (Int × V)) : Prop := ∃ es ep, ob.ExactDict /\ ob.data = .dict es ep /\ Paired (fun (e : DictEntry) (p : Int × V) => Z3j (.inl p.1) e.key = true /\ (∀ w, e.hash = keyH w (.inl p.1)) /\ RelV p.2 e.val) es.toList kvs /\ (kvs.map (·.1)).Nodup
def dE (a : Addr) (ob : Obj) (kvs : List (Int × V)) : HO := .ext fun h => h.get? a = some ob /\ (a == sysModules) = false /\ kvs.length <= sizeLine /\ DOb ob kvs
def excD (e C d : Addr) : HO := .ext fun h => ∃ o, h.get? e = some o /\ o.cls = .ref C /\ o.dict = some d /\ PySem.W.notCls o = true
mutual
def RU (W : Wd) (H : Hp) : U -> V -> Prop
 | .non, v => v = .non
 | .bl b, v => v = .bl b
 | .int i, v => v = .int i
 | .str x, v => v = .str x
 | .ty n, v => v = .ty n
 | .nm x, v => ∃ a, v = .ref a /\ W.mg x = some (.ref a)
 | .exc c none, v => ∃ a C, v = .ref a /\ W.mg c = some (.ref C) /\ H a = some (excO a C)
 | .exc c (some n), v => ∃ a C d, v = .ref a /\ W.mg c = some (.ref C) /\ H a = some (excD a C d) /\ H d = some (.xd [("place", .int n)])
 | .pile, v => v = .ref W.pa
 | .tup xs, v => ∃ a vs, v = .ref a /\ H a = some (.tup vs) /\ RUs W H xs vs
 | .lst xs, v => ∃ a vs, v = .ref a /\ H a = some (.lst vs) /\ RUs W H xs vs
 | .scr ns, v => ∃ a, v = .ref a /\ SqL W.K H a (ns.map V.int)
 | .dic ks vs, v => ∃ a ob kvs, v = .ref a /\ H a = some (dE a ob kvs) /\ ks = kvs.map (fun p => .int p.1) /\ RUs W H vs (kvs.map (·.2))
def RUs (W : Wd) (H : Hp) : List U -> List V -> Prop
 | [], vs => vs = []
 | u :: us, vs => ∃ v r, vs = v :: r /\ RU W H u v /\ RUs W H us r
end
mutual
theorem RU.mono {W : Wd} {H H' : Hp} (s : Same H H') : ∀ {u : U} {v : V}, RU W H u v -> RU W H' u v
 | .non, _, h => by rw [RU] at h ⊢; exact h
 | .bl _, _, h => by rw [RU] at h ⊢; exact h
 | .int _, _, h => by rw [RU] at h ⊢; exact h
 | .str _, _, h => by rw [RU] at h ⊢; exact h
 | .ty _, _, h => by rw [RU] at h ⊢; exact h
 | .nm _, _, h => by rw [RU] at h ⊢; exact h
 | .exc _ none, _, h => by rw [RU] at h ⊢; obtain ⟨a, C, e, m, q⟩ := h; exact ⟨a, C, e, m, s _ _ q⟩
 | .exc _ (some _), _, h => by rw [RU] at h ⊢; obtain ⟨a, C, d, e, m, q, r⟩ := h; exact ⟨a, C, d, e, m, s _ _ q, s _ _ r⟩
 | .pile, _, h => by rw [RU] at h ⊢; exact h
 | .tup xs, _, h => by rw [RU] at h ⊢; obtain ⟨a, vs, e, q, r⟩ := h; exact ⟨a, vs, e, s _ _ q, RUs.mono s r⟩
 | .lst xs, _, h => by rw [RU] at h ⊢; obtain ⟨a, vs, e, q, r⟩ := h; exact ⟨a, vs, e, s _ _ q, RUs.mono s r⟩
 | .scr ns, _, h => by rw [RU] at h ⊢; obtain ⟨a, e, q⟩ := h; exact ⟨a, e, s.seq q⟩
 | .dic ks vs, _, h => by rw [RU] at h ⊢; obtain ⟨a, ob, kvs, e, q, z, r⟩ := h; exact ⟨a, ob, kvs, e, s _ _ q, z, RUs.mono s r⟩
theorem RUs.mono {W : Wd} {H H' : Hp} (s : Same H H') : ∀ {us : List U} {vs : List V}, RUs W H us vs -> RUs W H' us vs
 | [], _, h => by rw [RUs] at h ⊢; exact h
 | u :: us, _, h => by rw [RUs] at h ⊢; obtain ⟨v, r, e, q, z⟩ := h; exact ⟨v, r, e, RU.mono s q, RUs.mono s z⟩
end
section
variable {W : Wd} {H : Hp}
theorem RUs.nil : RUs W H [] [] := by rw [RUs]
theorem RUs.cons {u : U} {us : List U} {v : V} {vs : List V} (h : RU W H u v) (t : RUs W H us vs) : RUs W H (u :: us) (v :: vs) := by rw [RUs]; exact ⟨v, vs, rfl, h, t⟩
theorem RUs.len : ∀ {us : List U} {vs : List V}, RUs W H us vs -> us.length = vs.length
 | [], _, h => by rw [RUs] at h; subst h; rfl
 | _ :: us, _, h => by rw [RUs] at h; obtain ⟨v, r, e, _, z⟩ := h; subst e; simp [z.len]
theorem RUs.at {i : Nat} : ∀ {us : List U} {vs : List V} {u : U} {i : Nat}, RUs W H us vs -> us[i]? = some u -> ∃ v, vs[i]? = some v /\ RU W H u v
 | [], _, _, _, _, e => by simp at e
 | _ :: us, _, u, 0, h, e => by rw [RUs] at h; obtain ⟨v, r, e', q, z⟩ := h; subst e'; simp at e; subst e; exact ⟨v, rfl, q⟩
 | _ :: us, _, u, i + 1, h, e => by rw [RUs] at h; obtain ⟨v, r, e', q, z⟩ := h; subst e'; obtain ⟨w, g, k⟩ := RUs.at (i := 0) z (show us[i]? = some u by simpa using e); exact ⟨w, by simpa using g, k⟩
theorem RUs.app : ∀ {us ws : List U} {vs xs : List V}, RUs W H us vs -> RUs W H ws xs -> RUs W H (us ++ ws) (vs ++ xs)
 | [], _, _, _, h, t => by rw [RUs] at h; subst h; exact t
 | _ :: us, _, _, _, h, t => by rw [RUs] at h; obtain ⟨v, r, e, q, z⟩ := h; subst e; exact .cons q (z.app t)
theorem RUs.one {u : U} {v : V} (h : RU W H u v) : RUs W H [u] [v] := .cons h .nil
theorem RUs.drop : ∀ {us : List U} {vs : List V} (n : Nat), RUs W H us vs -> RUs W H (us.drop n) (vs.drop n)
 | _, _, 0, h => h
 | [], _, _ + 1, h => by rw [RUs] at h; subst h; exact .nil
 | _ :: us, _, n + 1, h => by rw [RUs] at h; obtain ⟨v, r, e, q, z⟩ := h; subst e; exact z.drop n
theorem RUs.take : ∀ {us : List U} {vs : List V} (n : Nat), RUs W H us vs -> RUs W H (us.take n) (vs.take n)
 | _, _, 0, h => .nil
 | [], _, _ + 1, h => by rw [RUs] at h; subst h; exact .nil
 | _ :: us, _, n + 1, h => by rw [RUs] at h; obtain ⟨v, r, e, q, z⟩ := h; subst e; exact .cons q (z.take n)
theorem RUs.rev : ∀ {us : List U} {vs : List V}, RUs W H us vs -> RUs W H us.reverse vs.reverse
 | [], _, h => by rw [RUs] at h; subst h; exact .nil
 | _ :: us, _, h => by rw [RUs] at h; obtain ⟨v, r, e, q, z⟩ := h; subst e; rw [List.reverse_cons, List.reverse_cons]; exact z.rev.app (.one q)
theorem RUs.set : ∀ {us : List U} {vs : List V} {u : U} {v : V} (n : Nat), RUs W H us vs -> RU W H u v -> RUs W H (us.set n u) (vs.set n v)
 | [], _, _, _, _, h, _ => by rw [RUs] at h; subst h; exact .nil
 | _ :: us, _, _, _, 0, h, k => by rw [RUs] at h; obtain ⟨v, r, e, q, z⟩ := h; subst e; exact .cons k z
 | _ :: us, _, _, _, n + 1, h, k => by rw [RUs] at h; obtain ⟨v, r, e, q, z⟩ := h; subst e; exact .cons q (z.set n k)
theorem RUs.rep {u : U} {v : V} (h : RU W H u v) : ∀ n : Nat, RUs W H (List.replicate n u) (List.replicate n v)
 | 0 => .nil
 | n + 1 => .cons h (RUs.rep h n)
theorem RUs.ints : ∀ {ns : List Int} {vs : List V}, RUs W H (ns.map U.int) vs -> vs = ns.map V.int
 | [], _, h => by rw [List.map_nil, RUs] at h; exact h
 | _ :: ns, _, h => by rw [List.map_cons, RUs] at h; obtain ⟨v, r, e, q, z⟩ := h; rw [RU] at q; rw [e, q, z.ints]; rfl
theorem RUs.bls : ∀ {ns : List Bool} {vs : List V}, RUs W H (ns.map U.bl) vs -> vs = ns.map V.bl
 | [], _, h => by rw [List.map_nil, RUs] at h; exact h
 | _ :: ns, _, h => by rw [List.map_cons, RUs] at h; obtain ⟨v, r, e, q, z⟩ := h; rw [RU] at q; rw [e, q, z.bls]; rfl
theorem RUs.ofInts : ∀ {ns : List Int}, RUs W H (ns.map U.int) (ns.map V.int)
 | [] => .nil
 | _ :: ns => .cons (by rw [RU]) .ofInts
end
inductive Res (α : Type) where
 | ok (a : α) (ω : Om) | err (c : Str) (pl : Option Int) (ω : Om) | stk
def Res.bnd {α β : Type} (r : Res α) (k : α -> Om -> Res β) : Res β := match r with
 | .ok a ω => k a ω
 | .err c p ω => .err c p ω
 | .stk => .stk
@[simp] theorem Res.bnd_ok {α β : Type} {a : α} {ω : Om} {k : α -> Om -> Res β} : (Res.ok a ω).bnd k = k a ω := rfl
@[simp] theorem Res.bnd_err {α β : Type} {c : Str} {p : Option Int} {ω : Om} {k : α -> Om -> Res β} : (Res.err c p ω : Res α).bnd k = .err c p ω := rfl
@[simp] theorem Res.bnd_stk {α β : Type} {k : α -> Om -> Res β} : (Res.stk : Res α).bnd k = .stk := rfl
def Res.of {α : Type} (o : Option α) (ω : Om) : Res α := match o with
 | some a => .ok a ω
 | none => .stk
@[simp] theorem Res.of_some {α : Type} {a : α} {ω : Om} : Res.of (some a) ω = .ok a ω := rfl
@[simp] theorem Res.of_none {α : Type} {ω : Om} : (Res.of (none : Option α) ω) = .stk := rfl
abbrev En := List (Option U)
inductive Fl where
 | nx (ρ : En) (ω : Om) | rt (u : U) (ω : Om) | bk (ρ : En) (ω : Om) | ct (ρ : En) (ω : Om) | err (c : Str) (pl : Option Int) (ω : Om) | stk
structure Md where
 B : List Nat
 M : List Nat
structure Ext (W : Wd) (Hc H Hc' H' : Hp) : Prop where
 same : ∀ b o, b ∉ W.L -> H b = some o -> H' b = some o
 sc : Same Hc Hc'
 sub : Same Hc' H'
 new : ∀ b, Hc b = none -> H b ≠ none -> Hc' b = none
 frz : ∀ b, H b ≠ none -> H' b ≠ none
theorem Ext.refl {W : Wd} {Hc H : Hp} (s : Same Hc H) : Ext W Hc H Hc H := ⟨fun ψ ψ ψ h => h, fun ψ ψ h => h, s, fun ψ h ψ => h, fun ψ h => h⟩
theorem Ext.trans {W : Wd} {Hc H Hc1 H1 Hc2 H2 : Hp} (a : Ext W Hc H Hc1 H1) (b : Ext W Hc1 H1 Hc2 H2) : Ext W Hc H Hc2 H2 :=
 ⟨fun c o n h => b.same c o n (a.same c o n h), fun c o h => b.sc c o (a.sc c o h), b.sub, fun c h k => b.new c (a.new c h k) (a.frz c k), fun c h => b.frz c (a.frz c h)⟩
structure PlOk (W : Wd) (ω : Om) (Hc H : Hp) : Prop where
 pl : W.pl ω H
 out : ∀ b ∈ W.L, Hc b = none /\ H b ≠ none
def XR (Hc : Hp) (pl : Option Int) (od : Option Addr) : Prop := match pl with
 | none => od = none
 | some n => ∃ d, od = some d /\ Hc d = some (.xd [("place", .int n)])
def Aft {α : Type} (W : Wd) (E : XK) (Hc H : Hp) (r : Res α) (k : α -> Om -> Hp -> Hp -> Prop) : Prop := match r with
 | .ok a ω => ∀ Hc' H', Ext W Hc H Hc' H' -> PlOk W ω Hc' H' -> k a ω Hc' H'
 | .err c pl ω => ∀ C od Hc' H', Ext W Hc H Hc' H' -> PlOk W ω Hc' H' -> W.mg c = some (.ref C) -> XR Hc' pl od -> E (.ref C) od H'
 | .stk => False
theorem Aft.ext {α : Type} {W : Wd} {E : XK} {Hc H Hc1 H1 : Hp} {r : Res α} {k : α -> Om -> Hp -> Hp -> Prop} (e : Ext W Hc H Hc1 H1) (h : Aft W E Hc H r k) : Aft W E Hc1 H1 r k := by
 cases r with
 | ok a ω => exact fun Hc' H' e' p => h Hc' H' (e.trans e') p
 | err c pl ω => exact fun C od Hc' H' e' p => h C od Hc' H' (e.trans e') p
 | stk => exact h
theorem Aft.imp {α : Type} {W : Wd} {E : XK} {Hc H : Hp} {r : Res α} {k k' : α -> Om -> Hp -> Hp -> Prop} (h : Aft W E Hc H r k) (i : ∀ a ω Hc' H', Ext W Hc H Hc' H' -> PlOk W ω Hc' H' -> k a ω Hc' H' -> k' a ω Hc' H') : Aft W E Hc H r k' := by
 cases r with
 | ok a ω => exact fun Hc' H' e p => i a ω Hc' H' e p (h Hc' H' e p)
 | err c pl ω => exact h
 | stk => exact h
theorem Aft.bnd {α β : Type} {W : Wd} {E : XK} {Hc H : Hp} {r : Res α} {g : α -> Om -> Res β} {k : β -> Om -> Hp -> Hp -> Prop} (h : Aft W E Hc H (r.bnd g) k) : Aft W E Hc H r fun a ω Hc' H' => Aft W E Hc' H' (g a ω) k := by
 cases r with
 | ok a ω => exact fun Hc' H' e p => Aft.ext e h
 | err c pl ω => exact h
 | stk => exact h
def OwO (W : Wd) (Hc : Hp) (a : Addr) : U -> HO -> Prop
 | .lst us, o => ∃ vs, o = .lst vs /\ RUs W Hc us vs
 | .dic ks us, o => ∃ ob kvs, o = dE a ob kvs /\ ks = kvs.map (fun p => .int p.1) /\ RUs W Hc us (kvs.map (·.2))
 | _, _ => False
theorem OwO.mono {W : Wd} {Hc Hc' : Hp} {u : U} {o : HO} {a : Addr} (s : Same Hc Hc') (h : OwO W Hc a u o) : OwO W Hc' a u o := by
 cases u with
 | lst us => obtain ⟨vs, e, r⟩ := h; exact ⟨vs, e, r.mono s⟩
 | dic ks us => obtain ⟨ob, kvs, e, k, r⟩ := h; exact ⟨ob, kvs, e, k, r.mono s⟩
 | _ => exact h
theorem OwO.ru {W : Wd} {Hc : Hp} {u : U} {o : HO} {a : Addr} (h : OwO W Hc a u o) (q : Hc a = some o) : RU W Hc u (.ref a) := by
 cases u with
 | lst us => obtain ⟨vs, e, r⟩ := h; subst e; rw [RU]; exact ⟨a, vs, rfl, q, r⟩
 | dic ks us => obtain ⟨ob, kvs, e, k, r⟩ := h; subst e; rw [RU]; exact ⟨a, ob, kvs, rfl, q, k, r⟩
 | _ => exact h.elim
theorem OwO.nfrz {W : Wd} {Hc : Hp} {u : U} {x : Obj} {y : HO} {a : Addr} (h : OwO W Hc a u (.frz x y)) : False := by
 cases u with
 | lst us => obtain ⟨vs, e, r⟩ := h; cases e
 | dic ks us => obtain ⟨ob, kvs, e, k, r⟩ := h; cases e
 | _ => exact h
def RB (W : Wd) (Hc H : Hp) (u : U) (v : V) : Prop := RU W Hc u v \/ ∃ a o, v = .ref a /\ a ∉ W.L /\ H a = some o /\ OwO W Hc a u o
theorem RB.ext {W : Wd} {Hc H Hc' H' : Hp} {u : U} {v : V} (h : RB W Hc H u v) (e : Ext W Hc H Hc' H') : RB W Hc' H' u v := by
 rcases h with h | ⟨a, o, e2, n, q, r⟩
 ·exact .inl (h.mono e.sc)
 ·exact .inr ⟨a, o, e2, n, e.same _ _ n q, r.mono e.sc⟩
structure Sr (W : Wd) (m : Md) (ρ : En) (ω : Om) (σ : St) (H0 Hc H : Hp) (ow : Nat -> Addr) : Prop where
 sub : Same Hc H
 s0 : ∀ b o, b ∉ W.L -> H0 b = some o -> H b = some o
 p0 : ∀ b ∈ W.L, H0 b ≠ none
 len : ρ.length = σ.length
 pl : PlOk W ω Hc H
 cl : ∀ i u, i ∉ m.B -> i ∉ m.M -> ρ[i]? = some (some u) -> ∃ v, σ[i]? = some (some v) /\ RU W Hc u v
 bo : ∀ i u, i ∈ m.B -> i ∉ m.M -> ρ[i]? = some (some u) -> ∃ v, σ[i]? = some (some v) /\ (RU W Hc u v \/ ∃ a o, v = .ref a /\ a ∉ W.L /\ H0 a = some o /\ OwO W Hc a u o)
 mu : ∀ i u, i ∈ m.M -> ρ[i]? = some (some u) -> ∃ o, σ[i]? = some (some (.ref (ow i))) /\ H (ow i) = some o /\ Hc (ow i) = none /\ H0 (ow i) = none /\ OwO W Hc (ow i) u o
 di : ∀ i j u w, i ∈ m.M -> j ∈ m.M -> i ≠ j -> ρ[i]? = some (some u) -> ρ[j]? = some (some w) -> ow i ≠ ow j
section
variable {W : Wd} {m : Md} {ρ : En} {ω ω' : Om} {σ : St} {H0 Hc H Hc' H' : Hp} {ow : Nat -> Addr}
theorem Sr.nl (S : Sr W m ρ ω σ H0 Hc H ow) {i : Nat} (h : H0 (ow i) = none) : ow i ∉ W.L := fun z => S.p0 _ z h
theorem Sr.ext (S : Sr W m ρ ω σ H0 Hc H ow) (e : Ext W Hc H Hc' H') (p : PlOk W ω' Hc' H') : Sr W m ρ ω' σ H0 Hc' H' ow := by
 refine ⟨e.sub, fun b o n h => e.same b o n (S.s0 b o n h), S.p0, S.len, p, fun i u n1 n2 h => ?_, fun i u n1 n2 h => ?_, fun i u n h => ?_, S.di⟩
 ·obtain ⟨v, q, r⟩ := S.cl i u n1 n2 h; exact ⟨v, q, r.mono e.sc⟩
 ·obtain ⟨v, q, r⟩ := S.bo i u n1 n2 h
  refine ⟨v, q, ?_⟩
  rcases r with r | ⟨a, o, z2, z3, z4, z5⟩
  ·exact .inl (r.mono e.sc)
  ·exact .inr ⟨a, o, z2, z3, z4, z5.mono e.sc⟩
 ·obtain ⟨o, z2, z3, z4, z5, z6⟩ := S.mu i u n h
  exact ⟨o, z2, e.same _ _ (S.nl z5) z3, e.new _ z4 (by rw [z3]; simp), z5, z6.mono e.sc⟩
theorem Sr.muL (S : Sr W m ρ ω σ H0 Hc H ow) (i : Nat) (us : List U) (hi : i ∈ m.M) (h : ρ[i]? = some (some (.lst us))) : ∃ us' vs, U.lst us = .lst us' /\ σ[i]? = some (some (.ref (ow i))) /\ H (ow i) = some (.lst vs) /\ Hc (ow i) = none /\ H0 (ow i) = none /\ RUs W Hc us' vs := by
 obtain ⟨o, z2, z3, z4, z5, vs, e, r⟩ := S.mu i _ hi h
 subst e
 exact ⟨us, vs, rfl, z2, z3, z4, z5, r⟩
theorem Sr.muD (S : Sr W m ρ ω σ H0 Hc H ow) (i : Nat) (ks us : List U) (hi : i ∈ m.M) (h : ρ[i]? = some (some (.dic ks us))) : ∃ ob kvs, σ[i]? = some (some (.ref (ow i))) /\ H (ow i) = some (dE (ow i) ob kvs) /\ Hc (ow i) = none /\ H0 (ow i) = none /\ ks = kvs.map (fun p => .int p.1) /\ RUs W Hc us (kvs.map (·.2)) := by
 obtain ⟨o, z2, z3, z4, z5, ob, kvs, e, k, r⟩ := S.mu i _ hi h
 subst e
 exact ⟨ob, kvs, z2, z3, z4, z5, k, r⟩
theorem Sr.get (S : Sr W m ρ ω σ H0 Hc H ow) {i : Nat} {u : U} (h : ρ[i]? = some (some u)) : ∃ v, σ[i]? = some (some v) /\ RB W Hc H u v := by
 by_cases n2 : i ∈ m.M
 ·obtain ⟨o, z2, z3, z4, z5, z6⟩ := S.mu i u n2 h
  exact ⟨_, z2, .inr ⟨_, o, rfl, S.nl z5, z3, z6⟩⟩
 ·by_cases n1 : i ∈ m.B
  ·obtain ⟨v, q, r⟩ := S.bo i u n1 n2 h
   refine ⟨v, q, ?_⟩
   rcases r with r | ⟨a, o, z2, z3, z4, z5⟩
   ·exact .inl r
   ·exact .inr ⟨a, o, z2, z3, S.s0 _ _ z3 z4, z5⟩
  ·obtain ⟨v, q, r⟩ := S.cl i u n1 n2 h
   exact ⟨v, q, .inl r⟩
end
theorem Ext.laid {W : Wd} {Hc H : Hp} {p : Addr} {o : HO} (s : Same Hc H) (n : H p = none) : Ext W Hc H (upd Hc p o) (upd H p o) /\ Ext W Hc H Hc (upd H p o) := by
 have nc : Hc p = none := s.free n
 refine ⟨⟨fun b u ψ h => by rw [Z06 (Z0c h n)]; exact h, fun b u h => by rw [Z06 (Z0c h nc)]; exact h, fun b u h => ?_, fun b h k => ?_, fun b h => ?_⟩, ⟨fun b u ψ h => by rw [Z06 (Z0c h n)]; exact h, fun b u h => h, fun b u h => by rw [Z06 (Z0c h nc)]; exact s b u h, fun b h k => h, fun b h => ?_⟩⟩
 ·by_cases e : b = p
  ·subst e; rw [Z03] at h ⊢; exact h
  ·rw [Z06 e] at h ⊢; exact s b u h
 ·rw [Z06 (fun z => k (by rw [z]; exact n))]; exact h
 ·by_cases e : b = p
  ·subst e; rw [Z03]; simp
  ·rw [Z06 e]; exact h
 ·by_cases e : b = p
  ·subst e; rw [Z03]; simp
  ·rw [Z06 e]; exact h
theorem PlOk.same {W : Wd} {ω : Om} {Hc H Hc' H' : Hp} (P : PlOk W ω Hc H) (e : Ext W Hc H Hc' H') (s : Same H H') : PlOk W ω Hc' H' :=
 ⟨W.st _ _ _ P.pl fun b o h ψ => s b o h, fun b hb => ⟨e.new b (P.out b hb).1 (P.out b hb).2, e.frz b (P.out b hb).2⟩⟩
theorem Same.laid {H : Hp} {p : Addr} {o : HO} (n : H p = none) : Same H (upd H p o) := fun b u h => by rw [Z06 (Z0c h n)]; exact h
abbrev Ef := En -> Om -> Res U
abbrev Tf := En -> Om -> Res Bool
abbrev Af := En -> Om -> Res (List U)
abbrev Sf := En -> Om -> Fl
def DE (W : Wd) (m : Md) (E : XK) (t : TE) (f : Ef) : Prop := ∀ H0 ρ ω σ Hc H ow, Sr W m ρ ω σ H0 Hc H ow -> ∀ Q : VK, Aft W E Hc H (f ρ ω) (fun u ψ Hc' H' => ∀ v, RU W Hc' u v -> Q v H') -> t σ H Q
def DB (W : Wd) (m : Md) (E : XK) (t : TE) (f : Ef) : Prop := ∀ H0 ρ ω σ Hc H ow, Sr W m ρ ω σ H0 Hc H ow -> ∀ Q : VK, Aft W E Hc H (f ρ ω) (fun u ψ Hc' H' => ∀ v, RB W Hc' H' u v -> Q v H') -> t σ H Q
def DF (W : Wd) (m : Md) (E : XK) (t : TE) (f : Ef) : Prop := ∀ H0 ρ ω σ Hc H ow, Sr W m ρ ω σ H0 Hc H ow -> ∀ Q : VK, Aft W E Hc H (f ρ ω) (fun u ψ Hc' H' => ∀ us a vs, u = .lst us -> Hc' a = none -> H a = none -> H' a = some (.lst vs) -> RUs W Hc' us vs -> Q (.ref a) H') -> t σ H Q
def DT (W : Wd) (m : Md) (E : XK) (t : TT) (f : Tf) : Prop := ∀ H0 ρ ω σ Hc H ow, Sr W m ρ ω σ H0 Hc H ow -> ∀ Q : Bool -> Hp -> Prop, Aft W E Hc H (f ρ ω) (fun b ψ ψ H' => Q b H') -> t σ H Q
def RBs (W : Wd) (Hc H : Hp) : List Bool -> List U -> List V -> Prop
 | b :: bs, u :: us, v :: vs => (if b = true then RB W Hc H u v else RU W Hc u v) /\ RBs W Hc H bs us vs
 | [], [], [] => True
 | _, _, _ => False
def DA (W : Wd) (m : Md) (E : XK) (bs : List Bool) (t : TA) (f : Af) : Prop := ∀ H0 ρ ω σ Hc H ow, Sr W m ρ ω σ H0 Hc H ow -> ∀ Q : List V -> Hp -> Prop, Aft W E Hc H (f ρ ω) (fun us ψ Hc' H' => ∀ vs, RBs W Hc' H' bs us vs -> Q vs H') -> t σ H Q
def Cont (W : Wd) (m : Md) (E : XK) (Hc0 H0 : Hp) (D : Ends) (r : Fl) : Prop := match r with
 | .nx ρ' ω' => ∀ σ' Hc' H' ow', Sr W m ρ' ω' σ' H0 Hc' H' ow' -> Ext W Hc0 H0 Hc' H' -> D.nx σ' H'
 | .bk ρ' ω' => ∀ σ' Hc' H' ow', Sr W m ρ' ω' σ' H0 Hc' H' ow' -> Ext W Hc0 H0 Hc' H' -> D.bk σ' H'
 | .ct ρ' ω' => ∀ σ' Hc' H' ow', Sr W m ρ' ω' σ' H0 Hc' H' ow' -> Ext W Hc0 H0 Hc' H' -> D.ct σ' H'
 | .rt u ω' => ∀ v Hc' H', Ext W Hc0 H0 Hc' H' -> PlOk W ω' Hc' H' -> RU W Hc' u v -> D.rt v H'
 | .err c pl ω' => ∀ C od Hc' H', Ext W Hc0 H0 Hc' H' -> PlOk W ω' Hc' H' -> W.mg c = some (.ref C) -> XR Hc' pl od -> E (.ref C) od H'
 | .stk => False
def DS (W : Wd) (m : Md) (E : XK) (t : TS) (g : Sf) : Prop := ∀ H0 Hc0 ρ ω σ Hc H ow, Sr W m ρ ω σ H0 Hc H ow -> Ext W Hc0 H0 Hc H -> ∀ D : Ends, Cont W m E Hc0 H0 D (g ρ ω) -> t D σ H
section
variable {W : Wd} {Hc H : Hp} {v : V}
theorem RB.int {i : Int} (h : RB W Hc H (.int i) v) : v = .int i := by rcases h with h | ⟨_, _, _, _, _, e⟩; (rw [RU] at h; exact h); cases e
theorem RB.bl {i : Bool} (h : RB W Hc H (.bl i) v) : v = .bl i := by rcases h with h | ⟨_, _, _, _, _, e⟩; (rw [RU] at h; exact h); cases e
theorem RB.non (h : RB W Hc H .non v) : v = .non := by rcases h with h | ⟨_, _, _, _, _, e⟩; (rw [RU] at h; exact h); cases e
theorem RB.str {i : Str} (h : RB W Hc H (.str i) v) : v = .str i := by rcases h with h | ⟨_, _, _, _, _, e⟩; (rw [RU] at h; exact h); cases e
theorem RB.ty {i : String} (h : RB W Hc H (.ty i) v) : v = .ty i := by rcases h with h | ⟨_, _, _, _, _, e⟩; (rw [RU] at h; exact h); cases e
theorem RB.tup {us : List U} (h : RB W Hc H (.tup us) v) : ∃ a vs, v = .ref a /\ Hc a = some (.tup vs) /\ RUs W Hc us vs := by
 rcases h with h | ⟨_, _, _, _, _, e⟩
 ·rw [RU] at h; exact h
 ·cases e
theorem RB.lst {us : List U} (h : RB W Hc H (.lst us) v) (s : Same Hc H) : ∃ a vs, v = .ref a /\ H a = some (.lst vs) /\ RUs W Hc us vs := by
 rcases h with h | ⟨a, o, e2, _, q, vs, e, r⟩
 ·rw [RU] at h; obtain ⟨a, vs, e, q, r⟩ := h; exact ⟨a, vs, e, s _ _ q, r⟩
 ·subst e; exact ⟨a, vs, e2, q, r⟩
theorem RB.dic {ks us : List U} (h : RB W Hc H (.dic ks us) v) (s : Same Hc H) : ∃ a ob kvs, v = .ref a /\ H a = some (dE a ob kvs) /\ ks = kvs.map (fun p => .int p.1) /\ RUs W Hc us (kvs.map (·.2)) := by
 rcases h with h | ⟨a, o, e2, _, q, ob, kvs, e, k, r⟩
 ·rw [RU] at h; obtain ⟨a, ob, kvs, e, q, k, r⟩ := h; exact ⟨a, ob, kvs, e, s _ _ q, k, r⟩
 ·subst e; exact ⟨a, ob, kvs, e2, q, k, r⟩
theorem RB.scr {ns : List Int} (h : RB W Hc H (.scr ns) v) : ∃ a, v = .ref a /\ SqL W.K Hc a (ns.map V.int) := by
 rcases h with h | ⟨_, _, _, _, _, e⟩
 ·rw [RU] at h; exact h
 ·cases e
theorem RB.nm {x : Str} (h : RB W Hc H (.nm x) v) : ∃ a, v = .ref a /\ W.mg x = some (.ref a) := by
 rcases h with h | ⟨_, _, _, _, _, e⟩
 ·rw [RU] at h; exact h
 ·cases e
theorem RB.pile (h : RB W Hc H .pile v) : v = .ref W.pa := by
 rcases h with h | ⟨_, _, _, _, _, e⟩
 ·rw [RU] at h; exact h
 ·cases e
theorem RU.int {i : Int} : RU W H (.int i) (.int i) := by rw [RU]
theorem RU.bl {i : Bool} : RU W H (.bl i) (.bl i) := by rw [RU]
theorem RU.non : RU W H .non .non := by rw [RU]
theorem RU.str {i : Str} : RU W H (.str i) (.str i) := by rw [RU]
theorem RU.ty {i : String} : RU W H (.ty i) (.ty i) := by rw [RU]
theorem RU.tup {us : List U} {a : Addr} {vs : List V} (h : H a = some (.tup vs)) (r : RUs W H us vs) : RU W H (.tup us) (.ref a) := by rw [RU]; exact ⟨a, vs, rfl, h, r⟩
theorem RU.lst {us : List U} {a : Addr} {vs : List V} (h : H a = some (.lst vs)) (r : RUs W H us vs) : RU W H (.lst us) (.ref a) := by rw [RU]; exact ⟨a, vs, rfl, h, r⟩
end
theorem Ext.own {W : Wd} {Hc H Hc' H' : Hp} {a : Addr} {o : HO} (e : Ext W Hc H Hc' H') (n1 : Hc' a = none) (n2 : H a = none) (h : H' a = some o) : Ext W Hc H (upd Hc' a o) H' := by
 refine ⟨e.same, fun b u q => ?_, fun b u q => ?_, fun b q k => ?_, e.frz⟩
 ·rw [Z06 (Z0c (e.sc b u q) n1)]; exact e.sc b u q
 ·by_cases z : b = a
  ·subst z; rw [Z03] at q; cases q; exact h
  ·rw [Z06 z] at q; exact e.sub b u q
 ·rw [Z06 (fun z => k (by rw [z]; exact n2))]; exact e.new b q k
theorem PlOk.own {W : Wd} {ω : Om} {Hc H : Hp} {a : Addr} {o : HO} (p : PlOk W ω Hc H) (n : a ∉ W.L) : PlOk W ω (upd Hc a o) H := ⟨p.pl, fun b hb => ⟨by rw [Z06 (fun z : b = a => n (by rw [<- z]; exact hb))]; exact (p.out b hb).1, (p.out b hb).2⟩⟩
theorem Ext.frz' {W : Wd} {Hc H Hc' H' : Hp} {a : Addr} (e : Ext W Hc H Hc' H') (h : H' a = none) : H a = none := by
 cases q : H a with
 | none => rfl
 | some o => exact absurd h (e.frz a (by rw [q]; simp))
theorem Same.own {Hc' : Hp} {a : Addr} {o : HO} (n1 : Hc' a = none) : Same Hc' (upd Hc' a o) := Same.laid n1
section
variable {W : Wd} {m : Md} {E : XK} {ta tb : TE} {fa fb : Ef} {i : Nat} {r : R2} {g : U -> U -> Option U}
theorem DE.b (h : DE W m E ta fa) : DB W m E ta fa := fun H0 ρ ω σ Hc H ow S Q k => h H0 ρ ω σ Hc H ow S Q (k.imp fun u ψ Hc' H' ψ ψ q v r => q v (.inl r))
theorem DF.e (h : DF W m E ta fa) : DE W m E ta fa := by
 intro H0 ρ ω σ Hc H ow S Q k
 refine h H0 ρ ω σ Hc H ow S Q ?_
 revert k
 cases fa ρ ω with
 | ok u ω' =>
  intro k Hc' H' e p us a vs hu n1 n2 ha rr
  subst hu
  have nl : a ∉ W.L := fun z => (S.pl.out a z).2 n2
  exact k (upd Hc' a (.lst vs)) H' (e.own n1 n2 ha) (p.own nl) (.ref a) (.lst Z03 (rr.mono (Same.own n1)))
 | err c pl ω' => exact fun k => k
 | stk => exact fun k => k
def eVar (i : Nat) : Ef := fun ρ ω => match ρ[i]? with
 | some (some u) => .ok u ω
 | _ => .stk
theorem Zbw (h1 : i ∉ m.B) (h2 : i ∉ m.M) : DE W m E (tVar i) (eVar i) := by
 intro H0 ρ ω σ Hc H ow S Q h
 unfold eVar at h
 split at h
 ·rename_i u e
  obtain ⟨v, q, r⟩ := S.cl i u h1 h2 e
  exact ⟨v, q, h Hc H (Ext.refl S.sub) S.pl v r⟩
 ·exact h.elim
theorem Zm0 : DB W m E (tVar i) (eVar i) := by
 intro H0 ρ ω σ Hc H ow S Q h
 unfold eVar at h
 split at h
 ·rename_i u e
  obtain ⟨v, q, r⟩ := S.get e
  exact ⟨v, q, h Hc H (Ext.refl S.sub) S.pl v r⟩
 ·exact h.elim
def eC (u : U) : Ef := fun ψ ω => .ok u ω
theorem de_c {u : U} {v : V} (h : ∀ H, RU W H u v) : DE W m E (tC v) (eC u) := fun H0 ρ ω σ Hc H ow S Q k => k Hc H (Ext.refl S.sub) S.pl v (h Hc)
def eOp (g : U -> U -> Option U) (fa fb : Ef) : Ef := fun ρ ω => (fa ρ ω).bnd fun a ω1 => (fb ρ ω1).bnd fun b ω2 => .of (g a b) ω2
def OpU (W : Wd) (r : R2) (g : U -> U -> Option U) : Prop := ∀ Hc H ω u1 u2 x y, Same Hc H -> PlOk W ω Hc H -> RB W Hc H u1 x -> RB W Hc H u2 y -> ∀ u, g u1 u2 = some u -> ∀ Q : VK, (∀ v Hc' H', Ext W Hc H Hc' H' -> PlOk W ω Hc' H' -> RU W Hc' u v -> Q v H') -> r x y H Q
theorem Zel (o : OpU W r g) (ha : DB W m E ta fa) (hb : DB W m E tb fb) : DE W m E (tOp r ta tb) (eOp g fa fb) := by
 intro H0 ρ ω σ Hc H ow S Q h
 refine ha H0 ρ ω σ Hc H ow S _ ((Aft.bnd h).imp fun a ω1 Hc1 H1 e1 p1 h1 x rx => ?_)
 refine hb H0 ρ ω1 σ Hc1 H1 ow (S.ext e1 p1) _ ((Aft.bnd h1).imp fun b ω2 Hc2 H2 e2 p2 h2 y ry => ?_)
 revert h2
 cases hg : g a b with
 | none => exact fun h2 => h2.elim
 | some u => exact fun h2 => o Hc2 H2 ω2 a b x y e2.sub p2 (rx.ext e2) ry u hg Q fun v Hc' H' e p rv => h2 Hc' H' e p v rv
def eUn (g : U -> Option U) (fa : Ef) : Ef := fun ρ ω => (fa ρ ω).bnd fun a ω1 => .of (g a) ω1
theorem Zq6 {q : V -> Hp -> VK -> Prop} {g : U -> Option U} (o : ∀ Hc H ω u1 x, Same Hc H -> PlOk W ω Hc H -> RB W Hc H u1 x -> ∀ u, g u1 = some u -> ∀ Q : VK, (∀ v Hc' H', Ext W Hc H Hc' H' -> PlOk W ω Hc' H' -> RU W Hc' u v -> Q v H') -> q x H Q) (ha : DB W m E ta fa) : DE W m E (tUn q ta) (eUn g fa) := by
 intro H0 ρ ω σ Hc H ow S Q h
 refine ha H0 ρ ω σ Hc H ow S _ ((Aft.bnd h).imp fun a ω1 Hc1 H1 e1 p1 h1 x rx => ?_)
 revert h1
 cases hg : g a with
 | none => exact fun h2 => h2.elim
 | some u => exact fun h2 => o Hc1 H1 ω1 a x e1.sub p1 rx u hg Q fun v Hc' H' e p rv => h2 Hc' H' e p v rv
def uNeg : U -> Option U
 | .int a => some (.int (-a))
 | _ => none
theorem Zm1 (ha : DB W m E ta fa) : DE W m E (tUn (rU fun i => .int (-i)) ta) (eUn uNeg fa) := Zq6 (fun Hc H ω u1 x s p rx u hg Q k => by
 unfold uNeg at hg
 split at hg
 ·cases hg; have := rx.int; subst this; exact ⟨_, rfl, k _ Hc H (Ext.refl s) p .int⟩
 ·cases hg) ha
theorem OpU.I0 {g : U -> U -> Option U} {q : Int -> Int -> V} {f : Int -> Int -> U} (hq : ∀ H a b, RU W H (f a b) (q a b)) (hg : ∀ a b u, g a b = some u -> ∃ i j, a = .int i /\ b = .int j /\ u = f i j) : OpU W (rI0 q) g := by
 intro Hc H ω u1 u2 x y s p rx ry u e Q k
 obtain ⟨i, j, rfl, rfl, rfl⟩ := hg _ _ _ e
 have := rx.int; subst this; have := ry.int; subst this
 exact ⟨i, j, rfl, rfl, k _ Hc H (Ext.refl s) p (hq _ _ _)⟩
theorem OpU.IC {g : U -> U -> Option U} {C : Int -> Int -> Prop} {q : Int -> Int -> V} {f : Int -> Int -> U} (hq : ∀ H a b, RU W H (f a b) (q a b)) (hg : ∀ a b u, g a b = some u -> ∃ i j, a = .int i /\ b = .int j /\ C i j /\ u = f i j) : OpU W (rI C q) g := by
 intro Hc H ω u1 u2 x y s p rx ry u e Q k
 obtain ⟨i, j, rfl, rfl, c, rfl⟩ := hg _ _ _ e
 have := rx.int; subst this; have := ry.int; subst this
 exact ⟨i, j, rfl, rfl, c, k _ Hc H (Ext.refl s) p (hq _ _ _)⟩
def uSub : U -> U -> Option U
 | .int a, .int b => some (.int (a - b))
 | _, _ => none
theorem Zm2 : OpU W (rI0 fun i j => .int (i - j)) uSub := .I0 (fun ψ ψ ψ => .int) fun a b u h => by
 unfold uSub at h; split at h <;> cases h; exact ⟨_, _, rfl, rfl, rfl⟩
def uLt : U -> U -> Option U
 | .int a, .int b => some (.bl (decide (a < b)))
 | _, _ => none
def uGt : U -> U -> Option U
 | .int a, .int b => some (.bl (decide (b < a)))
 | _, _ => none
def uGe : U -> U -> Option U
 | .int a, .int b => some (.bl (decide (b <= a)))
 | _, _ => none
theorem Zq7 : OpU W (rI0 fun i j => .bl (decide (i < j))) uLt := .I0 (fun ψ ψ ψ => .bl) fun a b u h => by
 unfold uLt at h; split at h <;> cases h; exact ⟨_, _, rfl, rfl, rfl⟩
theorem Zm3 : OpU W (rI0 fun i j => .bl (decide (j < i))) uGt := .I0 (fun ψ ψ ψ => .bl) fun a b u h => by
 unfold uGt at h; split at h <;> cases h; exact ⟨_, _, rfl, rfl, rfl⟩
theorem Zq8 : OpU W (rI0 fun i j => .bl (decide (j <= i))) uGe := .I0 (fun ψ ψ ψ => .bl) fun a b u h => by
 unfold uGe at h; split at h <;> cases h; exact ⟨_, _, rfl, rfl, rfl⟩
open Classical in
def uDiv : U -> U -> Option U
 | .int a, .int b => if Zi6 a b then some (.int (a / b)) else none
 | _, _ => none
theorem Zm4 : OpU W (rI Zi6 fun i j => .int (i / j)) uDiv := .IC (fun ψ ψ ψ => .int) fun a b u h => by
 unfold uDiv at h; split at h
 ·split at h <;> cases h; exact ⟨_, _, rfl, rfl, by assumption, rfl⟩
 ·cases h
open Classical in
def uMod : U -> U -> Option U
 | .int a, .int b => if 0 < b then some (.int (a % b)) else none
 | _, _ => none
theorem Zm5 : OpU W (rI (fun ψ j => 0 < j) fun i j => .int (i % j)) uMod := .IC (fun ψ ψ ψ => .int) fun a b u h => by
 unfold uMod at h; split at h
 ·split at h <;> cases h; exact ⟨_, _, rfl, rfl, by assumption, rfl⟩
 ·cases h
open Classical in
def uPow : U -> U -> Option U
 | .int a, .int b => if CPow a b then some (.int (a ^ b.toNat)) else none
 | _, _ => none
theorem Zm6 : OpU W (rI CPow fun i j => .int (i ^ j.toNat)) uPow := .IC (fun ψ ψ ψ => .int) fun a b u h => by
 unfold uPow at h; split at h
 ·split at h <;> cases h; exact ⟨_, _, rfl, rfl, by assumption, rfl⟩
 ·cases h
open Classical in
def uMul : U -> U -> Option U
 | .int a, .int b => if Zbf a b then some (.int (a * b)) else none
 | _, _ => none
theorem Zm7 : OpU W (rI Zbf fun i j => .int (i * j)) uMul := .IC (fun ψ ψ ψ => .int) fun a b u h => by
 unfold uMul at h; split at h
 ·split at h <;> cases h; exact ⟨_, _, rfl, rfl, by assumption, rfl⟩
 ·cases h
theorem Z0x {ω : Om} {Hc H : Hp} {p : Addr} {o : HO} (s : Same Hc H) (P : PlOk W ω Hc H) (n : H p = none) : Ext W Hc H (upd Hc p o) (upd H p o) /\ PlOk W ω (upd Hc p o) (upd H p o) :=
 ⟨(Ext.laid s n).1, P.same (Ext.laid s n).1 (Same.laid n)⟩
theorem Z0u {ω : Om} {Hc H : Hp} {p : Addr} {o : HO} (s : Same Hc H) (P : PlOk W ω Hc H) (n : H p = none) : Ext W Hc H Hc (upd H p o) /\ PlOk W ω Hc (upd H p o) :=
 ⟨(Ext.laid s n).2, P.same (Ext.laid s n).2 (Same.laid n)⟩
def Zm8 : R2 := fun x y H Q => ∃ a b ys, x = .ref a /\ y = .ref b /\ H a = some (.tup []) /\ H b = some (.tup ys) /\ Q (.ref b) H
theorem Zia {X : Cx} : OpR X (binaryOp .Add) Zm8 := by
 intro pins s σ H x y v u Q I rx ry h
 obtain ⟨a, b, ys, rfl, rfl, ha, hb, q⟩ := h
 cases rx
 cases ry
 obtain ⟨its, r1, p1, _⟩ := I.tuple (SqT.of (K := X.K) ha)
 obtain ⟨jts, r2, p2, _⟩ := I.tuple (SqT.of (K := X.K) hb)
 have e1 : its = [] := r1.nil_iff.mpr rfl
 obtain ⟨⟨c1, d1, t1, l1⟩, g1, hc1, n1, hd1⟩ := id p1
 obtain ⟨⟨c2, d2, t2, l2⟩, g2, hc2, n2, hd2⟩ := id p2
 simp only at hc1 hd1 hc2 hd2
 subst hc1 hd1 hc2 hd2
 exact concat_meets ⟨_, g1, rfl⟩ ⟨_, g2, rfl⟩ noFill_tuple_add seq_tuple_add PySem.F.slot_tuple_add PySem.F.entry_tuple_add (PySem.F.args_tuple_add_2 _ _) (Zq0 a b its.toArray jts.toArray n1 n2 d1 d2 l1 l2 (by simp [e1])) ⟨g1, g2, ⟨.ref b, H, I, rfl, q⟩⟩
def Zm9 (K : L2.Fg) : R2 := fun x y H Q => rI0 (fun i j => .int (i + j)) x y H Q \/ rCat x y H Q \/ Zli K x y H Q \/ Zm8 x y H Q
theorem Zib {X : Cx} {K : L2.Fg} (h : X.K = K) : OpR X (binaryOp .Add) (Zm9 K) := h ▸ Zl3.or (Zln.or (Zhx.or Zia))
open Classical in
def uAdd : U -> U -> Option U
 | .int a, .int b => some (.int (a + b))
 | .lst a, .lst b => if a.length + b.length <= sizeLine then some (.lst (a ++ b)) else none
 | .tup a, .tup b => if a.length + b.length <= sizeLine then some (.tup (a ++ b)) else none
 | _, _ => none
theorem Zq9 {ω : Om} {Hc H : Hp} {us ws : List U} {x y : V} {Q : VK} (s : Same Hc H) (p : PlOk W ω Hc H) (rx : RB W Hc H (.lst us) x) (ry : RB W Hc H (.lst ws) y) (hl : us.length + ws.length <= sizeLine)
  (k : ∀ a vs, H a = none -> RUs W Hc (us ++ ws) vs -> Q (.ref a) (upd H a (.lst vs))) : rCat x y H Q := by
 obtain ⟨a, vs, rfl, h1, r1⟩ := rx.lst s
 obtain ⟨b, zs, rfl, h2, r2⟩ := ry.lst s
 exact ⟨a, b, vs, zs, rfl, rfl, h1, h2, by rw [<- r1.len, <- r2.len]; exact hl, fun q n => k q _ n (r1.app r2)⟩
theorem Zma : OpU W (Zm9 W.K) uAdd := by
 intro Hc H ω u1 u2 x y s p rx ry u e Q k
 unfold uAdd at e; split at e
 ·cases e
  have := rx.int; subst this; have := ry.int; subst this
  exact .inl ⟨_, _, rfl, rfl, k _ Hc H (Ext.refl s) p .int⟩
 ·split at e <;> cases e
  exact .inr (.inl (Zq9 s p rx ry (by assumption) fun a vs n rr => k _ _ _ (Z0x s p n).1 (Z0x s p n).2 (.lst Z03 (rr.mono (Same.laid (s.free n))))))
 ·split at e <;> cases e
  obtain ⟨a, vs, rfl, h1, r1⟩ := rx.tup
  obtain ⟨b, zs, rfl, h2, r2⟩ := ry.tup
  by_cases z : vs = []
  ·subst z
   have l := r1.len
   have l0 : (_ : List U) = [] := List.length_eq_zero_iff.mp l
   exact .inr (.inr (.inr ⟨a, b, zs, rfl, rfl, s _ _ h1, s _ _ h2, k _ Hc H (Ext.refl s) p (.tup h2 (by rw [l0]; exact r2))⟩))
  ·refine .inr (.inr (.inl ⟨a, b, vs, zs, rfl, rfl, .of (s _ _ h1), .of (s _ _ h2), z, by rw [<- r1.len, <- r2.len]; assumption, fun z2 => ?_, fun ψ q n => ?_⟩))
   ·subst z2
    have l0 : (_ : List U) = [] := List.length_eq_zero_iff.mp r2.len
    exact k _ Hc H (Ext.refl s) p (.tup h1 (by rw [l0, List.append_nil]; exact r1))
   ·exact k _ _ _ (Z0x s p n).1 (Z0x s p n).2 (.tup Z03 ((r1.app r2).mono (Same.laid (s.free n))))
 ·cases e
def Zmb : R2 := fun x y H Q => ∃ a k v, x = .ref a /\ y = .int k /\ H a = some (.tup [v]) /\ -10000 <= k /\ k <= 10000 /\ (k = 1 -> Q (.ref a) H) /\ (k ≠ 1 -> ∀ p, H p = none -> Q (.ref p) (upd H p (.tup (List.replicate k.toNat v))))
theorem Zem {X : Cx} : OpR X (binaryOp .Mult) Zmb := by
 intro pins s σ H x y v u Q I rx ry h
 obtain ⟨a, k, w, rfl, rfl, ha, k0, k1, qa, qb⟩ := h
 cases rx
 obtain ⟨t, rfl⟩ := ry
 obtain ⟨its, r1, p1, _⟩ := I.tuple (SqT.of (K := X.K) ha)
 obtain ⟨u, rfl, ru⟩ := Vals.one r1
 obtain ⟨⟨c1, d1, t1, l1⟩, g1, hc1, n1, hd1⟩ := id p1
 simp only at hc1 hd1
 subst hc1 hd1
 have c1 : (decide (k < -2 ^ 63) || decide (k ≥ 2 ^ 63)) = false := by rw [decide_eq_false (by lia), decide_eq_false (by lia)]; rfl
 refine wpAny_binaryOp_repeat_ref (T := "tuple") (U := "int") (by decide) ⟨_, g1, rfl⟩ (fun s' => typeIs_int s' k t) Z3b F.fills_int_mul F.slot_int_rmul Z6m F.slot_int_index.lookup
  (call_meets F.slot_int_rmul (typeIs_int s k t) F.entry_int_rmul (F.args_int_rmul_2 _ _) (Zq1 k t a #[u] n1 d1 l1) ⟨g1, rfl, ⟨_, g1, rfl⟩, ?_⟩)
 by_cases e1 : k = 1
 ·exact call_meets F.slot_tuple_mul ⟨_, g1, rfl⟩ F.entry_tuple_mul (F.args_tuple_mul_2 _ _) (Zq2 k t a u n1 d1 l1 e1) ⟨g1, ⟨.ref a, H, I, rfl, qa e1⟩⟩
 ·have c2 : ((#[u] : Array Value).isEmpty || k == 1) = false := by simp [e1]
  by_cases e2 : k <= 0
  ·have z : k.toNat = 0 := by lia
   have qb' := qb e1 _ (I.hok.fresh (Nat.le_refl _))
   rw [z] at qb'
   exact call_meets F.slot_tuple_mul ⟨_, g1, rfl⟩ F.entry_tuple_mul (F.args_tuple_mul_2 _ _) (Zq3 k t a u n1 d1 l1 c1 c2 (by simp [e2])) ⟨g1, ⟨.ref s.heap.objs.size, _, I.laid (t' := s.toks) (o := .tup []) (fun b ob q => Heap.get?_push_of_some _ q) (Nat.le_refl _) ⟨Nat.zero_le _, [], .nil, IsTup.new _ _⟩, rfl, qb'⟩⟩
  ·have lk : k.toNat <= sizeLine := Nat.le_trans (show k.toNat <= 10000 by lia) (by decide)
   refine call_meets F.slot_tuple_mul ⟨_, g1, rfl⟩ F.entry_tuple_mul (F.args_tuple_mul_2 _ _) (Zq4 k t a u n1 d1 l1 c1 c2 (by simp; lia) (by simp; lia) ?_ ?_) ⟨g1, ?_⟩
   ·unfold Builtin.Tuple.tupleTooMany
    refine decide_eq_false ?_
    have z : (10000 : Int) <= (sizeLine : Int) := by decide
    simp
    lia
   ·rw [Z5a]; simpa using lk
   ·rw [Z5a, show (#[] : Array Value) ++ (List.replicate k.toNat u).toArray = (List.replicate k.toNat u).toArray by simp]
    exact ⟨.ref s.heap.objs.size, _, I.laid (t' := s.toks) (o := .tup (List.replicate k.toNat w)) (fun b ob q => Heap.get?_push_of_some _ q) (Nat.le_refl _) ⟨by simpa using lk, _, Z8t ru _, IsTup.new _ _⟩, rfl, qb e1 _ (I.hok.fresh (Nat.le_refl _))⟩
def Zmc : R2 := fun x y H Q => Zmb x y H Q \/ rRep x y H Q
theorem Zic {X : Cx} : OpR X (binaryOp .Mult) Zmc := Zem.or Zlo
theorem Zen {α : Type} (x : α) (n : Nat) : (List.replicate n [x]).flatten = List.replicate n x := by
 induction n with
 | zero => rfl
 | succ n ih => rw [List.replicate_succ, List.flatten_cons, ih]; rfl
open Classical in
def uRep : U -> U -> Option U
 | .tup [x], .int k => if -10000 <= k /\ k <= 10000 then some (.tup (List.replicate k.toNat x)) else none
 | .lst [x], .int k => if -10000 <= k /\ k <= 10000 then some (.lst (List.replicate k.toNat x)) else none
 | _, _ => none
theorem Zqa {ω : Om} {Hc H : Hp} {u : U} {k : Int} {x y : V} {Q : VK} (s : Same Hc H) (rx : RB W Hc H (.lst [u]) x) (ry : RB W Hc H (.int k) y) (hk : -10000 <= k /\ k <= 10000)
  (kk : ∀ a vs, H a = none -> RUs W Hc (List.replicate k.toNat u) vs -> Q (.ref a) (upd H a (.lst vs))) : rRep x y H Q := by
 obtain ⟨a, vs, rfl, h1, r1⟩ := rx.lst s
 have := ry.int; subst this
 rw [RUs] at r1
 obtain ⟨v, r, rfl, r1, r2⟩ := r1
 rw [RUs] at r2; subst r2
 have z : (10000 : Nat) <= sizeLine := by decide
 exact ⟨a, k, [v], rfl, rfl, h1, by lia, by lia, by simp; lia, fun q n => by rw [Zen]; exact kk q _ n (RUs.rep r1 _)⟩
theorem Zmd : OpU W Zmc uRep := by
 intro Hc H ω u1 u2 x y s p rx ry u e Q k
 unfold uRep at e; split at e
 ·split at e <;> cases e
  rename_i hk
  obtain ⟨a, vs, rfl, h1, r1⟩ := rx.tup
  have := ry.int; subst this
  have r0 := r1
  rw [RUs] at r1
  obtain ⟨v, r, rfl, r1, r2⟩ := r1
  rw [RUs] at r2; subst r2
  refine .inl ⟨a, _, v, rfl, rfl, s _ _ h1, hk.1, hk.2, fun z => ?_, fun z q n => k _ _ _ (Z0x s p n).1 (Z0x s p n).2 (.tup Z03 ((RUs.rep r1 _).mono (Same.laid (s.free n))))⟩
  subst z
  exact k _ Hc H (Ext.refl s) p (.tup h1 r0)
 ·split at e <;> cases e
  exact .inr (Zqa (ω := ω) s rx ry (by assumption) fun a vs n rr => k _ _ _ (Z0x s p n).1 (Z0x s p n).2 (.lst Z03 (rr.mono (Same.laid (s.free n)))))
 ·cases e
end
section
variable {W : Wd} {m : Md} {E : XK} {ta : TE} {fa : Ef} {i : Nat} {r : R2} {g : U -> U -> Option U}
theorem RUs.atI {H : Hp} {us : List U} {vs : List V} {k : Int} {u : U} (r : RUs W H us vs) (h : L2.atI us k = some u) : ∃ v, L2.atI vs k = some v /\ RU W H u v := by
 unfold L2.atI at h ⊢
 rw [<- r.len]
 cases e : ixN us.length k with
 | none => rw [e] at h; cases h
 | some j => rw [e] at h; exact r.at (i := 0) h
def uIx : U -> U -> Option U
 | .lst us, .int k => atI us k
 | .tup us, .int k => atI us k
 | _, _ => none
theorem Zqb : OpU W (rIxA W.K) uIx := by
 intro Hc H ω u1 u2 x y s p rx ry u e Q k
 unfold uIx at e; split at e
 ·obtain ⟨a, vs, rfl, h1, r1⟩ := rx.lst s
  have := ry.int; subst this
  obtain ⟨v, hv, rv⟩ := r1.atI e
  exact .inl ⟨a, vs, _, v, rfl, rfl, .of h1, hv, k v Hc H (Ext.refl s) p rv⟩
 ·obtain ⟨a, vs, rfl, h1, r1⟩ := rx.tup
  have := ry.int; subst this
  obtain ⟨v, hv, rv⟩ := r1.atI e
  exact .inr ⟨a, vs, _, v, rfl, rfl, .of (s _ _ h1), hv, k v Hc H (Ext.refl s) p rv⟩
 ·cases e
abbrev Pf := En -> Om -> Res (Option Int)
def DP (W : Wd) (m : Md) (E : XK) (t : TO) (f : Pf) : Prop := ∀ H0 ρ ω σ Hc H ow, Sr W m ρ ω σ H0 Hc H ow -> ∀ Q : Option Int -> Hp -> Prop, Aft W E Hc H (f ρ ω) (fun o ψ ψ H' => Q o H') -> t σ H Q
def pNo : Pf := fun ψ ω => .ok none ω
theorem Zqc : DP W m E Zb7 pNo := fun H0 ρ ω σ Hc H ow S Q k => k Hc H (Ext.refl S.sub) S.pl
def asI : U -> Option (Option Int)
 | .int i => some (some i)
 | _ => none
def Z2f (fa : Ef) : Pf := fun ρ ω => (fa ρ ω).bnd fun u ω1 => .of (asI u) ω1
theorem Zid (ha : DB W m E ta fa) : DP W m E (Zlg ta) (Z2f fa) := by
 intro H0 ρ ω σ Hc H ow S Q h
 refine ha H0 ρ ω σ Hc H ow S _ ((Aft.bnd h).imp fun a ω1 Hc1 H1 e1 p1 h1 x rx => ?_)
 revert h1
 cases a with
 | int i => intro h1; have := rx.int; subst this; exact ⟨i, rfl, h1 Hc1 H1 (Ext.refl e1.sub) p1⟩
 | _ => exact fun h1 => h1.elim
def cutG {α : Type} (xs : List α) (lo hi : Option Int) : List α := (xs.drop (HT.sIx xs.length 0 lo)).take (HT.sIx xs.length xs.length hi - HT.sIx xs.length 0 lo)
def rSlU (K : L2.Fg) : V -> Option Int -> Option Int -> Hp -> VK -> Prop := fun x lo hi H Q => rSlL K x lo hi H Q \/ rSlT K x lo hi H Q \/ rSlW K x lo hi H Q
theorem sl_u {X : Cx} {K : L2.Fg} (h : X.K = K) : SlR X (rSlU K) := h ▸ Zhz.or (Zlh.or Zbr)
def uSl : U -> Option Int -> Option Int -> Option U
 | .lst us, lo, hi => some (.lst (cutG us lo hi))
 | .tup us, lo, hi => some (.tup (cutG us lo hi))
 | _, _, _ => none
def uSlL : U -> Option Int -> Option Int -> Option U
 | .lst us, lo, hi => some (.lst (cutG us lo hi))
 | _, _, _ => none
def eSl (g : U -> Option Int -> Option Int -> Option U) (fa : Ef) (fl fh : Pf) : Ef := fun ρ ω => (fa ρ ω).bnd fun a ω1 => (fl ρ ω1).bnd fun l ω2 => (fh ρ ω2).bnd fun h ω3 => .of (g a l h) ω3
theorem Zie {H : Hp} {us : List U} {vs : List V} {lo hi : Option Int} (r : RUs W H us vs) : RUs W H (cutG us lo hi) (cutV vs lo hi) := by
 unfold cutG cutV
 rw [<- r.len]
 exact (r.drop _).take _
theorem Zqd {tl th : TO} {fl fh : Pf} (ha : DB W m E ta fa) (hl : DP W m E tl fl) (hh : DP W m E th fh) : DE W m E (tSl (rSlU W.K) ta tl th) (eSl uSl fa fl fh) := by
 intro H0 ρ ω σ Hc H ow S Q h
 refine ha H0 ρ ω σ Hc H ow S _ ((Aft.bnd h).imp fun a ω1 Hc1 H1 e1 p1 h1 x rx => ?_)
 have S1 := S.ext e1 p1
 refine hl H0 ρ ω1 σ Hc1 H1 ow S1 _ ((Aft.bnd h1).imp fun l ω2 Hc2 H2 e2 p2 h2 => ?_)
 refine hh H0 ρ ω2 σ Hc2 H2 ow (S1.ext e2 p2) _ ((Aft.bnd h2).imp fun hi ω3 Hc3 H3 e3 p3 h3 => ?_)
 have rx3 := (rx.ext e2).ext e3
 have s := e3.sub
 revert h3
 cases a with
 | lst us =>
  intro h3
  obtain ⟨a, vs, rfl, q1, r1⟩ := rx3.lst s
  exact .inl ⟨a, vs, rfl, .of q1, fun p n => h3 _ _ (Z0x s p3 n).1 (Z0x s p3 n).2 _ (.lst Z03 ((Zie r1).mono (Same.laid (s.free n))))⟩
 | tup us =>
  intro h3
  obtain ⟨a, vs, rfl, q1, r1⟩ := rx3.tup
  by_cases z : HT.sIx vs.length 0 l = 0 /\ HT.sIx vs.length vs.length hi = vs.length
  ·refine .inr (.inr ⟨a, vs, rfl, .of (s _ _ q1), z, h3 Hc3 H3 (Ext.refl s) p3 _ (.tup q1 ?_)⟩)
   have e : cutV vs l hi = vs := by unfold cutV; rw [z.1, z.2]; simp
   have r2 := Zie (lo := l) (hi := hi) r1
   rw [e] at r2
   exact r2
  ·exact .inr (.inl ⟨a, vs, rfl, .of (s _ _ q1), z, fun p n => h3 _ _ (Z0x s p3 n).1 (Z0x s p3 n).2 _ (.tup Z03 ((Zie r1).mono (Same.laid (s.free n))))⟩)
 | _ => exact fun h3 => h3.elim
def Zqe (K : L2.Fg) : V -> Option Int -> Hp -> VK -> Prop := fun x st H Q => rRev K x st H Q \/ Zq5 K x st H Q
def Zme (K : L2.Fg) (te : TE) (ts : TO) : TE := fun σ H Q => te σ H fun x H1 => ts σ H1 fun st H2 => Zqe K x st H2 Q
theorem Zif {X : Cx} {K : L2.Fg} {e se : Expr} {te : TE} {ts : TO} {p2 pos : Pos} (hK : X.K = K) (he : PE X e te) (hs : PO X (some se) ts) : PE X (.Subscript e (.Slice none none (some se) p2) pos) (Zme K te ts) := by
 subst hK
 intro pins s σ H Q I h
 refine Subscript_ (thn (he pins s σ H _ I h) fun v s1 ⟨x, H1, I1, r1, q1⟩ => ?_)
 refine wpAny_Slice ?_
 rw [evalPart_none]
 refine wpAny_pure (wpAny_pure ?_)
 refine thn (hs pins s1 σ H1 _ I1 q1) fun vs s3 ⟨st, H3, I3, ps, q3⟩ => ?_
 rcases q3 with ⟨a, xs, rfl, rfl, hx, q⟩ | ⟨a, xs, rfl, rfl, hx, q⟩
 ·cases r1
  have I4 : Inv X pins σ H3 { s3 with heap := s3.heap.push { cls := .type "slice", data := .fields #[.none, .none, vs] } } := I3.kept (t' := s3.toks) fun b ob q => Heap.get?_push_of_some _ q
  obtain ⟨its, r, ht, hz⟩ := I4.list hx
  show wpAny (model X.prog X.w) X.A (subscriptTail e (.Slice none none (some se) p2) (.ref a) (.ref s3.heap.objs.size)) (EP X pins σ Q) X.xe { s3 with heap := s3.heap.push { cls := .type "slice", data := .fields #[.none, .none, vs] } }
  refine tail_any (T := "list") (ops := [.ref a, .ref s3.heap.objs.size]) ht.isList.typeIs slot_list_getitem.lookup ?_ (by with_unfolding_all rfl)
  refine wpAny_getItem_list_slice ht.isList (Heap.IsSliceOf.new ..) .none .none ps (by decide) ?_ (by rw [List.size_toArray, <- r.length]; exact hz)
  rw [Zbq]
  refine ⟨.ref _, _, I4.laid (t' := s3.toks) (o := .lst xs.reverse) (fun b ob q => Heap.get?_push_of_some _ q) (Nat.le_refl _) ?_, rfl, q _ (I4.hok.fresh (Nat.le_refl _))⟩
  exact ⟨by rw [List.length_reverse]; exact hz, _, 0, r.reverse, Heap.get?_push_size _ rfl⟩
 ·cases r1
  have I4 : Inv X pins σ H3 { s3 with heap := s3.heap.push { cls := .type "slice", data := .fields #[.none, .none, vs] } } := I3.kept (t' := s3.toks) fun b ob q => Heap.get?_push_of_some _ q
  obtain ⟨its, r, ht, hz⟩ := I4.tuple hx
  show wpAny (model X.prog X.w) X.A (subscriptTail e (.Slice none none (some se) p2) (.ref a) (.ref s3.heap.objs.size)) (EP X pins σ Q) X.xe { s3 with heap := s3.heap.push { cls := .type "slice", data := .fields #[.none, .none, vs] } }
  refine tail_any (T := "tuple") (ops := [.ref a, .ref s3.heap.objs.size]) ht.typeIs PyProof.Rows.slot_tuple_getitem.lookup ?_ (by with_unfolding_all rfl)
  refine Zbs ht (Heap.IsSliceOf.new ..) ps (by rw [<- r.length]; exact hz) ?_
  refine ⟨.ref _, _, I4.laid (t' := s3.toks) (o := .tup xs.reverse) (fun b ob q => Heap.get?_push_of_some _ q) (Nat.le_refl _) ?_, rfl, q _ (I4.hok.fresh (Nat.le_refl _))⟩
  exact ⟨by rw [List.length_reverse]; exact hz, _, r.reverse, IsTup.new _ _⟩
def uRev : U -> Option Int -> Option U
 | .lst us, some k => if k = -1 then some (.lst us.reverse) else none
 | .tup us, some k => if k = -1 then some (.tup us.reverse) else none
 | _, _ => none
def eRev (fa : Ef) (fs : Pf) : Ef := fun ρ ω => (fa ρ ω).bnd fun a ω1 => (fs ρ ω1).bnd fun l ω2 => .of (uRev a l) ω2
theorem Zmf {ts : TO} {fs : Pf} (ha : DB W m E ta fa) (hl : DP W m E ts fs) : DE W m E (Zme W.K ta ts) (eRev fa fs) := by
 intro H0 ρ ω σ Hc H ow S Q h
 refine ha H0 ρ ω σ Hc H ow S _ ((Aft.bnd h).imp fun a ω1 Hc1 H1 e1 p1 h1 x rx => ?_)
 refine hl H0 ρ ω1 σ Hc1 H1 ow (S.ext e1 p1) _ ((Aft.bnd h1).imp fun l ω2 Hc2 H2 e2 p2 h2 => ?_)
 have rx2 := rx.ext e2
 have s := e2.sub
 revert h2
 cases hg : uRev a l with
 | none => exact fun h => h.elim
 | some u =>
  intro h3
  unfold uRev at hg; split at hg
  ·split at hg <;> cases hg
   rename_i hk; subst hk
   obtain ⟨a, vs, rfl, q1, r1⟩ := rx2.lst s
   exact .inl ⟨a, vs, rfl, rfl, .of q1, fun p n => h3 _ _ (Z0x s p2 n).1 (Z0x s p2 n).2 _ (.lst Z03 (r1.rev.mono (Same.laid (s.free n))))⟩
  ·split at hg <;> cases hg
   rename_i hk; subst hk
   obtain ⟨a, vs, rfl, q1, r1⟩ := rx2.tup
   exact .inr ⟨a, vs, rfl, rfl, .of (s _ _ q1), fun p n => h3 _ _ (Z0x s p2 n).1 (Z0x s p2 n).2 _ (.tup Z03 (r1.rev.mono (Same.laid (s.free n))))⟩
  ·cases hg
mutual
def U.toD : U -> Option D
 | .non => some .non
 | .bl b => some (.bl b)
 | .int i => some (.int i)
 | .str x => some (.str x)
 | .tup xs => (U.toDs xs).map D.tup
 | _ => none
def U.toDs : List U -> Option (List D)
 | [] => some []
 | u :: us => (U.toD u).bind fun d => (U.toDs us).map fun ds => d :: ds
end
mutual
theorem Zqf {H : Hp} : ∀ {u : U} {v : V} {d : D}, u.toD = some d -> RU W H u v -> DV W.K H d v
 | .non, _, _, e, h => by rw [U.toD] at e; cases e; rw [RU] at h; rw [DV]; exact h
 | .bl _, _, _, e, h => by rw [U.toD] at e; cases e; rw [RU] at h; rw [DV]; exact h
 | .int _, _, _, e, h => by rw [U.toD] at e; cases e; rw [RU] at h; rw [DV]; exact h
 | .str _, _, _, e, h => by rw [U.toD] at e; cases e; rw [RU] at h; rw [DV]; exact h
 | .tup xs, _, d, e, h => by
  rw [U.toD] at e
  cases q : U.toDs xs with
  | none => rw [q] at e; cases e
  | some ds =>
   rw [q] at e; cases e
   rw [RU] at h
   obtain ⟨a, vs, e1, h1, r1⟩ := h
   rw [DV]
   exact ⟨a, vs, e1, .of h1, Z4o q r1⟩
 | .ty _, _, _, e, h => by rw [U.toD] at e; cases e; all_goals (intros; contradiction)
 | .nm _, _, _, e, h => by rw [U.toD] at e; cases e; all_goals (intros; contradiction)
 | .exc _ _, _, _, e, h => by rw [U.toD] at e; cases e; all_goals (intros; contradiction)
 | .pile, _, _, e, h => by rw [U.toD] at e; cases e; all_goals (intros; contradiction)
 | .lst _, _, _, e, h => by rw [U.toD] at e; cases e; all_goals (intros; contradiction)
 | .scr _, _, _, e, h => by rw [U.toD] at e; cases e; all_goals (intros; contradiction)
 | .dic _ _, _, _, e, h => by rw [U.toD] at e; cases e; all_goals (intros; contradiction)
theorem Z4o {H : Hp} : ∀ {us : List U} {vs : List V} {ds : List D}, U.toDs us = some ds -> RUs W H us vs -> DVs W.K H ds vs
 | [], _, _, e, h => by rw [U.toDs] at e; cases e; rw [RUs] at h; rw [DVs]; exact h
 | u :: us, _, ds, e, h => by
  rw [U.toDs] at e
  cases q : U.toD u with
  | none => rw [q] at e; cases e
  | some d =>
   cases q2 : U.toDs us with
   | none => rw [q, q2] at e; cases e
   | some ds2 =>
    rw [q, q2] at e; cases e
    rw [RUs] at h
    obtain ⟨v, r, e1, h1, r1⟩ := h
    rw [DVs]
    exact ⟨v, r, e1, Zqf q h1, Z4o q2 r1⟩
end
def uEqs (a b : List U) : Option Bool := (U.toDs a).bind fun d => (U.toDs b).bind fun e => if D.depths d <= 40 then some (D.eqs d e) else none
def uEqI (a : Int) : U -> Option Bool
 | .int b => some (decide (a = b))
 | .non => some false
 | .str _ => some false
 | _ => none
def uEqK (a : Bool) : U -> Option Bool
 | .bl b => some (decide (a = b))
 | .non => some false
 | .str _ => some false
 | _ => none
def uEqS (a : Str) : U -> Option Bool
 | .str b => some (decide (a = b))
 | .non => some false
 | .int _ => some false
 | .bl _ => some false
 | _ => none
def uEqN : U -> Option Bool
 | .non => some true
 | .int _ => some false
 | .bl _ => some false
 | .str _ => some false
 | _ => none
def uEqT (a : List U) : U -> Option Bool
 | .tup b => uEqs a b
 | _ => none
def uEqL (a : List U) : U -> Option Bool
 | .lst b => uEqs a b
 | _ => none
def uEqB : U -> U -> Option Bool
 | .tup a => uEqT a
 | .lst a => uEqL a
 | .int a => uEqI a
 | .bl a => uEqK a
 | .str a => uEqS a
 | .non => uEqN
 | _ => fun ψ => none
def uEq (a b : U) : Option U := (uEqB a b).map U.bl
def uNe (a b : U) : Option U := (uEqB a b).map fun k => U.bl (!k)
theorem Zgk {Hc H : Hp} {a b : List U} {k : Bool} {vs ws : List V} (s : Same Hc H) (h : uEqs a b = some k) (r1 : RUs W Hc a vs) (r2 : RUs W Hc b ws) : ∃ d e, DVs W.K H d vs /\ DVs W.K H e ws /\ D.depths d <= 40 /\ k = D.eqs d e := by
 unfold uEqs at h
 cases q : U.toDs a with
 | none => rw [q] at h; cases h
 | some d =>
  cases q2 : U.toDs b with
  | none => rw [q, q2] at h; cases h
  | some e =>
   rw [q, q2] at h
   simp only [Option.bind_some] at h
   split at h
   ·cases h; exact ⟨d, e, Z4o q (r1.mono s), Z4o q2 (r2.mono s), by assumption, rfl⟩
   ·cases h
theorem noS {α : Type} {a : α} {G : Prop} (h : (none : Option α) = some a) : G := nomatch h
theorem Zmg {ω : Om} {Hc H : Hp} {u1 u2 : U} {k : Bool} {x y : V} {Q : VK} (s : Same Hc H) (rx : RB W Hc H u1 x) (ry : RB W Hc H u2 y) (h : uEqB u1 u2 = some k) :
  (Q (.bl k) H -> rEqA W.K x y H Q) /\ (Q (.bl (!k)) H -> rNeA W.K x y H Q) := by
 have no : ∀ {v : V}, y = v -> scal x v = true -> k = decide (x = v) -> (Q (.bl k) H -> rEqA W.K x y H Q) /\ (Q (.bl (!k)) H -> rNeA W.K x y H Q) := fun e z d => by
  subst e; rw [d]; exact ⟨fun q => .inl ⟨z, q⟩, fun q => .inl ⟨z, q⟩⟩
 cases u1 with
 | tup a1 =>
  cases u2 with
  | tup b1 =>
   obtain ⟨a, vs, rfl, h1, r1⟩ := rx.tup
   obtain ⟨b, ws, rfl, h2, r2⟩ := ry.tup
   obtain ⟨d, e, q1, q2, q3, rfl⟩ := Zgk s h r1 r2
   have d1 : DV W.K H (.tup d) (.ref a) := by rw [DV]; exact ⟨a, vs, rfl, .of (s _ _ h1), q1⟩
   have d2 : DV W.K H (.tup e) (.ref b) := by rw [DV]; exact ⟨b, ws, rfl, .of (s _ _ h2), q2⟩
   exact ⟨fun q => .inr (.inl ⟨d, e, d1, d2, q3, q⟩), fun q => .inr (.inl ⟨d, e, d1, d2, q3, q⟩)⟩
  | _ => exact noS h
 | lst a1 =>
  cases u2 with
  | lst b1 =>
   obtain ⟨a, vs, rfl, h1, r1⟩ := rx.lst s
   obtain ⟨b, ws, rfl, h2, r2⟩ := ry.lst s
   obtain ⟨d, e, q1, q2, q3, rfl⟩ := Zgk s h r1 r2
   exact ⟨fun q => .inr (.inr ⟨a, b, vs, ws, d, e, rfl, rfl, .of h1, .of h2, q1, q2, q3, q⟩), fun q => .inr (.inr ⟨a, b, vs, ws, d, e, rfl, rfl, .of h1, .of h2, q1, q2, q3, q⟩)⟩
  | _ => exact noS h
 | int a =>
  have := rx.int; subst this
  cases u2 with
  | int b => cases h; exact no ry.int rfl (by simp)
  | non => cases h; exact no ry.non rfl rfl
  | str b => cases h; exact no ry.str rfl rfl
  | _ => exact noS h
 | bl a =>
  have := rx.bl; subst this
  cases u2 with
  | bl b => cases h; exact no ry.bl rfl (by simp)
  | non => cases h; exact no ry.non rfl rfl
  | str b => cases h; exact no ry.str rfl rfl
  | _ => exact noS h
 | str a =>
  have := rx.str; subst this
  cases u2 with
  | str b => cases h; exact no ry.str rfl (by simp)
  | non => cases h; exact no ry.non rfl rfl
  | int b => cases h; exact no ry.int rfl rfl
  | bl b => cases h; exact no ry.bl rfl rfl
  | _ => exact noS h
 | non =>
  have := rx.non; subst this
  cases u2 with
  | non => cases h; exact no ry.non rfl rfl
  | int b => cases h; exact no ry.int rfl rfl
  | bl b => cases h; exact no ry.bl rfl rfl
  | str b => cases h; exact no ry.str rfl rfl
  | _ => exact noS h
 | _ => exact noS h
theorem Zmh : OpU W (rEqA W.K) uEq := by
 intro Hc H ω u1 u2 x y s p rx ry u e Q k
 unfold uEq at e
 cases q : uEqB u1 u2 with
 | none => rw [q] at e; cases e
 | some b => rw [q] at e; cases e; exact (Zmg (ω := ω) s rx ry q).1 (k _ Hc H (Ext.refl s) p .bl)
theorem Zqg : OpU W (rNeA W.K) uNe := by
 intro Hc H ω u1 u2 x y s p rx ry u e Q k
 unfold uNe at e
 cases q : uEqB u1 u2 with
 | none => rw [q] at e; cases e
 | some b => rw [q] at e; cases e; exact (Zmg (ω := ω) s rx ry q).2 (k _ Hc H (Ext.refl s) p .bl)
theorem Zgl {X : Cx} {K : L2.Fg} (h : X.K = K) (hu : X.A.units + 64 < cLine) : OpR X (compareOp .Eq) (rEqA K) := h ▸ Zlx hu
theorem Zmi {X : Cx} {K : L2.Fg} (h : X.K = K) (hu : X.A.units + 64 < cLine) : OpR X (compareOp .NotEq) (rNeA K) := h ▸ Zly hu
def Z2y : U -> Bool
 | .non => true
 | _ => false
def uIs (neg : Bool) : U -> U -> Option U
 | a, .non => some (.bl (if neg then !Z2y a else Z2y a))
 | _, _ => none
theorem Zig {Hc H : Hp} {u : U} {x : V} (r : RB W Hc H u x) : decide (x = .non) = Z2y u := by
 rcases r with r | ⟨a, o, rfl, _, _, r⟩
 ·cases u with
  | non => rw [RU] at r; subst r; rfl
  | bl b => rw [RU] at r; subst r; rfl
  | int b => rw [RU] at r; subst r; rfl
  | str b => rw [RU] at r; subst r; rfl
  | ty b => rw [RU] at r; subst r; rfl
  | nm b => rw [RU] at r; obtain ⟨a, rfl, _⟩ := r; rfl
  | exc c pl => cases pl with
   | none => rw [RU] at r; obtain ⟨a, C, rfl, _⟩ := r; rfl
   | some n => rw [RU] at r; obtain ⟨a, C, d, rfl, _⟩ := r; rfl
  | pile => rw [RU] at r; subst r; rfl
  | tup b => rw [RU] at r; obtain ⟨a, vs, rfl, _⟩ := r; rfl
  | lst b => rw [RU] at r; obtain ⟨a, vs, rfl, _⟩ := r; rfl
  | scr b => rw [RU] at r; obtain ⟨a, rfl, _⟩ := r; rfl
  | dic b c => rw [RU] at r; obtain ⟨a, ob, kvs, rfl, _⟩ := r; rfl
 ·cases u with
  | lst b => rfl
  | dic b c => rfl
  | _ => exact r.elim
theorem Zqh : OpU W (fun x y H Q => y = .non /\ Q (.bl (decide (x = .non))) H) (uIs false) := by
 intro Hc H ω u1 u2 x y s p rx ry u e Q k
 unfold uIs at e; split at e
 ·cases e; exact ⟨ry.non, by rw [Zig rx]; exact k _ Hc H (Ext.refl s) p .bl⟩
 ·cases e
end
section
variable {W : Wd} {m : Md} {E : XK} {ta tb : TE} {fa fb : Ef} {tt tt' : TT} {ft ft' : Tf} {i : Nat} {r : R2} {g : U -> U -> Option U} {bs : List Bool} {tr : TA} {fr : Af}
def asB : U -> Option Bool
 | .bl b => some b
 | _ => none
def tfB (fa : Ef) : Tf := fun ρ ω => (fa ρ ω).bnd fun u ω1 => .of (asB u) ω1
theorem dt_b (ha : DB W m E ta fa) : DT W m E (tB ta) (tfB fa) := by
 intro H0 ρ ω σ Hc H ow S Q h
 refine ha H0 ρ ω σ Hc H ow S _ ((Aft.bnd h).imp fun a ω1 Hc1 H1 e1 p1 h1 x rx => ?_)
 revert h1
 cases a with
 | bl b => intro h1; have := rx.bl; subst this; exact ⟨b, rfl, h1 Hc1 H1 (Ext.refl e1.sub) p1⟩
 | _ => exact fun h1 => h1.elim
theorem dt_t (ha : DB W m E ta fa) : DT W m E (Zla ta) (tfB fa) := dt_b ha
def Zbx (ft ft' : Tf) : Tf := fun ρ ω => (ft ρ ω).bnd fun b ω1 => if b = true then ft' ρ ω1 else .ok false ω1
def tfOr (ft ft' : Tf) : Tf := fun ρ ω => (ft ρ ω).bnd fun b ω1 => if b = true then .ok true ω1 else ft' ρ ω1
def Zby (ft : Tf) : Tf := fun ρ ω => (ft ρ ω).bnd fun b ω1 => .ok (!b) ω1
def Z14 : Tf := fun ψ ω => .ok true ω
theorem Zih : DT W m E Zlp Z14 := fun H0 ρ ω σ Hc H ow S Q k => k Hc H (Ext.refl S.sub) S.pl
theorem Zmj (h1 : DT W m E tt ft) (h2 : DT W m E tt' ft') : DT W m E (tAnd tt tt') (Zbx ft ft') := by
 intro H0 ρ ω σ Hc H ow S Q h
 refine h1 H0 ρ ω σ Hc H ow S _ ((Aft.bnd h).imp fun b ω1 Hc1 H1 e1 p1 k => ?_)
 cases b with
 | true => exact h2 H0 ρ ω1 σ Hc1 H1 ow (S.ext e1 p1) Q k
 | false => exact k Hc1 H1 (Ext.refl e1.sub) p1
theorem Zqi (h1 : DT W m E tt ft) (h2 : DT W m E tt' ft') : DT W m E (tOr tt tt') (tfOr ft ft') := by
 intro H0 ρ ω σ Hc H ow S Q h
 refine h1 H0 ρ ω σ Hc H ow S _ ((Aft.bnd h).imp fun b ω1 Hc1 H1 e1 p1 k => ?_)
 cases b with
 | false => exact h2 H0 ρ ω1 σ Hc1 H1 ow (S.ext e1 p1) Q k
 | true => exact k Hc1 H1 (Ext.refl e1.sub) p1
theorem Zmk (h1 : DT W m E tt ft) : DT W m E (tNot tt) (Zby ft) := by
 intro H0 ρ ω σ Hc H ow S Q h
 exact h1 H0 ρ ω σ Hc H ow S _ ((Aft.bnd h).imp fun b ω1 Hc1 H1 e1 p1 k => k Hc1 H1 (Ext.refl e1.sub) p1)
def eAnd (fa fb : Ef) : Ef := fun ρ ω => (fa ρ ω).bnd fun u ω1 => match u with
 | .bl b => if b = true then fb ρ ω1 else .ok (.bl false) ω1
 | _ => .stk
theorem Zml (h1 : DB W m E ta fa) (h2 : DE W m E tb fb) : DE W m E (Zku ta tb) (eAnd fa fb) := by
 intro H0 ρ ω σ Hc H ow S Q h
 refine h1 H0 ρ ω σ Hc H ow S _ ((Aft.bnd h).imp fun u ω1 Hc1 H1 e1 p1 k x rx => ?_)
 revert k
 cases u with
 | bl b =>
  intro k
  have := rx.bl; subst this
  refine ⟨b, rfl, ?_⟩
  cases b with
  | true => exact h2 H0 ρ ω1 σ Hc1 H1 ow (S.ext e1 p1) Q k
  | false => exact k Hc1 H1 (Ext.refl e1.sub) p1 _ .bl
 | _ => exact fun k => k.elim
theorem RBs.ext {Hc H Hc' H' : Hp} (e : Ext W Hc H Hc' H') : ∀ {bs : List Bool} {us : List U} {vs : List V}, RBs W Hc H bs us vs -> RBs W Hc' H' bs us vs
 | [], [], [], _ => trivial
 | b :: bs, u :: us, v :: vs, h => by
  unfold RBs at h ⊢
  refine ⟨?_, RBs.ext e h.2⟩
  have h1 := h.1
  cases b with
  | true => exact RB.ext h1 e
  | false => exact RU.mono e.sc h1
 | [], _ :: _, _, h => by unfold RBs at h; exact h.elim
 | [], [], _ :: _, h => by unfold RBs at h; exact h.elim
 | _ :: _, [], _, h => by unfold RBs at h; exact h.elim
 | _ :: _, _ :: _, [], h => by unfold RBs at h; exact h.elim
def aNil : Af := fun ψ ω => .ok [] ω
def Z01 (fa : Ef) (fr : Af) : Af := fun ρ ω => (fa ρ ω).bnd fun u ω1 => (fr ρ ω1).bnd fun us ω2 => .ok (u :: us) ω2
theorem Zmm : DA W m E [] tNil aNil := fun H0 ρ ω σ Hc H ow S Q k => k Hc H (Ext.refl S.sub) S.pl [] trivial
theorem da_b (ha : DB W m E ta fa) (hr : DA W m E bs tr fr) : DA W m E (true :: bs) (Z3l ta tr) (Z01 fa fr) := by
 intro H0 ρ ω σ Hc H ow S Q h
 refine ha H0 ρ ω σ Hc H ow S _ ((Aft.bnd h).imp fun u ω1 Hc1 H1 e1 p1 h1 x rx => ?_)
 refine hr H0 ρ ω1 σ Hc1 H1 ow (S.ext e1 p1) _ ((Aft.bnd h1).imp fun us ω2 Hc2 H2 e2 p2 h2 xs rs => ?_)
 exact h2 Hc2 H2 (Ext.refl e2.sub) p2 _ ⟨rx.ext e2, rs⟩
theorem da_e (ha : DE W m E ta fa) (hr : DA W m E bs tr fr) : DA W m E (false :: bs) (Z3l ta tr) (Z01 fa fr) := by
 intro H0 ρ ω σ Hc H ow S Q h
 refine ha H0 ρ ω σ Hc H ow S _ ((Aft.bnd h).imp fun u ω1 Hc1 H1 e1 p1 h1 x rx => ?_)
 refine hr H0 ρ ω1 σ Hc1 H1 ow (S.ext e1 p1) _ ((Aft.bnd h1).imp fun us ω2 Hc2 H2 e2 p2 h2 xs rs => ?_)
 exact h2 Hc2 H2 (Ext.refl e2.sub) p2 _ ⟨rx.mono e2.sc, rs⟩
def offs : List Bool -> Bool
 | [] => true
 | b :: bs => !b && offs bs
theorem RBs.off {Hc H : Hp} : ∀ {bs : List Bool} {us : List U} {vs : List V}, offs bs = true -> RBs W Hc H bs us vs -> RUs W Hc us vs
 | [], [], [], _, _ => .nil
 | b :: bs, u :: us, v :: vs, o, h => by
  unfold RBs at h
  unfold offs at o
  simp only [Bool.and_eq_true, Bool.not_eq_true'] at o
  have h1 := h.1
  rw [o.1] at h1
  exact .cons h1 (RBs.off o.2 h.2)
 | [], _ :: _, _, _, h => by unfold RBs at h; exact h.elim
 | [], [], _ :: _, _, h => by unfold RBs at h; exact h.elim
 | _ :: _, [], _, _, h => by unfold RBs at h; exact h.elim
 | _ :: _, _ :: _, [], _, h => by unfold RBs at h; exact h.elim
open Classical in
def mkT (us : List U) : Option U := if us.length <= sizeLine then some (.tup us) else none
open Classical in
def mkL (us : List U) : Option U := if us.length <= sizeLine then some (.lst us) else none
open Classical in
def eTup (fr : Af) : Ef := fun ρ ω => (fr ρ ω).bnd fun us ω1 => .of (mkT us) ω1
open Classical in
def eLst (fr : Af) : Ef := fun ρ ω => (fr ρ ω).bnd fun us ω1 => .of (mkL us) ω1
theorem Zmn (ho : offs bs = true) (hr : DA W m E bs tr fr) : DE W m E (tTup tr) (eTup fr) := by
 intro H0 ρ ω σ Hc H ow S Q h
 refine hr H0 ρ ω σ Hc H ow S _ ((Aft.bnd h).imp fun us ω1 Hc1 H1 e1 p1 h1 xs rs => ?_)
 have rr := rs.off ho
 revert h1
 unfold mkT
 split
 ·rename_i hl
  intro h1
  exact ⟨by rw [<- rr.len]; exact hl, fun p n => h1 _ _ (Z0x e1.sub p1 n).1 (Z0x e1.sub p1 n).2 _ (.tup Z03 (rr.mono (Same.laid (e1.sub.free n))))⟩
 ·exact fun h1 => h1.elim
theorem Zmo (ho : offs bs = true) (hr : DA W m E bs tr fr) : DF W m E (tLst tr) (eLst fr) := by
 intro H0 ρ ω σ Hc H ow S Q h
 refine hr H0 ρ ω σ Hc H ow S _ ((Aft.bnd h).imp fun us ω1 Hc1 H1 e1 p1 h1 xs rs => ?_)
 have rr := rs.off ho
 revert h1
 unfold mkL
 split
 ·rename_i hl
  intro h1
  exact ⟨by rw [<- rr.len]; exact hl, fun p n => h1 _ _ (Z0u e1.sub p1 n).1 (Z0u e1.sub p1 n).2 _ _ _ rfl (e1.sub.free n) (e1.frz' n) Z03 rr⟩
 ·exact fun h1 => h1.elim
def Z2z (W : Wd) (bs : List Bool) (r : List V -> Hp -> VK -> Prop) (g : List U -> Option U) : Prop := ∀ Hc H ω us vs, Same Hc H -> PlOk W ω Hc H -> RBs W Hc H bs us vs -> ∀ u, g us = some u -> ∀ Q : VK, (∀ v Hc' H', Ext W Hc H Hc' H' -> PlOk W ω Hc' H' -> RU W Hc' u v -> Q v H') -> r vs H Q
def Zeo (W : Wd) (bs : List Bool) (r : List V -> Hp -> VK -> Prop) (g : List U -> Option U) : Prop := ∀ Hc H ω us vs, Same Hc H -> PlOk W ω Hc H -> RBs W Hc H bs us vs -> ∀ u, g us = some u -> ∀ Q : VK, (∀ us a vs Hc' H', Ext W Hc H Hc' H' -> PlOk W ω Hc' H' -> u = .lst us -> Hc' a = none -> H a = none -> H' a = some (.lst vs) -> RUs W Hc' us vs -> Q (.ref a) H') -> r vs H Q
def eB (g : List U -> Option U) (fr : Af) : Ef := fun ρ ω => (fr ρ ω).bnd fun us ω1 => .of (g us) ω1
theorem Zep {q : List V -> Hp -> VK -> Prop} {g : List U -> Option U} (o : Z2z W bs q g) (hr : DA W m E bs tr fr) : DE W m E (tCB q tr) (eB g fr) := by
 intro H0 ρ ω σ Hc H ow S Q h
 refine hr H0 ρ ω σ Hc H ow S _ ((Aft.bnd h).imp fun us ω1 Hc1 H1 e1 p1 h1 xs rs => ?_)
 revert h1
 cases hg : g us with
 | none => exact fun h1 => h1.elim
 | some u => exact fun h1 => o Hc1 H1 ω1 us xs e1.sub p1 rs u hg Q fun v Hc' H' e p rv => h1 Hc' H' e p v rv
theorem Zmp {q : List V -> Hp -> VK -> Prop} {g : List U -> Option U} (o : Zeo W bs q g) (hr : DA W m E bs tr fr) : DF W m E (tCB q tr) (eB g fr) := by
 intro H0 ρ ω σ Hc H ow S Q h
 refine hr H0 ρ ω σ Hc H ow S _ ((Aft.bnd h).imp fun us ω1 Hc1 H1 e1 p1 h1 xs rs => ?_)
 revert h1
 cases hg : g us with
 | none => exact fun h1 => h1.elim
 | some u => exact fun h1 => o Hc1 H1 ω1 us xs e1.sub p1 rs u hg Q fun us a vs Hc' H' e p q1 q2 q3 q4 q5 => h1 Hc' H' e p us a vs q1 q2 (e1.frz' q3) q4 q5
theorem RBs.one {Hc H : Hp} {u : U} {vs : List V} (h : RBs W Hc H [true] [u] vs) : ∃ v, vs = [v] /\ RB W Hc H u v := by
 match vs, h with
 | [], h => unfold RBs at h; exact h.elim
 | [v], h => unfold RBs at h; exact ⟨v, rfl, h.1⟩
 | v :: w :: r, h => unfold RBs at h; have h2 := h.2; unfold RBs at h2; exact h2.elim
theorem RBs.two {Hc H : Hp} {u u' : U} {vs : List V} (h : RBs W Hc H [true, true] [u, u'] vs) : ∃ v v', vs = [v, v'] /\ RB W Hc H u v /\ RB W Hc H u' v' := by
 match vs, h with
 | [], h => unfold RBs at h; exact h.elim
 | v :: r, h =>
  unfold RBs at h
  obtain ⟨v', e, q⟩ := RBs.one h.2
  exact ⟨v, v', by rw [e], h.1, q⟩
def uLen : List U -> Option U
 | [.lst us] => some (.int us.length)
 | [.tup us] => some (.int us.length)
 | [.scr ns] => some (.int ns.length)
 | _ => none
theorem Zmq : Z2z W [true] (rLen W.K) uLen := by
 intro Hc H ω us vs s p rs u e Q k
 unfold uLen at e; split at e
 ·cases e; obtain ⟨v, rfl, rv⟩ := rs.one; obtain ⟨a, vs, rfl, h1, r1⟩ := rv.lst s
  exact ⟨a, vs, rfl, .inl (.of h1), by rw [<- r1.len]; exact k _ Hc H (Ext.refl s) p .int⟩
 ·cases e; obtain ⟨v, rfl, rv⟩ := rs.one; obtain ⟨a, vs, rfl, h1, r1⟩ := rv.tup
  exact ⟨a, vs, rfl, .inr (.of (s _ _ h1)), by rw [<- r1.len]; exact k _ Hc H (Ext.refl s) p .int⟩
 ·cases e; obtain ⟨v, rfl, rv⟩ := rs.one; obtain ⟨a, rfl, h1⟩ := rv.scr
  exact ⟨a, _, rfl, .inl (s.seq h1), by rw [List.length_map]; exact k _ Hc H (Ext.refl s) p .int⟩
 ·cases e
def Z4p : List U -> Option U
 | [.lst us] => some (.tup us)
 | [.tup us] => some (.tup us)
 | _ => none
theorem Zeq : Z2z W [true] (Zbl W.K) Z4p := by
 intro Hc H ω us vs s p rs u e Q k
 unfold Z4p at e; split at e
 ·cases e; obtain ⟨v, rfl, rv⟩ := rs.one; obtain ⟨a, vs, rfl, h1, r1⟩ := rv.lst s
  exact ⟨a, vs, rfl, .inl ⟨.of h1, fun l n => k _ _ _ (Z0x s p n).1 (Z0x s p n).2 (.tup Z03 (r1.mono (Same.laid (s.free n))))⟩⟩
 ·cases e; obtain ⟨v, rfl, rv⟩ := rs.one; obtain ⟨a, vs, rfl, h1, r1⟩ := rv.tup
  exact ⟨a, vs, rfl, .inr ⟨.of (s _ _ h1), k _ Hc H (Ext.refl s) p (.tup h1 r1)⟩⟩
 ·cases e
def Z80 : List U -> Option U
 | [.lst us] => some (.lst us)
 | [.tup us] => some (.lst us)
 | [.scr ns] => some (.lst (ns.map U.int))
 | _ => none
theorem Zii : Zeo W [true] (Zbn W.K) Z80 := by
 intro Hc H ω us vs s p rs u e Q k
 unfold Z80 at e; split at e
 ·cases e; obtain ⟨v, rfl, rv⟩ := rs.one; obtain ⟨a, vs, rfl, h1, r1⟩ := rv.lst s
  exact ⟨a, vs, rfl, .inl (.of h1), fun l n => k _ _ _ _ _ (Z0u s p n).1 (Z0u s p n).2 rfl (s.free n) n Z03 r1⟩
 ·cases e; obtain ⟨v, rfl, rv⟩ := rs.one; obtain ⟨a, vs, rfl, h1, r1⟩ := rv.tup
  exact ⟨a, vs, rfl, .inr (.of (s _ _ h1)), fun l n => k _ _ _ _ _ (Z0u s p n).1 (Z0u s p n).2 rfl (s.free n) n Z03 r1⟩
 ·cases e; obtain ⟨v, rfl, rv⟩ := rs.one; obtain ⟨a, rfl, h1⟩ := rv.scr
  exact ⟨a, _, rfl, .inl (s.seq h1), fun l n => k _ _ _ _ _ (Z0u s p n).1 (Z0u s p n).2 rfl (s.free n) n Z03 .ofInts⟩
 ·cases e
def Z11 : List U -> Option (List Int)
 | [] => some []
 | .int i :: us => (Z11 us).map (i :: ·)
 | _ => none
theorem Z15 : ∀ ns : List Int, Z11 (ns.map U.int) = some ns
 | [] => rfl
 | n :: ns => by rw [List.map_cons, Z11, Z15 ns]; rfl
theorem Z18 : ∀ {us : List U} {ns : List Int}, Z11 us = some ns -> us = ns.map U.int
 | [], ns, h => by cases h; rfl
 | u :: us, ns, h => by
  unfold Z11 at h
  split at h
  ·rename_i e; cases e
  ·rename_i i us' e
   cases e
   cases q : Z11 us with
   | none => rw [q] at h; exact noS h
   | some ms => rw [q] at h; cases h; rw [List.map_cons, <- Z18 q]
  ·cases h
def Z4a : List U -> Option (List Bool)
 | [] => some []
 | .bl i :: us => (Z4a us).map (i :: ·)
 | _ => none
theorem Z3q : ∀ ns : List Bool, Z4a (ns.map U.bl) = some ns
 | [] => rfl
 | n :: ns => by rw [List.map_cons, Z4a, Z3q ns]; rfl
theorem Z3f : ∀ {us : List U} {ns : List Bool}, Z4a us = some ns -> us = ns.map U.bl
 | [], ns, h => by cases h; rfl
 | u :: us, ns, h => by
  unfold Z4a at h
  split at h
  ·rename_i e; cases e
  ·rename_i i us' e
   cases e
   cases q : Z4a us with
   | none => rw [q] at h; exact noS h
   | some ms => rw [q] at h; cases h; rw [List.map_cons, <- Z3f q]
  ·cases h
def uSum : List U -> Option U
 | [.lst us] => (Z11 us).map fun ns => .int ns.sum
 | _ => none
def rAbs : List V -> Hp -> VK -> Prop := fun xs H Q => ∃ i, xs = [.int i] /\ Q (.int (if i < 0 then -i else i)) H
theorem Zbz {X : Cx} : Z0s X (.builtin "abs") rAbs := Ze6
def uAbs : List U -> Option U
 | [.int a] => some (.int (if a < 0 then -a else a))
 | _ => none
theorem Zmr : Z2z W [true] rAbs uAbs := by
 intro Hc H ω us vs s p rs u e Q k
 unfold uAbs at e; split at e
 ·cases e; obtain ⟨v, rfl, r1⟩ := rs.one
  have := r1.int; subst this
  exact ⟨_, rfl, k _ Hc H (Ext.refl s) p .int⟩
 ·cases e
def uInt : List U -> Option U
 | [.int a] => some (.int a)
 | [.bl b] => some (.int (if b then 1 else 0))
 | _ => none
theorem Zms : Z2z W [true] Zlz uInt := by
 intro Hc H ω us vs s p rs u e Q k
 unfold uInt at e; split at e
 ·cases e; obtain ⟨v, rfl, r1⟩ := rs.one
  have := r1.int; subst this
  exact .inl ⟨_, rfl, k _ Hc H (Ext.refl s) p .int⟩
 ·cases e; obtain ⟨v, rfl, r1⟩ := rs.one
  have := r1.bl; subst this
  exact .inr ⟨_, rfl, k _ Hc H (Ext.refl s) p .int⟩
 ·cases e
def uAny : List U -> Option U
 | [.lst us] => (Z4a us).map fun ns => .bl (ns.any id)
 | _ => none
theorem Zmt : Z2z W [true] (rAny W.K) uAny := by
 intro Hc H ω us vs s p rs u e Q k
 unfold uAny at e; split at e
 ·rename_i us'
  cases q : Z4a us' with
  | none => rw [q] at e; exact noS e
  | some ns =>
   rw [q] at e; cases e
   obtain ⟨v, rfl, rv⟩ := rs.one; obtain ⟨a, vs, rfl, h1, r1⟩ := rv.lst s
   rw [Z3f q] at r1
   have e2 := r1.bls; subst e2
   exact ⟨a, ns, rfl, .of h1, k _ Hc H (Ext.refl s) p .bl⟩
 ·cases e
abbrev Ff := List U -> Om -> Res U
def spU (K : L2.Fg) (mg : L2.SV) (wk : Wd -> Prop) (n : Nat) (bs : List Bool) (F : Ff) : Sp := fun vs H Q E => ∃ (W : Wd) (us : List U) (ω : Om) (Hc : Hp), W.K = K /\ W.mg = mg /\ wk W /\ vs.length = n /\ Same Hc H /\ PlOk W ω Hc H /\ RBs W Hc H bs us vs /\
 Aft W E Hc H (F us ω) (fun u ψ Hc' H' => ∀ v, RU W Hc' u v -> Q v H')
def Z0h (F : Ff) (fr : Af) : Ef := fun ρ ω => (fr ρ ω).bnd F
theorem RBs.len {Hc H : Hp} : ∀ {bs : List Bool} {us : List U} {vs : List V}, RBs W Hc H bs us vs -> vs.length = bs.length /\ us.length = bs.length
 | [], [], [], _ => ⟨rfl, rfl⟩
 | b :: bs, u :: us, v :: vs, h => by unfold RBs at h; simp [(RBs.len h.2).1, (RBs.len h.2).2]
 | [], _ :: _, _, h => by unfold RBs at h; exact h.elim
 | [], [], _ :: _, h => by unfold RBs at h; exact h.elim
 | _ :: _, [], _, h => by unfold RBs at h; exact h.elim
 | _ :: _, _ :: _, [], h => by unfold RBs at h; exact h.elim
theorem Zij {K : L2.Fg} {mg : L2.SV} {wk : Wd -> Prop} {F : Ff} (hK : W.K = K) (hm : W.mg = mg) (hw : wk W) (hr : DA W m E bs tr fr) : DE W m E (Ze7 (spU K mg wk bs.length bs F) [] E tr) (Z0h F fr) := by
 intro H0 ρ ω σ Hc H ow S Q h
 refine Zi9 (hr H0 ρ ω σ Hc H ow S _ ((Aft.bnd h).imp fun us ω1 Hc1 H1 e1 p1 h1 xs rs => ?_))
 exact ⟨W, us, ω1, Hc1, hK, hm, hw, rs.len.1, e1.sub, p1, rs, h1⟩
end
section
variable {W : Wd} {m : Md} {ρ : En} {ω : Om} {σ : St} {H0 Hc0 Hc H Hc' : Hp} {ow : Nat -> Addr} {i : Nat} {u : U} {v : V}
theorem Z19 {α : Type} {xs : List (Option α)} {i j : Nat} {a u : α} (h : (xs.set i (some a))[j]? = some (some u)) : (j = i /\ u = a /\ i < xs.length) \/ (j ≠ i /\ xs[j]? = some (some u)) := by
 rw [List.getElem?_set] at h
 by_cases e : i = j
 ·subst e
  rw [if_pos rfl] at h
  by_cases l : i < xs.length
  ·rw [if_pos l] at h; cases h; exact .inl ⟨rfl, rfl, l⟩
  ·rw [if_neg l] at h; cases h
 ·rw [if_neg e] at h; exact .inr ⟨fun z => e z.symm, h⟩
theorem Zgm {α : Type} {xs : List (Option α)} {i : Nat} {a : α} (h : i < xs.length) : (xs.set i (some a))[i]? = some (some a) := by
 rw [List.getElem?_set, if_pos rfl, if_pos h]
theorem Z12 {α : Type} {xs : List (Option α)} {i j : Nat} {a : Option α} (h : j ≠ i) : (xs.set i a)[j]? = xs[j]? := by
 rw [List.getElem?_set, if_neg fun z => h z.symm]
theorem Sr.set (S : Sr W m ρ ω σ H0 Hc H ow) (h1 : i ∉ m.B) (h2 : i ∉ m.M) (r : RU W Hc u v) : Sr W m (ρ.set i (some u)) ω (σ.set i (some v)) H0 Hc H ow := by
 refine ⟨S.sub, S.s0, S.p0, by simp [S.len], S.pl, fun j w n1 n2 h => ?_, fun j w n1 n2 h => ?_, fun j w n h => ?_, fun j k a b n1 n2 ne hj hk => ?_⟩
 ·rcases Z19 h with ⟨rfl, rfl, l⟩ | ⟨e, h⟩
  ·exact ⟨v, Zgm (by rw [<- S.len]; exact l), r⟩
  ·rw [Z12 e]; exact S.cl j w n1 n2 h
 ·rcases Z19 h with ⟨rfl, rfl, l⟩ | ⟨e, h⟩
  ·exact absurd n1 h1
  ·rw [Z12 e]; exact S.bo j w n1 n2 h
 ·rcases Z19 h with ⟨rfl, rfl, l⟩ | ⟨e, h⟩
  ·exact absurd n h2
  ·rw [Z12 e]; exact S.mu j w n h
 ·rcases Z19 hj with ⟨rfl, rfl, l⟩ | ⟨e, hj⟩
  ·exact absurd n1 h2
  ·rcases Z19 hk with ⟨rfl, rfl, l⟩ | ⟨e, hk⟩
   ·exact absurd n2 h2
   ·exact S.di j k a b n1 n2 ne hj hk
theorem Sr.drop (S : Sr W m ρ ω σ H0 Hc H ow) (x : Option V) : Sr W m (ρ.set i none) ω (σ.set i x) H0 Hc H ow := by
 have key : ∀ {j : Nat} {w : U}, (ρ.set i none)[j]? = some (some w) -> j ≠ i /\ ρ[j]? = some (some w) := fun {j w} h => by
  rw [List.getElem?_set] at h
  by_cases e : i = j
  ·rw [if_pos e] at h; split at h <;> cases h
  ·rw [if_neg e] at h; exact ⟨fun z => e z.symm, h⟩
 refine ⟨S.sub, S.s0, S.p0, by simp [S.len], S.pl, fun j w n1 n2 h => ?_, fun j w n1 n2 h => ?_, fun j w n h => ?_, fun j k a b n1 n2 ne hj hk => S.di j k a b n1 n2 ne (key hj).2 (key hk).2⟩
 ·obtain ⟨e, h⟩ := key h; rw [Z12 e]; exact S.cl j w n1 n2 h
 ·obtain ⟨e, h⟩ := key h; rw [Z12 e]; exact S.bo j w n1 n2 h
 ·obtain ⟨e, h⟩ := key h; rw [Z12 e]; exact S.mu j w n h
theorem Sr.ownO {a : Addr} {o : HO} (S : Sr W m ρ ω σ H0 Hc H ow) (hi : i ∈ m.M) (hb : i ∉ m.B) (n1 : Hc a = none) (n0 : H0 a = none) (ha : H a = some o) (r : OwO W Hc a u o) (ap : ∀ j w, j ∈ m.M -> j ≠ i -> ρ[j]? = some (some w) -> ow j ≠ a) :
  Sr W m (ρ.set i (some u)) ω (σ.set i (some (.ref a))) H0 Hc H (fun j => if j = i then a else ow j) := by
 refine ⟨S.sub, S.s0, S.p0, by simp [S.len], S.pl, fun j w n1 n2 h => ?_, fun j w n1 n2 h => ?_, fun j w n h => ?_, fun j k x y m1 m2 ne hj hk => ?_⟩
 ·rcases Z19 h with ⟨rfl, rfl, l⟩ | ⟨e, h⟩
  ·exact absurd hi n2
  ·rw [Z12 e]; exact S.cl j w n1 n2 h
 ·rcases Z19 h with ⟨rfl, rfl, l⟩ | ⟨e, h⟩
  ·exact absurd hi n2
  ·rw [Z12 e]; exact S.bo j w n1 n2 h
 ·rcases Z19 h with ⟨rfl, rfl, l⟩ | ⟨e, h⟩
  ·refine ⟨o, ?_, ?_, ?_, ?_, by rw [if_pos rfl]; exact r⟩
   ·rw [if_pos rfl]; exact Zgm (by rw [<- S.len]; exact l)
   ·rw [if_pos rfl]; exact ha
   ·rw [if_pos rfl]; exact n1
   ·rw [if_pos rfl]; exact n0
  ·obtain ⟨o', z2, z3, z4, z5, z6⟩ := S.mu j w n h
   refine ⟨o', ?_, ?_, ?_, ?_, by rw [if_neg e]; exact z6⟩
   ·rw [Z12 e, if_neg e]; exact z2
   ·rw [if_neg e]; exact z3
   ·rw [if_neg e]; exact z4
   ·rw [if_neg e]; exact z5
 ·rcases Z19 hj with ⟨rfl, rfl, l⟩ | ⟨e, hj1⟩
  ·rcases Z19 hk with ⟨rfl, rfl, l⟩ | ⟨e', hk⟩
   ·exact absurd rfl ne
   ·rw [if_pos rfl, if_neg e']; exact fun z => ap k y m2 e' hk z.symm
  ·clear hj
   rcases Z19 hk with ⟨e1, e2, l⟩ | ⟨e', hk⟩
   ·rw [e1, if_pos rfl, if_neg e]; exact ap j x m1 e (by assumption)
   ·rw [if_neg e, if_neg e']; exact S.di j k x y m1 m2 ne hj1 hk
theorem Sr.own {a : Addr} {us : List U} {vs : List V} (S : Sr W m ρ ω σ H0 Hc H ow) (hi : i ∈ m.M) (hb : i ∉ m.B) (n1 : Hc a = none) (n0 : H0 a = none) (ha : H a = some (.lst vs)) (r : RUs W Hc us vs) (ap : ∀ j w, j ∈ m.M -> j ≠ i -> ρ[j]? = some (some w) -> ow j ≠ a) :
  Sr W m (ρ.set i (some (.lst us))) ω (σ.set i (some (.ref a))) H0 Hc H (fun j => if j = i then a else ow j) := S.ownO hi hb n1 n0 ha ⟨vs, rfl, r⟩ ap
theorem Sr.mutO {w0 : U} {o' : HO} (S : Sr W m ρ ω σ H0 Hc H ow) (hi : i ∈ m.M) (e : ρ[i]? = some (some w0)) (r : OwO W Hc (ow i) u o') : Sr W m (ρ.set i (some u)) ω σ H0 Hc (upd H (ow i) o') ow := by
 obtain ⟨o0, z2, z3, z4, z5, z6⟩ := S.mu i _ hi e
 have nl := S.nl z5
 have li : i < ρ.length := (List.getElem?_eq_some_iff.mp e).1
 refine ⟨fun b o h => ?_, fun b o n h => ?_, S.p0, by simp [S.len], ⟨W.st _ _ _ S.pl.pl fun b o h hb => ?_, fun b hb => ⟨(S.pl.out b hb).1, ?_⟩⟩, fun j w n1 n2 h => ?_, fun j w n1 n2 h => ?_, fun j w n h => ?_, fun j k x y m1 m2 ne hj hk => ?_⟩
 ·rw [Z06 (fun z => by rw [z, z4] at h; cases h)]; exact S.sub b o h
 ·rw [Z06 (fun z => by rw [z, z5] at h; cases h)]; exact S.s0 b o n h
 ·refine (Z06 fun z => ?_).trans h
  rcases hb with hb | ⟨x, y, hb⟩
  ·exact nl (z ▸ hb)
  ·rw [z, z3] at h; cases h; rw [hb] at z6; exact z6.nfrz
 ·by_cases z : b = ow i
  ·rw [z, Z03]; simp
  ·rw [Z06 z]; exact (S.pl.out b hb).2
 ·rcases Z19 h with ⟨rfl, rfl, l⟩ | ⟨e', h⟩
  ·exact absurd hi n2
  ·exact S.cl j w n1 n2 h
 ·rcases Z19 h with ⟨rfl, rfl, l⟩ | ⟨e', h⟩
  ·exact absurd hi n2
  ·exact S.bo j w n1 n2 h
 ·rcases Z19 h with ⟨rfl, rfl, l⟩ | ⟨e', h⟩
  ·exact ⟨o', z2, Z03, z4, z5, r⟩
  ·obtain ⟨o1, y2, y3, y4, y5, y6⟩ := S.mu j w n h
   exact ⟨o1, y2, by rw [Z06 (S.di j i w _ n hi e' h e)]; exact y3, y4, y5, y6⟩
 ·rcases Z19 hj with ⟨rfl, rfl, l⟩ | ⟨e1, hj1⟩
  ·rcases Z19 hk with ⟨rfl, rfl, l⟩ | ⟨e2, hk⟩
   ·exact absurd rfl ne
   ·exact S.di j k _ y m1 m2 ne e hk
  ·rcases Z19 hk with ⟨e3, e4, l⟩ | ⟨e2, hk⟩
   ·rw [e3]; exact S.di j i x _ m1 hi e1 hj1 e
   ·exact S.di j k x y m1 m2 ne hj1 hk
theorem Sr.mut {us us' : List U} {vs' : List V} (S : Sr W m ρ ω σ H0 Hc H ow) (hi : i ∈ m.M) (e : ρ[i]? = some (some (.lst us))) (r : RUs W Hc us' vs') : Sr W m (ρ.set i (some (.lst us'))) ω σ H0 Hc (upd H (ow i) (.lst vs')) ow := S.mutO hi e ⟨vs', rfl, r⟩
theorem Sr.mutE {w0 : U} {o' : HO} (S : Sr W m ρ ω σ H0 Hc H ow) (hi : i ∈ m.M) (e : ρ[i]? = some (some w0)) (x : Ext W Hc0 H0 Hc H) : Ext W Hc0 H0 Hc (upd H (ow i) o') := by
 obtain ⟨o0, z2, z3, z4, z5, z6⟩ := S.mu i _ hi e
 refine ⟨fun b o n h => ?_, x.sc, fun b o h => ?_, x.new, fun b h => ?_⟩
 ·rw [Z06 (fun z => by rw [z, z5] at h; cases h)]; exact x.same b o n h
 ·rw [Z06 (fun z => by rw [z, z4] at h; cases h)]; exact x.sub b o h
 ·by_cases z : b = ow i
  ·rw [z, Z03]; simp
  ·rw [Z06 z]; exact x.frz b h
theorem Sr.freeze (M' : List Nat) (hM : ∀ i ∈ M', i ∈ m.M) (hB : ∀ i ∈ m.M, i ∉ m.B) (S : Sr W m ρ ω σ H0 Hc H ow) (x : Ext W Hc0 H0 Hc H) : ∃ Hc', Sr W ⟨m.B, M'⟩ ρ ω σ H0 Hc' H ow /\ Ext W Hc0 H0 Hc' H := by
 classical
 let P : Addr -> Prop := fun b => ∃ i w, i ∈ m.M /\ i ∉ M' /\ ρ[i]? = some (some w) /\ ow i = b
 have hP : ∀ b, P b -> Hc b = none /\ H0 b = none /\ b ∉ W.L := fun b ⟨i, w, h1, h2, h3, h4⟩ => by
  obtain ⟨o0, z2, z3, z4, z5, z6⟩ := S.mu i _ h1 h3
  rw [<- h4]; exact ⟨z4, z5, S.nl z5⟩
 have sc : Same Hc (fun b => if P b then H b else Hc b) := fun b o h => by
  have : ¬ P b := fun p => by rw [(hP b p).1] at h; cases h
  show (if P b then H b else Hc b) = _
  rw [if_neg this]; exact h
 refine ⟨fun b => if P b then H b else Hc b, ⟨fun b o h => ?_, S.s0, S.p0, S.len, ⟨S.pl.pl, fun b hb => ⟨?_, (S.pl.out b hb).2⟩⟩, fun j w n1 n2 h => ?_, fun j w n1 n2 h => ?_, fun j w n h => ?_, fun j k a b m1 m2 ne hj hk => S.di j k a b (hM j m1) (hM k m2) ne hj hk⟩, ⟨x.same, fun b o h => sc b o (x.sc b o h), fun b o h => ?_, fun b h1 h2 => ?_, x.frz⟩⟩
 ·by_cases p : P b
  ·simpa [p] using h
  ·simp only [p, if_false] at h; exact S.sub b o h
 ·have : ¬ P b := fun p => (hP b p).2.2 hb
  show (if P b then H b else Hc b) = none
  rw [if_neg this]; exact (S.pl.out b hb).1
 ·by_cases q : j ∈ m.M
  ·obtain ⟨o0, z2, z3, z4, z5, z6⟩ := S.mu j _ q h
   refine ⟨_, z2, ?_⟩
   exact (z6.mono sc).ru (by show (if P (ow j) then H (ow j) else Hc (ow j)) = _; rw [if_pos ⟨j, _, q, n2, h, rfl⟩]; exact z3)
  ·obtain ⟨v, q1, q2⟩ := S.cl j w n1 q h
   exact ⟨v, q1, q2.mono sc⟩
 ·have q : j ∉ m.M := fun z => hB j z n1
  obtain ⟨v, q1, q2⟩ := S.bo j w n1 q h
  refine ⟨v, q1, ?_⟩
  rcases q2 with q2 | ⟨a, o, y2, y3, y4, y5⟩
  ·exact .inl (q2.mono sc)
  ·exact .inr ⟨a, o, y2, y3, y4, y5.mono sc⟩
 ·obtain ⟨o0, z2, z3, z4, z5, z6⟩ := S.mu j _ (hM j n) h
  refine ⟨o0, z2, z3, ?_, z5, z6.mono sc⟩
  have : ¬ P (ow j) := fun ⟨k, w', h1, h2, h3, h4⟩ => by
   have ne : k ≠ j := fun z => h2 (z ▸ n)
   exact S.di k j w' w h1 (hM j n) ne h3 h h4
  show (if P (ow j) then H (ow j) else Hc (ow j)) = none
  rw [if_neg this]; exact z4
 ·by_cases p : P b
  ·simpa [p] using h
  ·simp only [p, if_false] at h; exact x.sub b o h
 ·have : ¬ P b := fun p => h2 (hP b p).2.1
  show (if P b then H b else Hc b) = none
  rw [if_neg this]; exact x.new b h1 h2
end
section
variable {W : Wd} {m : Md} {E : XK} {ta tb : TE} {fa fb : Ef} {tt : TT} {ft : Tf} {i : Nat} {r : R2} {g : U -> U -> Option U} {t1 t2 : TS} {g1 g2 : Sf}
def Fl.of {α : Type} (r : Res α) (k : α -> Om -> Fl) : Fl := match r with
 | .ok a ω => k a ω
 | .err c p ω => .err c p ω
 | .stk => .stk
@[simp] theorem Fl.of_ok {α : Type} {a : α} {ω : Om} {k : α -> Om -> Fl} : Fl.of (.ok a ω) k = k a ω := rfl
@[simp] theorem Fl.of_err {α : Type} {c : Str} {p : Option Int} {ω : Om} {k : α -> Om -> Fl} : Fl.of (.err c p ω : Res α) k = .err c p ω := rfl
@[simp] theorem Fl.of_stk {α : Type} {k : α -> Om -> Fl} : Fl.of (.stk : Res α) k = .stk := rfl
theorem Cont.of {α : Type} {Hc0 H0 Hc H : Hp} {D : Ends} {r : Res α} {k : α -> Om -> Fl} (x : Ext W Hc0 H0 Hc H) (h : Cont W m E Hc0 H0 D (Fl.of r k)) : Aft W E Hc H r fun a ω ψ ψ => Cont W m E Hc0 H0 D (k a ω) := by
 cases r with
 | ok a ω => exact fun Hc' H' e p => h
 | err c pl ω => exact fun C od Hc' H' e p hm hx => h C od Hc' H' (x.trans e) p hm hx
 | stk => exact h
def sSeq (g1 g2 : Sf) : Sf := fun ρ ω => match g1 ρ ω with
 | .nx ρ' ω' => g2 ρ' ω'
 | o => o
theorem Zmu (h1 : DS W m E t1 g1) (h2 : DS W m E t2 g2) : DS W m E (tSeq t1 t2) (sSeq g1 g2) := by
 intro H0 Hc0 ρ ω σ Hc H ow S x D h
 refine h1 H0 Hc0 ρ ω σ Hc H ow S x { D with nx := t2 D } ?_
 unfold sSeq at h
 revert h
 cases g1 ρ ω with
 | nx ρ' ω' => exact fun h σ' Hc' H' ow' S' x' => h2 H0 Hc0 ρ' ω' σ' Hc' H' ow' S' x' D h
 | _ => exact fun h => h
def Z0z : Sf := fun ρ ω => .nx ρ ω
theorem Zik : DS W m E Zkx Z0z := fun H0 Hc0 ρ ω σ Hc H ow S x D h => h σ Hc H ow S x
def sIf (ft : Tf) (g1 g2 : Sf) : Sf := fun ρ ω => Fl.of (ft ρ ω) fun b ω1 => if b = true then g1 ρ ω1 else g2 ρ ω1
theorem Zqj (hc : DT W m E tt ft) (h1 : DS W m E t1 g1) (h2 : DS W m E t2 g2) : DS W m E (tIfS tt t1 t2) (sIf ft g1 g2) := by
 intro H0 Hc0 ρ ω σ Hc H ow S x D h
 refine hc H0 ρ ω σ Hc H ow S _ ((Cont.of x h).imp fun b ω1 Hc1 H1 e1 p1 k => ?_)
 cases b with
 | true => exact h1 H0 Hc0 ρ ω1 σ Hc1 H1 ow (S.ext e1 p1) (x.trans e1) D k
 | false => exact h2 H0 Hc0 ρ ω1 σ Hc1 H1 ow (S.ext e1 p1) (x.trans e1) D k
def sSet (i : Nat) (fa : Ef) : Sf := fun ρ ω => Fl.of (fa ρ ω) fun u ω1 => .nx (ρ.set i (some u)) ω1
theorem Zmv (h1 : i ∉ m.B) (h2 : i ∉ m.M) (ha : DE W m E ta fa) : DS W m E (tAsg ta (Z7t i)) (sSet i fa) := by
 intro H0 Hc0 ρ ω σ Hc H ow S x D h
 refine ha H0 ρ ω σ Hc H ow S _ ((Cont.of x h).imp fun u ω1 Hc1 H1 e1 p1 k v rv => ?_)
 exact k _ Hc1 H1 ow ((S.ext e1 p1).set h1 h2 rv) (x.trans e1)
theorem Zmw (h1 : i ∉ m.B) (h2 : i ∈ m.M) (ha : DF W m E ta fa) : DS W m E (tAsg ta (Z7t i)) (sSet i fa) := by
 intro H0 Hc0 ρ ω σ Hc H ow S x D h
 refine ha H0 ρ ω σ Hc H ow S _ ((Cont.of x h).imp fun u ω1 Hc1 H1 e1 p1 k us a vs hu n1 n2 ha rr => ?_)
 subst hu
 have S1 := S.ext e1 p1
 have n0 : H0 a = none := by
  cases q : H0 a with
  | none => rfl
  | some o =>
   by_cases l : a ∈ W.L
   ·exact absurd n2 (S.pl.out a l).2
   ·rw [S.s0 a o l q] at n2; cases n2
 refine k _ Hc1 H1 _ (S1.own h2 h1 n1 n0 ha rr fun j w hj ψ hw z => ?_) (x.trans e1)
 obtain ⟨o0, z2, z3, z4, z5, z6⟩ := S.mu j _ hj hw
 rw [z, n2] at z3; cases z3
def sRet (fa : Ef) : Sf := fun ρ ω => Fl.of (fa ρ ω) fun u ω1 => .rt u ω1
theorem Zmx (hB : ∀ i ∈ m.M, i ∉ m.B) (ha : DE W ⟨m.B, []⟩ E ta fa) : DS W m E (tRet ta) (sRet fa) := by
 intro H0 Hc0 ρ ω σ Hc H ow S x D h
 obtain ⟨Hf, Sf', xf⟩ := S.freeze [] (fun ψ z => absurd z (by simp)) hB x
 refine ha H0 ρ ω σ Hf H ow Sf' _ ((Cont.of xf h).imp fun u ω1 Hc1 H1 e1 p1 k v rv => ?_)
 exact k v Hc1 H1 (xf.trans e1) p1 rv
def sAug (i : Nat) (g : U -> U -> Option U) (fa : Ef) : Sf := fun ρ ω => match ρ[i]? with
 | some (some a) => Fl.of (fa ρ ω) fun b ω1 => match g a b with
  | some c => .nx (ρ.set i (some c)) ω1
  | none => .stk
 | _ => .stk
open Classical in
def sApp (i : Nat) (fa : Ef) : Sf := fun ρ ω => match ρ[i]? with
 | some (some (.lst us)) => Fl.of (fa ρ ω) fun u ω1 => if us.length < sizeLine then .nx (ρ.set i (some (.lst (us ++ [u])))) ω1 else .stk
 | _ => .stk
theorem Zmy {K : L2.Fg} (h2 : i ∈ m.M) (ha : DE W m E ta fa) : DS W m E (Z3k (tBM K "list" Z7v (tVar i) (Z3l ta tNil))) (sApp i fa) := by
 intro H0 Hc0 ρ ω σ Hc H ow S x D h
 unfold sApp at h
 split at h
 ·rename_i us e
  obtain ⟨us0, vs0, z1, z2, z3, z4, z5, z6⟩ := S.muL i _ h2 e
  cases z1
  refine ⟨_, z2, .inl ⟨rfl, vs0, .of z3⟩, ha H0 ρ ω σ Hc H ow S _ ((Cont.of x h).imp fun u ω1 Hc1 H1 e1 p1 k v rv => ?_)⟩
  revert k
  split
  ·intro k
   have S1 := S.ext e1 p1
   refine ⟨ow i, vs0, v, rfl, rfl, e1.same _ _ (S.nl z5) z3, by rw [<- z6.len]; assumption, ?_⟩
   exact k _ Hc1 _ ow (S1.mut h2 e ((z6.mono e1.sc).app (.one rv))) (S1.mutE h2 e (x.trans e1))
  ·exact fun k => k.elim
 ·exact h.elim
def sPut (i : Nat) (fi fa : Ef) : Sf := fun ρ ω => Fl.of (fa ρ ω) fun u ω1 => match ρ[i]? with
 | some (some (.lst us)) => Fl.of (fi ρ ω1) fun k ω2 => match k with
  | .int k => match ixN us.length k with
   | some j => .nx (ρ.set i (some (.lst (us.set j u)))) ω2
   | none => .stk
  | _ => .stk
 | _ => .stk
theorem Zmz (h2 : i ∈ m.M) (hi : DB W m E tb fb) (ha : DE W m E ta fa) : DS W m E (tAsg ta (gSub (tVar i) tb Zea)) (sPut i fb fa) := by
 intro H0 Hc0 ρ ω σ Hc H ow S x D h
 refine ha H0 ρ ω σ Hc H ow S _ ((Cont.of x h).imp fun u ω1 Hc1 H1 e1 p1 k v rv => ?_)
 have S1 := S.ext e1 p1
 have x1 := x.trans e1
 revert k
 split
 ·rename_i us e
  intro k
  obtain ⟨us0, vs0, z1, z2, z3, z4, z5, z6⟩ := S1.muL i _ h2 e
  cases z1
  refine ⟨_, z2, hi H0 ρ ω1 σ Hc1 H1 ow S1 _ ((Cont.of x1 k).imp fun kk ω2 Hc2 H2 e2 p2 k2 y ry => ?_)⟩
  revert k2
  split
  ·rename_i n
   split
   ·rename_i j hj
    intro k2
    have S2 := S1.ext e2 p2
    have := ry.int; subst this
    refine ⟨ow i, vs0, n, j, rfl, rfl, e2.same _ _ (S.nl z5) z3, by rw [<- z6.len]; exact hj, ?_⟩
    exact k2 _ Hc2 _ ow (S2.mut h2 e ((z6.mono e2.sc).set j (rv.mono e2.sc))) (S2.mutE h2 e (x1.trans e2))
   ·exact fun k2 => k2.elim
  ·exact fun k2 => k2.elim
 ·exact fun k => k.elim
def DG (W : Wd) (m : Md) (g : TG) (a : U -> En -> Option En) : Prop := ∀ H0 ρ ω σ Hc H ow u v ρ', Sr W m ρ ω σ H0 Hc H ow -> RU W Hc u v -> a u ρ = some ρ' -> ∀ Q : St -> Hp -> Prop, (∀ σ', Sr W m ρ' ω σ' H0 Hc H ow -> Q σ' H) -> g v σ H Q
def DGs (W : Wd) (m : Md) (g : TGs) (a : List U -> En -> Option En) : Prop := ∀ H0 ρ ω σ Hc H ow us vs ρ', Sr W m ρ ω σ H0 Hc H ow -> RUs W Hc us vs -> a us ρ = some ρ' -> ∀ Q : St -> Hp -> Prop, (∀ σ', Sr W m ρ' ω σ' H0 Hc H ow -> Q σ' H) -> g vs σ H Q
def Z0i (i : Nat) : U -> En -> Option En := fun u ρ => some (ρ.set i (some u))
theorem Zil (h1 : i ∉ m.B) (h2 : i ∉ m.M) : DG W m (Z7t i) (Z0i i) := fun H0 ρ ω σ Hc H ow u v ρ' S r e Q k => by
 cases e
 exact k _ (S.set h1 h2 r)
def Zc0 : List U -> En -> Option En := fun us ρ => match us with
 | [] => some ρ
 | _ => none
def Z4q (a : U -> En -> Option En) (b : List U -> En -> Option En) : List U -> En -> Option En := fun us ρ => match us with
 | u :: r => (a u ρ).bind (b r)
 | _ => none
theorem Zim : DGs W m gNil Zc0 := fun H0 ρ ω σ Hc H ow us vs ρ' S r e Q k => by
 unfold Zc0 at e
 split at e
 ·cases e; rw [RUs] at r; exact ⟨r, k _ S⟩
 ·cases e
theorem Zer {g : TG} {gg : TGs} {a : U -> En -> Option En} {b : List U -> En -> Option En} (h1 : DG W m g a) (h2 : DGs W m gg b) : DGs W m (Ze3 g gg) (Z4q a b) := fun H0 ρ ω σ Hc H ow us vs ρ' S r e Q k => by
 unfold Z4q at e
 split at e
 ·rename_i u rest
  rw [RUs] at r
  obtain ⟨v, vr, rfl, r1, r2⟩ := r
  cases q : a u ρ with
  | none => rw [q] at e; exact noS e
  | some ρ1 =>
   rw [q] at e
   exact ⟨v, vr, rfl, h1 H0 ρ ω σ Hc H ow u v ρ1 S r1 q _ fun σ1 S1 => h2 H0 ρ1 ω σ1 Hc H ow rest vr ρ' S1 r2 e Q k⟩
 ·cases e
def sAsg (a : U -> En -> Option En) (fa : Ef) : Sf := fun ρ ω => Fl.of (fa ρ ω) fun u ω1 => match a u ρ with
 | some ρ' => .nx ρ' ω1
 | none => .stk
theorem Zn0 {g : TG} {a : U -> En -> Option En} (hg : DG W m g a) (ha : DE W m E ta fa) : DS W m E (tAsg ta g) (sAsg a fa) := by
 intro H0 Hc0 ρ ω σ Hc H ow S x D h
 refine ha H0 ρ ω σ Hc H ow S _ ((Cont.of x h).imp fun u ω1 Hc1 H1 e1 p1 k v rv => ?_)
 revert k
 cases q : a u ρ with
 | none => exact fun k => k.elim
 | some ρ' => exact fun k => hg H0 ρ ω1 σ Hc1 H1 ow u v ρ' (S.ext e1 p1) rv q _ fun σ' S' => k σ' Hc1 H1 ow S' (x.trans e1)
end
def ItR (W : Wd) (Hb Hc : Hp) (J : It) (us : List U) : Prop := ∀ Hc2 H2, Same Hc Hc2 -> Same Hc2 H2 -> (∀ b o, b ∉ W.L -> Hb b = some o -> H2 b = some o) ->
 (∀ i u, us[i]? = some u -> J.go i H2 /\ ∀ x H3, J.yld i H2 x H3 -> ∃ Hc3, Ext W Hc2 H2 Hc3 H3 /\ Same H2 H3 /\ RU W Hc3 u x) /\ J.stop us.length H2
def DI (W : Wd) (m : Md) (E : XK) (c : Bool) (t : TI) (f : Af) : Prop := ∀ H0 ρ ω σ Hc H ow, Sr W m ρ ω σ H0 Hc H ow -> ∀ R : It -> Hp -> Prop, Aft W E Hc H (f ρ ω) (fun us ψ Hc' H' => ∀ J, ItR W (if c = true then H' else H0) Hc' J us -> R J H') -> t σ H R
section
variable {W : Wd} {m : Md} {E : XK} {c : Bool} {ta : TE} {fa : Ef} {i : Nat} {tr : TA} {fr : Af}
def iSeq (K : L2.Fg) (tl : TE) : TI := fun σ H R => tl σ H fun x H1 => ∃ a, x = .ref a /\ (((∃ xs, SqL K H1 a xs) /\ R (Itl K a) H1) \/ ((∃ xs, SqT K H1 a xs) /\ R (Itt K a) H1))
theorem Zgn {X : Cx} {K : L2.Fg} {l tg : Expr} {tl : TE} (hK : X.K = K) (hl : PE X l tl) : PI X tg l (iSeq K tl) := by
 subst hK
 intro pins s σ H R I h
 refine thn (hl pins s σ H _ I h) fun v s1 ⟨x, H1, I1, r1, q1⟩ => ?_
 obtain ⟨a, e, q1⟩ := q1
 subst e
 cases r1
 rcases q1 with ⟨⟨xs, hq⟩, q⟩ | ⟨⟨xs, hq⟩, q⟩
 ·obtain ⟨its, rv, p, hz⟩ := I1.list hq
  refine wpAny_pyIter_list p.isList ?_
  refine ⟨s1.heap.objs.size, [s1.heap.objs.size], _, _, H1, rfl, I1.kept (t' := s1.toks) fun b o e => Heap.get?_push_of_some _ e, Zav a _, ⟨_, Heap.get?_push_size _ rfl, rfl, rfl⟩, fun b hb => ?_, q⟩
  have e : b = s1.heap.objs.size := by simpa using hb
  subst e
  exact I1.fpOk (Nat.le_refl _) (I1.hok.fresh (Nat.le_refl _))
 ·obtain ⟨its, rv, p, hz⟩ := I1.tuple hq
  refine wpAny_pyIter_tuple (show s1.heap.IsTuple a its.toArray from p) ?_
  refine ⟨s1.heap.objs.size, [s1.heap.objs.size], _, _, H1, rfl, I1.kept (t' := s1.toks) fun b o e => Heap.get?_push_of_some _ e, Z9r a _, ⟨_, Heap.get?_push_size _ rfl, rfl, rfl⟩, fun b hb => ?_, q⟩
  have e : b = s1.heap.objs.size := by simpa using hb
  subst e
  exact I1.fpOk (Nat.le_refl _) (I1.hok.fresh (Nat.le_refl _))
def Zes : U -> Option (List U)
 | .lst us => some us
 | .tup us => some us
 | _ => none
def iOf (fa : Ef) : Af := fun ρ ω => (fa ρ ω).bnd fun u ω1 => .of (Zes u) ω1
theorem Zin {Hb Hc : Hp} {a : Addr} {us : List U} {vs : List V} (r : RUs W Hc us vs) (k : ∀ Hc2 H2, Same Hc Hc2 -> Same Hc2 H2 -> (∀ b o, b ∉ W.L -> Hb b = some o -> H2 b = some o) -> H2 a = some (.lst vs)) : ItR W Hb Hc (Itl W.K a) us := by
 intro Hc2 H2 s1 s2 s3
 have ha := k Hc2 H2 s1 s2 s3
 have one : ∀ xs, SqL W.K H2 a xs -> SqL W.K H2 a vs -> True := fun ψ ψ ψ => trivial
 refine ⟨fun i u hu => ?_, vs, .of ha, by rw [r.len]; exact Nat.le_refl _⟩
 obtain ⟨v, hv, rv⟩ := r.at (i := 0) hu
 refine ⟨⟨vs, v, .of ha, hv⟩, fun x H3 y => ?_⟩
 obtain ⟨rfl, y⟩ := y
 have e : vs[i]? = some x := y vs (.of ha)
 rw [hv] at e; cases e
 exact ⟨Hc2, Ext.refl s2, fun ψ ψ h => h, rv.mono s1⟩
theorem Zn1 {Hb Hc : Hp} {a : Addr} {us : List U} {vs : List V} (r : RUs W Hc us vs) (h : Hc a = some (.tup vs)) : ItR W Hb Hc (Itt W.K a) us := by
 intro Hc2 H2 s1 s2 s3
 have ha := s2 _ _ (s1 _ _ h)
 refine ⟨fun i u hu => ?_, vs, .of ha, by rw [r.len]; exact Nat.le_refl _⟩
 obtain ⟨v, hv, rv⟩ := r.at (i := 0) hu
 refine ⟨⟨vs, v, .of ha, hv⟩, fun x H3 y => ?_⟩
 obtain ⟨rfl, y⟩ := y
 have e : vs[i]? = some x := y vs (.of ha)
 rw [hv] at e; cases e
 exact ⟨Hc2, Ext.refl s2, fun ψ ψ h => h, rv.mono s1⟩
theorem di_e (ha : DE W m E ta fa) : DI W m E c (iSeq W.K ta) (iOf fa) := by
 intro H0 ρ ω σ Hc H ow S R h
 refine ha H0 ρ ω σ Hc H ow S _ ((Aft.bnd h).imp fun u ω1 Hc1 H1 e1 p1 h1 v rv => ?_)
 revert h1
 cases u with
 | lst us =>
  intro h1
  rw [RU] at rv
  obtain ⟨a, vs, rfl, q, r⟩ := rv
  exact ⟨a, rfl, .inl ⟨⟨vs, .of (e1.sub _ _ q)⟩, h1 Hc1 H1 (Ext.refl e1.sub) p1 _ (Zin r fun Hc2 H2 s1 s2 ψ => s2 _ _ (s1 _ _ q))⟩⟩
 | tup us =>
  intro h1
  rw [RU] at rv
  obtain ⟨a, vs, rfl, q, r⟩ := rv
  exact ⟨a, rfl, .inr ⟨⟨vs, .of (e1.sub _ _ q)⟩, h1 Hc1 H1 (Ext.refl e1.sub) p1 _ (Zn1 r q)⟩⟩
 | _ => exact fun h1 => h1.elim
theorem di_v (h2 : i ∉ m.M) : DI W m E c (iSeq W.K (tVar i)) (iOf (eVar i)) := by
 intro H0 ρ ω σ Hc H ow S R h
 unfold iOf eVar at h
 split at h
 ·rename_i u e
  by_cases hb : i ∈ m.B
  ·obtain ⟨v, q, rv⟩ := S.bo i u hb h2 e
   refine ⟨v, q, ?_⟩
   rcases rv with rv | ⟨a, o, rfl, nl, q, r⟩
   ·revert h
    cases u with
    | lst us =>
     intro h1
     rw [RU] at rv
     obtain ⟨a, vs, rfl, q, r⟩ := rv
     exact ⟨a, rfl, .inl ⟨⟨vs, .of (S.sub _ _ q)⟩, h1 Hc H (Ext.refl S.sub) S.pl _ (Zin r fun Hc2 H2 s1 s2 ψ => s2 _ _ (s1 _ _ q))⟩⟩
    | tup us =>
     intro h1
     rw [RU] at rv
     obtain ⟨a, vs, rfl, q, r⟩ := rv
     exact ⟨a, rfl, .inr ⟨⟨vs, .of (S.sub _ _ q)⟩, h1 Hc H (Ext.refl S.sub) S.pl _ (Zn1 r q)⟩⟩
    | _ => exact fun h1 => h1.elim
   ·cases u with
    | lst us' =>
     obtain ⟨vs, rfl, r⟩ := r
     refine ⟨a, rfl, .inl ⟨⟨vs, .of (S.s0 _ _ nl q)⟩, h Hc H (Ext.refl S.sub) S.pl _ (Zin r fun Hc2 H2 s1 s2 s3 => ?_)⟩⟩
     cases c with
     | true => exact s3 _ _ nl (S.s0 _ _ nl q)
     | false => exact s3 _ _ nl q
    | dic _ _ => exact h.elim
    | _ => exact r.elim
  ·have d : DE W m E (tVar i) (eVar i) := Zbw hb h2
   refine di_e (c := c) d H0 ρ ω σ Hc H ow S R ?_
   unfold iOf eVar
   rw [e]
   exact h
 ·exact h.elim
def rngU (lo : Int) (n : Nat) : List U := (List.range n).map fun i : Nat => U.int (lo + (i : Int))
theorem Zn2 {Hb Hc : Hp} {lo : Int} {n : Nat} : ItR W Hb Hc (Itr lo n) (rngU lo n) := by
 intro Hc2 H2 s1 s2 s3
 refine ⟨fun i u hu => ?_, by show n <= (rngU lo n).length; simp [rngU]⟩
 unfold rngU at hu
 rw [List.getElem?_map] at hu
 have li : i < n := by
  by_cases l : i < n
  ·exact l
  ·rw [List.getElem?_eq_none (by simpa using l)] at hu; cases hu
 rw [List.getElem?_range li] at hu
 cases hu
 refine ⟨li, fun x H3 y => ?_⟩
 obtain ⟨rfl, rfl⟩ := y
 exact ⟨Hc2, Ext.refl s2, fun ψ ψ h => h, .int⟩
def InR (j : Int) : Prop := -(2 ^ 62) <= j /\ j < 2 ^ 62
open Classical in
def uR1 : List U -> Option (List U)
 | [.int j] => if InR j then some (rngU 0 j.toNat) else none
 | _ => none
open Classical in
def uR2 : List U -> Option (List U)
 | [.int i, .int j] => if InR i /\ InR j then some (rngU i (j - i).toNat) else none
 | _ => none
def Z2j (g : List U -> Option (List U)) (fr : Af) : Af := fun ρ ω => (fr ρ ω).bnd fun us ω1 => .of (g us) ω1
theorem Zqk (hr : DA W m E [true] tr fr) : DI W m E c (Zl0 tr) (Z2j uR1 fr) := by
 intro H0 ρ ω σ Hc H ow S R h
 refine hr H0 ρ ω σ Hc H ow S _ ((Aft.bnd h).imp fun us ω1 Hc1 H1 e1 p1 h1 vs rs => ?_)
 revert h1
 cases hg : uR1 us with
 | none => exact fun h1 => h1.elim
 | some ws =>
  intro h1
  unfold uR1 at hg
  split at hg
  ·split at hg <;> cases hg
   rename_i j hj
   obtain ⟨v, rfl, rv⟩ := rs.one
   have := rv.int; subst this
   exact ⟨j, rfl, hj.1, hj.2, h1 Hc1 H1 (Ext.refl e1.sub) p1 _ Zn2⟩
  ·cases hg
theorem Zql (hr : DA W m E [true, true] tr fr) : DI W m E c (Zl1 tr) (Z2j uR2 fr) := by
 intro H0 ρ ω σ Hc H ow S R h
 refine hr H0 ρ ω σ Hc H ow S _ ((Aft.bnd h).imp fun us ω1 Hc1 H1 e1 p1 h1 vs rs => ?_)
 revert h1
 cases hg : uR2 us with
 | none => exact fun h1 => h1.elim
 | some ws =>
  intro h1
  unfold uR2 at hg
  split at hg
  ·split at hg <;> cases hg
   rename_i i j hj
   obtain ⟨v, v', rfl, rv, rv'⟩ := rs.two
   have := rv.int; subst this
   have := rv'.int; subst this
   exact ⟨i, j, rfl, ⟨hj.1.1, hj.1.2, hj.2.1, hj.2.2⟩, h1 Hc1 H1 (Ext.refl e1.sub) p1 _ Zn2⟩
  ·cases hg
end
theorem Ext.again {W : Wd} {Hc0 H0 Hc H : Hp} (x : Ext W Hc0 H0 Hc H) : Ext W Hc H0 Hc H := ⟨x.same, fun ψ ψ h => h, x.sub, fun ψ h ψ => h, x.frz⟩
theorem Ext.comp {W : Wd} {Hc0 H0 Hc H Hc' H' : Hp} (x : Ext W Hc0 H0 Hc H) (y : Ext W Hc H0 Hc' H') : Ext W Hc0 H0 Hc' H' := ⟨y.same, x.sc.trans y.sc, y.sub, fun b h k => y.new b (x.new b h k) k, y.frz⟩
def forU (st : U -> En -> Om -> Fl) : List U -> En -> Om -> Fl
 | [], ρ, ω => .nx ρ ω
 | x :: xs, ρ, ω => match st x ρ ω with
  | .nx ρ' ω' => forU st xs ρ' ω'
  | .ct ρ' ω' => forU st xs ρ' ω'
  | .bk ρ' ω' => .nx ρ' ω'
  | o => o
def Z1r (a : U -> En -> Option En) (b : Sf) : U -> En -> Om -> Fl := fun x ρ ω => match a x ρ with
 | some ρ' => b ρ' ω
 | none => .stk
def sFor (fi : Af) (a : U -> En -> Option En) (b : Sf) : Sf := fun ρ ω => Fl.of (fi ρ ω) fun us ω1 => forU (Z1r a b) us ρ ω1
section
variable {W : Wd} {m : Md} {E : XK} {wi : TI} {fi : Af} {g : TG} {a : U -> En -> Option En} {tb : TS} {b : Sf}
theorem Z6n {α : Type} {xs : List α} {i : Nat} {x : α} (h : xs[i]? = some x) : xs.drop i = x :: xs.drop (i + 1) := by
 obtain ⟨l, e⟩ := List.getElem?_eq_some_iff.mp h
 rw [List.drop_eq_getElem_cons l, e]
theorem Zn3 (hi : DI W m E false wi fi) (hg : DG W m g a) (hb : DS W m E tb b) : DS W m E (tFor wi g tb) (sFor fi a b) := by
 intro H0 Hc0 ρ ω σ Hc H ow S x D h
 refine hi H0 ρ ω σ Hc H ow S _ ((Cont.of x h).imp fun us ω1 Hc1 H1 e1 p1 k J hJ => ?_)
 have S1 := S.ext e1 p1
 refine ⟨fun i n σ H => n = us.length - i /\ i <= us.length /\ ∃ ρ ω Hc ow, Sr W m ρ ω σ H0 Hc H ow /\ Ext W Hc0 H0 Hc H /\ Same Hc1 Hc /\ Cont W m E Hc0 H0 D (forU (Z1r a b) (us.drop i) ρ ω), ⟨us.length, by simp, Nat.zero_le _, ρ, ω1, Hc1, ow, S1, x.trans e1, fun ψ ψ h => h, k⟩, ?_⟩
 rintro i n σ2 H2 ⟨rfl, hle, ρ2, ω2, Hc2, ow2, S2, x2, sc, k2⟩
 have J2 := hJ Hc2 H2 sc S2.sub S2.s0
 by_cases lt : i < us.length
 ·have hx : us[i]? = some us[i] := by simp [lt]
  obtain ⟨go, yl⟩ := J2.1 i _ hx
  rw [Z6n hx] at k2
  refine .inr ⟨go, fun σ' H' => i + 1 <= us.length /\ ∃ ρ ω Hc ow, Sr W m ρ ω σ' H0 Hc H' ow /\ Ext W Hc0 H0 Hc H' /\ Same Hc1 Hc /\ Cont W m E Hc0 H0 D (forU (Z1r a b) (us.drop (i + 1)) ρ ω), fun σ' H' hq => ⟨_, by omega, rfl, hq.1, hq.2⟩, fun y H3 hy => ?_⟩
  obtain ⟨Hc3, e3, s3, ry⟩ := yl y H3 hy
  have p3 : PlOk W ω2 Hc3 H3 := S2.pl.same e3 s3
  have S3 := S2.ext e3 p3
  have x3 := x2.trans e3
  unfold forU Z1r at k2
  cases q : a us[i] ρ2 with
  | none => simp only [q] at k2; exact k2.elim
  | some ρ' =>
   simp only [q] at k2
   refine hg H0 ρ2 ω2 σ2 Hc3 H3 ow2 _ y ρ' S3 ry q _ fun σ' S' => ?_
   refine hb H0 Hc3 ρ' ω2 σ' Hc3 H3 ow2 S' x3.again _ ?_
   revert k2
   cases b ρ' ω2 with
   | nx ρ4 ω4 => exact fun k2 σ4 Hc4 H4 ow4 S4 x4 => ⟨lt, ρ4, ω4, Hc4, ow4, S4, x3.comp x4, (sc.trans e3.sc).trans x4.sc, k2⟩
   | ct ρ4 ω4 => exact fun k2 σ4 Hc4 H4 ow4 S4 x4 => ⟨lt, ρ4, ω4, Hc4, ow4, S4, x3.comp x4, (sc.trans e3.sc).trans x4.sc, k2⟩
   | bk ρ4 ω4 => exact fun k2 σ4 Hc4 H4 ow4 S4 x4 => k2 σ4 Hc4 H4 ow4 S4 (x3.comp x4)
   | rt u ω4 => exact fun k2 v Hc4 H4 x4 => k2 v Hc4 H4 (x3.comp x4)
   | err c pl ω4 => exact fun k2 C od Hc4 H4 x4 => k2 C od Hc4 H4 (x3.comp x4)
   | stk => exact fun k2 => k2
 ·have e : i = us.length := by omega
  subst e
  rw [List.drop_length] at k2
  exact .inl ⟨J2.2, k2 σ2 Hc2 H2 ow2 S2 x2⟩
def wh (c : Tf) (b : Sf) : Nat -> En -> Om -> Option Fl
 | 0, _, _ => none
 | n + 1, ρ, ω => match c ρ ω with
  | .ok true ω1 => match b ρ ω1 with
   | .nx ρ' ω' => wh c b n ρ' ω'
   | .ct ρ' ω' => wh c b n ρ' ω'
   | .bk ρ' ω' => some (.nx ρ' ω')
   | o => some o
  | .ok false ω1 => some (.nx ρ ω1)
  | .err e p ω1 => some (.err e p ω1)
  | .stk => some .stk
open Classical in
def sWh (c : Tf) (b : Sf) : Sf := fun ρ ω => if h : ∃ r n, wh c b n ρ ω = some r then h.choose else .stk
theorem Z5b {c : Tf} {b : Sf} {r : Fl} : ∀ {n : Nat} {ρ : En} {ω : Om} (k : Nat), wh c b n ρ ω = some r -> wh c b (n + k) ρ ω = some r
 | 0, _, _, _, h => by cases h
 | n + 1, ρ, ω, k, h => by
  rw [show n + 1 + k = (n + k) + 1 by omega]
  unfold wh at h ⊢
  cases q : c ρ ω with
  | ok t ω1 =>
   cases t with
   | false => simp only [q] at h ⊢; exact h
   | true =>
    simp only [q] at h ⊢
    cases q2 : b ρ ω1 with
    | nx ρ' ω' => simp only [q2] at h ⊢; exact Z5b k h
    | ct ρ' ω' => simp only [q2] at h ⊢; exact Z5b k h
    | _ => simp only [q2] at h ⊢; exact h
  | err e p ω1 => simp only [q] at h ⊢; exact h
  | stk => simp only [q] at h ⊢; exact h
theorem Zio {c : Tf} {b : Sf} {r r' : Fl} {n n' : Nat} {ρ : En} {ω : Om} (h : wh c b n ρ ω = some r) (h' : wh c b n' ρ ω = some r') : r = r' := by
 have z1 := Z5b n' h
 have z2 := Z5b n h'
 rw [Nat.add_comm] at z2
 rw [z1] at z2
 exact Option.some.inj z2
theorem Z4r {c : Tf} {b : Sf} {r : Fl} {n : Nat} {ρ : En} {ω : Om} (h : wh c b n ρ ω = some r) : sWh c b ρ ω = r := by
 have ex : ∃ r n, wh c b n ρ ω = some r := ⟨r, n, h⟩
 unfold sWh
 rw [dif_pos ex]
 obtain ⟨n', z⟩ := ex.choose_spec
 exact Zio z h
theorem Z81 {c : Tf} {b : Sf} {ρ : En} {ω ω1 : Om} (h : c ρ ω = .ok false ω1) : sWh c b ρ ω = .nx ρ ω1 := Z4r (n := 1) (by unfold wh; simp only [h])
theorem Z5c {c : Tf} {b : Sf} {ρ : En} {ω : Om} (h : ¬ ∃ r n, wh c b n ρ ω = some r) : sWh c b ρ ω = .stk := by unfold sWh; rw [dif_neg h]
theorem Z5d {c : Tf} {b : Sf} {ρ ρ' : En} {ω ω1 ω' : Om} (h : c ρ ω = .ok true ω1) (h2 : b ρ ω1 = .nx ρ' ω') : sWh c b ρ ω = sWh c b ρ' ω' := by
 by_cases ex : ∃ r n, wh c b n ρ' ω' = some r
 ·obtain ⟨r, n, z⟩ := ex
  rw [Z4r z]
  exact Z4r (n := n + 1) (by unfold wh; simp only [h, h2]; exact z)
 ·rw [Z5c ex]
  refine Z5c fun ⟨r, n, z⟩ => ex ?_
  cases n with
  | zero => cases z
  | succ n => unfold wh at z; simp only [h, h2] at z; exact ⟨r, n, z⟩
theorem Zip {c : Tf} {b : Sf} {ρ : En} {u : U} {ω ω1 ω' : Om} (h : c ρ ω = .ok true ω1) (h2 : b ρ ω1 = .rt u ω') : sWh c b ρ ω = .rt u ω' := Z4r (n := 1) (by unfold wh; simp only [h, h2])
theorem Ziq {c : Tf} {b : Sf} {ρ : En} {e : Str} {p : Option Int} {ω ω1 ω' : Om} (h : c ρ ω = .ok true ω1) (h2 : b ρ ω1 = .err e p ω') : sWh c b ρ ω = .err e p ω' := Z4r (n := 1) (by unfold wh; simp only [h, h2])
theorem Zir {c : Tf} {b : Sf} {K : Fl -> Prop} (P : Nat -> En -> Om -> Prop) (hs : ∀ n ρ ω, P n ρ ω -> (∃ ω1, c ρ ω = .ok false ω1 /\ K (.nx ρ ω1)) \/ (∃ ω1, c ρ ω = .ok true ω1 /\
  ((∃ n' ρ' ω', n' < n /\ b ρ ω1 = .nx ρ' ω' /\ P n' ρ' ω') \/ (∃ u ω', b ρ ω1 = .rt u ω' /\ K (.rt u ω')) \/ (∃ e p ω', b ρ ω1 = .err e p ω' /\ K (.err e p ω'))))) : ∀ (n : Nat) (ρ : En) (ω : Om), P n ρ ω -> K (sWh c b ρ ω) := by
 intro n
 induction n using Nat.strongRecOn with
 | ind n ih =>
  intro ρ ω h
  rcases hs n ρ ω h with ⟨ω1, z, k⟩ | ⟨ω1, z, ⟨n', ρ', ω', l, z2, p⟩ | ⟨u, ω', z2, k⟩ | ⟨e, p, ω', z2, k⟩⟩
  ·rw [Z81 z]; exact k
  ·rw [Z5d z z2]; exact ih n' l ρ' ω' p
  ·rw [Zip z z2]; exact k
  ·rw [Ziq z z2]; exact k
theorem Zet {tc : TT} {c : Tf} (hc : DT W m E tc c) (hb : DS W m E tb b) : DS W m E (Zgd tc tb) (sWh c b) := by
 intro H0 Hc0 ρ ω σ Hc H ow S x D h
 by_cases ex : ∃ r n, wh c b n ρ ω = some r
 ·obtain ⟨r, n, hr⟩ := ex
  rw [Z4r hr] at h
  refine ⟨fun n σ H => ∃ ρ ω Hc ow, Sr W m ρ ω σ H0 Hc H ow /\ Ext W Hc0 H0 Hc H /\ wh c b n ρ ω = some r, ⟨n, ρ, ω, Hc, ow, S, x, hr⟩, ?_⟩
  rintro n σ2 H2 ⟨ρ2, ω2, Hc2, ow2, S2, x2, w2⟩
  cases n with
  | zero => cases w2
  | succ n =>
   unfold wh at w2
   refine hc H0 ρ2 ω2 σ2 Hc2 H2 ow2 S2 _ ?_
   cases q : c ρ2 ω2 with
   | stk => simp only [q] at w2; cases w2; exact h
   | err e p ω1 => simp only [q] at w2; cases w2; exact fun C od Hc' H' e p hm hx => h C od Hc' H' (x2.trans e) p hm hx
   | ok t ω1 =>
    intro Hc3 H3 e3 p3
    have S3 := S2.ext e3 p3
    have x3 := x2.trans e3
    cases t with
    | false =>
     simp only [q] at w2; cases w2
     rw [if_neg Bool.false_ne_true]
     exact h σ2 Hc3 H3 ow2 S3 x3
    | true =>
     simp only [q] at w2
     rw [if_pos rfl]
     refine ⟨fun σ' H' => ∃ ρ ω Hc ow, Sr W m ρ ω σ' H0 Hc H' ow /\ Ext W Hc0 H0 Hc H' /\ wh c b n ρ ω = some r, fun σ' H' hq => ⟨n, Nat.lt_succ_self n, hq⟩, ?_⟩
     refine hb H0 Hc0 ρ2 ω1 σ2 Hc3 H3 ow2 S3 x3 _ ?_
     cases q2 : b ρ2 ω1 with
     | nx ρ4 ω4 => simp only [q2] at w2; exact fun σ4 Hc4 H4 ow4 S4 x4 => ⟨ρ4, ω4, Hc4, ow4, S4, x4, w2⟩
     | ct ρ4 ω4 => simp only [q2] at w2; exact fun σ4 Hc4 H4 ow4 S4 x4 => ⟨ρ4, ω4, Hc4, ow4, S4, x4, w2⟩
     | bk ρ4 ω4 => simp only [q2] at w2; cases w2; exact h
     | rt u ω4 => simp only [q2] at w2; cases w2; exact h
     | err e p ω4 => simp only [q2] at w2; cases w2; exact h
     | stk => simp only [q2] at w2; cases w2; exact h
 ·rw [Z5c ex] at h; exact h.elim
end
def blkU (k : Nat) (js : List Nat) (ρ : En) : En := List.replicate k none ++ js.map fun j => (ρ[j]?).getD none
def cmpU (st : U -> Om -> Res (Option U)) : List U -> Om -> Res (List U)
 | [], ω => .ok [] ω
 | x :: xs, ω => (st x ω).bnd fun o ω1 => (cmpU st xs ω1).bnd fun r ω2 => .ok (o.toList ++ r) ω2
def cstU (a : U -> En -> Option En) (ft : Tf) (fe : Ef) (ρ : En) : U -> Om -> Res (Option U) := fun x ω => match a x ρ with
 | some ρ' => (ft ρ' ω).bnd fun b ω1 => if b = true then (fe ρ' ω1).bnd fun u ω2 => .ok (some u) ω2 else .ok none ω1
 | none => .stk
def asOk {α β : Type} (r : Res α) (k : α -> Om -> Res β) : Res β := match r with
 | .ok a ω => k a ω
 | _ => .stk
@[simp] theorem asOk_ok {α β : Type} {a : α} {ω : Om} {k : α -> Om -> Res β} : asOk (.ok a ω) k = k a ω := rfl
open Classical in
def Z2k (fi : Af) (k : Nat) (js : List Nat) (a : U -> En -> Option En) (ft : Tf) (fe : Ef) : Ef := fun ρ ω => (fi ρ ω).bnd fun us ω1 =>
 if us.length <= sizeLine then asOk (cmpU (cstU a ft fe (blkU k js ρ)) us ω1) fun r ω2 => .ok (.lst r) ω2 else .stk
section
variable {W : Wd} {m mb : Md} {E : XK} {wi : TI} {fi : Af} {k : Nat} {js : List Nat} {g : TG} {a : U -> En -> Option En} {tc : TT} {ft : Tf} {te : TE} {fe : Ef}
theorem Zgo {ρ : En} {i : Nat} {u : U} (h : (blkU k js ρ)[i]? = some (some u)) : ∃ p j, i = k + p /\ js[p]? = some j /\ ρ[j]? = some (some u) := by
 unfold blkU at h
 by_cases l : i < k
 ·rw [List.getElem?_append_left (by simpa using l), List.getElem?_replicate] at h
  split at h <;> cases h
 ·rw [List.getElem?_append_right (by simpa using l), List.length_replicate, List.getElem?_map] at h
  refine ⟨i - k, ?_⟩
  cases q : js[i - k]? with
  | none => rw [q] at h; exact noS h
  | some j =>
   rw [q] at h
   refine ⟨j, by lia, rfl, ?_⟩
   cases q2 : ρ[j]? with
   | none => rw [show (some j).map (fun j => (ρ[j]?).getD none) = some ((ρ[j]?).getD none) from rfl, q2] at h; cases h
   | some w =>
    rw [show (some j).map (fun j => (ρ[j]?).getD none) = some ((ρ[j]?).getD none) from rfl, q2] at h
    cases h; rfl
theorem Zc1 {σ : St} {p j : Nat} {v : V} (h : js[p]? = some j) (hv : σ[j]? = some (some v)) : (blk k js σ)[k + p]? = some (some v) := by
 unfold blk
 rw [List.getElem?_append_right (by simp), List.length_replicate, Nat.add_sub_cancel_left, List.getElem?_map, h]
 show some ((σ[j]?).getD none) = _
 rw [hv]; rfl
theorem Sr.blk {ρ : En} {ω ω' : Om} {σ : St} {H0 Hc1 H1 Hc H : Hp} {ow : Nat -> Addr} (S : Sr W m ρ ω σ H0 Hc1 H1 ow) (hB : ∀ p j, js[p]? = some j -> (j ∈ m.B \/ j ∈ m.M) -> k + p ∈ mb.B) (hM : mb.M = []) (e : Ext W Hc1 H1 Hc H) (p : PlOk W ω' Hc H) :
  Sr W mb (blkU k js ρ) ω' (blk k js σ) H1 Hc H ow := by
 refine ⟨e.sub, e.same, fun b hb => (S.pl.out b hb).2, by unfold blkU L2.blk; simp, p, fun i u n1 n2 h => ?_, fun i u n1 n2 h => ?_, fun i u n h => (by rw [hM] at n; cases n), fun i j u w n => (by rw [hM] at n; cases n)⟩
 ·obtain ⟨q, j, rfl, hj, hu⟩ := Zgo h
  obtain ⟨v, hv, rv⟩ := S.cl j u (fun z => n1 (hB q j hj (.inl z))) (fun z => n1 (hB q j hj (.inr z))) hu
  exact ⟨v, Zc1 hj hv, rv.mono e.sc⟩
 ·obtain ⟨q, j, rfl, hj, hu⟩ := Zgo h
  obtain ⟨v, hv, rv⟩ := S.get hu
  refine ⟨v, Zc1 hj hv, ?_⟩
  rcases rv with rv | ⟨b, o, e2, nl, q1, q2⟩
  ·exact .inl (rv.mono e.sc)
  ·exact .inr ⟨b, o, e2, nl, q1, q2.mono e.sc⟩
@[reducible] def cmpI (W : Wd) (st : U -> Om -> Res (Option U)) (us tot : List U) (ωf : Om) (Hc1 H1 : Hp) : Nat -> Nat -> List V -> Hp -> Prop := fun i n ys H => n = us.length - i /\ i <= us.length /\ ∃ ω Hc acc rest, Ext W Hc1 H1 Hc H /\ PlOk W ω Hc H /\ RUs W Hc acc ys /\ acc.length <= i /\ cmpU st (us.drop i) ω = .ok rest ωf /\ acc ++ rest = tot
theorem Zis (hi : DI W m E true wi fi) (hg : DG W mb g a) (ht : DT W mb E0 tc ft) (he : DE W mb E0 te fe) (hB : ∀ p j, js[p]? = some j -> (j ∈ m.B \/ j ∈ m.M) -> k + p ∈ mb.B) (hM : mb.M = []) :
  DF W m E (Zlq wi k js g tc te) (Z2k fi k js a ft fe) := by
 intro H0 ρ ω σ Hc H ow S Q h
 refine hi H0 ρ ω σ Hc H ow S _ ((Aft.bnd h).imp fun us ω1 Hc1 H1 e1 p1 h1 J hJ => ?_)
 have S1 := S.ext e1 p1
 rw [if_pos rfl] at hJ
 by_cases hl : us.length <= sizeLine
 ·rw [if_pos hl] at h1
  cases hr : cmpU (cstU a ft fe (blkU k js ρ)) us ω1 with
  | stk => rw [hr] at h1; exact h1.elim
  | err _ _ _ => rw [hr] at h1; exact h1.elim
  | ok tot ωf =>
   rw [hr] at h1
   refine ⟨cmpI W (cstU a ft fe (blkU k js ρ)) us tot ωf Hc1 H1,
    ⟨us.length, by simp, Nat.zero_le _, ω1, Hc1, [], tot, Ext.refl e1.sub, p1, .nil, Nat.zero_le _, hr, rfl⟩, ?_⟩
   rintro i n ys H2 ⟨rfl, hle, ω2, Hc2, acc, rest, e2, p2, r2, l2, w2, tt⟩
   have J2 := hJ Hc2 H2 e2.sc e2.sub e2.same
   by_cases lt : i < us.length
   ·have hx : us[i]? = some us[i] := by simp [lt]
    obtain ⟨go, yl⟩ := J2.1 i _ hx
    rw [Z6n hx] at w2
    refine .inr ⟨go, by rw [<- r2.len]; lia, fun y H3 hy => ?_⟩
    obtain ⟨Hc3, e3, s3, ry⟩ := yl y H3 hy
    have p3 : PlOk W ω2 Hc3 H3 := p2.same e3 s3
    have Sb := S1.blk (mb := mb) hB hM (e2.trans e3) p3
    unfold cmpU at w2
    cases q : a us[i] (blkU k js ρ) with
    | none => rw [show cstU a ft fe (blkU k js ρ) us[i] ω2 = .stk by unfold cstU; rw [q]] at w2; cases w2
    | some ρ' =>
     rw [show cstU a ft fe (blkU k js ρ) us[i] ω2 = (ft ρ' ω2).bnd fun b ω1 => if b = true then (fe ρ' ω1).bnd fun u ω2 => .ok (some u) ω2 else .ok none ω1 by unfold cstU; rw [q]] at w2
     refine hg H1 _ ω2 _ Hc3 H3 ow _ y ρ' Sb ry q _ fun σ' S' => ?_
     cases q2 : ft ρ' ω2 with
     | stk => rw [q2] at w2; cases w2
     | err _ _ _ => rw [q2] at w2; cases w2
     | ok b ω4 =>
      rw [q2] at w2
      refine ht H1 ρ' ω2 σ' Hc3 H3 ow S' _ ?_
      rw [q2]
      intro Hc4 H4 e4 p4
      have S4 := S'.ext e4 p4
      cases b with
      | false =>
       rw [if_neg Bool.false_ne_true]
       simp only [Res.bnd_ok, Bool.false_eq_true, if_false] at w2
       cases q5 : cmpU (cstU a ft fe (blkU k js ρ)) (us.drop (i + 1)) ω4 with
       | stk => rw [q5] at w2; cases w2
       | err _ _ _ => rw [q5] at w2; cases w2
       | ok r5 ω5 =>
        rw [q5] at w2
        simp only [Res.bnd_ok, Option.toList_none, List.nil_append] at w2
        cases w2
        exact ⟨_, by lia, rfl, lt, ω4, Hc4, acc, _, (e2.trans e3).trans e4, p4, (r2.mono e3.sc).mono e4.sc, by lia, q5, tt⟩
      | true =>
       rw [if_pos rfl]
       simp only [Res.bnd_ok, if_true] at w2
       cases q6 : fe ρ' ω4 with
       | stk => rw [q6] at w2; cases w2
       | err _ _ _ => rw [q6] at w2; cases w2
       | ok u ω6 =>
        rw [q6] at w2
        simp only [Res.bnd_ok] at w2
        refine he H1 ρ' ω4 σ' Hc4 H4 ow S4 _ ?_
        rw [q6]
        intro Hc6 H6 e6 p6 v rv
        cases q5 : cmpU (cstU a ft fe (blkU k js ρ)) (us.drop (i + 1)) ω6 with
        | stk => rw [q5] at w2; cases w2
        | err _ _ _ => rw [q5] at w2; cases w2
        | ok r5 ω5 =>
         rw [q5] at w2
         simp only [Res.bnd_ok, Option.toList_some] at w2
         cases w2
         exact ⟨_, by lia, rfl, lt, ω6, Hc6, acc ++ [u], _, ((e2.trans e3).trans e4).trans e6, p6, (((r2.mono e3.sc).mono e4.sc).mono e6.sc).app (.one rv), by simp; lia, q5, by rw [List.append_assoc]; exact tt⟩
   ·have e : i = us.length := by lia
    subst e
    rw [List.drop_length] at w2
    unfold cmpU at w2
    cases w2
    rw [List.append_nil] at tt
    subst tt
    refine .inl ⟨J2.2, by rw [<- r2.len]; lia, fun p n => ?_⟩
    exact h1 Hc2 _ (e2.trans (Z0u e2.sub p2 n).1) (Z0u e2.sub p2 n).2 _ _ _ rfl (e2.sub.free n) ((e1.trans e2).frz' n) Z03 r2
 ·rw [if_neg hl] at h1; exact h1.elim
end
def Zqm (W : Wd) (E : XK) (Hc0 H0 : Hp) (D : Ends) (r : Fl) : Prop := match r with
 | .nx _ ω' => ∀ σ' Hc' H', Ext W Hc0 H0 Hc' H' -> PlOk W ω' Hc' H' -> D.nx σ' H'
 | .bk _ _ => False
 | .ct _ _ => False
 | .rt u ω' => ∀ v Hc' H', Ext W Hc0 H0 Hc' H' -> PlOk W ω' Hc' H' -> RU W Hc' u v -> D.rt v H'
 | .err c pl ω' => ∀ C od Hc' H', Ext W Hc0 H0 Hc' H' -> PlOk W ω' Hc' H' -> W.mg c = some (.ref C) -> XR Hc' pl od -> E (.ref C) od H'
 | .stk => False
def DK (W : Wd) (m : Md) (E : XK) (t : TS) (g : Sf) : Prop := ∀ H0 Hc0 ρ ω σ Hc H ow, Sr W m ρ ω σ H0 Hc H ow -> Ext W Hc0 H0 Hc H -> ∀ D : Ends, Zqm W E Hc0 H0 D (g ρ ω) -> t D σ H
section
variable {W : Wd} {m : Md} {E : XK} {t1 t2 t : TS} {g1 g2 gs : Sf}
theorem Zn4 (h : DS W m E t gs) : DK W m E t gs := by
 intro H0 Hc0 ρ ω σ Hc H ow S x D k
 refine h H0 Hc0 ρ ω σ Hc H ow S x D ?_
 revert k
 cases gs ρ ω with
 | nx ρ' ω' => exact fun k σ' Hc' H' ow' S' x' => k σ' Hc' H' x' S'.pl
 | bk ρ' ω' => exact fun k => k.elim
 | ct ρ' ω' => exact fun k => k.elim
 | _ => exact fun k => k
theorem Zn5 (h1 : DS W m E t1 g1) (h2 : DK W m E t2 g2) : DK W m E (tSeq t1 t2) (sSeq g1 g2) := by
 intro H0 Hc0 ρ ω σ Hc H ow S x D h
 refine h1 H0 Hc0 ρ ω σ Hc H ow S x { D with nx := t2 D } ?_
 unfold sSeq at h
 revert h
 cases g1 ρ ω with
 | nx ρ' ω' => exact fun h σ' Hc' H' ow' S' x' => h2 H0 Hc0 ρ' ω' σ' Hc' H' ow' S' x' D h
 | bk ρ' ω' => exact fun k => k.elim
 | ct ρ' ω' => exact fun k => k.elim
 | _ => exact fun h => h
theorem Zc2 (M' : List Nat) (hM : ∀ i ∈ M', i ∈ m.M) (hB : ∀ i ∈ m.M, i ∉ m.B) (h : DK W ⟨m.B, M'⟩ E t gs) : DK W m E t gs := by
 intro H0 Hc0 ρ ω σ Hc H ow S x D k
 obtain ⟨Hf, Sf', xf⟩ := S.freeze M' hM hB x
 exact h H0 Hc0 ρ ω σ Hf H ow Sf' xf D k
end
def runU (n : Nat) (g : Sf) : Ff := fun us ω => match g (us.map some ++ List.replicate (n - us.length) none) ω with
 | .nx _ ω' => .ok .non ω'
 | .rt u ω' => .ok u ω'
 | .err c p ω' => .err c p ω'
 | _ => .stk
theorem RBs.at {W : Wd} {Hc H : Hp} : ∀ {bs : List Bool} {us : List U} {vs : List V} {i : Nat} {u : U}, RBs W Hc H bs us vs -> us[i]? = some u -> ∃ v b, vs[i]? = some v /\ bs[i]? = some b /\ if b = true then RB W Hc H u v else RU W Hc u v
 | [], [], [], _, _, _, e => by simp at e
 | b :: bs, u :: us, v :: vs, 0, w, h, e => by unfold RBs at h; simp at e; subst e; exact ⟨v, b, rfl, rfl, h.1⟩
 | b :: bs, u :: us, v :: vs, i + 1, w, h, e => by
  unfold RBs at h
  obtain ⟨v', b', q1, q2, q3⟩ := RBs.at h.2 (show us[i]? = some w by simpa using e)
  exact ⟨v', b', by simpa using q1, by simpa using q2, q3⟩
 | [], _ :: _, _, _, _, h, _ => by unfold RBs at h; exact h.elim
 | [], [], _ :: _, _, _, h, _ => by unfold RBs at h; exact h.elim
 | _ :: _, [], _, _, _, h, _ => by unfold RBs at h; exact h.elim
 | _ :: _, _ :: _, [], _, _, h, _ => by unfold RBs at h; exact h.elim
theorem Sr.start {W : Wd} {m : Md} {ω : Om} {Hc H : Hp} {bs : List Bool} {us : List U} {vs : List V} {N : List Str} (s : Same Hc H) (p : PlOk W ω Hc H) (r : RBs W Hc H bs us vs) (hB : ∀ i, bs[i]? = some true -> i ∈ m.B) (hM : ∀ i ∈ m.M, bs.length <= i) (hn : vs.length <= N.length) :
  Sr W m (us.map some ++ List.replicate (N.length - us.length) none) ω (L2.start N vs) H Hc H (fun ψ => 0) := by
 have l1 := r.len.1
 have l2 := r.len.2
 have key : ∀ {i : Nat} {u : U}, (us.map some ++ List.replicate (N.length - us.length) none)[i]? = some (some u) -> us[i]? = some u := fun {i u} h => by
  by_cases l : i < us.length
  ·rw [List.getElem?_append_left (by simpa using l), List.getElem?_map] at h
   cases q : us[i]? with
   | none => rw [q] at h; exact noS h
   | some w => rw [q] at h; cases h; rfl
  ·rw [List.getElem?_append_right (by simpa using l), List.getElem?_replicate] at h
   split at h <;> cases h
 have kv : ∀ {i : Nat} {v : V}, vs[i]? = some v -> (L2.start N vs)[i]? = some (some v) := fun {i v} h => by
  have l : i < vs.length := (List.getElem?_eq_some_iff.mp h).1
  unfold L2.start
  rw [List.getElem?_append_left (by simpa using l), List.getElem?_map, h]; rfl
 refine ⟨s, fun ψ ψ ψ h => h, fun b hb => (p.out b hb).2, by unfold L2.start; simp; lia, p, fun i u n1 n2 h => ?_, fun i u n1 n2 h => ?_, fun i u n h => ?_, fun i j u w n m' ne h => ?_⟩
 ·obtain ⟨v, b, q1, q2, q3⟩ := r.at (key h)
  cases b with
  | true => exact absurd (hB i q2) n1
  | false => exact ⟨v, kv q1, q3⟩
 ·obtain ⟨v, b, q1, q2, q3⟩ := r.at (key h)
  refine ⟨v, kv q1, ?_⟩
  cases b with
  | true => exact q3
  | false => exact .inl q3
 ·have z := (List.getElem?_eq_some_iff.mp (key h)).1
  have := hM i n
  lia
 ·have z := (List.getElem?_eq_some_iff.mp (key h)).1
  have := hM i n
  lia
section
variable {P : Program} {w : World} {K : L2.Fg} {mg : L2.SV} {base : Heap}
theorem Fun.okU {x qual : Str} {st : Stmt} {f : Addr} {fd : FuncData} {N ps : List Str} {k : Nat} {wk : Wd -> Prop} {bs : List Bool} {m : Md} {g : Sf} (F : Fun K x qual st f fd) (S : Z0m N ps (Z05 st)) (hl : bs.length = ps.length) (hB : ∀ i, bs[i]? = some true -> i ∈ m.B) (hM : ∀ i ∈ m.M, bs.length <= i) (hN : ps.length <= N.length)
  (hbody : ∀ (cdv : Value) (A : Around) (outer : List Env) (s : Shared) (H : Hp) (E : XK) (W : Wd), W.K = K -> W.mg = mg -> wk W -> Room k (A.deeper (envOfC qual (Z05 st) s.heap.objs.size f cdv)) -> A.handled = none ->
   ∃ t, PSs (cxOf (CX1 P w) P w K mg base N qual (Z05 st) f cdv A outer s H E) (Z0e st) t /\ DK W m E t g) : FnOk P w K mg base (CX1 P w) (k + 1) f fd ps (spU K mg wk bs.length bs (runU N.length g)) := by
 refine F.okX S (fun vs H Q E h => ?_) fun cdv A outer s H vs Q E hr hA hsp => ?_
 ·obtain ⟨W, us, ω, Hc, _, _, _, hl', _⟩ := h
  rw [hl', hl]
 ·obtain ⟨W, us, ω, Hc, hK, hm, hw, hl', sub, pl, rbs, aft⟩ := hsp
  obtain ⟨t, ht, dk⟩ := hbody cdv A outer s H E W hK hm hw hr hA
  refine ⟨t, ht, dk H Hc _ ω _ Hc H _ (Sr.start (N := N) sub pl rbs hB hM (by rw [hl', hl]; exact hN)) (Ext.refl sub) _ ?_⟩
  unfold runU at aft
  revert aft
  cases g (us.map some ++ List.replicate (N.length - us.length) none) ω with
  | nx ρ' ω' => exact fun h σ' Hc' H' e p => h Hc' H' e p _ .non
  | rt u ω' => exact fun h v Hc' H' e p r => h Hc' H' e p v r
  | err c pl ω' => exact fun h => h
  | bk _ _ => exact fun h => h
  | ct _ _ => exact fun h => h
  | stk => exact fun h => h
end
abbrev FC (ι : Type) := ι -> Cx
structure Ctx {ι : Type} (X : L2.FC ι) (W : Wd) (E : XK) : Prop where
 hK : ∀ x, (X x).K = W.K
 hm : ∀ x, (X x).mg = W.mg
 calm : ∀ x, (X x).calm = true
 hu : ∀ x, (X x).A.units + 64 < cLine
 ps : ∀ x, Z8m (CX1 (X x).prog (X x).w) (X x) E
section
variable {ι : Type} (X : L2.FC ι) (W : Wd) (m : Md) (E : XK)
def QE (e : Expr) (f : Ef) : Prop := ∃ t, (∀ x, PE (X x) e t) /\ DE W m E t f
def QB (e : Expr) (f : Ef) : Prop := ∃ t, (∀ x, PE (X x) e t) /\ DB W m E t f
def QF (e : Expr) (f : Ef) : Prop := ∃ t, (∀ x, PE (X x) e t) /\ DF W m E t f
def QT (e : Expr) (f : Tf) : Prop := ∃ t, (∀ x, PT (X x) e t) /\ DT W m E t f
def QW (e : Expr) (f : Tf) : Prop := ∃ t, (∀ x, PW (X x) e t) /\ DT W m E t f
def QTs (es : List Expr) (f : Tf) : Prop := ∃ t, (∀ x, PTs (X x) es t) /\ DT W m E t f
def QA (bs : List Bool) (es : List Expr) (f : Af) : Prop := ∃ t, (∀ x, PA (X x) es t) /\ DA W m E bs t f
def QP (e : Option Expr) (f : Pf) : Prop := ∃ t, (∀ x, PO (X x) e t) /\ DP W m E t f
def QI (c : Bool) (tg e : Expr) (f : Af) : Prop := ∃ t, (∀ x, PI (X x) tg e t) /\ DI W m E c t f
def QG (e : Expr) (a : U -> En -> Option En) : Prop := ∃ t, (∀ x, PG (X x) e t) /\ DG W m t a
def QGs (es : List Expr) (a : List U -> En -> Option En) : Prop := ∃ t, (∀ x, PGs (X x) es t) /\ DGs W m t a
def QS (s : Stmt) (g : Sf) : Prop := ∃ t, (∀ x, PS (X x) s t) /\ DS W m E t g
def QSs (s : List Stmt) (g : Sf) : Prop := ∃ t, (∀ x, PSs (X x) s t) /\ DS W m E t g
def QK (s : List Stmt) (g : Sf) : Prop := ∃ t, (∀ x, PSs (X x) s t) /\ DK W m E t g
end
section
variable {ι : Type} {X : L2.FC ι} {W : Wd} {m : Md} {E : XK} {a b c e : Expr} {fa fb f : Ef} {ft ft' : Tf} {fr : Af} {bs : List Bool} {es : List Expr} {pos p p2 : Pos} {i : Nat} {x : Str}
theorem QE.tb (h : QE X W m E e f) : QB X W m E e f := let ⟨t, p, d⟩ := h; ⟨t, p, d.b⟩
theorem QF.te (h : QF X W m E e f) : QE X W m E e f := let ⟨t, p, d⟩ := h; ⟨t, p, d.e⟩
theorem QF.tb (h : QF X W m E e f) : QB X W m E e f := h.te.tb
theorem Z0q (i : Nat) (h1 : i ∉ m.B := by decide) (h2 : i ∉ m.M := by decide) (hN : ∀ y, (X y).N[i]? = some x := by intro ψ; rfl) (hv : ∀ y, Vis (X y).env.scope x := by intro ψ; first | exact Or.inl rfl | exact Or.inr (Or.inl rfl) | exact Or.inr (Or.inr rfl)) (hd : (x == ("__debug__" : Str)) = false := by decide)
  (hcd : (x == ("__classdict__" : Str)) = false := by decide) : QE X W m E (.Name x pos) (eVar i) := ⟨_, fun y => Z10 (hN y) (hv y) hd hcd, Zbw h1 h2⟩
theorem Z00 (i : Nat) (hN : ∀ y, (X y).N[i]? = some x := by intro ψ; rfl) (hv : ∀ y, Vis (X y).env.scope x := by intro ψ; first | exact Or.inl rfl | exact Or.inr (Or.inl rfl) | exact Or.inr (Or.inr rfl)) (hd : (x == ("__debug__" : Str)) = false := by decide)
  (hcd : (x == ("__classdict__" : Str)) = false := by decide) : QB X W m E (.Name x pos) (eVar i) := ⟨_, fun y => Z10 (hN y) (hv y) hd hcd, Zm0⟩
theorem Z02 {k : Int} {j} : QE X W m E (.Constant (.int k) j pos) (eC (.int k)) := ⟨_, fun ψ => Z4h, de_c fun ψ => .int⟩
theorem Z4b {k : Bool} {j} : QE X W m E (.Constant (.bool k) j pos) (eC (.bl k)) := ⟨_, fun ψ => Zpr, de_c fun ψ => .bl⟩
theorem Zn6 {j} : QE X W m E (.Constant .none j pos) (eC .non) := ⟨_, fun ψ => Zko, de_c fun ψ => .non⟩
theorem Zqn {n : String} (hm : ∀ y, (X y).mg x = none) (hv : bootBuiltins x = some (.type n)) (hg : ∀ y, Gl (X y) x := by intro ψ; rfl) (hn : x ≠ "__name__" := by decide) (hd : (x == ("__debug__" : Str)) = false := by decide) : QE X W m E (.Name x pos) (eC (.ty n)) :=
 ⟨_, fun y => Zhn (v := .ty n) (hg y) (hm y) hv rfl hn hd, de_c fun ψ => .ty⟩
theorem Z3r {op : Operator} {r : R2} {g : U -> U -> Option U} (o : ∀ y, OpR (X y) (binaryOp op) r) (u : OpU W r g) (ha : QB X W m E a fa) (hb : QB X W m E b fb) : QE X W m E (.BinOp a op b pos) (eOp g fa fb) :=
 let ⟨_, pa, da⟩ := ha; let ⟨_, pb, db⟩ := hb; ⟨_, fun y => Zpu (o y) (pa y) (pb y), Zel u da db⟩
theorem Z0g (cx : Ctx X W E) (ha : QB X W m E a fa) (hb : QB X W m E b fb) : QE X W m E (.BinOp a .Add b pos) (eOp uAdd fa fb) := Z3r (fun y => Zib (cx.hK y)) Zma ha hb
theorem Z13 (ha : QB X W m E a fa) (hb : QB X W m E b fb) : QE X W m E (.BinOp a .Sub b pos) (eOp uSub fa fb) := Z3r (fun ψ => Zl4) Zm2 ha hb
theorem Z1v (ha : QB X W m E a fa) (hb : QB X W m E b fb) : QE X W m E (.BinOp a .Mult b pos) (eOp uMul fa fb) := Z3r (fun ψ => Zi7) Zm7 ha hb
theorem Zn7 (ha : QB X W m E a fa) (hb : QB X W m E b fb) : QE X W m E (.BinOp a .Mult b pos) (eOp uRep fa fb) := Z3r (fun ψ => Zic) Zmd ha hb
theorem Z4s (ha : QB X W m E a fa) (hb : QB X W m E b fb) : QE X W m E (.BinOp a .FloorDiv b pos) (eOp uDiv fa fb) := Z3r (fun ψ => Zee) Zm4 ha hb
theorem Z2l (ha : QB X W m E a fa) (hb : QB X W m E b fb) : QE X W m E (.BinOp a .Mod b pos) (eOp uMod fa fb) := Z3r (fun ψ => Zl5) Zm5 ha hb
theorem Zn8 (ha : QB X W m E a fa) (hb : QB X W m E b fb) : QE X W m E (.BinOp a .Pow b pos) (eOp uPow fa fb) := Z3r (fun ψ => Zl6) Zm6 ha hb
theorem Z1z (ha : QB X W m E a fa) : QE X W m E (.UnaryOp .USub a pos) (eUn uNeg fa) := let ⟨_, pa, da⟩ := ha; ⟨_, fun y => Zpv Zl7 (pa y), Zm1 da⟩
theorem Zc3 {op : CmpOp} {r : R2} {g : U -> U -> Option U} (o : ∀ y, OpR (X y) (compareOp op) r) (u : OpU W r g) (hm : behindInMarks op b = false) (ha : QB X W m E a fa) (hb : QB X W m E b fb) : QE X W m E (.Compare a [op] [b] pos) (eOp g fa fb) :=
 let ⟨_, pa, da⟩ := ha; let ⟨_, pb, db⟩ := hb; ⟨_, fun y => Zhr (o y) (pa y) (pb y) hm, Zel u da db⟩
theorem Z36 {op : CmpOp} {r : R2} {g : U -> U -> Option U} (o : ∀ y, OpR (X y) (compareOp op) r) (u : OpU W r g) (hm : behindInMarks op b = false) (ha : QB X W m E a fa) (hb : QB X W m E b fb) : QT X W m E (.Compare a [op] [b] pos) (tfB (eOp g fa fb)) :=
 let ⟨_, pa, da⟩ := ha; let ⟨_, pb, db⟩ := hb; ⟨_, fun y => Zhs (o y) (pa y) (pb y) hm, dt_t (Zel u da db).b⟩
theorem Zqo (ha : QB X W m E a fa) (hb : QB X W m E b fb) : QE X W m E (.Compare a [.Gt] [b] pos) (eOp uGt fa fb) := Zc3 (fun ψ => Zl8) Zm3 (Z2i _) ha hb
theorem Zit (cx : Ctx X W E) (ha : QB X W m E a fa) (hb : QB X W m E b fb) : QE X W m E (.Compare a [.Eq] [b] pos) (eOp uEq fa fb) := Zc3 (fun y => Zgl (cx.hK y) (cx.hu y)) Zmh (Z2i _) ha hb
theorem Ziu (ha : QB X W m E a fa) (hb : QB X W m E b fb) : QT X W m E (.Compare a [.Lt] [b] pos) (tfB (eOp uLt fa fb)) := Z36 (fun ψ => Zpy) Zq7 (Z2i _) ha hb
theorem Ziv (ha : QB X W m E a fa) (hb : QB X W m E b fb) : QT X W m E (.Compare a [.Gt] [b] pos) (tfB (eOp uGt fa fb)) := Z36 (fun ψ => Zl8) Zm3 (Z2i _) ha hb
theorem Zqp (ha : QB X W m E a fa) (hb : QB X W m E b fb) : QT X W m E (.Compare a [.GtE] [b] pos) (tfB (eOp uGe fa fb)) := Z36 (fun ψ => Zpz) Zq8 (Z2i _) ha hb
theorem Z30 (cx : Ctx X W E) (ha : QB X W m E a fa) (hb : QB X W m E b fb) : QT X W m E (.Compare a [.Eq] [b] pos) (tfB (eOp uEq fa fb)) := Z36 (fun y => Zgl (cx.hK y) (cx.hu y)) Zmh (Z2i _) ha hb
theorem Z5e (cx : Ctx X W E) (ha : QB X W m E a fa) (hb : QB X W m E b fb) : QT X W m E (.Compare a [.NotEq] [b] pos) (tfB (eOp uNe fa fb)) := Z36 (fun y => Zmi (cx.hK y) (cx.hu y)) Zqg (Z2i _) ha hb
theorem Zqq (ha : QB X W m E a fa) (hb : QB X W m E b fb) : QT X W m E (.Compare a [.Is] [b] pos) (tfB (eOp (uIs false) fa fb)) := Z36 (fun ψ => Zl9) Zqh (Z2i _) ha hb
theorem Zc4 (ha : QB X W m E a fa) (he : ∀ y whole, isTrue a (X y).env whole = (do let v <- whole; standAt a.pos; holding [v] (truthy v)) := by intro ψ ψ; rfl) : QT X W m E a (tfB fa) := let ⟨_, pa, da⟩ := ha; ⟨_, fun y => Zkq (pa y) (he y), dt_b da⟩
theorem Zgp (ha : QT X W m E a ft) : QT X W m E (.UnaryOp .Not a pos) (Zby ft) := let ⟨_, pa, da⟩ := ha; ⟨_, fun y => Zkt (pa y), Zmk da⟩
theorem QW.t (ha : QW X W m E a ft) : QT X W m E a ft := let ⟨_, pa, da⟩ := ha; ⟨_, fun y => (pa y).pt, da⟩
theorem Zc5 (ha : QT X W m E a ft) : QW X W m E (.BoolOp .And [a] pos) ft := let ⟨_, pa, da⟩ := ha; ⟨_, fun y => Zho (pa y), da⟩
theorem Z6o (ha : QT X W m E a ft) : QW X W m E (.BoolOp .Or [a] pos) ft := let ⟨_, pa, da⟩ := ha; ⟨_, fun y => Zkr (pa y), da⟩
theorem Zgq (ha : QT X W m E a ft) (hb : QW X W m E (.BoolOp .And (b :: es) pos) ft') : QW X W m E (.BoolOp .And (a :: b :: es) pos) (Zbx ft ft') := let ⟨_, pa, da⟩ := ha; let ⟨_, pb, db⟩ := hb; ⟨_, fun y => Zks (pa y) (pb y), Zmj da db⟩
theorem Za4 (ha : QT X W m E a ft) (hb : QW X W m E (.BoolOp .Or (b :: es) pos) ft') : QW X W m E (.BoolOp .Or (a :: b :: es) pos) (tfOr ft ft') := let ⟨_, pa, da⟩ := ha; let ⟨_, pb, db⟩ := hb; ⟨_, fun y => Zps (pa y) (pb y), Zqi da db⟩
theorem Zn9 {op} (ha : QE X W m E a fa) : QE X W m E (.BoolOp op [a] pos) fa := let ⟨_, pa, da⟩ := ha; ⟨_, fun y => Zkv (pa y), da⟩
theorem Zna (ha : QB X W m E a fa) (hb : QE X W m E (.BoolOp .And (b :: es) pos) fb) : QE X W m E (.BoolOp .And (a :: b :: es) pos) (eAnd fa fb) := let ⟨_, pa, da⟩ := ha; let ⟨_, pb, db⟩ := hb; ⟨_, fun y => Zkw (pa y) (pb y), Zml da db⟩
theorem Z4c (cx : Ctx X W E) (ha : QB X W m E a fa) (hb : QB X W m E b fb) (hs : Z2g b := by exact fun ψ ψ => rfl) : QE X W m E (.Subscript a b pos) (eOp uIx fa fb) := let ⟨_, pa, da⟩ := ha; let ⟨_, pb, db⟩ := hb; ⟨_, fun y => Z9x (Z2x (cx.hK y)) (pa y) (pb y) hs, Zel Zqb da db⟩
theorem Z31 : QP X W m E none pNo := ⟨_, fun ψ => Zhv, Zqc⟩
theorem Z20 (ha : QB X W m E a fa) : QP X W m E (some a) (Z2f fa) := let ⟨_, pa, da⟩ := ha; ⟨_, fun y => Zhw (pa y), Zid da⟩
theorem Za5 {lo hi : Option Expr} {fl fh : Pf} (cx : Ctx X W E) (ha : QB X W m E a fa) (hl : QP X W m E lo fl) (hh : QP X W m E hi fh) : QE X W m E (.Subscript a (.Slice lo hi none p2) pos) (eSl uSl fa fl fh) :=
 let ⟨_, pa, da⟩ := ha; let ⟨_, pl, dl⟩ := hl; let ⟨_, ph, dh⟩ := hh; ⟨_, fun y => Ze9 (sl_u (cx.hK y)) (pa y) (pl y) (ph y), Zqd da dl dh⟩
theorem Zgr {st : Expr} {fs : Pf} (cx : Ctx X W E) (ha : QB X W m E a fa) (hs : QP X W m E (some st) fs) : QE X W m E (.Subscript a (.Slice none none (some st) p2) pos) (eRev fa fs) :=
 let ⟨_, pa, da⟩ := ha; let ⟨_, ps, ds⟩ := hs; ⟨_, fun y => Zif (cx.hK y) (pa y) (ps y), Zmf da ds⟩
theorem Z04 : QA X W m E [] [] aNil := ⟨_, fun ψ => Z3m, Zmm⟩
theorem qa_b (ha : QB X W m E a fa) (hr : QA X W m E bs es fr) (hs : ∀ y, starEach (a :: es) (X y).env = (false, eval a (X y).env) :: starEach es (X y).env := by intro ψ; rfl) : QA X W m E (true :: bs) (a :: es) (Z01 fa fr) := let ⟨_, pa, da⟩ := ha; let ⟨_, pr, dr⟩ := hr; ⟨_, fun y => Z1y (pa y) (pr y) (hs y), da_b da dr⟩
theorem qa_e (ha : QE X W m E a fa) (hr : QA X W m E bs es fr) (hs : ∀ y, starEach (a :: es) (X y).env = (false, eval a (X y).env) :: starEach es (X y).env := by intro ψ; rfl) : QA X W m E (false :: bs) (a :: es) (Z01 fa fr) := let ⟨_, pa, da⟩ := ha; let ⟨_, pr, dr⟩ := hr; ⟨_, fun y => Z1y (pa y) (pr y) (hs y), da_e da dr⟩
theorem Z1f {x1} (ha : QA X W m E bs es fr) (ho : offs bs = true := by rfl) : QE X W m E (.Tuple es x1 pos) (eTup fr) := let ⟨_, pa, da⟩ := ha; ⟨_, fun y => Zlb (pa y), Zmn ho da⟩
theorem Z0y (ha : QA X W m E bs es fr) (ho : offs bs = true := by rfl) : QF X W m E (.List es pos) (eLst fr) := let ⟨_, pa, da⟩ := ha; ⟨_, fun y => Zlc (pa y), Zmo ho da⟩
theorem Za6 {id : String} {r : List V -> Hp -> VK -> Prop} {g : List U -> Option U} (o : ∀ y, Z0s (X y) (.builtin id) r) (u : Z2z W bs r g) (hm : ∀ y, (X y).mg x = none) (hv : bootBuiltins x = some (.builtin id)) (ha : QA X W m E bs (a :: es) fr) (hg : ∀ y, Gl (X y) x := by intro ψ; rfl) (hn : x ≠ "__name__" := by decide) (hd : (x == ("__debug__" : Str)) = false := by decide)
  (hs : ∀ y, starEach (a :: es) (X y).env = (false, eval a (X y).env) :: starEach es (X y).env := by intro ψ; rfl) (hp : ∀ y, (backTo pos (starEach es (X y).env)).any (·.1) = false := by intro ψ; rfl) : QE X W m E (.Call (.Name x p) (a :: es) [] pos) (eB g fr) :=
 let ⟨_, pa, da⟩ := ha; ⟨_, fun y => Z3e (o y) (hg y) (hm y) hv (pa y) hn hd (hs y) (hp y), Zep u da⟩
theorem Znb {T : String} {r : List V -> Hp -> VK -> Prop} {g : List U -> Option U} (o : ∀ y, Z0s (X y) (.type T) r) (u : Z2z W bs r g) (hm : ∀ y, (X y).mg x = none) (hv : bootBuiltins x = some (.type T)) (ha : QA X W m E bs (a :: es) fr) (hg : ∀ y, Gl (X y) x := by intro ψ; rfl) (hn : x ≠ "__name__" := by decide) (hd : (x == ("__debug__" : Str)) = false := by decide)
  (hs : ∀ y, starEach (a :: es) (X y).env = (false, eval a (X y).env) :: starEach es (X y).env := by intro ψ; rfl) (hp : ∀ y, (backTo pos (starEach es (X y).env)).any (·.1) = false := by intro ψ; rfl) : QE X W m E (.Call (.Name x p) (a :: es) [] pos) (eB g fr) :=
 let ⟨_, pa, da⟩ := ha; ⟨_, fun y => Z1q (o y) (hg y) (hm y) hv (pa y) hn hd (hs y) (hp y), Zep u da⟩
theorem Zqr {T : String} {r : List V -> Hp -> VK -> Prop} {g : List U -> Option U} (o : ∀ y, Z0s (X y) (.type T) r) (u : Zeo W bs r g) (hm : ∀ y, (X y).mg x = none) (hv : bootBuiltins x = some (.type T)) (ha : QA X W m E bs (a :: es) fr) (hg : ∀ y, Gl (X y) x := by intro ψ; rfl) (hn : x ≠ "__name__" := by decide) (hd : (x == ("__debug__" : Str)) = false := by decide)
  (hs : ∀ y, starEach (a :: es) (X y).env = (false, eval a (X y).env) :: starEach es (X y).env := by intro ψ; rfl) (hp : ∀ y, (backTo pos (starEach es (X y).env)).any (·.1) = false := by intro ψ; rfl) : QF X W m E (.Call (.Name x p) (a :: es) [] pos) (eB g fr) :=
 let ⟨_, pa, da⟩ := ha; ⟨_, fun y => Z1q (o y) (hg y) (hm y) hv (pa y) hn hd (hs y) (hp y), Zmp u da⟩
structure Bl (mg : L2.SV) : Prop where
 len : mg "len" = none
 range : mg "range" = none
 sum : mg "sum" = none
 tuple : mg "tuple" = none
 list : mg "list" = none
 max : mg "max" = none
 min : mg "min" = none
 isinstance : mg "isinstance" = none
 int : mg "int" = none
 bool : mg "bool" = none
 abs : mg "abs" = none
 zip : mg "zip" = none
 enumerate : mg "enumerate" = none
 any : mg "any" = none
 all : mg "all" = none
 sorted : mg "sorted" = none
 set : mg "set" = none
 dict : mg "dict" = none
 reversed : mg "reversed" = none
 ValueError : mg "ValueError" = none
variable {B : Bl W.mg}
theorem Z3s (cx : Ctx X W E) (B : Bl W.mg) (ha : QB X W m E a fa) (hg : ∀ y, Gl (X y) "len" := by intro ψ; rfl) (hs : ∀ y, starEach [a] (X y).env = (false, eval a (X y).env) :: starEach [] (X y).env := by intro ψ; rfl) (hp : ∀ y, (backTo pos (starEach [] (X y).env)).any (·.1) = false := by intro ψ; rfl) : QE X W m E (.Call (.Name "len" p) [a] [] pos) (eB uLen (Z01 fa aNil)) :=
 Za6 (fun y => Z6l (cx.hK y)) Zmq (fun y => (congrFun (cx.hm y) _).trans B.len) boot_len (qa_b ha Z04 hs) hg (by decide) (by decide) hs hp
theorem Zeu (cx : Ctx X W E) (B : Bl W.mg) (ha : QB X W m E a fa) (hg : ∀ y, Gl (X y) "tuple" := by intro ψ; rfl) (hs : ∀ y, starEach [a] (X y).env = (false, eval a (X y).env) :: starEach [] (X y).env := by intro ψ; rfl) (hp : ∀ y, (backTo pos (starEach [] (X y).env)).any (·.1) = false := by intro ψ; rfl) : QE X W m E (.Call (.Name "tuple" p) [a] [] pos) (eB Z4p (Z01 fa aNil)) :=
 Znb (fun y => Zbv (cx.hK y)) Zeq (fun y => (congrFun (cx.hm y) _).trans B.tuple) boot_tuple (qa_b ha Z04 hs) hg (by decide) (by decide) hs hp
theorem Ziw (cx : Ctx X W E) (B : Bl W.mg) (ha : QB X W m E a fa) (hg : ∀ y, Gl (X y) "list" := by intro ψ; rfl) (hs : ∀ y, starEach [a] (X y).env = (false, eval a (X y).env) :: starEach [] (X y).env := by intro ψ; rfl) (hp : ∀ y, (backTo pos (starEach [] (X y).env)).any (·.1) = false := by intro ψ; rfl) : QF X W m E (.Call (.Name "list" p) [a] [] pos) (eB Z80 (Z01 fa aNil)) :=
 Zqr (fun y => Zbu (cx.hK y)) Zii (fun y => (congrFun (cx.hm y) _).trans B.list) boot_list (qa_b ha Z04 hs) hg (by decide) (by decide) hs hp
theorem Zc6 {Y : Cx} {K : L2.Fg} (h : Y.K = K) (hc : Y.calm = true) : Z0s Y (.builtin "any") (rAny K) := h ▸ Zbt hc
theorem Znc (cx : Ctx X W E) (B : Bl W.mg) (ha : QB X W m E a fa) (hg : ∀ y, Gl (X y) "any" := by intro ψ; rfl) (hs : ∀ y, starEach [a] (X y).env = (false, eval a (X y).env) :: starEach [] (X y).env := by intro ψ; rfl) (hp : ∀ y, (backTo pos (starEach [] (X y).env)).any (·.1) = false := by intro ψ; rfl) : QE X W m E (.Call (.Name "any" p) [a] [] pos) (eB uAny (Z01 fa aNil)) :=
 Za6 (fun y => Zc6 (cx.hK y) (cx.calm y)) Zmt (fun y => (congrFun (cx.hm y) _).trans B.any) boot_any (qa_b ha Z04 hs) hg (by decide) (by decide) hs hp
theorem Z3t (cx : Ctx X W E) (B : Bl W.mg) (ha : QB X W m E a fa) (hg : ∀ y, Gl (X y) "abs" := by intro ψ; rfl) (hs : ∀ y, starEach [a] (X y).env = (false, eval a (X y).env) :: starEach [] (X y).env := by intro ψ; rfl) (hp : ∀ y, (backTo pos (starEach [] (X y).env)).any (·.1) = false := by intro ψ; rfl) : QE X W m E (.Call (.Name "abs" p) [a] [] pos) (eB uAbs (Z01 fa aNil)) :=
 Za6 (fun ψ => Zbz) Zmr (fun y => (congrFun (cx.hm y) _).trans B.abs) boot_abs (qa_b ha Z04 hs) hg (by decide) (by decide) hs hp
theorem Zev (cx : Ctx X W E) (B : Bl W.mg) (ha : QB X W m E a fa) (hg : ∀ y, Gl (X y) "int" := by intro ψ; rfl) (hs : ∀ y, starEach [a] (X y).env = (false, eval a (X y).env) :: starEach [] (X y).env := by intro ψ; rfl) (hp : ∀ y, (backTo pos (starEach [] (X y).env)).any (·.1) = false := by intro ψ; rfl) : QE X W m E (.Call (.Name "int" p) [a] [] pos) (eB uInt (Z01 fa aNil)) :=
 Znb (fun ψ => Zbp) Zms (fun y => (congrFun (cx.hm y) _).trans B.int) boot_int (qa_b ha Z04 hs) hg (by decide) (by decide) hs hp
theorem Z08 {k : Nat} {f' : Addr} {fd : FuncData} {ps : List Str} {wk : Wd -> Prop} {F : Ff} (cx : Ctx X W E) (C : ∀ y, Fn (X y).prog (X y).w (X y).K (X y).mg (X y).base (CX1 (X y).prog (X y).w) k x f' fd ps (spU W.K W.mg wk bs.length bs F)) (hr : ∀ y, Room k (X y).A) (hw : wk W) (ha : QA X W m E bs (a :: es) fr) (hg : ∀ y, Gl (X y) x := by intro ψ; rfl)
  (hd : (x == ("__debug__" : Str)) = false := by decide) (hs : ∀ y, starEach (a :: es) (X y).env = (false, eval a (X y).env) :: starEach es (X y).env := by intro ψ; rfl) (hp : ∀ y, (backTo pos (starEach es (X y).env)).any (·.1) = false := by intro ψ; rfl) : QE X W m E (.Call (.Name x p) (a :: es) [] pos) (Z0h F fr) :=
 let ⟨_, pa, da⟩ := ha; ⟨_, fun y => Zhu (C y).F (hr y) (hg y) (C y).hm (C y).kp (C y).hb .nil (cx.ps y) (pa y) hd (hs y) (hp y), Zij rfl rfl hw da⟩
theorem qi_e {c : Bool} {tg : Expr} (cx : Ctx X W E) (ha : QE X W m E a fa) : QI X W m E c tg a (iOf fa) := let ⟨_, pa, da⟩ := ha; ⟨_, fun y => Zgn (cx.hK y) (pa y), di_e da⟩
theorem qi_v {c : Bool} {tg : Expr} (i : Nat) (cx : Ctx X W E) (h2 : i ∉ m.M := by decide) (hN : ∀ y, (X y).N[i]? = some x := by intro ψ; rfl) (hv : ∀ y, Vis (X y).env.scope x := by intro ψ; first | exact Or.inl rfl | exact Or.inr (Or.inl rfl) | exact Or.inr (Or.inr rfl)) (hd : (x == ("__debug__" : Str)) = false := by decide)
  (hcd : (x == ("__classdict__" : Str)) = false := by decide) : QI X W m E c tg (.Name x pos) (iOf (eVar i)) := ⟨_, fun y => Zgn (cx.hK y) (Z10 (hN y) (hv y) hd hcd), di_v h2⟩
theorem Zix {c : Bool} {tg : Expr} (cx : Ctx X W E) (B : Bl W.mg) (ha : QA X W m E [true] [a] fr) (hg : ∀ y, Gl (X y) "range" := by intro ψ; rfl) (hs : ∀ y, starEach [a] (X y).env = [(false, eval a (X y).env)] := by intro ψ; rfl) : QI X W m E c tg (.Call (.Name "range" p) [a] [] pos) (Z2j uR1 fr) :=
 let ⟨_, pa, da⟩ := ha; ⟨_, fun y => Zaw (hg y) ((congrFun (cx.hm y) _).trans B.range) (pa y) (hs y), Zqk da⟩
theorem Ziy {c : Bool} {tg : Expr} (cx : Ctx X W E) (B : Bl W.mg) (ha : QA X W m E [true, true] [a, b] fr) (hg : ∀ y, Gl (X y) "range" := by intro ψ; rfl) (hs : ∀ y, starEach [a, b] (X y).env = [(false, eval a (X y).env), (false, eval b (X y).env)] := by intro ψ; rfl) (hs2 : ∀ y, starEach [b] (X y).env = [(false, eval b (X y).env)] := by intro ψ; rfl) :
  QI X W m E c tg (.Call (.Name "range" p) [a, b] [] pos) (Z2j uR2 fr) := let ⟨_, pa, da⟩ := ha; ⟨_, fun y => Zax (hg y) ((congrFun (cx.hm y) _).trans B.range) (pa y) (hs y) (hs2 y), Zql da⟩
theorem Z0l (i : Nat) (hN : ∀ y, (X y).N.Nodup) (h1 : i ∉ m.B := by decide) (h2 : i ∉ m.M := by decide) (hi : ∀ y, (X y).N[i]? = some x := by intro ψ; rfl) (hx : ∀ y, Loc (X y).env.scope x := by intro ψ; first | exact Or.inl rfl | exact Or.inr rfl) (hf : ∀ y, (X y).fn x = true \/ (X y).env.scope.names.lookup x = some .local := by intro ψ; first | exact .inl rfl | exact .inr rfl) :
  QG X W m (.Name x pos) (Z0i i) := ⟨_, fun y => Zhq (hN y) (hi y) (hx y) (hf y), Zil h1 h2⟩
theorem Ziz : QGs X W m [] Zc0 := ⟨_, fun ψ => Zau, Zim⟩
theorem Z8u {u : U -> En -> Option En} {v : List U -> En -> Option En} (h1 : QG X W m a u) (h2 : QGs X W m es v) (hs : ∀ y, (assignEach (a :: es) (X y).env).map (·.2) = assign a (X y).env :: (assignEach es (X y).env).map (·.2) := by intro ψ; rfl) : QGs X W m (a :: es) (Z4q u v) :=
 let ⟨_, p1, d1⟩ := h1; let ⟨_, p2, d2⟩ := h2; ⟨_, fun y => Z53 (p1 y) (p2 y) (hs y), Zer d1 d2⟩
variable {s : Stmt} {ss sb : List Stmt} {g g1 g2 : Sf}
theorem Z0d : QSs X W m E [] Z0z := ⟨_, fun ψ => Zhp, Zik⟩
theorem Z09 (h : QS X W m E s g) : QSs X W m E [s] g := let ⟨_, p, d⟩ := h; ⟨_, fun y => Zat (p y), d⟩
theorem Z0a (h1 : QS X W m E s g1) (h2 : QSs X W m E ss g2) : QSs X W m E (s :: ss) (sSeq g1 g2) := let ⟨_, p, d⟩ := h1; let ⟨_, p2, d2⟩ := h2; ⟨_, fun y => Z51 (p y) (p2 y), Zmu d d2⟩
theorem Z1g (h : QS X W m E s g) : QK X W m E [s] g := let ⟨_, p, d⟩ := h; ⟨_, fun y => Zat (p y), Zn4 d⟩
theorem Z07 (h1 : QS X W m E s g1) (h2 : QK X W m E ss g2) : QK X W m E (s :: ss) (sSeq g1 g2) := let ⟨_, p, d⟩ := h1; let ⟨_, p2, d2⟩ := h2; ⟨_, fun y => Z51 (p y) (p2 y), Zn5 d d2⟩
theorem Z6p (M' : List Nat) (h : QK X W ⟨m.B, M'⟩ E ss g) (hM : ∀ i ∈ M', i ∈ m.M := by decide) (hB : ∀ i ∈ m.M, i ∉ m.B := by decide) : QK X W m E ss g := let ⟨_, p, d⟩ := h; ⟨_, p, Zc2 M' hM hB d⟩
theorem Z0p (ha : QE X W ⟨m.B, []⟩ E a fa) (hB : ∀ i ∈ m.M, i ∉ m.B := by decide) : QS X W m E (.Return (some a) pos) (sRet fa) := let ⟨_, pa, da⟩ := ha; ⟨_, fun y => Zky (pa y), Zmx hB da⟩
theorem Z1a (hc : QT X W m E c ft) (h1 : QSs X W m E ss g1) (h2 : QSs X W m E sb g2) : QS X W m E (.If c ss sb pos) (sIf ft g1 g2) := let ⟨_, pc, dc⟩ := hc; let ⟨_, p1, d1⟩ := h1; let ⟨_, p2, d2⟩ := h2; ⟨_, fun y => Zpt (pc y) (p1 y) (p2 y), Zqj dc d1 d2⟩
theorem Z0n (i : Nat) (hN : ∀ y, (X y).N.Nodup) (ha : QE X W m E a fa) (hs : ∀ y, swapsWith a (some (.Name x p)) pos.line (X y).env = pure false := by intro ψ; rfl) (h1 : i ∉ m.B := by decide) (h2 : i ∉ m.M := by decide) (hi : ∀ y, (X y).N[i]? = some x := by intro ψ; rfl) (hx : ∀ y, Loc (X y).env.scope x := by intro ψ; first | exact Or.inl rfl | exact Or.inr rfl)
  (hf : ∀ y, (X y).fn x = true \/ (X y).env.scope.names.lookup x = some .local := by intro ψ; first | exact .inl rfl | exact .inr rfl) : QS X W m E (.Assign [.Name x p] a pos) (sSet i fa) := let ⟨_, pa, da⟩ := ha; ⟨_, fun y => Z8j (hN y) (hi y) (hx y) (pa y) (hs y) (hf y), Zmv h1 h2 da⟩
theorem Z3u (i : Nat) (hN : ∀ y, (X y).N.Nodup) (ha : QF X W m E a fa) (hs : ∀ y, swapsWith a (some (.Name x p)) pos.line (X y).env = pure false := by intro ψ; rfl) (h1 : i ∉ m.B := by decide) (h2 : i ∈ m.M := by decide) (hi : ∀ y, (X y).N[i]? = some x := by intro ψ; rfl) (hx : ∀ y, Loc (X y).env.scope x := by intro ψ; first | exact Or.inl rfl | exact Or.inr rfl)
  (hf : ∀ y, (X y).fn x = true \/ (X y).env.scope.names.lookup x = some .local := by intro ψ; first | exact .inl rfl | exact .inr rfl) : QS X W m E (.Assign [.Name x p] a pos) (sSet i fa) := let ⟨_, pa, da⟩ := ha; ⟨_, fun y => Z8j (hN y) (hi y) (hx y) (pa y) (hs y) (hf y), Zmw h1 h2 da⟩
theorem Znd {tg : Expr} {u : U -> En -> Option En} (ha : QE X W m E a fa) (hg : QG X W m tg u) (hs : ∀ y, swapsWithSole [tg] a pos.line (X y).env = pure false := by intro ψ; rfl) (hw : ∀ y, swappedStores [tg] a (X y).env = pure none := by intro ψ; rfl) (h1 : ∀ y, (assignEach [tg] (X y).env).map (·.2) = [assign tg (X y).env] := by intro ψ; rfl) :
  QS X W m E (.Assign [tg] a pos) (sAsg u fa) := let ⟨_, pa, da⟩ := ha; let ⟨_, pg, dg⟩ := hg; ⟨_, fun y => Z62 (pa y) (pg y) (hs y) (hw y) (h1 y), Zn0 dg da⟩
theorem Zne {tp : Pos} (i : Nat) (ha : QE X W m E a fa) (hb : QB X W m E b fb) (h2 : i ∈ m.M := by decide) (hN : ∀ y, (X y).N[i]? = some x := by intro ψ; rfl) (hv : ∀ y, Vis (X y).env.scope x := by intro ψ; first | exact Or.inl rfl | exact Or.inr (Or.inl rfl) | exact Or.inr (Or.inr rfl)) (hd : (x == ("__debug__" : Str)) = false := by decide) (hcd : (x == ("__classdict__" : Str)) = false := by decide)
  (hs : ∀ y, swapsWithSole [.Subscript (.Name x p) b tp] a pos.line (X y).env = pure false := by intro ψ; rfl) (hw : ∀ y, swappedStores [.Subscript (.Name x p) b tp] a (X y).env = pure none := by intro ψ; rfl) (h1 : ∀ y, (assignEach [.Subscript (.Name x p) b tp] (X y).env).map (·.2) = [assign (.Subscript (.Name x p) b tp) (X y).env] := by intro ψ; rfl)
  (hq : ∀ y v, assign (.Subscript (.Name x p) b tp) (X y).env v = (do
   let ov <- holding [v] (eval (.Name x p) (X y).env)
   let iv <- holding [v, ov] (eval b (X y).env)
   standAt tp
   holding [v, ov, iv] (setItem ov iv v)
   release [v, ov, iv] []) := by intro ψ ψ; rfl) : QS X W m E (.Assign [.Subscript (.Name x p) b tp] a pos) (sPut i fb fa) :=
 let ⟨_, pa, da⟩ := ha; let ⟨_, pb, db⟩ := hb; ⟨_, fun y => Z62 (pa y) (Z61 (Z10 (hN y) (hv y) hd hcd) (pb y) Z54 (hq y)) (hs y) (hw y) (h1 y), Zmz h2 db da⟩
theorem Znf {Y : Cx} {K : L2.Fg} {s : Stmt} {T : String} {r : V -> List V -> Hp -> VK -> Prop} {to : TE} {t : TA} (h : Y.K = K) (q : PS Y s (Z3k (tBM Y.K T r to t))) : PS Y s (Z3k (tBM K T r to t)) := h ▸ q
theorem Z4t {apos cpos : Pos} (i : Nat) (cx : Ctx X W E) (ha : QE X W m E a fa) (h2 : i ∈ m.M := by decide) (hN : ∀ y, (X y).N[i]? = some x := by intro ψ; rfl) (hv : ∀ y, Vis (X y).env.scope x := by intro ψ; first | exact Or.inl rfl | exact Or.inr (Or.inl rfl) | exact Or.inr (Or.inr rfl)) (hd : (x == ("__debug__" : Str)) = false := by decide) (hcd : (x == ("__classdict__" : Str)) = false := by decide)
  (hline : (apos.endLine == cpos.line) = true := by rfl) (hst : ∀ y, starEach [a] (X y).env = (false, eval a (X y).env) :: starEach [] (X y).env := by intro ψ; rfl) (hp : ∀ y, (backTo cpos (starEach [] (X y).env)).any (·.1) = false := by intro ψ; rfl)
  (hbase : ∀ y, attributeBase (.Name x p) "append" (X y).env (eval (.Name x p) (X y).env) = eval (.Name x p) (X y).env := by intro ψ; rfl)
  (hfew : ∀ y, ((backTo cpos (starEach [a] (X y).env)).all (fun x => !x.1) && (backToKw cpos (keywordEach [] (X y).env)).all (fun x => x.1.isSome) && decide (([a] : List Expr).length + ([] : List Keyword).length + (if ([] : List Keyword).isEmpty then 0 else 1) < 30)) = true := by intro ψ; rfl)
  (hs : ∀ y, swapsWith (.Call (.Attribute (.Name x p) "append" apos) [a] [] cpos) none pos.line (X y).env = pure false := by intro ψ; rfl) : QS X W m E (.Expr (.Call (.Attribute (.Name x p) "append" apos) [a] [] cpos) pos) (sApp i fa) :=
 let ⟨_, pa, da⟩ := ha; ⟨_, fun y => Znf (cx.hK y) (Z52 (Zeb PySem.F.plainAttrs_list PySem.F.slot_list_append PySem.F.type_list_append Z6e (Z10 (hN y) (hv y) hd hcd) (Z1y (pa y) Z3m (hst y)) (hbase y) (hfew y) hline (hst y) (hp y)) (hs y)), Zmy h2 da⟩
theorem Z21 {tg iter : Expr} {fi : Af} {u : U -> En -> Option En} (cx : Ctx X W E) (pw : ∀ y, PassesOwn (model (X y).prog (X y).w) (X y).A (X y).env (X y).xe) (hi : QI X W m E false tg iter fi) (hg : QG X W m tg u) (hb : QSs X W m E ss g) (hs : ∀ y v, foldedSetIterable iter (X y).env v = pure v := by intro ψ ψ; rfl) : QS X W m E (.For tg iter ss [] pos) (sFor fi u g) :=
 let ⟨_, pi, di⟩ := hi; let ⟨_, pg, dg⟩ := hg; let ⟨_, pb, db⟩ := hb; ⟨_, fun y => Zl2 (pw y) (cx.calm y) (pi y) (pg y) (pb y) (hs y), Zn3 di dg db⟩
theorem Z5f (pw : ∀ y, PassesOwn (model (X y).prog (X y).w) (X y).A (X y).env (X y).xe) (hc : QT X W m E c ft) (hb : QSs X W m E ss g) : QS X W m E (.While c ss [] pos) (sWh ft g) := let ⟨_, pc, dc⟩ := hc; let ⟨_, pb, db⟩ := hb; ⟨_, fun y => Ze4 (pw y) (pc y) (pb y), Zet dc db⟩
end
def okJ (m mb : Md) (k : Nat) (js : List Nat) : Bool := (List.range js.length).all fun p => !(m.B.contains (js.getD p 0) || m.M.contains (js.getD p 0)) || mb.B.contains (k + p)
theorem Zng {m mb : Md} {k : Nat} {js : List Nat} (h : okJ m mb k js = true) : ∀ p j, js[p]? = some j -> (j ∈ m.B \/ j ∈ m.M) -> k + p ∈ mb.B := fun p j hj hm => by
 have lt : p < js.length := (List.getElem?_eq_some_iff.mp hj).1
 have z := List.all_eq_true.mp h p (List.mem_range.mpr lt)
 have e : js.getD p 0 = j := by rw [List.getD_eq_getElem?_getD, hj]; rfl
 rw [e] at z
 have q : (m.B.contains j || m.M.contains j) = true := by
  rcases hm with hm | hm
  ·simp [hm]
  ·simp [hm]
 rw [q] at z
 simpa using z
abbrev BlkA := Addr × List (Addr × Obj) × List Addr × Shared × Hp
abbrev blkX (X : Cx) (N : List Str) (scope : Scope) (cl : List (Str × Addr)) : BlkA -> Cx := fun b => Z0w X N scope cl b.1 b.2.1 b.2.2.1 b.2.2.2.1 b.2.2.2.2
section
variable {X : Unit -> Cx} {W : Wd} {m mb : Md} {E : XK} {elt tg iter : Expr} {ifs : List Expr} {scope : Scope} {pos : Pos} {cl : List (Str × Addr)} {bs caps : List Str} {js : List Nat} {fi : Af} {u : U -> En -> Option En} {ft : Tf} {fe : Ef}
theorem Ctx.blk (cx : Ctx X W E) : Ctx (blkX (X ()) (bs ++ caps) scope cl) W E0 := ⟨fun ψ => cx.hK (), fun ψ => cx.hm (), fun ψ => cx.calm (), fun ψ => cx.hu (), fun ψ ψ ψ ψ ψ ψ ψ ψ h => by obtain ⟨_, _, _, _, _, _, _, _, _, _, q⟩ := h; exact q.elim⟩
theorem Z1s {ι : Type} {Y : L2.FC ι} : QTs Y W m E [] Z14 := ⟨_, fun ψ => Zi3, Zih⟩
theorem Zj0 {ι : Type} {Y : L2.FC ι} {c : Expr} (h : QT Y W m E c ft) : QTs Y W m E [c] ft := let ⟨_, p, d⟩ := h; ⟨_, fun y => Zi4 (p y), d⟩
theorem Z1o (mb : Md) (cx : Ctx X W E) (c : Z6h (X ()) scope cl js caps) (hi : QI X W m E true tg iter fi) (hg : QG (blkX (X ()) (bs ++ caps) scope cl) W mb tg u) (ht : QTs (blkX (X ()) (bs ++ caps) scope cl) W mb E0 ifs ft) (he : QE (blkX (X ()) (bs ++ caps) scope cl) W mb E0 elt fe)
  (hB : okJ m mb bs.length js = true := by rfl) (hM : mb.M = [] := by rfl) (hs : ∀ x, foldedSetIterable iter (X ()).env x = pure x := by intro ψ; rfl) : QF X W m E (.ListComp elt [⟨tg, iter, ifs, 0⟩] scope pos) (Z2k fi bs.length js u ft fe) :=
 let ⟨_, pi, di⟩ := hi; let ⟨_, pg, dg⟩ := hg; let ⟨_, pt, dt⟩ := ht; let ⟨_, pe, de⟩ := he
 ⟨_, fun y => Zi5 (cx.calm y) c (pi y) (fun C pins fp s2 H2 => pg (C, pins, fp, s2, H2)) (fun C pins fp s2 H2 => pt (C, pins, fp, s2, H2)) (fun C pins fp s2 H2 => pe (C, pins, fp, s2, H2)) hs, Zis di dg dt de (Zng hB) hM⟩
end
section
variable {P : Program} {w : World} {K : L2.Fg} {mg : L2.SV} {base : Heap} {N : List Str} {qual : Str} {scope : Scope} {f : Addr} {cd : Value} {A : Around} {outer : List Env} {s : Shared} {H : Hp} {E : XK} {W : Wd} {m : Md} {k : Nat}
abbrev defX (P : Program) (w : World) (K : L2.Fg) (mg : L2.SV) (base : Heap) (N : List Str) (qual : Str) (scope : Scope) (f : Addr) (cd : Value) (A : Around) (outer : List Env) (s : Shared) (H : Hp) (E : XK) : Unit -> Cx := fun ψ => cxOf (CX1 P w) P w K mg base N qual scope f cd A outer s H E
theorem Z0t (hK : W.K = K) (hm : W.mg = mg) (hr : Room k (A.deeper (envOfC qual scope s.heap.objs.size f cd))) : Ctx (defX P w K mg base N qual scope f cd A outer s H E) W E := ⟨fun ψ => hK.symm, fun ψ => hm.symm, fun ψ => rfl, fun ψ => hr.units, fun ψ => Zi8 fun ψ ψ ψ h => h⟩
theorem Z1l : ∀ y, PassesOwn (model (defX P w K mg base N qual scope f cd A outer s H E y).prog (defX P w K mg base N qual scope f cd A outer s H E y).w) (defX P w K mg base N qual scope f cd A outer s H E y).A (defX P w K mg base N qual scope f cd A outer s H E y).env (defX P w K mg base N qual scope f cd A outer s H E y).xe := fun ψ => PassesOwn.leaving
def okB (bs : List Bool) (m : Md) : Bool := ((List.range bs.length).all fun i => !(bs.getD i false) || m.B.contains i) && m.M.all fun i => decide (bs.length <= i)
theorem Fun.okQ {x qual : Str} {st : Stmt} {f : Addr} {fd : FuncData} {N ps : List Str} {k : Nat} {wk : Wd -> Prop} {bs : List Bool} {m : Md} {g : Sf} (F : Fun K x qual st f fd) (S : Z0m N ps (Z05 st)) (hl : bs.length = ps.length) (hB : okB bs m = true) (hN : ps.length <= N.length)
  (hbody : ∀ (cdv : Value) (A : Around) (outer : List Env) (s : Shared) (H : Hp) (E : XK) (W : Wd), W.K = K -> W.mg = mg -> wk W -> Room k (A.deeper (envOfC qual (Z05 st) s.heap.objs.size f cdv)) -> A.handled = none ->
   QK (defX P w K mg base N qual (Z05 st) f cdv A outer s H E) W m E (Z0e st) g) : FnOk P w K mg base (CX1 P w) (k + 1) f fd ps (spU K mg wk bs.length bs (runU N.length g)) := by
 unfold okB at hB
 rw [Bool.and_eq_true] at hB
 refine F.okU S hl (fun i h => ?_) (fun i h => by simpa using List.all_eq_true.mp hB.2 i h) hN fun cdv A outer s H E W hK hm hw hr hA => ?_
 ·have lt : i < bs.length := (List.getElem?_eq_some_iff.mp h).1
  have z := List.all_eq_true.mp hB.1 i (List.mem_range.mpr lt)
  rw [List.getD_eq_getElem?_getD, h] at z
  simpa using z
 ·obtain ⟨t, p, d⟩ := hbody cdv A outer s H E W hK hm hw hr hA
  exact ⟨t, p (), d⟩
theorem QK.out {X : Cx} {ss : List Stmt} {g : Sf} (h : QK (fun _ : Unit => X) W m E ss g) : ∃ t, PSs X ss t /\ DK W m E t g := let ⟨t, p, d⟩ := h; ⟨t, p (), d⟩
end
section
variable {X : Cx}
def SqU (K : L2.Fg) (H : Hp) (p : Addr) (vs : List V) : Prop := SqL K H p vs \/ SqT K H p vs
theorem Z8v {pins : L2.AO} {σ : St} {H : Hp} {s : Shared} {p : Addr} {vs : List V} (hc : X.calm = true) (I : Inv X pins σ H s) (h : SqU X.K H p vs) :
  ∃ its : List Value, Vals vs its /\ ∀ (Q : L2.VSP) (E : L2.VSP), (∀ (g : Heap) (St : Nat -> Heap -> Prop), Walks X.prog X.w X.A.in1 s.heap.objs.size [s.heap.objs.size, p] [s.heap.objs.size] its.length (fun i v => its[i]? = some v) St -> St 0 g -> (∀ b ∈ [s.heap.objs.size, p], b < g.objs.size) ->
   (∀ h' tk, (∀ b o, b ∉ [s.heap.objs.size] -> g.get? b = some o -> h'.get? b = some o) -> Inv X pins σ H { s with heap := h', toks := tk }) -> Q (.ref s.heap.objs.size) { s with heap := g }) -> wpAny (model X.prog X.w) X.A.in1 (pyIter (.ref p)) Q E s := by
 have hh : X.A.in1.handled = none := I.ok.hd hc
 rcases h with h | h
 ·obtain ⟨its, rv, pl, hz⟩ := I.list h
  have lt : p < s.heap.objs.size := by obtain ⟨o, e, _⟩ := pl.isList; exact Heap.lt_size e
  refine ⟨its, rv, fun Q E k => wpAny_pyIter_list pl.isList ?_⟩
  have e : (fun (i : Nat) (v : Value) => its.toArray[i]? = some v) = (fun i v => its[i]? = some v) := by funext i v; simp
  have Wk := Walks.list (prog := X.prog) (w := X.w) (A := X.A.in1) hh s.heap.objs.size p (Nat.ne_of_lt lt) its.toArray
  rw [e] at Wk
  refine k _ _ Wk ⟨⟨_, Heap.get?_push_size _ rfl, rfl, rfl⟩, pl.isList.push _⟩ (fun b hb => ?_) fun h' tk hk => I.kept (t' := tk) fun b o e => hk b o (fun hm => ?_) (Heap.get?_push_of_some _ e)
  ·rw [Heap.size_push]
   rcases List.mem_cons.mp hb with z | z
   ·rw [z]; exact Nat.lt_succ_self _
   ·rw [List.mem_singleton.mp z]; exact Nat.lt_succ_of_lt lt
  ·rw [List.mem_singleton.mp hm] at e
   exact Nat.lt_irrefl _ (Heap.lt_size e)
 ·obtain ⟨its, rv, pl, hz⟩ := I.tuple h
  have pt : s.heap.IsTuple p its.toArray := pl
  have lt : p < s.heap.objs.size := by obtain ⟨o, e, _⟩ := pl; exact Heap.lt_size e
  refine ⟨its, rv, fun Q E k => wpAny_pyIter_tuple pt ?_⟩
  have e : (fun (i : Nat) (v : Value) => its.toArray[i]? = some v) = (fun i v => its[i]? = some v) := by funext i v; simp
  have Wk := Walks.tuple (prog := X.prog) (w := X.w) (A := X.A.in1) hh s.heap.objs.size p (Nat.ne_of_lt lt) its.toArray
  rw [e] at Wk
  refine k _ _ Wk ⟨⟨_, Heap.get?_push_size _ rfl, rfl, rfl⟩, pt.at fun o e => Heap.get?_push_of_some _ e⟩ (fun b hb => ?_) fun h' tk hk => I.kept (t' := tk) fun b o e => hk b o (fun hm => ?_) (Heap.get?_push_of_some _ e)
  ·rw [Heap.size_push]
   rcases List.mem_cons.mp hb with z | z
   ·rw [z]; exact Nat.lt_succ_self _
   ·rw [List.mem_singleton.mp z]; exact Nat.lt_succ_of_lt lt
  ·rw [List.mem_singleton.mp hm] at e
   exact Nat.lt_irrefl _ (Heap.lt_size e)
theorem Z3v {ns : List Int} {its : List Value} (r : Vals (ns.map V.int) its) {i : Nat} {v : Value} (h : its[i]? = some v) : ∃ t, v = .int (ns.getD i 0) t := by
 have l := r.length
 rw [List.length_map] at l
 have li : i < its.length := (List.getElem?_eq_some_iff.mp h).1
 have e : (ns.map V.int)[i]? = some (.int (ns.getD i 0)) := by
  have : i < ns.length := by lia
  simp [List.getD, this]
 obtain ⟨u, hu, ru⟩ := r.get e
 rw [h] at hu; cases hu
 exact ru
def best (f : Int -> Int -> Bool) (n : Int) : List Int -> Int
 | [] => n
 | x :: xs => best f (if f x n = true then x else n) xs
theorem Z6q {f : Int -> Int -> Bool} : ∀ {xs : List Int} {n x : Int}, best f n (xs ++ [x]) = if f x (best f n xs) = true then x else best f n xs
 | [], n, x => rfl
 | y :: ys, n, x => by rw [List.cons_append, best, best, Z6q]
theorem Z8w {f : Int -> Int -> Bool} {n : Int} {ns : List Int} : ∀ k, k < (n :: ns).length -> (n :: ns).getD (argBest (fun i j => f ((n :: ns).getD i 0) ((n :: ns).getD j 0)) k) 0 = best f n (ns.take k) /\ argBest (fun i j => f ((n :: ns).getD i 0) ((n :: ns).getD j 0)) k < (n :: ns).length
 | 0, h => ⟨by rw [argBest, List.take_zero, best]; rfl, by rw [argBest]; simp⟩
 | k + 1, h => by
  obtain ⟨e, l⟩ := Z8w (f := f) (n := n) (ns := ns) k (by lia)
  have hk : k < ns.length := by simpa using h
  have e2 : ns.take (k + 1) = ns.take k ++ [ns[k]] := by rw [List.take_succ_eq_append_getElem hk]
  have e3 : (n :: ns).getD (k + 1) 0 = ns[k] := by simp [List.getD, hk]
  rw [argBest, e2, Z6q, <- e, e3]
  by_cases c : f ns[k] ((n :: ns).getD (argBest (fun i j => f ((n :: ns).getD i 0) ((n :: ns).getD j 0)) k) 0) = true
  ·rw [if_pos c, if_pos c]; exact ⟨e3, h⟩
  ·rw [if_neg c, if_neg c]; exact ⟨rfl, l⟩
theorem Zew : ∀ {xs : List Int} {n : Int}, best (fun a b => decide (a < b)) n xs = xs.foldl min n
 | [], _ => rfl
 | x :: xs, n => by
  rw [best, Zew, List.foldl_cons]
  have : (if decide (x < n) = true then x else n) = min n x := by
   by_cases h : x < n
   ·simp [h]; lia
   ·simp [h]; lia
  rw [this]
theorem Z8x : ∀ {xs : List Int} {n : Int}, best (fun a b => decide (a > b)) n xs = xs.foldl max n
 | [], _ => rfl
 | x :: xs, n => by
  rw [best, Z8x, List.foldl_cons]
  have : (if decide (x > n) = true then x else n) = max n x := by
   by_cases h : x > n
   ·simp [h]; lia
   ·simp [h]; lia
  rw [this]
def Znh (K : L2.Fg) : List V -> Hp -> VK -> Prop := fun xs H Q => ∃ (p : Addr) (n : Int) (ns : List Int), xs = [.ref p] /\ SqU K H p ((n :: ns).map V.int) /\ Q (.int (ns.foldl max n)) H
theorem Zc7 {K : L2.Fg} (hK : X.K = K) (hc : X.calm = true) : Z0s X (.builtin "max") (Znh K) := by
 subst hK
 intro pins s σ H xs us Q I r h
 obtain ⟨p, n, ns, rfl, hq, q⟩ := h
 obtain ⟨u, rfl, ru⟩ := Z2e r
 cases ru
 obtain ⟨its, rv, k⟩ := Z8v hc I hq
 have l := rv.length
 rw [List.length_map] at l
 refine call_max_walk (k _ _ fun g St W st lt keep => ⟨_, _, _, _, _, St, _, rfl, W, st, lt, by rw [<- l]; simp, CmpOf.ints_gt (fun i => (n :: ns).getD i 0) fun i v h => Z3v rv h, fun v h' tk hv hk => ?_⟩)
 rw [<- l] at hv
 obtain ⟨t, rfl⟩ := Z3v rv hv
 obtain ⟨e, _⟩ := Z8w (f := fun a b => decide (a > b)) (n := n) (ns := ns) ((n :: ns).length - 1) (by simp)
 rw [show (n :: ns).length - 1 = ns.length by simp, List.take_length, Z8x] at e
 refine ⟨.int _, H, keep h' tk hk, ⟨t, ?_⟩, q⟩
 rw [show (n :: ns).length - 1 = ns.length by simp]
 exact congrArg (fun z => Value.int z t) e
theorem Zgs : ∀ (bs : List Bool), ((List.range bs.length).all fun i => (bs[i]?).getD false) = bs.all id
 | [] => rfl
 | b :: r => by
  rw [List.length_cons, List.range_succ_eq_map, List.all_cons, List.all_map, List.all_cons, <- Zgs r]
  rfl
def rAll (K : L2.Fg) : List V -> Hp -> VK -> Prop := fun xs H Q => ∃ (p : Addr) (bs : List Bool), xs = [.ref p] /\ SqU K H p (bs.map V.bl) /\ Q (.bl (bs.all id)) H
theorem Zc8 {K : L2.Fg} (hK : X.K = K) (hc : X.calm = true) : Z0s X (.builtin "all") (rAll K) := by
 subst hK
 intro pins s σ H xs us Q I r h
 obtain ⟨p, bs, rfl, hq, q⟩ := h
 obtain ⟨u, rfl, ru⟩ := Z2e r
 cases ru
 obtain ⟨its, rv, k⟩ := Z8v hc I hq
 have ei := Z59 rv
 subst ei
 refine call_all_walk (k _ _ fun g St W st lt keep => ⟨_, _, _, _, _, St, fun i => (bs[i]?).getD false, rfl, W, st, fun i v s' Q' E' hP hQ => ?_, fun h' tk hk => ?_⟩)
 ·have hP : (bs.map Value.bool)[i]? = some v := hP
  rw [List.getElem?_map] at hP
  cases e : bs[i]? with
  | none => rw [e] at hP; cases hP
  | some b =>
   rw [e] at hP
   cases hP
   simp only [e, Option.getD_some] at hQ
   exact wpAny_truthy_bool hQ
 ·rw [List.length_map, Zgs]
  exact ⟨.bl _, H, keep h' tk hk, rfl, q⟩
end
section
variable {W : Wd} {m : Md} {E : XK}
theorem RB.seq {Hc H : Hp} {us : List U} {v : V} {u : U} (s : Same Hc H) (h : u = .lst us \/ u = .tup us) (r : RB W Hc H u v) : ∃ a vs, v = .ref a /\ SqU W.K H a vs /\ RUs W Hc us vs := by
 rcases h with rfl | rfl
 ·obtain ⟨a, vs, rfl, h1, r1⟩ := r.lst s; exact ⟨a, vs, rfl, .inl (.of h1), r1⟩
 ·obtain ⟨a, vs, rfl, h1, r1⟩ := r.tup; exact ⟨a, vs, rfl, .inr (.of (s _ _ h1)), r1⟩
def Z22 : U -> Option (List Int)
 | .lst us => Z11 us
 | .tup us => Z11 us
 | _ => none
def Z6r : U -> Option (List Bool)
 | .lst us => Z4a us
 | .tup us => Z4a us
 | _ => none
theorem Zc9 {Hc H : Hp} {u : U} {v : V} {ns : List Int} (s : Same Hc H) (h : Z22 u = some ns) (r : RB W Hc H u v) : ∃ a, v = .ref a /\ SqU W.K H a (ns.map V.int) := by
 unfold Z22 at h
 split at h
 ·obtain ⟨a, vs, rfl, q, rr⟩ := r.seq s (.inl rfl)
  rw [Z18 h] at rr
  have e := rr.ints; subst e
  exact ⟨a, rfl, q⟩
 ·obtain ⟨a, vs, rfl, q, rr⟩ := r.seq s (.inr rfl)
  rw [Z18 h] at rr
  have e := rr.ints; subst e
  exact ⟨a, rfl, q⟩
 ·cases h
theorem Zex {Hc H : Hp} {u : U} {v : V} {ns : List Bool} (s : Same Hc H) (h : Z6r u = some ns) (r : RB W Hc H u v) : ∃ a, v = .ref a /\ SqU W.K H a (ns.map V.bl) := by
 unfold Z6r at h
 split at h
 ·obtain ⟨a, vs, rfl, q, rr⟩ := r.seq s (.inl rfl)
  rw [Z3f h] at rr
  have e := rr.bls; subst e
  exact ⟨a, rfl, q⟩
 ·obtain ⟨a, vs, rfl, q, rr⟩ := r.seq s (.inr rfl)
  rw [Z3f h] at rr
  have e := rr.bls; subst e
  exact ⟨a, rfl, q⟩
 ·cases h
def Zrv : List U -> Option U
 | [u] => (Z22 u).map fun ns => .int ns.sum
 | _ => none
def Zrw : List U -> Option U
 | [u] => match Z22 u with
  | some (n :: ns) => some (.int (ns.foldl min n))
  | _ => none
 | _ => none
def Z5g : List U -> Option U
 | [u] => match Z22 u with
  | some (n :: ns) => some (.int (ns.foldl max n))
  | _ => none
 | _ => none
def uAll : List U -> Option U
 | [u] => (Z6r u).map fun ns => .bl (ns.all id)
 | _ => none
theorem Zj1 : Z2z W [true] (Znh W.K) Z5g := by
 intro Hc H ω us vs s p rs u e Q k
 unfold Z5g at e; split at e
 ·obtain ⟨v, rfl, rv⟩ := rs.one
  split at e
  ·rename_i q; cases e
   obtain ⟨a, rfl, sq⟩ := Zc9 s q rv
   exact ⟨a, _, _, rfl, sq, k _ Hc H (Ext.refl s) p .int⟩
  ·cases e
 ·cases e
theorem Zni : Z2z W [true] (rAll W.K) uAll := by
 intro Hc H ω us vs s p rs u e Q k
 unfold uAll at e; split at e
 ·rename_i w
  obtain ⟨v, rfl, rv⟩ := rs.one
  cases q : Z6r w with
  | none => rw [q] at e; exact noS e
  | some ns =>
   rw [q] at e; cases e
   obtain ⟨a, rfl, sq⟩ := Zex s q rv
   exact ⟨a, ns, rfl, sq, k _ Hc H (Ext.refl s) p .bl⟩
 ·cases e
variable {ι : Type} {X : L2.FC ι} {a : Expr} {fa : Ef} {pos p : Pos}
theorem Z5h (cx : Ctx X W E) (B : Bl W.mg) (ha : QB X W m E a fa) (hg : ∀ y, Gl (X y) "max" := by intro ψ; rfl) (hs : ∀ y, starEach [a] (X y).env = (false, eval a (X y).env) :: starEach [] (X y).env := by intro ψ; rfl) (hp : ∀ y, (backTo pos (starEach [] (X y).env)).any (·.1) = false := by intro ψ; rfl) : QE X W m E (.Call (.Name "max" p) [a] [] pos) (eB Z5g (Z01 fa aNil)) :=
 Za6 (fun y => Zc7 (cx.hK y) (cx.calm y)) Zj1 (fun y => (congrFun (cx.hm y) _).trans B.max) boot_max (qa_b ha Z04 hs) hg (by decide) (by decide) hs hp
theorem Znj (cx : Ctx X W E) (B : Bl W.mg) (ha : QB X W m E a fa) (hg : ∀ y, Gl (X y) "all" := by intro ψ; rfl) (hs : ∀ y, starEach [a] (X y).env = (false, eval a (X y).env) :: starEach [] (X y).env := by intro ψ; rfl) (hp : ∀ y, (backTo pos (starEach [] (X y).env)).any (·.1) = false := by intro ψ; rfl) : QE X W m E (.Call (.Name "all" p) [a] [] pos) (eB uAll (Z01 fa aNil)) :=
 Za6 (fun y => Zc8 (cx.hK y) (cx.calm y)) Zni (fun y => (congrFun (cx.hm y) _).trans B.all) boot_all (qa_b ha Z04 hs) hg (by decide) (by decide) hs hp
structure Kt (K : L2.Fg) : Prop where
 ib : PySem.W.kitOne K (.type "int") (.type "bool") = some false
 bi : PySem.W.kitOne K (.type "bool") (.type "int") = some true
def isTy : U -> String -> Option U
 | .int _, n => if n = "int" then some (.bl true) else if n = "bool" then some (.bl false) else none
 | .bl _, n => if n = "bool" then some (.bl true) else if n = "int" then some (.bl true) else none
 | .tup _, n => if n = "tuple" then some (.bl true) else none
 | .lst _, n => if n = "list" then some (.bl true) else none
 | _, _ => none
def tyU : U -> Option String
 | .ty n => some n
 | _ => none
def uIsT : List U -> Option U
 | [a, b] => (tyU b).bind (isTy a)
 | _ => none
theorem Zj2 {us : List U} {u : U} (e : uIsT us = some u) : ∃ a n, us = [a, .ty n] /\ isTy a n = some u := by
 rcases us with _ | ⟨a, _ | ⟨b, _ | ⟨c, t⟩⟩⟩
 ·exact noS e
 ·exact noS e
 ·cases b with
  | ty n => exact ⟨a, n, rfl, e⟩
  | _ => exact noS e
 ·exact noS e
theorem Z3g {K : L2.Fg} {n : String} : PySem.W.kitOne K (.type n) (.type n) = some true := by simp [PySem.W.kitOne]
theorem Znk (kt : Kt W.K) : Z2z W [true, true] (rIsA W.K) uIsT := by
 intro Hc H ω us vs s p rs u e Q k
 obtain ⟨a, n, rfl, e⟩ := Zj2 e
 obtain ⟨v, v', rfl, r1, r2⟩ := rs.two
 have := r2.ty; subst this
 cases a with
 | int x =>
  have := r1.int; subst this
  by_cases c1 : n = "int"
  ·subst c1; cases e; exact Z4m (.int _) Z3g (k _ Hc H (Ext.refl s) p .bl)
  ·replace e : (if n = "int" then some (U.bl true) else if n = "bool" then some (U.bl false) else none) = some u := e
   rw [if_neg c1] at e
   by_cases c2 : n = "bool"
   ·subst c2; cases e; exact Z4m (.int _) kt.ib (k _ Hc H (Ext.refl s) p .bl)
   ·rw [if_neg c2] at e; cases e
 | bl x =>
  have := r1.bl; subst this
  by_cases c1 : n = "bool"
  ·subst c1; cases e; exact Z4m (.bl _) Z3g (k _ Hc H (Ext.refl s) p .bl)
  ·replace e : (if n = "bool" then some (U.bl true) else if n = "int" then some (U.bl true) else none) = some u := e
   rw [if_neg c1] at e
   by_cases c2 : n = "int"
   ·subst c2; cases e; exact Z4m (.bl _) kt.bi (k _ Hc H (Ext.refl s) p .bl)
   ·rw [if_neg c2] at e; cases e
 | tup x =>
  obtain ⟨a, vs, rfl, h1, _⟩ := r1.tup
  by_cases c1 : n = "tuple"
  ·subst c1; cases e; exact Z4m (.tup (s _ _ h1)) Z3g (k _ Hc H (Ext.refl s) p .bl)
  ·replace e : (if n = "tuple" then some (U.bl true) else none) = some u := e
   rw [if_neg c1] at e; cases e
 | lst x =>
  obtain ⟨a, vs, rfl, h1, _⟩ := r1.lst s
  by_cases c1 : n = "list"
  ·subst c1; cases e; exact Z4m (.lst h1) Z3g (k _ Hc H (Ext.refl s) p .bl)
  ·replace e : (if n = "list" then some (U.bl true) else none) = some u := e
   rw [if_neg c1] at e; cases e
 | _ => exact noS e
variable {b : Expr} {fr : Af}
theorem Znl (cx : Ctx X W E) (B : Bl W.mg) (kt : Kt W.K) (ha : QA X W m E [true, true] [a, b] fr) (hg : ∀ y, Gl (X y) "isinstance" := by intro ψ; rfl) (hs : ∀ y, starEach [a, b] (X y).env = (false, eval a (X y).env) :: starEach [b] (X y).env := by intro ψ; rfl) (hp : ∀ y, (backTo pos (starEach [b] (X y).env)).any (·.1) = false := by intro ψ; rfl) : QE X W m E (.Call (.Name "isinstance" p) [a, b] [] pos) (eB uIsT fr) :=
 Za6 (fun y => Zek (cx.hK y)) (Znk kt) (fun y => (congrFun (cx.hm y) _).trans B.isinstance) boot_isinstance ha hg (by decide) (by decide) hs hp
end
theorem Z1t : 1000000 <= sizeLine := by decide
theorem Z2m {α : Type} (xs : List α) (n : Nat) : atI xs (n : Int) = xs[n]? := by
 unfold atI ixN
 rw [if_pos (Int.natCast_nonneg n)]
 by_cases h : n < xs.length
 ·rw [if_pos (by lia)]; simp
 ·rw [if_neg (by lia)]; simp [h]
theorem atI_zero {α : Type} (xs : List α) : atI xs (0 : Int) = xs[0]? := Z2m xs 0
theorem atI_one {α : Type} (xs : List α) : atI xs (1 : Int) = xs[1]? := Z2m xs 1
theorem Zca {α : Type} {xs : List α} {k : Int} (h0 : 0 <= k) (h1 : k < xs.length) : atI xs k = some (xs[k.toNat]'(by lia)) := by
 obtain ⟨n, rfl⟩ := Int.eq_ofNat_of_zero_le h0
 rw [Z2m]
 have : n < xs.length := by lia
 simp [this]
theorem atI_end {α : Type} (xs : List α) (x : α) : atI (xs ++ [x]) (-1 : Int) = some x := by
 unfold atI ixN
 have h2 : -(((xs ++ [x]).length : Nat) : Int) <= -1 := by simp; lia
 rw [if_neg (by lia), if_pos h2]
 have e : (-1 + ((xs ++ [x]).length : Int)).toNat = xs.length := by simp; lia
 rw [e]; simp
theorem Zj3 {α β : Type} {f : α -> β} {xs : List α} {k : Int} : atI (xs.map f) k = (atI xs k).map f := by
 unfold atI
 rw [List.length_map]
 cases ixN xs.length k with
 | none => rfl
 | some j => simp
theorem uIx_l {us : List U} {k : Int} : uIx (.lst us) (.int k) = atI us k := rfl
theorem uIx_t {us : List U} {k : Int} : uIx (.tup us) (.int k) = atI us k := rfl
theorem uDiv_s {a b : Int} (h0 : 0 < b) (h1 : b < 18446744073709551616) : uDiv (.int a) (.int b) = some (.int (a / b)) := by
 unfold uDiv
 have e : (18446744073709551616 : Nat) <= 2 ^ 9000 := by
  rw [show (18446744073709551616 : Nat) = 2 ^ 64 by decide]; exact Nat.pow_le_pow_right (by decide) (by decide)
 simp only
 rw [if_pos ⟨h0, by lia⟩]
theorem Znm {k : Nat} (h : k <= 9000) {a : Int} (h1 : a < 2 ^ k) (h2 : -(2 ^ k) < a) : a.natAbs < 2 ^ 9000 := by
 have e : (2 : Nat) ^ k <= 2 ^ 9000 := Nat.pow_le_pow_right (by decide) h
 have z : ((2 ^ k : Nat) : Int) = (2 : Int) ^ k := by push_cast; rfl
 lia
theorem Zgt {a b : Int} (k : Nat) (hk : k <= 9000) (h0 : 0 < b) (h1 : b < 2 ^ k) : uDiv (.int a) (.int b) = some (.int (a / b)) := by
 unfold uDiv
 simp only
 rw [if_pos ⟨h0, Znm hk h1 (by have := Z9t k; lia)⟩]
theorem uMod_s {a b : Int} (h0 : 0 < b) : uMod (.int a) (.int b) = some (.int (a % b)) := by unfold uMod; simp only; rw [if_pos h0]
theorem uMul_l {a b : Int} (h1 : -18446744073709551616 < a) (h2 : a < 18446744073709551616) : uMul (.int a) (.int b) = some (.int (a * b)) := by
 unfold uMul; simp only; rw [if_pos (.inl ⟨by lia, by lia⟩)]
theorem uMul_r {a b : Int} (h1 : -18446744073709551616 < b) (h2 : b < 18446744073709551616) : uMul (.int a) (.int b) = some (.int (a * b)) := by
 unfold uMul; simp only; rw [if_pos (.inr (.inl ⟨by lia, by lia⟩))]
theorem uPow_s {a b : Int} (h0 : 0 <= b) (h1 : b <= 1000000) (h2 : -18446744073709551616 < a) (h3 : a < 18446744073709551616) : uPow (.int a) (.int b) = some (.int (a ^ b.toNat)) := by
 unfold uPow; simp only; rw [if_pos ⟨h0, h1, by lia⟩]
theorem uAdd_i {a b : Int} : uAdd (.int a) (.int b) = some (.int (a + b)) := rfl
theorem uAdd_l {a b : List U} (h : a.length + b.length <= 1000000) : uAdd (.lst a) (.lst b) = some (.lst (a ++ b)) := by unfold uAdd; simp only; rw [if_pos (Nat.le_trans h Z1t)]
theorem uAdd_t {a b : List U} (h : a.length + b.length <= 1000000) : uAdd (.tup a) (.tup b) = some (.tup (a ++ b)) := by unfold uAdd; simp only; rw [if_pos (Nat.le_trans h Z1t)]
theorem mkT_s {us : List U} (h : us.length <= 1000000) : mkT us = some (.tup us) := by unfold mkT; rw [if_pos (Nat.le_trans h Z1t)]
theorem mkL_s {us : List U} (h : us.length <= 1000000) : mkL us = some (.lst us) := by unfold mkL; rw [if_pos (Nat.le_trans h Z1t)]
theorem ite_lt {α : Type} {n : Nat} {a b : α} (h : n < 1000000) : (if n < sizeLine then a else b) = a := by rw [if_pos (Nat.lt_of_lt_of_le h Z1t)]
theorem ite_le {α : Type} {n : Nat} {a b : α} (h : n <= 1000000) : (if n <= sizeLine then a else b) = a := by rw [if_pos (Nat.le_trans h Z1t)]
theorem uR1_s {j : Int} (h0 : -4611686018427387904 <= j) (h1 : j < 4611686018427387904) : uR1 [.int j] = some (rngU 0 j.toNat) := by unfold uR1; simp only; rw [if_pos ⟨by lia, by lia⟩]
theorem uR2_s {i j : Int} (h0 : -4611686018427387904 <= i) (h1 : i < 4611686018427387904) (h2 : -4611686018427387904 <= j) (h3 : j < 4611686018427387904) : uR2 [.int i, .int j] = some (rngU i (j - i).toNat) := by unfold uR2; simp only; rw [if_pos ⟨⟨by lia, by lia⟩, ⟨by lia, by lia⟩⟩]
theorem rngU_len {lo : Int} {n : Nat} : (rngU lo n).length = n := by simp [rngU]
section
variable {i j : Nat} {fa fb fi : Ef} {ft ft' : Tf} {fr : Af} {ρ : En} {ω : Om} {u : U} {us : List U} {g g1 g2 : Sf} {h : U -> U -> Option U} {q : List U -> Option U} {q1 : U -> Option U} {a : U -> En -> Option En} {b : List U -> En -> Option En} {fl fh : Pf} {F : Ff}
theorem sNext_ap : Z0z ρ ω = .nx ρ ω := rfl
theorem sIf_ap : sIf ft g1 g2 ρ ω = Fl.of (ft ρ ω) fun b ω1 => if b = true then g1 ρ ω1 else g2 ρ ω1 := rfl
theorem sSet_ap : sSet i fa ρ ω = Fl.of (fa ρ ω) fun u ω1 => .nx (ρ.set i (some u)) ω1 := rfl
theorem sRet_ap : sRet fa ρ ω = Fl.of (fa ρ ω) fun u ω1 => .rt u ω1 := rfl
theorem sAug_ap : sAug i h fa ρ ω = match ρ[i]? with
 | some (some a) => Fl.of (fa ρ ω) fun b ω1 => match h a b with
  | some c => .nx (ρ.set i (some c)) ω1
  | none => .stk
 | _ => .stk := rfl
theorem sApp_ap : sApp i fa ρ ω = match ρ[i]? with
 | some (some (.lst us)) => Fl.of (fa ρ ω) fun u ω1 => if us.length < sizeLine then .nx (ρ.set i (some (.lst (us ++ [u])))) ω1 else .stk
 | _ => .stk := rfl
theorem sPut_ap : sPut i fi fa ρ ω = Fl.of (fa ρ ω) fun u ω1 => match ρ[i]? with
 | some (some (.lst us)) => Fl.of (fi ρ ω1) fun k ω2 => match k with
  | .int k => match ixN us.length k with
   | some j => .nx (ρ.set i (some (.lst (us.set j u)))) ω2
   | none => .stk
  | _ => .stk
 | _ => .stk := rfl
theorem sAsg_ap : sAsg a fa ρ ω = Fl.of (fa ρ ω) fun u ω1 => match a u ρ with
 | some ρ' => .nx ρ' ω1
 | none => .stk := rfl
theorem sFor_ap : sFor fr a g ρ ω = Fl.of (fr ρ ω) fun us ω1 => forU (Z1r a g) us ρ ω1 := rfl
theorem stepU_ap : Z1r a g u ρ ω = match a u ρ with
 | some ρ' => g ρ' ω
 | none => .stk := rfl
theorem aName_ap : Z0i i u ρ = some (ρ.set i (some u)) := rfl
theorem aNilT_ap : Zc0 [] ρ = some ρ := rfl
theorem aConsT_ap : Z4q a b (u :: us) ρ = (a u ρ).bind (b us) := rfl
theorem eVar_ap : eVar i ρ ω = match ρ[i]? with
 | some (some u) => .ok u ω
 | _ => .stk := rfl
theorem eC_ap : eC u ρ ω = .ok u ω := rfl
theorem eOp_ap : eOp h fa fb ρ ω = (fa ρ ω).bnd fun a ω1 => (fb ρ ω1).bnd fun b ω2 => .of (h a b) ω2 := rfl
theorem eUn_ap : eUn q1 fa ρ ω = (fa ρ ω).bnd fun a ω1 => .of (q1 a) ω1 := rfl
theorem eAnd_ap : eAnd fa fb ρ ω = (fa ρ ω).bnd fun u ω1 => match u with
 | .bl b => if b = true then fb ρ ω1 else .ok (.bl false) ω1
 | _ => .stk := rfl
theorem eTup_ap : eTup fr ρ ω = (fr ρ ω).bnd fun us ω1 => .of (mkT us) ω1 := rfl
theorem eLst_ap : eLst fr ρ ω = (fr ρ ω).bnd fun us ω1 => .of (mkL us) ω1 := rfl
theorem eB_ap : eB q fr ρ ω = (fr ρ ω).bnd fun us ω1 => .of (q us) ω1 := rfl
theorem eCall_ap : Z0h F fr ρ ω = (fr ρ ω).bnd F := rfl
theorem eSl_ap {g : U -> Option Int -> Option Int -> Option U} : eSl g fa fl fh ρ ω = (fa ρ ω).bnd fun a ω1 => (fl ρ ω1).bnd fun l ω2 => (fh ρ ω2).bnd fun h ω3 => .of (g a l h) ω3 := rfl
theorem eRev_ap : eRev fa fl ρ ω = (fa ρ ω).bnd fun a ω1 => (fl ρ ω1).bnd fun l ω2 => .of (uRev a l) ω2 := rfl
theorem eComp_ap {k : Nat} {js : List Nat} : Z2k fr k js a ft fa ρ ω = (fr ρ ω).bnd fun us ω1 => if us.length <= sizeLine then asOk (cmpU (cstU a ft fa (blkU k js ρ)) us ω1) fun r ω2 => .ok (.lst r) ω2 else .stk := rfl
theorem cstU_ap : cstU a ft fa ρ u ω = match a u ρ with
 | some ρ' => (ft ρ' ω).bnd fun b ω1 => if b = true then (fa ρ' ω1).bnd fun u ω2 => .ok (some u) ω2 else .ok none ω1
 | none => .stk := rfl
theorem tfB_ap : tfB fa ρ ω = (fa ρ ω).bnd fun u ω1 => .of (asB u) ω1 := rfl
theorem tfAnd_ap : Zbx ft ft' ρ ω = (ft ρ ω).bnd fun b ω1 => if b = true then ft' ρ ω1 else .ok false ω1 := rfl
theorem tfOr_ap : tfOr ft ft' ρ ω = (ft ρ ω).bnd fun b ω1 => if b = true then .ok true ω1 else ft' ρ ω1 := rfl
theorem tfNot_ap : Zby ft ρ ω = (ft ρ ω).bnd fun b ω1 => .ok (!b) ω1 := rfl
theorem tfTrue_ap : Z14 ρ ω = .ok true ω := rfl
theorem aNil_ap : aNil ρ ω = .ok [] ω := rfl
theorem aCons_ap : Z01 fa fr ρ ω = (fa ρ ω).bnd fun u ω1 => (fr ρ ω1).bnd fun us ω2 => .ok (u :: us) ω2 := rfl
theorem pNo_ap : pNo ρ ω = .ok none ω := rfl
theorem pSome_ap : Z2f fa ρ ω = (fa ρ ω).bnd fun u ω1 => .of (asI u) ω1 := rfl
theorem iOf_ap : iOf fa ρ ω = (fa ρ ω).bnd fun u ω1 => .of (Zes u) ω1 := rfl
theorem iArgs_ap {q : List U -> Option (List U)} : Z2j q fr ρ ω = (fr ρ ω).bnd fun us ω1 => .of (q us) ω1 := rfl
end
def Zcb (g : Sf) (r : Fl) : Fl := match r with
 | .nx ρ' ω' => g ρ' ω'
 | o => o
theorem sSeq_then {g1 g2 : Sf} {ρ : En} {ω : Om} : sSeq g1 g2 ρ ω = Zcb g2 (g1 ρ ω) := rfl
@[simp] theorem thenF_nx {g : Sf} {ρ : En} {ω : Om} : Zcb g (.nx ρ ω) = g ρ ω := rfl
@[simp] theorem thenF_rt {g : Sf} {u : U} {ω : Om} : Zcb g (.rt u ω) = .rt u ω := rfl
@[simp] theorem thenF_err {g : Sf} {c : Str} {p : Option Int} {ω : Om} : Zcb g (.err c p ω) = .err c p ω := rfl
def endF (r : Fl) : Res U := match r with
 | .nx _ ω' => .ok .non ω'
 | .rt u ω' => .ok u ω'
 | .err c p ω' => .err c p ω'
 | _ => .stk
theorem runU_end {n : Nat} {g : Sf} {us : List U} {ω : Om} : runU n g us ω = endF (g (us.map some ++ List.replicate (n - us.length) none) ω) := rfl
@[simp] theorem endF_rt {u : U} {ω : Om} : endF (.rt u ω) = .ok u ω := rfl
@[simp] theorem endF_nx {ρ : En} {ω : Om} : endF (.nx ρ ω) = .ok .non ω := rfl
@[simp] theorem endF_err {c : Str} {p : Option Int} {ω : Om} : endF (.err c p ω) = .err c p ω := rfl
theorem Z1h {st : U -> Om -> Res (Option U)} {f : Int -> Option U} {ω : Om} : ∀ {ns : List Int}, (∀ x ∈ ns, st (.int x) ω = .ok (f x) ω) -> cmpU st (ns.map U.int) ω = .ok (ns.filterMap f) ω
 | [], _ => rfl
 | x :: xs, h => by
  rw [List.map_cons, cmpU, h x (by simp), Res.bnd_ok, Z1h fun y hy => h y (List.mem_cons_of_mem _ hy), Res.bnd_ok]
  cases e : f x with
  | none => rw [List.filterMap_cons_none e]; rfl
  | some u => rw [List.filterMap_cons_some e]; rfl
theorem Z2n : ∀ ns : List Int, U.toDs (ns.map U.int) = some (ns.map D.int)
 | [] => by rw [List.map_nil, U.toDs]; rfl
 | n :: ns => by rw [List.map_cons, U.toDs, U.toD, Z2n ns]; rfl
theorem Z6s (a b : List Int) : uEqs (a.map U.int) (b.map U.int) = some (decide (a = b)) := by
 unfold uEqs
 rw [Z2n, Z2n]
 simp [Z3p, Z8s]
theorem uEq_ii {a b : Int} : uEq (.int a) (.int b) = some (.bl (decide (a = b))) := rfl
theorem uNe_ii {a b : Int} : uNe (.int a) (.int b) = some (.bl (!decide (a = b))) := rfl
theorem Zcc {a b : List Int} : uEq (.tup (a.map U.int)) (.tup (b.map U.int)) = some (.bl (decide (a = b))) := by show (uEqs _ _).map U.bl = _; rw [Z6s]; rfl
theorem Zgu {a b : List Int} : uNe (.lst (a.map U.int)) (.lst (b.map U.int)) = some (.bl (!decide (a = b))) := by show (uEqs _ _).map (fun k => U.bl (!k)) = _; rw [Z6s]; rfl
theorem Zcd {a : List Int} : uNe (.lst (a.map U.int)) (.lst []) = some (.bl (!decide (a = []))) := Zgu (b := [])
theorem Zj4 {P : Program} {w : World} {K : L2.Fg} {mg : L2.SV} {base : Heap} {k : Nat} {f : Addr} {fd : FuncData} {ps : List Str} {sp : Sp} (F : FnOk P w K mg base (CX1 P w) k f fd ps sp) : FnOk P w K mg base CX0 k f fd ps (fun vs H Q ψ => sp vs H Q E0) :=
 ⟨fun vs H Q E h => F.len vs H Q E0 h, fun A outer s H args us vs Q E hr he hb hv hs => codeAny_mono (F.run A outer s H args us vs Q E0 hr he hb hv hs) fun r s' q => by
  cases r with
  | error e => obtain ⟨_, _, _, _, _, _, _, _, _, _, z⟩ := q; exact z.elim
  | ok fl => cases fl <;> exact q⟩
def Za7 (K : L2.Fg) : Sp := fun vs H Q ψ => ∃ sc, ∃ ns : List Int, vs = [.ref sc] /\ SqL K H sc (ns.map V.int) /\ ns.length <= 63 /\ ∀ H', Q (.bl true) H'
def wd0 (K : L2.Fg) (mg : L2.SV) : Wd := ⟨K, mg, 0, [], fun ψ ψ => True, fun ψ ψ ψ ψ ψ => trivial⟩
theorem Z82 {prog : Program} {w : World} {A : Around} {s : Shared} {R : Result -> Shared -> Prop} {r : Addr} {a b c : Int} {t u v : Tok} {n : Nat}
  (hh : A.handled = none) (hr : IsRange s.heap r a b c t u v) (hsmall : Builtin.Range.small a b c = false) (hn : Builtin.Range.rangeSize a b c = ↑n) (hlen : n <= 2 ^ 24) (S : Addr) (res : Value) (c₀ : Nat)
  (hS : s.heap.get? S = some { cls := Value.type "list", data := Data.seq #[] c₀ })
  (hR : ∀ (h' : Heap) (tk : Nat) (acc' : Array Value) (c' : Nat), (∀ (b : Addr) (o : Obj), b ≠ S -> s.heap.get? b = some o -> h'.get? b = some o) -> h'.get? S = some { cls := Value.type "list", data := Data.seq acc' c' } ->
   ItemsOf (fun i v => ∃ t, v = Value.int (a + ↑i * c) t) acc' n -> R (Except.ok (Flow.ret res)) { heap := h', gens := s.gens, drawn := s.drawn, toks := tk, os := s.os }) :
  wpAny (model prog w) A.in1 (Builtin.List.listExtendWith (Value.ref S) (Value.ref r) res)
   (fun fin s' => match fin with
    | Fin.done f => R (Except.ok f) s'
    | Fin.again c' => c'.quiet = true /\ codeAny (model prog w) A c' R s')
   (fun e s' => R (Except.error e) s') s := by
 have hSr : S ≠ r := fun e => by
  rw [e] at hS; rw [show s.heap.get? r = _ from hr] at hS; simp at hS
 have hSlt := Heap.lt_size hS
 have hSf : S ∉ [s.heap.objs.size] := fun hm => Nat.ne_of_lt hSlt (List.mem_singleton.mp hm)
 have W := Walks.toS (Walks.longrange (prog := prog) (w := w) (A := A.in1) hh s.heap.objs.size a c n)
 have key : ∀ (h : Heap) (c₁ tk : Nat), IsLongIter h s.heap.objs.size (a + ((0 : Nat) : Int) * c) ((n : Int) - ((0 : Nat) : Int)) c -> (∀ (b : Addr) (o : Obj), b ≠ S -> s.heap.get? b = some o -> h.get? b = some o) -> h.get? S = some { cls := Value.type "list", data := Data.seq #[] c₁ } ->
   codeAny (model prog w) A (Code.builtin "list.extend.loop" { pos := [Value.ref S, Value.ref s.heap.objs.size, res] }) R { heap := h, gens := s.gens, drawn := s.drawn, toks := tk, os := s.os } := fun h c₁ tk hit hk hS₁ => by
  refine codeAny_extend_loopS W (by rw [sizeLine_eq]; exact hlen) S hSf res n 0 _ #[] c₁ rfl (Nat.zero_le n) hit hS₁ (ItemsOf.nil _) fun s' acc' c' hm hS' hacc => ?_
  rw [Moved.eq_with hm]
  refine hR s'.heap s'.toks acc' c' (fun b o hb e => hm.heap b o (fun hmem => ?_) (hk b o hb e)) hS' hacc
  rcases List.mem_cons.mp hmem with e' | hmem
  ·exact hb e'
  ·have := Heap.lt_size e
   rw [List.mem_singleton.mp hmem] at this
   exact absurd this (Nat.lt_irrefl _)
 unfold Builtin.List.listExtendWith
 refine wpAny_bind (wpAny_typeOf ⟨_, hr, rfl⟩ ?_)
 have h1 : Builtin.List.listSameRef (Value.ref S) (Value.ref r) = false := by
  unfold Builtin.List.listSameRef; simp [hSr]
 have h2 : (Value.type "range" == Value.type "list") = false := by decide
 have h3 : (Value.type "range" == Value.type "tuple") = false := by decide
 simp only [h1, h2, h3, Bool.or_false, Bool.false_eq_true, if_false]
 refine wpAny_bind (wpAny_pyIter_longrange hr hsmall ?_)
 refine wpAny_bind (wpAny_holding (wpAny_hint_range (Heap.get?_push_of_some _ hr) hn hlen ?_))
 have hit₁ : IsLongIter (s.heap.push { cls := Value.type "longrange_iterator", data := Data.fields #[rawInt a, rawInt (Builtin.Range.rangeSize a b c), rawInt c] }) s.heap.objs.size (a + ((0 : Nat) : Int) * c) ((n : Int) - ((0 : Nat) : Int)) c := by
  have := Heap.get?_push_size s.heap (o := { cls := Value.type "longrange_iterator", data := Data.fields #[rawInt a, rawInt (Builtin.Range.rangeSize a b c), rawInt c] }) rfl
  rw [hn] at this ⊢
  simpa using this
 have hS₁ : (s.heap.push { cls := Value.type "longrange_iterator", data := Data.fields #[rawInt a, rawInt (Builtin.Range.rangeSize a b c), rawInt c] }).get? S = _ := Heap.get?_push_of_some _ hS
 refine wpAny_ite_split (fun ψ => ?_) (fun ψ => ?_)
 ·refine wpAny_bind (wpAny_rule (wpAny_bind ?_))
  unfold Builtin.List.listTouch
  refine wpAny_bind (wpAny_updateSeq hS₁ rfl ?_ (by rw [sizeLine_eq]; decide) (by rw [sizeLine_eq]; decide))
  have hS₂ := Heap.get?_update_self (Obj.mapSeq fun x => x.push Value.none) hS₁ rfl
  refine wpAny_updateSeq hS₂ rfl ?_ (by rw [sizeLine_eq]; decide) (by rw [sizeLine_eq]; decide)
  have hS₃ := Heap.get?_update_self (Obj.mapSeq fun x => x.pop) hS₂ rfl
  refine wpAny_pure ⟨plainId_quiet F.plain_extend_loop _, key _ _ _ ?_ (fun b o hb e => ?_) hS₃⟩
  ·unfold IsLongIter
   rw [Heap.get?_update_other _ _ (Nat.ne_of_lt hSlt), Heap.get?_update_other _ _ (Nat.ne_of_lt hSlt)]
   exact hit₁
  ·rw [Heap.get?_update_other _ _ (Ne.symm hb), Heap.get?_update_other _ _ (Ne.symm hb)]
   exact Heap.get?_push_of_some _ e
 ·exact wpAny_pure ⟨plainId_quiet F.plain_extend_loop _, key _ _ _ hit₁ (fun b o ψ e => Heap.get?_push_of_some _ e) hS₁⟩
theorem Z4d {prog : Program} {w : World} {A : Around} {s : Shared} {R : Result -> Shared -> Prop} {r : Addr} {a b c : Int} {t u v : Tok} {n : Nat}
  (hh : A.handled = none) (hr : IsRange s.heap r a b c t u v) (hsmall : Builtin.Range.small a b c = false) (hn : Builtin.Range.rangeSize a b c = ↑n) (hlen : n <= 2 ^ 24) (S : Addr)
  (hS : s.heap.get? S = some { cls := Value.type "list", data := Data.seq #[] })
  (hR : ∀ (h' : Heap) (tk : Nat) (acc' : Array Value) (c' : Nat), (∀ (b : Addr) (o : Obj), b ≠ S -> s.heap.get? b = some o -> h'.get? b = some o) -> h'.get? S = some { cls := Value.type "list", data := Data.seq acc' c' } ->
   ItemsOf (fun i v => ∃ t, v = Value.int (a + ↑i * c) t) acc' n -> R (Except.ok (Flow.ret Value.none)) { heap := h', gens := s.gens, drawn := s.drawn, toks := tk, os := s.os }) :
  wpAny (model prog w) A.in1 (Builtin.«list.__init__» { pos := [Value.ref S, Value.ref r] })
   (fun fin s' => match fin with
    | Fin.done f => R (Except.ok f) s'
    | Fin.again c' => c'.quiet = true /\ codeAny (model prog w) A c' R s')
   (fun e s' => R (Except.error e) s') s := by
 have hSr : S ≠ r := fun e => by
  rw [e] at hS; rw [show s.heap.get? r = _ from hr] at hS; simp at hS
 unfold Builtin.«list.__init__»
 refine wpAny_bind (?_ : wpAny _ _ (Builtin.List.listItems _) _ _ _)
 unfold Builtin.List.listItems
 refine wpAny_bind (wpAny_seqItems hS rfl (wpAny_pure ?_))
 refine wpAny_bind (wpAny_updateSeq hS rfl ?_ (by rw [sizeLine_eq]; decide) (by rw [sizeLine_eq]; decide))
 have hS₂ := Heap.get?_update_self (Obj.mapSeq fun x => #[]) hS rfl
 have oth : ∀ (b : Addr) (o : Obj), b ≠ S -> s.heap.get? b = some o -> (s.heap.update S (Obj.mapSeq fun x => #[])).get? b = some o := fun b o hb e => (Heap.get?_update_other s.heap (Obj.mapSeq fun x => #[]) (Ne.symm hb)).trans e
 refine wpAny_bind (wpAny_letGo ?_)
 exact Z82 hh (oth r _ (Ne.symm hSr) hr) hsmall hn hlen S Value.none _ hS₂ fun h' tk acc' c' hk hS' hacc => hR h' tk acc' c' (fun b o hb e => hk b o hb (oth b o hb e)) hS' hacc
theorem Z4e {prog : Program} {w : World} {A : Around} {E : L2.VSP} {s : Shared} {Q : L2.VSP} {r : Addr} {a b c : Int} {t u v : Tok} {n : Nat}
  (hh : A.handled = none) (hr : IsRange s.heap r a b c t u v) (hsmall : Builtin.Range.small a b c = false) (hn : Builtin.Range.rangeSize a b c = ↑n) (hlen : n <= 2 ^ 24)
  (hQ : ∀ (h' : Heap) (tk : Nat) (acc' : Array Value) (c' : Nat), (∀ (b : Addr) (o : Obj), s.heap.get? b = some o -> h'.get? b = some o) -> h'.get? s.heap.objs.size = some { cls := Value.type "list", data := Data.seq acc' c' } ->
   ItemsOf (fun i v => ∃ t, v = Value.int (a + ↑i * c) t) acc' n -> Q (Value.ref s.heap.objs.size) { heap := h', gens := s.gens, drawn := s.drawn, toks := tk, os := s.os }) :
  wpAny (model prog w) A (call (Value.type "list") [Value.ref r]) Q E s := by
 refine callType_codes F.called_list (F.typeCall_list_1 (Value.ref r)) F.entry_list_init (code_list_new (Value.ref r) (Q₁ := fun o s' => o = Value.ref s.heap.objs.size /\ s' = { heap := s.heap.push { cls := Value.type "list", data := Data.seq #[] }, gens := s.gens, drawn := s.drawn, toks := s.toks, os := s.os }) ⟨rfl, rfl⟩) fun obj s₁ h₁ => ?_
 obtain ⟨rfl, rfl⟩ := h₁
 have hS := Heap.get?_push_size s.heap (o := { cls := Value.type "list", data := Data.seq #[] }) rfl
 refine ⟨⟨_, hS, rfl⟩, F.args_list_init_2 _ _, ?_⟩
 exact Z4d (A := A.in1) (s := { heap := s.heap.push { cls := Value.type "list", data := Data.seq #[] }, gens := s.gens, drawn := s.drawn, toks := s.toks, os := s.os }) (R := wants (fun r s₂ => r = Value.none /\ Q (Value.ref s.heap.objs.size) s₂) E) hh (Heap.get?_push_of_some _ hr) hsmall hn hlen s.heap.objs.size hS fun h' tk acc' c' hk hS' hacc => ⟨rfl, hQ h' tk acc' c' (fun b o e => hk b o (Nat.ne_of_lt (Heap.lt_size e)) (Heap.get?_push_of_some _ e)) hS' hacc⟩
theorem Z5i {prog : Program} {w : World} {A : Around} {E : L2.VSP} {s : Shared} {Q : L2.VSP} {r : Addr} {a b c : Int} {t u v : Tok} {n : Nat}
  (hh : A.handled = none) (hr : IsRange s.heap r a b c t u v) (hn : Builtin.Range.rangeSize a b c = ↑n) (hlen : n <= 2 ^ 24)
  (hQ : ∀ (h' : Heap) (tk : Nat) (acc' : Array Value) (c' : Nat), (∀ (b : Addr) (o : Obj), s.heap.get? b = some o -> h'.get? b = some o) -> h'.get? s.heap.objs.size = some { cls := Value.type "list", data := Data.seq acc' c' } ->
   ItemsOf (fun i v => ∃ t, v = Value.int (a + ↑i * c) t) acc' n -> Q (Value.ref s.heap.objs.size) { heap := h', gens := s.gens, drawn := s.drawn, toks := tk, os := s.os }) :
  wpAny (model prog w) A (call (Value.type "list") [Value.ref r]) Q E s := by
 cases e : Builtin.Range.small a b c with
 | true => exact call_list_range hh hr e hn hlen hQ
 | false => exact Z4e hh hr e hn hlen hQ
def uIn (neg : Bool) : U -> U -> Option U
 | .int i, .lst us => (Z11 us).map fun ns => .bl (if neg then !decide (i ∈ ns) else decide (i ∈ ns))
 | .int i, .tup us => (Z11 us).map fun ns => .bl (if neg then !decide (i ∈ ns) else decide (i ∈ ns))
 | _, _ => none
theorem Z5j {i : Int} : ∀ ns : List Int, inV (.int i) (ns.map V.int) = decide (i ∈ ns)
 | [] => rfl
 | n :: ns => by
  have h := Z5j (i := i) ns
  unfold inV at h ⊢
  rw [List.map_cons, List.any_cons, h]
  show ((n == i) || _) = _
  by_cases e : n = i
  ·subst e; simp
  ·have e' : ¬ i = n := fun z => e z.symm
   simp [e, e']
theorem Z6t (ns : List Int) : (ns.map V.int).all Z49 = true := by
 simp [List.all_map, Z49]
section
variable {W : Wd}
theorem Znn {neg : Bool} : OpU W (rIn W.K neg) (uIn neg) := by
 intro Hc H ω u1 u2 x y s p rx ry u e Q k
 unfold uIn at e; split at e
 ·rename_i i us
  cases q : Z11 us with
  | none => rw [q] at e; exact noS e
  | some ns =>
   rw [q] at e; cases e
   have := Z18 q; subst this
   have := rx.int; subst this
   obtain ⟨a, vs, rfl, h1, r1⟩ := ry.lst s
   have := r1.ints; subst this
   refine ⟨a, _, rfl, .inl (.of h1), rfl, Z6t ns, ?_⟩
   rw [Z5j]
   exact k _ Hc H (Ext.refl s) p .bl
 ·rename_i i us
  cases q : Z11 us with
  | none => rw [q] at e; exact noS e
  | some ns =>
   rw [q] at e; cases e
   have := Z18 q; subst this
   have := rx.int; subst this
   obtain ⟨a, vs, rfl, h1, r1⟩ := ry.tup
   have := r1.ints; subst this
   refine ⟨a, _, rfl, .inr (.of (s _ _ h1)), rfl, Z6t ns, ?_⟩
   rw [Z5j]
   exact k _ Hc H (Ext.refl s) p .bl
 ·cases e
end
theorem Z6u {Y : Cx} {K : L2.Fg} (h : Y.K = K) : OpR Y (compareOp .NotIn) (rIn K true) := h ▸ Z69
section
variable {ι : Type} {X : L2.FC ι} {W : Wd} {m : Md} {E : XK} {a b : Expr} {fa fb : Ef} {pos : Pos}
theorem Zey (cx : Ctx X W E) (ha : QB X W m E a fa) (hb : QB X W m E b fb) (hm : lastMarks [.NotIn] [b] = false := by with_unfolding_all rfl) : QE X W m E (.Compare a [.NotIn] [b] pos) (eOp (uIn true) fa fb) := Zc3 (fun y => Z6u (cx.hK y)) Znn hm ha hb
theorem Z5k (cx : Ctx X W E) (ha : QB X W m E a fa) (hb : QB X W m E b fb) (hm : lastMarks [.NotIn] [b] = false := by with_unfolding_all rfl) : QT X W m E (.Compare a [.NotIn] [b] pos) (tfB (eOp (uIn true) fa fb)) := Z36 (fun y => Z6u (cx.hK y)) Znn hm ha hb
end
def Zno : List V -> Hp -> VK -> Prop := fun xs H Q => ∃ i j, xs = [.int i, .int j] /\ ∀ l, H l = none -> Q (.ref l) (upd H l (.rng i j))
def Z83 : List V -> Hp -> VK -> Prop := fun xs H Q => ∃ p lo hi, xs = [.ref p] /\ H p = some (.rng lo hi) /\ hi - lo <= 100000 /\ ∀ l, H l = none -> Q (.ref l) (upd H l (.lst ((List.range (hi - lo).toNat).map fun i : Nat => V.int (lo + i))))
section
variable {X : Cx}
theorem Zce : Z0s X (.type "range") Zno := by
 intro pins s σ H xs us Q I r h
 obtain ⟨i, j, rfl, q⟩ := h
 obtain ⟨u, v, rfl, ru, rv⟩ := Ze5 r
 obtain ⟨t, rfl⟩ := ru
 obtain ⟨t', rfl⟩ := rv
 refine call_range_2 ⟨.ref s.heap.objs.size, _, I.laid (fun b o e => Heap.get?_push_of_some _ e) (Nat.le_refl _) (show Z0r X.prog X.w _ _ _ (.rng i j) from ⟨_, _, _, Heap.get?_push_size _ rfl⟩), rfl, q _ (I.hok.fresh (Nat.le_refl _))⟩
theorem Z8y {lo : Int} : ∀ (n : Nat) (k : Nat) (its : List Value), its.length = n -> (∀ (j : Nat) (v : Value), its[j]? = some v -> ∃ t, v = Value.int (lo + (k : Nat) + j) t) -> Vals ((List.range n).map fun i : Nat => V.int (lo + (k : Nat) + i)) its
 | 0, k, [], _, _ => .nil
 | n + 1, k, v :: its, hl, h => by
  rw [List.range_succ_eq_map, List.map_cons, List.map_map]
  refine .cons (by obtain ⟨t, e⟩ := h 0 v rfl; exact ⟨t, by rw [e]⟩) ?_
  have := Z8y (lo := lo) n (k + 1) its (by simpa using hl) (fun j w hw => by
   obtain ⟨t, e⟩ := h (j + 1) w (by simpa using hw)
   exact ⟨t, by rw [e]; congr 1; lia⟩)
  have e : ((List.range n).map fun i : Nat => V.int (lo + ((k + 1 : Nat) : Int) + i)) = (List.range n).map ((fun i : Nat => V.int (lo + (k : Nat) + i)) ∘ Nat.succ) := by
   apply List.map_congr_left
   intro i ψ
   show V.int _ = V.int _
   congr 1; lia
  rw [<- e]; exact this
theorem Z6v (hc : X.calm = true) : Z0s X (.type "list") Z83 := by
 intro pins s σ H xs us Q I r h
 obtain ⟨p, lo, hi, rfl, hp, h3, q⟩ := h
 obtain ⟨u, rfl, ru⟩ := Z2e r
 cases ru
 obtain ⟨t, u, v, e⟩ := I.hok p _ hp
 have sz : Builtin.Range.rangeSize lo hi 1 = (((hi - lo).toNat : Nat) : Int) := by rw [rangeSize_one]; split <;> lia
 refine Z5i (n := (hi - lo).toNat) (I.ok.hd hc) e sz (by lia) fun h' tk acc' c' kp e' it => ?_
 have hv := Z8y (lo := lo) (hi - lo).toNat 0 acc'.toList (by simpa using it.1) (fun j v hv => by
  obtain ⟨t, z⟩ := it.2 j v (by simpa using hv)
  exact ⟨t, by rw [z]; congr 1; simp⟩)
 have e0 : ((List.range (hi - lo).toNat).map fun i : Nat => V.int (lo + ((0 : Nat) : Int) + i)) = (List.range (hi - lo).toNat).map fun i : Nat => V.int (lo + i) := by
  apply List.map_congr_left
  intro i ψ
  show V.int _ = V.int _
  congr 1; lia
 rw [e0] at hv
 exact ⟨.ref s.heap.objs.size, _, I.laid (t' := tk) kp (Nat.le_refl _) (show Z0r X.prog X.w _ h' _ (.lst _) from ⟨Nat.le_trans (by simp; lia) Z1t, acc'.toList, c', hv, by simpa using e'⟩), rfl, q _ (I.hok.fresh (Nat.le_refl _))⟩
end
def Z4f : List U -> Option U := fun us => match us with
 | [.int j] => if j - 0 <= 100000 then some (.lst (rngU 0 (j - 0).toNat)) else none
 | [.int i, .int j] => if j - i <= 100000 then some (.lst (rngU i (j - i).toNat)) else none
 | _ => none
theorem uRngL_1 {j : Int} (h1 : j <= 100000) : Z4f [.int j] = some (.lst (rngU 0 j.toNat)) := by
 unfold Z4f; simp only; rw [if_pos (by lia)]; simp
theorem uRngL_2 {i j : Int} (h4 : j - i <= 100000) : Z4f [.int i, .int j] = some (.lst (rngU i (j - i).toNat)) := by
 unfold Z4f; simp only; rw [if_pos h4]
section
variable {W : Wd} {m : Md} {E : XK} {tr : TA} {fr : Af}
theorem RUs.rngL {H : Hp} {lo : Int} {n : Nat} : RUs W H (rngU lo n) ((List.range n).map fun i : Nat => V.int (lo + i)) := by
 have e : rngU lo n = ((List.range n).map fun i : Nat => lo + (i : Int)).map U.int := by rw [rngU, List.map_map]; rfl
 have e2 : ((List.range n).map fun i : Nat => V.int (lo + (i : Int))) = ((List.range n).map fun i : Nat => lo + (i : Int)).map V.int := by rw [List.map_map]; rfl
 rw [e, e2]; exact .ofInts
theorem Zj5 {ω : Om} {Hc H : Hp} {i j : Int} {l : Addr} {Q : VK} (s : Same Hc H) (p : PlOk W ω Hc H) (c : j - i <= 100000) (n : H l = none)
  (k : ∀ us a vs Hc' H', Ext W Hc H Hc' H' -> PlOk W ω Hc' H' -> U.lst (rngU i (j - i).toNat) = .lst us -> Hc' a = none -> H a = none -> H' a = some (.lst vs) -> RUs W Hc' us vs -> Q (.ref a) H') : Z83 [.ref l] (upd H l (.rng i j)) Q := by
 refine ⟨l, i, j, rfl, Z03, c, fun l2 n2 => ?_⟩
 have x1 := Z0u (o := .rng i j) s p n
 have x2 := Z0u (o := .lst ((List.range (j - i).toNat).map fun k : Nat => V.int (i + k))) x1.1.sub x1.2 n2
 have nl : H l2 = none := by
  by_cases z : l2 = l
  ·rw [z]; exact n
  ·rw [Z06 z] at n2; exact n2
 exact k _ l2 _ Hc _ (x1.1.trans x2.1) x2.2 rfl (s.free nl) nl Z03 RUs.rngL
theorem Zez (hr : DA W m E [true, true] tr fr) : DF W m E (tCB Z83 (Z3l (tCB Zno tr) tNil)) (eB Z4f fr) := by
 intro H0 ρ ω σ Hc H ow S Q h
 refine hr H0 ρ ω σ Hc H ow S _ ((Aft.bnd h).imp fun us ω1 Hc1 H1 e1 p1 h1 xs rs => ?_)
 revert h1
 have l := rs.len.2
 match us, l, rs with
 | [u, u'], _, rs =>
  obtain ⟨v, v', rfl, rv, rv'⟩ := rs.two
  cases u with
  | int i =>
   cases u' with
   | int j =>
    have := rv.int; subst this
    have := rv'.int; subst this
    by_cases c : j - i <= 100000
    ·rw [show Z4f [U.int i, U.int j] = some (U.lst (rngU i (j - i).toNat)) from if_pos c]
     refine fun h1 => ⟨i, j, rfl, fun l n => ?_⟩
     exact Zj5 e1.sub p1 c n fun us a vs Hc' H' e p q1 q2 q3 q4 q5 => h1 Hc' H' e p us a vs q1 q2 (e1.frz' q3) q4 q5
    ·rw [show Z4f [U.int i, U.int j] = none from if_neg c]; exact fun h1 => h1.elim
   | _ => exact fun h1 => h1.elim
  | _ => exact fun h1 => h1.elim
end
section
variable {ι : Type} {X : L2.FC ι} {W : Wd} {m : Md} {E : XK} {a b : Expr} {fr : Af} {pos p p2 pos2 : Pos}
theorem Z6w (cx : Ctx X W E) (B : Bl W.mg) (ha : QA X W m E [true, true] [a, b] fr) (hg : ∀ y, Gl (X y) "list" := by intro ψ; rfl) (hg2 : ∀ y, Gl (X y) "range" := by intro ψ; rfl) (hs : ∀ y, starEach [a, b] (X y).env = (false, eval a (X y).env) :: starEach [b] (X y).env := by intro ψ; rfl) (hp : ∀ y, (backTo pos2 (starEach [b] (X y).env)).any (·.1) = false := by intro ψ; rfl)
  (hs' : ∀ y, starEach [.Call (.Name "range" p2) [a, b] [] pos2] (X y).env = (false, eval (.Call (.Name "range" p2) [a, b] [] pos2) (X y).env) :: starEach [] (X y).env := by intro ψ; rfl) (hp' : ∀ y, (backTo pos (starEach [] (X y).env)).any (·.1) = false := by intro ψ; rfl) :
  QF X W m E (.Call (.Name "list" p) [.Call (.Name "range" p2) [a, b] [] pos2] [] pos) (eB Z4f fr) :=
 let ⟨_, pa, da⟩ := ha; ⟨_, fun y => Z1q (Z6v (cx.calm y)) (hg y) ((congrFun (cx.hm y) _).trans B.list) boot_list (Z1y (Z1q Zce (hg2 y) ((congrFun (cx.hm y) _).trans B.range) boot_range (pa y) (by decide) (by decide) (hs y) (hp y)) Z3m (hs' y)) (by decide) (by decide) (hs' y) (hp' y), Zez da⟩
end
structure PlW (W : Wd) : Prop where
 mem : W.pa ∈ W.L
 out : ∀ ω H, W.pl ω H -> ∃ sc, H W.pa = some (.lst (.ref sc :: ω.rs.map V.int)) /\ SqL W.K H sc (ω.cs.map V.int)
 inn : ∀ ω H sc rs, W.pl ω H -> H W.pa = some (.lst (.ref sc :: ω.rs.map V.int)) -> W.pl ⟨ω.cs, rs⟩ (upd H W.pa (.lst (.ref sc :: rs.map V.int)))
open Classical in
def Hr (L : List Addr) (H : Hp) : Hp := fun b => if b ∈ L then H b else none
theorem Zcf {L : List Addr} {H : Hp} : Same (Hr L H) H := fun b o h => by
 unfold Hr at h
 by_cases c : b ∈ L
 ·rw [if_pos c] at h; exact h
 ·rw [if_neg c] at h; cases h
def wdP (K : L2.Fg) (mg : L2.SV) (pa : Addr) (L : List Addr) : Wd where
 K := K
 mg := mg
 pa := pa
 L := L
 pl := fun ω H => pa ∈ L /\ ∃ sc, H pa = some (.lst (.ref sc :: ω.rs.map V.int)) /\ SqL K (Hr L H) sc (ω.cs.map V.int)
 st := fun ω H H' h k => by
  obtain ⟨m, sc, e, q⟩ := h
  refine ⟨m, sc, k _ _ e (.inl m), Same.seq (fun b o hb => ?_) q⟩
  unfold Hr at hb ⊢
  by_cases c : b ∈ L
  ·rw [if_pos c] at hb ⊢; exact k _ _ hb (.inl c)
  ·rw [if_neg c] at hb; cases hb
theorem Znp {K : L2.Fg} {mg : L2.SV} {pa : Addr} {L : List Addr} (h : pa ∈ L) : PlW (wdP K mg pa L) := by
 refine ⟨h, fun ω H p => ?_, fun ω H sc rs p e => ?_⟩
 ·obtain ⟨_, sc, e, q⟩ := p
  exact ⟨sc, e, Zcf.seq q⟩
 ·obtain ⟨m, sc', e', q⟩ := p
  have e0 : H pa = some (.lst (.ref sc :: ω.rs.map V.int)) := e
  rw [e'] at e0
  have z : sc' = sc := by injection e0 with z1; injection z1 with z2; injection z2 with z3; injection z3
  subst z
  refine ⟨m, sc', Z03, ?_⟩
  rcases q with q | q
  ·refine .inl ?_
   have key : ∀ o, Hr L H sc' = some o -> (∃ xs : List Int, o = .lst (xs.map V.int)) \/ (∃ ob u, o = .frz ob u) -> Hr L (upd H pa (.lst (.ref sc' :: rs.map V.int))) sc' = some o := fun o ho hk => by
    have hh := Zcf _ _ ho
    have ne : sc' ≠ pa := fun z => by
     rw [z, e'] at hh; injection hh with hh
     rcases hk with ⟨xs, rfl⟩ | ⟨ob, u, rfl⟩
     ·injection hh with hh
      cases xs with
      | nil => cases hh
      | cons x xs => rw [List.map_cons] at hh; injection hh with h1 h2; cases h1
     ·cases hh
    unfold Hr at ho ⊢
    by_cases c : sc' ∈ L
    ·rw [if_pos c] at ho ⊢; rw [Z06 ne]; exact ho
    ·rw [if_neg c] at ho; cases ho
   rcases q with q | ⟨o, q⟩
   ·exact .inl (key _ q (.inl ⟨_, rfl⟩))
   ·exact .inr ⟨o, key _ q (.inr ⟨_, _, rfl⟩)⟩
  ·exact .inr q
def ePl (i k : Nat) : Ef := fun ρ ω => match ρ[i]? with
 | some (some .pile) => .of ((ω.rs[k]?).map U.int) ω
 | _ => .stk
def Z6x (i : Nat) : Ef := fun ρ ω => match ρ[i]? with
 | some (some .pile) => .ok (.int ω.cs.length) ω
 | _ => .stk
def Zcg (i k : Nat) : Ef := fun ρ ω => match ρ[i]? with
 | some (some .pile) => match ω.rs[k]? with
  | some n => .of ((atI ω.cs n).map U.int) ω
  | none => .stk
 | _ => .stk
def sPl (i k : Nat) (fa : Ef) : Sf := fun ρ ω => Fl.of (fa ρ ω) fun u ω1 => match ρ[i]? with
 | some (some .pile) => match u with
  | .int n => if k < ω1.rs.length then .nx ρ ⟨ω1.cs, ω1.rs.set k n⟩ else .stk
  | _ => .stk
 | _ => .stk
section
variable {W : Wd} {m : Md} {E : XK} {i k : Nat} {ta : TE} {fa : Ef} {ρ : En} {ω : Om} {σ : St} {H0 Hc0 Hc H : Hp} {ow : Nat -> Addr}
theorem Sr.pile (S : Sr W m ρ ω σ H0 Hc H ow) (h : ρ[i]? = some (some .pile)) : σ[i]? = some (some (.ref W.pa)) := by
 obtain ⟨v, q, r⟩ := S.get h
 rw [q, r.pile]
theorem Z8z {α : Type} {x : α} {xs : List α} {k : Nat} {y : α} (h : xs[k]? = some y) : atI (x :: xs) ((k + 1 : Nat) : Int) = some y := by
 rw [Z2m]; simpa using h
theorem Zqs (w : PlW W) : DE W m E (tOp (rIxA W.K) (tVar i) (tC (.int ((k + 1 : Nat) : Int)))) (ePl i k) := by
 intro H0 ρ ω σ Hc H ow S Q h
 unfold ePl at h
 split at h
 ·rename_i e
  cases q : ω.rs[k]? with
  | none => rw [q] at h; exact h.elim
  | some n =>
   rw [q] at h
   obtain ⟨sc, h1, h2⟩ := w.out _ _ S.pl.pl
   refine ⟨_, S.pile e, .inl ⟨W.pa, _, _, .int n, rfl, rfl, .of h1, Z8z (by rw [List.getElem?_map, q]; rfl), ?_⟩⟩
   exact h Hc H (Ext.refl S.sub) S.pl _ .int
 ·exact h.elim
theorem Zf0 (w : PlW W) : DE W m E (tCB (rLen W.K) (Z3l (tOp (rIxA W.K) (tVar i) (tC (.int 0))) tNil)) (Z6x i) := by
 intro H0 ρ ω σ Hc H ow S Q h
 unfold Z6x at h
 split at h
 ·rename_i e
  obtain ⟨sc, h1, h2⟩ := w.out _ _ S.pl.pl
  refine ⟨_, S.pile e, .inl ⟨W.pa, _, _, .ref sc, rfl, rfl, .of h1, by rw [atI_zero]; rfl, ?_⟩⟩
  refine ⟨sc, _, rfl, .inl h2, ?_⟩
  rw [List.length_map]
  exact h Hc H (Ext.refl S.sub) S.pl _ .int
 ·exact h.elim
theorem Zqt {ns : List Int} {k n : Int} (h : atI ns k = some n) : atI (ns.map V.int) k = some (.int n) := by
 rw [Zj3, h]; rfl
theorem Zj6 (w : PlW W) : DE W m E (tOp (rIxA W.K) (tOp (rIxA W.K) (tVar i) (tC (.int 0))) (tOp (rIxA W.K) (tVar i) (tC (.int ((k + 1 : Nat) : Int))))) (Zcg i k) := by
 intro H0 ρ ω σ Hc H ow S Q h
 unfold Zcg at h
 split at h
 ·rename_i e
  split at h
  ·rename_i n q
   cases q2 : atI ω.cs n with
   | none => rw [q2] at h; exact h.elim
   | some c =>
    rw [q2] at h
    obtain ⟨sc, h1, h2⟩ := w.out _ _ S.pl.pl
    refine ⟨_, S.pile e, .inl ⟨W.pa, _, _, .ref sc, rfl, rfl, .of h1, by rw [atI_zero]; rfl, ?_⟩⟩
    refine ⟨_, S.pile e, .inl ⟨W.pa, _, _, .int n, rfl, rfl, .of h1, Z8z (by rw [List.getElem?_map, q]; rfl), ?_⟩⟩
    refine .inl ⟨sc, _, _, .int c, rfl, rfl, h2, Zqt q2, ?_⟩
    exact h Hc H (Ext.refl S.sub) S.pl _ .int
  ·exact h.elim
 ·exact h.elim
theorem Sr.plset {rs : List Int} {sc : Addr} (w : PlW W) (S : Sr W m ρ ω σ H0 Hc H ow) (h : H W.pa = some (.lst (.ref sc :: ω.rs.map V.int))) : Sr W m ρ ⟨ω.cs, rs⟩ σ H0 Hc (upd H W.pa (.lst (.ref sc :: rs.map V.int))) ow := by
 have nc : Hc W.pa = none := (S.pl.out _ w.mem).1
 refine ⟨fun b o hb => ?_, fun b o n hb => ?_, S.p0, S.len, ⟨w.inn _ _ _ _ S.pl.pl h, fun b hb => ⟨(S.pl.out b hb).1, ?_⟩⟩, S.cl, S.bo, fun j u n hj => ?_, S.di⟩
 ·rw [Z06 (fun z => by rw [z, nc] at hb; cases hb)]; exact S.sub b o hb
 ·rw [Z06 (fun z => n (by rw [z]; exact w.mem))]; exact S.s0 b o n hb
 ·by_cases z : b = W.pa
  ·rw [z, Z03]; simp
  ·rw [Z06 z]; exact (S.pl.out b hb).2
 ·obtain ⟨o1, z2, z3, z4, z5, z6⟩ := S.mu j u n hj
  exact ⟨o1, z2, by rw [Z06 (fun z => S.nl z5 (by rw [z]; exact w.mem))]; exact z3, z4, z5, z6⟩
theorem Ext.plset {o : HO} (w : PlW W) (nc : Hc W.pa = none) (x : Ext W Hc0 H0 Hc H) : Ext W Hc0 H0 Hc (upd H W.pa o) := by
 refine ⟨fun b u n hb => ?_, x.sc, fun b u hb => ?_, x.new, fun b hb => ?_⟩
 ·rw [Z06 (fun z => n (by rw [z]; exact w.mem))]; exact x.same b u n hb
 ·rw [Z06 (fun z => by rw [z, nc] at hb; cases hb)]; exact x.sub b u hb
 ·by_cases z : b = W.pa
  ·rw [z, Z03]; simp
  ·rw [Z06 z]; exact x.frz b hb
theorem Zqu (w : PlW W) (ha : DE W m E ta fa) : DS W m E (tAsg ta (gSub (tVar i) (tC (.int ((k + 1 : Nat) : Int))) Zea)) (sPl i k fa) := by
 intro H0 Hc0 ρ ω σ Hc H ow S x D h
 refine ha H0 ρ ω σ Hc H ow S _ ((Cont.of x h).imp fun u ω1 Hc1 H1 e1 p1 k1 v rv => ?_)
 have S1 := S.ext e1 p1
 have x1 := x.trans e1
 revert k1
 split
 ·rename_i e
  split
  ·rename_i n
   split
   ·rename_i lt
    intro k1
    rw [RU] at rv; subst rv
    obtain ⟨sc, h1, h2⟩ := w.out _ _ p1.pl
    refine ⟨_, S1.pile e, W.pa, _, _, k + 1, rfl, rfl, h1, ?_, ?_⟩
    ·unfold ixN; rw [if_pos (by lia), if_pos (by simp; lia)]; simp
    ·have e2 : ((V.ref sc :: ω1.rs.map V.int).set (k + 1) (V.int n)) = V.ref sc :: (ω1.rs.set k n).map V.int := by simp [List.map_set]
     rw [e2]
     exact k1 _ Hc1 _ ow (S1.plset w h1) (Ext.plset w (p1.out _ w.mem).1 x1)
   ·exact fun k1 => k1.elim
  ·exact fun k1 => k1.elim
 ·exact fun k1 => k1.elim
end
section
variable {ι : Type} {X : L2.FC ι} {W : Wd} {m : Md} {E : XK} {a : Expr} {fa : Ef} {pos p p2 p3 p4 p5 pos2 pos3 tp : Pos} {x : Str} {j j2 : Nat}
theorem Z3w (i k : Nat) {kk : Int} (w : PlW W) (cx : Ctx X W E) (hk : kk = ((k + 1 : Nat) : Int) := by rfl) (hN : ∀ y, (X y).N[i]? = some x := by intro ψ; rfl) (hv : ∀ y, Vis (X y).env.scope x := by intro ψ; first | exact Or.inl rfl | exact Or.inr (Or.inl rfl) | exact Or.inr (Or.inr rfl)) (hd : (x == ("__debug__" : Str)) = false := by decide) (hcd : (x == ("__classdict__" : Str)) = false := by decide)
  (hs : Z2g (.Constant (.int kk) j p2) := by exact fun ψ ψ => rfl) : QE X W m E (.Subscript (.Name x p) (.Constant (.int kk) j p2) pos) (ePl i k) := by
 subst hk
 exact ⟨_, fun y => Z9x (Z2x (cx.hK y)) (Z10 (hN y) (hv y) hd hcd) Z4h hs, Zqs w⟩
theorem Zf1 (i : Nat) (w : PlW W) (cx : Ctx X W E) (B : Bl W.mg) (hN : ∀ y, (X y).N[i]? = some x := by intro ψ; rfl) (hv : ∀ y, Vis (X y).env.scope x := by intro ψ; first | exact Or.inl rfl | exact Or.inr (Or.inl rfl) | exact Or.inr (Or.inr rfl)) (hd : (x == ("__debug__" : Str)) = false := by decide) (hcd : (x == ("__classdict__" : Str)) = false := by decide)
  (hi : Z2g (.Constant (.int 0) j p2) := by exact fun ψ ψ => rfl) (hg : ∀ y, Gl (X y) "len" := by intro ψ; rfl) (hs : ∀ y, starEach [.Subscript (.Name x p) (.Constant (.int 0) j p2) pos2] (X y).env = (false, eval (.Subscript (.Name x p) (.Constant (.int 0) j p2) pos2) (X y).env) :: starEach [] (X y).env := by intro ψ; rfl) (hp : ∀ y, (backTo pos (starEach [] (X y).env)).any (·.1) = false := by intro ψ; rfl) :
  QE X W m E (.Call (.Name "len" p3) [.Subscript (.Name x p) (.Constant (.int 0) j p2) pos2] [] pos) (Z6x i) :=
 ⟨_, fun y => Z3e (Z6l (cx.hK y)) (hg y) ((congrFun (cx.hm y) _).trans B.len) boot_len (Z1y (Z9x (Z2x (cx.hK y)) (Z10 (hN y) (hv y) hd hcd) Z4h hi) Z3m (hs y)) (by decide) (by decide) (hs y) (hp y), Zf0 w⟩
theorem Zj7 (i k : Nat) {kk : Int} (w : PlW W) (cx : Ctx X W E) (hk : kk = ((k + 1 : Nat) : Int) := by rfl) (hN : ∀ y, (X y).N[i]? = some x := by intro ψ; rfl) (hv : ∀ y, Vis (X y).env.scope x := by intro ψ; first | exact Or.inl rfl | exact Or.inr (Or.inl rfl) | exact Or.inr (Or.inr rfl)) (hd : (x == ("__debug__" : Str)) = false := by decide) (hcd : (x == ("__classdict__" : Str)) = false := by decide)
  (hi : Z2g (.Constant (.int 0) j p2) := by exact fun ψ ψ => rfl) (hi2 : Z2g (.Constant (.int kk) j2 p5) := by exact fun ψ ψ => rfl) (hi3 : Z2g (.Subscript (.Name x p4) (.Constant (.int kk) j2 p5) pos3) := by exact fun ψ ψ => rfl) :
  QE X W m E (.Subscript (.Subscript (.Name x p) (.Constant (.int 0) j p2) pos2) (.Subscript (.Name x p4) (.Constant (.int kk) j2 p5) pos3) pos) (Zcg i k) := by
 subst hk
 exact ⟨_, fun y => Z9x (Z2x (cx.hK y)) (Z9x (Z2x (cx.hK y)) (Z10 (hN y) (hv y) hd hcd) Z4h hi) (Z9x (Z2x (cx.hK y)) (Z10 (hN y) (hv y) hd hcd) Z4h hi2) hi3, Zj6 w⟩
theorem Za8 (i k : Nat) {kk : Int} (w : PlW W) (ha : QE X W m E a fa) (hk : kk = ((k + 1 : Nat) : Int) := by rfl) (hN : ∀ y, (X y).N[i]? = some x := by intro ψ; rfl) (hv : ∀ y, Vis (X y).env.scope x := by intro ψ; first | exact Or.inl rfl | exact Or.inr (Or.inl rfl) | exact Or.inr (Or.inr rfl)) (hd : (x == ("__debug__" : Str)) = false := by decide) (hcd : (x == ("__classdict__" : Str)) = false := by decide)
  (hs : ∀ y, swapsWithSole [.Subscript (.Name x p) (.Constant (.int kk) j p2) tp] a pos.line (X y).env = pure false := by intro ψ; rfl) (hw : ∀ y, swappedStores [.Subscript (.Name x p) (.Constant (.int kk) j p2) tp] a (X y).env = pure none := by intro ψ; rfl) (h1 : ∀ y, (assignEach [.Subscript (.Name x p) (.Constant (.int kk) j p2) tp] (X y).env).map (·.2) = [assign (.Subscript (.Name x p) (.Constant (.int kk) j p2) tp) (X y).env] := by intro ψ; rfl)
  (hq : ∀ y v, assign (.Subscript (.Name x p) (.Constant (.int kk) j p2) tp) (X y).env v = (do
   let ov <- holding [v] (eval (.Name x p) (X y).env)
   let iv <- holding [v, ov] (eval (.Constant (.int kk) j p2) (X y).env)
   standAt tp
   holding [v, ov, iv] (setItem ov iv v)
   release [v, ov, iv] []) := by intro ψ ψ; rfl) : QS X W m E (.Assign [.Subscript (.Name x p) (.Constant (.int kk) j p2) tp] a pos) (sPl i k fa) := by
 subst hk
 exact let ⟨_, pa, da⟩ := ha; ⟨_, fun y => Z62 (pa y) (Z61 (Z10 (hN y) (hv y) hd hcd) Z4h Z54 (hq y)) (hs y) (hw y) (h1 y), Zqu w da⟩
end
section
variable {P : Program} {w : World} {K : L2.Fg} {mg : L2.SV} {base : Heap}
theorem Fun.okP {x qual : Str} {st s1 : Stmt} {rest : List Stmt} {f : Addr} {fd : FuncData} {N : List Str} {sn : Str} {k : Nat} {m : Md} {g : Sf} {Fp : Ff} {cells : List Int} (F : Fun K x qual st f fd) (S : Z0m N [sn] (Z05 st)) (hb : Z0e st = s1 :: rest) (hN : 2 <= N.length) (h1M : 1 ∉ m.M)
  (hpr : ∀ (cdv : Value) (A : Around) (outer : List Env) (s : Shared) (H : Hp) (E : XK), Room k (A.deeper (envOfC qual (Z05 st) s.heap.objs.size f cdv)) -> A.handled = none ->
   QS (defX P w K mg base N qual (Z05 st) f cdv A outer s H E) (wd0 K mg) ⟨[], []⟩ E s1 (sSet 1 (Z0h Fp (Z01 (eVar 0) aNil))))
  (hbody : ∀ (cdv : Value) (A : Around) (outer : List Env) (s : Shared) (H : Hp) (E : XK) (W : Wd), W.K = K -> W.mg = mg -> PlW W -> Room k (A.deeper (envOfC qual (Z05 st) s.heap.objs.size f cdv)) -> A.handled = none ->
   QK (defX P w K mg base N qual (Z05 st) f cdv A outer s H E) W m E rest g)
  (hFp : ∀ ns ω, Fp [.scr ns] ω = .ok (.lst (.scr ns :: cells.map U.int)) ω)
  (hlaw : ∀ ns : List Int, ns.length <= 63 -> ∃ ω', endF (g (none :: some .pile :: List.replicate (N.length - 2) none) ⟨ns, cells⟩) = .ok (.bl true) ω') :
  FnOk P w K mg base (CX1 P w) (k + 1) f fd [sn] (Za7 K) := by
 refine F.okX S (fun vs H Q E h => ?_) fun cdv A outer s H vs Q E hr hA hsp => ?_
 ·obtain ⟨sc, ns, rfl, _⟩ := h
  rfl
 ·obtain ⟨sc, ns, rfl, hs, hl, kq⟩ := hsp
  obtain ⟨t1, p1, d1⟩ := hpr cdv A outer s H E hr hA
  have rs0 : RBs (wd0 K mg) H H [false] [.scr ns] [.ref sc] := ⟨by rw [RU]; exact ⟨sc, rfl, hs⟩, trivial⟩
  have S0 := Sr.start (m := ⟨[], []⟩) (N := N) (ω := ⟨[], []⟩) (fun ψ ψ h => h : Same H H) ⟨trivial, fun b hb => absurd hb (by simp [wd0])⟩ rs0 (fun i h => by
   match i, h with
   | 0, h => cases h
   | i + 1, h => simp at h) (fun i h => by simp at h) (by simp; lia)
  refine ⟨tSeq t1 (fun D σ H' => ∃ t, PSs (cxOf (CX1 P w) P w K mg base N qual (Z05 st) f cdv A outer s H E) rest t /\ t D σ H'), ?_, ?_⟩
  ·rw [hb]
   exact Z51 (p1 ()) fun pins s σ H D I ⟨t, p, h⟩ => p pins s σ H D I h
  ·refine d1 H H _ ⟨[], []⟩ _ H H _ S0 (Ext.refl fun ψ ψ h => h) _ ?_
   have e0 : sSet 1 (Z0h Fp (Z01 (eVar 0) aNil)) ([U.scr ns].map some ++ List.replicate (N.length - [U.scr ns].length) none) ⟨[], []⟩ = .nx (some (.scr ns) :: some (.lst (.scr ns :: cells.map U.int)) :: List.replicate (N.length - 2) none) ⟨[], []⟩ := by
    obtain ⟨n, hn⟩ : ∃ n, N.length = n + 2 := ⟨N.length - 2, by lia⟩
    rw [hn]
    show Fl.of ((Res.ok [U.scr ns] ⟨[], []⟩).bnd Fp) _ = _
    rw [Res.bnd_ok, hFp]
    simp [Fl.of, List.replicate_succ]
   rw [e0]
   intro σ' Hc' H' ow' S1 x1
   obtain ⟨v, q1, r1⟩ := S1.cl 1 _ (by simp) (by simp) rfl
   rw [RU] at r1
   obtain ⟨a, vs, rfl, ha, r2⟩ := r1
   rw [RUs] at r2
   obtain ⟨v2, vr, rfl, r3, r4⟩ := r2
   rw [RU] at r3
   obtain ⟨sc', rfl, hsc⟩ := r3
   have := r4.ints; subst this
   have ha' := S1.sub _ _ ha
   have hsc' : SqL K H' sc' (ns.map V.int) := S1.sub.seq hsc
   obtain ⟨L, aL, okL, scL⟩ : ∃ L : List Addr, a ∈ L /\ (∀ b ∈ L, H' b ≠ none) /\ (H' sc' ≠ none -> sc' ∈ L) := by
    by_cases z : H' sc' = none
    ·exact ⟨[a], by simp, fun b hb => by rw [List.mem_singleton.mp hb, ha']; simp, fun h => absurd z h⟩
    ·refine ⟨[a, sc'], by simp, fun b hb => ?_, fun ψ => by simp⟩
     rcases List.mem_cons.mp hb with h | h
     ·rw [h, ha']; simp
     ·rw [List.mem_singleton.mp h]; exact z
   have pw := Znp (K := K) (mg := mg) aL
   obtain ⟨t2, p2, d2⟩ := hbody cdv A outer s H E (wdP K mg a L) rfl rfl pw hr hA
   have hpl : (wdP K mg a L).pl ⟨ns, cells⟩ H' := by
    refine ⟨aL, sc', ha', ?_⟩
    have key : ∀ o, H' sc' = some o -> Hr L H' sc' = some o := fun o ho => by
     unfold Hr; rw [if_pos (scL (by rw [ho]; simp))]; exact ho
    rcases hsc' with (q | ⟨o, q⟩) | q
    ·exact .inl (.inl (key _ q))
    ·exact .inl (.inr ⟨o, key _ q⟩)
    ·exact .inr q
   have len' : σ'.length = N.length := by
    have := S1.len
    rw [<- this]; simp; lia
   obtain ⟨ω', hw⟩ := hlaw ns hl
   have cl0 : ∀ (j : Nat) (u : U), (none :: some U.pile :: List.replicate (N.length - 2) none : En)[j]? = some (some u) -> j = 1 /\ u = .pile := fun j u hj => by
    match j, hj with
    | 0, hj => simp at hj
    | 1, hj => simp at hj; exact ⟨rfl, hj.symm⟩
    | j + 2, hj =>
     simp only [List.getElem?_cons_succ] at hj
     rw [List.getElem?_replicate] at hj
     split at hj <;> cases hj
   refine ⟨t2, p2 (), d2 H' (fun ψ => none) (none :: some .pile :: List.replicate (N.length - 2) none) ⟨ns, cells⟩ σ' (fun ψ => none) H' (fun ψ => 0) ?_ ?_ _ ?_⟩
   ·refine ⟨fun b o h => (by cases h), fun b o ψ h => h, fun b hb => okL b hb, by rw [len']; simp; lia, ⟨hpl, fun b hb => ⟨rfl, okL b hb⟩⟩, fun j u ψ ψ hj => ?_, fun j u ψ ψ hj => ?_, fun j u hm hj => ?_, fun i j u u' hi hj ne h1 h2 => ?_⟩
    ·obtain ⟨rfl, rfl⟩ := cl0 j u hj
     exact ⟨_, q1, by rw [RU]; rfl⟩
    ·obtain ⟨rfl, rfl⟩ := cl0 j u hj
     exact ⟨_, q1, .inl (by rw [RU]; rfl)⟩
    ·obtain ⟨rfl, rfl⟩ := cl0 j u hj
     exact absurd hm h1M
    ·obtain ⟨rfl, rfl⟩ := cl0 i u h1
     exact absurd hi h1M
   ·exact Ext.refl fun b o h => (by cases h)
   ·revert hw
    cases g (none :: some .pile :: List.replicate (N.length - 2) none) ⟨ns, cells⟩ with
    | rt u ω2 =>
     intro hw v Hc2 H2 ψ ψ rv
     have : u = .bl true := by simp at hw; exact hw.1
     subst this
     rw [RU] at rv; subst rv
     exact kq H2
    | nx ρ2 ω2 => intro hw; simp at hw
    | err c p ω2 => intro hw; simp at hw
    | bk ρ2 ω2 => intro hw; cases hw
    | ct ρ2 ω2 => intro hw; cases hw
    | stk => intro hw; cases hw
theorem Zf2 {k : Nat} {f : Addr} {fd : FuncData} {ps : List Str} (G : FnOk P w K mg base (CX1 P w) k f fd ps (Za7 K)) : FnOk P w K mg base CX0 k f fd ps (Za7 K) := (Zj4 G).imp fun ψ ψ ψ ψ q => q
end
section
variable {i k : Nat} {fa : Ef} {ρ : En} {ω : Om}
theorem ePl_ap : ePl i k ρ ω = match ρ[i]? with
 | some (some .pile) => .of ((ω.rs[k]?).map U.int) ω
 | _ => .stk := rfl
theorem ePlLen_ap : Z6x i ρ ω = match ρ[i]? with
 | some (some .pile) => .ok (.int ω.cs.length) ω
 | _ => .stk := rfl
theorem ePlAt_ap : Zcg i k ρ ω = match ρ[i]? with
 | some (some .pile) => match ω.rs[k]? with
  | some n => .of ((atI ω.cs n).map U.int) ω
  | none => .stk
 | _ => .stk := rfl
theorem sPl_ap : sPl i k fa ρ ω = Fl.of (fa ρ ω) fun u ω1 => match ρ[i]? with
 | some (some .pile) => match u with
  | .int n => if k < ω1.rs.length then .nx ρ ⟨ω1.cs, ω1.rs.set k n⟩ else .stk
  | _ => .stk
 | _ => .stk := rfl
theorem Znq {neg : Bool} {x : Int} {ns : List Int} : uIn neg (.int x) (.tup (ns.map U.int)) = some (.bl (if neg then !decide (x ∈ ns) else decide (x ∈ ns))) := by
 unfold uIn; simp only; rw [Z15]; rfl
theorem Zqv {neg : Bool} {x : Int} {ns : List Int} : uIn neg (.int x) (.lst (ns.map U.int)) = some (.bl (if neg then !decide (x ∈ ns) else decide (x ∈ ns))) := by
 unfold uIn; simp only; rw [Z15]; rfl
end
end L2
set_option maxHeartbeats 1000000
namespace L2
open PySem PySem.Spec PyProof.Rows
def Zf3 : List U -> Option U := fun us => match us with
 | [.int j] => if j - 0 <= 100000 then some (.tup (rngU 0 (j - 0).toNat)) else none
 | [.int i, .int j] => if j - i <= 100000 then some (.tup (rngU i (j - i).toNat)) else none
 | _ => none
theorem uRngT_1 {j : Int} (h1 : j <= 100000) : Zf3 [.int j] = some (.tup (rngU 0 j.toNat)) := by
 unfold Zf3; simp only; rw [if_pos (by lia)]; simp
theorem uRngT_2 {i j : Int} (h4 : j - i <= 100000) : Zf3 [.int i, .int j] = some (.tup (rngU i (j - i).toNat)) := by
 unfold Zf3; simp only; rw [if_pos h4]
def Z3x (i j : Nat) (fa : Ef) : Sf := fun ρ ω => match ρ[i]? with
 | some (some (.lst us)) => match ρ[j]? with
  | some (some (.lst ws)) => Fl.of (fa ρ ω) fun u ω1 => match u with
   | .int k => match ws[k.toNat]? with
    | some w => if 0 <= k /\ us.length < sizeLine /\ ws.length <= sizeLine then .nx ((ρ.set j (some (.lst (ws.eraseIdx k.toNat)))).set i (some (.lst (us ++ [w])))) ω1 else .stk
    | none => .stk
   | _ => .stk
  | _ => .stk
 | _ => .stk
section
variable {W : Wd} {m : Md} {E : XK} {i j : Nat} {ta : TE} {fa : Ef}
theorem RUs.erase {H : Hp} : ∀ {us : List U} {vs : List V} (n : Nat), RUs W H us vs -> RUs W H (us.eraseIdx n) (vs.eraseIdx n)
 | [], _, _, h => by rw [RUs] at h; subst h; exact .nil
 | _ :: us, _, 0, h => by rw [RUs] at h; obtain ⟨v, r, e, q, z⟩ := h; subst e; exact z
 | _ :: us, _, n + 1, h => by rw [RUs] at h; obtain ⟨v, r, e, q, z⟩ := h; subst e; exact .cons q (z.erase n)
theorem Zch {K : L2.Fg} (hi : i ∈ m.M) (hj : j ∈ m.M) (ne : i ≠ j) (ha : DB W m E ta fa) : DS W m E (Z3k (tBM K "list" Z7v (tVar i) (Z3l (tBM K "list" Zba (tVar j) (Z3l ta tNil)) tNil))) (Z3x i j fa) := by
 intro H0 Hc0 ρ ω σ Hc H ow S x D h
 unfold Z3x at h
 split at h
 ·rename_i us ei
  split at h
  ·rename_i ws ej
   obtain ⟨us0, vs0, z1, z2, z3, z4, z5, z6⟩ := S.muL i _ hi ei
   cases z1
   obtain ⟨ws0, xs0, y1, y2, y3, y4, y5, y6⟩ := S.muL j _ hj ej
   cases y1
   refine ⟨_, z2, .inl ⟨rfl, vs0, .of z3⟩, _, y2, .inl ⟨rfl, xs0, .of y3⟩, ha H0 ρ ω σ Hc H ow S _ ((Cont.of x h).imp fun u ω1 Hc1 H1 e1 p1 k v rv => ?_)⟩
   revert k
   split
   ·rename_i n
    split
    ·rename_i w hw
     split
     ·rename_i c
      intro k
      have := rv.int; subst this
      have S1 := S.ext e1 p1
      have lw : n.toNat < ws.length := (List.getElem?_eq_some_iff.mp hw).1
      have lx : xs0.length = ws.length := y6.len.symm
      obtain ⟨y, hy, ry⟩ := (y6.mono e1.sc).at (i := 0) hw
      have sl : sizeLine = 16777216 := sizeLine_eq
      refine ⟨ow j, xs0, n, n.toNat, y, rfl, rfl, e1.same _ _ (S.nl y5) y3, by lia, by lia, seqIndex_of c.1 (by lia), hy, ?_⟩
      have nd := S.di i j _ _ hi hj ne ei ej
      refine ⟨ow i, vs0, y, rfl, rfl, by rw [Z06 nd]; exact e1.same _ _ (S.nl z5) z3, by rw [<- z6.len]; exact c.2.1, ?_⟩
      have S2 := S1.mut hj ej ((y6.mono e1.sc).erase n.toNat)
      have ei2 : (ρ.set j (some (.lst (ws.eraseIdx n.toNat))))[i]? = some (some (.lst us)) := by rw [List.getElem?_set_ne (Ne.symm ne)]; exact ei
      exact k _ Hc1 _ ow (S2.mut hi ei2 ((z6.mono e1.sc).app (.one ry))) (S2.mutE hi ei2 (S1.mutE hj ej (x.trans e1)))
     ·exact fun k => k.elim
    ·exact fun k => k.elim
   ·exact fun k => k.elim
  ·exact h.elim
 ·exact h.elim
end
theorem Znr {Y : Cx} {K : L2.Fg} {s : Stmt} {T T' : String} {r r' : V -> List V -> Hp -> VK -> Prop} {to to' : TE} {t' : TA} (h : Y.K = K) (q : PS Y s (Z3k (tBM Y.K T r to (Z3l (tBM Y.K T' r' to' t') tNil)))) : PS Y s (Z3k (tBM K T r to (Z3l (tBM K T' r' to' t') tNil))) := h ▸ q
section
variable {ι : Type} {X : L2.FC ι} {W : Wd} {m : Md} {E : XK} {a : Expr} {fa : Ef} {pos p p2 : Pos} {x x2 : Str}
theorem Zci {apos cpos apos2 cpos2 : Pos} (i j : Nat) (cx : Ctx X W E) (ha : QB X W m E a fa) (h2 : i ∈ m.M := by decide) (h3 : j ∈ m.M := by decide) (hij : i ≠ j := by decide) (hN : ∀ y, (X y).N[i]? = some x := by intro ψ; rfl) (hN2 : ∀ y, (X y).N[j]? = some x2 := by intro ψ; rfl) (hv : ∀ y, Vis (X y).env.scope x := by intro ψ; first | exact Or.inl rfl | exact Or.inr (Or.inl rfl) | exact Or.inr (Or.inr rfl)) (hv2 : ∀ y, Vis (X y).env.scope x2 := by intro ψ; first | exact Or.inl rfl | exact Or.inr (Or.inl rfl) | exact Or.inr (Or.inr rfl))
  (hd : (x == ("__debug__" : Str)) = false := by decide) (hcd : (x == ("__classdict__" : Str)) = false := by decide) (hd2 : (x2 == ("__debug__" : Str)) = false := by decide) (hcd2 : (x2 == ("__classdict__" : Str)) = false := by decide)
  (hline : (apos.endLine == cpos.line) = true := by rfl) (hline2 : (apos2.endLine == cpos2.line) = true := by rfl) (hst2 : ∀ y, starEach [a] (X y).env = (false, eval a (X y).env) :: starEach [] (X y).env := by intro ψ; rfl) (hp2 : ∀ y, (backTo cpos2 (starEach [] (X y).env)).any (·.1) = false := by intro ψ; rfl)
  (hst : ∀ y, starEach [.Call (.Attribute (.Name x2 p2) "pop" apos2) [a] [] cpos2] (X y).env = (false, eval (.Call (.Attribute (.Name x2 p2) "pop" apos2) [a] [] cpos2) (X y).env) :: starEach [] (X y).env := by intro ψ; rfl) (hp : ∀ y, (backTo cpos (starEach [] (X y).env)).any (·.1) = false := by intro ψ; rfl)
  (hbase : ∀ y, attributeBase (.Name x p) "append" (X y).env (eval (.Name x p) (X y).env) = eval (.Name x p) (X y).env := by intro ψ; rfl)
  (hbase2 : ∀ y, attributeBase (.Name x2 p2) "pop" (X y).env (eval (.Name x2 p2) (X y).env) = eval (.Name x2 p2) (X y).env := by intro ψ; rfl)
  (hfew : ∀ y, ((backTo cpos (starEach [.Call (.Attribute (.Name x2 p2) "pop" apos2) [a] [] cpos2] (X y).env)).all (fun x => !x.1) && (backToKw cpos (keywordEach [] (X y).env)).all (fun x => x.1.isSome) && decide (([.Call (.Attribute (.Name x2 p2) "pop" apos2) [a] [] cpos2] : List Expr).length + ([] : List Keyword).length + (if ([] : List Keyword).isEmpty then 0 else 1) < 30)) = true := by intro ψ; rfl)
  (hfew2 : ∀ y, ((backTo cpos2 (starEach [a] (X y).env)).all (fun x => !x.1) && (backToKw cpos2 (keywordEach [] (X y).env)).all (fun x => x.1.isSome) && decide (([a] : List Expr).length + ([] : List Keyword).length + (if ([] : List Keyword).isEmpty then 0 else 1) < 30)) = true := by intro ψ; rfl)
  (hs : ∀ y, swapsWith (.Call (.Attribute (.Name x p) "append" apos) [.Call (.Attribute (.Name x2 p2) "pop" apos2) [a] [] cpos2] [] cpos) none pos.line (X y).env = pure false := by intro ψ; rfl) : QS X W m E (.Expr (.Call (.Attribute (.Name x p) "append" apos) [.Call (.Attribute (.Name x2 p2) "pop" apos2) [a] [] cpos2] [] cpos) pos) (Z3x i j fa) :=
 let ⟨_, pa, da⟩ := ha; ⟨_, fun y => Znr (cx.hK y) (Z52 (Zeb PySem.F.plainAttrs_list PySem.F.slot_list_append PySem.F.type_list_append Z6e (Z10 (hN y) (hv y) hd hcd) (Z1y (Zeb PySem.F.plainAttrs_list PySem.F.slot_list_pop PySem.F.type_list_pop Z8p (Z10 (hN2 y) (hv2 y) hd2 hcd2) (Z1y (pa y) Z3m (hst2 y)) (hbase2 y) (hfew2 y) hline2 (hst2 y) (hp2 y)) Z3m (hst y)) (hbase y) (hfew y) hline (hst y) (hp y)) (hs y)), Zch h2 h3 hij da⟩
end
theorem Z3y : ∀ {a b : List Int}, a.Perm b -> a.Pairwise (· <= ·) -> b.Pairwise (· <= ·) -> a = b
 | [], b, p, _, _ => by rw [List.nil_perm.mp p]
 | x :: a, [], p, _, _ => absurd p.length_eq (by simp)
 | x :: a, y :: b, p, ha, hb => by
  have hx := List.pairwise_cons.mp ha
  have hy := List.pairwise_cons.mp hb
  have e : x = y := by
   have m1 : x ∈ y :: b := p.mem_iff.mp (by simp)
   have m2 : y ∈ x :: a := p.mem_iff.mpr (by simp)
   rcases List.mem_cons.mp m1 with h | h
   ·exact h
   ·rcases List.mem_cons.mp m2 with h' | h'
    ·exact h'.symm
    ·exact Int.le_antisymm (hx.1 y h') (hy.1 x h)
  subst e
  rw [Z3y ((List.perm_cons x).mp p) hx.2 hy.2]
def ins (x : Int) : List Int -> List Int
 | [] => [x]
 | y :: ys => if x <= y then x :: y :: ys else y :: ins x ys
def srt : List Int -> List Int
 | [] => []
 | x :: xs => ins x (srt xs)
theorem Z5l (x : Int) : ∀ ys : List Int, (ins x ys).Perm (x :: ys)
 | [] => .refl _
 | y :: ys => by
  unfold ins; split
  ·exact .refl _
  ·exact ((Z5l x ys).cons y).trans (.swap x y ys)
theorem Z28 : ∀ xs : List Int, (srt xs).Perm xs
 | [] => .refl _
 | x :: xs => (Z5l x _).trans ((Z28 xs).cons x)
theorem Zgv (x : Int) : ∀ ys : List Int, ys.Pairwise (· <= ·) -> (ins x ys).Pairwise (· <= ·)
 | [], _ => by simp [ins]
 | y :: ys, h => by
  have hy := List.pairwise_cons.mp h
  unfold ins; split
  ·rename_i c
   refine List.pairwise_cons.mpr ⟨fun z hz => ?_, h⟩
   rcases List.mem_cons.mp hz with e | e
   ·rw [e]; exact c
   ·exact Int.le_trans c (hy.1 z e)
  ·rename_i c
   refine List.pairwise_cons.mpr ⟨fun z hz => ?_, Zgv x ys hy.2⟩
   rcases List.mem_cons.mp ((Z5l x ys).mem_iff.mp hz) with e | e
   ·rw [e]; lia
   ·exact hy.1 z e
theorem Zcj : ∀ xs : List Int, (srt xs).Pairwise (· <= ·)
 | [] => .nil
 | x :: xs => Zgv x _ (Zcj xs)
theorem Zns {a b : List Int} (p : a.Perm b) (h : a.Pairwise (· <= ·)) : a = srt b := Z3y (p.trans (Z28 b).symm) h (Zcj b)
theorem Z37 : ∀ {vs : List Value} {ns : List Int}, IntsAre vs ns -> Vals (ns.map V.int) vs
 | _, _, .nil => .nil
 | _, _, .cons n t h => .cons ⟨t, rfl⟩ (Z37 h)
theorem Z4u {prog : Program} {w : World} {A : Around} {E : L2.VSP} {I : Addr} {fp wr : List Addr} {n : Nat} {P : Nat -> Value -> Prop} {St : Nat -> Heap -> Prop} (W : Walks prog w A I fp wr n P St) : ∀ (k i : Nat) (s : Shared) (Q : List Value -> Shared -> Prop), i + k <= n -> St i s.heap ->
  (∀ (vs : List Value) (h' : Heap) (tk : Nat), vs.length = k -> (∀ (j : Nat) (v : Value), vs[j]? = some v -> P (i + j) v) -> St (i + k) h' -> (∀ (b : Addr) (o : Obj), b ∉ wr -> s.heap.get? b = some o -> h'.get? b = some o) -> Q vs { heap := h', gens := s.gens, drawn := s.drawn, toks := tk, os := s.os }) ->
  wpAny (model prog w) A (draw (.ref I) k) Q E s
 | 0, i, s, Q, _, hs, h => by
  rw [draw.eq_1]
  exact wpAny_pure (h [] s.heap s.toks rfl (fun j v hv => by simp at hv) hs fun b o ψ e => e)
 | k + 1, i, s, Q, hk, hs, h => by
  rw [draw.eq_2]
  refine wpAny_bind (W.item i s _ _ (by lia) hs fun v h1 tk hp hs1 kp => ?_)
  refine wpAny_bind (wpAny_holding (Z4u W k (i + 1) _ _ (by lia) hs1 fun vs h2 tk2 hl hv hs2 kp2 => wpAny_pure ?_))
  refine h (v :: vs) h2 tk2 (by simp [hl]) (fun j x hx => ?_) (by rw [show i + (k + 1) = i + 1 + k by lia]; exact hs2) fun b o hb e => kp2 b o hb (kp b o hb e)
  cases j with
  | zero => simp at hx; subst hx; exact hp
  | succ j => have := hv j x (by simpa using hx); rw [show i + (j + 1) = i + 1 + j by lia]; exact this
theorem Z3c {prog : Program} {w : World} {A : Around} {E : L2.VSP} {s : Shared} {l : Addr} {items : Array Value} {Q : List Value -> Shared -> Prop} (hh : A.handled = none) (hl : s.heap.IsList l items)
  (h : ∀ (h' : Heap) (tk : Nat), (∀ (b : Addr) (o : Obj), s.heap.get? b = some o -> h'.get? b = some o) -> Q items.toList { heap := h', gens := s.gens, drawn := s.drawn, toks := tk, os := s.os }) :
  wpAny (model prog w) A (unpackItems (.ref l) items.size none) Q E s := by
 obtain ⟨o, ho, hc, n, hd⟩ := id hl
 have ty : s.TypeIs (.ref l) "list" := ⟨o, ho, hc⟩
 unfold unpackItems
 refine wpAny_bind ?_
 unfold notIterableAtAll
 refine wpAny_bind (wpAny_specialOf ty slot_list_iter.lookup (wpAny_pure ?_))
 simp only [Bool.false_eq_true, if_false]
 refine wpAny_bind (wpAny_holding (wpAny_pyIter_list hl ?_))
 have ne : l ≠ s.heap.objs.size := Nat.ne_of_lt (Heap.lt_size ho)
 have W := Walks.list (prog := prog) (w := w) (A := A) hh s.heap.objs.size l ne items
 refine wpAny_bind (wpAny_holding (Z4u W items.size 0 _ _ (by lia) ⟨?_, ?_⟩ fun vs h1 tk1 hl1 hv hs1 kp1 => ?_))
 ·exact ⟨_, Heap.get?_push_size _ rfl, rfl, rfl⟩
 ·exact ⟨o, Heap.get?_push_of_some _ ho, hc, n, hd⟩
 ·have ev : vs = items.toList := by
   apply List.ext_getElem?
   intro j
   by_cases c : j < vs.length
   ·have := hv j vs[j] (by simp [c])
    rw [Nat.zero_add] at this
    rw [List.getElem?_eq_getElem c, Array.getElem?_toList, this]
   ·rw [List.getElem?_eq_none (by lia), List.getElem?_eq_none (by simp; lia)]
  subst ev
  rw [if_neg (by simp)]
  refine wpAny_bind (wpAny_holding (W.done _ _ _ (by simpa using hs1) fun h2 tk2 kp2 => ?_))
  simp only [Option.isSome_none, Bool.false_eq_true, if_false]
  refine wpAny_pure (h h2 tk2 fun b o' e => ?_)
  have lb : b ∉ [s.heap.objs.size] := fun z => Nat.ne_of_lt (Heap.lt_size e) (List.mem_singleton.mp z)
  exact kp2 b o' lb (kp1 b o' lb (Heap.get?_push_of_some _ e))
def gLst (K : L2.Fg) (n : Nat) (t : TGs) : TG := fun v σ H Q => ∃ a xs, v = .ref a /\ SqL K H a xs /\ xs.length = n /\ t xs σ H Q
theorem Znt {X : Cx} {K : L2.Fg} {es : List Expr} {k : Nat} {t : TGs} {n : Nat} {pos : Pos} (hK : X.K = K) (hc : X.calm = true) (h : PGs X es t) (hn : (assignEach es X.env).length = n := by rfl) (hst : (assignEach es X.env).findIdx? (·.1) = none := by rfl) : PG X (.Tuple es k pos) (gLst K n t) := by
 subst hK
 intro pins s σ H v u Q I r hw
 obtain ⟨a, xs, e1, hq, hl, hw⟩ := hw
 subst e1
 cases r
 obtain ⟨its, rv, pl, hz⟩ := I.list hq
 have hlen := rv.length
 rw [PyProof.Rows.assign_Tuple]
 refine wpAny_bind (wpAny_standAt ?_)
 unfold unpack
 rw [hst, show (assignEach es X.env).length = its.toArray.size by simp [hn, <- hl, hlen]]
 refine wpAny_bind (wpAny_holding (Z3c (I.ok.hd hc) pl.isList fun h' tk kp => ?_))
 have I1 : Inv X pins σ H { s with heap := h', toks := tk } := I.kept kp
 exact h pins _ σ H xs _ Q I1 (by simpa using rv) hw
def aLst (n : Nat) (b : List U -> En -> Option En) : U -> En -> Option En := fun u ρ => match u with
 | .lst us => if us.length = n then b us ρ else none
 | _ => none
theorem aLst_ap {n : Nat} {b : List U -> En -> Option En} {us : List U} {ρ : En} : aLst n b (.lst us) ρ = if us.length = n then b us ρ else none := rfl
theorem Znu {W : Wd} {m : Md} {n : Nat} {K : L2.Fg} {gg : TGs} {b : List U -> En -> Option En} (h2 : DGs W m gg b) : DG W m (gLst K n gg) (aLst n b) := fun H0 ρ ω σ Hc H ow u v ρ' S r e Q k => by
 unfold aLst at e
 split at e
 ·split at e
  ·rw [RU] at r
   obtain ⟨a, vs, rfl, h1, r1⟩ := r
   exact ⟨a, vs, rfl, .of (S.sub _ _ h1), by rw [<- r1.len]; assumption, h2 H0 ρ ω σ Hc H ow _ vs ρ' S r1 e Q k⟩
  ·cases e
 ·cases e
section
variable {ι : Type} {X : L2.FC ι} {W : Wd} {m : Md} {E : XK} {es : List Expr} {pos : Pos}
theorem Znv {n k : Nat} {v : List U -> En -> Option En} (cx : Ctx X W E) (h2 : QGs X W m es v) (hn : ∀ y, (assignEach es (X y).env).length = n := by intro ψ; rfl) (hst : ∀ y, (assignEach es (X y).env).findIdx? (·.1) = none := by intro ψ; rfl) : QG X W m (.Tuple es k pos) (aLst n v) :=
 let ⟨_, p2, d2⟩ := h2; ⟨_, fun y => Znt (cx.hK y) (cx.calm y) (p2 y) (hn y) (hst y), Znu d2⟩
end
abbrev TY := Ends -> XK -> St -> Hp -> Prop
def excG (e C : Addr) (od : Option Addr) : HO := .ext fun h => ∃ o, h.get? e = some o /\ o.cls = .ref C /\ o.dict = od /\ PySem.W.notCls o = true
def Zj8 (W : Wd) (m : Md) (E : XK) (Hc0 H0 Hc H : Hp) (D : Ends) (r : Fl) : Prop := match r with
 | .err c pl ω' => ∀ C od Hc' H', Ext W Hc H Hc' H' -> PlOk W ω' Hc' H' -> W.mg c = some (.ref C) -> XR Hc' pl od -> E (.ref C) od H'
 | .nx ρ' ω' => Cont W m E Hc0 H0 D (.nx ρ' ω')
 | .bk ρ' ω' => Cont W m E Hc0 H0 D (.bk ρ' ω')
 | .ct ρ' ω' => Cont W m E Hc0 H0 D (.ct ρ' ω')
 | .rt u ω' => Cont W m E Hc0 H0 D (.rt u ω')
 | .stk => False
section
variable {W : Wd} {m : Md} {E : XK}
theorem Zj8.ext {Hc0 H0 Hc H Hc1 H1 : Hp} {D : Ends} {r : Fl} (e : Ext W Hc H Hc1 H1) (h : Zj8 W m E Hc0 H0 Hc H D r) : Zj8 W m E Hc0 H0 Hc1 H1 D r := by
 cases r with
 | err c pl ω => exact fun C od Hc' H' e' => h C od Hc' H' (e.trans e')
 | _ => exact h
end
def ExIn (H : Hp) (e C : Addr) : Prop := ∃ od, H e = some (excG e C od) /\ ∀ d, od = some d -> H d ≠ none
def tbl {α : Type} [DecidableEq α] : List (Str × α × Bool) -> Str -> α -> Option Bool
 | [], _, _ => none
 | (c', b', r) :: l, c, b => if c' = c /\ b' = b then some r else tbl l c b
def XN (K : L2.Fg) (mg : L2.SV) : List (Str × Str × Bool) -> Prop
 | [] => True
 | (c, b, r) :: l => (∃ C B, mg c = some (.ref C) /\ mg b = some (.ref B) /\ ExcK K C /\ PySem.W.kitOne K (.ref C) (.ref B) = some r) /\ XN K mg l
def XT (K : L2.Fg) (mg : L2.SV) : List (Str × String × Bool) -> Prop
 | [] => True
 | (c, b, r) :: l => (∃ C, mg c = some (.ref C) /\ ExcK K C /\ PySem.W.kitOne K (.ref C) (.type b) = some r) /\ XT K mg l
theorem XN.of {K : L2.Fg} {mg : L2.SV} : ∀ {l : List (Str × Str × Bool)} {c b : Str} {r : Bool}, XN K mg l -> tbl l c b = some r -> ∃ C B, mg c = some (.ref C) /\ mg b = some (.ref B) /\ ExcK K C /\ PySem.W.kitOne K (.ref C) (.ref B) = some r
 | [], _, _, _, _, e => by cases e
 | (c', b', r') :: l, c, b, r, h, e => by
  unfold tbl at e
  split at e
  ·rename_i z; cases e; obtain ⟨rfl, rfl⟩ := z; exact h.1
  ·exact XN.of h.2 e
theorem XT.of {K : L2.Fg} {mg : L2.SV} : ∀ {l : List (Str × String × Bool)} {c : Str} {b : String} {r : Bool}, XT K mg l -> tbl l c b = some r -> ∃ C, mg c = some (.ref C) /\ ExcK K C /\ PySem.W.kitOne K (.ref C) (.type b) = some r
 | [], _, _, _, _, e => by cases e
 | (c', b', r') :: l, c, b, r, h, e => by
  unfold tbl at e
  split at e
  ·rename_i z; cases e; obtain ⟨rfl, rfl⟩ := z; exact h.1
  ·exact XT.of h.2 e
section
variable {W : Wd}
theorem RB.exc {Hc H : Hp} {c : Str} {pl : Option Int} {v : V} (s : Same Hc H) (h : RB W Hc H (.exc c pl) v) : ∃ e C, v = .ref e /\ W.mg c = some (.ref C) /\ ExIn H e C := by
 rcases h with h | ⟨_, _, _, _, _, e⟩
 ·cases pl with
  | none => rw [RU] at h; obtain ⟨a, C, rfl, hm, q⟩ := h; exact ⟨a, C, rfl, hm, none, s _ _ q, fun d z => by cases z⟩
  | some n => rw [RU] at h; obtain ⟨a, C, d, rfl, hm, q, q2⟩ := h; exact ⟨a, C, rfl, hm, some d, s _ _ q, fun d' z => by cases z; rw [s _ _ q2]; simp⟩
 ·cases e
end
structure Ctw {ι : Type} (X : L2.FC ι) (W : Wd) : Prop where
 hK : ∀ x, (X x).K = W.K
 hm : ∀ x, (X x).mg = W.mg
section
variable {ι : Type} {X : L2.FC ι} {W : Wd} {E : XK}
theorem Ctx.w (cx : Ctx X W E) : Ctw X W := ⟨cx.hK, cx.hm⟩
theorem Ctx.nox (cx : Ctx X W E) : Ctx (fun y => (X y).nox) W E0 := ⟨cx.hK, cx.hm, cx.calm, cx.hu, fun ψ ψ ψ ψ ψ ψ ψ ψ h => by obtain ⟨_, _, _, _, _, _, _, _, _, _, q⟩ := h; exact q.elim⟩
end
def XC (K : L2.Fg) (mg : L2.SV) (B : Addr) : List Str -> Prop
 | [] => True
 | c :: l => (∃ C, mg c = some (.ref C) /\ PySem.W.exmOne K (.ref C) (.ref B) = some true) /\ XC K mg B l
theorem XC.of {K : L2.Fg} {mg : L2.SV} {B : Addr} : ∀ {l : List Str}, XC K mg B l -> ∀ c ∈ l, ∀ C, mg c = some (.ref C) -> PySem.W.exmOne K (.ref C) (.ref B) = some true
 | [], _, c, hc, _, _ => by cases hc
 | d :: l, h, c, hc, C, hm => by
  rcases List.mem_cons.mp hc with rfl | hc
  ·obtain ⟨C', hm', k⟩ := h.1
   rw [hm] at hm'; cases hm'; exact k
  ·exact XC.of h.2 c hc C hm
theorem Z1m {ns : List Int} {k : Int} (h0 : 0 <= k) (h1 : k < ns.length) : atI (ns.map U.int) k = some (.int (ns.getD k.toNat 0)) := by
 obtain ⟨n, rfl⟩ : ∃ n : Nat, k = n := ⟨k.toNat, by lia⟩
 have l : n < ns.length := by lia
 rw [Z2m, List.getElem?_map, List.getElem?_eq_getElem l]
 simp [List.getD, l]
section
variable {a b c d e f g h i j : Int} {k : Int}
theorem atI_i2 (h0 : 0 <= k) (h1 : k < 2) : atI [U.int a, .int b] k = some (.int (([a, b] : List Int).getD k.toNat 0)) := Z1m (ns := [a, b]) h0 h1
theorem atI_i3 (h0 : 0 <= k) (h1 : k < 3) : atI [U.int a, .int b, .int c] k = some (.int (([a, b, c] : List Int).getD k.toNat 0)) := Z1m (ns := [a, b, c]) h0 h1
theorem atI_i4 (h0 : 0 <= k) (h1 : k < 4) : atI [U.int a, .int b, .int c, .int d] k = some (.int (([a, b, c, d] : List Int).getD k.toNat 0)) := Z1m (ns := [a, b, c, d]) h0 h1
theorem atI_i5 (h0 : 0 <= k) (h1 : k < 5) : atI [U.int a, .int b, .int c, .int d, .int e] k = some (.int (([a, b, c, d, e] : List Int).getD k.toNat 0)) := Z1m (ns := [a, b, c, d, e]) h0 h1
theorem atI_i6 (h0 : 0 <= k) (h1 : k < 6) : atI [U.int a, .int b, .int c, .int d, .int e, .int f] k = some (.int (([a, b, c, d, e, f] : List Int).getD k.toNat 0)) := Z1m (ns := [a, b, c, d, e, f]) h0 h1
theorem atI_i7 (h0 : 0 <= k) (h1 : k < 7) : atI [U.int a, .int b, .int c, .int d, .int e, .int f, .int g] k = some (.int (([a, b, c, d, e, f, g] : List Int).getD k.toNat 0)) := Z1m (ns := [a, b, c, d, e, f, g]) h0 h1
theorem atI_i8 (h0 : 0 <= k) (h1 : k < 8) : atI [U.int a, .int b, .int c, .int d, .int e, .int f, .int g, .int h] k = some (.int (([a, b, c, d, e, f, g, h] : List Int).getD k.toNat 0)) := Z1m (ns := [a, b, c, d, e, f, g, h]) h0 h1
theorem atI_i10 (h0 : 0 <= k) (h1 : k < 10) : atI [U.int a, .int b, .int c, .int d, .int e, .int f, .int g, .int h, .int i, .int j] k = some (.int (([a, b, c, d, e, f, g, h, i, j] : List Int).getD k.toNat 0)) := Z1m (ns := [a, b, c, d, e, f, g, h, i, j]) h0 h1
end
theorem Zqw {n : Nat} {k : Int} (h0 : 0 <= k) (h1 : k < n) : ixN n k = some k.toNat := by
 unfold ixN; rw [if_pos h0, if_pos (by lia)]
theorem uRep_t1 {x : U} {k : Int} (h0 : -10000 <= k) (h1 : k <= 10000) : uRep (.tup [x]) (.int k) = some (.tup (List.replicate k.toNat x)) := by
 show (if -10000 <= k /\ k <= 10000 then some (U.tup (List.replicate k.toNat x)) else none) = _
 rw [if_pos ⟨h0, h1⟩]
theorem uRep_l1 {x : U} {k : Int} (h0 : -10000 <= k) (h1 : k <= 10000) : uRep (.lst [x]) (.int k) = some (.lst (List.replicate k.toNat x)) := by
 show (if -10000 <= k /\ k <= 10000 then some (U.lst (List.replicate k.toNat x)) else none) = _
 rw [if_pos ⟨h0, h1⟩]
structure NdK (K : L2.Fg) (mg : L2.SV) (C S f : Addr) : Prop where
 mS : mg "ScaleError" = some (.ref S)
 lk : ∃ nm qn N bs sn sub ab col dd k0 k1 k2 k3 k5, K.lookup C = some (excClassObj nm qn C N bs [.ref S, .type "ValueError", .type "Exception", .type "BaseException", .type "object"] true sn sub ab col dd k0 k1 k2 k3 k5 "ValueError.__new__")
 ex : PySem.W.excIn K S [.type "ValueError", .type "Exception", .type "BaseException", .type "object"] "ValueError.__new__" = true
 init : PySem.W.findIn K (.ref C) "__init__" = some (some (.ref f))
 fn : PySem.W.isFn K (.ref f) = true
 sa : PySem.W.findIn K (.ref C) "__setattr__" = some (some (.builtin "object.__setattr__"))
 np : PySem.W.findIn K (.ref C) "place" = some none
 rd : PySem.W.readsIn K S (.type "type") = true
 sg : PySem.W.specialIn K (.ref S) "__getattribute__" = some (some (.builtin "type.__getattribute__"))
 fi : PySem.W.findCls K (.ref S) (.type "type") "__init__" = some (.val (.builtin "ValueError.__init__"))
theorem NdK.elim {K : L2.Fg} {mg : L2.SV} {C S f : Addr} {G : Prop} (n : NdK K mg C S f) (k : ∀ nm qn N bs sn sub ab col dd k0 k1 k2 k3 k5, K.lookup C = some (excClassObj nm qn C N bs [.ref S, .type "ValueError", .type "Exception", .type "BaseException", .type "object"] true sn sub ab col dd k0 k1 k2 k3 k5 "ValueError.__new__") -> G) : G := by
 obtain ⟨nm, qn, N, bs, sn, sub, ab, col, dd, k0, k1, k2, k3, k5, lk⟩ := n.lk
 exact k _ _ _ _ _ _ _ _ _ _ _ _ _ _ lk
section
variable {a b : Int} {k : Bool} {us : List U} {ns : List Int} {lo hi : Option Int} {u : U} {ρ : En} {n : Nat} {js : List Nat} {x : Str} {p : Option Int}
theorem asB_r : asB (.bl k) = some k := rfl
theorem asI_r : asI (.int a) = some (some a) := rfl
theorem asSeq_l : Zes (.lst us) = some us := rfl
theorem asSeq_t : Zes (.tup us) = some us := rfl
theorem uSub_r : uSub (.int a) (.int b) = some (.int (a - b)) := rfl
theorem uNeg_r : uNeg (.int a) = some (.int (-a)) := rfl
theorem uLt_r : uLt (.int a) (.int b) = some (.bl (decide (a < b))) := rfl
theorem uGt_r : uGt (.int a) (.int b) = some (.bl (decide (b < a))) := rfl
theorem uGe_r : uGe (.int a) (.int b) = some (.bl (decide (b <= a))) := rfl
theorem uIs_r : uIs k u .non = some (.bl (if k then !Z2y u else Z2y u)) := by cases u <;> rfl
theorem isNon_n : Z2y .non = true := rfl
theorem isNon_i : Z2y (.int a) = false := rfl
theorem isNon_b : Z2y (.bl k) = false := rfl
theorem isNon_t : Z2y (.tup us) = false := rfl
theorem isNon_l : Z2y (.lst us) = false := rfl
theorem isNon_s : Z2y (.str x) = false := rfl
theorem isNon_x : Z2y (.exc x p) = false := rfl
theorem uLen_l : uLen [.lst us] = some (.int us.length) := rfl
theorem uLen_t : uLen [.tup us] = some (.int us.length) := rfl
theorem uLen_s : uLen [.scr ns] = some (.int ns.length) := rfl
theorem uTuple_l : Z4p [.lst us] = some (.tup us) := rfl
theorem uTuple_t : Z4p [.tup us] = some (.tup us) := rfl
theorem uList_l : Z80 [.lst us] = some (.lst us) := rfl
theorem uList_t : Z80 [.tup us] = some (.lst us) := rfl
theorem uList_s : Z80 [.scr ns] = some (.lst (ns.map U.int)) := rfl
theorem uAbs_r : uAbs [.int a] = some (.int (if a < 0 then -a else a)) := rfl
theorem uInt_i : uInt [.int a] = some (.int a) := rfl
theorem uInt_b : uInt [.bl k] = some (.int (if k then 1 else 0)) := rfl
theorem uIsT_ii : uIsT [.int a, .ty "int"] = some (.bl true) := rfl
theorem uIsT_ib : uIsT [.int a, .ty "bool"] = some (.bl false) := rfl
theorem uIsT_bb : uIsT [.bl k, .ty "bool"] = some (.bl true) := rfl
theorem uIsT_bi : uIsT [.bl k, .ty "int"] = some (.bl true) := rfl
theorem uIsT_tt : uIsT [.tup us, .ty "tuple"] = some (.bl true) := rfl
theorem uIsT_ll : uIsT [.lst us, .ty "list"] = some (.bl true) := rfl
theorem blkU_r : blkU n js ρ = List.replicate n none ++ js.map fun j => (ρ[j]?).getD none := rfl
theorem uSl_l : uSl (.lst us) lo hi = some (.lst (cutG us lo hi)) := rfl
theorem uSl_t : uSl (.tup us) lo hi = some (.tup (cutG us lo hi)) := rfl
theorem uSlL_l : uSlL (.lst us) lo hi = some (.lst (cutG us lo hi)) := rfl
end
section
variable {κ : Type} [DecidableEq κ]
def valV (kvs : List (κ × V)) (k : κ) : Option V := (kvs.find? fun kv => decide (kv.1 = k)).map (·.2)
def putK (kvs : List (κ × V)) (k : κ) (v : V) : List (κ × V) :=
 if (kvs.any fun kv => decide (kv.1 = k)) = true then kvs.map (fun kv => if kv.1 = k then (kv.1, v) else kv) else kvs ++ [(k, v)]
def Z3z (kvs : List (κ × V)) (k : κ) : List (κ × V) := kvs.filter fun kv => decide (kv.1 ≠ k)
theorem Z29 {p : κ × V} {r : List (κ × V)} {k : κ} (e : p.1 = k) : valV (p :: r) k = some p.2 := by simp [valV, List.find?_cons, e]
theorem Z2a {p : κ × V} {r : List (κ × V)} {k : κ} (e : ¬ p.1 = k) : valV (p :: r) k = valV r k := by simp [valV, List.find?_cons, e]
theorem Z90 (k : κ) : ∀ kvs : List (κ × V), (kvs.any fun kv => decide (kv.1 = k)) = (valV kvs k).isSome
 | [] => rfl
 | p :: r => by
  rw [List.any_cons]
  by_cases e : p.1 = k
  ·simp only [Z29 e, decide_eq_true e, Bool.true_or, Option.isSome_some]
  ·rw [Z2a e, decide_eq_false e, Bool.false_or]; exact Z90 k r
theorem Z1u (kvs : List (κ × V)) (k : κ) (v : V) : (putK kvs k v).length <= kvs.length + 1 := by
 unfold putK
 split
 ·rw [List.length_map]; omega
 ·rw [List.length_append, List.length_cons, List.length_nil]; omega
theorem RelO.isSome_eq {o : Option V} {u : Option Value} (r : RelO o u) : o.isSome = u.isSome := by
 cases o with
 | none => cases u with
  | none => rfl
  | some _ => exact (show False from r).elim
 | some _ => cases u with
  | none => exact (show False from r).elim
  | some _ => rfl
theorem RelO.getD {o : Option V} {u : Option Value} {d : V} {d' : Value} (r : RelO o u) (rd : RelV d d') : RelV (o.getD d) (u.getD d') := by
 cases o with
 | none => cases u with
  | none => exact rd
  | some _ => exact (show False from r).elim
 | some _ => cases u with
  | none => exact (show False from r).elim
  | some _ => exact r
theorem KV.val {kvs : List (κ × V)} {vs : List (κ × Value)} (r : KV kvs vs) (k : κ) : RelO (valV kvs k) (valueAt vs k) := by
 unfold KV at r
 induction r with
 | nil => exact True.intro
 | @cons p q ps qs h t ih =>
  obtain ⟨h1, h2⟩ := h
  by_cases e : p.1 = k
  ·have e' : q.1 = k := h1.symm.trans e
   have b : valueAt (q :: qs) k = some q.2 := by simp [valueAt, List.find?_cons, e']
   rw [Z29 e, b]; exact h2
  ·have e' : ¬ q.1 = k := fun z => e (h1.trans z)
   have b : valueAt (q :: qs) k = valueAt qs k := by simp [valueAt, List.find?_cons, e']
   rw [Z2a e, b]; exact ih
theorem KV.any {kvs : List (κ × V)} {vs : List (κ × Value)} (r : KV kvs vs) (k : κ) : (kvs.any fun kv => decide (kv.1 = k)) = vs.any fun kv => decide (kv.1 = k) := by
 unfold KV at r
 induction r with
 | nil => rfl
 | cons h t ih => rw [List.any_cons, List.any_cons, ih, h.1]
theorem KV.repl {kvs : List (κ × V)} {vs : List (κ × Value)} (r : KV kvs vs) (k : κ) {y : V} {u : Value} (ry : RelV y u) :
  KV (kvs.map fun kv => if kv.1 = k then (kv.1, y) else kv) (vs.map fun kv => if kv.1 = k then (kv.1, u) else kv) := by
 unfold KV at r ⊢
 induction r with
 | nil => exact .nil
 | @cons p q ps qs h t ih =>
  rw [List.map_cons, List.map_cons]
  refine .cons ?_ ih
  obtain ⟨h1, h2⟩ := h
  by_cases e : p.1 = k
  ·rw [if_pos e, if_pos (h1.symm.trans e)]; exact ⟨h1, ry⟩
  ·rw [if_neg e, if_neg (fun z => e (h1.trans z))]; exact ⟨h1, h2⟩
theorem KV.put {kvs : List (κ × V)} {vs : List (κ × Value)} (r : KV kvs vs) (k : κ) {y : V} {u : Value} (ry : RelV y u) : KV (putK kvs k y) (stored vs k u) := by
 unfold putK stored
 rw [r.any k]
 by_cases e : (vs.any fun kv => decide (kv.1 = k)) = true
 ·rw [if_pos e, if_pos e]; exact r.repl k ry
 ·rw [if_neg e, if_neg e]; exact Paired.snoc r ⟨rfl, ry⟩
theorem KV.drop {kvs : List (κ × V)} {vs : List (κ × Value)} (r : KV kvs vs) (k : κ) : KV (Z3z kvs k) (without vs k) := by
 unfold KV at r ⊢
 unfold Z3z without
 induction r with
 | nil => exact .nil
 | @cons p q ps qs h t ih =>
  obtain ⟨h1, h2⟩ := h
  rw [List.filter_cons, List.filter_cons]
  by_cases e : p.1 = k
  ·have a : ¬ decide (p.1 ≠ k) = true := by simp [e]
   have b : ¬ decide (q.1 ≠ k) = true := by simp [h1.symm.trans e]
   rw [if_neg a, if_neg b]; exact ih
  ·have e' : ¬ q.1 = k := fun z => e (h1.trans z)
   have a : decide (p.1 ≠ k) = true := by simp [e]
   have b : decide (q.1 ≠ k) = true := by simp [e']
   rw [if_pos a, if_pos b]; exact .cons ⟨h1, h2⟩ ih
theorem KV.keys {kvs : List (κ × V)} {vs : List (κ × Value)} (r : KV kvs vs) : kvs.map (·.1) = vs.map (·.1) := by
 unfold KV at r
 induction r with
 | nil => rfl
 | cons h t ih => rw [List.map_cons, List.map_cons, ih, h.1]
theorem KV.length {kvs : List (κ × V)} {vs : List (κ × Value)} (r : KV kvs vs) : kvs.length = vs.length := Paired.length r
theorem Z91 (kvs : List (κ × V)) (k : κ) : (Z3z kvs k).length <= kvs.length := List.length_filter_le _ _
end
theorem Z5m {P : Program} {w : World} {k : Key} {u : Value} (r : RelV (kV k) u) : (Z0b P w).is k u = true := by
 cases k with
 | inl i => obtain ⟨t, e⟩ := (show ∃ t, u = Value.int i t from r); subst e; exact Z7r P w i t
 | inr x => obtain ⟨t, e⟩ := (show ∃ t, u = Value.str x t from r); subst e; exact Z7s P w x t
theorem Z6y {P : Program} {w : World} : ∀ {ks : List Key} {us : List Value}, Vals (ks.map kV) us -> ItemsAre (Z0b P w) ks us
 | [], _, r => by rw [List.map_nil] at r; cases r; exact .nil
 | k :: ks, _, r => by
  rw [List.map_cons] at r
  cases r with
  | cons h t => exact .cons (Z5m h) (Z6y t)
abbrev KT (H : Hp) : List (List Key × V) -> List (List Key × Addr × Value) -> Prop := Paired fun p q => p.1 = q.1 /\ H q.2.1 = some (.tup (p.1.map kV)) /\ RelV p.2 q.2.2
theorem KT.val {H : Hp} {kvs : List (List Key × V)} {xs : List (List Key × Addr × Value)} (r : KT H kvs xs) (k : List Key) : RelO (valV kvs k) ((atKey xs k).map (·.2)) := by
 induction r with
 | nil => exact True.intro
 | @cons p q ps qs h t ih =>
  obtain ⟨h1, _, h2⟩ := h
  by_cases e : p.1 = k
  ·have e' : q.1 = k := h1.symm.trans e
   have b : atKey (q :: qs) k = some q.2 := by simp [atKey, List.find?_cons, e']
   rw [Z29 e, b]; exact h2
  ·have e' : ¬ q.1 = k := fun z => e (h1.trans z)
   have b : atKey (q :: qs) k = atKey qs k := by simp [atKey, List.find?_cons, e']
   rw [Z2a e, b]; exact ih
theorem KT.repl {H : Hp} {kvs : List (List Key × V)} {xs : List (List Key × Addr × Value)} (r : KT H kvs xs) (k : List Key) {y : V} {u : Value} (ry : RelV y u) :
  KT H (kvs.map fun kv => if kv.1 = k then (kv.1, y) else kv) (xs.map (putAt k u)) := by
 induction r with
 | nil => exact .nil
 | @cons p q ps qs h t ih =>
  rw [List.map_cons, List.map_cons]
  refine .cons ?_ ih
  obtain ⟨h1, h2, h3⟩ := h
  unfold putAt
  by_cases e : p.1 = k
  ·rw [if_pos e, if_pos (h1.symm.trans e)]; exact ⟨h1, h2, ry⟩
  ·rw [if_neg e, if_neg (fun z => e (h1.trans z))]; exact ⟨h1, h2, h3⟩
theorem KT.put {H : Hp} {kvs : List (List Key × V)} {xs : List (List Key × Addr × Value)} (r : KT H kvs xs) (k : List Key) {b : Addr} {y : V} {u : Value} (hb : H b = some (.tup (k.map kV))) (ry : RelV y u) :
  KT H (putK kvs k y) (storedH xs k b u) := by
 have e : (kvs.any fun kv => decide (kv.1 = k)) = (atKey xs k).isSome := by
  rw [Z90, (r.val k).isSome_eq, Option.isSome_map]
 unfold putK storedH
 rw [e]
 by_cases q : (atKey xs k).isSome = true
 ·rw [if_pos q, if_pos q]; exact r.repl k ry
 ·rw [if_neg q, if_neg q]; exact Paired.snoc r ⟨rfl, hb, ry⟩
theorem KT.keeps {H H' : Hp} {kvs : List (List Key × V)} {xs : List (List Key × Addr × Value)} (r : KT H kvs xs) (ht : ∀ b ys, H b = some (.tup ys) -> H' b = some (.tup ys)) : KT H' kvs xs :=
 Paired.mapP r fun ψ ψ z => ⟨z.1, ht _ _ z.2.1, z.2.2⟩
section
variable {P : Program} {w : World} {H : Hp} {h : Heap} {a : Addr}
theorem Znw {u : HO} (ok : HOk P w H h) (e : Rd H a u) : Z0r P w H h a u := e.ok ok
theorem Z6z {kvs : List (Key × V)} (ok : HOk P w H h) (e : Rd H a (.dK kvs)) : kvs.length <= sizeLine /\ (a == sysModules) = false /\ ∃ vs, KV kvs vs /\ h.DictOf (Z0b P w) a vs :=
 show Z0r P w H h a (.dK kvs) from Znw ok e
theorem Zf4 {kvs : List (Key × V)} (ok : HOk P w H h) (e : H a = some (.dK kvs)) : kvs.length <= sizeLine /\ (a == sysModules) = false /\ ∃ vs, KV kvs vs /\ h.DictOf (Z0b P w) a vs := Z6z ok (.inl e)
theorem Z70 {ks : List Key} (ok : HOk P w H h) (e : H a = some (.tup (ks.map kV))) : (tupleKind (Z0b P w)).is h ks a := by
 obtain ⟨_, its, r, o, h1, h2, n, h3⟩ := (show Z0r P w H h a (.tup (ks.map kV)) from ok a _ e)
 exact ⟨o, its.toArray, n, h1, h2, h3, by simpa using Z6y r⟩
theorem Za9 {kvs : List (List Key × V)} (ok : HOk P w H h) (e : Rd H a (.dT kvs)) : kvs.length <= sizeLine /\ (a == sysModules) = false /\
  ∃ xs, KT H kvs xs /\ h.DictOfH (tupleKind (Z0b P w)) a xs := by
 obtain ⟨z, y, xs, r, o, es, ep, h1, h2, h3, h4, h5⟩ := (show Z0r P w H h a (.dT kvs) from Znw ok e)
 refine ⟨z, y, xs, r, o, es, ep, h1, h2, h3, h4, fun x hx => ?_, h5⟩
 have all : ∀ {l : List (List Key × V)} {m : List (List Key × Addr × Value)}, KT H l m -> ∀ x ∈ m, (tupleKind (Z0b P w)).is h x.1 x.2.1 := by
  intro l m q
  induction q with
  | nil => intro x hx; exact nomatch hx
  | @cons p q ps qs hq t ih =>
   intro x hx
   rcases List.mem_cons.mp hx with e | hx
   ·subst e
    exact Z70 ok (by rw [<- hq.1]; exact hq.2.1)
   ·exact ih x hx
 exact all r x hx
theorem Zqx {kvs : List (List Key × V)} (ok : HOk P w H h) (e : H a = some (.dT kvs)) : kvs.length <= sizeLine /\ (a == sysModules) = false /\
  ∃ xs, KT H kvs xs /\ h.DictOfH (tupleKind (Z0b P w)) a xs := Za9 ok (.inl e)
end
def DGet (H : Hp) (a : Addr) (y : V) (r : Option V) : Prop :=
 (∃ kvs k, Rd H a (.dK kvs) /\ y = kV k /\ r = valV kvs k) \/ ∃ kvs k b, Rd H a (.dT kvs) /\ y = .ref b /\ H b = some (.tup (k.map kV)) /\ r = valV kvs k
def DPut (H : Hp) (a : Addr) (y v : V) (H' : Hp) : Prop :=
 (∃ kvs k, H a = some (.dK kvs) /\ y = kV k /\ kvs.length < sizeLine /\ H' = upd H a (.dK (putK kvs k v))) \/
 ∃ kvs k b, H a = some (.dT kvs) /\ y = .ref b /\ H b = some (.tup (k.map kV)) /\ kvs.length < sizeLine /\ H' = upd H a (.dT (putK kvs k v))
theorem DPut.k {H : Hp} {a : Addr} {kvs : List (Key × V)} {k : Key} {v : V} (e : H a = some (.dK kvs)) (hl : kvs.length < sizeLine) : DPut H a (kV k) v (upd H a (.dK (putK kvs k v))) := .inl ⟨kvs, k, e, rfl, hl, rfl⟩
section
variable {X : Cx} {pins : L2.AO} {σ : St} {H : Hp} {s : Shared} {a : Addr} {y v : V} {u r : Value} {o : Option V} {A : Around} {E : L2.VSP}
theorem Inv.big (I : Inv X pins σ H s) : sysModules < s.heap.objs.size := by
 have h : mainGlobals < s.heap.objs.size := (I.mod.glob.keeps I.bk).lt
 exact Nat.lt_trans (by decide) h
theorem Zck {Q : L2.VSP} (hu : A.units + 1 < cLine) (I : Inv X pins σ H s) (g : DGet H a y (some v)) (ry : RelV y u) (h : ∀ w' s', Inv X pins σ H s' -> RelV v w' -> Q w' s') :
  wpAny (model X.prog X.w) A (getItem (.ref a) u) Q E s := by
 rcases g with ⟨kvs, k, e, ey, l⟩ | ⟨kvs, k, b, e, ey, eb, l⟩
 ·subst ey
  obtain ⟨z, hd, vs, rel, dd⟩ := Z6z I.hok e
  obtain ⟨w', hw, rw'⟩ := RelO.some_of (v := v) (o := valueAt vs k) (by rw [l]; exact rel.val k)
  exact wpAny_getItem_of (Z5m ry) dd.mapOf hw (h w' _ (I.tok _) rw')
 ·subst ey
  cases (show u = Value.ref b from ry)
  obtain ⟨z, hd, xs, rel, dd⟩ := Za9 I.hok e
  obtain ⟨w', hw, rw'⟩ := RelO.some_of (v := v) (o := (atKey xs k).map (·.2)) (by rw [l]; exact rel.val k)
  obtain ⟨p, hp, hp2⟩ := Option.map_eq_some_iff.mp hw
  refine wpAny_getItem_heap (tupleKind_room_in1 hu) (Z70 I.hok eb) dd hp ?_
  rw [hp2]
  exact h w' _ (I.tok _) rw'
theorem Zj9 {Q : L2.VSP} (hu : A.units + 1 < cLine) (I : Inv X pins σ H s) (g : DGet H a y o) (ry : RelV y u) (h : ∀ s', Inv X pins σ H s' -> Q (.bool (!o.isSome)) s') :
  wpAny (model X.prog X.w) A (compareOp .NotIn u (.ref a)) Q E s := by
 rcases g with ⟨kvs, k, e, ey, l⟩ | ⟨kvs, k, b, e, ey, eb, l⟩
 ·subst ey
  obtain ⟨z, hd, vs, rel, dd⟩ := Z6z I.hok e
  refine wpAny_notIn_of (Z5m ry) hd dd.mapOf ?_
  rw [<- (rel.val k).isSome_eq, <- l]
  exact h _ (I.tok _)
 ·subst ey
  cases (show u = Value.ref b from ry)
  obtain ⟨z, hd, xs, rel, dd⟩ := Za9 I.hok e
  refine wpAny_notIn_heap (tupleKind_room_in1 hu) (Z70 I.hok eb) hd dd ?_
  have q := (rel.val k).isSome_eq
  rw [Option.isSome_map] at q
  rw [<- q, <- l]
  exact h _ (I.tok _)
theorem Z23 {h' : Heap} {t' : Nat} {ob : HO} (I : Inv X pins σ H s) (mu : Mut (H a)) (hs : Heap.SameBut a s.heap h') (he : ∃ q, h'.get? a = some q) (new : Z0r X.prog X.w (upd H a ob) h' a ob) :
  Inv X pins σ (upd H a ob) { s with heap := h', toks := t' } :=
 I.write (x := a) (e := a) mu (.inl rfl) (fun b q hb z => (hs.2 b hb).trans z) he new
theorem Z4v {P : Program} {w : World} {H' : Hp} {h' : Heap} {kvs : List (Key × V)} {vs : List (Key × Value)} (z : kvs.length <= sizeLine) (hd : (a == sysModules) = false) (rel : KV kvs vs) (dd : h'.DictOf (Z0b P w) a vs) :
  Z0r P w H' h' a (.dK kvs) := ⟨z, hd, vs, rel, dd⟩
theorem Zcl {H' : Hp} {Q : Unit -> Shared -> Prop} (hu : A.units + 1 < cLine) (I : Inv X pins σ H s) (g : DPut H a y v H') (ry : RelV y u) (rv : RelV v r) (h : ∀ s', Inv X pins σ H' s' -> Q () s') :
  wpAny (model X.prog X.w) A (setItem (.ref a) u r) Q E s := by
 rcases g with ⟨kvs, k, e, ey, l, eH⟩ | ⟨kvs, k, b, e, ey, eb, l, eH⟩
 ·subst ey eH
  obtain ⟨z, hd, vs, rel, dd⟩ := Zf4 I.hok e
  have hz : vs.length <= sizeLine := by rw [<- rel.length]; exact z
  have hl : (putK kvs k v).length <= sizeLine := by have := Z1u kvs k v; omega
  refine wpAny_setItem_pairs (hsz := hz) (Z5m ry) dd fun h' dd' hs => h _ ?_
  have he : ∃ q, h'.get? a = some q := let ⟨q, _, _, hq, _⟩ := dd'; ⟨q, hq⟩
  exact Z23 I (by rw [e]; exact True.intro) hs he (Z4v hl hd (rel.put k rv) dd')
 ·subst ey eH
  cases (show u = Value.ref b from ry)
  obtain ⟨z, hd, xs, rel, dd⟩ := Zqx I.hok e
  have hz : xs.length <= sizeLine := by rw [<- Paired.length rel]; exact z
  have hl : (putK kvs k v).length <= sizeLine := by have := Z1u kvs k v; omega
  refine wpAny_setItem_heap (hsz := hz) (tupleKind_room_in1 hu) (Z70 I.hok eb) dd fun h' dd' hs => h _ ?_
  obtain ⟨q, es, ep, hq, h2, h3, h4, _, h5⟩ := dd'
  refine Z23 I (by rw [e]; exact True.intro) hs ⟨q, hq⟩ ⟨hl, hd, _, (rel.put k eb rv).keeps fun c ys ec => ?_, q, es, ep, hq, h2, h3, h4, h5⟩
  rw [Z06 (Zkn ec e (fun z => nomatch z))]
  exact ec
end
section
variable {X : Cx} {pins : L2.AO} {σ : St} {H : Hp} {s : Shared} {a : Addr} {kvs : List (Key × V)} {k : Key} {u : Value} {A : Around} {E : L2.VSP}
theorem Znx {Q : Unit -> Shared -> Prop} (I : Inv X pins σ H s) (e : H a = some (.dK kvs)) (ry : RelV (kV k) u) (l : (valV kvs k).isSome = true) (h : ∀ s', Inv X pins σ (upd H a (.dK (Z3z kvs k))) s' -> Q () s') :
  wpAny (model X.prog X.w) A (delItem (.ref a) u) Q E s := by
 obtain ⟨z, hd, vs, rel, dd⟩ := Zf4 I.hok e
 refine wpAny_delItem_slot dd.typeIs (by decide) PySem.F.slot_dict_delitem
  (call_meetsIn PySem.F.slot_dict_delitem dd.typeIs PySem.F.entry_dict_delitem (PySem.F.args_dict_delitem_2 _ _) (meets_dict_delitem_pairs (Z0b X.prog X.w) a (Z5m ry)) ⟨vs, dd, by rw [<- rel.length]; exact z, by rw [<- (rel.val k).isSome_eq]; exact l, fun h' dd' hs => h _ ?_⟩)
 have he : ∃ q, h'.get? a = some q := let ⟨q, _, _, hq, _⟩ := dd'; ⟨q, hq⟩
 exact Z23 I (by rw [e]; exact True.intro) hs he (Z4v (Nat.le_trans (Z91 kvs k) z) hd (rel.drop k) dd')
theorem Zqy {v : V} {more : List Value} {Q : L2.VSP} (I : Inv X pins σ H s) (e : H a = some (.dK kvs)) (ry : RelV (kV k) u) (l : valV kvs k = some v) (hm : more = [] \/ ∃ x, more = [x])
  (h : ∀ w' s', Inv X pins σ (upd H a (.dK (Z3z kvs k))) s' -> RelV v w' -> Q w' s') : wpAny (model X.prog X.w) A (call (.builtin "dict.pop") (.ref a :: u :: more)) Q E s := by
 obtain ⟨z, hd, vs, rel, dd⟩ := Zf4 I.hok e
 obtain ⟨w', hw, rw'⟩ := RelO.some_of (v := v) (o := valueAt vs k) (by rw [<- l]; exact rel.val k)
 have hp : (keyPart u).isSome = true := by
  cases k with
  | inl i => obtain ⟨t, q⟩ := (show ∃ t, u = Value.int i t from ry); subst q; rfl
  | inr x => obtain ⟨t, q⟩ := (show ∃ t, u = Value.str x t from ry); subst q; rfl
 have ha : argsOk "dict.pop" ⟨.ref a :: u :: more, []⟩ := by
  rcases hm with q | ⟨x, q⟩
  ·subst q; exact PySem.F.args_dict_pop_2 _ _
  ·subst q; exact PySem.F.args_dict_pop_3 _ _ _
 refine call_meetsIn PySem.F.slot_dict_pop dd.typeIs PySem.F.entry_dict_pop ha (meets_dict_pop_there (Z0b X.prog X.w) a (Z5m ry) more hm hp)
  ⟨vs, w', dd, by rw [<- rel.length]; exact z, hw, fun h' dd' hs => h w' _ ?_ rw'⟩
 have he : ∃ q, h'.get? a = some q := let ⟨q, _, _, hq, _⟩ := dd'; ⟨q, hq⟩
 exact Z23 I (by rw [e]; exact True.intro) hs he (Z4v (Nat.le_trans (Z91 kvs k) z) hd (rel.drop k) dd')
theorem Zqz {Q : L2.VSP} (I : Inv X pins σ H s) (e : Rd H a (.dK kvs)) (h : ∀ t s', Inv X pins σ H s' -> Q (.int kvs.length t) s') : wpAny (model X.prog X.w) A (call (.builtin "len") [.ref a]) Q E s := by
 obtain ⟨z, hd, vs, rel, dd⟩ := Z6z I.hok e
 refine call_len_dict hd dd (by rw [<- rel.length]; rw [sizeLine_eq] at z; omega) ?_
 rw [<- rel.length]
 exact h _ _ (I.tok _)
end
def NoSl (i : Expr) : Prop := ∀ ov iv, subscripted i false ov iv = operate [ov, iv] (getItem ov iv)
theorem Zja {prog : Program} {w : World} {A : Around} {E : L2.VSP} {s : Shared} {env : Env} {value slice : Expr} {pos : Pos} {T id : String} {Q : L2.VSP}
  (hl : typeLookup (.type T) "__getitem__" = pure (some (.builtin id))) (hs : NoSl slice)
  (h : wpAny (model prog w) A (eval value env) (fun o s₁ => wpAny (model prog w) A (eval slice env) (fun i s₂ => s₂.TypeIs o T /\ wpAny (model prog w) A (getItem o i) Q E s₂) E s₁) E s) :
  wpAny (model prog w) A (eval (.Subscript value slice pos) env) Q E s := by
 refine Subscript_ (wpAny_mono h (fun o s₁ h₁ => wpAny_mono h₁ (fun i s₂ h₂ => ?_) fun ψ ψ x => x) fun ψ ψ x => x)
 obtain ⟨hT, h₂⟩ := h₂
 unfold subscriptTail
 refine wpAny_bind ?_
 rw [getitemInPython_of_ne hT.not_modules]
 refine wpAny_bind (wpAny_specialOf hT hl ?_)
 have fin : wpAny (model prog w) A (subscripted slice false o i) (fun r s₃ => wpAny (model prog w) A (letTemporaryGo value o r >>= fun ψ => pure r) Q E s₃) E s₂ := by
  rw [hs o i]
  exact wpAny_operating (wpAny_mono h₂ (fun r s₃ h₃ => wpAny_bind (wpAny_letTemporaryGo (wpAny_pure h₃))) fun ψ ψ x => x)
 first
  | exact wpAny_pure (wpAny_bind fin)
  | exact wpAny_bind (wpAny_pure (wpAny_bind fin))
  | exact wpAny_bind fin
theorem Z84 {X : Cx} {pins : L2.AO} {σ : St} {H : Hp} {s : Shared} {a : Addr} {y : V} {o : Option V} (I : Inv X pins σ H s) (g : DGet H a y o) : s.TypeIs (.ref a) "dict" := by
 rcases g with ⟨kvs, k, e, _, _⟩ | ⟨kvs, k, b, e, _, _, _⟩
 ·obtain ⟨_, _, vs, _, dd⟩ := Z6z I.hok e
  exact dd.typeIs
 ·obtain ⟨_, _, xs, _, dd⟩ := Za9 I.hok e
  exact dd.typeIs
theorem Z92 {P : Program} {w : World} {H : Hp} (h : Heap) (hb : sysModules < h.objs.size) : Z0r P w H (h.push { cls := .type "dict", data := .dict #[] }) h.objs.size (.dK []) :=
 ⟨Nat.zero_le _, beq_eq_false_iff_ne.mpr (Ne.symm (Nat.ne_of_lt hb)), [], .nil, Heap.DictOf.new h⟩
def Zny : TE := fun ψ H Q => ∀ p, H p = none -> Q (.ref p) (upd H p (.dK []))
section
variable {X : Cx} {pos : Pos}
theorem Zf5 : PE X (.Dict [] [] pos) Zny := fun pins s σ H Q I h =>
 wpAny_Dict_empty ⟨.ref s.heap.objs.size, _, I.laid (a := s.heap.objs.size) (o := .dK []) (t' := s.toks) (fun ψ ψ q => Heap.get?_push_of_some _ q) (Nat.le_refl _) (Z92 s.heap I.big), rfl, h _ (I.hok.fresh (Nat.le_refl _))⟩
end
def Zgw : List (TE × TE) -> St -> Hp -> (List (V × V) -> Hp -> Prop) -> Prop
 | [], _, H, Q => Q [] H
 | (tk, tv) :: r, σ, H, Q => tk σ H fun x H1 => tv σ H1 fun y H2 => Zgw r σ H2 fun ps H3 => Q ((x, y) :: ps) H3
abbrev VV : List (V × V) -> List (Value × Value) -> Prop := Paired fun p q => RelV p.1 q.1 /\ RelV p.2 q.2
def PPs (X : Cx) (pos : Pos) (keys : List (Option Expr)) (values : List Expr) (trs : List (TE × TE)) : Prop :=
 ∀ (pins : L2.AO) (s : Shared) (σ : St) (H : Hp) (Q : List (V × V) -> Hp -> Prop), Inv X pins σ H s -> Zgw trs σ H Q ->
  wpAny (model X.prog X.w) X.A (evalPairs (pairTrees keys values X.env pos)) (fun vs s' => ∃ ps H', Inv X pins σ H' s' /\ VV ps vs /\ Q ps H') X.xe s
theorem Zjb {X : Cx} {pos : Pos} : PPs X pos [] [] [] := fun pins s σ H Q I h => pairTrees_nil_walk ⟨[], H, I, .nil, h⟩
theorem Zf6 {X : Cx} {pos : Pos} {k v : Expr} {ks : List (Option Expr)} {vs : List Expr} {tk tv : TE} {trs : List (TE × TE)} (hk : PE X k tk) (hv : PE X v tv) (hr : PPs X pos ks vs trs) :
  PPs X pos (some k :: ks) (v :: vs) ((tk, tv) :: trs) := fun pins s σ H Q I h =>
 pairTrees_cons_walk (thn (hk pins s σ H _ I h) fun u s1 ⟨x, H1, I1, rx, q1⟩ => thn (hv pins s1 σ H1 _ I1 q1) fun w2 s2 ⟨y, H2, I2, ry, q2⟩ =>
  thn (hr pins s2 σ H2 _ I2 q2) fun ws s3 ⟨ps, H3, I3, rel, q3⟩ => ⟨(x, y) :: ps, H3, I3, .cons ⟨rx, ry⟩ rel, q3⟩)
def Zgx (kvs more : List (Key × V)) : List (Key × V) := more.foldl (fun acc kv => putK acc kv.1 kv.2) kvs
theorem KV.merge : ∀ {more : List (Key × V)} {rs : List (Key × Value)} {kvs : List (Key × V)} {vs : List (Key × Value)}, KV more rs -> KV kvs vs -> KV (Zgx kvs more) (merged vs rs) := by
 intro more rs kvs vs r
 unfold KV at r
 induction r generalizing kvs vs with
 | nil => intro q; exact q
 | @cons p q ps qs h t ih =>
  intro r0
  have e : KV (putK kvs p.1 p.2) (stored vs q.1 q.2) := by
   have := r0.put p.1 h.2
   rw [<- h.1]; exact this
  exact ih e
theorem Z4w {P : Program} {w : World} : ∀ {kvs : List (Key × V)} {ws : List (Value × Value)}, VV (kvs.map fun kv => (kV kv.1, kv.2)) ws -> ∃ rs, Carries (Z0b P w) ws rs /\ KV kvs rs
 | [], _, r => by rw [List.map_nil] at r; cases r; exact ⟨[], True.intro, .nil⟩
 | p :: kvs, _, r => by
  rw [List.map_cons] at r
  cases r with
  | @cons a b as bs h t =>
   obtain ⟨rs, c, q⟩ := Z4w (P := P) (w := w) t
   obtain ⟨b1, b2⟩ := b
   exact ⟨(p.1, b2) :: rs, ⟨Z5m h.1, rfl, c⟩, .cons ⟨rfl, h.2⟩ q⟩
structure M1 (X : Cx) (o : Expr) (m : Str) (apos : Pos) (e : Expr) (cpos : Pos) : Prop where
 base : attributeBase o m X.env (eval o X.env) = eval o X.env
 few : ((backTo cpos (starEach [e] X.env)).all (fun x => !x.1) && (backToKw cpos (keywordEach [] X.env)).all (fun x => x.1.isSome)
  && decide (([e] : List Expr).length + ([] : List Keyword).length + (if ([] : List Keyword).isEmpty then 0 else 1) < 30)) = true
 line : (apos.endLine == cpos.line) = true
 trees : backTo cpos (starEach [e] X.env) = [(false, eval e X.env)]
def IsD (H : Hp) (a : Addr) : Prop := (∃ kvs, Rd H a (.dK kvs)) \/ ∃ kvs, Rd H a (.dT kvs)
theorem Zgy {X : Cx} {pins : L2.AO} {σ : St} {H : Hp} {s : Shared} {a : Addr} (I : Inv X pins σ H s) (d : IsD H a) :
  s.TypeIs (.ref a) "dict" /\ (∀ b, Value.ref a = .ref b -> ∃ ob, s.heap.get? b = some ob /\ ob.dict = none) /\ (a == sysModules) = false := by
 rcases d with ⟨kvs, e⟩ | ⟨kvs, e⟩
 ·obtain ⟨_, hd, vs, _, dd⟩ := Z6z I.hok e
  refine ⟨dd.typeIs, fun b q => ?_, hd⟩
  cases q
  obtain ⟨ob, _, _, h1, h2, _⟩ := dd
  exact ⟨ob, h1, h2.2.1⟩
 ·obtain ⟨_, hd, xs, _, dd⟩ := Za9 I.hok e
  refine ⟨dd.typeIs, fun b q => ?_, hd⟩
  cases q
  obtain ⟨ob, _, _, h1, h2, _⟩ := dd
  exact ⟨ob, h1, h2.2.1⟩
section
variable {X : Cx} {pins : L2.AO} {σ : St} {H : Hp} {s : Shared} {a : Addr} {y : V} {u : Value} {o : Option V} {A : Around} {E : L2.VSP}
theorem Znz {Q : L2.VSP} (hu : A.units + 1 < cLine) (I : Inv X pins σ H s) (g : DGet H a y o) (ry : RelV y u) (h : ∀ w' s', Inv X pins σ H s' -> RelV (o.getD .non) w' -> Q w' s') :
  wpAny (model X.prog X.w) A (call (.builtin "dict.get") [.ref a, u]) Q E s := by
 rcases g with ⟨kvs, k, e, ey, l⟩ | ⟨kvs, k, b, e, ey, eb, l⟩
 ·subst ey
  obtain ⟨z, hd, vs, rel, dd⟩ := Z6z I.hok e
  refine call_meetsIn PySem.F.slot_dict_get dd.typeIs PySem.F.entry_dict_get (PySem.F.args_dict_get_2 _ _) (meets_dict_get (Z0b X.prog X.w) a (Z5m ry) hd) ⟨_, dd.mapOf, h _ _ (I.tok _) ?_⟩
  rw [l]
  exact (rel.val k).getD rfl
 ·subst ey
  cases (show u = Value.ref b from ry)
  obtain ⟨z, hd, xs, rel, dd⟩ := Za9 I.hok e
  refine call_meetsIn PySem.F.slot_dict_get dd.typeIs PySem.F.entry_dict_get (PySem.F.args_dict_get_2 _ _) (meetsH_dict_get (tupleKind (Z0b X.prog X.w)) a b hd) ⟨tupleKind_room_in1 hu, k, xs, Z70 I.hok eb, dd, h _ _ (I.tok _) ?_⟩
  rw [l]
  exact (rel.val k).getD rfl
end
section
variable {X : Cx} {pins : L2.AO} {σ : St} {H : Hp} {s : Shared} {a : Addr} {kvs : List (Key × V)} {A : Around} {E : L2.VSP}
theorem Zf7 {Q : L2.VSP} (I : Inv X pins σ H s) (e : Rd H a (.dK kvs)) (h : ∀ p s', H p = none -> Inv X pins σ (upd H p (.dK kvs)) s' -> Q (.ref p) s') : wpAny (model X.prog X.w) A (call (.type "dict") [.ref a]) Q E s := by
 obtain ⟨z, hd, vs, rel, dd⟩ := Z6z I.hok e
 refine kt_call_dict hd dd (by rw [<- rel.length]; exact z) fun h' dd' hs => ?_
 refine h _ _ (I.hok.fresh (Nat.le_refl _)) (I.laid (a := s.heap.objs.size) (o := .dK kvs) (t' := s.toks) (fun b q hq => ?_) (Nat.le_refl _) (Z4v z (beq_eq_false_iff_ne.mpr (Ne.symm (Nat.ne_of_lt I.big))) rel dd'))
 exact (hs.2 b (Nat.ne_of_lt (Heap.lt_size hq))).trans (Heap.get?_push_of_some _ hq)
end
def look : List Int -> List Int -> Int -> Int -> Option Int
 | x :: y :: cs, p :: rs, a, b => if x = a /\ y = b then some p else look cs rs a b
 | _, _, _, _ => none
abbrev Ps := List (Int × U)
def dicI (ps : Ps) : U := .dic (ps.map fun p => .int p.1) (ps.map (·.2))
def asD : U -> Option Ps
 | .dic ks us => (Z11 ks).bind fun ns => if ns.length = us.length then some (ns.zip us) else none
 | _ => none
theorem asD_I (ps : Ps) : asD (dicI ps) = some ps := by
 unfold asD dicI
 simp only
 rw [show (ps.map fun p => U.int p.1) = (ps.map (·.1)).map U.int by simp, Z15]
 simp only [Option.bind_some, List.length_map, if_true]
 exact congrArg some (List.zip_of_prod (by rfl) (by rfl)).symm
theorem Z1w {u : U} {ps : Ps} (h : asD u = some ps) : u = dicI ps := by
 unfold asD at h
 split at h
 ·rename_i ks us
  cases q : Z11 ks with
  | none => rw [q] at h; exact noS h
  | some ns =>
   rw [q] at h
   simp only [Option.bind_some] at h
   split at h
   ·rename_i l
    cases h
    rw [Z18 q]
    unfold dicI
    congr 1
    ·conv => lhs; rw [<- List.map_fst_zip (l₁ := ns) (l₂ := us) (by omega)]
     simp
    ·exact (List.map_snd_zip (by omega)).symm
   ·cases h
 ·cases h
def asc (ps : Ps) (k : Int) : Option U := (ps.find? fun p => decide (p.1 = k)).map (·.2)
def putI (ps : Ps) (k : Int) (u : U) : Ps := if ps.any (fun p => decide (p.1 = k)) = true then ps.map (fun p => if p.1 = k then (p.1, u) else p) else ps ++ [(k, u)]
def Z32 (ps : Ps) (k : Int) : Ps := ps.filter fun p => decide (p.1 ≠ k)
def RPs (W : Wd) (H : Hp) : Ps -> List (Int × V) -> Prop
 | [], kvs => kvs = []
 | p :: ps, kvs => ∃ v r, kvs = (p.1, v) :: r /\ RU W H p.2 v /\ RPs W H ps r
section
variable {W : Wd} {H H' : Hp}
theorem RPs.mono (s : Same H H') : ∀ {ps : Ps} {kvs : List (Int × V)}, RPs W H ps kvs -> RPs W H' ps kvs
 | [], _, h => h
 | p :: ps, _, ⟨v, r, e, h, t⟩ => ⟨v, r, e, h.mono s, t.mono s⟩
theorem RPs.of : ∀ {ps : Ps} {kvs : List (Int × V)}, (ps.map fun p => U.int p.1) = kvs.map (fun p => U.int p.1) -> RUs W H (ps.map (·.2)) (kvs.map (·.2)) -> RPs W H ps kvs
 | [], kvs, e, _ => by
  cases kvs with
  | nil => rfl
  | cons _ _ => cases e
 | p :: ps, kvs, e, r => by
  cases kvs with
  | nil => cases e
  | cons q kvs =>
   rw [List.map_cons, List.map_cons] at e r
   injection e with e1 e2
   rw [RUs] at r
   obtain ⟨v, z, e3, r1, r2⟩ := r
   injection e3 with e3 e4
   subst e4
   injection e1 with e1
   exact ⟨v, kvs, by rw [<- e3, e1], r1, RPs.of e2 r2⟩
theorem RPs.to : ∀ {ps : Ps} {kvs : List (Int × V)}, RPs W H ps kvs -> (ps.map fun p => U.int p.1) = kvs.map (fun p => U.int p.1) /\ RUs W H (ps.map (·.2)) (kvs.map (·.2))
 | [], _, h => by subst h; exact ⟨rfl, .nil⟩
 | p :: ps, _, ⟨v, r, e, h, t⟩ => by
  subst e
  obtain ⟨a, b⟩ := t.to
  exact ⟨by rw [List.map_cons, List.map_cons, a], .cons h b⟩
theorem RPs.len : ∀ {ps : Ps} {kvs : List (Int × V)}, RPs W H ps kvs -> ps.length = kvs.length
 | [], _, h => by subst h; rfl
 | p :: ps, _, ⟨v, r, e, h, t⟩ => by subst e; simp [t.len]
theorem RPs.val : ∀ {ps : Ps} {kvs : List (Int × V)}, RPs W H ps kvs -> ∀ k : Int, (asc ps k = none /\ valV kvs k = none) \/ ∃ u v, asc ps k = some u /\ valV kvs k = some v /\ RU W H u v
 | [], _, h, k => by subst h; exact .inl ⟨rfl, rfl⟩
 | p :: ps, _, ⟨v, r, e, h, t⟩, k => by
  subst e
  by_cases c : p.1 = k
  ·refine .inr ⟨p.2, v, ?_, Z29 c, h⟩
   unfold asc; rw [List.find?_cons_of_pos (by simp [c])]; rfl
  ·have e1 : asc (p :: ps) k = asc ps k := by unfold asc; rw [List.find?_cons_of_neg (by simp [c])]
   rw [e1, Z2a c]
   exact t.val k
theorem RPs.valS {ps : Ps} {kvs : List (Int × V)} (r : RPs W H ps kvs) {k : Int} {u : U} (h : asc ps k = some u) : ∃ v, valV kvs k = some v /\ RU W H u v := by
 rcases r.val k with ⟨e, _⟩ | ⟨u', v, e, q⟩
 ·rw [h] at e; cases e
 ·rw [h] at e; cases e; exact ⟨v, q⟩
theorem RPs.any : ∀ {ps : Ps} {kvs : List (Int × V)}, RPs W H ps kvs -> ∀ k : Int, (ps.any fun p => decide (p.1 = k)) = kvs.any fun kv => decide (kv.1 = k)
 | [], _, h, k => by subst h; rfl
 | p :: ps, _, ⟨v, r, e, h, t⟩, k => by
  subst e
  rw [List.any_cons, List.any_cons, t.any k]
theorem RPs.app {qs : Ps} {kws : List (Int × V)} (t2 : RPs W H qs kws) : ∀ {ps : Ps} {kvs : List (Int × V)}, RPs W H ps kvs -> RPs W H (ps ++ qs) (kvs ++ kws)
 | [], _, h => by subst h; exact t2
 | p :: ps, _, ⟨v, r, e, h, t⟩ => by subst e; exact ⟨v, r ++ kws, rfl, h, RPs.app t2 t⟩
theorem RPs.repl {k : Int} {u : U} {y : V} (ru : RU W H u y) : ∀ {ps : Ps} {kvs : List (Int × V)}, RPs W H ps kvs -> RPs W H (ps.map fun p => if p.1 = k then (p.1, u) else p) (kvs.map fun kv => if kv.1 = k then (kv.1, y) else kv)
 | [], _, h => by subst h; rfl
 | p :: ps, _, ⟨v, r, e, h, t⟩ => by
  subst e
  rw [List.map_cons, List.map_cons]
  by_cases c : p.1 = k
  ·rw [if_pos c, if_pos c]
   exact ⟨y, _, rfl, ru, RPs.repl ru t⟩
  ·rw [if_neg c, if_neg c]
   exact ⟨v, _, rfl, h, RPs.repl ru t⟩
theorem RPs.put {ps : Ps} {kvs : List (Int × V)} {k : Int} {u : U} {y : V} (r : RPs W H ps kvs) (ru : RU W H u y) : RPs W H (putI ps k u) (putK kvs k y) := by
 unfold putI putK
 rw [r.any k]
 split
 ·exact r.repl ru
 ·exact RPs.app (qs := [(k, u)]) (kws := [(k, y)]) ⟨y, [], rfl, ru, rfl⟩ r
theorem RPs.drop : ∀ {ps : Ps} {kvs : List (Int × V)}, RPs W H ps kvs -> ∀ k : Int, RPs W H (Z32 ps k) (Z3z kvs k)
 | [], _, h, k => by subst h; rfl
 | p :: ps, _, ⟨v, r, e, h, t⟩, k => by
  subst e
  unfold Z32 Z3z
  by_cases c : p.1 = k
  ·rw [List.filter_cons_of_neg (by simp [c]), List.filter_cons_of_neg (by simp [c])]
   exact t.drop k
  ·rw [List.filter_cons_of_pos (by simp [c]), List.filter_cons_of_pos (by simp [c])]
   exact ⟨v, _, rfl, h, t.drop k⟩
theorem RPs.keys : ∀ {ps : Ps} {kvs : List (Int × V)}, RPs W H ps kvs -> kvs.map (·.1) = ps.map (·.1)
 | [], _, h => by subst h; rfl
 | p :: ps, _, ⟨v, r, e, h, t⟩ => by subst e; rw [List.map_cons, List.map_cons, t.keys]
theorem RU.dicI {ps : Ps} {a : Addr} {ob : Obj} {kvs : List (Int × V)} (h : H a = some (dE a ob kvs)) (r : RPs W H ps kvs) : RU W H (dicI ps) (.ref a) := by
 unfold L2.dicI; rw [RU]; exact ⟨a, ob, kvs, rfl, h, r.to.1, r.to.2⟩
theorem OwO.dicI {ps : Ps} {a : Addr} {ob : Obj} {kvs : List (Int × V)} (r : RPs W H ps kvs) : OwO W H a (dicI ps) (dE a ob kvs) := ⟨ob, kvs, rfl, r.to.1, r.to.2⟩
theorem RB.dicI {Hc : Hp} {ps : Ps} {v : V} (h : RB W Hc H (dicI ps) v) (s : Same Hc H) : ∃ a ob kvs, v = .ref a /\ H a = some (dE a ob kvs) /\ RPs W Hc ps kvs := by
 obtain ⟨a, ob, kvs, e, q, k, r⟩ := RB.dic h s
 exact ⟨a, ob, kvs, e, q, .of k r⟩
end
section
variable {W : Wd} {m : Md} {ρ : En} {ω : Om} {σ : St} {H0 Hc H : Hp} {ow : Nat -> Addr} {i : Nat}
theorem Sr.muI (S : Sr W m ρ ω σ H0 Hc H ow) {ps : Ps} (hi : i ∈ m.M) (h : ρ[i]? = some (some (dicI ps))) : ∃ ob kvs, σ[i]? = some (some (.ref (ow i))) /\ H (ow i) = some (dE (ow i) ob kvs) /\ Hc (ow i) = none /\ H0 (ow i) = none /\ RPs W Hc ps kvs := by
 obtain ⟨ob, kvs, z2, z3, z4, z5, k, r⟩ := S.muD i _ _ hi h
 exact ⟨ob, kvs, z2, z3, z4, z5, .of k r⟩
end
abbrev kvK (kvs : List (Int × V)) : List (Key × V) := kvs.map fun p => (.inl p.1, p.2)
theorem Zcm (k : Int) : ∀ kvs : List (Int × V), valV (kvK kvs) (.inl k) = valV kvs k
 | [] => rfl
 | p :: r => by
  show valV ((Sum.inl p.1, p.2) :: kvK r) (Sum.inl k) = _
  by_cases c : p.1 = k
  ·rw [Z29 c, Z29 (by rw [c])]
  ·rw [Z2a c, Z2a (fun z => c (by injection z)), Zcm k r]
theorem Zo0 (k : Int) : ∀ kvs : List (Int × V), ((kvK kvs).any fun kv => decide (kv.1 = .inl k)) = kvs.any fun kv => decide (kv.1 = k)
 | [] => rfl
 | p :: r => by
  show (decide ((Sum.inl p.1 : Key) = .inl k) || (kvK r).any fun kv => decide (kv.1 = .inl k)) = (decide (p.1 = k) || _)
  rw [Zo0 k r]
  congr 1
  by_cases c : p.1 = k
  ·simp [c]
  ·simp [c]
theorem Zo1 (k : Int) (v : V) (kvs : List (Int × V)) : putK (kvK kvs) (.inl k) v = kvK (putK kvs k v) := by
 unfold putK
 rw [Zo0]
 split
 ·induction kvs with
  | nil => rfl
  | cons p r ih =>
   simp only [kvK, List.map_cons, List.map_map] at *
   rw [List.cons.injEq]
   refine ⟨?_, ?_⟩
   ·by_cases c : p.1 = k
    ·simp [c]
    ·simp [c]
   ·apply List.map_congr_left
    intro q ψ
    simp only [Function.comp]
    by_cases c : q.1 = k
    ·simp [c]
    ·simp [c]
 ·simp [kvK]
theorem Zgz (k : Int) : ∀ kvs : List (Int × V), Z3z (kvK kvs) (.inl k) = kvK (Z3z kvs k)
 | [] => rfl
 | p :: r => by
  have ih := Zgz k r
  unfold Z3z at ih ⊢
  show List.filter _ ((Sum.inl p.1, p.2) :: kvK r) = _
  by_cases c : p.1 = k
  ·rw [List.filter_cons_of_neg (by simp [c]), List.filter_cons_of_neg (by simp [c])]; exact ih
  ·rw [List.filter_cons_of_pos (by simp [c]), List.filter_cons_of_pos (by simp [c]), ih]; rfl
theorem Z5n {P : Program} {w : World} : ∀ {es : List DictEntry} {kvs : List (Int × V)}, Paired (fun (e : DictEntry) (p : Int × V) => Z3j (.inl p.1) e.key = true /\ (∀ w, e.hash = keyH w (.inl p.1)) /\ RelV p.2 e.val) es kvs ->
  ∃ vs, KV (kvK kvs) vs /\ (∀ e ∈ es, ∃ k, (Z0b P w).is k e.key = true /\ e.hash = (Z0b P w).hash k) /\ Pairs (Z0b P w) es vs
 | _, _, .nil => ⟨[], .nil, fun e h => absurd h (by simp), .nil⟩
 | _, _, .cons (a := e) (b := p) h t => by
  obtain ⟨vs, a1, a2, a3⟩ := Z5n (P := P) (w := w) t
  refine ⟨(.inl p.1, e.val) :: vs, .cons ⟨rfl, h.2.2⟩ a1, fun x hx => ?_, .cons h.1 rfl a3⟩
  rcases List.mem_cons.mp hx with rfl | hx
  ·exact ⟨.inl p.1, h.1, h.2.1 w⟩
  ·exact a2 x hx
theorem Z71 {P : Program} {w : World} : ∀ {es : List DictEntry} {kvs : List (Int × V)} {vs : List (Key × Value)}, KV (kvK kvs) vs -> (∀ e ∈ es, ∃ k, (Z0b P w).is k e.key = true /\ e.hash = (Z0b P w).hash k) -> Pairs (Z0b P w) es vs ->
  Paired (fun (e : DictEntry) (p : Int × V) => Z3j (.inl p.1) e.key = true /\ (∀ w, e.hash = keyH w (.inl p.1)) /\ RelV p.2 e.val) es kvs
 | _, [], _, h, _, q => by
  cases h; cases q; exact .nil
 | _, p :: kvs, _, h, k, q => by
  have h : KV ((Sum.inl p.1, p.2) :: kvK kvs) _ := h
  cases h with
  | cons h1 h2 =>
   cases q with
   | cons q1 q2 q3 =>
    rename_i b es e bs
    refine .cons ⟨by rw [show (Sum.inl p.1 : Key) = b.1 from h1.1]; exact q1, fun w' => ?_, by rw [q2]; exact h1.2⟩ (Z71 h2 (fun x hx => k x (List.mem_cons_of_mem _ hx)) q3)
    obtain ⟨kk, z1, z2⟩ := k e (List.mem_cons_self ..)
    have := (Z0b P w).inj e.key kk b.1 z1 q1
    rw [this, <- show (Sum.inl p.1 : Key) = b.1 from h1.1] at z2
    exact z2
theorem Zcn {kvs : List (Int × V)} {vs : List (Key × Value)} (h : KV (kvK kvs) vs) : (vs.map (·.1)).Nodup ↔ (kvs.map (·.1)).Nodup := by
 rw [<- h.keys]
 have e : (kvK kvs).map (·.1) = (kvs.map (·.1)).map (Sum.inl : Int -> Key) := by simp [kvK]
 rw [e]
 refine ⟨fun h => ?_, fun h => ?_⟩
 ·unfold List.Nodup at h ⊢
  rw [List.pairwise_map] at h
  exact h.imp fun ne e => ne (by rw [e])
 ·unfold List.Nodup at h ⊢
  rw [List.pairwise_map]
  exact h.imp fun ne e => ne (by injection e)
theorem Zh0 {P : Program} {w : World} {H : Hp} {h : Heap} {a : Addr} {ob : Obj} {kvs : List (Int × V)} (x : Z0r P w H h a (dE a ob kvs)) : h.get? a = some ob /\ ∀ H', Z0r P w H' h a (.dK (kvK kvs)) := by
 obtain ⟨⟨e, ns, hl, es, ep, h1, h2, h3, h4⟩, _, _⟩ := x
 refine ⟨e, fun H' => ⟨by rw [List.length_map]; exact hl, ns, ?_⟩⟩
 obtain ⟨vs, a1, a2, a3⟩ := Z5n (P := P) (w := w) h3
 exact ⟨vs, a1, ob, es, ep, e, h1, h2, fun x hx => a2 x (by simpa using hx), a3, (Zcn a1).mpr h4⟩
theorem Zo2 {P : Program} {w : World} {H : Hp} {h : Heap} {a : Addr} {kvs : List (Int × V)} (x : Z0r P w H h a (.dK (kvK kvs))) : ∃ ob, h.get? a = some ob /\ ∀ H', Z0r P w H' h a (dE a ob kvs) := by
 obtain ⟨hl, ns, vs, rel, ob, es, ep, e, h1, h2, h3, h4, h5⟩ := x
 refine ⟨ob, e, fun ψ => ⟨⟨e, ns, by rw [List.length_map] at hl; exact hl, es, ep, h1, h2, Z71 rel (fun x hx => h3 x (by simpa using hx)) h4, (Zcn rel).mp h5⟩, ⟨ob, e⟩, fun h1 h2 p k => ⟨k _ p.1, p.2⟩⟩⟩
section
variable {X : Cx} {pins : L2.AO} {σ : St} {H : Hp} {s s' : Shared} {a : Addr} {ob : Obj} {kvs : List (Int × V)}
theorem Inv.dE_in (I : Inv X pins σ H s) (h : H a = some (dE a ob kvs)) : Inv X pins σ (upd H a (.frz ob (.dK (kvK kvs)))) s := by
 obtain ⟨e, x⟩ := Zh0 (I.hok a _ h)
 exact Z23 I (by rw [h]; exact True.intro) (Heap.SameBut.refl _ _) ⟨_, e⟩ (show _ /\ _ from ⟨e, x _⟩)
theorem Inv.dE_w (I : Inv X pins σ H s) (h : H a = some (dE a ob kvs)) : Inv X pins σ (upd H a (.dK (kvK kvs))) s := by
 obtain ⟨e, x⟩ := Zh0 (I.hok a _ h)
 exact Z23 I (by rw [h]; exact True.intro) (Heap.SameBut.refl _ _) ⟨_, e⟩ (x _)
theorem Inv.w_dE (I : Inv X pins σ H s) (h : H a = some (.dK (kvK kvs))) : ∃ ob, Inv X pins σ (upd H a (dE a ob kvs)) s := by
 obtain ⟨ob, e, x⟩ := Zo2 (I.hok a _ h)
 exact ⟨ob, Z23 I (by rw [h]; exact True.intro) (Heap.SameBut.refl _ _) ⟨_, e⟩ (x _)⟩
theorem Inv.out' (nf : ∀ o u, X.H₀ a ≠ some (.frz o u)) (dt : (a == sysModules) = false /\ kvs.length <= sizeLine /\ DOb ob kvs) (h : H a = some (dE a ob kvs)) (J : Inv X pins σ (upd H a (.frz ob (.dK (kvK kvs)))) s') : Inv X pins σ H s' := by
 have back : ∀ {b o}, upd H a (.frz ob (.dK (kvK kvs))) b = some o -> (∀ x y, o ≠ .frz x y) -> H b = some o := fun {b o} q nf => by
  by_cases c : b = a
  ·rw [c, Z03] at q; cases q; exact absurd rfl (nf _ _)
  ·rw [Z06 c] at q; exact q
 have non : ∀ {b}, upd H a (.frz ob (.dK (kvK kvs))) b = none -> H b = none := fun {b} q => by
  by_cases c : b = a
  ·rw [c, Z03] at q; cases q
  ·rw [Z06 c] at q; exact q
 refine ⟨J.ok, J.os, J.bare, ⟨J.base.keep, J.base.slot, fun b o e n hx => non (J.base.free b o e n hx), J.base.there, fun b xs e => back (J.base.tups b xs e) (fun ψ ψ z => nomatch z), fun b o u e => ?_, fun b ps e => ?_⟩, J.loc, J.cell, non J.free, fun x c e => non (J.freeC x c e), fun p hp => ?_, fun b u e => ?_, J.len⟩
 ·have q := J.base.frzs b o u e
  by_cases c : b = a
  ·rw [c] at e; exact absurd e (nf o u)
  ·rw [Z06 c] at q; exact q
 ·obtain ⟨mo, q⟩ := J.base.tbls b ps e
  exact ⟨mo, back q (fun ψ ψ z => nomatch z)⟩
 ·obtain ⟨h1, h2, h3⟩ := J.pin p hp
  exact ⟨h1, non h2, h3⟩
 ·by_cases c : b = a
  ·subst c
   rw [h] at e; cases e
   obtain ⟨g, _⟩ := J.hok b _ Z03
   exact ⟨⟨g, dt⟩, ⟨ob, g⟩, fun h1 h2 p k => ⟨k _ p.1, p.2⟩⟩
  ·have e' : upd H a (.frz ob (.dK (kvK kvs))) b = some u := by rw [Z06 c]; exact e
   exact (J.hok b u e').stay (fun ψ ψ ψ q => q) (fun d q => back q (fun ψ ψ z => nomatch z)) fun d xs q => back q (fun ψ ψ z => nomatch z)
theorem Inv.dE_nf (I : Inv X pins σ H s) (h : H a = some (dE a ob kvs)) : ∀ o u, X.H₀ a ≠ some (.frz o u) := fun o u z => by
 have := I.base.frzs a o u z
 rw [h] at this; cases this
theorem Inv.dE_dt (I : Inv X pins σ H s) (h : H a = some (dE a ob kvs)) : (a == sysModules) = false /\ kvs.length <= sizeLine /\ DOb ob kvs := by
 obtain ⟨p, _, _⟩ := I.hok a _ h
 exact p.2
theorem Inv.dE_out (I : Inv X pins σ H s) (h : H a = some (dE a ob kvs)) (J : Inv X pins σ (upd H a (.frz ob (.dK (kvK kvs)))) s') : Inv X pins σ H s' := J.out' (I.dE_nf h) (I.dE_dt h) h
theorem Inv.dE_wr (I : Inv X pins σ (upd H a (.dK (kvK kvs))) s) : ∃ ob, Inv X pins σ (upd H a (dE a ob kvs)) s := by
 obtain ⟨ob, J⟩ := I.w_dE Z03
 rw [Z50] at J
 exact ⟨ob, J⟩
end
def eGet (td ty : TE) : TE := fun σ H Q => td σ H fun x H1 => ty σ H1 fun y H2 => ∃ a ob kvs k v, x = .ref a /\ y = .int k /\ H2 a = some (dE a ob kvs) /\ valV kvs k = some v /\ Q v H2
def eIn (neg : Bool) (ty td : TE) : TE := fun σ H Q => ty σ H fun y H1 => td σ H1 fun x H2 => ∃ a ob kvs k, x = .ref a /\ y = .int k /\ H2 a = some (dE a ob kvs) /\ Q (.bl (if neg = true then !(valV kvs k).isSome else (valV kvs k).isSome)) H2
def Zo3 (td ty : TE) : TE := fun σ H Q => td σ H fun x H1 => ∃ a ob kvs, x = .ref a /\ H1 a = some (dE a ob kvs) /\ ty σ H1 fun y H2 => ∃ ob kvs k, y = .int k /\ H2 a = some (dE a ob kvs) /\ Q ((valV kvs k).getD .non) H2
def eNew : TE := fun ψ H Q => ∀ p ob, H p = none -> Q (.ref p) (upd H p (dE p ob []))
def Zh1 (tk tv : TE) : TE := fun σ H Q => ∀ p ob, H p = none -> tk σ (upd H p (dE p ob [])) fun x H1 => tv σ H1 fun y H2 => ∃ k, x = .int k /\ H2 p = some (dE p ob []) /\ ∀ ob', Q (.ref p) (upd H2 p (dE p ob' [(k, y)]))
def Zo4 : List V -> Hp -> VK -> Prop := fun xs H Q => ∃ a ob kvs, xs = [V.ref a] /\ H a = some (dE a ob kvs) /\ ∀ p ob', H p = none -> Q (.ref p) (upd H p (dE p ob' kvs))
def Zo5 : List V -> Hp -> VK -> Prop := fun xs H Q => ∃ a ob kvs, xs = [V.ref a] /\ H a = some (dE a ob kvs) /\ Q (.int kvs.length) H
def Zjc : TSet := fun o i v H Q => ∃ a ob kvs k, o = .ref a /\ i = .int k /\ H a = some (dE a ob kvs) /\ kvs.length < sizeLine /\ ∀ ob', Q (upd H a (dE a ob' (putK kvs k v)))
def Zo6 (td ty : TE) : TE := fun σ H Q => td σ H fun x H1 => ∃ a ob kvs, x = .ref a /\ H1 a = some (dE a ob kvs) /\ ty σ H1 fun y H2 => ∃ ob kvs k v, y = .int k /\ H2 a = some (dE a ob kvs) /\ valV kvs k = some v /\ ∀ ob', Q v (upd H2 a (dE a ob' (Z3z kvs k)))
theorem Zjd {H : Hp} {a : Addr} {ob : Obj} {kvs : List (Int × V)} {k : Int} : DGet (upd H a (.frz ob (.dK (kvK kvs)))) a (.int k) (valV kvs k) := .inl ⟨kvK kvs, .inl k, .inr ⟨ob, Z03⟩, rfl, (Zcm k kvs).symm⟩
section
variable {X : Cx} {o i e : Expr} {pos apos cpos : Pos} {td ty : TE}
theorem Zje (hu : X.A.units + 1 < cLine) (ho : PE X o td) (hi : PE X i ty) (hs : NoSl i) : PE X (.Subscript o i pos) (eGet td ty) := by
 intro pins s σ H Q I h
 refine Zja PySem.F.slot_dict_getitem.lookup hs (thn (ho pins s σ H _ I h) fun u s1 ⟨x, H1, I1, rx, q1⟩ => thn (hi pins s1 σ H1 _ I1 q1) fun iv s2 ⟨y, H2, I2, ry, a, ob, kvs, k, v, ex, ey, ha, hv, q2⟩ => ?_)
 subst ex; subst ey
 obtain rfl : u = Value.ref a := rx
 have g := Zjd (H := H2) (a := a) (ob := ob) (kvs := kvs) (k := k)
 rw [hv] at g
 exact ⟨Z84 (I2.dE_in ha) g, Zck hu (I2.dE_in ha) g ry fun w' s3 I3 rw' => ⟨v, H2, I2.dE_out ha I3, rw', q2⟩⟩
theorem Zco (hu : X.A.units + 1 < cLine) (hi : PE X i ty) (ho : PE X o td) : PC X .NotIn i o (eIn true ty td) := by
 intro pins s σ H Q I h
 refine thn (hi pins s σ H _ I h) fun iv s1 ⟨y, H1, I1, ry, q1⟩ => thn (ho pins s1 σ H1 _ I1 q1) fun u s2 ⟨x, H2, I2, rx, a, ob, kvs, k, ex, ey, ha, q2⟩ => ?_
 subst ex; subst ey
 obtain rfl : u = Value.ref a := rx
 exact Zj9 hu (I2.dE_in ha) Zjd ry fun s3 I3 => ⟨.bl _, H2, I2.dE_out ha I3, rfl, q2⟩
theorem Zf8 (hu : X.A.units + 1 < cLine) (ho : PE X o td) (he : PE X e ty) (m : M1 X o "get" apos e cpos) : PE X (.Call (.Attribute o "get" apos) [e] [] cpos) (Zo3 td ty) := by
 intro pins s σ H Q I h
 refine wpAny_Call_method m.base m.few m.line PySem.F.plainAttrs_dict PySem.F.slot_dict_get PySem.F.type_dict_get (thn (ho pins s σ H _ I h) fun u s1 ⟨x, H1, I1, rx, a, ob, kvs, ex, ha, q1⟩ => ?_)
 subst ex
 obtain rfl : u = Value.ref a := rx
 obtain ⟨t1, t2, _⟩ := Zgy (I1.dE_in ha) (.inl ⟨_, .inr ⟨_, Z03⟩⟩)
 refine ⟨t1, t2, ?_⟩
 rw [m.trees]
 refine Calls.callWith_builtin rfl (Calls.evalArgs_plain (Calls.spliced_cons (thn (he pins s1 σ H1 _ I1 q1) fun iv s2 ⟨y, H2, I2, ry, ob2, kvs2, k, ey, ha2, q2⟩ => Calls.spliced_nil ?_)))
 subst ey
 exact Znz hu (I2.dE_in ha2) Zjd ry fun w' s3 I3 rw' => ⟨_, H2, I2.dE_out ha2 I3, rw', q2⟩
theorem Zf9 (ho : PE X o td) (he : PE X e ty) (m : M1 X o "pop" apos e cpos) : PE X (.Call (.Attribute o "pop" apos) [e] [] cpos) (Zo6 td ty) := by
 intro pins s σ H Q I h
 refine wpAny_Call_method m.base m.few m.line PySem.F.plainAttrs_dict PySem.F.slot_dict_pop PySem.F.type_dict_pop (thn (ho pins s σ H _ I h) fun u s1 ⟨x, H1, I1, rx, a, ob, kvs, ex, ha, q1⟩ => ?_)
 subst ex
 obtain rfl : u = Value.ref a := rx
 obtain ⟨t1, t2, _⟩ := Zgy (I1.dE_in ha) (.inl ⟨_, .inr ⟨_, Z03⟩⟩)
 refine ⟨t1, t2, ?_⟩
 rw [m.trees]
 refine Calls.callWith_builtin rfl (Calls.evalArgs_plain (Calls.spliced_cons (thn (he pins s1 σ H1 _ I1 q1) fun iv s2 ⟨y, H2, I2, ry, ob2, kvs2, k, v, ey, ha2, hv, q2⟩ => Calls.spliced_nil ?_)))
 subst ey
 refine Zqy (k := .inl k) (I2.dE_w ha2) Z03 ry (by rw [Zcm]; exact hv) (.inl rfl) fun w' s3 I3 rw' => ?_
 rw [Z50, Zgz] at I3
 obtain ⟨ob', I4⟩ := I3.dE_wr
 exact ⟨v, _, I4, rw', q2 ob'⟩
theorem Zo7 (hu : X.A.units + 1 < cLine) : PSet X Zjc := by
 intro pins s σ H x y v ov iv u Q I r1 r2 r3 h
 obtain ⟨a, ob, kvs, k, rfl, rfl, ha, hl, q⟩ := h
 cases r1
 refine Zcl hu (I.dE_w ha) (DPut.k (k := .inl k) Z03 (by rw [List.length_map]; exact hl)) r2 r3 fun s4 I4 => ?_
 rw [Z50, Zo1] at I4
 obtain ⟨ob', I5⟩ := I4.dE_wr
 exact ⟨_, I5, q ob'⟩
theorem Zaa : Z0s X (.type "dict") Zo4 := by
 intro pins s σ H xs us Q I r h
 obtain ⟨a, ob, kvs, rfl, ha, q⟩ := h
 obtain ⟨u, rfl, ru⟩ := Z2e r
 cases ru
 refine Zf7 (I.dE_in ha) (.inr ⟨_, Z03⟩) fun p s' hn I' => ?_
 have ne : p ≠ a := fun z => by rw [z, Z03] at hn; cases hn
 have hn' : H p = none := by rw [Z06 ne] at hn; exact hn
 obtain ⟨ob', I2⟩ := I'.dE_wr
 have e : upd (upd H a (.frz ob (.dK (kvK kvs)))) p (dE p ob' kvs) = upd (upd H p (dE p ob' kvs)) a (.frz ob (.dK (kvK kvs))) := by
  funext b
  by_cases c1 : b = p
  ·rw [c1, Z03, Z06 ne, Z03]
  ·rw [Z06 c1]
   by_cases c2 : b = a
   ·rw [c2, Z03, Z03]
   ·rw [Z06 c2, Z06 c2, Z06 c1]
 rw [e] at I2
 exact ⟨.ref p, _, I2.out' (I.dE_nf ha) (I.dE_dt ha) (by rw [Z06 (Ne.symm ne)]; exact ha), rfl, q p ob' hn'⟩
theorem Zcp : Z0s X (.builtin "len") Zo5 := by
 intro pins s σ H xs us Q I r h
 obtain ⟨a, ob, kvs, rfl, ha, q⟩ := h
 obtain ⟨u, rfl, ru⟩ := Z2e r
 cases ru
 exact Zqz (I.dE_in ha) (.inr ⟨_, Z03⟩) fun t s' I' => ⟨.int kvs.length, H, I.dE_out ha I', ⟨t, by rw [List.length_map]⟩, q⟩
theorem Zjf : PE X (.Dict [] [] pos) eNew := by
 intro pins s σ H Q I h
 refine thn (Zf5 pins s σ H (fun x H' => ∃ p, x = .ref p /\ H p = none /\ H' = upd H p (.dK (kvK []))) I fun p n => ⟨p, rfl, n, rfl⟩) fun v s1 ⟨x, H1, I1, rx, p, ex, n, e1⟩ => ?_
 subst e1
 obtain ⟨ob, I2⟩ := I1.dE_wr
 exact ⟨x, _, I2, rx, by rw [ex]; exact h p ob n⟩
theorem Zcq {k v : Expr} {tk tv : TE} (hk : PE X k tk) (hv : PE X v tv) : PE X (.Dict [some k] [v] pos) (Zh1 tk tv) := by
 intro pins s σ H Q I q
 have hn := I.hok.fresh (Nat.le_refl s.heap.objs.size)
 have I1 := I.laid (a := s.heap.objs.size) (o := .dK (kvK [])) (h' := s.heap.push { cls := .type "dict", data := .dict #[] }) (t' := s.toks) (fun ψ ψ q => Heap.get?_push_of_some _ q) (Nat.le_refl _) (Z92 s.heap I.big)
 obtain ⟨ob, J1⟩ := I1.dE_wr
 have h := Zf6 (pos := pos) hk hv Zjb
 refine wpAny_Dict_walk (knd := Z0b X.prog X.w) (by rfl) (by rfl) (by simp) (by simp) (thn (h pins _ σ _ (fun ps H2 => match ps with
  | [(x, y)] => ∃ k, x = .int k /\ H2 s.heap.objs.size = some (dE s.heap.objs.size ob []) /\ ∀ ob', Q (.ref s.heap.objs.size) (upd H2 s.heap.objs.size (dE s.heap.objs.size ob' [(k, y)]))
  | _ => False) J1 (q _ ob hn)) fun ws s2 ⟨ps, H2, I2, rel, q2⟩ => ?_)
 match ps, rel, q2 with
 | [(x, y)], rel, q2 =>
  obtain ⟨k, ex, ha, q2⟩ := q2
  subst ex
  obtain ⟨rs, c, rk⟩ := Z4w (P := X.prog) (w := X.w) (kvs := [(.inl k, y)]) rel
  have I3 := I2.dE_w ha
  obtain ⟨z, hd, vs0, r0, dd⟩ := Zf4 I3.hok Z03
  cases r0
  refine ⟨rs, c, dd, fun h' dd' hs => ?_⟩
  have he : ∃ q, h'.get? s.heap.objs.size = some q := let ⟨q, _, _, hq, _⟩ := dd'; ⟨q, hq⟩
  have I4 := Z23 (t' := s2.toks + ws.length) I3 (by rw [Z03]; exact True.intro) hs he (Z4v (by show (Zgx [] [((Sum.inl k : Key), y)]).length <= sizeLine; rw [sizeLine_eq]; show 1 <= _; omega) hd (rk.merge .nil) dd')
  rw [Z50] at I4
  obtain ⟨ob', I5⟩ := Inv.dE_wr (kvs := [(k, y)]) I4
  exact ⟨.ref s.heap.objs.size, _, I5, rfl, q2 ob'⟩
end
def Z1p : U -> U -> Option U
 | d, .int k => (asD d).bind fun ps => asc ps k
 | _, _ => none
def uDIn (neg : Bool) : U -> U -> Option U
 | .int k, d => (asD d).map fun ps => .bl (if neg then !(asc ps k).isSome else (asc ps k).isSome)
 | _, _ => none
def Zab : List U -> Option U
 | [d] => (asD d).map fun ps => .int ps.length
 | _ => none
def uGt1 (ps : Ps) : U -> Option U
 | .int k => some ((asc ps k).getD .non)
 | _ => none
def Z72 (fa fb : Ef) : Ef := fun ρ ω => (fa ρ ω).bnd fun a ω1 => match asD a with
 | some ps => (fb ρ ω1).bnd fun b ω2 => .of (uGt1 ps b) ω2
 | none => .stk
section
variable {W : Wd} {m : Md} {E : XK} {ta tb : TE} {fa fb : Ef}
theorem Zjg (ha : DB W m E ta fa) (hb : DB W m E tb fb) : DE W m E (eGet ta tb) (eOp Z1p fa fb) := by
 intro H0 ρ ω σ Hc H ow S Q h
 refine ha H0 ρ ω σ Hc H ow S _ ((Aft.bnd h).imp fun a ω1 Hc1 H1 e1 p1 h1 x rx => ?_)
 refine hb H0 ρ ω1 σ Hc1 H1 ow (S.ext e1 p1) _ ((Aft.bnd h1).imp fun b ω2 Hc2 H2 e2 p2 h2 y ry => ?_)
 revert h2
 cases b with
 | int k =>
  have := ry.int; subst this
  cases hg : Z1p a (.int k) with
  | none => exact fun h2 => h2.elim
  | some u =>
   intro h2
   unfold Z1p at hg
   simp only at hg
   cases q : asD a with
   | none => rw [q] at hg; exact noS hg
   | some ps =>
    rw [q] at hg
    have := Z1w q; subst this
    obtain ⟨p, ob, kvs, rfl, hp, rp⟩ := (rx.ext e2).dicI e2.sub
    obtain ⟨v, hv, rv⟩ := rp.valS hg
    exact ⟨p, ob, kvs, k, v, rfl, rfl, hp, hv, h2 Hc2 H2 (Ext.refl e2.sub) p2 v rv⟩
 | _ => exact fun h2 => h2.elim
theorem Zo8 {neg : Bool} (ha : DB W m E ta fa) (hb : DB W m E tb fb) : DE W m E (eIn neg ta tb) (eOp (uDIn neg) fa fb) := by
 intro H0 ρ ω σ Hc H ow S Q h
 refine ha H0 ρ ω σ Hc H ow S _ ((Aft.bnd h).imp fun a ω1 Hc1 H1 e1 p1 h1 x rx => ?_)
 refine hb H0 ρ ω1 σ Hc1 H1 ow (S.ext e1 p1) _ ((Aft.bnd h1).imp fun b ω2 Hc2 H2 e2 p2 h2 y ry => ?_)
 revert h2
 cases a with
 | int k =>
  have := rx.int; subst this
  cases q : asD b with
  | none => unfold uDIn; simp only; rw [q]; exact fun h2 => h2.elim
  | some ps =>
   unfold uDIn; simp only; rw [q]
   intro h2
   have := Z1w q; subst this
   obtain ⟨p, ob, kvs, rfl, hp, rp⟩ := ry.dicI e2.sub
   refine ⟨p, ob, kvs, k, rfl, rfl, hp, ?_⟩
   have es : (valV kvs k).isSome = (asc ps k).isSome := by
    rcases rp.val k with ⟨z1, z2⟩ | ⟨u, v, z1, z2, _⟩ <;> rw [z1, z2] <;> rfl
   rw [es]
   exact h2 Hc2 H2 (Ext.refl e2.sub) p2 _ .bl
 | _ => exact fun h2 => h2.elim
theorem Zfa (ha : DB W m E ta fa) (hb : DB W m E tb fb) : DE W m E (Zo3 ta tb) (Z72 fa fb) := by
 intro H0 ρ ω σ Hc H ow S Q h
 refine ha H0 ρ ω σ Hc H ow S _ ((Aft.bnd h).imp fun a ω1 Hc1 H1 e1 p1 h1 x rx => ?_)
 have S1 := S.ext e1 p1
 revert h1
 cases q : asD a with
 | some ps =>
  intro h1
  have := Z1w q; subst this
  obtain ⟨p, ob, kvs, rfl, hp, rp⟩ := rx.dicI e1.sub
  refine ⟨p, ob, kvs, rfl, hp, hb H0 ρ ω1 σ Hc1 H1 ow S1 _ ((Aft.bnd h1).imp fun b ω2 Hc2 H2 e2 p2 h2 y ry => ?_)⟩
  revert h2
  cases b with
  | int k =>
   have := ry.int; subst this
   intro h2
   obtain ⟨p', ob', kvs', e', hp', rp'⟩ := (rx.ext e2).dicI e2.sub
   cases e'
   refine ⟨ob', kvs', k, rfl, hp', h2 Hc2 H2 (Ext.refl e2.sub) p2 _ ?_⟩
   rcases rp'.val k with ⟨z1, z2⟩ | ⟨u, v, z1, z2, z3⟩
   ·rw [z1, z2]; exact .non
   ·rw [z1, z2]; exact z3
  | _ => exact fun h2 => h2.elim
 | none => exact fun h1 => h1.elim
theorem Zjh : Z2z W [true] Zo5 Zab := by
 intro Hc H ω us vs s p rs u e Q k
 unfold Zab at e; split at e
 ·rename_i d
  cases q : asD d with
  | none => rw [q] at e; exact noS e
  | some ps =>
   rw [q] at e; cases e
   have := Z1w q; subst this
   obtain ⟨v, rfl, rv⟩ := rs.one
   obtain ⟨a, ob, kvs, rfl, h1, r1⟩ := rv.dicI s
   exact ⟨a, ob, kvs, rfl, h1, by rw [<- r1.len]; exact k _ Hc H (Ext.refl s) p .int⟩
 ·cases e
end
def DO (W : Wd) (m : Md) (E : XK) (t : TE) (f : Ef) : Prop := ∀ H0 ρ ω σ Hc H ow, Sr W m ρ ω σ H0 Hc H ow -> ∀ Q : VK, Aft W E Hc H (f ρ ω) (fun u ψ Hc' H' => ∀ a o, OwO W Hc' a u o -> Hc' a = none -> H a = none -> H' a = some o -> Q (.ref a) H') -> t σ H Q
section
variable {W : Wd} {m : Md} {E : XK} {ta tb : TE} {fa fb : Ef} {i : Nat}
theorem DO.e (h : DO W m E ta fa) : DE W m E ta fa := by
 intro H0 ρ ω σ Hc H ow S Q k
 refine h H0 ρ ω σ Hc H ow S Q ?_
 revert k
 cases fa ρ ω with
 | ok u ω' =>
  intro k Hc' H' e p a o ho n1 n2 ha
  have nl : a ∉ W.L := fun z => (S.pl.out a z).2 n2
  exact k (upd Hc' a o) H' (e.own n1 n2 ha) (p.own nl) (.ref a) ((ho.mono (Same.own n1)).ru Z03)
 | err c pl ω' => exact fun k => k
 | stk => exact fun k => k
theorem Zji (h1 : i ∉ m.B) (h2 : i ∈ m.M) (ha : DO W m E ta fa) : DS W m E (tAsg ta (Z7t i)) (sSet i fa) := by
 intro H0 Hc0 ρ ω σ Hc H ow S x D h
 refine ha H0 ρ ω σ Hc H ow S _ ((Cont.of x h).imp fun u ω1 Hc1 H1 e1 p1 k a o ho n1 n2 ha => ?_)
 have S1 := S.ext e1 p1
 have n0 : H0 a = none := by
  cases q : H0 a with
  | none => rfl
  | some o =>
   by_cases l : a ∈ W.L
   ·exact absurd n2 (S.pl.out a l).2
   ·rw [S.s0 a o l q] at n2; cases n2
 refine k _ Hc1 H1 _ (S1.ownO h2 h1 n1 n0 ha ho fun j w hj ψ hw z => ?_) (x.trans e1)
 obtain ⟨o0, z2, z3, z4, z5, z6⟩ := S.mu j _ hj hw
 rw [z, n2] at z3; cases z3
def Zcr : Ef := fun ψ ω => .ok (dicI []) ω
theorem Zo9 : DO W m E eNew Zcr := by
 intro H0 ρ ω σ Hc H ow S Q k p ob n
 exact k Hc (upd H p (dE p ob [])) (Z0u S.sub S.pl n).1 (Z0u S.sub S.pl n).2 p _ (OwO.dicI (ps := []) rfl) (S.sub.free n) n Z03
def uD1 : U -> U -> Option U
 | .int k, u => some (dicI [(k, u)])
 | _, _ => none
def eD1 (fa fb : Ef) : Ef := fun ρ ω => (fa ρ ω).bnd fun a ω1 => (fb ρ ω1).bnd fun b ω2 => .of (uD1 a b) ω2
theorem Aft.bndK {α β : Type} {Hc H Hc' H' : Hp} {r : Res α} {g : α -> Om -> Res β} {k : β -> Om -> Hp -> Hp -> Prop} (e : Ext W Hc H Hc' H') (h : Aft W E Hc H (r.bnd g) k) : Aft W E Hc' H' r fun a ω ψ ψ => Aft W E Hc H (g a ω) k := by
 cases r with
 | ok a ω => exact fun ψ ψ ψ ψ => h
 | err c pl ω => exact fun C od Hc2 H2 e' p => h C od Hc2 H2 (e.trans e') p
 | stk => exact h
theorem Zoa (ha : DB W m E ta fa) (hb : DE W m E tb fb) : DO W m E (Zh1 ta tb) (eD1 fa fb) := by
 intro H0 ρ ω σ Hc H ow S Q h p ob n
 have e0 := (Z0u (W := W) (o := dE p ob []) S.sub S.pl n)
 have S0 := S.ext e0.1 e0.2
 have np : p ∉ W.L := fun z => (S.pl.out p z).2 n
 have nc : Hc p = none := S.sub.free n
 refine ha H0 ρ ω σ Hc _ ow S0 _ ((Aft.bndK e0.1 h).imp fun a ω1 Hc1 H1 e1 p1 h1 x rx => ?_)
 refine hb H0 ρ ω1 σ Hc1 H1 ow (S0.ext e1 p1) _ ((Aft.bndK (e0.1.trans e1) h1).imp fun b ω2 Hc2 H2 e2 p2 h2 y ry => ?_)
 have hp : H2 p = some (dE p ob []) := (e1.trans e2).same p _ np Z03
 have hc2 : Hc2 p = none := (e1.trans e2).new p nc (by rw [Z03]; simp)
 revert h2
 cases a with
 | int k =>
  have := rx.int; subst this
  intro h2
  refine ⟨k, rfl, hp, fun ob' => ?_⟩
  have e3 : Ext W Hc H Hc2 (upd H2 p (dE p ob' [(k, y)])) := by
   have ee := (e0.1.trans e1).trans e2
   refine ⟨fun b o nb hb => ?_, ee.sc, fun b o hb => ?_, ee.new, fun b hb => ?_⟩
   ·rw [Z06 (Z0c hb n)]; exact ee.same b o nb hb
   ·rw [Z06 (Z0c hb hc2)]; exact ee.sub b o hb
   ·by_cases z : b = p
    ·rw [z, Z03]; simp
    ·rw [Z06 z]; exact ee.frz b hb
  have p3 : PlOk W ω2 Hc2 (upd H2 p (dE p ob' [(k, y)])) := by
   refine ⟨W.st _ _ _ p2.pl fun b o hb hl => ?_, fun b hb => ⟨(p2.out b hb).1, ?_⟩⟩
   ·refine (Z06 fun z => ?_).trans hb
    subst z
    rcases hl with hl | ⟨x1, y1, hl⟩
    ·exact np hl
    ·rw [hp] at hb; cases hb; cases hl
   ·by_cases z : b = p
    ·rw [z, Z03]; simp
    ·rw [Z06 z]; exact (p2.out b hb).2
  exact h2 Hc2 _ e3 p3 p _ (OwO.dicI (ps := [(k, b)]) ⟨y, [], rfl, ry, rfl⟩) hc2 n Z03
 | _ => exact fun h2 => h2.elim
def Z24 : List U -> Option U
 | [d] => (asD d).map dicI
 | _ => none
theorem Zjj {tr : TA} {fr : Af} (hr : DA W m E [true] tr fr) : DO W m E (tCB Zo4 tr) (eB Z24 fr) := by
 intro H0 ρ ω σ Hc H ow S Q h
 refine hr H0 ρ ω σ Hc H ow S _ ((Aft.bnd h).imp fun us ω1 Hc1 H1 e1 p1 h1 xs rs => ?_)
 revert h1
 cases hg : Z24 us with
 | none => exact fun h1 => h1.elim
 | some u =>
  intro h1
  unfold Z24 at hg; split at hg
  ·rename_i d
   cases q : asD d with
   | none => rw [q] at hg; exact noS hg
   | some ps =>
    rw [q] at hg; cases hg
    have := Z1w q; subst this
    obtain ⟨v, rfl, rv⟩ := rs.one
    obtain ⟨a, ob, kvs, rfl, ha, r1⟩ := rv.dicI e1.sub
    exact ⟨a, ob, kvs, rfl, ha, fun p ob' n => h1 Hc1 _ (Z0u e1.sub p1 n).1 (Z0u e1.sub p1 n).2 p _ (OwO.dicI r1) (e1.sub.free n) (e1.frz' n) Z03⟩
  ·cases hg
def Z1x (i : Nat) (fi fa : Ef) : Sf := fun ρ ω => Fl.of (fa ρ ω) fun u ω1 => match (ρ[i]?).bind (fun o => o.bind asD) with
 | some ps => Fl.of (fi ρ ω1) fun k ω2 => match k with
  | .int k => if ps.length < 10000 then .nx (ρ.set i (some (dicI (putI ps k u)))) ω2 else .stk
  | _ => .stk
 | none => .stk
theorem Z93 {o : Option (Option U)} {ps : Ps} (h : (o.bind (fun o => o.bind asD)) = some ps) : o = some (some (dicI ps)) := by
 cases o with
 | none => cases h
 | some o => cases o with
  | none => cases h
  | some u => rw [Z1w (show asD u = some ps from h)]
theorem Zfb (h2 : i ∈ m.M) (hi : DB W m E tb fb) (ha : DE W m E ta fa) : DS W m E (tAsg ta (gSub (tVar i) tb Zjc)) (Z1x i fb fa) := by
 intro H0 Hc0 ρ ω σ Hc H ow S x D h
 refine ha H0 ρ ω σ Hc H ow S _ ((Cont.of x h).imp fun u ω1 Hc1 H1 e1 p1 k v rv => ?_)
 have S1 := S.ext e1 p1
 have x1 := x.trans e1
 revert k
 cases q : (ρ[i]?).bind (fun o => o.bind asD) with
 | none => exact fun k => k.elim
 | some ps =>
  intro k
  have e := Z93 q
  obtain ⟨ob, kvs, z2, z3, z4, z5, z6⟩ := S1.muI h2 e
  refine ⟨_, z2, hi H0 ρ ω1 σ Hc1 H1 ow S1 _ ((Cont.of x1 k).imp fun ku ω2 Hc2 H2 e2 p2 k2 y ry => ?_)⟩
  revert k2
  cases ku with
  | int kk =>
   have := ry.int; subst this
   simp only
   split
   ·rename_i hl
    intro k2
    have S2 := S1.ext e2 p2
    obtain ⟨ob', kvs', y2, y3, y4, y5, y6⟩ := S2.muI h2 e
    refine ⟨ow i, ob', kvs', kk, rfl, rfl, y3, by rw [<- y6.len, sizeLine_eq]; omega, fun ob2 => ?_⟩
    exact k2 _ Hc2 _ ow (S2.mutO h2 e (OwO.dicI (y6.put (rv.mono e2.sc)))) (S2.mutE h2 e (x1.trans e2))
   ·exact fun k2 => k2.elim
  | _ => exact fun k2 => k2.elim
def Z40 (i : Nat) (fi : Ef) : Sf := fun ρ ω => match (ρ[i]?).bind (fun o => o.bind asD) with
 | some ps => Fl.of (fi ρ ω) fun k ω2 => match k with
  | .int k => if (asc ps k).isSome = true then .nx (ρ.set i (some (dicI (Z32 ps k)))) ω2 else .stk
  | _ => .stk
 | none => .stk
theorem Zfc (h2 : i ∈ m.M) (hi : DB W m E tb fb) : DS W m E (Z3k (Zo6 (tVar i) tb)) (Z40 i fb) := by
 intro H0 Hc0 ρ ω σ Hc H ow S x D h
 unfold Z40 at h
 revert h
 cases q : (ρ[i]?).bind (fun o => o.bind asD) with
 | none => exact fun h => h.elim
 | some ps =>
  intro h
  have e := Z93 q
  obtain ⟨ob, kvs, z2, z3, z4, z5, z6⟩ := S.muI h2 e
  refine ⟨_, z2, _, ob, kvs, rfl, z3, hi H0 ρ ω σ Hc H ow S _ ((Cont.of x h).imp fun ku ω2 Hc2 H2 e2 p2 k2 y ry => ?_)⟩
  revert k2
  cases ku with
  | int kk =>
   have := ry.int; subst this
   simp only
   split
   ·rename_i hl
    intro k2
    have S2 := S.ext e2 p2
    obtain ⟨ob', kvs', y2, y3, y4, y5, y6⟩ := S2.muI h2 e
    obtain ⟨u, hu⟩ := Option.isSome_iff_exists.mp hl
    obtain ⟨v, hv, _⟩ := y6.valS hu
    refine ⟨ob', kvs', kk, v, rfl, y3, hv, fun ob2 => ?_⟩
    exact k2 _ Hc2 _ ow (S2.mutO h2 e (OwO.dicI (y6.drop kk))) (S2.mutE h2 e (x.trans e2))
   ·exact fun k2 => k2.elim
  | _ => exact fun k2 => k2.elim
end
def Z3d : List Nat -> En -> En
 | [], ρ => ρ
 | i :: is, ρ => Z3d is (ρ.set i none)
theorem Z73 : ∀ (is : List Nat) (ρ : En), (Z3d is ρ).length = ρ.length
 | [], ρ => rfl
 | i :: is, ρ => by rw [Z3d, Z73 is]; simp
theorem Z2b : ∀ {is : List Nat} {ρ : En} {j : Nat} {u : U}, (Z3d is ρ)[j]? = some (some u) -> j ∉ is /\ ρ[j]? = some (some u)
 | [], ρ, j, u, h => ⟨by simp, h⟩
 | i :: is, ρ, j, u, h => by
  obtain ⟨h1, h2⟩ := Z2b (is := is) h
  rw [List.getElem?_set] at h2
  by_cases e : i = j
  ·rw [if_pos e] at h2; split at h2 <;> cases h2
  ·rw [if_neg e] at h2
   exact ⟨fun z => (List.mem_cons.mp z).elim (fun y => e y.symm) h1, h2⟩
def Z74 (is : List Nat) : Fl -> Fl
 | .nx ρ ω => .nx (Z3d is ρ) ω
 | .bk ρ ω => .bk (Z3d is ρ) ω
 | .ct ρ ω => .ct (Z3d is ρ) ω
 | o => o
def sFz (is : List Nat) (g : Sf) : Sf := fun ρ ω => Z74 is (g ρ ω)
section
variable {W : Wd} {m : Md} {E : XK} {t : TS} {g : Sf}
theorem Sr.unfz {ρ : En} {ω : Om} {σ : St} {H0 Hc H : Hp} {ow : Nat -> Addr} {M' is : List Nat} (h1 : ∀ j ∈ m.M, j ∈ is \/ j ∈ M') (h2 : ∀ j ∈ M', j ∈ m.M) (S : Sr W ⟨m.B, M'⟩ ρ ω σ H0 Hc H ow) : Sr W m (Z3d is ρ) ω σ H0 Hc H ow := by
 refine ⟨S.sub, S.s0, S.p0, by rw [Z73]; exact S.len, S.pl, fun j u n1 n2 h => ?_, fun j u n1 n2 h => ?_, fun j u n h => ?_, fun i j u w ni nj ne hi hj => ?_⟩
 ·obtain ⟨_, h⟩ := Z2b h
  exact S.cl j u n1 (fun z => n2 (h2 j z)) h
 ·obtain ⟨_, h⟩ := Z2b h
  exact S.bo j u n1 (fun z => n2 (h2 j z)) h
 ·obtain ⟨k, h⟩ := Z2b h
  exact S.mu j u ((h1 j n).resolve_left k) h
 ·obtain ⟨k1, hi⟩ := Z2b hi
  obtain ⟨k2, hj⟩ := Z2b hj
  exact S.di i j u w ((h1 i ni).resolve_left k1) ((h1 j nj).resolve_left k2) ne hi hj
theorem Zr0 (is M' : List Nat) (h1 : ∀ j ∈ m.M, j ∈ is \/ j ∈ M') (h2 : ∀ j ∈ M', j ∈ m.M) (hB : ∀ i ∈ m.M, i ∉ m.B) (h : DS W ⟨m.B, M'⟩ E t g) : DS W m E t (sFz is g) := by
 intro H0 Hc0 ρ ω σ Hc H ow S x D k
 obtain ⟨Hf, Sf', xf⟩ := S.freeze M' h2 hB x
 refine h H0 Hc0 ρ ω σ Hf H ow Sf' xf D ?_
 unfold sFz at k
 revert k
 cases g ρ ω with
 | nx ρ' ω' => exact fun k σ' Hc' H' ow' S' x' => k σ' Hc' H' ow' (S'.unfz h1 h2) x'
 | bk ρ' ω' => exact fun k σ' Hc' H' ow' S' x' => k σ' Hc' H' ow' (S'.unfz h1 h2) x'
 | ct ρ' ω' => exact fun k σ' Hc' H' ow' S' x' => k σ' Hc' H' ow' (S'.unfz h1 h2) x'
 | rt u ω' => exact fun k => k
 | err c pl ω' => exact fun k => k
 | stk => exact fun k => k
end
def Itk (a : Addr) (ob : Obj) (kvs : List (Int × V)) : It :=
 ⟨fun i H => H a = some (dE a ob kvs) /\ i < kvs.length, fun i H x H' => H' = H /\ ∃ p, kvs[i]? = some p /\ x = .int p.1, fun i H => H a = some (dE a ob kvs) /\ kvs.length <= i⟩
def epOf (ob : Obj) : Nat := match ob.data with
 | .dict _ ep => ep
 | _ => 0
theorem Zfd {P : Program} {w : World} {H : Hp} {h : Heap} {a : Addr} {ob : Obj} {kvs : List (Int × V)} (x : Z0r P w H h a (dE a ob kvs)) : (a == sysModules) = false /\ ∃ vs, KV (kvK kvs) vs /\ h.DictAt (Z0b P w) a vs (epOf ob) := by
 obtain ⟨⟨e, ns, hl, es, ep, h1, h2, h3, h4⟩, _, _⟩ := x
 obtain ⟨vs, a1, a2, a3⟩ := Z5n (P := P) (w := w) h3
 refine ⟨ns, vs, a1, ob, es, e, h1, ?_, fun x hx => a2 x (by simpa using hx), a3, (Zcn a1).mpr h4⟩
 unfold epOf; rw [h2]
theorem Zr1 {kvs : List (Int × V)} {vs : List (Key × Value)} (r : KV (kvK kvs) vs) {i : Nat} {p : Int × V} (h : kvs[i]? = some p) : ∃ v, vs[i]? = some (.inl p.1, v) /\ RelV p.2 v := by
 induction kvs generalizing vs i with
 | nil => simp at h
 | cons q kvs ih =>
  have r : KV ((Sum.inl q.1, q.2) :: kvK kvs) vs := r
  cases r with
  | cons r1 r2 =>
   rename_i b bs
   cases i with
   | zero =>
    simp at h; subst h
    refine ⟨b.2, ?_, r1.2⟩
    show some b = _
    rw [show (Sum.inl q.1 : Key) = b.1 from r1.1]
   | succ i =>
    obtain ⟨v, z1, z2⟩ := ih r2 (show kvs[i]? = some p by simpa using h)
    exact ⟨v, by simpa using z1, z2⟩
theorem Zcs {P : Program} {w : World} {K : L2.Fg} {tg : Expr} (a it : Addr) (ob : Obj) (kvs : List (Int × V)) : Turn P w K tg (Itk a ob kvs) [it] it (fun i h => h.IsKeyIter it a i kvs.length (epOf ob)) where
 mem := by simp
 obj := fun i h st b hb => by
  have e : b = it := by simpa using hb
  subst e
  obtain ⟨o, e, c, d⟩ := st
  exact ⟨o, e, fun v z => by rw [d] at z; cases z⟩
 keep := fun i h h' st k => st.at fun o e => k it (by simp) o e
 item := by
  intro X hP hw hK hc i pins s σ H E I hf st hg
  subst hP hw hK
  obtain ⟨ha, hi⟩ := hg
  obtain ⟨ns, vs, rv, hat⟩ := Zfd (I.hok a _ ha)
  have hl : vs.length = kvs.length := by rw [<- rv.length, List.length_map]
  have hx : kvs[i]? = some kvs[i] := by simp [hi]
  obtain ⟨v, hv, _⟩ := Zr1 rv hx
  obtain ⟨f0, f1, f2, f3, f4, f5⟩ := hf it (by simp)
  rw [<- hl] at st
  refine wpAny_pyNext_dict_item st hat hv fun key h' hkey st' sb => ?_
  have I1 : Inv X pins σ H { s with heap := h' } := I.turned (t' := s.toks) (fun b o hb e => (sb.2 b hb).trans e) f0 f1 f3 f4 f5
  obtain ⟨o, e, c, d⟩ := id st'
  have ru : RelV (.int kvs[i].1) key := by
   rcases Z0j (show Z3j (Sum.inl kvs[i].1) key = true from hkey) with ⟨n, t, z1, z2⟩ | ⟨x, t, z1, z2⟩
   ·cases z1; exact ⟨t, z2⟩
   ·cases z1
  rw [hl] at st'
  exact ⟨key, rfl, Z9q (s := { s with heap := h' }) e c d (by decide) ⟨.int kvs[i].1, H, I1, ru, ⟨rfl, kvs[i], hx, rfl⟩, st', fun b hb => (hf b hb).1⟩⟩
 done := by
  intro X hP hw hK hc i pins s σ H E I hf st hg
  subst hP hw hK
  obtain ⟨ha, hi⟩ := hg
  obtain ⟨ns, vs, rv, hat⟩ := Zfd (I.hok a _ ha)
  have hl : vs.length = kvs.length := by rw [<- rv.length, List.length_map]
  obtain ⟨f0, f1, f2, f3, f4, f5⟩ := hf it (by simp)
  rw [<- hl] at st
  exact wpAny_pyNext_dict_end (I.ok.hd hc) st hat (by simp; omega) fun h' eb => ⟨rfl, I.turned (t' := s.toks) (fun b o hb e => eb b o hb e) f0 f1 f3 f4 f5⟩
 self := fun ψ ψ ψ ψ ψ st h => wpAny_pyIter_keyiter st h
def iDic (tl : TE) : TI := fun σ H R => tl σ H fun x H1 => ∃ a ob kvs, x = .ref a /\ H1 a = some (dE a ob kvs) /\ R (Itk a ob kvs) H1
theorem Zob {X : Cx} {tg l : Expr} {tl : TE} (hl : PE X l tl) : PI X tg l (iDic tl) := by
 intro pins s σ H R I h
 refine thn (hl pins s σ H _ I h) fun v s1 ⟨x, H1, I1, r1, q1⟩ => ?_
 obtain ⟨a, ob, kvs, e, ha, q⟩ := q1
 subst e
 cases r1
 obtain ⟨ns, vs, rv, hat⟩ := Zfd (I1.hok a _ ha)
 have hl : vs.length = kvs.length := by rw [<- rv.length, List.length_map]
 refine wpAny_pyIter_dict ns hat ?_
 refine ⟨s1.heap.objs.size, [s1.heap.objs.size], _, _, H1, rfl, I1.kept (t' := s1.toks) fun b o e => Heap.get?_push_of_some _ e, Zcs a _ ob kvs, ⟨_, Heap.get?_push_size _ rfl, rfl, by rw [hl]; rfl⟩, fun b hb => ?_, q⟩
 have e : b = s1.heap.objs.size := by simpa using hb
 subst e
 exact I1.fpOk (Nat.le_refl _) (I1.hok.fresh (Nat.le_refl _))
def Z4g (ps : Ps) : List U := ps.map fun p => U.int p.1
def Zac (fa : Ef) : Af := fun ρ ω => (fa ρ ω).bnd fun u ω1 => .of ((asD u).map Z4g) ω1
section
variable {W : Wd} {m : Md} {E : XK} {c : Bool} {ta : TE} {fa : Ef} {i : Nat}
theorem Zjk {Hb Hc : Hp} {a : Addr} {ob : Obj} {ps : Ps} {kvs : List (Int × V)} (r : RPs W Hc ps kvs) (k : ∀ Hc2 H2, Same Hc Hc2 -> Same Hc2 H2 -> (∀ b o, b ∉ W.L -> Hb b = some o -> H2 b = some o) -> H2 a = some (dE a ob kvs)) : ItR W Hb Hc (Itk a ob kvs) (Z4g ps) := by
 intro Hc2 H2 s1 s2 s3
 have ha := k Hc2 H2 s1 s2 s3
 have hk := r.keys
 refine ⟨fun i u hu => ?_, ha, by rw [Z4g, List.length_map, r.len]; exact Nat.le_refl _⟩
 unfold Z4g at hu
 rw [List.getElem?_map] at hu
 cases q : ps[i]? with
 | none => rw [q] at hu; cases hu
 | some p =>
  rw [q] at hu; cases hu
  have li : i < kvs.length := by rw [<- r.len]; exact (List.getElem?_eq_some_iff.mp q).1
  refine ⟨⟨ha, li⟩, fun x H3 y => ?_⟩
  obtain ⟨rfl, p', hp', rfl⟩ := y
  have e : p'.1 = p.1 := by
   have h1 : (kvs.map (·.1))[i]? = some p'.1 := by rw [List.getElem?_map, hp']; rfl
   rw [hk, List.getElem?_map, q] at h1
   exact (Option.some.inj h1).symm
  exact ⟨Hc2, Ext.refl s2, fun ψ ψ h => h, by rw [e]; exact .int⟩
theorem Zoc (ha : DE W m E ta fa) : DI W m E c (iDic ta) (Zac fa) := by
 intro H0 ρ ω σ Hc H ow S R h
 refine ha H0 ρ ω σ Hc H ow S _ ((Aft.bnd h).imp fun u ω1 Hc1 H1 e1 p1 h1 v rv => ?_)
 revert h1
 cases q : asD u with
 | none => exact fun h1 => h1.elim
 | some ps =>
  intro h1
  have := Z1w q; subst this
  have rv' : RU W Hc1 (L2.dicI ps) v := rv
  unfold L2.dicI at rv'
  rw [RU] at rv'
  obtain ⟨a, ob, kvs, rfl, ha, k, r⟩ := rv'
  exact ⟨a, ob, kvs, rfl, e1.sub _ _ ha, h1 Hc1 H1 (Ext.refl e1.sub) p1 _ (Zjk (.of k r) fun Hc2 H2 s1 s2 ψ => s2 _ _ (s1 _ _ ha))⟩
theorem Zjl (h2 : i ∉ m.M) : DI W m E c (iDic (tVar i)) (Zac (eVar i)) := by
 intro H0 ρ ω σ Hc H ow S R h
 by_cases hb : i ∈ m.B
 ·unfold Zac eVar at h
  split at h
  ·rename_i u e
   obtain ⟨v, q, rv⟩ := S.bo i u hb h2 e
   refine ⟨v, q, ?_⟩
   revert h
   show Aft W E Hc H (Res.of ((asD u).map Z4g) ω) _ -> _
   cases qa : asD u with
   | none => exact fun h => h.elim
   | some ps =>
    intro h
    have := Z1w qa; subst this
    rcases rv with rv | ⟨a, o, rfl, nl, q0, ow0⟩
    ·unfold dicI at rv
     rw [RU] at rv
     obtain ⟨a, ob, kvs, rfl, ha, k, r⟩ := rv
     exact ⟨a, ob, kvs, rfl, S.sub _ _ ha, h Hc H (Ext.refl S.sub) S.pl _ (Zjk (.of k r) fun Hc2 H2 s1 s2 ψ => s2 _ _ (s1 _ _ ha))⟩
    ·obtain ⟨ob, kvs, rfl, k, r⟩ := ow0
     refine ⟨a, ob, kvs, rfl, S.s0 _ _ nl q0, h Hc H (Ext.refl S.sub) S.pl _ (Zjk (.of k r) fun Hc2 H2 s1 s2 s3 => ?_)⟩
     cases c with
     | true => exact s3 _ _ nl (S.s0 _ _ nl q0)
     | false => exact s3 _ _ nl q0
  ·exact h.elim
 ·exact Zoc (Zbw hb h2) H0 ρ ω σ Hc H ow S R h
end
theorem Zct {kvs : List (Int × V)} {vs : List (Key × Value)} {P : Program} {w : World} {acc : List Value} (r : KV (kvK kvs) vs) (hl : acc.length = vs.length) (h : ∀ (i : Nat) (v : Value), acc[i]? = some v -> ∃ k x, vs[i]? = some (k, x) /\ (Z0b P w).is k v = true) : IntsAre acc (kvs.map (·.1)) := by
 induction kvs generalizing vs acc with
 | nil =>
  have r : KV [] vs := r
  cases r
  rw [List.length_nil] at hl
  rw [List.length_eq_zero_iff.mp hl]
  exact .nil
 | cons q kvs ih =>
  have r : KV ((Sum.inl q.1, q.2) :: kvK kvs) vs := r
  cases r with
  | cons r1 r2 =>
   rename_i b bs
   cases acc with
   | nil => simp at hl
   | cons x acc =>
    obtain ⟨k, y, z1, z2⟩ := h 0 x rfl
    simp at z1
    have e : k = .inl q.1 := by rw [show (Sum.inl q.1 : Key) = b.1 from r1.1, z1]
    subst e
    rcases Z0j (show Z3j (Sum.inl q.1) x = true from z2) with ⟨n, t, y1, y2⟩ | ⟨n, t, y1, y2⟩
    ·cases y1; subst y2
     exact .cons _ _ (ih r2 (by simpa using hl) fun i v hv => by
      obtain ⟨k, x, z1, z2⟩ := h (i + 1) v (by simpa using hv)
      exact ⟨k, x, by simpa using z1, z2⟩)
    ·cases y1
section
variable {ι : Type} (X : L2.FC ι) (W : Wd) (m : Md) (E : XK)
def QO (e : Expr) (f : Ef) : Prop := ∃ t, (∀ x, PE (X x) e t) /\ DO W m E t f
end
section
variable {ι : Type} {X : L2.FC ι} {W : Wd} {m : Md} {E : XK} {a b e : Expr} {fa fb f : Ef} {pos p tp : Pos} {x : Str} {c : Bool} {tg : Expr} {ss : List Stmt} {g : Sf}
theorem QO.te (h : QO X W m E e f) : QE X W m E e f := let ⟨t, p, d⟩ := h; ⟨t, p, d.e⟩
theorem QO.tb (h : QO X W m E e f) : QB X W m E e f := h.te.tb
theorem Zh2 : QO X W m E (.Dict [] [] pos) Zcr := ⟨_, fun ψ => Zjf, Zo9⟩
theorem Zod (ha : QB X W m E a fa) (hb : QE X W m E b fb) : QO X W m E (.Dict [some a] [b] pos) (eD1 fa fb) := let ⟨_, pa, da⟩ := ha; let ⟨_, pb, db⟩ := hb; ⟨_, fun y => Zcq (pa y) (pb y), Zoa da db⟩
theorem Z41 (cx : Ctx X W E) (B : Bl W.mg) (ha : QB X W m E a fa) (hg : ∀ y, Gl (X y) "dict" := by intro ψ; rfl) (hs : ∀ y, starEach [a] (X y).env = (false, eval a (X y).env) :: starEach [] (X y).env := by intro ψ; rfl) (hp : ∀ y, (backTo pos (starEach [] (X y).env)).any (·.1) = false := by intro ψ; rfl) : QO X W m E (.Call (.Name "dict" p) [a] [] pos) (eB Z24 (Z01 fa aNil)) :=
 let ⟨_, pa, da⟩ := qa_b ha Z04 hs; ⟨_, fun y => Z1q Zaa (hg y) ((congrFun (cx.hm y) _).trans B.dict) boot_dict (pa y) (by decide) (by decide) (hs y) (hp y), Zjj da⟩
theorem Z33 (i : Nat) (hN : ∀ y, (X y).N.Nodup) (ha : QO X W m E a fa) (hs : ∀ y, swapsWith a (some (.Name x p)) pos.line (X y).env = pure false := by intro ψ; rfl) (h1 : i ∉ m.B := by decide) (h2 : i ∈ m.M := by decide) (hi : ∀ y, (X y).N[i]? = some x := by intro ψ; rfl) (hx : ∀ y, Loc (X y).env.scope x := by intro ψ; first | exact Or.inl rfl | exact Or.inr rfl)
  (hf : ∀ y, (X y).fn x = true \/ (X y).env.scope.names.lookup x = some .local := by intro ψ; first | exact .inl rfl | exact .inr rfl) : QS X W m E (.Assign [.Name x p] a pos) (sSet i fa) := let ⟨_, pa, da⟩ := ha; ⟨_, fun y => Z8j (hN y) (hi y) (hx y) (pa y) (hs y) (hf y), Zji h1 h2 da⟩
theorem Z1i (cx : Ctx X W E) (ha : QB X W m E a fa) (hb : QB X W m E b fb) (hs : NoSl b := by exact fun ψ ψ => rfl) : QE X W m E (.Subscript a b pos) (eOp Z1p fa fb) := let ⟨_, pa, da⟩ := ha; let ⟨_, pb, db⟩ := hb; ⟨_, fun y => Zje (by have := cx.hu y; omega) (pa y) (pb y) hs, Zjg da db⟩
theorem Zcu (cx : Ctx X W E) (ha : QB X W m E a fa) (hb : QB X W m E b fb) (hm : lastMarks [.NotIn] [b] = false := by with_unfolding_all rfl) : QT X W m E (.Compare a [.NotIn] [b] pos) (tfB (eOp (uDIn true) fa fb)) := let ⟨_, pa, da⟩ := ha; let ⟨_, pb, db⟩ := hb; ⟨_, fun y => Zkp (Zco (by have := cx.hu y; omega) (pa y) (pb y)) hm, dt_b (Zo8 da db).b⟩
theorem Zjm (cx : Ctx X W E) (B : Bl W.mg) (ha : QB X W m E a fa) (hg : ∀ y, Gl (X y) "len" := by intro ψ; rfl) (hs : ∀ y, starEach [a] (X y).env = (false, eval a (X y).env) :: starEach [] (X y).env := by intro ψ; rfl) (hp : ∀ y, (backTo pos (starEach [] (X y).env)).any (·.1) = false := by intro ψ; rfl) : QE X W m E (.Call (.Name "len" p) [a] [] pos) (eB Zab (Z01 fa aNil)) :=
 let ⟨_, pa, da⟩ := qa_b ha Z04 hs; ⟨_, fun y => Z3e Zcp (hg y) ((congrFun (cx.hm y) _).trans B.len) boot_len (pa y) (by decide) (by decide) (hs y) (hp y), Zep Zjh da⟩
theorem Zfe {apos cpos : Pos} (cx : Ctx X W E) (ha : QB X W m E a fa) (hb : QB X W m E b fb) (hline : (apos.endLine == cpos.line) = true := by rfl) (hbase : ∀ y, attributeBase a "get" (X y).env (eval a (X y).env) = eval a (X y).env := by intro ψ; rfl)
  (hfew : ∀ y, ((backTo cpos (starEach [b] (X y).env)).all (fun x => !x.1) && (backToKw cpos (keywordEach [] (X y).env)).all (fun x => x.1.isSome) && decide (([b] : List Expr).length + ([] : List Keyword).length + (if ([] : List Keyword).isEmpty then 0 else 1) < 30)) = true := by intro ψ; rfl)
  (htr : ∀ y, backTo cpos (starEach [b] (X y).env) = [(false, eval b (X y).env)] := by intro ψ; rfl) : QE X W m E (.Call (.Attribute a "get" apos) [b] [] cpos) (Z72 fa fb) :=
 let ⟨_, pa, da⟩ := ha; let ⟨_, pb, db⟩ := hb; ⟨_, fun y => Zf8 (by have := cx.hu y; omega) (pa y) (pb y) ⟨hbase y, hfew y, hline, htr y⟩, Zfa da db⟩
theorem Z25 (i : Nat) (cx : Ctx X W E) (ha : QE X W m E a fa) (hb : QB X W m E b fb) (h2 : i ∈ m.M := by decide) (hN : ∀ y, (X y).N[i]? = some x := by intro ψ; rfl) (hv : ∀ y, Vis (X y).env.scope x := by intro ψ; first | exact Or.inl rfl | exact Or.inr (Or.inl rfl) | exact Or.inr (Or.inr rfl)) (hd : (x == ("__debug__" : Str)) = false := by decide) (hcd : (x == ("__classdict__" : Str)) = false := by decide)
  (hs : ∀ y, swapsWithSole [.Subscript (.Name x p) b tp] a pos.line (X y).env = pure false := by intro ψ; rfl) (hw : ∀ y, swappedStores [.Subscript (.Name x p) b tp] a (X y).env = pure none := by intro ψ; rfl) (h1 : ∀ y, (assignEach [.Subscript (.Name x p) b tp] (X y).env).map (·.2) = [assign (.Subscript (.Name x p) b tp) (X y).env] := by intro ψ; rfl)
  (hq : ∀ y v, assign (.Subscript (.Name x p) b tp) (X y).env v = (do
   let ov <- holding [v] (eval (.Name x p) (X y).env)
   let iv <- holding [v, ov] (eval b (X y).env)
   standAt tp
   holding [v, ov, iv] (setItem ov iv v)
   release [v, ov, iv] []) := by intro ψ ψ; rfl) : QS X W m E (.Assign [.Subscript (.Name x p) b tp] a pos) (Z1x i fb fa) :=
 let ⟨_, pa, da⟩ := ha; let ⟨_, pb, db⟩ := hb; ⟨_, fun y => Z62 (pa y) (Z61 (Z10 (hN y) (hv y) hd hcd) (pb y) (Zo7 (by have := cx.hu y; omega)) (hq y)) (hs y) (hw y) (h1 y), Zfb h2 db da⟩
theorem Zcv {apos cpos : Pos} (i : Nat) (ha : QB X W m E a fa) (h2 : i ∈ m.M := by decide) (hN : ∀ y, (X y).N[i]? = some x := by intro ψ; rfl) (hv : ∀ y, Vis (X y).env.scope x := by intro ψ; first | exact Or.inl rfl | exact Or.inr (Or.inl rfl) | exact Or.inr (Or.inr rfl)) (hd : (x == ("__debug__" : Str)) = false := by decide) (hcd : (x == ("__classdict__" : Str)) = false := by decide)
  (hline : (apos.endLine == cpos.line) = true := by rfl) (hbase : ∀ y, attributeBase (.Name x p) "pop" (X y).env (eval (.Name x p) (X y).env) = eval (.Name x p) (X y).env := by intro ψ; rfl)
  (hfew : ∀ y, ((backTo cpos (starEach [a] (X y).env)).all (fun x => !x.1) && (backToKw cpos (keywordEach [] (X y).env)).all (fun x => x.1.isSome) && decide (([a] : List Expr).length + ([] : List Keyword).length + (if ([] : List Keyword).isEmpty then 0 else 1) < 30)) = true := by intro ψ; rfl)
  (htr : ∀ y, backTo cpos (starEach [a] (X y).env) = [(false, eval a (X y).env)] := by intro ψ; rfl)
  (hs : ∀ y, swapsWith (.Call (.Attribute (.Name x p) "pop" apos) [a] [] cpos) none pos.line (X y).env = pure false := by intro ψ; rfl) : QS X W m E (.Expr (.Call (.Attribute (.Name x p) "pop" apos) [a] [] cpos) pos) (Z40 i fa) :=
 let ⟨_, pa, da⟩ := ha; ⟨_, fun y => Z52 (Zf9 (Z10 (hN y) (hv y) hd hcd) (pa y) ⟨hbase y, hfew y, hline, htr y⟩) (hs y), Zfc h2 da⟩
theorem Zjn (i : Nat) (h2 : i ∉ m.M := by decide) (hN : ∀ y, (X y).N[i]? = some x := by intro ψ; rfl) (hv : ∀ y, Vis (X y).env.scope x := by intro ψ; first | exact Or.inl rfl | exact Or.inr (Or.inl rfl) | exact Or.inr (Or.inr rfl)) (hd : (x == ("__debug__" : Str)) = false := by decide) (hcd : (x == ("__classdict__" : Str)) = false := by decide) : QI X W m E c tg (.Name x pos) (Zac (eVar i)) :=
 ⟨_, fun y => Zob (Z10 (hN y) (hv y) hd hcd), Zjl h2⟩
theorem Zh3 (is M' : List Nat) (h : QSs X W ⟨m.B, M'⟩ E ss g) (h1 : ∀ j ∈ m.M, j ∈ is \/ j ∈ M' := by decide) (h2 : ∀ j ∈ M', j ∈ m.M := by decide) (hB : ∀ i ∈ m.M, i ∉ m.B := by decide) : QSs X W m E ss (sFz is g) := let ⟨_, p, d⟩ := h; ⟨_, p, Zr0 is M' h1 h2 hB d⟩
end
section
variable {prog : Program} {w : World} {A : Around} {E : L2.VSP} {s : Shared} {a b : Addr} {oa ob : Obj} {ea eb : Array DictEntry} {pa pb : Nat} {id : String} {e : Nat -> Bool}
theorem Zad {Q : Bool -> Shared -> Prop} (knd : PySem.KeyKind prog w Key) (ha : s.heap.get? a = some oa) (da : oa.data = .dict ea pa) (hb : s.heap.get? b = some ob) (db : ob.data = .dict eb pb) (na : (a == sysModules) = false) (nb : (b == sysModules) = false)
  (hsz : ea.size = eb.size) (kb : PySem.KeysOf knd eb)
  (hk : ∀ i (hi : i < ea.size), ∃ k, knd.is k ea[i].key = true /\ ea[i].hash = knd.hash k /\ ((eb.findIdx? (fun x => knd.is k x.key) = none /\ e i = false) \/ ∃ j, ∃ hj : j < eb.size, eb.findIdx? (fun x => knd.is k x.key) = some j /\ SeqAt.EqAt A s ea[i].val eb[j].val (e i)))
  (h : Q ((List.range ea.size).all e) s) : wpAny (model prog w) A (Builtin.Dict.samePairs id a b) Q E s := by
 unfold Builtin.Dict.samePairs
 unfold Builtin.Dict.showsAll
 rw [if_neg (by rw [na]; exact Bool.false_ne_true), if_neg (by rw [nb]; exact Bool.false_ne_true)]
 refine wpAny_bind (wpAny_pure (wpAny_bind (wpAny_pure ?_)))
 refine wpAny_bind (wpAny_dictEntries ha da ?_)
 refine wpAny_bind (wpAny_dictEntries hb db ?_)
 rw [if_neg (by rw [hsz]; simp)]
 refine wpAny_bind (wpAny_dictEpoch ha da ?_)
 refine wpAny_bind ?_
 rw [Std.Legacy.Range.forIn_eq_forIn_range']
 simp only [Std.Legacy.Range.size, Nat.sub_zero, Nat.add_sub_cancel, Nat.div_one]
 refine wpAny_forIn_list _ (fun rest b s' => s' = s /\ b = (none, ()) /\ ∃ i, rest = List.range' i (ea.size - i) /\ i <= ea.size /\ (List.range i).all e = true) _ ?_ ?_ _ _ ⟨rfl, rfl, 0, by simp, Nat.zero_le _, by simp⟩
 ·rintro x rest b' s' ⟨rfl, rfl, i, hr, hi, hall⟩
  have hlt : i < ea.size := by
   rcases Nat.lt_or_ge i ea.size with h | h
   ·exact h
   ·rw [Nat.sub_eq_zero_of_le h] at hr; simp at hr
  obtain ⟨rfl, hrest⟩ : x = i /\ rest = List.range' (i + 1) (ea.size - (i + 1)) := by
   have e : ea.size - i = (ea.size - (i + 1)) + 1 := by omega
   rw [e, List.range'_succ] at hr
   injection hr with h1 h2
   exact ⟨h1, h2⟩
  refine wpAny_bind (wpAny_dictEntries ha da ?_)
  rw [Array.getElem?_eq_getElem hlt]
  obtain ⟨k, k1, k2, k3⟩ := hk x hlt
  have e0 : e x = false -> Q false s' := fun q => by
   have e0 : (List.range ea.size).all e = false := by
    rw [List.all_eq_false]
    exact ⟨x, List.mem_range.mpr hlt, by rw [q]; simp⟩
   rw [e0] at h; exact h
  show wpAny _ _ (holding [ea[x].key, ea[x].val] _ >>= _) _ _ _
  refine wpAny_bind (wpAny_holding ?_)
  rw [k2]
  refine wpAny_bind (wpAny_dictFind_of k1 hb db kb ?_)
  rcases k3 with ⟨z1, z2⟩ | ⟨j, hj, z1, z2⟩
  ·rw [z1]
   refine wpAny_pure ?_
   rw [if_pos (by rfl)]
   exact wpAny_pure (wpAny_pure (e0 z2))
  ·rw [z1]
   refine wpAny_bind (wpAny_dictEntries hb db ?_)
   rw [Array.getElem?_eq_getElem hj]
   refine wpAny_holding (z2 _ _ _ _ ?_)
   cases q : e x with
   | false =>
    rw [if_pos (by rfl)]
    exact wpAny_pure (wpAny_pure (e0 q))
   | true =>
    rw [if_neg (by simp)]
    refine wpAny_bind (wpAny_dictEpoch ha da ?_)
    rw [if_neg (by simp)]
    refine wpAny_pure ⟨rfl, rfl, x + 1, hrest, hlt, ?_⟩
    rw [List.range_succ, List.all_append, hall]
    simp [q]
 ·rintro b' s' ⟨rfl, rfl, i, hr, hi, hall⟩
  have hin : i = ea.size := by
   rcases Nat.lt_or_ge i ea.size with h | h
   ·have e : ea.size - i = (ea.size - (i + 1)) + 1 := by omega
    rw [e, List.range'_succ] at hr; cases hr
   ·omega
  subst hin
  rw [hall] at h
  exact wpAny_pure h
theorem Zjo {Q : Bool -> Shared -> Prop} (ha : s.heap.get? a = some oa) (da : oa.data = .dict ea pa) (hb : s.heap.get? b = some ob) (db : ob.data = .dict eb pb) (na : (a == sysModules) = false) (nb : (b == sysModules) = false)
  (hsz : ea.size ≠ eb.size) (h : Q false s) : wpAny (model prog w) A (Builtin.Dict.samePairs id a b) Q E s := by
 unfold Builtin.Dict.samePairs
 unfold Builtin.Dict.showsAll
 rw [if_neg (by rw [na]; exact Bool.false_ne_true), if_neg (by rw [nb]; exact Bool.false_ne_true)]
 refine wpAny_bind (wpAny_pure (wpAny_bind (wpAny_pure ?_)))
 refine wpAny_bind (wpAny_dictEntries ha da ?_)
 refine wpAny_bind (wpAny_dictEntries hb db ?_)
 rw [if_pos (by simp [hsz])]
 exact wpAny_bind (wpAny_rule (wpAny_pure h))
theorem Z2o : isSubtype (.type "dict") (.type "dict") = pure true := by rw [isSubtype_type]; kernel_rfl
theorem Zjp {k : Bool} {P : PySem.Fin -> Shared -> Prop} (Tb : s.TypeIs (.ref b) "dict") (hs : ∀ id (Q : Bool -> Shared -> Prop), Q k s -> wpAny (model prog w) A (Builtin.Dict.samePairs id a b) Q E s) (h : P (.done (.ret (.bool k))) s) : wpAny (model prog w) A (Builtin.«dict.__eq__» ⟨[.ref a, .ref b], []⟩) P E s := by
 show wpAny _ _ (Builtin.Dict.dictSlotArgs "__eq__" ⟨[.ref a, .ref b], []⟩ >>= _) _ _ _
 refine wpAny_bind (wpAny_pure ?_)
 refine wpAny_bind (wpAny_isInstance Tb Z2o ?_)
 rw [if_neg (by simp)]
 refine wpAny_bind (wpAny_pure (wpAny_bind (wpAny_pure ?_)))
 refine wpAny_bind (hs _ _ ?_)
 rw [show (k == true) = k by cases k <;> rfl]
 exact wpAny_pure h
theorem Zjq {k : Bool} {P : PySem.Fin -> Shared -> Prop} (Tb : s.TypeIs (.ref b) "dict") (hs : ∀ id (Q : Bool -> Shared -> Prop), Q k s -> wpAny (model prog w) A (Builtin.Dict.samePairs id a b) Q E s) (h : P (.done (.ret (.bool (!k)))) s) : wpAny (model prog w) A (Builtin.«dict.__ne__» ⟨[.ref a, .ref b], []⟩) P E s := by
 show wpAny _ _ (Builtin.Dict.dictSlotArgs "__ne__" ⟨[.ref a, .ref b], []⟩ >>= _) _ _ _
 refine wpAny_bind (wpAny_pure ?_)
 refine wpAny_bind (wpAny_isInstance Tb Z2o ?_)
 rw [if_neg (by simp)]
 refine wpAny_bind (wpAny_pure (wpAny_bind (wpAny_pure ?_)))
 refine wpAny_bind (hs _ _ ?_)
 rw [show (k == false) = !k by cases k <;> rfl]
 exact wpAny_pure h
end
def Z75 (ka : List Int) (ds : List L2.D) (kb : List Int) (es : List L2.D) : Bool := decide (ka.length = kb.length) && (List.range ka.length).all fun i => match kb.findIdx? (fun k => decide (k = ka.getD i 0)) with
 | some j => L2.D.eq (ds.getD i .non) (es.getD j .non)
 | none => false
theorem Z5o {α β : Type} {F : α -> β -> Prop} : ∀ {xs : List α} {ys : List β}, Paired F xs ys -> ∀ {i : Nat} {x : α}, xs[i]? = some x -> ∃ y, ys[i]? = some y /\ F x y
 | _, _, .nil, i, x, h => by simp at h
 | _, _, .cons r t, 0, x, h => by simp at h; subst h; exact ⟨_, rfl, r⟩
 | _, _, .cons r t, i + 1, x, h => by
  obtain ⟨y, h1, h2⟩ := Z5o t (i := i) (by simpa using h)
  exact ⟨y, by simpa using h1, h2⟩
theorem Z5p {α β : Type} {F : α -> β -> Prop} : ∀ {xs : List α} {ys : List β}, Paired F xs ys -> xs.length = ys.length
 | _, _, .nil => rfl
 | _, _, .cons r t => by simp [Z5p t]
theorem Z85 {K : L2.Fg} {H : Hp} : ∀ {ds : List L2.D} {vs : List V}, DVs K H ds vs -> ∀ {i : Nat} {v : V}, vs[i]? = some v -> DV K H (ds.getD i .non) v
 | [], vs, h, i, v, e => by rw [DVs] at h; subst h; simp at e
 | d :: ds, vs, h, i, v, e => by
  rw [DVs] at h
  obtain ⟨x, r, rfl, h1, h2⟩ := h
  cases i with
  | zero => simp at e; subst e; exact h1
  | succ i => simpa using Z85 h2 (i := i) (by simpa using e)
theorem Zcw : ∀ {ds : List L2.D} {i : Nat}, (ds.getD i .non).depth <= max 1 (L2.D.depths ds)
 | [], i => by
  show L2.D.depth .non <= _
  rw [L2.D.depth]
  all_goals simp
 | d :: ds, i => by
  rw [L2.D.depths]
  cases i with
  | zero => show d.depth <= _; omega
  | succ i =>
   have := Zcw (ds := ds) (i := i)
   show (ds.getD i .non).depth <= _
   omega
theorem fidx {α : Type} (p : α -> Bool) (xs : Array α) : xs.findIdx? p = xs.toList.findIdx? p := by
 cases xs; simp
def rEqD (K : L2.Fg) (neg : Bool) : R2 := fun x y H Q => ∃ a b oa ob ka kb ds es, x = .ref a /\ y = .ref b /\ H a = some (dE a oa ka) /\ H b = some (dE b ob kb) /\ DVs K H ds (ka.map (·.2)) /\ DVs K H es (kb.map (·.2)) /\ L2.D.depths ds <= 40 /\
 Q (.bl (if neg then !Z75 (ka.map (·.1)) ds (kb.map (·.1)) es else Z75 (ka.map (·.1)) ds (kb.map (·.1)) es)) H
section
variable {X : Cx} {pins : L2.AO} {σ : St} {H : Hp} {s : Shared}
theorem Zcx {A : Around} {a b : Addr} {oa ob : Obj} {ka kb : List (Int × V)} {ds es : List L2.D} {E : L2.VSP} (I : Inv X pins σ H s) (ha : H a = some (dE a oa ka)) (hb : H b = some (dE b ob kb)) (h1 : DVs X.K H ds (ka.map (·.2))) (h2 : DVs X.K H es (kb.map (·.2))) (hu : A.units + (max 1 (L2.D.depths ds)) < cLine) :
  s.TypeIs (.ref a) "dict" /\ s.TypeIs (.ref b) "dict" /\ ∀ id (Q : Bool -> Shared -> Prop), Q (Z75 (ka.map (·.1)) ds (kb.map (·.1)) es) s -> wpAny (model X.prog X.w) A (Builtin.Dict.samePairs id a b) Q E s := by
 obtain ⟨⟨ea1, na, la, ea, pa, xa, da, qa, _⟩, _, _⟩ := I.hok a _ ha
 obtain ⟨⟨eb1, nb, lb, eb, pb, xb, db, qb, ndb⟩, _, _⟩ := I.hok b _ hb
 refine ⟨⟨oa, ea1, xa.1⟩, ⟨ob, eb1, xb.1⟩, fun id Q h => ?_⟩
 have sa : ea.size = ka.length := by rw [<- Array.length_toList]; exact Z5p qa
 have sb : eb.size = kb.length := by rw [<- Array.length_toList]; exact Z5p qb
 unfold Z75 at h
 simp only [List.length_map] at h
 by_cases hl : ka.length = kb.length
 ·rw [decide_eq_true hl, Bool.true_and, <- sa] at h
  obtain ⟨vs, kv, kk, kp⟩ := Z5n (P := X.prog) (w := X.w) qb
  refine Zad (Z0b X.prog X.w) ea1 da eb1 db na nb (by omega) (fun x hx => kk x (by simpa using hx)) (fun i hi => ?_) h
  have hi' : ea.toList[i]? = some ea[i] := by simp [hi]
  obtain ⟨p, hp, p1, p2, p3⟩ := Z5o qa hi'
  refine ⟨.inl p.1, p1, p2 X.w, ?_⟩
  have ek : (ka.map (·.1)).getD i 0 = p.1 := by simp [List.getD, hp]
  have ef : eb.findIdx? (fun x => (Z0b X.prog X.w).is (.inl p.1) x.key) = (kb.map (·.1)).findIdx? (fun k => decide (k = p.1)) := by
   rw [fidx, kp.findIdx]
   have : vs.map (·.1) = (kb.map (·.1)).map (Sum.inl : Int -> Key) := by rw [<- kv.keys]; simp [kvK]
   rw [show (vs.findIdx? fun kv => decide (kv.1 = Sum.inl p.1)) = (vs.map (·.1)).findIdx? (fun k => decide (k = Sum.inl p.1)) by rw [List.findIdx?_map]; rfl, this, List.findIdx?_map]
   congr 1
   funext k
   simp only [Function.comp]
   by_cases c : k = p.1
   ·simp [c]
   ·simp [c]
  rw [ek, ef]
  cases q : (kb.map (·.1)).findIdx? (fun k => decide (k = p.1)) with
  | none => exact .inl ⟨rfl, rfl⟩
  | some j =>
   have hj : j < eb.size := by
    have := (List.findIdx?_eq_some_iff_getElem.mp q).1
    rw [sb]; simpa using this
   refine .inr ⟨j, hj, rfl, ?_⟩
   have hj' : eb.toList[j]? = some eb[j] := by simp [hj]
   obtain ⟨p', hp', _, _, p3'⟩ := Z5o qb hj'
   refine Zgi I _ _ A p.2 p'.2 _ _ p3 p3' (Z85 h1 (by rw [List.getElem?_map, hp]; rfl)) (Z85 h2 (by rw [List.getElem?_map, hp']; rfl)) ?_
   exact Nat.lt_of_le_of_lt (Nat.add_le_add_left Zcw _) hu
 ·rw [decide_eq_false hl, Bool.false_and] at h
  exact Zjo ea1 da eb1 db na nb (by omega) h
theorem Zru (hu : X.A.units + 64 < cLine) : OpR X (compareOp .Eq) (rEqD X.K false) := by
 intro pins s σ H x y v u Q I rx ry h
 obtain ⟨a, b, oa, ob, ka, kb, ds, es, rfl, rfl, ha, hb, h1, h2, hd, q⟩ := h
 cases rx; cases ry
 obtain ⟨t1, t2, key⟩ := Zcx (A := X.A.in1) (E := X.xe) I ha hb h1 h2 (by rw [Z1e]; omega)
 refine wpAny_richCompare_same_room (op := .Eq) t1 t2 PySem.F.slot_dict_eq (wpAny_call_entry PySem.F.slot_dict_eq t1 PySem.F.entry_dict_eq (Zjp t2 key ⟨_, rfl, (fun z => nomatch z), ?_⟩) (PySem.F.args_dict_eq_2 _ _)) (by omega)
 exact ⟨.bl _, H, I, rfl, q⟩
theorem Zoe (hu : X.A.units + 64 < cLine) : OpR X (compareOp .NotEq) (rEqD X.K true) := by
 intro pins s σ H x y v u Q I rx ry h
 obtain ⟨a, b, oa, ob, ka, kb, ds, es, rfl, rfl, ha, hb, h1, h2, hd, q⟩ := h
 cases rx; cases ry
 obtain ⟨t1, t2, key⟩ := Zcx (A := X.A.in1) (E := X.xe) I ha hb h1 h2 (by rw [Z1e]; omega)
 refine wpAny_richCompare_same_room (op := .NotEq) t1 t2 PySem.F.slot_dict_ne (wpAny_call_entry PySem.F.slot_dict_ne t1 PySem.F.entry_dict_ne (Zjq t2 key ⟨_, rfl, (fun z => nomatch z), ?_⟩) (PySem.F.args_dict_ne_2 _ _)) (by omega)
 exact ⟨.bl _, H, I, rfl, q⟩
end
def uEqD (neg : Bool) (u v : U) : Option U := (asD u).bind fun ps => (asD v).bind fun qs => (U.toDs (ps.map (·.2))).bind fun ds => (U.toDs (qs.map (·.2))).bind fun es => if L2.D.depths ds <= 40 then
 some (.bl (if neg then !Z75 (ps.map (·.1)) ds (qs.map (·.1)) es else Z75 (ps.map (·.1)) ds (qs.map (·.1)) es)) else none
section
variable {W : Wd} {m : Md} {E : XK}
theorem Zof {neg : Bool} : OpU W (rEqD W.K neg) (uEqD neg) := by
 intro Hc H ω u1 u2 x y s p rx ry u e Q k
 unfold uEqD at e
 cases q1 : asD u1 with
 | none => rw [q1] at e; exact noS e
 | some ps =>
  cases q2 : asD u2 with
  | none => rw [q1, q2] at e; exact noS e
  | some qs =>
   rw [q1, q2] at e
   simp only [Option.bind_some] at e
   cases d1 : U.toDs (ps.map (·.2)) with
   | none => rw [d1] at e; exact noS e
   | some ds =>
    cases d2 : U.toDs (qs.map (·.2)) with
    | none => rw [d1, d2] at e; exact noS e
    | some es =>
     rw [d1, d2] at e
     simp only [Option.bind_some] at e
     split at e
     ·rename_i hd
      cases e
      have := Z1w q1; subst this
      have := Z1w q2; subst this
      obtain ⟨a, oa, ka, rfl, ha, ra⟩ := rx.dicI s
      obtain ⟨b, ob, kb, rfl, hb, rb⟩ := ry.dicI s
      refine ⟨a, b, oa, ob, ka, kb, ds, es, rfl, rfl, ha, hb, Z4o d1 (ra.to.2.mono s), Z4o d2 (rb.to.2.mono s), hd, ?_⟩
      rw [ra.keys, rb.keys]
      exact k _ Hc H (Ext.refl s) p .bl
     ·cases e
variable {ι : Type} {X : L2.FC ι} {a b : Expr} {fa fb : Ef} {pos : Pos}
theorem Zjr {Y : Cx} {K : L2.Fg} (h : Y.K = K) (hu : Y.A.units + 64 < cLine) : OpR Y (compareOp .NotEq) (rEqD K true) := h ▸ Zoe hu
theorem Zog (cx : Ctx X W E) (ha : QB X W m E a fa) (hb : QB X W m E b fb) : QT X W m E (.Compare a [.NotEq] [b] pos) (tfB (eOp (uEqD true) fa fb)) := Z36 (fun y => Zjr (cx.hK y) (cx.hu y)) Zof (Z2i _) ha hb
end
def Z94 (j : Nat) (fa : Ef) : Sf := fun ρ ω => match ρ[j]? with
 | some (some (.lst ws)) => Fl.of (fa ρ ω) fun u ω1 => match u with
  | .int k => if 0 <= k /\ k.toNat < ws.length /\ ws.length <= sizeLine then .nx (ρ.set j (some (.lst (ws.eraseIdx k.toNat)))) ω1 else .stk
  | _ => .stk
 | _ => .stk
def Z42 (i j : Nat) : Sf := fun ρ ω => match ρ[j]? with
 | some (some (.lst ws)) => match ws.getLast? with
  | some w => .nx ((ρ.set j (some (.lst ws.dropLast))).set i (some w)) ω
  | none => .stk
 | _ => .stk
section
variable {W : Wd} {m : Md} {E : XK} {i j : Nat} {ta : TE} {fa : Ef}
theorem Zff {K : L2.Fg} (hj : j ∈ m.M) (ha : DB W m E ta fa) : DS W m E (Z3k (tBM K "list" Zba (tVar j) (Z3l ta tNil))) (Z94 j fa) := by
 intro H0 Hc0 ρ ω σ Hc H ow S x D h
 unfold Z94 at h
 split at h
 ·rename_i ws ej
  obtain ⟨ws0, xs0, y1, y2, y3, y4, y5, y6⟩ := S.muL j _ hj ej
  cases y1
  refine ⟨_, y2, .inl ⟨rfl, xs0, .of y3⟩, ha H0 ρ ω σ Hc H ow S _ ((Cont.of x h).imp fun u ω1 Hc1 H1 e1 p1 k v rv => ?_)⟩
  revert k
  split
  ·rename_i n
   split
   ·rename_i c
    intro k
    have := rv.int; subst this
    have S1 := S.ext e1 p1
    have lx : xs0.length = ws.length := y6.len.symm
    have hw : ws[n.toNat]? = some (ws[n.toNat]'c.2.1) := by simp [c.2.1]
    obtain ⟨y, hy, ry⟩ := (y6.mono e1.sc).at (i := 0) hw
    have sl : sizeLine = 16777216 := sizeLine_eq
    refine ⟨ow j, xs0, n, n.toNat, y, rfl, rfl, e1.same _ _ (S.nl y5) y3, by lia, by lia, seqIndex_of c.1 (by lia), hy, ?_⟩
    exact k _ Hc1 _ ow (S1.mut hj ej ((y6.mono e1.sc).erase n.toNat)) (S1.mutE hj ej (x.trans e1))
   ·exact fun k => k.elim
  ·exact fun k => k.elim
 ·exact h.elim
theorem Zcy {K : L2.Fg} (h1 : i ∉ m.B) (h2 : i ∉ m.M) (hj : j ∈ m.M) : DS W m E (tAsg (tBM0 K "list" rPop (tVar j)) (Z7t i)) (Z42 i j) := by
 intro H0 Hc0 ρ ω σ Hc H ow S x D h
 unfold Z42 at h
 split at h
 ·rename_i ws e
  split at h
  ·rename_i w hw
   obtain ⟨us0, vs0, z1, z2, z3, z4, z5, z6⟩ := S.muL j _ hj e
   cases z1
   have l := z6.len
   have hw' : ws[ws.length - 1]? = some w := by rw [List.getLast?_eq_getElem?] at hw; exact hw
   obtain ⟨y, hy, ry⟩ := z6.at (i := 0) hw'
   have rd : RUs W Hc ws.dropLast vs0.dropLast := by rw [List.dropLast_eq_take, List.dropLast_eq_take, l]; exact z6.take _
   exact ⟨_, z2, .inl ⟨rfl, vs0, .of z3⟩, ow j, vs0, y, rfl, rfl, z3, by rw [<- l]; exact hy, h _ Hc _ ow ((S.mut hj e rd).set h1 h2 ry) (S.mutE hj e x)⟩
  ·exact h.elim
 ·exact h.elim
end
def putU : U -> Int -> U -> Option U
 | .lst us, k, u => (ixN us.length k).map fun j => .lst (us.set j u)
 | d, k, u => (asD d).bind fun ps => if ps.length < 10000 then some (dicI (putI ps k u)) else none
def Zcz : TSet := fun o i v H Q => Zjc o i v H Q \/ Zea o i v H Q
theorem Zoh {X : Cx} (hu : X.A.units + 1 < cLine) : PSet X Zcz := by
 intro pins s σ H x y v ov iv u Q I r1 r2 r3 h
 rcases h with h | h
 ·exact Zo7 hu pins s σ H x y v ov iv u Q I r1 r2 r3 h
 ·exact Z54 pins s σ H x y v ov iv u Q I r1 r2 r3 h
section
variable {W : Wd} {m : Md} {E : XK} {i : Nat} {ta tb tc : TE} {fa fb fc : Ef}
theorem Zr2 {ρ : En} {ω : Om} {σ : St} {H0 Hc H : Hp} {ow : Nat -> Addr} {w u w' : U} {k : Int} {v : V} {Q : Hp -> Prop} (S : Sr W m ρ ω σ H0 Hc H ow) (hi : i ∈ m.M) (e : ρ[i]? = some (some w)) (hp : putU w k u = some w') (rv : RU W Hc u v) (h : ∀ o', OwO W Hc (ow i) w' o' -> Q (upd H (ow i) o')) : Zcz (.ref (ow i)) (.int k) v H Q := by
 unfold putU at hp
 split at hp
 ·rename_i us
  obtain ⟨us0, vs0, z1, z2, z3, z4, z5, z6⟩ := S.muL i _ hi e
  cases z1
  cases q : ixN us.length k with
  | none => rw [q] at hp; exact noS hp
  | some j =>
   rw [q] at hp; cases hp
   exact .inr ⟨ow i, vs0, k, j, rfl, rfl, z3, by rw [<- z6.len]; exact q, h _ ⟨_, rfl, z6.set j rv⟩⟩
 ·cases q : asD w with
  | none => rw [q] at hp; exact noS hp
  | some ps =>
   rw [q] at hp
   simp only [Option.bind_some] at hp
   split at hp
   ·rename_i hl
    cases hp
    have := Z1w q; subst this
    obtain ⟨ob, kvs, z2, z3, z4, z5, z6⟩ := S.muI hi e
    exact .inl ⟨ow i, ob, kvs, k, rfl, rfl, z3, by rw [<- z6.len, sizeLine_eq]; omega, fun ob' => h _ (OwO.dicI (z6.put rv))⟩
   ·cases hp
def two : U -> Option (U × U)
 | .tup [a, b] => some (a, b)
 | _ => none
def Z2p (i : Nat) (fb : Ef) (u : U) : Sf := fun ρ ω => match ρ[i]? with
 | some (some w) => Fl.of (fb ρ ω) fun k ω1 => match k with
  | .int k => match putU w k u with
   | some w' => .nx (ρ.set i (some w')) ω1
   | none => .stk
  | _ => .stk
 | _ => .stk
def Zfg (i : Nat) (fb fc fa : Ef) : Sf := fun ρ ω => Fl.of (fa ρ ω) fun u ω1 => match two u with
 | some (u, v) => match Z2p i fb u ρ ω1 with
  | .nx ρ' ω' => Z2p i fc v ρ' ω'
  | .err c p ω' => .err c p ω'
  | _ => .stk
 | none => .stk
theorem Z86 {ρ : En} {ω : Om} {u : U} : (∀ ρ' ω', Z2p i fb u ρ ω ≠ .bk ρ' ω') /\ (∀ ρ' ω', Z2p i fb u ρ ω ≠ .ct ρ' ω') /\ (∀ u' ω', Z2p i fb u ρ ω ≠ .rt u' ω') := by
 have key : ∀ r, r = Z2p i fb u ρ ω -> (match r with | .bk _ _ => False | .ct _ _ => False | .rt _ _ => False | _ => True) := fun r hr => by
  unfold Z2p at hr
  split at hr
  ·cases q : fb ρ ω with
   | ok k ω1 =>
    rw [q] at hr
    simp only [Fl.of_ok] at hr
    split at hr
    ·split at hr <;> (subst hr; trivial)
    ·subst hr; trivial
   | err c p ω1 => rw [q] at hr; subst hr; trivial
   | stk => rw [q] at hr; subst hr; trivial
  ·subst hr; trivial
 exact ⟨fun ψ ψ z => key _ z.symm, fun ψ ψ z => key _ z.symm, fun ψ ψ z => key _ z.symm⟩
theorem Zoi {H0 Hc0 : Hp} {ρ : En} {ω : Om} {σ : St} {Hc H : Hp} {ow : Nat -> Addr} {u : U} {v : V} {Q : St -> Hp -> Prop} (hi : i ∈ m.M) (hb : DB W m E tb fb) (S : Sr W m ρ ω σ H0 Hc H ow) (x : Ext W Hc0 H0 Hc H) (rv : RU W Hc u v)
  (h : Cont W m E Hc0 H0 { nx := Q, rt := fun ψ ψ => False } (Z2p i fb u ρ ω)) : gSub (tVar i) tb Zcz v σ H Q := by
 unfold Z2p at h
 split at h
 ·rename_i w e
  obtain ⟨o, z2, z3, z4, z5, z6⟩ := S.mu i w hi e
  refine ⟨_, z2, hb H0 ρ ω σ Hc H ow S _ ((Cont.of x h).imp fun ku ω2 Hc2 H2 e2 p2 k2 y ry => ?_)⟩
  revert k2
  cases ku with
  | int kk =>
   have := ry.int; subst this
   simp only
   split
   ·rename_i w' hp
    intro k2
    have S2 := S.ext e2 p2
    exact Zr2 S2 hi e hp (rv.mono e2.sc) fun o' ho => k2 _ Hc2 _ ow (S2.mutO hi e ho) (S2.mutE hi e (x.trans e2))
   ·exact fun k2 => k2.elim
  | _ => exact fun k2 => k2.elim
 ·exact h.elim
theorem Zjs (hi : i ∈ m.M) (ha : DE W m E ta fa) (hb : DB W m E tb fb) (hc : DB W m E tc fc) : DS W m E (tAsg ta (gTup W.K 2 (Ze3 (gSub (tVar i) tb Zcz) (Ze3 (gSub (tVar i) tc Zcz) gNil)))) (Zfg i fb fc fa) := by
 intro H0 Hc0 ρ ω σ Hc H ow S x D h
 refine ha H0 ρ ω σ Hc H ow S _ ((Cont.of x h).imp fun u ω1 Hc1 H1 e1 p1 k v rv => ?_)
 have S1 := S.ext e1 p1
 have x1 := x.trans e1
 revert k
 cases q : two u with
 | none => exact fun k => k.elim
 | some ab =>
  obtain ⟨a, b⟩ := ab
  intro k
  simp only at k
  unfold two at q
  split at q
  ·cases q
   rw [RU] at rv
   obtain ⟨p, vs, rfl, hp, rs⟩ := rv
   rw [RUs] at rs
   obtain ⟨v1, r1, rfl, rv1, rs⟩ := rs
   rw [RUs] at rs
   obtain ⟨v2, r2, rfl, rv2, rs⟩ := rs
   rw [RUs] at rs
   subst rs
   refine ⟨p, [v1, v2], rfl, .of (e1.sub _ _ hp), rfl, v1, [v2], rfl, Zoi hi hb S1 x1.again rv1 ?_⟩
   revert k
   cases Z2p i fb a ρ ω1 with
   | nx ρ' ω' =>
    intro k σ' Hc' H' ow' S' x'
    refine ⟨v2, [], rfl, Zoi hi hc S' (x1.comp x') (rv2.mono x'.sc) ?_⟩
    simp only at k
    revert k
    cases hq : Z2p i fc b ρ' ω' with
    | nx ρ2 ω2 => exact fun k σ2 Hc2 H2 ow2 S2 x2 => ⟨rfl, k σ2 Hc2 H2 ow2 S2 x2⟩
    | err c pl ω2 => exact fun k => k
    | stk => exact fun k => k
    | bk ρ2 ω2 => exact absurd hq (Z86.1 _ _)
    | ct ρ2 ω2 => exact absurd hq (Z86.2.1 _ _)
    | rt u ω2 => exact absurd hq (Z86.2.2 _ _)
   | bk ρ' ω' => exact fun k => k.elim
   | ct ρ' ω' => exact fun k => k.elim
   | rt u ω' => exact fun k => k.elim
   | err c pl ω' => exact fun k C od Hc4 H4 x4 => k C od Hc4 H4 (x1.comp x4)
   | stk => exact fun k => k
  ·cases q
end
section
variable {ι : Type} {X : L2.FC ι} {W : Wd} {m : Md} {E : XK} {a b c : Expr} {fa fb fc : Ef} {pos p p1 p2 tp tp1 tp2 : Pos} {x x2 : Str}
theorem Zjt {Y : Cx} {K : L2.Fg} {s : Stmt} {T : String} {r : V -> List V -> Hp -> VK -> Prop} {to : TE} {t : TA} (h : Y.K = K) (q : PS Y s (Z3k (tBM Y.K T r to t))) : PS Y s (Z3k (tBM K T r to t)) := h ▸ q
theorem Zpq {apos cpos : Pos} (i : Nat) (cx : Ctx X W E) (ha : QB X W m E a fa) (h2 : i ∈ m.M := by decide) (hN : ∀ y, (X y).N[i]? = some x := by intro ψ; rfl) (hv : ∀ y, Vis (X y).env.scope x := by intro ψ; first | exact Or.inl rfl | exact Or.inr (Or.inl rfl) | exact Or.inr (Or.inr rfl)) (hd : (x == ("__debug__" : Str)) = false := by decide) (hcd : (x == ("__classdict__" : Str)) = false := by decide)
  (hline : (apos.endLine == cpos.line) = true := by rfl) (hst : ∀ y, starEach [a] (X y).env = (false, eval a (X y).env) :: starEach [] (X y).env := by intro ψ; rfl) (hp : ∀ y, (backTo cpos (starEach [] (X y).env)).any (·.1) = false := by intro ψ; rfl)
  (hbase : ∀ y, attributeBase (.Name x p) "pop" (X y).env (eval (.Name x p) (X y).env) = eval (.Name x p) (X y).env := by intro ψ; rfl)
  (hfew : ∀ y, ((backTo cpos (starEach [a] (X y).env)).all (fun x => !x.1) && (backToKw cpos (keywordEach [] (X y).env)).all (fun x => x.1.isSome) && decide (([a] : List Expr).length + ([] : List Keyword).length + (if ([] : List Keyword).isEmpty then 0 else 1) < 30)) = true := by intro ψ; rfl)
  (hs : ∀ y, swapsWith (.Call (.Attribute (.Name x p) "pop" apos) [a] [] cpos) none pos.line (X y).env = pure false := by intro ψ; rfl) : QS X W m E (.Expr (.Call (.Attribute (.Name x p) "pop" apos) [a] [] cpos) pos) (Z94 i fa) :=
 let ⟨_, pa, da⟩ := ha; ⟨_, fun y => Zjt (cx.hK y) (Z52 (Zeb PySem.F.plainAttrs_list PySem.F.slot_list_pop PySem.F.type_list_pop Z8p (Z10 (hN y) (hv y) hd hcd) (Z1y (pa y) Z3m (hst y)) (hbase y) (hfew y) hline (hst y) (hp y)) (hs y)), Zff h2 da⟩
theorem Zju {Y : Cx} {K : L2.Fg} {s : Stmt} {T : String} {r : V -> List V -> Hp -> VK -> Prop} {to : TE} {g : TG} (h : Y.K = K) (q : PS Y s (tAsg (tBM0 Y.K T r to) g)) : PS Y s (tAsg (tBM0 K T r to) g) := h ▸ q
theorem Zd0 {apos cpos : Pos} (i j : Nat) (cx : Ctx X W E) (hN : ∀ y, (X y).N.Nodup) (hj : j ∈ m.M := by decide) (h1 : i ∉ m.B := by decide) (h2 : i ∉ m.M := by decide) (hi : ∀ y, (X y).N[i]? = some x := by intro ψ; rfl) (hx : ∀ y, Loc (X y).env.scope x := by intro ψ; first | exact Or.inl rfl | exact Or.inr rfl)
  (hf : ∀ y, (X y).fn x = true \/ (X y).env.scope.names.lookup x = some .local := by intro ψ; first | exact .inl rfl | exact .inr rfl) (hN2 : ∀ y, (X y).N[j]? = some x2 := by intro ψ; rfl) (hv : ∀ y, Vis (X y).env.scope x2 := by intro ψ; first | exact Or.inl rfl | exact Or.inr (Or.inl rfl) | exact Or.inr (Or.inr rfl)) (hd : (x2 == ("__debug__" : Str)) = false := by decide) (hcd : (x2 == ("__classdict__" : Str)) = false := by decide)
  (hline : (apos.endLine == cpos.line) = true := by rfl) (hbase : ∀ y, attributeBase (.Name x2 p2) "pop" (X y).env (eval (.Name x2 p2) (X y).env) = eval (.Name x2 p2) (X y).env := by intro ψ; rfl)
  (hs : ∀ y, swapsWith (.Call (.Attribute (.Name x2 p2) "pop" apos) [] [] cpos) (some (.Name x p)) pos.line (X y).env = pure false := by intro ψ; rfl) : QS X W m E (.Assign [.Name x p] (.Call (.Attribute (.Name x2 p2) "pop" apos) [] [] cpos) pos) (Z42 i j) :=
 ⟨_, fun y => Zju (cx.hK y) (Z8j (hN y) (hi y) (hx y) (Zlk PySem.F.plainAttrs_list PySem.F.slot_list_pop PySem.F.type_list_pop Zlm (Z10 (hN2 y) (hv y) hd hcd) (hbase y) hline) (hs y) (hf y)), Zcy h1 h2 hj⟩
theorem Zjv {Y : Cx} {K : L2.Fg} {s : Stmt} {te : TE} {n : Nat} {g : TGs} (h : Y.K = K) (q : PS Y s (tAsg te (gTup Y.K n g))) : PS Y s (tAsg te (gTup K n g)) := h ▸ q
theorem Zjw {k : Nat} (i : Nat) (cx : Ctx X W E) (ha : QE X W m E a fa) (hb : QB X W m E b fb) (hc : QB X W m E c fc) (h2 : i ∈ m.M := by decide) (hN : ∀ y, (X y).N[i]? = some x := by intro ψ; rfl) (hv : ∀ y, Vis (X y).env.scope x := by intro ψ; first | exact Or.inl rfl | exact Or.inr (Or.inl rfl) | exact Or.inr (Or.inr rfl)) (hd : (x == ("__debug__" : Str)) = false := by decide) (hcd : (x == ("__classdict__" : Str)) = false := by decide)
  (hs : ∀ y, swapsWithSole [.Tuple [.Subscript (.Name x p1) b tp1, .Subscript (.Name x p2) c tp2] k tp] a pos.line (X y).env = pure false := by intro ψ; rfl) (hw : ∀ y, swappedStores [.Tuple [.Subscript (.Name x p1) b tp1, .Subscript (.Name x p2) c tp2] k tp] a (X y).env = pure none := by intro ψ; rfl) (h1 : ∀ y, (assignEach [.Tuple [.Subscript (.Name x p1) b tp1, .Subscript (.Name x p2) c tp2] k tp] (X y).env).map (·.2) = [assign (.Tuple [.Subscript (.Name x p1) b tp1, .Subscript (.Name x p2) c tp2] k tp) (X y).env] := by intro ψ; rfl)
  (hq1 : ∀ y v, assign (.Subscript (.Name x p1) b tp1) (X y).env v = (do
   let ov <- holding [v] (eval (.Name x p1) (X y).env)
   let iv <- holding [v, ov] (eval b (X y).env)
   standAt tp1
   holding [v, ov, iv] (setItem ov iv v)
   release [v, ov, iv] []) := by intro ψ ψ; rfl)
  (hq2 : ∀ y v, assign (.Subscript (.Name x p2) c tp2) (X y).env v = (do
   let ov <- holding [v] (eval (.Name x p2) (X y).env)
   let iv <- holding [v, ov] (eval c (X y).env)
   standAt tp2
   holding [v, ov, iv] (setItem ov iv v)
   release [v, ov, iv] []) := by intro ψ ψ; rfl)
  (e1 : ∀ y, (assignEach [.Subscript (.Name x p1) b tp1, .Subscript (.Name x p2) c tp2] (X y).env).map (·.2) = assign (.Subscript (.Name x p1) b tp1) (X y).env :: (assignEach [.Subscript (.Name x p2) c tp2] (X y).env).map (·.2) := by intro ψ; rfl)
  (e2 : ∀ y, (assignEach [.Subscript (.Name x p2) c tp2] (X y).env).map (·.2) = assign (.Subscript (.Name x p2) c tp2) (X y).env :: (assignEach [] (X y).env).map (·.2) := by intro ψ; rfl)
  (hn : ∀ y, (assignEach [.Subscript (.Name x p1) b tp1, .Subscript (.Name x p2) c tp2] (X y).env).length = 2 := by intro ψ; rfl) (hst : ∀ y, (assignEach [.Subscript (.Name x p1) b tp1, .Subscript (.Name x p2) c tp2] (X y).env).findIdx? (·.1) = none := by intro ψ; rfl) :
  QS X W m E (.Assign [.Tuple [.Subscript (.Name x p1) b tp1, .Subscript (.Name x p2) c tp2] k tp] a pos) (Zfg i fb fc fa) :=
 let ⟨_, pa, da⟩ := ha; let ⟨_, pb, db⟩ := hb; let ⟨_, pc, dc⟩ := hc
 ⟨_, fun y => Zjv (cx.hK y) (Z62 (pa y) (Zkz (cx.calm y) (Z53 (Z61 (Z10 (hN y) (hv y) hd hcd) (pb y) (Zoh (by have := cx.hu y; omega)) (hq1 y)) (Z53 (Z61 (Z10 (hN y) (hv y) hd hcd) (pc y) (Zoh (by have := cx.hu y; omega)) (hq2 y)) Zau (e2 y)) (e1 y)) (hn y) (hst y)) (hs y) (hw y) (h1 y)), Zjs h2 da db dc⟩
end
theorem Z76 : Slot "reversed" "__init__" "object.__init__" :=
 .of (owner := "object") (n := "__init__") (by rw [typeLookup_type, builtinLookup_eq_fast]; kernel_rfl) (by decide +kernel) (by decide +kernel) (by decide +kernel)
  (by first | exact .inl (by decide +kernel) | exact .inr (by decide +kernel)) (by rw [isSubtype_type]; kernel_rfl)
theorem Zd1 : TypeCalled "reversed" "reversed.__new__" "object.__init__" :=
 ⟨by decide +kernel, by decide +kernel, ⟨_, _, PySem.F.mro_reversed⟩, PySem.F.made_reversed, by decide +kernel, by rw [isSubtype_type]; kernel_rfl, Z76⟩
theorem Z77 : typeLookup (.type "tuple") "__reversed__" = pure none := by rw [typeLookup_type, builtinLookup_eq_fast]; kernel_rfl
theorem Z1b : Slot "reversed" "__next__" "reversed.__next__" :=
 .of (owner := "reversed") (n := "__next__") (by rw [typeLookup_type, builtinLookup_eq_fast]; kernel_rfl) (by decide +kernel) (by decide +kernel) (by decide +kernel)
  (by first | exact .inl (by decide +kernel) | exact .inr (by decide +kernel)) (by rw [isSubtype_type]; kernel_rfl)
theorem Z2q : entryFor table "reversed.__next__" = some Builtin.«reversed.__next__» := entryFor_of_tree (by kernel_rfl)
theorem Z38 (a : Value) : argsOk "reversed.__next__" ⟨[a], []⟩ := by unfold argsOk; kernel_rfl
theorem Z39 : Slot "reversed" "__iter__" "reversed.__iter__" :=
 .of (owner := "reversed") (n := "__iter__") (by rw [typeLookup_type, builtinLookup_eq_fast]; kernel_rfl) (by decide +kernel) (by decide +kernel) (by decide +kernel)
  (by first | exact .inl (by decide +kernel) | exact .inr (by decide +kernel)) (by rw [isSubtype_type]; kernel_rfl)
theorem Z78 (a : Value) : argsOk "reversed.__iter__" ⟨[a], []⟩ := by unfold argsOk; kernel_rfl
theorem Z5q : entryFor table "reversed.__iter__" = some Builtin.«dict_keyiterator.__iter__» :=
 entryFor_alias (id' := "dict_keyiterator.__iter__") (by kernel_rfl) (by first | rfl | decide +kernel | (unfold String.splitOn; simp +decide [String.splitOnAux])) (by decide +kernel) (by kernel_rfl)
theorem Z79 : isSubtype (.type "tuple") (.type "dict") = pure false := by rw [isSubtype_type]; kernel_rfl
def Z7a (l : Addr) (i : Int) : Obj := { cls := .type "reversed", data := .fields #[.ref l, rawInt i] }
section
variable {prog : Program} {w : World} {A : Around} {E : L2.VSP} {s : Shared}
theorem Zoj {tu : Addr} {its : Array Value} {Q : PySem.Fin -> Shared -> Prop} (T : s.heap.IsTuple tu its) (hz : its.size < 2 ^ 63)
  (q : ∀ tk, Q (.done (.ret (.ref s.heap.objs.size))) { s with heap := s.heap.push (Z7a tu ((its.size : Int) - 1)), toks := tk }) :
  wpAny (model prog w) A (Builtin.«reversed.__new__» ⟨[.type "reversed", .ref tu], []⟩) Q E s := by
 unfold Builtin.«reversed.__new__»
 refine wpAny_bind (wpAny_of_eq (newClass_reversed _) ?_)
 try dsimp only
 refine wpAny_bind (wpAny_of_eq (a := ()) (by first | rfl | kernel_rfl) ?_)
 refine wpAny_bind (wpAny_of_eq (a := ()) (by first | rfl | kernel_rfl) ?_)
 try dsimp only
 refine wpAny_bind (wpAny_specialOf T.typeIs Z77 ?_)
 try dsimp only
 refine wpAny_bind ?_
 show wpAny _ _ (isInstance (.ref tu) (.type "dict") >>= _) _ _ _
 refine wpAny_bind (wpAny_isInstance T.typeIs Z79 ?_)
 rw [if_neg (by simp)]
 refine wpAny_bind (wpAny_specialOf T.typeIs PyProof.Rows.slot_tuple_getitem.lookup ?_)
 dsimp only
 rw [if_pos (by decide)]
 refine wpAny_pure ?_
 rw [if_neg (by simp)]
 refine wpAny_bind (len_tuple (show IsTup s.heap tu its from T) (by omega) ?_)
 refine wpAny_bind (wpAny_of_eq (a := some (its.size : Int)) (by rfl) ?_)
 dsimp only
 show wpAny _ _ (newObj (.type "reversed") (.fields #[.ref tu, rawInt ((its.size : Int) - 1)]) >>= _) _ _ _
 refine wpAny_bind (wpAny_newObj_type ?_)
 exact wpAny_pure (q _)
theorem Zfh (tu : Addr) (its : Array Value) (hz : its.size < 2 ^ 63) : Meets (Builtin.«reversed.__new__» ⟨[.type "reversed", .ref tu], []⟩) (fun ψ R s => s.heap.IsTuple tu its /\ ∀ tk, R (.ok (.ret (.ref s.heap.objs.size))) { s with heap := s.heap.push (Z7a tu ((its.size : Int) - 1)), toks := tk }) :=
 .of_wp fun prog w A R s h => Zoj h.1 hz fun tk => ⟨_, rfl, h.2 tk⟩
theorem Zjx {tu : Addr} {its : Array Value} {Q : L2.VSP} (T : s.heap.IsTuple tu its) (hz : its.size < 2 ^ 63)
  (q : ∀ tk, Q (.ref s.heap.objs.size) { s with heap := s.heap.push (Z7a tu ((its.size : Int) - 1)), toks := tk }) :
  wpAny (model prog w) A (call (.type "reversed") [.ref tu]) Q E s := by
 refine callType_new Zd1 (by decide) (PySem.F.typeCall_reversed_1 _) (PySem.F.newCall_reversed_1 _) (fun obj => PySem.F.args_object_init_2 obj _) PySem.F.entry_reversed_new (Zfh tu its hz) ⟨T, fun tk => ?_⟩
 exact ⟨⟨_, Heap.get?_push_size _ rfl, rfl⟩, q tk⟩
def IsRv (h : Heap) (a l : Addr) (i : Int) : Prop := h.get? a = some (Z7a l i)
theorem IsRv.typeIs {a l : Addr} {i : Int} (x : IsRv s.heap a l i) : s.TypeIs (.ref a) "reversed" := ⟨_, x, rfl⟩
theorem Zjy {it l : Addr} {i : Nat} {items : Array Value} {x : Value} {Q : Option Value -> Shared -> Prop} (hit : IsRv s.heap it l (i : Int)) (hl : s.heap.IsTuple l items) (hne : l ≠ it) (hx : items[i]? = some x) (hz : items.size < 2 ^ 63)
  (hQ : ∀ h' tk, IsRv h' it l ((i : Int) - 1) -> Heap.SameBut it s.heap h' -> Q (some x) { s with heap := h', toks := tk }) : wpAny (model prog w) A (pyNext (.ref it)) Q E s := by
 have hi : i < items.size := by
  rcases Nat.lt_or_ge i items.size with h | h
  ·exact h
  ·rw [Array.getElem?_eq_none h] at hx; cases hx
 unfold pyNext
 refine wpAny_bind (wpAny_attempt (wpAny_callSpecial?_slot (name := Str.ofString "__next__") hit.typeIs Z1b
  (wpAny_call_entry Z1b hit.typeIs Z2q ?_ (Z38 _))))
 unfold Builtin.«reversed.__next__»
 refine wpAny_bind (wpAny_of_eq (a := (Value.ref it, [])) rfl ?_)
 try dsimp only
 refine wpAny_bind (wpAny_field hit rfl (x := .ref l) rfl ?_)
 refine wpAny_bind (wpAny_field hit rfl (x := rawInt (i : Int)) rfl ?_)
 show wpAny _ _ (if (i : Int) < 0 then _ else _) _ _ s
 rw [if_neg (by omega)]
 refine wpAny_bind (wpAny_specialOf hl.typeIs PyProof.Rows.slot_tuple_getitem.lookup ?_)
 rw [if_neg (by simp)]
 refine wpAny_bind (wpAny_mkInt ?_)
 refine wpAny_bind (wpAny_attempt (getItem_tuple (j := i) (show IsTup s.heap l items from hl) (by omega) (by omega) (seqIndex_of (by omega) (by omega)) hx ?_))
 dsimp only
 refine wpAny_bind (wpAny_field (s := { s with toks := s.toks + 1 }) hit rfl (x := rawInt (i : Int)) rfl ?_)
 show wpAny _ _ (setField (.ref it) 1 (rawInt ((i : Int) - 1)) >>= _) _ _ _
 refine wpAny_bind (wpAny_setField (s := { s with toks := s.toks + 1 }) hit rfl (by simp) ?_)
 refine wpAny_pure ⟨x, rfl, wpAny_pure (hQ _ _ ?_ (Heap.SameBut.update ..))⟩
 show (s.heap.update it _).get? it = _
 rw [Heap.get?_update_self _ hit rfl]
 rfl
theorem Zok {it l : Addr} {Q : Option Value -> Shared -> Prop} (hh : A.handled = none) (hit : IsRv s.heap it l (-1))
  (hQ : ∀ h', Heap.ExtBut it s.heap h' -> Q none { s with heap := h' }) : wpAny (model prog w) A (pyNext (.ref it)) Q E s := by
 unfold pyNext
 refine wpAny_bind (wpAny_attempt (wpAny_callSpecial?_slot (name := Str.ofString "__next__") hit.typeIs Z1b
  (wpAny_call_entry Z1b hit.typeIs Z2q ?_ (Z38 _))))
 unfold Builtin.«reversed.__next__»
 refine wpAny_bind (wpAny_of_eq (a := (Value.ref it, [])) rfl ?_)
 try dsimp only
 refine wpAny_bind (wpAny_field hit rfl (x := .ref l) rfl ?_)
 refine wpAny_bind (wpAny_field hit rfl (x := rawInt (-1)) rfl ?_)
 show wpAny _ _ (if (-1 : Int) < 0 then _ else _) _ _ s
 rw [if_pos (by decide)]
 refine wpAny_bind (wpAny_rule ?_)
 refine wpAny_bind ?_
 show wpAny _ _ (setField (.ref it) 1 (rawInt (-1)) >>= fun ψ => setField (.ref it) 0 .none) _ _ _
 refine wpAny_bind (wpAny_setField hit rfl (by simp) ?_)
 have h1 := Heap.get?_update_self (Obj.mapFields (·.setIfInBounds 1 (rawInt (-1)))) hit rfl
 refine wpAny_setField (s := { s with heap := s.heap.update it (Obj.mapFields (·.setIfInBounds 1 (rawInt (-1)))) }) h1 rfl (by simp) ?_
 refine wpAny_bind ?_
 show wpAny _ _ (newExc (.type "StopIteration") [] >>= _) _ _ _
 refine wpAny_bind ?_
 simp only [newExc, newTuple]
 refine wpAny_bind (wpAny_newObj_type ?_ (by size_fits))
 refine wpAny_bind (m := firstArgMember _ _) (wpAny_of_eq (a := Value.none) (by first | rfl | (simp only [firstArgMember]; rfl)) ?_)
 refine wpAny_newObj_type ?_ (by size_fits)
 simp only [raiseNew]
 refine wpAny_bind (wpAny_handled ?_)
 first | rw [show A.in1.handled = none from hh] | rw [hh]
 refine wpAny_bind (wpAny_pure (wpAny_throw ?_))
 refine wpAny_bind (wpAny_isInstance (T := "StopIteration") (b := true) ⟨_, Heap.get?_push_size _ rfl, rfl⟩ isSubtype_stop ?_)
 exact wpAny_pure (hQ _ ((((Heap.SameBut.update ..).trans (Heap.SameBut.update ..)).extBut.push _).push _))
theorem Zd2 {it l : Addr} {i : Int} {Q : L2.VSP} (hit : IsRv s.heap it l i) (h : Q (.ref it) s) : wpAny (model prog w) A (pyIter (.ref it)) Q E s := by
 refine wpAny_pyIter_slot hit.typeIs Z39 (wpAny_call_entry Z39 hit.typeIs Z5q ?_ (Z78 _))
 show wpAny _ _ (ret (.ref it)) _ _ s
 exact wpAny_pure ⟨_, rfl, "reversed", _, hit.typeIs, Z1b.lookup, h⟩
end
def Itrt (K : L2.Fg) (a : Addr) (n : Nat) : It :=
 ⟨fun i H => ∃ xs x, SqT K H a xs /\ xs.length = n /\ xs.reverse[i]? = some x, fun i H x H' => H' = H /\ ∀ xs, SqT K H a xs -> xs.reverse[i]? = some x, fun i H => ∃ xs, SqT K H a xs /\ xs.length = n /\ n <= i⟩
def Itrl (K : L2.Fg) (a : Addr) (n : Nat) : It :=
 ⟨fun i H => ∃ xs x, SqL K H a xs /\ xs.length = n /\ xs.reverse[i]? = some x, fun i H x H' => H' = H /\ ∀ xs, SqL K H a xs -> xs.reverse[i]? = some x, fun i H => ∃ xs, SqL K H a xs /\ xs.length = n /\ n <= i⟩
theorem Zh4 {α : Type} {xs : List α} {i : Nat} {x : α} (h : xs.reverse[i]? = some x) : i < xs.length /\ xs[xs.length - 1 - i]? = some x := by
 have hi : i < xs.length := by
  have := (List.getElem?_eq_some_iff.mp h).1
  simpa using this
 rw [List.getElem?_reverse hi] at h
 exact ⟨hi, h⟩
theorem Zfi {P : Program} {w : World} {K : L2.Fg} {tg : Expr} (a it : Addr) (n : Nat) (hne : a ≠ it) : Turn P w K tg (Itrt K a n) [it] it (fun i h => i <= n /\ IsRv h it a ((n : Int) - 1 - i)) where
 mem := by simp
 obj := fun i h st b hb => by
  have e : b = it := by simpa using hb
  subst e
  exact ⟨_, st.2, fun v z => by cases z⟩
 keep := fun i h h' st k => ⟨st.1, k it (by simp) _ st.2⟩
 item := by
  intro X hP hw hK hc i pins s σ H E I hf st hg
  subst hP hw hK
  obtain ⟨xs, x, hq, hn, hx⟩ := hg
  obtain ⟨hi, hx'⟩ := Zh4 hx
  obtain ⟨its, rv, p, hz⟩ := I.tuple hq
  obtain ⟨u, hu, ru⟩ := rv.get hx'
  obtain ⟨f0, f1, f2, f3, f4, f5⟩ := hf it (by simp)
  have hl := rv.length
  have e1 : (n : Int) - 1 - i = ((xs.length - 1 - i : Nat) : Int) := by omega
  have st2 := st.2
  rw [e1] at st2
  have sl : sizeLine = 16777216 := sizeLine_eq
  refine Zjy st2 (show s.heap.IsTuple a its.toArray from p) hne (x := u) (by simpa using hu) (by simp; omega) fun h' tk st' sb => ?_
  have I1 : Inv X pins σ H { s with heap := h', toks := tk } := I.turned (t' := tk) (fun b o hb e => (sb.2 b hb).trans e) f0 f1 f3 f4 f5
  have e2 : ((xs.length - 1 - i : Nat) : Int) - 1 = (n : Int) - 1 - ((i + 1 : Nat) : Int) := by omega
  rw [e2] at st'
  exact ⟨u, rfl, Z9q (s := { s with heap := h', toks := tk }) st' rfl rfl (by decide) ⟨x, H, I1, ru, ⟨rfl, fun ys hy => by rw [I.tuple_inj hy hq]; exact hx⟩, ⟨by omega, st'⟩, fun b hb => (hf b hb).1⟩⟩
 done := by
  intro X hP hw hK hc i pins s σ H E I hf st hg
  subst hP hw hK
  obtain ⟨xs, hq, hn, hi⟩ := hg
  obtain ⟨f0, f1, f2, f3, f4, f5⟩ := hf it (by simp)
  have e1 : (n : Int) - 1 - i = -1 := by have := st.1; omega
  have st2 := st.2
  rw [e1] at st2
  exact Zok (I.ok.hd hc) st2 fun h' eb => ⟨rfl, I.turned (t' := s.toks) (fun b o hb e => eb b o hb e) f0 f1 f3 f4 f5⟩
 self := fun ψ ψ ψ ψ ψ st h => Zd2 st.2 h
theorem Zfj {P : Program} {w : World} {K : L2.Fg} {tg : Expr} (a it : Addr) (n : Nat) (hne : a ≠ it) : Turn P w K tg (Itrl K a n) [it] it (fun i h => i <= n /\ h.IsRevIter it a ((n : Int) - 1 - i)) where
 mem := by simp
 obj := fun i h st b hb => by
  have e : b = it := by simpa using hb
  subst e
  obtain ⟨o, e, c, d⟩ := st.2
  exact ⟨o, e, fun v z => by rw [d] at z; cases z⟩
 keep := fun i h h' st k => ⟨st.1, st.2.at fun o e => k it (by simp) o e⟩
 item := by
  intro X hP hw hK hc i pins s σ H E I hf st hg
  subst hP hw hK
  obtain ⟨xs, x, hq, hn, hx⟩ := hg
  obtain ⟨hi, hx'⟩ := Zh4 hx
  obtain ⟨its, rv, p, hz⟩ := I.list hq
  obtain ⟨u, hu, ru⟩ := rv.get hx'
  obtain ⟨f0, f1, f2, f3, f4, f5⟩ := hf it (by simp)
  have e1 : (n : Int) - 1 - i = ((xs.length - 1 - i : Nat) : Int) := by omega
  have st2 := st.2
  rw [e1] at st2
  refine wpAny_pyNext_rev_item st2 p.isList (x := u) (by simpa using hu) fun h' st' sb => ?_
  have I1 : Inv X pins σ H { s with heap := h' } := I.turned (t' := s.toks) (fun b o hb e => (sb.2 b hb).trans e) f0 f1 f3 f4 f5
  have e2 : ((xs.length - 1 - i : Nat) : Int) - 1 = (n : Int) - 1 - ((i + 1 : Nat) : Int) := by omega
  rw [e2] at st'
  obtain ⟨o, e, c, d⟩ := id st'
  exact ⟨u, rfl, Z9q (s := { s with heap := h' }) e c d (by decide) ⟨x, H, I1, ru, ⟨rfl, fun ys hy => by rw [I.list_inj hy hq]; exact hx⟩, ⟨by omega, st'⟩, fun b hb => (hf b hb).1⟩⟩
 done := by
  intro X hP hw hK hc i pins s σ H E I hf st hg
  subst hP hw hK
  obtain ⟨xs, hq, hn, hi⟩ := hg
  obtain ⟨f0, f1, f2, f3, f4, f5⟩ := hf it (by simp)
  have e1 : (n : Int) - 1 - i = -1 := by have := st.1; omega
  have st2 := st.2
  rw [e1] at st2
  exact wpAny_pyNext_rev_end (I.ok.hd hc) st2 fun h' eb => ⟨rfl, I.turned (t' := s.toks) (fun b o hb e => eb b o hb e) f0 f1 f3 f4 f5⟩
 self := fun ψ ψ ψ ψ ψ st h => wpAny_pyIter_revIter st.2 h
def iRev (K : L2.Fg) (ta : TA) : TI := fun σ H R => ta σ H fun vs H1 => ∃ a xs, vs = [.ref a] /\ ((SqT K H1 a xs /\ R (Itrt K a xs.length) H1) \/ (SqL K H1 a xs /\ R (Itrl K a xs.length) H1))
theorem Zol {X : Cx} {K : L2.Fg} {tg a : Expr} {ta : TA} {p pos : Pos} (hK : X.K = K) (hg : Gl X "reversed") (hm : X.mg "reversed" = none) (ha : PA X [a] ta) (hs : starEach [a] X.env = [(false, eval a X.env)] := by rfl) : PI X tg (.Call (.Name "reversed" p) [a] [] pos) (iRev K ta) := by
 subst hK
 intro pins s σ H R I h
 refine Call_ (Z34 I hg hm boot_reversed (PyProof.Rows.callWith_type1 (thn (ha pos pins s σ H _ I h) fun us s1 ⟨vs, H1, I1, r1, q1⟩ => ?_) hs rfl))
 obtain ⟨l, xs, e, q⟩ := q1
 subst e
 obtain ⟨u, rfl, ru⟩ := Z2e r1
 cases ru
 have sl : sizeLine = 16777216 := sizeLine_eq
 rcases q with ⟨hq, q⟩ | ⟨hq, q⟩
 ·obtain ⟨its, rv, pl, hz⟩ := I1.tuple hq
  have hl := rv.length
  have lt : l < s1.heap.objs.size := by obtain ⟨o, e, _⟩ := pl; exact Heap.lt_size e
  refine Zjx (show s1.heap.IsTuple l its.toArray from pl) (by simp; omega) fun tk => ?_
  have I2 : Inv X pins σ H1 { s1 with heap := s1.heap.push (Z7a l ((its.toArray.size : Int) - 1)), toks := tk } := I1.kept fun b o e => Heap.get?_push_of_some _ e
  have hr : IsRv (s1.heap.push (Z7a l ((its.toArray.size : Int) - 1))) s1.heap.objs.size l ((xs.length : Int) - 1 - (0 : Nat)) := by
   have := Heap.get?_push_size s1.heap (o := Z7a l ((its.toArray.size : Int) - 1)) rfl
   have e : ((xs.length : Int) - 1 - (0 : Nat)) = ((its.toArray.size : Int) - 1) := by simp; omega
   rw [e]; exact this
  refine Zd2 (s := { s1 with heap := s1.heap.push (Z7a l ((its.toArray.size : Int) - 1)), toks := tk }) hr ?_
  refine ⟨s1.heap.objs.size, [s1.heap.objs.size], _, _, H1, rfl, I2, Zfi l _ xs.length (Nat.ne_of_lt lt), ⟨Nat.zero_le _, hr⟩, fun b hb => ?_, q⟩
  have e : b = s1.heap.objs.size := by simpa using hb
  subst e
  exact I1.fpOk (Nat.le_refl _) (I1.hok.fresh (Nat.le_refl _))
 ·obtain ⟨its, rv, pl, hz⟩ := I1.list hq
  have hl := rv.length
  have lt : l < s1.heap.objs.size := by obtain ⟨o, e, _⟩ := pl.isList; exact Heap.lt_size e
  refine call_reversed_list pl.isList ?_
  have I2 : Inv X pins σ H1 { s1 with heap := s1.heap.push (revObj l ((its.toArray.size : Int) - 1)) } := I1.kept (t' := s1.toks) fun b o e => Heap.get?_push_of_some _ e
  have hr : (s1.heap.push (revObj l ((its.toArray.size : Int) - 1))).IsRevIter s1.heap.objs.size l ((xs.length : Int) - 1 - (0 : Nat)) := by
   refine ⟨_, Heap.get?_push_size _ rfl, rfl, ?_⟩
   have e : ((xs.length : Int) - 1 - (0 : Nat)) = ((its.toArray.size : Int) - 1) := by simp; omega
   rw [e]; rfl
  refine wpAny_pyIter_revIter (s := { s1 with heap := s1.heap.push (revObj l ((its.toArray.size : Int) - 1)) }) hr ?_
  refine ⟨s1.heap.objs.size, [s1.heap.objs.size], _, _, H1, rfl, I2, Zfj l _ xs.length (Nat.ne_of_lt lt), ⟨Nat.zero_le _, hr⟩, fun b hb => ?_, q⟩
  have e : b = s1.heap.objs.size := by simpa using hb
  subst e
  exact I1.fpOk (Nat.le_refl _) (I1.hok.fresh (Nat.le_refl _))
def Z1j : List U -> Option (List U)
 | [.tup us] => some us.reverse
 | [.lst us] => some us.reverse
 | _ => none
section
variable {W : Wd} {m : Md} {E : XK} {c : Bool} {tr : TA} {fr : Af}
theorem Zom {Hb Hc : Hp} {a : Addr} {us : List U} {vs : List V} (r : RUs W Hc us vs) (h : Hc a = some (.tup vs)) : ItR W Hb Hc (Itrt W.K a vs.length) us.reverse := by
 intro Hc2 H2 s1 s2 s3
 have ha := s2 _ _ (s1 _ _ h)
 refine ⟨fun i u hu => ?_, vs, .of ha, rfl, by rw [List.length_reverse, r.len]; exact Nat.le_refl _⟩
 obtain ⟨v, hv, rv⟩ := r.rev.at (i := 0) hu
 refine ⟨⟨vs, v, .of ha, rfl, hv⟩, fun x H3 y => ?_⟩
 obtain ⟨rfl, y⟩ := y
 have e := y vs (.of ha)
 rw [hv] at e; cases e
 exact ⟨Hc2, Ext.refl s2, fun ψ ψ h => h, rv.mono s1⟩
theorem Zon {Hb Hc : Hp} {a : Addr} {us : List U} {vs : List V} (r : RUs W Hc us vs) (h : Hc a = some (.lst vs)) : ItR W Hb Hc (Itrl W.K a vs.length) us.reverse := by
 intro Hc2 H2 s1 s2 s3
 have ha := s2 _ _ (s1 _ _ h)
 refine ⟨fun i u hu => ?_, vs, .of ha, rfl, by rw [List.length_reverse, r.len]; exact Nat.le_refl _⟩
 obtain ⟨v, hv, rv⟩ := r.rev.at (i := 0) hu
 refine ⟨⟨vs, v, .of ha, rfl, hv⟩, fun x H3 y => ?_⟩
 obtain ⟨rfl, y⟩ := y
 have e := y vs (.of ha)
 rw [hv] at e; cases e
 exact ⟨Hc2, Ext.refl s2, fun ψ ψ h => h, rv.mono s1⟩
theorem Zoo (hr : DA W m E [false] tr fr) : DI W m E c (iRev W.K tr) (Z2j Z1j fr) := by
 intro H0 ρ ω σ Hc H ow S R h
 refine hr H0 ρ ω σ Hc H ow S _ ((Aft.bnd h).imp fun us ω1 Hc1 H1 e1 p1 h1 vs rs => ?_)
 have rr := rs.off rfl
 revert h1
 cases hg : Z1j us with
 | none => exact fun h1 => h1.elim
 | some ws =>
  intro h1
  unfold Z1j at hg
  split at hg
  ·cases hg
   rw [RUs] at rr
   obtain ⟨v, r, rfl, rv, rr⟩ := rr
   rw [RUs] at rr; subst rr
   rw [RU] at rv
   obtain ⟨a, vs, rfl, q, r⟩ := rv
   exact ⟨a, vs, rfl, .inl ⟨.of (e1.sub _ _ q), h1 Hc1 H1 (Ext.refl e1.sub) p1 _ (Zom r q)⟩⟩
  ·cases hg
   rw [RUs] at rr
   obtain ⟨v, r, rfl, rv, rr⟩ := rr
   rw [RUs] at rr; subst rr
   rw [RU] at rv
   obtain ⟨a, vs, rfl, q, r⟩ := rv
   exact ⟨a, vs, rfl, .inr ⟨.of (e1.sub _ _ q), h1 Hc1 H1 (Ext.refl e1.sub) p1 _ (Zon r q)⟩⟩
  ·cases hg
variable {ι : Type} {X : L2.FC ι} {a : Expr} {pos p : Pos}
theorem Z87 {tg : Expr} (cx : Ctx X W E) (B : Bl W.mg) (ha : QA X W m E [false] [a] fr) (hg : ∀ y, Gl (X y) "reversed" := by intro ψ; rfl) (hs : ∀ y, starEach [a] (X y).env = [(false, eval a (X y).env)] := by intro ψ; rfl) : QI X W m E c tg (.Call (.Name "reversed" p) [a] [] pos) (Z2j Z1j fr) :=
 let ⟨_, pa, da⟩ := ha; ⟨_, fun y => Zol (cx.hK y) (hg y) ((congrFun (cx.hm y) _).trans B.reversed) (pa y) (hs y), Zoo da⟩
end
def Up (xs : Array Nat) : Prop := xs.toList.Pairwise (· < ·)
theorem Up.lt {xs : Array Nat} (h : Up xs) {i j : Nat} (hij : i < j) (hj : j < xs.size) : xs[i]'(by omega) < xs[j] := by
 have := List.pairwise_iff_getElem.mp h i j (by simp; omega) (by simpa using hj) hij
 simpa using this
theorem Up.le {xs : Array Nat} (h : Up xs) {i j : Nat} (hij : i <= j) (hj : j < xs.size) : xs[i]'(by omega) <= xs[j] := by
 rcases Nat.lt_or_eq_of_le hij with c | c
 ·exact Nat.le_of_lt (h.lt c hj)
 ·subst c; exact Nat.le_refl _
theorem Z5r {xs : Array Nat} (h : Up xs) (v : Nat) : ∀ (fuel lo hi : Nat), hi - lo <= fuel -> lo <= hi -> hi <= xs.size -> (∀ i (hi' : i < xs.size), i < lo -> xs[i] < v) -> (∀ i (hi' : i < xs.size), hi <= i -> v <= xs[i]) ->
  SetTable.below.go xs v fuel lo hi <= xs.size /\ (∀ i (hi' : i < xs.size), i < SetTable.below.go xs v fuel lo hi -> xs[i] < v) /\ (∀ i (hi' : i < xs.size), SetTable.below.go xs v fuel lo hi <= i -> v <= xs[i])
 | 0, lo, hi, hf, hl, hz, a, b => by
  have : lo = hi := by omega
  subst this
  exact ⟨hz, a, b⟩
 | fuel + 1, lo, hi, hf, hl, hz, a, b => by
  unfold SetTable.below.go
  by_cases c : lo < hi
  ·rw [if_pos c]
   have hm : (lo + hi) / 2 < xs.size := by omega
   have em : xs.getD ((lo + hi) / 2) v = xs[(lo + hi) / 2] := by simp [Array.getD, hm]
   simp only [em]
   by_cases d : xs[(lo + hi) / 2] < v
   ·rw [if_pos d]
    exact Z5r h v fuel _ _ (by omega) (by omega) hz (fun i hi' k => Nat.lt_of_le_of_lt (h.le (by omega) hm) d) b
   ·rw [if_neg d]
    exact Z5r h v fuel _ _ (by omega) (by omega) (by omega) a (fun i hi' k => Nat.le_trans (Nat.not_lt.mp d) (h.le k hi'))
  ·rw [if_neg c]
   have : lo = hi := by omega
   subst this
   exact ⟨hz, a, b⟩
theorem Zfk {xs : Array Nat} (h : Up xs) (v : Nat) : SetTable.below xs v <= xs.size /\ (∀ i (hi' : i < xs.size), i < SetTable.below xs v -> xs[i] < v) /\ (∀ i (hi' : i < xs.size), SetTable.below xs v <= i -> v <= xs[i]) :=
 Z5r h v _ _ _ (by omega) (by omega) (Nat.le_refl _) (fun ψ ψ k => absurd k (by omega)) (fun ψ k k' => absurd k (by omega))
def NL (t : SetTable) (j : Nat) : Prop := (t.place[SetTable.below t.place j]? == some j) = false
theorem NL.of {t : SetTable} {j : Nat} (h : ∀ i, t.slot j ≠ .live i) : NL t j := by
 unfold NL
 cases c : (t.place[SetTable.below t.place j]? == some j) with
 | false => rfl
 | true => exact absurd (by unfold SetTable.slot; simp only [c, if_true]) (h (SetTable.below t.place j))
theorem Zjz {t : SetTable} {H : Nat -> Int} {x : Int} : ∀ (fuel : Nat) (p : SetTable.Probe) (j : Nat) (d : Option Nat), (∀ e, p.dummy = some e -> NL t e) -> SetTable.probe.go t H x fuel p = some (.empty j d) -> NL t (d.getD j)
 | 0, p, j, d, _, e => by unfold SetTable.probe.go at e; cases e
 | fuel + 1, p, j, d, hp, e => by
  unfold SetTable.probe.go at e
  split at e
  ·rename_i c
   obtain ⟨rfl, rfl⟩ : p.j = j /\ p.dummy = d := by simpa using e
   cases q : p.dummy with
   | none => exact .of fun i k => by rw [Option.getD_none, c] at k; cases k
   | some y => exact hp y q
  ·rename_i c
   refine Zjz fuel _ j d (fun y hy => ?_) e
   have : p.j = y := by
    unfold SetTable.advance at hy; split at hy <;> simpa using hy
   subst this
   exact .of fun i k => by rw [c] at k; cases k
  ·rename_i i c
   split at e
   ·cases e
   ·refine Zjz fuel _ j d (fun y hy => hp y ?_) e
    unfold SetTable.advance at hy; split at hy <;> exact hy
theorem Zk0 {t : SetTable} {x : Int} {j : Nat} {b : Bool} (e : t.freeSlot x = some (j, b)) : NL t j := by
 unfold SetTable.freeSlot at e
 split at e
 ·rename_i k d c
  obtain ⟨rfl, _⟩ : d.getD k = j /\ d.isSome = b := by simpa using e
  exact Zjz _ _ _ _ (fun y hy => by unfold SetTable.probeStart at hy; cases hy) c
 ·cases e
theorem Up.range (n : Nat) : Up (Array.range n) := by unfold Up; simpa using List.pairwise_lt_range
theorem Up.ins {xs : Array Nat} (h : Up xs) {j : Nat} (n : (xs[SetTable.below xs j]? == some j) = false) : Up (SetTable.insertAt xs (SetTable.below xs j) j) := by
 obtain ⟨p, q, r⟩ := Zfk h j
 unfold Up
 rw [SetTable.toList_insertAt]
 have h' : (xs.toList.take (SetTable.below xs j) ++ xs.toList.drop (SetTable.below xs j)).Pairwise (· < ·) := by rw [List.take_append_drop]; exact h
 obtain ⟨h1, h2, h3⟩ := List.pairwise_append.mp h'
 have a1 : ∀ x ∈ xs.toList.take (SetTable.below xs j), x < j := fun x hx => by
  obtain ⟨i, hi, rfl⟩ := List.mem_iff_getElem.mp hx
  rw [List.length_take] at hi
  have := q i (by have := hi; simp at this; omega) (by omega)
  simpa using this
 have a2 : ∀ x ∈ xs.toList.drop (SetTable.below xs j), j < x := fun x hx => by
  obtain ⟨i, hi, rfl⟩ := List.mem_iff_getElem.mp hx
  have hi2 : SetTable.below xs j + i < xs.size := by simp at hi; omega
  have hb : SetTable.below xs j < xs.size := by omega
  have r0 := r _ hb (Nat.le_refl _)
  have ne : xs[SetTable.below xs j] ≠ j := fun c => by
   rw [Array.getElem?_eq_getElem hb, c] at n; simp at n
  have := h.le (i := SetTable.below xs j) (j := SetTable.below xs j + i) (by omega) hi2
  simp only [List.getElem_drop, Array.getElem_toList]
  omega
 exact List.pairwise_append.mpr ⟨h1, List.pairwise_cons.mpr ⟨a2, h2⟩, fun x hx y hy => by
  rcases List.mem_cons.mp hy with c | c
  ·rw [c]; exact a1 x hx
  ·exact h3 x hx y c⟩
theorem Z2c (t : SetTable) (n : Nat) : Up (t.standIn n).place := Up.range n
theorem Zd3 {t : SetTable} {es : Array (Int × Value)} {x : Int} {v : Value} (h : Up t.place) : Up (layNew t es x v).2.1.place := by
 unfold layNew
 split
 ·rename_i j b e
  dsimp only
  unfold SetTable.orStandIn
  split
  ·unfold SetTable.put; exact h.ins (Zk0 e)
  ·exact Z2c _ _
 ·exact Z2c _ _
theorem Zae {t : SetTable} {es : Array (Int × Value)} {x : Int} {v : Value} : (layNew t es x v).2.1.led = t.led := by
 unfold layNew
 split
 ·dsimp only
  unfold SetTable.orStandIn
  split <;> rfl
 ·rfl
theorem Zd4 {t t' : SetTable} {hs : Array Int} {n : Nat} {order : Array Nat} (e : t.relaid hs n = some (t', order)) : Up t'.place /\ t'.led = t.led := by
 unfold SetTable.relaid SetTable.laid at e
 cases q : SetTable.layClean (SetTable.sizeAbove n - 1) hs with
 | none => rw [q] at e; cases e
 | some owner =>
  rw [q] at e
  simp only [Option.bind_eq_bind, Option.bind_some, Option.pure_def, Option.some.injEq, Prod.mk.injEq] at e
  obtain ⟨rfl, _⟩ := e
  refine ⟨?_, rfl⟩
  unfold Up
  simp only [List.map_filterMap]
  refine List.Pairwise.filterMap _ (R := fun a b : Nat => a < b) (fun a a' hlt b hb b' hb' => ?_) List.pairwise_lt_range
  have e1 : b = a := by
   cases c : owner.getD a none with
   | none => rw [c] at hb; simp at hb
   | some y => rw [c] at hb; simpa using hb.symm
  have e2 : b' = a' := by
   cases c : owner.getD a' none with
   | none => rw [c] at hb'; simp at hb'
   | some y => rw [c] at hb'; simpa using hb'.symm
  rw [e1, e2]; exact hlt
theorem Z88 {t : SetTable} {es : Array (Int × Value)} {n : Nat} : Up (relayAll t es n).2.1.place /\ (relayAll t es n).2.1.led = t.led := by
 unfold relayAll
 split
 ·rename_i t' order e
  dsimp only
  split
  ·exact Zd4 e
  ·exact ⟨Z2c _ _, rfl⟩
 ·exact ⟨Z2c _ _, rfl⟩
theorem erase_perm {α : Type} : ∀ {l : List α} {i : Nat} (h : i < l.length), (l[i] :: l.eraseIdx i).Perm l
 | x :: l, 0, _ => .refl _
 | x :: l, i + 1, h => by
  simp only [List.getElem_cons_succ, List.eraseIdx_cons_succ]
  exact (List.Perm.swap x _ _).trans ((erase_perm (l := l) (i := i) (by simpa using h)).cons x)
def SetI (prog : Program) (w : World) (h : Heap) (a : Addr) (ns : List Int) : Prop :=
 ∃ (o : Obj) (es : Array (Int × Value)) (ep : Nat) (t : SetTable) (ms : List Int), h.get? a = some o /\ o.ExactSet /\ o.data = .set es ep t /\ ElemsOf (intKind prog w) es.toList /\ IntsAre (es.toList.map (·.2)) ms /\ ms.Perm ns /\
  es.size < scanBound /\ t.fits es.size = true /\ Up t.place /\ (t.led = true \/ w.params.followText "set-order" = true)
theorem IntsAre.perm {vs vs' : List Value} (p : vs.Perm vs') : ∀ {ns : List Int}, IntsAre vs ns -> ∃ ns', IntsAre vs' ns' /\ ns'.Perm ns := by
 induction p with
 | nil => intro ns h; exact ⟨ns, h, .refl _⟩
 | cons x p ih =>
  intro ns h
  cases h with
  | cons n t hr => obtain ⟨ns', a, b⟩ := ih hr; exact ⟨n :: ns', .cons n t a, b.cons n⟩
 | swap x y l =>
  intro ns h
  cases h with
  | cons n t hr =>
   cases hr with
   | cons n' t' hr' => exact ⟨n' :: n :: _, .cons n' t' (.cons n t hr'), .swap _ _ _⟩
 | trans p q ih1 ih2 =>
  intro ns h
  obtain ⟨ns', a, b⟩ := ih1 h
  obtain ⟨ns'', c, d⟩ := ih2 a
  exact ⟨ns'', c, d.trans b⟩
theorem IntsAre.mem : ∀ {vs : List Value} {ns : List Int}, IntsAre vs ns -> ∀ k, k ∈ ns ↔ ∃ v ∈ vs, ∃ t, v = .int k t
 | _, _, .nil, k => by simp
 | _, _, .cons n t h, k => by
  rw [List.mem_cons, IntsAre.mem h k]
  constructor
  ·rintro (rfl | ⟨v, hv, t', e⟩)
   ·exact ⟨_, by simp, t, rfl⟩
   ·exact ⟨v, by simp [hv], t', e⟩
  ·rintro ⟨v, hv, t', e⟩
   rcases List.mem_cons.mp hv with c | c
   ·subst c; cases e; exact .inl rfl
   ·exact .inr ⟨v, c, t', e⟩
theorem IntsAre.snoc {x : Int} {t : Tok} : ∀ {vs : List Value} {ns : List Int}, IntsAre vs ns -> IntsAre (vs ++ [.int x t]) (ns ++ [x])
 | _, _, .nil => .cons x t .nil
 | _, _, .cons n t' h => .cons n t' (IntsAre.snoc h)
section
variable {prog : Program} {w : World} {A : Around} {E : L2.VSP} {s : Shared}
theorem Zop {k : Int} {v : Value} (h : ∃ t, v = .int k t) : (intKind prog w).is k v = true := by
 obtain ⟨t, rfl⟩ := h; exact intKind_is _ _ _ _
theorem Zd5 {k k' : Int} {t : Tok} (h : (intKind prog w).is k (.int k' t) = true) : k = k' := (intKind prog w).inj _ _ _ h (intKind_is _ _ _ _)
theorem Zh5 {g : Bool -> Sem Unit} (hg : ∀ (b : Bool) (s₁ : Shared) (Q' : Unit -> Shared -> Prop), Q' () s₁ -> wpAny (model prog w) A (g b) Q' E s₁)
  {a : Addr} {o : Obj} {es : Array (Int × Value)} {ep : Nat} {t : SetTable} (ho : s.heap.get? a = some o) (hex : o.ExactSet) (hd : o.data = .set es ep t)
  {es1 : Array (Int × Value)} {t2 : SetTable} {ms ns : List Int} (hel1 : ElemsOf (intKind prog w) es1.toList) (hi : IntsAre (es1.toList.map (·.2)) ms) (hp : ms.Perm ns)
  (hb1 : es1.size < scanBound) (hf2 : t2.fits es1.size = true) (hu : Up t2.place) (hl : t2.led = true \/ w.params.followText "set-order" = true) {wasDummy : Bool} {R : Option Bool -> Shared -> Prop}
  (h : ∀ h', Heap.SameBut a s.heap h' -> SetI prog w h' a ns -> R (some true) { s with heap := h' }) :
  wpAny (model prog w) A (do
    storeSet a es1 t2
    if (!wasDummy && t2.tooFull) = true then do
      g (relayAll t2 es1 (SetTable.grown es1.size)).2.2
      storeSet a (relayAll t2 es1 (SetTable.grown es1.size)).1 (relayAll t2 es1 (SetTable.grown es1.size)).2.1
      pure (some true)
     else pure (some true)) R E s := by
 refine wpAny_bind (wpAny_storeSet_of ho hd ?_ (fits_of_scanBound hb1))
 have ho1 : (s.heap.update a (Obj.putSet es1 t2)).get? a = some { o with data := .set es1 (ep + 1) t2 } := by
  have := Heap.get?_update_self (Obj.putSet es1 t2) ho (by rw [putSet_of es1 t2 hd]; rfl)
  rw [putSet_of es1 t2 hd] at this; exact this
 have hsb1 := Heap.SameBut.update s.heap a (Obj.putSet es1 t2)
 split
 ·have hpr := relayAll_perm t2 es1 (SetTable.grown es1.size)
  have hfr := relayAll_fits t2 es1 (SetTable.grown es1.size)
  have hur := Z88 (t := t2) (es := es1) (n := SetTable.grown es1.size)
  generalize hRl : relayAll t2 es1 (SetTable.grown es1.size) = Rl at hpr hfr hur ⊢
  obtain ⟨es2, t3, gave2⟩ := Rl
  dsimp only at hpr hfr hur ⊢
  obtain ⟨ms2, i2, p2⟩ := IntsAre.perm (hpr.symm.map (·.2)) hi
  have hsz : es2.size = es1.size := by rw [<- Array.length_toList, hpr.length_eq, Array.length_toList]
  have hb2 : es2.size < scanBound := by rw [hsz]; exact hb1
  refine wpAny_bind (hg _ _ _ ?_)
  refine wpAny_bind (wpAny_storeSet_of ho1 rfl ?_ (fits_of_scanBound hb2))
  have ho2 : ((s.heap.update a (Obj.putSet es1 t2)).update a (Obj.putSet es2 t3)).get? a = some { o with data := .set es2 (ep + 1 + 1) t3 } :=
   Heap.get?_update_self (Obj.putSet es2 t3) ho1 rfl
  exact wpAny_pure (h _ (hsb1.trans (Heap.SameBut.update _ a _)) ⟨_, es2, _, t3, ms2, ho2, hex, rfl, hel1.perm hpr, i2, p2.trans hp, hb2, hfr, hur.1, by rw [hur.2]; exact hl⟩)
 ·exact wpAny_pure (h _ hsb1 ⟨_, es1, _, t2, ms, ho1, hex, rfl, hel1, hi, hp, hb1, hf2, hu, hl⟩)
theorem Zr3 {a : Addr} {ns : List Int} {k : Int} {tk : Tok} {Q : Bool -> Shared -> Prop} (hS : SetI prog w s.heap a ns) (hroom : ns.length + 1 < scanBound)
  (h : ∀ h' b, Heap.SameBut a s.heap h' -> SetI prog w h' a (step_dedup ns k) -> Q b { s with heap := h' }) :
  wpAny (model prog w) A (setAddHashed a (.int k tk) ((intKind prog w).hash k)) Q E s := by
 obtain ⟨o, es, ep, t, ms, ho, hex, hd, hel, hi, hp, hb, hf, hu, hl⟩ := hS
 have hn : es.size = ns.length := by
  have e1 := hp.length_eq
  have e2 := hi.length
  rw [List.length_map, Array.length_toList] at e2
  omega
 have hb1 : es.size + 1 < scanBound := by rw [hn]; exact hroom
 have hkey : (intKind prog w).is k (.int k tk) = true := intKind_is _ _ _ _
 have hsc : (Value.int k tk).scannable = true := rfl
 unfold setAddHashed setAddHashedIn
 refine wpAny_holding (wpAny_bind (wpAny_setState_of ho hd hf ?_))
 dsimp only
 rw [byScan_of hsc hb hel]
 simp only [↓reduceIte]
 unfold setAddByScan
 refine wpAny_bind ?_
 refine wpAny_bind (wpAny_rule ?_)
 refine wpAny_bind (wpAny_setScan_of hkey ho hd hf hel ?_)
 have hmem : k ∈ ns ↔ ∃ e ∈ es.toList, (intKind prog w).is k e.2 = true := by
  rw [<- hp.mem_iff, IntsAre.mem hi k]
  constructor
  ·rintro ⟨v, hv, e⟩
   obtain ⟨y, hy, rfl⟩ := List.mem_map.mp hv
   exact ⟨y, hy, Zop e⟩
  ·rintro ⟨y, hy, e⟩
   refine ⟨y.2, List.mem_map_of_mem hy, ?_⟩
   obtain ⟨m, hm⟩ : ∃ m, ∃ t, y.2 = .int m t := by
    obtain ⟨j, hj, rfl⟩ := List.mem_iff_getElem.mp hy
    obtain ⟨t', e'⟩ := PyProof.Rows.IntsAre.int_at hi j _ (by rw [List.getElem?_map, List.getElem?_eq_getElem hj]; rfl)
    exact ⟨_, t', e'⟩
   obtain ⟨t', e'⟩ := hm
   rw [e'] at e ⊢
   exact ⟨t', by rw [Zd5 e]⟩
 cases hr : List.findIdx? (fun e => (intKind prog w).is k e.2) es.toList with
 | some j =>
  dsimp only
  obtain ⟨hj, hpj, _⟩ := List.findIdx?_eq_some_iff_getElem.mp hr
  have hk : k ∈ ns := hmem.mpr ⟨es.toList[j], List.getElem_mem hj, hpj⟩
  have hd' : step_dedup ns k = ns := by unfold step_dedup; rw [if_pos (by simpa using hk)]
  refine wpAny_pure (wpAny_pure ?_)
  have e : s = { s with heap := s.heap } := by cases s; rfl
  rw [e]
  exact h s.heap _ (Heap.SameBut.refl a s.heap) (by rw [hd']; exact ⟨o, es, ep, t, ms, ho, hex, hd, hel, hi, hp, hb, hf, hu, hl⟩)
 | none =>
  dsimp only
  have hk : k ∉ ns := fun hk => by
   obtain ⟨e, he, hq⟩ := hmem.mp hk
   have := List.findIdx?_eq_none_iff.mp hr e he
   rw [hq] at this; exact Bool.noConfusion this
  have hd' : step_dedup ns k = ns ++ [k] := by unfold step_dedup; rw [if_neg (by simpa using hk)]
  have hgw : ∀ (b : Bool) {s₁ : Shared} {Q' : Unit -> Shared -> Prop}, Q' () s₁ -> wpAny (model prog w) A (match b with | true => rule "set.scan.the-table-gave-way" | false => pure ()) Q' E s₁ :=
   fun b s₁ Q' hq => by cases b <;> first | exact wpAny_pure hq | exact wpAny_rule hq
  have hperm := layNew_perm t es ((intKind prog w).hash k) (.int k tk)
  have hfits := layNew_fits t es ((intKind prog w).hash k) (.int k tk)
  have hup := Zd3 (es := es) (x := (intKind prog w).hash k) (v := .int k tk) hu
  have hled := Zae (t := t) (es := es) (x := (intKind prog w).hash k) (v := .int k tk)
  generalize hL : layNew t es ((intKind prog w).hash k) (.int k tk) = L at hperm hfits hup hled ⊢
  obtain ⟨es1, t1, wasDummy, gave⟩ := L
  dsimp only at hperm hfits hup hled ⊢
  rw [Array.toList_push] at hperm
  have hel1 : ElemsOf (intKind prog w) es1.toList := (hel.push hkey hsc).perm hperm
  have hb1' : es1.size < scanBound := by rw [<- Array.length_toList, hperm.length_eq, List.length_append, Array.length_toList]; simpa using hb1
  obtain ⟨ms1, i1, p1⟩ : ∃ ms1, IntsAre (es1.toList.map (·.2)) ms1 /\ ms1.Perm (ns ++ [k]) := by
   obtain ⟨ms1, i1, p1⟩ := IntsAre.perm (hperm.symm.map (·.2)) (ns := ms ++ [k]) (by rw [List.map_append]; exact IntsAre.snoc hi)
   exact ⟨ms1, i1, p1.trans (hp.append_right _)⟩
  refine wpAny_bind (hgw _ ?_)
  have hend : ∀ h', Heap.SameBut a s.heap h' -> SetI prog w h' a (ns ++ [k]) -> ∀ b, Q b { s with heap := h' } := fun h' hsb hS' b => h h' b hsb (by rw [hd']; exact hS')
  split
  ·refine wpAny_bind ?_
   rw [hashByValue_scannable 8 hsc]
   refine wpAny_pure ?_
   refine Zh5 ?_ ho hex hd hel1 i1 p1 hb1' ?_ ?_ ?_ ?_
   ·intro b s₁ Q' hq; cases b <;> first | exact wpAny_pure hq | exact wpAny_rule hq
   ·split
    ·exact hfits
    ·exact SetTable.fits_plain_off hfits
   ·split <;> exact hup
   ·have : (if plainKind (Value.int k tk) = true then t1 else { t1 with plain := false }).led = t1.led := by split <;> rfl
    rw [this, hled]; exact hl
   ·intro h' hsb hS'; dsimp only; exact wpAny_pure (hend h' hsb hS' _)
  ·refine wpAny_bind (wpAny_pure ?_)
   simp only [↓reduceIte]
   refine Zh5 ?_ ho hex hd hel1 i1 p1 hb1' hfits hup (by rw [hled]; exact hl) ?_
   ·intro b s₁ Q' hq; cases b <;> first | exact wpAny_pure hq | exact wpAny_rule hq
   ·intro h' hsb hS'; dsimp only; exact wpAny_pure (hend h' hsb hS' _)
end
end L2
set_option maxHeartbeats 4000000
namespace L2
open PySem PySem.Spec PyProof.Rows
section
variable {prog : Program} {w : World} {A : Around} {R : Result -> Shared -> Prop} {I : Addr} {fp wr : List Addr} {G : Array GenState -> Array GenState -> Prop} {n : Nat} {P : Nat -> Value -> Prop} {St : Nat -> Shared -> Prop}
theorem SetI.at {h h' : Heap} {a : Addr} {ns : List Int} (hS : SetI prog w h a ns) (k : ∀ o, h.get? a = some o -> h'.get? a = some o) : SetI prog w h' a ns := by
 obtain ⟨o, es, ep, t, ms, ho, rest⟩ := hS
 exact ⟨o, es, ep, t, ms, k _ ho, rest⟩
theorem Z43 (W : WalksS prog w A.in1 I fp wr G n P St) (S : Addr) (hSf : S ∉ fp)
  (val : Nat -> Int) (hval : ∀ i v, P i v -> ∃ t, v = .int (val i) t) (hb : n + 1 < scanBound) :
  ∀ (k i : Nat) (s : Shared), n - i = k -> i <= n -> St i s ->
   SetI prog w s.heap S (firstMet val i) ->
   (∀ s', Moved (S :: wr) G s s' -> SetI prog w s'.heap S (firstMet val n) -> R (.ok (.ret .none)) s') ->
   codeAny (model prog w) A (.builtin "set.update.loop" ⟨[.ref S, .ref I], []⟩) R s := by
 have hSw : S ∉ wr := fun h => hSf (W.sub _ h)
 have hsub : ∀ b ∈ wr, b ∈ S :: wr := fun b hb => List.mem_cons_of_mem _ hb
 intro k
 induction k with
 | zero =>
  intro i s hk hi hst hS hR
  have hin : i = n := by omega
  subst hin
  refine codeAny_builtin PyProof.Rows.F.entry_set_update_loop ?_
  rw [Around.under_plainId PyProof.Rows.F.plain_set_update_loop _]
  show wpAny _ A.in1 (pyNext (.ref I) >>= _) _ _ s
  refine wpAny_bind (W.done s _ _ hst fun s' hm => ?_)
  show wpAny _ A.in1 (ret Value.none) _ _ s'
  exact wpAny_pure (hR s' (hm.mono hsub) (hS.at fun o e => hm.heap S _ hSw e))
 | succ k ih =>
  intro i s hk hi hst hS hR
  have hlt : i < n := by omega
  refine codeAny_builtin PyProof.Rows.F.entry_set_update_loop ?_
  rw [Around.under_plainId PyProof.Rows.F.plain_set_update_loop _]
  show wpAny _ A.in1 (pyNext (.ref I) >>= _) _ _ s
  refine wpAny_bind (W.item i s _ _ hlt hst fun v s' hP hst' hm => ?_)
  obtain ⟨t, rfl⟩ := hval i v hP
  have hS' : SetI prog w s'.heap S (firstMet val i) := hS.at fun o e => hm.heap S _ hSw e
  show wpAny _ A.in1 (holding [Value.int (val i) t] (setAdd S (.int (val i) t)) >>= _) _ _ s'
  refine wpAny_bind (wpAny_holding ?_)
  unfold setAdd
  refine wpAny_holding ?_
  refine wpAny_bind ((intKind prog w).pyHash (k := val i) (intKind_is _ _ _ _) ?_)
  have hroom : (firstMet val i).length + 1 < scanBound := by have := firstMet_length_le val i; omega
  refine Zr3 (s := { s' with toks := s'.toks + 1 }) hS' hroom fun h' b hsb hS2 => ?_
  have hSi : SetI prog w h' S (firstMet val (i + 1)) := by rw [firstMet_succ]; exact hS2
  refine wpAny_pure ⟨plainId_quiet PyProof.Rows.F.plain_set_update_loop _, ih (i + 1) _ (by omega) hlt (W.frame _ s' _ _ hst' (Nat.le_succ _) fun b hb o e => ?_) hSi fun s'' hm'' hS'' => ?_⟩
  ·rw [hsb.2 b (fun h : b = S => hSf (by rw [<- h]; exact hb))]; exact e
  ·refine hR s'' (Moved.trans W.gtrans ((hm.mono hsub).then_heap (Nat.le_succ _) fun b o hb e => ?_) hm'') hS''
   rw [hsb.2 b (fun h : b = S => hb (by rw [h]; exact List.mem_cons_self))]; exact e
end
section
variable {prog : Program} {w : World} {A : Around} {E : L2.VSP} {s : Shared}
def newS (w : World) : Obj := { cls := .type "set", dict := none, data := .set #[] 0 (.fresh 0 0 (!w.params.followText "set-order")) }
theorem Zh6 {h : Heap} {a : Addr} (e : h.get? a = some (newS w)) : SetI prog w h a [] :=
 ⟨_, #[], 0, _, [], e, ⟨rfl, rfl, rfl⟩, rfl, fun e he => by simp at he, .nil, .refl _, by decide, by rfl, List.Pairwise.nil, by
  cases c : w.params.followText "set-order"
  ·left; simp [SetTable.fresh, c]
  ·right; rfl⟩
theorem Z7b (a : Value) {Q₁ : L2.VSP} (h : Q₁ (.ref s.heap.objs.size) { s with heap := s.heap.push (newS w) }) :
  codeAny (model prog w) A (.call (.builtin "set.__new__") ⟨[.type "set", a], []⟩) (wants Q₁ E) s := by
 refine codeAny_of_tree ?_
 show wpAny _ A.in1 (do checkBuiltinCall "set.__new__" ⟨[.type "set", a], []⟩; again (.builtin "set.__new__" ⟨[.type "set", a], []⟩)) _ _ s
 refine wpAny_bind (wpAny_of_eq (PySem.F.newCall_set_1 a) (wpAny_pure ⟨plainId_quiet PySem.F.plain_set_new _, codeAny_builtin PySem.F.entry_set_new ?_⟩))
 rw [Around.under_plainId PySem.F.plain_set_new _]
 unfold Builtin.«set.__new__» Builtin.Frozenset.newClass
 have hsub := sub_set_self
 obtain ⟨hp, g, d, tk, os⟩ := s
 dsimp only
 wp_walk
 refine wpAny_askSetting (wpAny_pure ?_)
 dsimp only
 simp only [newObj]
 refine wpAny_bind (wpAny_alloc (wpAny_pure ?_))
 exact wpAny_pure h
theorem Z7c : isSubtype (.type "tuple") (.type "frozenset") = pure false := by rw [isSubtype_type]; kernel_rfl
theorem Z7d : isSubtype (.type "tuple") (.type "set") = pure false := by rw [isSubtype_type]; kernel_rfl
theorem Z89 : isSubtype (.type "list") (.type "frozenset") = pure false := by rw [isSubtype_type]; kernel_rfl
theorem Z8a : isSubtype (.type "list") (.type "set") = pure false := by rw [isSubtype_type]; kernel_rfl
theorem Z8b {l : Addr} {items : Array Value} {ns : List Int} {Q : L2.VSP}
  (hh : A.handled = none) (hl : s.heap.IsList l items) (hi : PyProof.Rows.IntsAre items.toList ns) (hb : items.size + 1 < scanBound)
  (h : ∀ (h' : Heap) (tk : Nat), SetI prog w h' s.heap.objs.size (firstMet (fun i => ns.getD i 0) items.size) ->
   (∀ b o, s.heap.get? b = some o -> h'.get? b = some o) -> Q (.ref s.heap.objs.size) { s with heap := h', toks := tk }) :
  wpAny (model prog w) A (call (.type "set") [.ref l]) Q E s := by
 obtain ⟨c, tl, hmro⟩ := PySem.F.called_set.mro
 have hmade := PySem.F.called_set.made
 have hsub := PySem.F.called_set.sub
 refine wpAny_call (codeAny_of_tree ?_)
 show wpAny _ _ (callAny (.type "set") _) _ _ _
 refine wpAny_pure ⟨Code.quiet_builtin _ (by decide +kernel), codeAny_builtin PySem.F.entry_type_call ?_⟩
 rw [Around.under_plain (weight_type_call_type "set" [.ref l] []) rfl]
 have h1 := PySem.F.called_set.notType
 have h2 := PySem.F.called_set.canCreate
 have hct := PySem.F.typeCall_set_1 (.ref l)
 repeat (any_goals (first | assumption | wp_step))
 refine codeAny_mono (Z7b (.ref l) (E := E) (Q₁ := fun obj s₁ => obj = .ref s.heap.objs.size /\ s₁ = { s with heap := s.heap.push (newS w) }) ⟨rfl, rfl⟩) fun r s₁ hr => ?_
 cases r with
 | error e => exact hr
 | ok fl =>
  cases fl with
  | ret obj =>
   obtain ⟨rfl, rfl⟩ := hr
   have hS : (s.heap.push (newS w)).get? s.heap.objs.size = some (newS w) := Heap.get?_push_size _ rfl
   have hT : Shared.TypeIs { s with heap := s.heap.push (newS w) } (.ref s.heap.objs.size) "set" := ⟨_, hS, rfl⟩
   have hli := PySem.F.called_set.init.lookup
   have hbi := PySem.F.called_set.init.bind (.ref s.heap.objs.size)
   repeat (any_goals (first | assumption | wp_step))
   refine codeAny_mono (codeAny_call_builtin (R := wants (fun r s₂ => r = .none /\ ∃ h' tk, s₂ = { s with heap := h', toks := tk } /\
     SetI prog w h' s.heap.objs.size (firstMet (fun i => ns.getD i 0) items.size) /\
     (∀ b o, s.heap.get? b = some o -> h'.get? b = some o)) E) PySem.F.called_set.init.plain PySem.F.entry_set_init (check_set_init_1 hT ?_)) fun r₂ s₂ hr₂ => ?_
   ·have hl1 : (s.heap.push (newS w)).IsList l items := hl.push _
    obtain ⟨ol, hol, hcl, nl, hdl⟩ := hl
    obtain ⟨ocls, odict, odata, oslots⟩ := ol
    simp only at hcl hdl
    subst hcl; subst hdl
    have hol' : (s.heap.push (newS w)).get? l = some { cls := .type "list", dict := odict, data := .seq items nl, slots := oslots } := Heap.get?_push_of_some _ hol
    have hsls := Z8a
    have hslf := Z89
    have hne : (Value.type "list" == Value.type "dict") = false := by decide
    unfold Builtin.«set.__init__» noKeywords Builtin.Frozenset.updateFrom
    generalize hPI : pyIter = PI
    wp_walk
    subst hPI
    refine wpAny_pyIter_list hl1 ?_
    refine wpAny_bind (wpAny_runValue ?_)
    have hlS : l < s.heap.objs.size := Heap.lt_size hol
    have hh3 : A.in1.in1.in1.handled = none := by simp [hh]
    have hneI : l ≠ (s.heap.push (newS w)).objs.size := by
     rw [Heap.size_push]; exact Nat.ne_of_lt (Nat.lt_succ_of_lt hlS)
    have hSf : s.heap.objs.size ∉ [(s.heap.push (newS w)).objs.size, l] := by
     rw [Heap.size_push]; simp only [List.mem_cons, List.mem_singleton, List.not_mem_nil, or_false, not_or]
     exact ⟨Nat.ne_of_lt (Nat.lt_succ_self _), Nat.ne_of_gt hlS⟩
    have hval : ∀ (i : Nat) (v : Value), items[i]? = some v -> ∃ t, v = .int ((fun i => ns.getD i 0) i) t := fun i v hv =>
     PyProof.Rows.IntsAre.int_at hi i v (by rw [Array.getElem?_toList]; exact hv)
    refine Z43 ((Walks.list hh3 _ l hneI items).toS) s.heap.objs.size
     hSf (fun i => ns.getD i 0) hval hb (items.size - 0) 0 _ (by omega) (Nat.zero_le _)
     ⟨⟨_, Heap.get?_push_size _ rfl, rfl, rfl⟩, (hl1.push _)⟩ (Zh6 (Heap.get?_push_of_some _ hS)) ?hR
    case hR =>
     intro s' hm hS'
     obtain ⟨h', g', d', tk', os'⟩ := s'
     have eg : g' = s.gens := hm.gens
     have ed : d' = s.drawn := hm.drawn
     have eo : os' = s.os := hm.os
     subst eg; subst ed; subst eo
     show wpAny _ _ _ _ _ _
     refine wpAny_pure ?_
     show wpAny _ _ (ret Value.none) _ _ _
     refine wpAny_pure ⟨rfl, h', tk', rfl, hS', fun b o e => ?_⟩
     have hb := Heap.lt_size e
     have hb1 : b ≠ s.heap.objs.size := Nat.ne_of_lt hb
     have hb2 : b ≠ (s.heap.push (newS w)).objs.size := by
      rw [Heap.size_push]; exact Nat.ne_of_lt (Nat.lt_succ_of_lt hb)
     exact hm.heap b o (by simp only [List.mem_cons, List.mem_singleton, List.not_mem_nil, or_false, not_or]; exact ⟨hb1, hb2⟩) (Heap.get?_push_of_some _ (Heap.get?_push_of_some _ e))
   ·cases r₂ with
    | error e => exact hr₂
    | ok fl₂ =>
     cases fl₂ with
     | ret r =>
      obtain ⟨rfl, h', tk, rfl, hS', hk'⟩ := hr₂
      repeat (any_goals (first | assumption | wp_step))
      exact h _ _ hS' hk'
     | _ => exact hr₂.elim
  | _ => exact hr.elim
theorem Z7e {l : Addr} {items : Array Value} {ns : List Int} {Q : L2.VSP}
  (hh : A.handled = none) (hl : s.heap.IsTuple l items) (hi : PyProof.Rows.IntsAre items.toList ns) (hb : items.size + 1 < scanBound)
  (h : ∀ (h' : Heap) (tk : Nat), SetI prog w h' s.heap.objs.size (firstMet (fun i => ns.getD i 0) items.size) ->
   (∀ b o, s.heap.get? b = some o -> h'.get? b = some o) -> Q (.ref s.heap.objs.size) { s with heap := h', toks := tk }) :
  wpAny (model prog w) A (call (.type "set") [.ref l]) Q E s := by
 obtain ⟨c, tl, hmro⟩ := PySem.F.called_set.mro
 have hmade := PySem.F.called_set.made
 have hsub := PySem.F.called_set.sub
 refine wpAny_call (codeAny_of_tree ?_)
 show wpAny _ _ (callAny (.type "set") _) _ _ _
 refine wpAny_pure ⟨Code.quiet_builtin _ (by decide +kernel), codeAny_builtin PySem.F.entry_type_call ?_⟩
 rw [Around.under_plain (weight_type_call_type "set" [.ref l] []) rfl]
 have h1 := PySem.F.called_set.notType
 have h2 := PySem.F.called_set.canCreate
 have hct := PySem.F.typeCall_set_1 (.ref l)
 repeat (any_goals (first | assumption | wp_step))
 refine codeAny_mono (Z7b (.ref l) (E := E) (Q₁ := fun obj s₁ => obj = .ref s.heap.objs.size /\ s₁ = { s with heap := s.heap.push (newS w) }) ⟨rfl, rfl⟩) fun r s₁ hr => ?_
 cases r with
 | error e => exact hr
 | ok fl =>
  cases fl with
  | ret obj =>
   obtain ⟨rfl, rfl⟩ := hr
   have hS : (s.heap.push (newS w)).get? s.heap.objs.size = some (newS w) := Heap.get?_push_size _ rfl
   have hT : Shared.TypeIs { s with heap := s.heap.push (newS w) } (.ref s.heap.objs.size) "set" := ⟨_, hS, rfl⟩
   have hli := PySem.F.called_set.init.lookup
   have hbi := PySem.F.called_set.init.bind (.ref s.heap.objs.size)
   repeat (any_goals (first | assumption | wp_step))
   refine codeAny_mono (codeAny_call_builtin (R := wants (fun r s₂ => r = .none /\ ∃ h' tk, s₂ = { s with heap := h', toks := tk } /\
     SetI prog w h' s.heap.objs.size (firstMet (fun i => ns.getD i 0) items.size) /\
     (∀ b o, s.heap.get? b = some o -> h'.get? b = some o)) E) PySem.F.called_set.init.plain PySem.F.entry_set_init (check_set_init_1 hT ?_)) fun r₂ s₂ hr₂ => ?_
   ·have hl1 : (s.heap.push (newS w)).IsTuple l items := hl.push _
    obtain ⟨ol, hol, hcl, nl, hdl⟩ := hl
    obtain ⟨ocls, odict, odata, oslots⟩ := ol
    simp only at hcl hdl
    subst hcl; subst hdl
    have hol' : (s.heap.push (newS w)).get? l = some { cls := .type "tuple", dict := odict, data := .seq items nl, slots := oslots } := Heap.get?_push_of_some _ hol
    have hsls := Z7d
    have hslf := Z7c
    have hne : (Value.type "tuple" == Value.type "dict") = false := by decide
    unfold Builtin.«set.__init__» noKeywords Builtin.Frozenset.updateFrom
    generalize hPI : pyIter = PI
    wp_walk
    subst hPI
    refine wpAny_pyIter_tuple hl1 ?_
    refine wpAny_bind (wpAny_runValue ?_)
    have hlS : l < s.heap.objs.size := Heap.lt_size hol
    have hh3 : A.in1.in1.in1.handled = none := by simp [hh]
    have hneI : l ≠ (s.heap.push (newS w)).objs.size := by
     rw [Heap.size_push]; exact Nat.ne_of_lt (Nat.lt_succ_of_lt hlS)
    have hSf : s.heap.objs.size ∉ [(s.heap.push (newS w)).objs.size, l] := by
     rw [Heap.size_push]; simp only [List.mem_cons, List.mem_singleton, List.not_mem_nil, or_false, not_or]
     exact ⟨Nat.ne_of_lt (Nat.lt_succ_self _), Nat.ne_of_gt hlS⟩
    have hval : ∀ (i : Nat) (v : Value), items[i]? = some v -> ∃ t, v = .int ((fun i => ns.getD i 0) i) t := fun i v hv =>
     PyProof.Rows.IntsAre.int_at hi i v (by rw [Array.getElem?_toList]; exact hv)
    refine Z43 ((Walks.tuple hh3 _ l hneI items).toS) s.heap.objs.size
     hSf (fun i => ns.getD i 0) hval hb (items.size - 0) 0 _ (by omega) (Nat.zero_le _)
     ⟨⟨_, Heap.get?_push_size _ rfl, rfl, rfl⟩, (hl1.push _)⟩ (Zh6 (Heap.get?_push_of_some _ hS)) ?hR
    case hR =>
     intro s' hm hS'
     obtain ⟨h', g', d', tk', os'⟩ := s'
     have eg : g' = s.gens := hm.gens
     have ed : d' = s.drawn := hm.drawn
     have eo : os' = s.os := hm.os
     subst eg; subst ed; subst eo
     show wpAny _ _ _ _ _ _
     refine wpAny_pure ?_
     show wpAny _ _ (ret Value.none) _ _ _
     refine wpAny_pure ⟨rfl, h', tk', rfl, hS', fun b o e => ?_⟩
     have hb := Heap.lt_size e
     have hb1 : b ≠ s.heap.objs.size := Nat.ne_of_lt hb
     have hb2 : b ≠ (s.heap.push (newS w)).objs.size := by
      rw [Heap.size_push]; exact Nat.ne_of_lt (Nat.lt_succ_of_lt hb)
     exact hm.heap b o (by simp only [List.mem_cons, List.mem_singleton, List.not_mem_nil, or_false, not_or]; exact ⟨hb1, hb2⟩) (Heap.get?_push_of_some _ (Heap.get?_push_of_some _ e))
   ·cases r₂ with
    | error e => exact hr₂
    | ok fl₂ =>
     cases fl₂ with
     | ret r =>
      obtain ⟨rfl, h', tk, rfl, hS', hk'⟩ := hr₂
      repeat (any_goals (first | assumption | wp_step))
      exact h _ _ hS' hk'
     | _ => exact hr₂.elim
  | _ => exact hr.elim
end
def ItO (h : Heap) (I S : Addr) (first : Value) (i n ep : Nat) : Prop := ∃ o, h.get? I = some o /\ o.cls = .type "set_iterator" /\ o.data = .fields #[first, .int i 0, .ref S, .int n 0, .int ep 0]
def SO (h : Heap) (S : Addr) (es : Array (Int × Value)) (ep : Nat) (t : SetTable) : Prop := ∃ o, h.get? S = some o /\ o.data = .set es ep t
theorem ItO.at {h h' : Heap} {I S : Addr} {first : Value} {i n ep : Nat} (x : ItO h I S first i n ep) (k : ∀ o, h.get? I = some o -> h'.get? I = some o) : ItO h' I S first i n ep :=
 let ⟨o, e, r⟩ := x; ⟨o, k o e, r⟩
theorem SO.at {h h' : Heap} {S : Addr} {es : Array (Int × Value)} {ep : Nat} {t : SetTable} (x : SO h S es ep t) (k : ∀ o, h.get? S = some o -> h'.get? S = some o) : SO h' S es ep t :=
 let ⟨o, e, r⟩ := x; ⟨o, k o e, r⟩
structure Wk (prog : Program) (w : World) (A : Around) (I : Addr) (fp : List Addr) (ord : List Value) (St : Nat -> Heap -> Prop) : Prop where
 frame : ∀ i h h', St i h -> (∀ b ∈ fp, ∀ o, h.get? b = some o -> h'.get? b = some o) -> St i h'
 item : ∀ i (s : Shared) (Q : Option Value -> Shared -> Prop) (E : L2.VSP) (v : Value), ord[i]? = some v -> St i s.heap ->
  (∀ h', St (i + 1) h' -> (∀ b o, b ≠ I -> s.heap.get? b = some o -> h'.get? b = some o) -> Q (some v) { s with heap := h' }) -> wpAny (model prog w) A (pyNext (.ref I)) Q E s
 done : ∀ (s : Shared) (Q : Option Value -> Shared -> Prop) (E : L2.VSP), St ord.length s.heap ->
  (∀ h', (∀ b o, b ≠ I -> s.heap.get? b = some o -> h'.get? b = some o) -> Q none { s with heap := h' }) -> wpAny (model prog w) A (pyNext (.ref I)) Q E s
def dd (ns : List Int) : List Int := ns.foldl step_dedup []
theorem Zaf (ns : List Int) : (List.range ns.length).map (fun i => ns.getD i 0) = ns := by
 apply List.ext_getElem
 ·simp
 ·intro i h1 h2
  simp at h1
  simp [h1]
theorem Z95 (ns : List Int) {n : Nat} (h : n = ns.length) : firstMet (fun i => ns.getD i 0) n = dd ns := by
 subst h; unfold firstMet dd; rw [Zaf]
theorem Zoq (ns : List Int) : (dd ns).length <= ns.length := by
 rw [<- Z95 ns rfl]; exact firstMet_length_le _ _
theorem Zk1 : bootBuiltins "set" = some (.type "set") := by kernel_rfl
def Z44 (K : L2.Fg) : List V -> Hp -> VK -> Prop := fun xs H Q => ∃ (p : Addr) (ns : List Int), xs = [.ref p] /\ (SqL K H p (ns.map V.int) \/ SqT K H p (ns.map V.int)) /\ ns.length <= 4000 /\ Q (.int ((dd ns).length : Nat)) H
section
variable {X : Cx} {a : Expr} {t : TA} {pos pos2 p p2 : Pos}
theorem Zd6 (hc : X.calm = true) (hg : Gl X "len") (hm : X.mg "len" = none) (hg2 : Gl X "set") (hm2 : X.mg "set" = none) (ha : PA X [a] t)
  (he : starEach [a] X.env = (false, eval a X.env) :: starEach [] X.env) (hpl : (backTo pos2 (starEach [] X.env)).any (·.1) = false)
  (he' : starEach [.Call (.Name "set" p2) [a] [] pos2] X.env = (false, eval (.Call (.Name "set" p2) [a] [] pos2) X.env) :: starEach [] X.env) (hpl' : (backTo pos (starEach [] X.env)).any (·.1) = false) :
  PE X (.Call (.Name "len" p) [.Call (.Name "set" p2) [a] [] pos2] [] pos) (tCB (Z44 X.K) t) := by
 intro pins s σ H Q I h
 refine wpAny_Call_Name_kw (Z34 I hg hm boot_len ?_ (by decide) (by decide))
 refine PyProof.Rows.callWith_builtin1 ?_ he' hpl'
 rw [he']
 show wpAny _ _ (spliced ((false, eval (.Call (.Name "set" p2) [a] [] pos2) X.env) :: backTo pos (starEach [] X.env))) _ _ s
 refine Calls.spliced_cons (wpAny_Call_Name_kw (Z34 I hg2 hm2 Zk1 ?_ (by decide) (by decide)))
 refine PyProof.Rows.callWith_type1 (thn (ha pos2 pins s σ H _ I h) fun us s1 ⟨vs, H1, I1, r1, q1⟩ => ?_) he hpl
 obtain ⟨q, ns, rfl, hq, hl, k⟩ := q1
 obtain ⟨u, rfl, rx⟩ := Z2e r1
 cases rx
 have hh : X.A.handled = none := I1.ok.hd hc
 have fin : ∀ (its : List Value), Vals (ns.map V.int) its -> ∀ (h' : Heap) (tk : Nat), SetI X.prog X.w h' s1.heap.objs.size (firstMet (fun i => ns.getD i 0) its.toArray.size) ->
   (∀ b o, s1.heap.get? b = some o -> h'.get? b = some o) -> wpAny (model X.prog X.w) X.A (spliced (backTo pos (starEach [] X.env))) (fun vs s2 => wpAny (model X.prog X.w) X.A (call (.builtin "len") (.ref s1.heap.objs.size :: vs)) (EP X pins σ Q) X.xe s2) X.xe { s1 with heap := h', toks := tk } := fun its rv h' tk hS kp => by
  have hlen := rv.length
  rw [List.length_map] at hlen
  rw [Z95 ns (by simp [hlen])] at hS
  refine Calls.spliced_nil ?_
  obtain ⟨o, es, ep, t, ms, ho, hex, hd, hel, hi, hp, hb, hf, hu, hled⟩ := hS
  have e1 : es.size = (dd ns).length := by
   have e2 := hi.length
   rw [List.length_map, Array.length_toList] at e2
   rw [e2, hp.length_eq]
  have hd4 := Zoq ns
  refine call_len_set ho hex hd hf (by rw [e1]; omega) ?_
  rw [e1]
  exact ⟨.int ((dd ns).length : Nat), H1, (I1.kept (t' := tk + 1 + 1) kp), ⟨_, rfl⟩, k⟩
 rcases hq with hq | hq
 ·obtain ⟨its, r', pl, hz⟩ := I1.list hq
  have hlen := r'.length
  rw [List.length_map] at hlen
  exact Z8b hh pl.isList (by simpa using Z4i r') (by simp [<- hlen]; unfold scanBound; omega) (fin its r')
 ·obtain ⟨its, r', pl, hz⟩ := I1.tuple hq
  have hlen := r'.length
  rw [List.length_map] at hlen
  obtain ⟨o, ho, hc, n, hd⟩ := pl
  exact Z7e hh ⟨o, ho, hc, n, hd⟩ (by simpa using Z4i r') (by simp [<- hlen]; unfold scanBound; omega) (fin its r')
end
def Z2h : List U -> Option U
 | [.lst us] => (Z11 us).bind fun ns => if ns.length <= 4000 then some (.int ((dd ns).length : Nat)) else none
 | [.tup us] => (Z11 us).bind fun ns => if ns.length <= 4000 then some (.int ((dd ns).length : Nat)) else none
 | _ => none
theorem Z7f {ns : List Int} (h : ns.length <= 4000) : Z2h [.lst (ns.map U.int)] = some (.int ((dd ns).length : Nat)) := by
 unfold Z2h; simp only; rw [Z15]; exact if_pos h
section
variable {W : Wd}
theorem Zd7 : Z2z W [true] (Z44 W.K) Z2h := by
 intro Hc H ω us vs s p rs u e Q k
 have fin : ∀ (a : Addr) (ns : List Int), (SqL W.K H a (ns.map V.int) \/ SqT W.K H a (ns.map V.int)) -> ((if ns.length <= 4000 then some (U.int ((dd ns).length : Nat)) else none) = some u) -> Z44 W.K [.ref a] H Q := fun a ns hq hu => by
  by_cases c : ns.length <= 4000
  ·rw [if_pos c] at hu; cases hu
   exact ⟨a, ns, rfl, hq, c, k _ _ _ (.refl s) p .int⟩
  ·rw [if_neg c] at hu; cases hu
 unfold Z2h at e; split at e
 ·rename_i us
  obtain ⟨v, rfl, rv⟩ := rs.one; obtain ⟨a, vs, rfl, h1, r1⟩ := rv.lst s
  cases q : Z11 us with
  | none => rw [q] at e; exact noS e
  | some ns =>
   rw [q] at e
   have := Z18 q; subst this
   have := r1.ints; subst this
   exact fin a ns (.inl (.of h1)) e
 ·rename_i us
  obtain ⟨v, rfl, rv⟩ := rs.one; obtain ⟨a, vs, rfl, h1, r1⟩ := rv.tup
  cases q : Z11 us with
  | none => rw [q] at e; exact noS e
  | some ns =>
   rw [q] at e
   have := Z18 q; subst this
   have := r1.ints; subst this
   exact fin a ns (.inr (.of (s _ _ h1))) e
 ·cases e
end
section
variable {ι : Type} {X : L2.FC ι} {W : Wd} {m : Md} {E : XK} {a : Expr} {fa : Ef} {pos pos2 p p2 : Pos}
theorem Zag {Y : Cx} {K : L2.Fg} {e : Expr} {t : TA} (h : Y.K = K) (q : PE Y e (tCB (Z44 Y.K) t)) : PE Y e (tCB (Z44 K) t) := h ▸ q
theorem Z7g (cx : Ctx X W E) (B : Bl W.mg) (ha : QB X W m E a fa) (hg : ∀ y, Gl (X y) "len" := by intro ψ; rfl) (hg2 : ∀ y, Gl (X y) "set" := by intro ψ; rfl) (hs : ∀ y, starEach [a] (X y).env = (false, eval a (X y).env) :: starEach [] (X y).env := by intro ψ; rfl) (hp : ∀ y, (backTo pos2 (starEach [] (X y).env)).any (·.1) = false := by intro ψ; rfl)
  (hs' : ∀ y, starEach [.Call (.Name "set" p2) [a] [] pos2] (X y).env = (false, eval (.Call (.Name "set" p2) [a] [] pos2) (X y).env) :: starEach [] (X y).env := by intro ψ; rfl) (hp' : ∀ y, (backTo pos (starEach [] (X y).env)).any (·.1) = false := by intro ψ; rfl) :
  QE X W m E (.Call (.Name "len" p) [.Call (.Name "set" p2) [a] [] pos2] [] pos) (eB Z2h (Z01 fa aNil)) :=
 let ⟨_, pa, da⟩ := qa_b ha Z04 hs; ⟨_, fun y => Zag (cx.hK y) (Zd6 (cx.calm y) (hg y) ((congrFun (cx.hm y) _).trans B.len) (hg2 y) ((congrFun (cx.hm y) _).trans B.set) (pa y) (hs y) (hp y) (hs' y) (hp' y)), Zep Zd7 da⟩
end
section
variable {i j : Nat} {fa fb fc fi : Ef} {g : Sf} {ρ : En} {ω ω' : Om} {ps : Ps} {k : Int} {u v w : U} {us : List U} {is : List Nat}
theorem sFz_ap : sFz is g ρ ω = Z74 is (g ρ ω) := rfl
theorem dropFl_nx : Z74 is (.nx ρ ω) = .nx (Z3d is ρ) ω := rfl
theorem dropFl_rt : Z74 is (.rt u ω) = .rt u ω := rfl
theorem dropFl_err {c : Str} {p : Option Int} : Z74 is (.err c p ω) = .err c p ω := rfl
theorem dropE_nil : Z3d [] ρ = ρ := rfl
theorem dropE_cons : Z3d (i :: is) ρ = Z3d is (ρ.set i none) := rfl
def Zor (i : Nat) (ρ : En) (u : U) : Option Ps -> Res U -> Fl
 | some ps, .ok (.int k) ω2 => if ps.length < 10000 then .nx (ρ.set i (some (dicI (putI ps k u)))) ω2 else .stk
 | some _, .err c p ω2 => .err c p ω2
 | _, _ => .stk
def asDO (o : Option (Option U)) : Option Ps := o.bind fun o => o.bind asD
theorem sDPutU_ap : Z1x i fi fa ρ ω = Fl.of (fa ρ ω) fun u ω1 => Zor i ρ u (asDO ρ[i]?) (fi ρ ω1) := by
 unfold Z1x
 congr 1
 funext u ω1
 show (match asDO ρ[i]? with
  | some ps => _
  | none => _) = _
 cases asDO ρ[i]? with
 | none => rfl
 | some ps =>
  cases fi ρ ω1 with
  | ok k ω2 => cases k <;> rfl
  | err c p ω2 => rfl
  | stk => rfl
theorem dputA_ok (h : ps.length < 10000) : Zor i ρ u (some ps) (.ok (.int k) ω) = .nx (ρ.set i (some (dicI (putI ps k u)))) ω := if_pos h
theorem asDO_I : asDO (some (some (dicI ps))) = some ps := asD_I ps
def Zos (i : Nat) (ρ : En) : Option Ps -> Res U -> Fl
 | some ps, .ok (.int k) ω2 => if (asc ps k).isSome = true then .nx (ρ.set i (some (dicI (Z32 ps k)))) ω2 else .stk
 | some _, .err c p ω2 => .err c p ω2
 | _, _ => .stk
theorem sDPopU_ap : Z40 i fi ρ ω = match asDO ρ[i]? with
  | some ps => Zos i ρ (some ps) (fi ρ ω)
  | none => .stk := by
 unfold Z40
 show (match asDO ρ[i]? with
  | some ps => _
  | none => _) = _
 cases asDO ρ[i]? with
 | none => rfl
 | some ps =>
  cases fi ρ ω with
  | ok k ω2 => cases k <;> rfl
  | err c p ω2 => rfl
  | stk => rfl
theorem dpopA_ok (h : (asc ps k).isSome = true) : Zos i ρ (some ps) (.ok (.int k) ω) = .nx (ρ.set i (some (dicI (Z32 ps k)))) ω := if_pos h
theorem uDGet_I : Z1p (dicI ps) (.int k) = asc ps k := by unfold Z1p; simp only; rw [asD_I]; rfl
theorem uDIn_t : uDIn true (.int k) (dicI ps) = some (.bl (!(asc ps k).isSome)) := by unfold uDIn; simp only; rw [asD_I]; rfl
theorem uDIn_f : uDIn false (.int k) (dicI ps) = some (.bl (asc ps k).isSome) := by unfold uDIn; simp only; rw [asD_I]; rfl
theorem uDLen_I : Zab [dicI ps] = some (.int ps.length) := by unfold Zab; simp only; rw [asD_I]; rfl
theorem eDGet1_ap : Z72 fa fb ρ ω = (fa ρ ω).bnd fun a ω1 => match asD a with
 | some ps => (fb ρ ω1).bnd fun b ω2 => .of (uGt1 ps b) ω2
 | none => .stk := rfl
theorem uGt1_i : uGt1 ps (.int k) = some ((asc ps k).getD .non) := rfl
theorem uDCopy_I : Z24 [dicI ps] = some (dicI ps) := by unfold Z24; simp only; rw [asD_I]; rfl
theorem eDNew_ap : Zcr ρ ω = .ok (dicI []) ω := rfl
theorem eD1_ap : eD1 fa fb ρ ω = (fa ρ ω).bnd fun a ω1 => (fb ρ ω1).bnd fun b ω2 => .of (uD1 a b) ω2 := rfl
theorem uD1_i : uD1 (.int k) u = some (dicI [(k, u)]) := rfl
theorem iDicU_ap : Zac fa ρ ω = (fa ρ ω).bnd fun u ω1 => .of ((asD u).map Z4g) ω1 := rfl
theorem sPopAt_ap : Z94 j fa ρ ω = match ρ[j]? with
 | some (some (.lst ws)) => Fl.of (fa ρ ω) fun u ω1 => match u with
  | .int k => if 0 <= k /\ k.toNat < ws.length /\ ws.length <= sizeLine then .nx (ρ.set j (some (.lst (ws.eraseIdx k.toNat)))) ω1 else .stk
  | _ => .stk
 | _ => .stk := rfl
theorem sSetPop_ap : Z42 i j ρ ω = match ρ[j]? with
 | some (some (.lst ws)) => match ws.getLast? with
  | some w => .nx ((ρ.set j (some (.lst ws.dropLast))).set i (some w)) ω
  | none => .stk
 | _ => .stk := rfl
theorem sPut2_ap : Zfg i fb fc fa ρ ω = Fl.of (fa ρ ω) fun u ω1 => match two u with
 | some (u, v) => match Z2p i fb u ρ ω1 with
  | .nx ρ' ω' => Z2p i fc v ρ' ω'
  | .err c p ω' => .err c p ω'
  | _ => .stk
 | none => .stk := rfl
theorem two_t : two (.tup [u, v]) = some (u, v) := rfl
theorem sPutN_ap : Z2p i fb u ρ ω = match ρ[i]? with
 | some (some w) => Fl.of (fb ρ ω) fun k ω1 => match k with
  | .int k => match putU w k u with
   | some w' => .nx (ρ.set i (some w')) ω1
   | none => .stk
  | _ => .stk
 | _ => .stk := rfl
theorem putU_d (h : ps.length < 10000) : putU (dicI ps) k u = some (dicI (putI ps k u)) := by
 unfold putU dicI
 simp only
 rw [show (U.dic (ps.map fun p => U.int p.1) (ps.map (·.2))) = dicI ps from rfl, asD_I]
 exact if_pos h
theorem uReversed_t : Z1j [.tup us] = some us.reverse := rfl
theorem uReversed_l : Z1j [.lst us] = some us.reverse := rfl
theorem isNon_d : Z2y (dicI ps) = false := rfl
end
theorem Zd8 {k : Int} : asc [] k = none := rfl
theorem Z1c {p : Int × U} {ps : Ps} {k : Int} : asc (p :: ps) k = if p.1 = k then some p.2 else asc ps k := by
 unfold asc
 by_cases c : p.1 = k
 ·rw [List.find?_cons_of_pos (by simp [c]), if_pos c]; rfl
 ·rw [List.find?_cons_of_neg (by simp [c]), if_neg c]
theorem Z5s {k : Int} : ∀ {ps : Ps}, (asc ps k).isSome = true ↔ k ∈ ps.map (·.1)
 | [] => by simp [Zd8]
 | p :: ps => by
  rw [Z1c]
  by_cases c : p.1 = k
  ·simp [c]
  ·rw [if_neg c, Z5s]
   simp only [List.map_cons, List.mem_cons]
   exact ⟨.inr, fun h => h.resolve_left fun z => c z.symm⟩
theorem Z96 {k : Int} {ps : Ps} : asc ps k = none ↔ k ∉ ps.map (·.1) := by
 rw [<- Z5s]
 cases asc ps k <;> simp
theorem Z45 {k : Int} {u : U} : ∀ {ps : Ps}, (ps.map (·.1)).Nodup -> (k, u) ∈ ps -> asc ps k = some u
 | p :: ps, n, h => by
  rw [List.map_cons, List.nodup_cons] at n
  rw [Z1c]
  rcases List.mem_cons.mp h with h | h
  ·subst h; rw [if_pos rfl]
  ·have c : p.1 ≠ k := fun z => n.1 (z ▸ List.mem_map_of_mem (f := (·.1)) h)
   rw [if_neg c]; exact Z45 n.2 h
theorem Zfl {k : Int} {ps : Ps} : (ps.any fun p => decide (p.1 = k)) = true ↔ k ∈ ps.map (·.1) := by
 rw [List.any_eq_true, List.mem_map]
 exact ⟨fun ⟨p, h, e⟩ => ⟨p, h, of_decide_eq_true e⟩, fun ⟨p, h, e⟩ => ⟨p, h, decide_eq_true e⟩⟩
theorem Z2d {ps : Ps} {k : Int} {u : U} (h : k ∉ ps.map (·.1)) : putI ps k u = ps ++ [(k, u)] := by
 unfold putI; rw [if_neg (fun z => h (Zfl.mp z))]
theorem Z46 {ps : Ps} {k : Int} {u : U} (h : k ∈ ps.map (·.1)) : (putI ps k u).map (·.1) = ps.map (·.1) := by
 unfold putI; rw [if_pos (Zfl.mpr h), List.map_map]
 apply List.map_congr_left
 intro p ψ
 simp only [Function.comp]
 split <;> rfl
theorem Zd9 {ps : Ps} {k : Int} {u : U} (n : (ps.map (·.1)).Nodup) : ((putI ps k u).map (·.1)).Nodup := by
 by_cases h : k ∈ ps.map (·.1)
 ·rw [Z46 h]; exact n
 ·rw [Z2d h, List.map_append]
  rw [List.nodup_append]
  refine ⟨n, by simp, fun a ha b hb z => ?_⟩
  simp at hb
  subst hb; subst z
  exact h ha
theorem Z3h {ps : Ps} {k : Int} {u : U} {p : Int × U} (h : p ∈ putI ps k u) : p = (k, u) \/ (p ∈ ps /\ p.1 ≠ k) := by
 by_cases hk : k ∈ ps.map (·.1)
 ·unfold putI at h; rw [if_pos (Zfl.mpr hk)] at h
  obtain ⟨q, hq, e⟩ := List.mem_map.mp h
  by_cases c : q.1 = k
  ·rw [if_pos c] at e; left; rw [<- e, c]
  ·rw [if_neg c] at e; subst e; exact .inr ⟨hq, c⟩
 ·rw [Z2d hk] at h
  rcases List.mem_append.mp h with h | h
  ·exact .inr ⟨h, fun z => hk (z ▸ List.mem_map_of_mem (f := (·.1)) h)⟩
  ·simp at h; exact .inl h
theorem Zk2 {ps : Ps} {k j : Int} {u : U} : asc (putI ps k u) j = if j = k then some u else asc ps j := by
 by_cases h : k ∈ ps.map (·.1)
 ·unfold putI; rw [if_pos (Zfl.mpr h)]
  induction ps with
  | nil => simp at h
  | cons p ps ih =>
   rw [List.map_cons, Z1c, Z1c]
   by_cases c : p.1 = k
   ·rw [if_pos c]
    simp only
    by_cases cj : p.1 = j
    ·rw [if_pos cj, if_pos (cj.symm.trans c)]
    ·rw [if_neg cj]
     have nj : j ≠ k := fun z => cj (c.trans z.symm)
     rw [if_neg nj, if_neg cj]
     clear ih h
     induction ps with
     | nil => rfl
     | cons q ps ih2 =>
      rw [List.map_cons, Z1c, Z1c, ih2]
      by_cases cq : q.1 = k
      ·rw [if_pos cq]
       simp only
       have nq : q.1 ≠ j := fun z => nj (z.symm.trans cq)
       rw [if_neg nq, if_neg nq]
      ·rw [if_neg cq]
   ·rw [if_neg c]
    by_cases cj : p.1 = j
    ·rw [if_pos cj, if_pos cj]
     rw [if_neg (fun z => c (cj.trans z))]
    ·rw [if_neg cj, if_neg cj]
     refine ih ?_
     rw [List.map_cons, List.mem_cons] at h
     exact h.resolve_left fun z => c z.symm
 ·rw [Z2d h]
  induction ps with
  | nil =>
   rw [List.nil_append, Z1c, Zd8]
   by_cases c : j = k
   ·rw [if_pos c, if_pos c.symm]
   ·rw [if_neg c, if_neg (fun z => c z.symm)]
  | cons p ps ih =>
   rw [List.map_cons, List.mem_cons] at h
   rw [List.cons_append, Z1c, Z1c, ih fun z => h (.inr z)]
   by_cases c : p.1 = j
   ·rw [if_pos c, if_pos c, if_neg (fun z => h (.inl (c.trans z).symm))]
   ·rw [if_neg c, if_neg c]
theorem Zah {ps : Ps} {k : Int} : (Z32 ps k).map (·.1) = (ps.map (·.1)).filter (fun j => decide (j ≠ k)) := by
 unfold Z32; rw [List.filter_map]; rfl
theorem Zfm {ps : Ps} {k : Int} (n : (ps.map (·.1)).Nodup) : ((Z32 ps k).map (·.1)).Nodup := by
 rw [Zah]; exact n.filter _
theorem Z7h {ps : Ps} {k : Int} {p : Int × U} (h : p ∈ Z32 ps k) : p ∈ ps := (List.mem_filter.mp h).1
end L2
set_option maxHeartbeats 4000000
namespace L2
open PySem PySem.Spec PyProof.Rows
section
variable {prog : Program} {w : World} {A : Around} {E : L2.VSP} {s : Shared}
theorem Zk3 : typeLookup (.type "list") "keys" = pure none := by rw [typeLookup_type, builtinLookup_eq_fast]; kernel_rfl
theorem Zda {a : Addr} {xs : Array Value} {k : Nat} {Q : Option Value -> Shared -> Prop} (hx : s.heap.get? a = some { cls := .type "list", data := .seq xs k }) (hA : A.handled = none)
  (h : ∀ h' tk, (∀ b o, s.heap.get? b = some o -> h'.get? b = some o) -> Q none { s with heap := h', toks := tk }) :
  wpAny (model prog w) A (getAttr? (.ref a) "keys") Q E s := by
 obtain ⟨hp, g, d, tk, os⟩ := s
 have ty : ∀ t', (⟨hp, g, d, t', os⟩ : Shared).TypeIs (.ref a) "list" := fun ψ => ⟨_, hx, rfl⟩
 have q1 := sub_AttributeError
 have q2 := F.slot_list_getattribute.lookup
 have q3 := F.slot_list_getattribute.bind (.ref a)
 have q4 := am_list_getattr_none
 unfold getAttr? getAttrBy? getAttrBy
 repeat (any_goals (first | assumption | exact ty _ | ((with_reducible show wpAny _ _ (call (Value.builtin "list.__getattribute__") _ _) _ _ _); refine call_meets F.slot_list_getattribute (ty _) am_entry_list_getattribute (F.args_list_getattribute_2 _ _) (meets_getattribute_miss_list a xs k #[] "keys" _ Zk3 (by decide) (by size_fits)) ⟨hx, hA, fun h' tk' e x => ?_⟩) | wp_step))
 obtain ⟨u1, u2, he⟩ := x.there
 show wpAny _ _ (getattributeRaised _ _ _ _ _ _ _) _ _ _
 unfold getattributeRaised
 repeat (any_goals (first | assumption | wp_step))
 exact h _ _ x.keeps
theorem Z7i : entryFor table "dict.update.loop" = some Builtin.«dict.update.loop» := entryFor_of_tree (by kernel_rfl)
def Pr (h : Heap) (v : Value) (q : Int × V) : Prop := ∃ t kv x, v = .ref t /\ IsTup h t #[kv, x] /\ RelV (.int q.1) kv /\ RelV q.2 x
def Zdb (acc : List (Key × V)) (ps : List (Int × V)) : List (Key × V) := ps.foldl (fun a q => putK a (.inl q.1) q.2) acc
theorem Z97 {p l it : Addr} {items : Array Value} {h0 : Heap} {Q : Shared -> Prop} (hA : A.handled = none) (np : h0.get? p = none) (ni : h0.get? it = none) (pi : p ≠ it) (hl : h0.IsList l items) :
  ∀ (rest : List Value) (ps : List (Int × V)) (i : Nat) (acc : List (Key × V)) (vs : List (Key × Value)) (s : Shared), items.toList.drop i = rest -> Paired (Pr h0) rest ps -> KV acc vs -> s.heap.IsListIter it l i -> (∀ b o, h0.get? b = some o -> s.heap.get? b = some o) -> s.heap.DictOf (Z0b prog w) p vs -> acc.length + rest.length <= 10000 ->
  (∀ h' tk vs', KV (Zdb acc ps) vs' -> h'.DictOf (Z0b prog w) p vs' -> (∀ b o, h0.get? b = some o -> h'.get? b = some o) -> Q { s with heap := h', toks := tk }) ->
  codeAny (model prog w) A (.builtin "dict.update.loop" ⟨[.ref p, .ref it, rawInt i, .none], []⟩) (wants (fun r s₂ => r = .none /\ Q s₂) E) s
 | [], ps, i, acc, vs, s, hd, hp, kv, hi, old, dd, hn, k => by
  cases hp
  refine codeAny_builtin Z7i ?_
  show wpAny _ _ (pyNext (.ref it) >>= _) _ _ _
  have hl' : s.heap.IsList l items := let ⟨o, ho, r⟩ := hl; ⟨o, old _ _ ho, r⟩
  refine wpAny_bind (wpAny_pyNext_list_end (show (A.under _).handled = none from hA) hi hl' (by
   rw [<- Array.getElem?_toList]
   have := List.drop_eq_nil_iff.mp hd
   exact List.getElem?_eq_none this) fun h' hx => ?_)
  refine wpAny_bind (m := Builtin.Dict.addKeywords p []) (wpAny_pure (wpAny_pure ⟨rfl, k h' s.toks vs kv (dd.extBut hx pi) fun b o ho => hx b o (fun z => by rw [z, ni] at ho; cases ho) (old b o ho)⟩))
 | v :: rest, ps, i, acc, vs, s, hd, hp, kv, hi, old, dd, hn, k => by
  cases hp with
  | cons h1 h2 =>
   rename_i q ps
   obtain ⟨t, kv', x, rfl, ht, r1, r2⟩ := h1
   refine codeAny_builtin Z7i ?_
   show wpAny _ _ (pyNext (.ref it) >>= _) _ _ _
   have hl' : s.heap.IsList l items := let ⟨o, ho, r⟩ := hl; ⟨o, old _ _ ho, r⟩
   have hv : items[i]? = some (.ref t) := by
    rw [<- Array.getElem?_toList, <- List.head?_drop, hd]; rfl
   refine wpAny_bind (wpAny_pyNext_list_item hi hl' hv fun h' hi' hs => ?_)
   have old' : ∀ b o, h0.get? b = some o -> h'.get? b = some o := fun b o ho => (hs.2 b (fun z => by rw [z, ni] at ho; cases ho)).trans (old b o ho)
   obtain ⟨ot, hot, hct, nt, hdt⟩ := ht
   refine wpAny_bind (wpAny_holding (wpAny_bind (m := tryCatch _ _) (wpAny_tryCatch ?_)))
   show wpAny _ _ (Builtin.Dict.pairItems (.ref t)) _ _ _
   unfold Builtin.Dict.pairItems
   refine wpAny_bind (wpAny_typeOf (T := "tuple") ⟨ot, old' _ _ hot, hct⟩ ?_)
   rw [if_pos (by decide)]
   refine wpAny_bind (wpAny_seqItems (old' _ _ hot) hdt (wpAny_pure ?_))
   show wpAny _ _ (holding _ (dictSet p kv' x)) _ _ _
   have hz : vs.length = acc.length := (Paired.length kv).symm
   simp at hn
   refine wpAny_holding (wpAny_dictSet_pairs (knd := Z0b prog w) (k := .inl q.1) (hsz := by rw [hz, sizeLine_eq]; omega) (Z5m (k := .inl q.1) r1) (dd.sameBut hs pi) fun h2' dd' hs2 => ?_)
   refine wpAny_pure ⟨Code.quiet_builtin _ (by decide +kernel), ?_⟩
   have hl2 := Z1u acc (.inl q.1) q.2
   have ci : rawInt ((i : Int) + 1) = rawInt ((i + 1 : Nat) : Int) := by rw [Int.natCast_add]; rfl
   show codeAny (model prog w) A (.builtin "dict.update.loop" ⟨[.ref p, .ref it, rawInt ((i : Int) + 1), .none], []⟩) _ _
   rw [ci]
   refine Z97 hA np ni pi hl rest ps (i + 1) (putK acc (.inl q.1) q.2) (stored vs (.inl q.1) x) _ ?_ h2 (kv.put _ r2) (hi'.at fun o ho => (hs2.2 _ (Ne.symm pi)).trans ho) (fun b o ho => (hs2.2 b (fun z => by rw [z, np] at ho; cases ho)).trans (old' b o ho)) dd' (by omega) fun h3 tk vs' a1 a2 a3 => k h3 tk vs' a1 a2 a3
   rw [<- List.tail_drop, hd]; rfl
end
def ofP (ps : List (Int × V)) : List (Int × V) := ps.foldl (fun a q => putK a q.1 q.2) []
theorem Zdc : ∀ (ps acc : List (Int × V)), (ps.foldl (fun a q => putK a q.1 q.2) acc).length <= acc.length + ps.length
 | [], _ => Nat.le_refl _
 | q :: ps, acc => by
  have h1 := Zdc ps (putK acc q.1 q.2)
  have h2 := Z1u acc q.1 q.2
  rw [List.foldl_cons, List.length_cons]
  omega
theorem Z98 : ∀ (ps : List (Int × V)) (acc : List (Int × V)), Zdb (kvK acc) ps = kvK (ps.foldl (fun a q => putK a q.1 q.2) acc)
 | [], _ => rfl
 | q :: ps, acc => by
  show Zdb (putK (kvK acc) (.inl q.1) q.2) ps = _
  rw [Zo1]
  exact Z98 ps _
def PPr (H : Hp) : List V -> List (Int × V) -> Prop := Paired fun v q => ∃ t, v = .ref t /\ H t = some (.tup [.int q.1, q.2])
def rOfP : List V -> Hp -> VK -> Prop := fun xs H Q => ∃ (l : Addr) (vs : List V) (ps : List (Int × V)), xs = [.ref l] /\ H l = some (.lst vs) /\ PPr H vs ps /\ vs.length <= 5000 /\ ∀ p ob, H p = none -> Q (.ref p) (upd H p (dE p ob (ofP ps)))
theorem PPr.raw {P : Program} {w : World} {H : Hp} {h : Heap} (ok : HOk P w H h) : ∀ {vs : List V} {its : List Value} {ps : List (Int × V)}, Vals vs its -> PPr H vs ps -> Paired (Pr h) its ps
 | [], its, ps, r, p => by cases p; cases r; exact .nil
 | v :: vs, its, ps, r, p => by
  cases p with
  | cons p1 p2 =>
   cases r with
   | cons r1 r2 =>
    refine .cons ?_ (PPr.raw ok r2 p2)
    obtain ⟨t, rfl, ht⟩ := p1
    cases r1
    obtain ⟨_, us, ru, tu⟩ := (show Z0r P w H h t (.tup _) from ok t _ ht)
    cases ru with
    | cons u1 u2 =>
     cases u2 with
     | cons u3 u4 =>
      cases u4
      exact ⟨t, _, _, rfl, tu, u1, u3⟩
theorem Zfn {X : Cx} (hc : X.calm = true) : Z0s X (.type "dict") rOfP := by
 intro pins s σ H xs us Q I r h
 obtain ⟨l, vs, ps, rfl, hl, pp, hn, q⟩ := h
 obtain ⟨u, rfl, ru⟩ := Z2e r
 cases ru
 obtain ⟨_, its, n, rv, ho⟩ := (show Z0r X.prog X.w H s.heap l (.lst vs) from I.hok l _ hl)
 have hil : its.length = vs.length := (Paired.length rv).symm
 have hh : X.A.handled = none := I.ok.hd hc
 have pr := pp.raw I.hok rv
 let hp : Heap := s.heap.push { cls := .type "dict", data := .dict #[] }
 refine callType_codes (Q₁ := fun o t => o = .ref s.heap.objs.size /\ t = { s with heap := hp }) F.kt_called_dict (F.kt_typeCall_dict_1 _) F.entry_dict_init (kt_code_dict_new _ ⟨rfl, rfl⟩) ?_
 rintro o t ⟨rfl, rfl⟩
 have hnew : hp.DictOf (Z0b X.prog X.w) s.heap.objs.size [] := Heap.DictOf.new s.heap
 have ho1 : hp.get? l = some { cls := .type "list", data := .seq its.toArray n } := Heap.get?_push_of_some _ ho
 refine ⟨hnew.typeIs, F.args_dict_init_2 _ _, ?_⟩
 unfold Builtin.«dict.__init__» Builtin.Dict.selfAndRest
 refine wpAny_bind (wpAny_bind (wpAny_notOrdered_dict hnew.typeIs ?_))
 refine wpAny_pure (a := (s.heap.objs.size, [Value.ref l])) ?_
 show wpAny _ _ (Builtin.Dict.updateFrom "dict.__init__" s.heap.objs.size (.ref l) [] .none) _ _ _
 unfold Builtin.Dict.updateFrom
 refine wpAny_bind (wpAny_typeOf (T := "list") ⟨_, ho1, rfl⟩ ?_)
 rw [if_pos (by decide)]
 refine wpAny_bind (Zda (A := X.A.in1.in1) (s := { s with heap := hp }) ho1 hh fun h1 tk k1 => ?_)
 rw [if_pos (by rfl)]
 have ho2 := k1 _ _ ho1
 refine wpAny_bind (wpAny_rule (wpAny_bind (wpAny_pyIter_list (s := { s with heap := h1, toks := tk }) (items := its.toArray) ⟨_, ho2, rfl, n, rfl⟩ ?_)))
 have lt1 : s.heap.objs.size < h1.objs.size := by
  obtain ⟨q, _, _, hq, _⟩ := hnew
  exact Heap.lt_size (k1 _ _ hq)
 have k0 : ∀ b o, s.heap.get? b = some o -> h1.get? b = some o := fun b o hb => k1 b o (Heap.get?_push_of_some _ hb)
 refine wpAny_pure ⟨Code.quiet_builtin _ (by decide +kernel), ?_⟩
 refine Z97 (prog := X.prog) (w := X.w) (A := X.A.in1) (Q := fun t => EP X pins σ Q (Value.ref s.heap.objs.size) t) (h0 := s.heap) (items := its.toArray) hh (Heap.get?_none_of_le (Nat.le_refl _)) (Heap.get?_none_of_le (Nat.le_of_lt lt1)) (Nat.ne_of_lt lt1) ⟨_, ho, rfl, n, rfl⟩ its ps 0 (kvK []) [] { s with heap := h1.push { cls := .type "list_iterator", data := .fields #[.ref l, .int 0 0] }, toks := tk } (by simp) pr .nil ⟨_, Heap.get?_push_size _ rfl, rfl, rfl⟩ (fun b o hb => Heap.get?_push_of_some _ (k0 b o hb)) ?_ ?_ fun h' tk' vs' a1 a2 a3 => ?_
 ·obtain ⟨q, es, ep, hq, r⟩ := hnew
  exact ⟨q, es, ep, Heap.get?_push_of_some _ (k1 _ _ hq), r⟩
 ·show 0 + its.length <= 10000; omega
 ·rw [Z98] at a1
  have z : (kvK (ofP ps)).length <= sizeLine := by
   have b1 := Zdc ps []
   have b2 : ps.length = its.length := (Paired.length pr).symm
   unfold ofP kvK
   rw [List.length_map, sizeLine_eq]
   simp at b1
   omega
  have I2 := I.laid (a := s.heap.objs.size) (o := .dK (kvK (ofP ps))) (h' := h') (t' := tk') a3 (Nat.le_refl _) (Z4v z (beq_eq_false_iff_ne.mpr (Ne.symm (Nat.ne_of_lt I.big))) a1 a2)
  obtain ⟨ob, I3⟩ := I2.dE_wr
  exact ⟨.ref s.heap.objs.size, _, I3, rfl, q _ ob (I.hok.fresh (Nat.le_refl _))⟩
def asPr : U -> Option (Int × U)
 | .tup [.int k, u] => some (k, u)
 | _ => none
theorem Zk4 {u : U} {p : Int × U} (h : asPr u = some p) : u = .tup [.int p.1, p.2] := by
 unfold asPr at h
 split at h
 ·cases h; rfl
 ·cases h
def asPs : List U -> Option Ps
 | [] => some []
 | u :: us => (asPr u).bind fun p => (asPs us).map fun ps => p :: ps
def ofI (ps : Ps) : Ps := ps.foldl (fun a q => putI a q.1 q.2) []
def uDOf : List U -> Option U
 | [.lst us] => (asPs us).bind fun ps => if us.length <= 5000 then some (dicI (ofI ps)) else none
 | _ => none
section
variable {W : Wd} {m : Md} {E : XK} {H H' : Hp}
theorem Zdd (sm : Same H H') : ∀ {us : List U} {vs : List V} {ps : Ps}, asPs us = some ps -> RUs W H us vs -> ∃ kvs : List (Int × V), PPr H' vs kvs /\ ∀ (acc : Ps) (ac : List (Int × V)), RPs W H acc ac -> RPs W H (ps.foldl (fun a q => putI a q.1 q.2) acc) (kvs.foldl (fun a q => putK a q.1 q.2) ac)
 | [], vs, ps, h, r => by
  cases h
  rw [RUs] at r; subst r
  exact ⟨[], .nil, fun ψ ψ k => k⟩
 | u :: us, vs, ps, h, r => by
  unfold asPs at h
  cases q : asPr u with
  | none => rw [q] at h; cases h
  | some p =>
   rw [q] at h
   simp only [Option.bind_some] at h
   cases q2 : asPs us with
   | none => rw [q2] at h; cases h
   | some ps' =>
    rw [q2] at h
    cases h
    have := Zk4 q; subst this
    rw [RUs] at r
    obtain ⟨v, vs', rfl, r1, r2⟩ := r
    rw [RU] at r1
    obtain ⟨a, ws, rfl, ha, rw'⟩ := r1
    rw [RUs] at rw'
    obtain ⟨x, ws1, rfl, x1, x2⟩ := rw'
    rw [RUs] at x2
    obtain ⟨y, ws2, rfl, y1, y2⟩ := x2
    rw [RUs] at y2; subst y2
    have hx : x = .int p.1 := by rw [RU] at x1; exact x1
    subst hx
    obtain ⟨kvs, k1, k2⟩ := Zdd sm q2 r2
    exact ⟨(p.1, y) :: kvs, .cons ⟨a, rfl, sm _ _ ha⟩ k1, fun acc ac hk => k2 _ _ (hk.put y1)⟩
theorem Zot {tr : TA} {fr : Af} (hr : DA W m E [true] tr fr) : DO W m E (tCB rOfP tr) (eB uDOf fr) := by
 intro H0 ρ ω σ Hc H ow S Q h
 refine hr H0 ρ ω σ Hc H ow S _ ((Aft.bnd h).imp fun us ω1 Hc1 H1 e1 p1 h1 xs rs => ?_)
 revert h1
 cases hg : uDOf us with
 | none => exact fun h1 => h1.elim
 | some u =>
  intro h1
  unfold uDOf at hg; split at hg
  ·rename_i ys
   cases q : asPs ys with
   | none => rw [q] at hg; exact noS hg
   | some ps =>
    rw [q] at hg
    simp only [Option.bind_some] at hg
    split at hg
    ·rename_i hl
     cases hg
     obtain ⟨v, rfl, rv⟩ := rs.one
     obtain ⟨a, vs, rfl, ha, r1⟩ := rv.lst e1.sub
     obtain ⟨kvs, k1, k2⟩ := Zdd e1.sub q r1
     exact ⟨a, vs, kvs, rfl, ha, k1, by rw [<- r1.len]; exact hl, fun p ob' n => h1 Hc1 _ (Z0u e1.sub p1 n).1 (Z0u e1.sub p1 n).2 p _ (OwO.dicI (k2 [] [] rfl)) (e1.sub.free n) (e1.frz' n) Z03⟩
    ·cases hg
  ·cases hg
end
section
variable {ι : Type} {X : L2.FC ι} {W : Wd} {m : Md} {E : XK} {a : Expr} {fa : Ef} {pos p : Pos}
theorem Zou (cx : Ctx X W E) (B : Bl W.mg) (ha : QB X W m E a fa) (hg : ∀ y, Gl (X y) "dict" := by intro ψ; rfl) (hs : ∀ y, starEach [a] (X y).env = (false, eval a (X y).env) :: starEach [] (X y).env := by intro ψ; rfl) (hp : ∀ y, (backTo pos (starEach [] (X y).env)).any (·.1) = false := by intro ψ; rfl) : QO X W m E (.Call (.Name "dict" p) [a] [] pos) (eB uDOf (Z01 fa aNil)) :=
 let ⟨_, pa, da⟩ := qa_b ha Z04 hs; ⟨_, fun y => Z1q (Zfn (cx.calm y)) (hg y) ((congrFun (cx.hm y) _).trans B.dict) boot_dict (pa y) (by decide) (by decide) (hs y) (hp y), Zot da⟩
end
end L2
set_option maxHeartbeats 4000000
namespace L2
open PySem PySem.Spec PyProof.Rows
section
variable {prog : Program} {w : World} {A : Around} {E : L2.VSP} {s : Shared} {a₀ : Array Keyed}
theorem so1 {xs : Array Keyed} : SortedTo xs 1 := fun i j h1 h2 => by
 have : i = j := by omega
 rw [this]; exact Int.le_refl _
theorem Zov {n : Nat} (h : 64 <= n) (h2 : n < 128) : minRun' n n 0 = n / 2 + n % 2 := by
 obtain ⟨f, rfl⟩ : ∃ f, n = f + 2 := ⟨n - 2, by omega⟩
 rw [minRun'_succ, if_neg (by omega), minRun'_succ, if_pos (by omega)]
 omega
theorem Zk5 {st : SortSt} {Q : Option Nat -> SortSt -> Prop} (h0 : IntKeys a₀) (hB : SBase a₀ st) (h1 : 1 <= a₀.size) (hs : SortedTo (arrOf st) a₀.size) (h : Q (some a₀.size) st) : wpS (model prog w) A E s (countRun' 0 a₀.size) Q st := by
 rw [countRun0_eq]
 refine wpS_bind (wpS_ascLoop h0 (Nat.le_refl _) (Nat.le_refl 1) h1 hB so1 fun n n1 n2 ψ hor => ?_)
 have e : n = a₀.size := by
  rcases hor with e | e
  ·exact e
  ·by_cases c : n < a₀.size
   ·have := hs (n - 1) n (by omega) c; omega
   ·omega
 dsimp only
 rw [e, if_pos (by simp)]
 exact wpS_pure h
theorem Zfo {st : SortSt} {n nrem : Nat} {Q : DescSt -> SortSt -> Prop} (h0 : IntKeys a₀) (hn : nrem <= a₀.size) (h1 : 1 <= n) (hnn : n <= nrem) (hB : SBase a₀ st) (hd : ∀ i, i + 1 < nrem -> K (arrOf st) (i + 1) < K (arrOf st) i) (h : Q (none, nrem, 0) st) :
  wpS (model prog w) A E s (descLoop n nrem) Q st := by
 unfold descLoop
 refine wpS_forRange (I := fun x c t => t = st /\ c = (none, x, 0)) (fun x c t hx hxn hI => ?_) (fun c t hI => ?_) ⟨rfl, rfl⟩
 ·obtain ⟨rfl, rfl⟩ := hI
  dsimp only
  refine wpS_bind (wpS_ltK hB h0 (by omega) (by omega) ?_)
  have hl : K (arrOf t) x < K (arrOf t) (x - 1) := by
   have := hd (x - 1) (by omega)
   rwa [show x - 1 + 1 = x by omega] at this
  simp only [hl, decide_true, if_true]
  rw [if_neg (by omega)]
  exact wpS_pure ⟨rfl, rfl⟩
 ·obtain ⟨rfl, rfl⟩ := hI
  rw [show max n nrem = nrem by omega]
  exact h
theorem Zfp {st : SortSt} {Q : Option Nat -> SortSt -> Prop} (h0 : IntKeys a₀) (hB : SBase a₀ st) (h2 : 2 <= a₀.size) (hd : ∀ i, i + 1 < a₀.size -> K (arrOf st) (i + 1) < K (arrOf st) i)
  (h : ∀ t, SBase a₀ t -> SortedTo (arrOf t) a₀.size -> Q (some a₀.size) t) : wpS (model prog w) A E s (countRun' 0 a₀.size) Q st := by
 rw [countRun0_eq]
 refine wpS_bind (wpS_ascLoop h0 (Nat.le_refl _) (Nat.le_refl 1) (by omega) hB so1 fun n n1 n2 hsn ψ => ?_)
 have e : n = 1 := by
  by_cases c : n = 1
  ·exact c
  ·have k1 := hsn 0 1 (by omega) (by omega)
   have k2 := hd 0 (by omega)
   rw [Nat.zero_add] at k2
   omega
 subst e
 dsimp only
 rw [if_neg (by simp; omega), if_neg (by omega)]
 unfold descPart
 refine wpS_bind (wpS_lift (wpAny_rule ⟨rfl, ?_⟩))
 refine wpS_bind (Zfo h0 (Nat.le_refl _) (by omega) h2 hB hd ?_)
 dsimp only
 rw [if_neg (by omega)]
 unfold tail3
 refine wpS_bind (wpS_reverse ?_)
 have hB' : SBase a₀ (setArr st (mirror (arrOf st) 0 a₀.size ((a₀.size - 0) / 2))) := hB.setArr (mirror_perm _ _ _ _)
 have ni : ∀ i j, i <= j -> j < a₀.size -> K (arrOf st) j <= K (arrOf st) i := fun i j hij => by
  induction hij with
  | refl => exact fun ψ => Int.le_refl _
  | @step j hj ih => exact fun hl => by have := ih (by omega); have := hd j hl; simp only [Nat.succ_eq_add_one]; omega
 have so : SortedTo (mirror (arrOf st) 0 a₀.size ((a₀.size - 0) / 2)) a₀.size := fun i j hij hj => by
  rw [K_mirror (by rw [hB.size]; omega), K_mirror (by rw [hB.size]; omega), if_pos (by omega), if_pos (by omega)]
  exact ni _ _ (by omega) (by omega)
 refine wpS_bind (wpS_ascLoop h0 (Nat.le_refl _) (by omega) (Nat.le_refl _) hB' so fun m m1 m2 ψ ψ => ?_)
 have : m = a₀.size := by omega
 subst this
 exact wpS_pure (h _ hB' so)
theorem Z99 {st : SortSt} {Q : Unit -> SortSt -> Prop} (h0 : IntKeys a₀) (hB : SBase a₀ st) (hlo : 64 <= a₀.size) (hhi : a₀.size < 128)
  (hc : ∀ Q' : Option Nat -> SortSt -> Prop, (∀ t, SBase a₀ t -> SortedTo (arrOf t) a₀.size -> Q' (some a₀.size) t) -> wpS (model prog w) A E s (countRun' 0 a₀.size) Q' st)
  (h : ∀ t, (arrOf t).Perm a₀ -> failedOf t = none -> SortedTo (arrOf t) a₀.size -> Q () t) : wpS (model prog w) A E s sortRuns' Q st := by
 rw [sortRuns'_eq]
 refine wpS_bind (wpS_get ?_)
 dsimp only
 simp only [hB.size, Zov hlo hhi]
 refine wpS_bind (wpS_mono (wpS_forRange
  (I := fun x c t => (x = 0 /\ c = (none, 0) /\ t = st) \/ (1 <= x /\ c = (none, a₀.size) /\ SDone a₀ t))
  (Q := fun c t => c = (none, a₀.size) /\ SDone a₀ t) (fun x c t ψ hx hI => ?_) (fun c t hI => ?_) (.inl ⟨rfl, rfl, rfl⟩)) fun c t hI => ?_)
 ·rcases hI with ⟨rfl, rfl, rfl⟩ | ⟨hx1, rfl, hD⟩
  ·dsimp only
   rw [if_neg (by omega)]
   simp only [Nat.sub_zero, Nat.zero_add]
   refine wpS_bind (hc _ fun t hB2 hs2 => ?_)
   dsimp only
   rw [if_neg (by omega)]
   refine wpS_bind (wpS_get ?_)
   rw [show (pendingOf t).back? = none by rw [hB2.pend]; rfl]
   dsimp only
   exact wpS_bind (wpS_modify (wpS_pure (.inr ⟨by omega, rfl, hB2.done hs2⟩)))
  ·dsimp only
   rw [if_pos (Nat.le_refl _)]
   exact wpS_pure ⟨rfl, hD⟩
 ·rcases hI with ⟨hx, _, _⟩ | ⟨_, hc, hD⟩
  ·omega
  ·exact ⟨hc, hD⟩
 ·obtain ⟨rfl, hD⟩ := hI
  dsimp only
  refine wpS_bind (wpS_mono (wpS_forRange (I := fun ψ c u => u = t /\ c = (none, ())) (Q := fun c u => u = t /\ c = (none, ())) (fun x c u ψ ψ hI => ?_) (fun ψ ψ hh => hh) ⟨rfl, rfl⟩) fun c u hI => ?_)
  ·obtain ⟨rfl, rfl⟩ := hI
   refine wpS_bind (wpS_get ?_)
   rw [if_pos (by rw [hD.2.2.1]; exact Nat.le_refl 1)]
   exact wpS_pure ⟨rfl, rfl⟩
  ·obtain ⟨rfl, rfl⟩ := hI
   exact wpS_pure (h _ hD.1 hD.2.1 hD.2.2.2)
end
end L2
set_option maxHeartbeats 4000000
namespace L2
open PySem PySem.Spec PyProof.Rows
local macro_rules
 | `(tactic| walk_at "gl") => do
  let j := Lean.mkIdent (Lean.mkPrivateNameCore `PySem.Builtin.List.W1All `PySem.Builtin.gallop)
  `(tactic| unfold $j)
 | `(tactic| walk_at "mh") => do
  let j := Lean.mkIdent (Lean.mkPrivateNameCore `PySem.Builtin.List.W1All `PySem.Builtin.mergeHi)
  `(tactic| unfold $j)
 | `(tactic| walk_at "ma") => do
  let j := Lean.mkIdent (Lean.mkPrivateNameCore `PySem.Builtin.List.W1All `PySem.Builtin.mergeAt)
  `(tactic| unfold $j)
def Z5t : Bool -> Keyed -> Array Keyed -> Nat -> Nat -> Nat -> StateT SortSt Sem (Option Nat) := sortPriv% PySem.Builtin.gallop
def Z9a : Array Keyed -> Array Keyed -> StateT SortSt Sem (Array Keyed) := sortPriv% PySem.Builtin.mergeHi
section
variable {prog : Program} {w : World} {A : Around} {E : L2.VSP} {s : Shared}
theorem Z26 {σ β : Type} {M : Model} {n : Nat} {c0 : β} {f : Nat -> β -> StateT σ Sem (ForInStep β)} {st : σ} {Q : β -> σ -> Prop} (h : ∀ i, wpS M A E s (f i c0) (fun r t => r = .done c0 /\ t = st) st) (hQ : Q c0 st) : wpS M A E s (forIn [0:n] c0 f) Q st := by
 refine wpS_forRange (I := fun ψ c t => c = c0 /\ t = st) (fun i c t ψ ψ hI => ?_) (fun c t hI => ?_) ⟨rfl, rfl⟩
 ·obtain ⟨rfl, rfl⟩ := hI
  refine wpS_mono (h i) fun r t ⟨e1, e2⟩ => ?_
  subst e1 e2
  exact hQ
 ·obtain ⟨rfl, rfl⟩ := hI
  exact hQ
theorem ltP {st : SortSt} {a b : Int} {t u : Tok} {p q : Value} {Q : Option Bool -> SortSt -> Prop} (hk : kindOf st = oneType') (h : Q (some (decide (a < b))) st) : wpS (model prog w) A E s (lt' (.int a t, p) (.int b u, q)) Q st := by
 rw [lt'_eq]
 refine wpS_bind (wpS_get ?_)
 rw [hk, keyLt'_oneType]
 exact wpS_bind (wpS_lift (wpAny_attempt (oneLt_int ⟨rfl, wpS_pure h⟩)))
theorem elP {st : SortSt} {arr : Array Keyed} {i : Nat} {x : Keyed} {Q : Keyed -> SortSt -> Prop} (h : arr[i]? = some x) (k : Q x st) : wpS (model prog w) A E s (elem' arr i) Q st := by
 rw [elem'_eq, h]
 exact wpS_pure k
theorem Zr4 {st : SortSt} {arr : Array Keyed} {base n : Nat} {a b : Int} {t u : Tok} {p q : Value} {Q : Option Nat -> SortSt -> Prop} (hk : kindOf st = oneType') (he : arr[base]? = some (.int b u, q)) (hl : a < b) (h : Q (some 0) st) : wpS (model prog w) A E s (Z5t false (.int a t, p) arr base n 0) Q st := by
 unfold Z5t
 walk_at "gl"
 dsimp only
 refine wpS_bind (wpS_bind (elP he ?_))
 rw [if_neg (by decide)]
 refine wpS_bind (ltP hk (wpS_pure ?_))
 simp only [hl, decide_true, Option.map_some, Bool.not_true]
 rw [if_neg (by decide)]
 refine wpS_bind (Z26 (fun i => ?_) ?_)
 ·dsimp only
  rw [if_pos (by omega)]
  exact wpS_pure ⟨rfl, rfl⟩
 ·dsimp only
  refine wpS_bind (Z26 (fun i => ?_) ?_)
  ·dsimp only
   rw [if_pos (by omega)]
   exact wpS_pure ⟨rfl, rfl⟩
  ·exact wpS_pure h
theorem Zr5 {st : SortSt} {arr : Array Keyed} {base : Nat} {a b : Int} {t u : Tok} {p q : Value} {Q : Option Nat -> SortSt -> Prop} (hk : kindOf st = oneType') (he : arr[base]? = some (.int b u, q)) (hl : b < a) (h : Q (some 1) st) : wpS (model prog w) A E s (Z5t true (.int a t, p) arr base 1 0) Q st := by
 unfold Z5t
 walk_at "gl"
 dsimp only
 refine wpS_bind (wpS_bind (elP he ?_))
 rw [if_pos (by decide)]
 refine ltP hk ?_
 simp only [hl, decide_true]
 rw [if_pos trivial]
 refine wpS_bind (Z26 (fun i => ?_) ?_)
 ·dsimp only
  rw [if_pos (by omega)]
  exact wpS_pure ⟨rfl, rfl⟩
 ·dsimp only
  refine wpS_bind (Z26 (fun i => ?_) ?_)
  ·dsimp only
   rw [if_pos (by omega)]
   exact wpS_pure ⟨rfl, rfl⟩
  ·exact wpS_pure h
theorem Zr6 {st : SortSt} {a b : Array Keyed} {x : Keyed} {Q : Array Keyed -> SortSt -> Prop} (h2 : 2 <= a.size) (hb : b.size = 1) (hx : a[a.size - 1]? = some x) (h : Q (b.extract 0 1 ++ a.extract 0 (a.size - 1) ++ #[x]) st) : wpS (model prog w) A E s (Z9a a b) Q st := by
 unfold Z9a
 walk_at "mh"
 refine wpS_bind (wpS_lift (wpAny_rule ⟨rfl, ?_⟩))
 dsimp only
 refine wpS_bind (elP hx ?_)
 rw [if_neg (by simp; omega), if_pos (by simp [hb])]
 rw [hb]
 exact wpS_pure h
theorem Zde : ∀ (M : List Keyed) (k : Nat) (xs : Array Keyed), k + M.length = xs.size -> ((M.zipIdx k).foldl (fun a (x : Keyed × Nat) => a.setIfInBounds (0 + x.2) x.1) xs).toList = xs.toList.take k ++ M
 | [], k, xs, h => by
  have h' : xs.toList.length <= k := by simp at h ⊢; omega
  rw [List.zipIdx_nil, List.foldl_nil, List.take_of_length_le h', List.append_nil]
 | m :: M, k, xs, h => by
  rw [List.length_cons] at h
  rw [List.zipIdx_cons, List.foldl_cons, Zde M (k + 1) _ (by rw [Array.size_setIfInBounds]; omega)]
  rw [Array.toList_setIfInBounds, Nat.zero_add]
  have hk : k < xs.toList.length := by rw [Array.length_toList]; omega
  rw [List.take_add_one, List.getElem?_set_self hk, List.take_set_of_le (Nat.le_refl _), List.append_assoc]
  rfl
theorem Zfq {σ : Type} {M : Model} {v st : σ} {Q : PUnit -> σ -> Prop} (h : Q ⟨⟩ v) : wpS M A E s (set v : StateT σ Sem PUnit) Q st := by
 unfold wpS; rw [StateT.run_set]; exact wpAny_pure ⟨rfl, h⟩
theorem Zr7 {st : SortSt} {P : List Keyed} {a b c : Int} {t u v : Tok} {a' b' c' : Value} {pw : Nat} {Q : Bool -> SortSt -> Prop} (hk : kindOf st = oneType') (hf : failedOf st = none)
  (ha : arrOf st = (((Value.int c v, c') :: P) ++ [(Value.int b u, b'), (Value.int a t, a')]).toArray) (hp : pendingOf st = #[(0, P.length + 2, pw), (P.length + 2, 1, 0)]) (h1 : a < c) (h2 : a < b)
  (h : ∀ r : SortSt, (arrOf r).toList = (Value.int a t, a') :: (((Value.int c v, c') :: P) ++ [(Value.int b u, b')]) -> failedOf r = none -> (pendingOf r).size = 1 -> Q true r) : wpS (model prog w) A E s (mergeAt' 0) Q st := by
 have e0 : (pendingOf st)[0]? = some (0, P.length + 2, pw) := by rw [hp]; rfl
 have e1 : (pendingOf st)[0 + 1]? = some (P.length + 2, 1, 0) := by rw [hp]; rfl
 have g0 : (arrOf st)[0]? = some (Value.int c v, c') := by rw [ha]; simp
 have g1 : (arrOf st)[P.length + 1]? = some (Value.int b u, b') := by rw [ha]; simp
 have g2 : (arrOf st)[P.length + 2]? = some (Value.int a t, a') := by rw [ha]; simp
 have sz : (arrOf st).size = P.length + 3 := by rw [ha]; simp
 unfold mergeAt'
 walk_at "ma"
 refine wpS_bind (wpS_get ?_)
 rw [e0, e1]
 dsimp only
 refine wpS_bind (Zfq ?_)
 refine wpS_bind (elP g2 ?_)
 refine wpS_bind (Zr4 (b := c) hk g0 h1 ?_)
 dsimp only
 rw [if_neg (by simp)]
 refine wpS_bind (elP (x := (Value.int b u, b')) (by simpa using g1) ?_)
 refine wpS_bind (Zr5 (b := a) hk g2 h2 ?_)
 dsimp only
 rw [if_neg (by simp), if_neg (by omega)]
 refine wpS_bind (Zr6 (x := (Value.int b u, b')) ?_ ?_ ?_ ?_)
 ·simp [sz]
 ·simp [sz]
 ·show ((arrOf st).extract (0 + 0) (P.length + 2))[((arrOf st).extract (0 + 0) (P.length + 2)).size - 1]? = _
  rw [ha]; simp
 ·refine wpS_bind (wpS_modify (wpS_bind (wpS_get (wpS_pure ?_))))
  dsimp only
  rw [show (failedOf st).isNone = true by rw [hf]; rfl]
  refine h _ ?_ hf ?_
  ·show (List.foldl _ (arrOf st) (((arrOf st).extract (P.length + 2) (P.length + 2 + 1)).extract 0 1 ++ ((arrOf st).extract (0 + 0) (P.length + 2)).extract 0 (((arrOf st).extract (0 + 0) (P.length + 2)).size - 1) ++ #[(Value.int b u, b')]).toList.zipIdx).toList = _
   rw [ha]
   refine (Zde _ 0 _ ?_).trans ?_
   ·simp
   ·simp
    rw [show (Value.int c v, c') :: (P ++ [(Value.int b u, b'), (Value.int a t, a')]) = (((Value.int c v, c') :: P) ++ [(Value.int b u, b')]) ++ [(Value.int a t, a')] by simp, List.dropLast_concat, List.dropLast_concat]
    rfl
  ·show (((pendingOf st).setIfInBounds 0 _).eraseIdxIfInBounds (0 + 1)).size = 1
   rw [hp]
   simp
end
end L2
set_option maxHeartbeats 4000000
namespace L2
open PySem PySem.Spec PyProof.Rows
section
variable {prog : Program} {w : World} {A : Around} {E : L2.VSP} {s : Shared} {a₀ : Array Keyed}
theorem Zk6 {st : SortSt} {m : Nat} {Q : Option Nat -> SortSt -> Prop} (h0 : IntKeys a₀) (hB : SBase a₀ st) (hm : 2 <= m) (hz : a₀.size = m + 1) (hs : SortedTo (arrOf st) m) (hl : K (arrOf st) m < K (arrOf st) (m - 1)) (hr : K (arrOf st) 0 < K (arrOf st) (m - 1)) (h : Q (some m) st) :
  wpS (model prog w) A E s (countRun' 0 (m + 1)) Q st := by
 rw [countRun0_eq]
 refine wpS_bind (wpS_ascLoop h0 (by omega) (Nat.le_refl 1) (by omega) hB so1 fun n n1 n2 hsn hor => ?_)
 have e : n = m := by
  rcases hor with e | e
  ·subst e
   have := hsn (m - 1) m (by omega) (by omega)
   omega
  ·by_cases c : n < m
   ·have := hs (n - 1) n (by omega) c; omega
   ·by_cases c2 : n = m
    ·exact c2
    ·have : n = m + 1 := by omega
     subst this
     have := hsn (m - 1) m (by omega) (by omega)
     omega
 subst e
 dsimp only
 rw [if_neg (by simp), if_pos (by omega)]
 refine wpS_bind (wpS_ltK hB h0 (by omega) (by omega) ?_)
 simp only [hr, decide_true, if_true]
 exact wpS_pure h
theorem Zr8 {st : SortSt} {lo : Nat} {Q : Option Nat -> SortSt -> Prop} (h : Q (some 1) st) : wpS (model prog w) A E s (countRun' lo 1) Q st := by
 rw [countRun'_eq]
 refine wpS_bind (wpS_forRange (I := fun ψ c t => c = (none, 1) /\ t = st) (fun i c t i1 i2 ψ => absurd i2 (by omega)) (fun c t hI => ?_) ⟨rfl, rfl⟩)
 obtain ⟨rfl, rfl⟩ := hI
 dsimp only
 rw [if_pos (by decide)]
 exact wpS_pure h
theorem Zr9 {st : SortSt} {lo : Nat} {Q : Bool -> SortSt -> Prop} (h : Q true st) : wpS (model prog w) A E s (binarySort' lo 1 1) Q st := by
 rw [binarySort'_eq]
 refine wpS_bind (wpS_forRange (I := fun ψ c t => c = (none, ()) /\ t = st) (fun i c t i1 i2 ψ => absurd i2 (by omega)) (fun c t hI => ?_) ⟨rfl, rfl⟩)
 obtain ⟨rfl, rfl⟩ := hI
 exact wpS_pure h
theorem Zfr {st : SortSt} {P : List Keyed} {a b c : Int} {t u v : Tok} {a' b' c' : Value} {Q : Unit -> SortSt -> Prop} (h0 : IntKeys a₀) (hB : SBase a₀ st) (hlo : 64 <= a₀.size) (hhi : a₀.size < 128)
  (ha : arrOf st = (((Value.int c v, c') :: P) ++ [(Value.int b u, b'), (Value.int a t, a')]).toArray) (hs : SortedTo (arrOf st) (P.length + 2)) (h1 : a < c) (h2 : a < b) (h3 : c < b)
  (h : ∀ r : SortSt, (arrOf r).toList = (Value.int a t, a') :: (((Value.int c v, c') :: P) ++ [(Value.int b u, b')]) -> failedOf r = none -> Q () r) : wpS (model prog w) A E s sortRuns' Q st := by
 have sz : a₀.size = P.length + 3 := by rw [<- hB.size, ha]; simp
 have g0 : (arrOf st)[0]? = some (Value.int c v, c') := by rw [ha]; simp
 have g1 : (arrOf st)[P.length + 1]? = some (Value.int b u, b') := by rw [ha]; simp
 have g2 : (arrOf st)[P.length + 2]? = some (Value.int a t, a') := by rw [ha]; simp
 have k0 : K (arrOf st) 0 = c := by unfold K; rw [g0]; rfl
 have k1 : K (arrOf st) (P.length + 2 - 1) = b := by unfold K; rw [show P.length + 2 - 1 = P.length + 1 by omega, g1]; rfl
 have k2 : K (arrOf st) (P.length + 2) = a := by unfold K; rw [g2]; rfl
 have hmr := Zov hlo hhi
 rw [sortRuns'_eq]
 refine wpS_bind (wpS_get ?_)
 dsimp only
 simp only [hB.size, hmr]
 refine wpS_bind (wpS_mono (wpS_forRange
  (I := fun x k r => (x = 0 /\ k = (none, 0) /\ r = st) \/ (x = 1 /\ k = (none, P.length + 2) /\ r = setPending st #[(0, P.length + 2, 0)]) \/ (2 <= x /\ k = (none, a₀.size) /\ ∃ pw, r = setPending st #[(0, P.length + 2, pw), (P.length + 2, 1, 0)]))
  (Q := fun k r => k = (none, a₀.size) /\ ∃ pw, r = setPending st #[(0, P.length + 2, pw), (P.length + 2, 1, 0)]) (fun x k r ψ hx hI => ?_) (fun k r hI => ?_) (.inl ⟨rfl, rfl, rfl⟩)) fun k r hI => ?_)
 ·rcases hI with ⟨rfl, rfl, rfl⟩ | ⟨rfl, rfl, rfl⟩ | ⟨hx1, rfl, hD⟩
  ·dsimp only
   rw [if_neg (by omega)]
   simp only [Nat.sub_zero, Nat.zero_add]
   rw [sz]
   refine wpS_bind (Zk6 (m := P.length + 2) h0 hB (by omega) sz hs (by omega) (by omega) ?_)
   dsimp only
   rw [if_neg (by omega)]
   refine wpS_bind (wpS_get ?_)
   rw [show (pendingOf r).back? = none by rw [hB.pend]; rfl]
   dsimp only
   refine wpS_bind (wpS_modify (wpS_pure (.inr (.inl ⟨by trivial, rfl, ?_⟩))))
   rw [hB.pend]
   rfl
  ·dsimp only
   rw [if_neg (by omega), show a₀.size - (P.length + 2) = 1 by omega]
   refine wpS_bind (Zr8 ?_)
   dsimp only
   rw [if_pos (by omega)]
   refine wpS_bind (wpS_lift (wpAny_rule ⟨rfl, ?_⟩))
   rw [show min 1 (a₀.size / 2 + a₀.size % 2) = 1 by omega]
   refine wpS_bind (Zr9 ?_)
   simp only [Bool.not_true, Bool.false_eq_true, if_false]
   refine wpS_bind (wpS_get ?_)
   rw [show (pendingOf (setPending st #[(0, P.length + 2, 0)])).back? = some (0, P.length + 2, 0) from rfl]
   dsimp only
   refine wpS_bind (Z26 (fun i => ?_) ?_)
   ·refine wpS_bind (wpS_get ?_)
    exact wpS_pure ⟨rfl, rfl⟩
   ·dsimp only
    refine wpS_bind (wpS_modify (wpS_bind (wpS_modify (wpS_pure (.inr (.inr ⟨by omega, by rw [sz], _, rfl⟩))))))
  ·dsimp only
   rw [if_pos (Nat.le_refl _)]
   exact wpS_pure ⟨rfl, hD⟩
 ·rcases hI with ⟨hx, _, _⟩ | ⟨hx, _, _⟩ | ⟨_, hc, hD⟩
  ·omega
  ·omega
  ·exact ⟨hc, hD⟩
 ·obtain ⟨rfl, pw, rfl⟩ := hI
  dsimp only
  refine wpS_bind (wpS_mono (wpS_forRange (I := fun x k r => k = (none, ()) /\ ((x = 0 /\ r = setPending st #[(0, P.length + 2, pw), (P.length + 2, 1, 0)]) \/ (1 <= x /\ (arrOf r).toList = (Value.int a t, a') :: (((Value.int c v, c') :: P) ++ [(Value.int b u, b')]) /\ failedOf r = none /\ (pendingOf r).size = 1)))
   (Q := fun k r => k = (none, ()) /\ (arrOf r).toList = (Value.int a t, a') :: (((Value.int c v, c') :: P) ++ [(Value.int b u, b')]) /\ failedOf r = none) (fun x k r ψ ψ hI => ?_) (fun k r hI => ?_) ⟨rfl, .inl ⟨rfl, rfl⟩⟩) fun k r hI => ?_)
  ·obtain ⟨rfl, ⟨rfl, rfl⟩ | ⟨hx, e1, e2, e3⟩⟩ := hI
   ·refine wpS_bind (wpS_get ?_)
    rw [if_neg (show ¬ (pendingOf (setPending st #[(0, P.length + 2, pw), (P.length + 2, 1, 0)])).size <= 1 from by show ¬ (2 : Nat) <= 1; omega)]
    show wpS _ _ _ _ (mergeAt' 0 >>= _) _ _
    refine wpS_bind (Zr7 (P := P) (pw := pw) hB.kind hB.failed ha rfl h1 h2 fun r e1 e2 e3 => ?_)
    simp only [Bool.not_true, Bool.false_eq_true, if_false]
    exact wpS_pure ⟨rfl, .inr ⟨by omega, e1, e2, e3⟩⟩
   ·refine wpS_bind (wpS_get ?_)
    rw [if_pos (by omega)]
    exact wpS_pure ⟨rfl, e1, e2⟩
  ·obtain ⟨rfl, ⟨hx, _⟩ | ⟨hx, e1, e2, e3⟩⟩ := hI
   ·omega
   ·exact ⟨rfl, e1, e2⟩
  ·obtain ⟨rfl, e1, e2⟩ := hI
   exact wpS_pure (h _ e1 e2)
end
end L2
set_option maxHeartbeats 4000000
namespace L2
open PySem PySem.Spec PyProof.Rows
section
variable {prog : Program} {w : World} {A : Around} {E : L2.VSP} {s : Shared}
def Zh7 (prog : Program) (w : World) (vs : List Value) : Prop := ∀ (A : Around) (E : L2.VSP) (s : Shared) (Q : Unit -> SortSt -> Prop), (∀ r : SortSt, (arrOf r).Perm (pairsOf vs) -> failedOf r = none -> SortedTo (arrOf r) (pairsOf vs).size -> Q () r) -> wpS (model prog w) A E s sortRuns' Q (SortSt.mk' oneType' (pairsOf vs) #[] 7 none)
theorem Zk7 {a : Addr} {vs : List Value} {ns : List Int} {n : Nat} {P : Fin -> Shared -> Prop} (ho : s.heap.get? a = some (seqObj "list" vs.toArray n)) (hI : IntsAre vs ns) (h2 : 2 <= vs.length) (hl : vs.length <= 1000) (hr : Zh7 prog w vs)
  (h : ∀ (out : Array Value) (ms : List Int), IntsAre out.toList ms -> ms.Perm ns -> ms.Pairwise (· <= ·) -> P (.done (.ret .none)) { s with heap := sortedHeap s.heap a vs out }) : wpAny (model prog w) A (Builtin.«list.sort» ⟨[.ref a], []⟩) P E s := by
 have al : a < s.heap.objs.size := Heap.lt_size ho
 obtain ⟨ep, o1⟩ : ∃ e, (s.heap.update a (Obj.mapSeq fun ψ => #[])).get? a = some (seqObj "list" #[] e) := ⟨_, get?_update_seq ho (fun ψ => #[])⟩
 have o2 : (((s.heap.update a (Obj.mapSeq fun ψ => #[])).push (seqObj "tuple" vs.toArray 0)).push (seqObj "list" #[] 0)).get? a = some (seqObj "list" #[] ep) := Heap.get?_push_of_some _ (Heap.get?_push_of_some _ o1)
 rw [list_sort_plain]
 refine wpAny_bind (listItems_at ho rfl (wpAny_bind (listUpdate_at ho rfl (wpAny_bind (seqEpoch_at o1 rfl (wpAny_bind (wpAny_newTuple (wpAny_bind (wpAny_newList (wpAny_holding ?_))))))))))
 dsimp only
 have sz : vs.toArray.size = vs.length := by simp
 rw [if_neg (by omega), if_neg (by omega)]
 match vs, h2, hI, hr, h, hl, o2 with
 | v₁ :: v₂ :: rest, h2, hI, hr, h, hl, o2 =>
  rw [keyKind_ints hI]
  refine wpAny_bind (wpAny_pure (wpAny_bind (wpAny_mono (hr _ _ _ (fun ψ r => (arrOf r).Perm (pairsOf (v₁ :: v₂ :: rest)) /\ failedOf r = none /\ SortedTo (arrOf r) (pairsOf (v₁ :: v₂ :: rest)).size) fun r x y z => ⟨x, y, z⟩) (fun q s' hq => ?_) fun ψ ψ e => e)))
  obtain ⟨⟨⟩, r⟩ := q
  obtain ⟨rfl, hp, hf, hs⟩ := hq
  dsimp only
  refine wpAny_bind (seqEpoch_at o2 rfl (wpAny_bind (listUpdate_at o2 rfl ?_ (hsz2 := ?_))))
  ·rw [hf]
   simp only [bne_self_eq_false, Bool.false_eq_true, if_false]
   obtain ⟨ms, m1, m2, m3⟩ := sorted_out hI hp hs
   exact wpAny_pure (h _ ms m1 m2 m3)
  ·have e1 : ((arrOf r).map (·.2)).size = (v₁ :: v₂ :: rest).length := by rw [Array.size_map, hp.size_eq, pairsOf_size]
   show ((arrOf r).map (·.2)).size <= _
   rw [e1, sizeLine_eq]; omega
end
end L2
set_option maxHeartbeats 4000000
namespace L2
open PySem PySem.Spec PyProof.Rows
def Shp (ns : List Int) : Prop := ns.Pairwise (· < ·) \/ ns.Pairwise (· > ·) \/ ∃ (ms : List Int) (z : Int), ns = ms ++ [z] /\ ms.Pairwise (· < ·) /\ ∀ x ∈ ms, z < x
def kys (xs : List Keyed) : List Int := xs.map fun p => numOf p.1
theorem Zfs {xs : Array Keyed} {i : Nat} (h : i < (kys xs.toList).length) : K xs i = (kys xs.toList)[i] := by
 have h' : i < xs.size := by unfold kys at h; simpa using h
 rw [K_eq h']
 simp [kys]
theorem Zft {xs : Array Keyed} {n : Nat} (hn : n <= xs.size) (h : ((kys xs.toList).take n).Pairwise (· <= ·)) : SortedTo xs n := by
 intro i j hij hj
 have hl : (kys xs.toList).length = xs.size := by simp [kys]
 rw [Zfs (by omega), Zfs (by omega)]
 by_cases e : i = j
 ·subst e; exact Int.le_refl _
 ·have := List.pairwise_iff_getElem.mp h i j (by rw [List.length_take]; omega) (by rw [List.length_take]; omega) (by omega)
  rwa [List.getElem_take, List.getElem_take] at this
theorem Zdf {vs : List Value} {ns : List Int} (hI : IntsAre vs ns) : kys (pairsOf vs).toList = ns := by
 rw [pairsOf_toList, <- hI.nums]
 unfold kys
 clear hI
 induction vs with
 | nil => rfl
 | cons v vs ih => simp [ih]
theorem Zfu {xs : List Int} (h : xs.Pairwise (· < ·)) : xs.Pairwise (· <= ·) := h.imp fun h => Int.le_of_lt h
theorem Zow : ∀ {vs : List Value}, 3 <= vs.length -> ∃ c P b a, vs = c :: (P ++ [b, a])
 | c :: t, h => by
  have h1 : t ≠ [] := fun z => by rw [z] at h; simp at h
  have e1 := List.dropLast_concat_getLast h1
  have l1 : t.dropLast.length = t.length - 1 := List.length_dropLast
  have h2 : t.dropLast ≠ [] := fun z => by rw [z] at l1; simp at h l1; omega
  have e2 := List.dropLast_concat_getLast h2
  refine ⟨c, t.dropLast.dropLast, t.dropLast.getLast h2, t.getLast h1, ?_⟩
  rw [show t.dropLast.dropLast ++ [t.dropLast.getLast h2, t.getLast h1] = (t.dropLast.dropLast ++ [t.dropLast.getLast h2]) ++ [t.getLast h1] by simp, e2, e1]
theorem Zfv {prog : Program} {w : World} {vs : List Value} {ns : List Int} (hI : IntsAre vs ns) (hlo : 64 <= vs.length) (hhi : vs.length < 128) (hs : Shp ns) : Zh7 prog w vs := by
 intro A E s Q h
 have hz := pairsOf_size vs
 have hk := Zdf hI
 have hkl : (kys (pairsOf vs).toList).length = vs.length := by simp [kys, hz]
 have hB : SBase (pairsOf vs) (SortSt.mk' oneType' (pairsOf vs) #[] 7 none) := ⟨Array.Perm.refl _, rfl, rfl, rfl⟩
 rcases hs with hs | hs | ⟨ms, z, e, p1, p2⟩
 ·refine Z99 hI.intKeys hB (by omega) (by omega) (fun Q' k => Zk5 hI.intKeys hB (by omega) ?_ ?_) h
  ·exact Zft (Nat.le_refl _) (by rw [hk]; exact (Zfu hs).sublist (List.take_sublist _ _))
  ·exact k _ hB (Zft (Nat.le_refl _) (by show ((kys (pairsOf vs).toList).take _).Pairwise _; rw [hk]; exact (Zfu hs).sublist (List.take_sublist _ _)))
 ·refine Z99 hI.intKeys hB (by omega) (by omega) (fun Q' k => Zfp hI.intKeys hB (by omega) (fun i hi => ?_) k) h
  show K (pairsOf vs) (i + 1) < K (pairsOf vs) i
  rw [Zfs (by omega), Zfs (by omega)]
  have := List.pairwise_iff_getElem.mp hs i (i + 1) (by rw [<- hk]; omega) (by rw [<- hk]; omega) (by omega)
  simpa only [hk] using this
 ·obtain ⟨cv, P, bv, av, ev⟩ := Zow (vs := vs) (by omega)
  obtain ⟨c, v, rfl⟩ := hI.all cv (by rw [ev]; simp)
  obtain ⟨b, u, rfl⟩ := hI.all bv (by rw [ev]; simp)
  obtain ⟨a, t, rfl⟩ := hI.all av (by rw [ev]; simp)
  have hn := hI.nums
  have hp : pairsOf vs = (((Value.int c v, Value.int c v) :: P.zip P) ++ [(Value.int b u, Value.int b u), (Value.int a t, Value.int a t)]).toArray := by
   unfold pairsOf
   rw [ev]
   simp
   rw [List.zip_append rfl]
   rfl
  have hq : ns = (c :: (P.map numOf ++ [b])) ++ [a] := by rw [<- hn, ev]; simp [numOf]
  rw [e] at hq
  obtain ⟨q1, q2⟩ := List.append_inj' hq rfl
  have q2 : z = a := by simpa using q2
  subst q1 q2
  have hz2 : (P.zip P).length = P.length := by simp
  have key : ∀ xs : List Value, kys (xs.zip xs) = xs.map numOf := fun xs => by
   unfold kys
   induction xs with
   | nil => rfl
   | cons x xs ih => simp [ih]
  refine Zfr (P := P.zip P) hI.intKeys hB (by omega) (by omega) hp ?_ (p2 c (by simp)) (p2 b (by simp)) ((List.pairwise_cons.mp p1).1 b (by simp)) fun r hr hf => h r ?_ hf ?_
  ·have hl2 : vs.length = P.length + 3 := by rw [ev]; simp
   refine Zft (show _ <= (pairsOf vs).size by omega) ?_
   show ((kys (pairsOf vs).toList).take _).Pairwise _
   rw [hk, e, List.take_append_of_le_length (by simp [hz2]), List.take_of_length_le (by simp [hz2])]
   exact Zfu p1
  ·refine Array.perm_iff_toList_perm.mpr ?_
   rw [hr, hp]
   simp only [List.toList_toArray]
   rw [show ((Value.int c v, Value.int c v) :: P.zip P) ++ [(Value.int b u, Value.int b u), (Value.int z t, Value.int z t)] = (((Value.int c v, Value.int c v) :: P.zip P) ++ [(Value.int b u, Value.int b u)]) ++ [(Value.int z t, Value.int z t)] by simp]
   exact (List.perm_append_singleton _ _).symm
  ·have hsz : (arrOf r).size = (pairsOf vs).size := by
    have := congrArg List.length hr
    rw [Array.length_toList] at this
    rw [this, hp]
    simp
   rw [<- hsz]
   refine Zft (Nat.le_refl _) ?_
   rw [hr]
   refine List.Pairwise.sublist (List.take_sublist _ _) ?_
   have : kys ((Value.int z t, Value.int z t) :: ((Value.int c v, Value.int c v) :: P.zip P ++ [(Value.int b u, Value.int b u)])) = z :: (c :: (P.map numOf ++ [b])) := by
    show numOf (Value.int z t) :: kys (_ ++ _) = _
    unfold kys
    rw [List.map_append]
    show z :: (numOf (Value.int c v) :: kys (P.zip P)) ++ _ = _
    rw [key]
    rfl
   rw [this]
   exact List.pairwise_cons.mpr ⟨fun x hx => Int.le_of_lt (p2 x hx), Zfu p1⟩
end L2
set_option maxHeartbeats 4000000
namespace L2
open PySem PySem.Spec PyProof.Rows
def Sbl (ns : List Int) : Prop := ns.length < 64 \/ (ns.length < 128 /\ Shp ns)
theorem Zfw {prog : Program} {w : World} {A : Around} {E : L2.VSP} {s : Shared} {a : Addr} {vs : List Value} {ns : List Int} {n : Nat} {P : Fin -> Shared -> Prop} (ho : s.heap.get? a = some (seqObj "list" vs.toArray n)) (hI : IntsAre vs ns) (hl : vs.length = ns.length) (hs : Sbl ns)
  (h : ∀ (out : Array Value) (ms : List Int), IntsAre out.toList ms -> ms.Perm ns -> ms.Pairwise (· <= ·) -> P (.done (.ret .none)) { s with heap := sortedHeap s.heap a vs out }) : wpAny (model prog w) A (Builtin.«list.sort» ⟨[.ref a], []⟩) P E s := by
 by_cases c : vs.length < 64
 ·exact list_sort_tree ho hI c h
 ·obtain ⟨h1, h2⟩ := hs.resolve_left (by omega)
  exact Zk7 ho hI (by omega) (by omega) (Zfv hI (by omega) (by omega) h2) h
def Zh8 : List V -> Hp -> VK -> Prop := fun xs H Q => ∃ (a : Addr) (ob : Obj) (kvs : List (Int × V)), xs = [.ref a] /\ H a = some (dE a ob kvs) /\ Sbl (kvs.map (·.1)) /\ ∀ l, H l = none -> Q (.ref l) (upd H l (.lst ((srt (kvs.map (·.1))).map V.int)))
theorem Zai {X : Cx} (hc : X.calm = true) : Z0s X (.builtin "sorted") Zh8 := by
 intro pins s σ H xs us Q I r h
 obtain ⟨a, ob, kvs, rfl, ha, hs, q⟩ := h
 obtain ⟨u, rfl, rx⟩ := Z2e r
 cases rx
 obtain ⟨ns, vs, rv, hat⟩ := Zfd (I.hok a _ ha)
 have hvl : vs.length = kvs.length := by rw [<- rv.length, List.length_map]
 have hh : X.A.in1.handled = none := I.ok.hd hc
 have hl : kvs.length < 128 := by
  rcases hs with c | ⟨c, _⟩ <;> rw [List.length_map] at c <;> omega
 refine Calls.call_function_entry kind_sorted plain_sorted entry_sorted (args_sorted1 _) ?_
 refine wpAny_bind (wpAny_pure (wpAny_bind (PySem.W.kdu_collect (A := X.A.in1) (PySem.W.kdl_dict (knd := Z0b X.prog X.w) (kvs := vs) (ep := epOf ob) ns) hh hat (by rw [sizeLine_eq]; omega) fun h1 tk acc hk hacc => ?_)))
 have hal : acc.toList.length = vs.length := by rw [Array.length_toList]; exact hacc.1
 have hI : IntsAre acc.toList (kvs.map (·.1)) := Zct (P := X.prog) (w := X.w) rv hal fun i v e => hacc.2 i v (by rw [<- Array.getElem?_toList]; exact e)
 refine wpAny_bind (wpAny_newList ?_ (by rw [sizeLine_eq]; omega))
 have hoL : (h1.push (seqObj "list" acc.toList.toArray 0)).get? h1.objs.size = some (seqObj "list" acc.toList.toArray 0) := Heap.get?_push_size _ rfl
 refine wpAny_bind (wpAny_holding (wpAny_call_entry slot_list_sort ⟨_, hoL, rfl⟩ entry_list_sort (Zfw (s := { heap := h1.push (seqObj "list" acc.toList.toArray 0), gens := s.gens, drawn := s.drawn, toks := tk, os := s.os }) hoL hI (by rw [List.length_map]; omega) hs fun out ns' a1 a2 a3 => ⟨.none, rfl, wpAny_pure ⟨_, rfl, ?_⟩⟩) (args_list_sort _)))
 obtain ⟨e, he⟩ := sortedHeap_at (out := out) hoL
 have es := Zns a2 a3
 subst es
 have I1 : Inv X pins σ H { s with heap := h1, toks := tk } := I.kept (t' := tk) hk
 have kp2 : ∀ b o', h1.get? b = some o' -> (sortedHeap (h1.push (seqObj "list" acc.toList.toArray 0)) h1.objs.size acc.toList out).get? b = some o' := fun b o' hb => by
  have lt := Heap.lt_size hb
  refine (sortedHeap_old (Nat.ne_of_lt lt) ?_).trans (Heap.get?_push_of_some _ hb)
  rw [Heap.size_push]; exact Nat.lt_succ_of_lt lt
 have I2 := I1.laid (t' := tk) (a := h1.objs.size) (o := .lst ((srt (kvs.map (·.1))).map V.int)) kp2 (Nat.le_refl _)
  (show Z0r X.prog X.w _ _ _ (.lst _) from ⟨by
   rw [List.length_map, (Z28 _).length_eq, List.length_map, sizeLine_eq]; omega, out.toList, e, Z37 a1, by simpa [seqObj] using he⟩)
 exact ⟨.ref h1.objs.size, _, I2, rfl, q _ (I1.hok.fresh (Nat.le_refl _))⟩
open Classical in
def Z3a : List U -> Option U
 | [d] => (asD d).bind fun ps => if Sbl (ps.map (·.1)) then some (.lst ((srt (ps.map (·.1))).map U.int)) else none
 | _ => none
section
variable {W : Wd}
theorem Zfx : Zeo W [true] Zh8 Z3a := by
 intro Hc H ω us vs s p rs u e Q k
 unfold Z3a at e; split at e
 ·rename_i d
  cases q : asD d with
  | none => rw [q] at e; exact noS e
  | some ps =>
   rw [q] at e
   simp only [Option.bind_some] at e
   split at e
   ·rename_i c
    cases e
    have := Z1w q; subst this
    obtain ⟨v, rfl, rv⟩ := rs.one
    obtain ⟨a, ob, kvs, rfl, h1, r1⟩ := rv.dicI s
    refine ⟨a, ob, kvs, rfl, h1, by rw [r1.keys]; exact c, fun l n => k _ _ _ _ _ (Z0u s p n).1 (Z0u s p n).2 rfl (s.free n) n Z03 ?_⟩
    rw [r1.keys]
    exact .ofInts
   ·cases e
 ·cases e
end
section
variable {ι : Type} {X : L2.FC ι} {W : Wd} {m : Md} {E : XK} {a : Expr} {fa : Ef} {pos p : Pos}
theorem Z9b (cx : Ctx X W E) (B : Bl W.mg) (ha : QB X W m E a fa) (hg : ∀ y, Gl (X y) "sorted" := by intro ψ; rfl) (hs : ∀ y, starEach [a] (X y).env = (false, eval a (X y).env) :: starEach [] (X y).env := by intro ψ; rfl) (hp : ∀ y, (backTo pos (starEach [] (X y).env)).any (·.1) = false := by intro ψ; rfl) : QF X W m E (.Call (.Name "sorted" p) [a] [] pos) (eB Z3a (Z01 fa aNil)) :=
 let ⟨_, pa, da⟩ := qa_b ha Z04 hs; ⟨_, fun y => Z3e (Zai (cx.calm y)) (hg y) ((congrFun (cx.hm y) _).trans B.sorted) boot_sorted (pa y) (by decide) (by decide) (hs y) (hp y), Zmp Zfx da⟩
end
theorem Z9c {ps : Ps} (h : Sbl (ps.map (·.1))) : Z3a [dicI ps] = some (.lst ((srt (ps.map (·.1))).map U.int)) := by
 unfold Z3a; simp only; rw [asD_I]; simp only [Option.bind_some]; rw [if_pos h]
theorem Zox {us : List U} {ps : Ps} (h : asPs us = some ps) (hl : us.length <= 5000) : uDOf [.lst us] = some (dicI (ofI ps)) := by
 unfold uDOf; simp only; rw [h]; simp only [Option.bind_some]; rw [if_pos hl]
def iab (x : Int) : Int := if x < 0 then -x else x
def far : List Int -> Int
 | [] => 0
 | d :: ds => (ds.map iab).foldl max (iab d)
theorem Zdg : ∀ (xs : List Int) (m : Int), m <= xs.foldl max m /\ ∀ x ∈ xs, x <= xs.foldl max m
 | [], m => ⟨Int.le_refl _, fun ψ h => absurd h (by simp)⟩
 | x :: xs, m => by
  obtain ⟨h1, h2⟩ := Zdg xs (max m x)
  rw [List.foldl_cons]
  refine ⟨by omega, fun y hy => ?_⟩
  rcases List.mem_cons.mp hy with rfl | hy
  ·omega
  ·exact h2 y hy
theorem Zdh {B : Int} : ∀ (xs : List Int) (m : Int), m <= B -> (∀ x ∈ xs, x <= B) -> xs.foldl max m <= B
 | [], m, h, _ => h
 | x :: xs, m, h, k => Zdh xs (max m x) (by have := k x (by simp); omega) fun y hy => k y (List.mem_cons_of_mem _ hy)
theorem Zdi {ds : List Int} {d : Int} (h : d ∈ ds) : -far ds <= d /\ d <= far ds := by
 cases ds with
 | nil => simp at h
 | cons e ds =>
  obtain ⟨h1, h2⟩ := Zdg (ds.map iab) (iab e)
  have key : iab d <= far (e :: ds) := by
   rcases List.mem_cons.mp h with rfl | h
   ·exact h1
   ·exact h2 _ (List.mem_map_of_mem h)
  unfold iab at key
  split at key <;> omega
theorem Z2r (ds : List Int) : 0 <= far ds := by
 cases ds with
 | nil => exact Int.le_refl _
 | cons d ds => have := Zdi (ds := d :: ds) (d := d) (by simp); omega
theorem Zoy {ds : List Int} {B : Int} (h0 : 0 <= B) (h : ∀ d ∈ ds, -B <= d /\ d <= B) : far ds <= B := by
 cases ds with
 | nil => exact h0
 | cons d ds =>
  have ib : ∀ x, -B <= x /\ x <= B -> iab x <= B := fun x hx => by unfold iab; split <;> omega
  refine Zdh _ _ (ib d (h d (by simp))) fun x hx => ?_
  obtain ⟨y, hy, rfl⟩ := List.mem_map.mp hx
  exact ib y (h y (List.mem_cons_of_mem _ hy))
def rgz (m : Int) : List Int := (List.range (2 * m + 1).toNat).map fun i : Nat => -m + (i : Int)
theorem Z16 {m n : Int} (hm : 0 <= m) : n ∈ rgz m ↔ -m <= n /\ n <= m := by
 unfold rgz
 rw [List.mem_map]
 refine ⟨fun ⟨i, hi, e⟩ => ?_, fun h => ⟨(n + m).toNat, ?_, ?_⟩⟩
 ·have := List.mem_range.mp hi; omega
 ·rw [List.mem_range]; omega
 ·omega
theorem Z8c {m : Int} : (rgz m).length = (2 * m + 1).toNat := by simp [rgz]
theorem Zdj : ∀ {xs : List Int} {a : Int} {n : Nat}, xs.Pairwise (· < ·) -> (∀ z, a <= z -> z < a + n -> z ∈ xs) -> n <= xs.length
 | [], a, n, _, h => by
  cases n with
  | zero => exact Nat.le_refl _
  | succ n => exact absurd (h a (Int.le_refl _) (by omega)) (by simp)
 | x :: t, a, n, p, h => by
  have p' := List.pairwise_cons.mp p
  by_cases c : x < a
  ·have := Zdj p'.2 (a := a) (n := n) fun z h1 h2 => by
    rcases List.mem_cons.mp (h z h1 h2) with e | e
    ·omega
    ·exact e
   simp; omega
  ·by_cases c2 : x = a
   ·cases n with
    | zero => exact Nat.zero_le _
    | succ n =>
     have := Zdj p'.2 (a := a + 1) (n := n) fun z h1 h2 => by
      rcases List.mem_cons.mp (h z (by omega) (by omega)) with e | e
      ·omega
      ·exact e
     simp; omega
   ·cases n with
    | zero => exact Nat.zero_le _
    | succ n =>
     rcases List.mem_cons.mp (h a (Int.le_refl _) (by omega)) with e | e
     ·omega
     ·have := p'.1 a e; omega
theorem Zoz : ∀ {xs : List Int} {a : Int}, xs.Pairwise (· < ·) -> (∀ z, a <= z -> z < a + xs.length -> z ∈ xs) -> xs = (List.range xs.length).map fun i : Nat => a + (i : Int)
 | [], a, _, _ => rfl
 | x :: t, a, p, h => by
  have p' := List.pairwise_cons.mp p
  have ea : x = a := by
   by_cases c : x < a
   ·have := Zdj p'.2 (a := a) (n := (x :: t).length) fun z h1 h2 => by
     rcases List.mem_cons.mp (h z h1 h2) with e | e
     ·omega
     ·exact e
    simp at this; omega
   ·rcases List.mem_cons.mp (h a (Int.le_refl _) (by simp; omega)) with e | e
    ·exact e.symm
    ·have := p'.1 a e; omega
  subst ea
  have ih := Zoz (xs := t) (a := x + 1) p'.2 fun z h1 h2 => by
   rcases List.mem_cons.mp (h z (by omega) (by simp; omega)) with e | e
   ·omega
   ·exact e
  rw [List.length_cons, List.range_succ_eq_map, List.map_cons, List.map_map]
  congr 1
  ·simp
  ·conv => lhs; rw [ih]
   apply List.map_congr_left
   intro i ψ
   simp only [Function.comp]
   omega
theorem Zh9 {ks : List Int} (n : ks.Nodup) : (srt ks).Pairwise (· < ·) := by
 have h1 := Zcj ks
 have h2 : (srt ks).Nodup := (Z28 ks).nodup_iff.mpr n
 exact (h1.and h2).imp fun h => by have := h.1; have := h.2; omega
theorem Z5u {ks : List Int} {z : Int} : z ∈ srt ks ↔ z ∈ ks := (Z28 ks).mem_iff
theorem Z8d (ks : List Int) : (srt ks).length = ks.length := (Z28 ks).length_eq
theorem Z8e {ks : List Int} {m : Int} (hm : 0 <= m) (n : ks.Nodup) : srt ks = rgz m ↔ (ks.length : Int) = 2 * m + 1 /\ ∀ z, -m <= z -> z <= m -> z ∈ ks := by
 constructor
 ·intro h
  refine ⟨?_, fun z h1 h2 => ?_⟩
  ·have := congrArg List.length h
   rw [Z8d, Z8c] at this
   omega
  ·rw [<- Z5u, h, Z16 hm]; exact ⟨h1, h2⟩
 ·rintro ⟨h1, h2⟩
  have hl : (srt ks).length = (2 * m + 1).toNat := by rw [Z8d]; omega
  have := Zoz (xs := srt ks) (a := -m) (Zh9 n) fun z z1 z2 => Z5u.mpr (h2 z z1 (by rw [hl] at z2; omega))
  rw [this, hl]; rfl
theorem Zha : ∀ {xs : List Int} {a b : Int}, xs.Pairwise (· < ·) -> (∀ z ∈ xs, a <= z /\ z <= b) -> (xs.length : Int) <= max 0 (b - a + 1)
 | [], a, b, _, _ => by simp; omega
 | x :: t, a, b, p, h => by
  have p' := List.pairwise_cons.mp p
  have hx := h x (by simp)
  have := Zha (xs := t) (a := x + 1) (b := b) p'.2 fun z hz => ⟨by have := p'.1 z hz; omega, (h z (List.mem_cons_of_mem _ hz)).2⟩
  simp; omega
theorem Zhb {ks : List Int} {a b : Int} (n : ks.Nodup) (h : ∀ z ∈ ks, a <= z /\ z <= b) : (ks.length : Int) <= max 0 (b - a + 1) := by
 rw [<- Z8d]
 exact Zha (Zh9 n) fun z hz => h z (Z5u.mp hz)
def wth (b : Int) (row : List Int) : Int := row.foldr (fun d a => a * b + d) 0
def wrt (b : Int) (ds : List Int) (n : Int) (row : List Int) : Bool := !decide (row.drop (row.length - 1) = [0]) && row.all (fun d => decide (d ∈ ds)) && decide (wth b row = n)
def rwU (u : U) : List Int := (Z22 u).getD []
theorem Zp0 {row : List Int} : rwU (.tup (row.map U.int)) = row := by unfold rwU Z22; simp only; rw [Z15]; rfl
structure Pap (m : Int) (N : Nat) (ps : Ps) : Prop where
 nd : (ps.map (·.1)).Nodup
 ky : ∀ p ∈ ps, -m <= p.1 /\ p.1 <= m
 rw : ∀ p ∈ ps, ∃ row : List Int, p.2 = .tup (row.map U.int) /\ row.length <= N
theorem Pap.len {m : Int} {N : Nat} {ps : Ps} (h : Pap m N ps) : (ps.length : Int) <= max 0 (2 * m + 1) := by
 have := Zhb h.nd (a := -m) (b := m) fun z hz => by
  obtain ⟨p, hp, rfl⟩ := List.mem_map.mp hz
  exact h.ky p hp
 rw [List.length_map] at this
 omega
theorem Pap.mono {m m' : Int} {N N' : Nat} {ps : Ps} (h : Pap m N ps) (hm : m <= m') (hN : N <= N') : Pap m' N' ps :=
 ⟨h.nd, fun p hp => by have := h.ky p hp; omega, fun p hp => by obtain ⟨r, e, l⟩ := h.rw p hp; exact ⟨r, e, by omega⟩⟩
theorem Pap.nil {m : Int} {N : Nat} : Pap m N [] := ⟨by simp, fun ψ h => absurd h (by simp), fun ψ h => absurd h (by simp)⟩
theorem Pap.put {m : Int} {N : Nat} {ps : Ps} {k : Int} {row : List Int} (h : Pap m N ps) (h1 : -m <= k) (h2 : k <= m) (hl : row.length <= N) : Pap m N (putI ps k (.tup (row.map U.int))) :=
 ⟨Zd9 h.nd, fun p hp => by
  rcases Z3h hp with e | e
  ·subst e; exact ⟨h1, h2⟩
  ·exact h.ky p e.1, fun p hp => by
  rcases Z3h hp with e | e
  ·subst e; exact ⟨row, rfl, hl⟩
  ·exact h.rw p e.1⟩
theorem Pap.drop {m : Int} {N : Nat} {ps : Ps} {k : Int} (h : Pap m N ps) : Pap m N (Z32 ps k) :=
 ⟨Zfm h.nd, fun p hp => h.ky p (Z7h hp), fun p hp => h.rw p (Z7h hp)⟩
theorem Pap.get {m : Int} {N : Nat} {ps : Ps} {k : Int} (h : Pap m N ps) (hk : k ∈ ps.map (·.1)) : ∃ row : List Int, asc ps k = some (.tup (row.map U.int)) /\ row.length <= N := by
 obtain ⟨p, hp, rfl⟩ := List.mem_map.mp hk
 obtain ⟨r, e, l⟩ := h.rw p hp
 exact ⟨r, by rw [<- e]; exact Z45 h.nd hp, l⟩
def gdd (b : Int) (ds : List Int) : Bool := decide ((ds.length : Int) = b) && decide (((dd (ds.map fun d => d % b)).length : Int) = b)
def shw (b : Int) (ds : List Int) (ps : Ps) : Bool := gdd b ds && (decide ((ps.length : Int) = 2 * far ds + 1) && (rgz (far ds)).all fun n => match asc ps n with
 | some u => wrt b ds n (rwU u)
 | none => false)
def due (b : Int) (ds : List Int) (ps : Ps) : Bool := gdd b ds && (decide (srt (ps.map (·.1)) = rgz (far ds)) && ps.all fun p => wrt b ds p.1 (rwU p.2))
theorem Zk8 {b : Int} {ds : List Int} {ps : Ps} (n : (ps.map (·.1)).Nodup) : shw b ds ps = due b ds ps := by
 unfold shw due
 congr 1
 rw [Bool.eq_iff_iff]
 simp only [Bool.and_eq_true, decide_eq_true_eq, List.all_eq_true]
 rw [Z8e (Z2r ds) n, List.length_map]
 constructor
 ·rintro ⟨h1, h2⟩
  have all : ∀ z, -far ds <= z -> z <= far ds -> z ∈ ps.map (·.1) := fun z z1 z2 => by
   have := h2 z ((Z16 (Z2r ds)).mpr ⟨z1, z2⟩)
   rw [<- Z5s]
   cases q : asc ps z with
   | none => rw [q] at this; cases this
   | some u => rfl
  have es := (Z8e (Z2r ds) n).mpr ⟨by rw [List.length_map]; exact h1, all⟩
  refine ⟨⟨h1, all⟩, fun p hp => ?_⟩
  have hr : p.1 ∈ rgz (far ds) := by rw [<- es, Z5u]; exact List.mem_map_of_mem hp
  have := h2 p.1 hr
  rw [Z45 n hp] at this
  exact this
 ·rintro ⟨⟨h1, h2⟩, h3⟩
  refine ⟨h1, fun z hz => ?_⟩
  obtain ⟨z1, z2⟩ := (Z16 (Z2r ds)).mp hz
  obtain ⟨p, hp, e⟩ := List.mem_map.mp (h2 z z1 z2)
  subst e
  rw [Z45 n hp]
  exact h3 p hp
theorem Zra : ∀ {ks : List Int} {i : Nat}, ks.Nodup -> i < ks.length -> ks.findIdx? (fun k => decide (k = ks.getD i 0)) = some i := by
 intro ks i n hi
 rw [List.findIdx?_eq_some_iff_getElem]
 refine ⟨hi, by simp [List.getD, hi], fun j hj => ?_⟩
 have hj' : j < ks.length := by omega
 simp only [List.getD, List.getElem?_eq_getElem hi, Option.getD_some, decide_eq_true_eq]
 intro e
 have := (List.pairwise_iff_getElem.mp n) j i hj' hi hj
 exact this e
theorem Zaj {ks : List Int} {ds : List L2.D} (n : ks.Nodup) (hl : ks.length = ds.length) (h : ∀ d ∈ ds, L2.D.eq d d = true) : Z75 ks ds ks ds = true := by
 unfold Z75
 rw [decide_eq_true rfl, Bool.true_and, List.all_eq_true]
 intro i hi
 have hi' := List.mem_range.mp hi
 rw [Zra n hi']
 simp only
 refine h _ ?_
 rw [List.getD_eq_getElem?_getD, List.getElem?_eq_getElem (by omega)]
 exact List.getElem_mem _
abbrev kyI (ps : Ps) : List Int := ps.map (·.1)
theorem Z2s (m : Int) : (rgz m).Pairwise (· < ·) := by
 unfold rgz
 rw [List.pairwise_map]
 exact List.pairwise_lt_range.imp fun h => by omega
theorem Zk9 : Shp [] := .inl List.Pairwise.nil
theorem Zdk {ks : List Int} (h : ks.Pairwise (· < ·)) : Shp ks := .inl h
theorem Zdl (ps : Ps) (k : Int) : kyI (Z32 ps k) = (kyI ps).filter fun x => decide (x ≠ k) := by
 unfold Z32 kyI
 rw [List.filter_map]; rfl
theorem Z9d {ps : Ps} {k : Int} {u : U} (h : k ∉ kyI ps) : kyI (putI ps k u) = kyI ps ++ [k] := by
 unfold kyI; rw [Z2d h, List.map_append]; rfl
theorem Zhc {ks : List Int} {z : Int} (h : ks.Pairwise (· < ·)) (hz : ∀ x ∈ ks, x < z) : (ks ++ [z]).Pairwise (· < ·) := by
 rw [List.pairwise_append]
 exact ⟨h, List.pairwise_singleton _ _, fun x hx y hy => by simp at hy; subst hy; exact hz x hx⟩
def Ris (ks : List Int) : Prop := ks.Pairwise (· < ·) \/ ∃ ms z, ks = ms ++ [z] /\ ms.Pairwise (· < ·) /\ ∀ x ∈ ms, z < x
theorem Ris.shp {ks : List Int} (h : Ris ks) : Shp ks := h.elim .inl fun h => .inr (.inr h)
theorem Ris.drop {ks : List Int} {k : Int} (h : Ris ks) : Ris (ks.filter fun x => decide (x ≠ k)) := by
 rcases h with h | ⟨ms, z, rfl, h1, h2⟩
 ·exact .inl (h.sublist List.filter_sublist)
 ·rw [List.filter_append]
  by_cases c : z = k
  ·left
   subst c
   simp only [List.filter_cons, ne_eq, not_true_eq_false, decide_false, List.filter_nil]
   rw [if_neg (by simp), List.append_nil]
   exact h1.sublist List.filter_sublist
  ·right
   refine ⟨ms.filter fun x => decide (x ≠ k), z, by simp [c], h1.sublist List.filter_sublist, fun x hx => h2 x (List.mem_filter.mp hx).1⟩
theorem Z9e : ∀ (ps acc : Ps), (kyI (acc ++ ps)).Nodup -> ps.foldl (fun a q => putI a q.1 q.2) acc = acc ++ ps
 | [], acc, _ => by simp
 | q :: ps, acc, h => by
  have hq : q.1 ∉ kyI acc := fun z => by
   unfold kyI at h z
   rw [List.map_append, List.nodup_append] at h
   exact h.2.2 q.1 z q.1 (by simp) rfl
  rw [List.foldl_cons, Z2d hq, Z9e ps (acc ++ [(q.1, q.2)]) (by simpa using h)]
  simp
theorem Zp1 {ps : Ps} (h : (kyI ps).Nodup) : ofI ps = ps := by
 unfold ofI
 rw [Z9e ps [] (by simpa using h)]
 simp
theorem Zhd (f : Int -> U) : ∀ ns : List Int, asPs (ns.map fun n => U.tup [.int n, f n]) = some (ns.map fun n => (n, f n))
 | [] => rfl
 | n :: ns => by
  rw [List.map_cons, asPs]
  simp only [asPr, Option.bind_some]
  rw [Zhd f ns]
  rfl
end L2
namespace My
open PySem L2 PyProof.Rows
set_option maxHeartbeats 4000000
section EvBlock
def top (i : Nat) : Stmt := PySem.Challenge.pw_mixedscales_k27_digits_papers_looked_at.main.body.getD i (.Pass ⟨0, 0, 0, 0⟩)
def wkT (_ : Wd) : Prop := True
structure Tx (K : L2.Fg) (mg : L2.SV) : Prop where
 t : True
section
variable {P : Program} {w : World} {K : L2.Fg} {mg : L2.SV} {base : Heap}
abbrev s_q9 : Stmt := top 3
abbrev N_q9 : List Str := ["digits"]
abbrev p_q9 : List Str := ["digits"]
theorem Zp2 : Z0m N_q9 p_q9 (Z05 s_q9) := ⟨rfl, rfl, rfl, by decide +kernel, rfl, by decide +kernel, by decide +kernel⟩
abbrev b_q9 : List Bool := [true]
def g_q9 : Sf := (sRet (eB Z5g (Z01 (Z2k (iOf (eVar 0)) 1 [] (Z0i 0) Z14 (eB uAbs (Z01 (eVar 0) aNil))) aNil)))
def F_q9 : Ff := runU N_q9.length g_q9
theorem Zrb {f : Addr} {fd : FuncData} (F : Fun K "farthest_of" "farthest_of" s_q9 f fd) (B : Bl mg) (kt : Kt K) (T : Tx K mg)  : FnOk P w K mg base (CX1 P w) 1 f fd p_q9 (spU K mg wkT b_q9.length b_q9 F_q9) := by
 have nd := Zp2.nd
 refine F.okQ (N := N_q9) (ps := p_q9) (bs := b_q9) (wk := wkT) (m := ⟨[0], []⟩) (g := g_q9) Zp2 rfl rfl (by decide) fun cdv A outer s H E W hK hm hw hr hA => ?_
 subst hK; subst hm
 have cx := Z0t (W := W) (P := P) (w := w) (base := base) (N := N_q9) (outer := outer) (H := H) (E := E) rfl rfl hr
 exact (Z1g (Z0p (Z5h cx B (QF.tb (Z1o (bs := ["digit"]) ⟨[], []⟩ cx (Z1n rfl (by rfl) rfl (by rfl) (by rfl) .nil .nil) (qi_v 0 cx) (Z0l 0 (fun ψ => (show (["digit"] : List Str).Nodup by decide +kernel))) Z1s (Z3t cx.blk B (Z00 0)))))))
abbrev Zak : Stmt := top 2
abbrev Zfy : List Str := ["base", "digits", "row", "number", "written", "digit"]
abbrev Zdm : List Str := ["base", "digits", "row", "number"]
theorem Zhe : Z0m Zfy Zdm (Z05 Zak) := ⟨rfl, rfl, rfl, by decide +kernel, rfl, by decide +kernel, by decide +kernel⟩
abbrev Zdn : List Bool := [true, true, false, true]
def Z5v : Sf := (sSet 4 (eOp uAdd (eOp uMul (eVar 4) (eVar 0)) (eVar 5)))
def Zfz : Sf := (sSeq (sIf (tfOr (tfB (eOp (uIs false) (eVar 2) (eC .non))) (tfB (eOp uEq (eSl uSl (eVar 2) (Z2f (eUn uNeg (eC (.int 1)))) pNo) (eTup (Z01 (eC (.int 0)) aNil))))) (sRet (eC (.bl false))) Z0z)
   (sSeq (sIf (tfB (eB uAny (Z01 (Z2k (iOf (eVar 2)) 1 [1] (Z0i 0) Z14 (eOp (uIn true) (eVar 0) (eVar 1))) aNil))) (sRet (eC (.bl false))) Z0z)
   (sSeq (sSet 4 (eC (.int 0)))
   (sSeq (sFor (Z2j Z1j (Z01 (eVar 2) aNil)) (Z0i 5) Z5v)
   (sRet (eOp uEq (eVar 4) (eVar 3)))))))
def Z7j : Ff := runU Zfy.length Zfz
theorem Zp3 {f : Addr} {fd : FuncData} (F : Fun K "is_writing" "is_writing" Zak f fd) (B : Bl mg) (kt : Kt K) (T : Tx K mg)  : FnOk P w K mg base (CX1 P w) 1 f fd Zdm (spU K mg wkT Zdn.length Zdn Z7j) := by
 have nd := Zhe.nd
 refine F.okQ (N := Zfy) (ps := Zdm) (bs := Zdn) (wk := wkT) (m := ⟨[0, 1, 3], []⟩) (g := Zfz) Zhe rfl rfl (by decide) fun cdv A outer s H E W hK hm hw hr hA => ?_
 subst hK; subst hm
 have cx := Z0t (W := W) (P := P) (w := w) (base := base) (N := Zfy) (outer := outer) (H := H) (E := E) rfl rfl hr
 exact (Z07 (Z1a (QW.t (Za4 (Zqq (Z00 2) (QE.tb Zn6)) (Z6o (Z30 cx (QE.tb (Za5 cx (Z00 2) (Z20 (QE.tb (Z1z (QE.tb Z02)))) Z31)) (QE.tb (Z1f (qa_e Z02 Z04))))))) (Z09 (Z0p Z4b)) Z0d)
   (Z07 (Z1a (Zc4 (QE.tb (Znc cx B (QF.tb (Z1o (bs := ["digit"]) ⟨[1], []⟩ cx (Z1n rfl (by rfl) rfl (by rfl) (by rfl) (.cons rfl .nil) (.cons (j := 1) rfl (by first | exact .inl rfl | exact .inr rfl) rfl (by first | exact .inl rfl | exact .inr rfl) .nil)) (qi_v 2 cx) (Z0l 0 (fun ψ => (show (["digit", "digits"] : List Str).Nodup by decide +kernel))) Z1s (Zey cx.blk (Z00 0) (Z00 1))))))) (Z09 (Z0p Z4b)) Z0d)
   (Z07 (Z0n 4 (fun ψ => nd) Z02)
   (Z07 (Z21 cx Z1l (Z87 cx B (qa_e (Z0q 2) Z04)) (Z0l 5 (fun ψ => nd)) (Z09 (Z0n 4 (fun ψ => nd) (Z0g cx (QE.tb (Z1v (Z00 4) (Z00 0))) (Z00 5)) (hs := fun ψ => Z1k))))
   (Z1g (Z0p (Zit cx (Z00 4) (Z00 3))))))))
abbrev Zal : Stmt := top 1
abbrev Zg0 : List Str := ["base", "digits", "paper", "farthest"]
abbrev Zdo : List Str := ["base", "digits", "paper"]
theorem Zhf : Z0m Zg0 Zdo (Z05 Zal) := ⟨rfl, rfl, rfl, by decide +kernel, rfl, by decide +kernel, by decide +kernel⟩
abbrev Zdp : List Bool := [true, true, true]
def Zka : Sf := (sSeq (sIf (tfOr (tfB (eOp uNe (eB uLen (Z01 (eVar 1) aNil)) (eVar 0))) (tfB (eOp uNe (eB Z2h (Z01 (Z2k (iOf (eVar 1)) 1 [0] (Z0i 0) Z14 (eOp uMod (eVar 0) (eVar 1))) aNil)) (eVar 0)))) (sRet (eC (.bl false))) Z0z)
   (sSeq (sSet 3 (Z0h F_q9 (Z01 (eVar 1) aNil)))
   (sSeq (sIf (tfB (eOp uNe (eB Zab (Z01 (eVar 2) aNil)) (eOp uAdd (eOp uMul (eC (.int 2)) (eVar 3)) (eC (.int 1))))) (sRet (eC (.bl false))) Z0z)
   (sRet (eB uAll (Z01 (Z2k (Z2j uR2 (Z01 (eUn uNeg (eVar 3)) (Z01 (eOp uAdd (eVar 3) (eC (.int 1))) aNil))) 1 [0, 1, 2] (Z0i 0) Z14 (Z0h Z7j (Z01 (eVar 1) (Z01 (eVar 2) (Z01 (Z72 (eVar 3) (eVar 0)) (Z01 (eVar 0) aNil)))))) aNil))))))
def Zdq : Ff := runU Zg0.length Zka
theorem Zp4 {f : Addr} {fd : FuncData} (F : Fun K "paper_shown" "paper_shown" Zal f fd) (B : Bl mg) (kt : Kt K) (T : Tx K mg) {a_q9 : Addr} {d_q9 : FuncData} (c_q9 : Fn P w K mg base (CX1 P w) 1 "farthest_of" a_q9 d_q9 p_q9 (spU K mg wkT b_q9.length b_q9 F_q9)) {a_q11 : Addr} {d_q11 : FuncData} (c_q11 : Fn P w K mg base (CX1 P w) 1 "is_writing" a_q11 d_q11 Zdm (spU K mg wkT Zdn.length Zdn Z7j)) : FnOk P w K mg base (CX1 P w) 2 f fd Zdo (spU K mg wkT Zdp.length Zdp Zdq) := by
 have nd := Zhf.nd
 refine F.okQ (N := Zg0) (ps := Zdo) (bs := Zdp) (wk := wkT) (m := ⟨[0, 1, 2], []⟩) (g := Zka) Zhf rfl rfl (by decide) fun cdv A outer s H E W hK hm hw hr hA => ?_
 subst hK; subst hm
 have cx := Z0t (W := W) (P := P) (w := w) (base := base) (N := Zg0) (outer := outer) (H := H) (E := E) rfl rfl hr
 have hw_q9 : wkT W := trivial
 have hw_q11 : wkT W := trivial
 exact (Z07 (Z1a (QW.t (Za4 (Z5e cx (QE.tb (Z3s cx B (Z00 1))) (Z00 0)) (Z6o (Z5e cx (QE.tb (Z7g cx B (QF.tb (Z1o (bs := ["digit"]) ⟨[1], []⟩ cx (Z1n rfl (by rfl) rfl (by rfl) (by rfl) (.cons rfl .nil) (.cons (j := 0) rfl (by first | exact .inl rfl | exact .inr rfl) rfl (by first | exact .inl rfl | exact .inr rfl) .nil)) (qi_v 1 cx) (Z0l 0 (fun ψ => (show (["digit", "base"] : List Str).Nodup by decide +kernel))) Z1s (Z2l (Z00 0) (Z00 1)))))) (Z00 0))))) (Z09 (Z0p Z4b)) Z0d)
   (Z07 (Z0n 3 (fun ψ => nd) (Z08 cx (fun ψ => c_q9) (fun ψ => hr.mono (by decide)) hw_q9 (qa_b (Z00 1) Z04)))
   (Z07 (Z1a (Z5e cx (QE.tb (Zjm cx B (Z00 2))) (QE.tb (Z0g cx (QE.tb (Z1v (QE.tb Z02) (Z00 3))) (QE.tb Z02)))) (Z09 (Z0p Z4b)) Z0d)
   (Z1g (Z0p (Znj cx B (QF.tb (Z1o (bs := ["number"]) ⟨[1, 2, 3], []⟩ cx (Z1n rfl (by rfl) rfl (by rfl) (by rfl) (.cons rfl (.cons rfl (.cons rfl .nil))) (.cons (j := 0) rfl (by first | exact .inl rfl | exact .inr rfl) rfl (by first | exact .inl rfl | exact .inr rfl) (.cons (j := 1) rfl (by first | exact .inl rfl | exact .inr rfl) rfl (by first | exact .inl rfl | exact .inr rfl) (.cons (j := 2) rfl (by first | exact .inl rfl | exact .inr rfl) rfl (by first | exact .inl rfl | exact .inr rfl) .nil)))) (Ziy cx B (qa_b (QE.tb (Z1z (Z00 3))) (qa_b (QE.tb (Z0g cx (Z00 3) (QE.tb Z02))) Z04))) (Z0l 0 (fun ψ => (show (["number", "base", "digits", "paper"] : List Str).Nodup by decide +kernel))) Z1s (Z08 cx.blk (fun ψ => c_q11) (fun ψ => hr.mono (by decide)) hw_q11 (qa_b (Z00 1) (qa_b (Z00 2) (qa_e (Zfe cx.blk (Z00 3) (Z00 0)) (qa_b (Z00 0) Z04)))))))))))))
abbrev Zam : Stmt := top 5
abbrev Zg1 : List Str := ["script"]
abbrev Zdr : List Str := ["script"]
theorem Zhg : Z0m Zg1 Zdr (Z05 Zam) := ⟨rfl, rfl, rfl, by decide +kernel, rfl, by decide +kernel, by decide +kernel⟩
abbrev Zds : List Bool := [false]
def Zkb : Sf := (sRet (eLst (Z01 (eVar 0) (Z01 (eC (.int 0)) (Z01 (eC (.int 0)) (Z01 (eC (.int 40213)) (Z01 (eC (.int 0)) aNil)))))))
def Zan : Ff := runU Zg1.length Zkb
theorem Zp5 {f : Addr} {fd : FuncData} (F : Fun K "_law_pile" "_law_pile" Zam f fd) (B : Bl mg) (kt : Kt K) (T : Tx K mg)  : FnOk P w K mg base (CX1 P w) 1 f fd Zdr (spU K mg wkT Zds.length Zds Zan) := by
 have nd := Zhg.nd
 refine F.okQ (N := Zg1) (ps := Zdr) (bs := Zds) (wk := wkT) (m := ⟨[], []⟩) (g := Zkb) Zhg rfl rfl (by decide) fun cdv A outer s H E W hK hm hw hr hA => ?_
 subst hK; subst hm
 have cx := Z0t (W := W) (P := P) (w := w) (base := base) (N := Zg1) (outer := outer) (H := H) (E := E) rfl rfl hr
 exact (Z1g (Z0p (QF.te (Z0y (qa_e (Z0q 0) (qa_e Z02 (qa_e Z02 (qa_e Z02 (qa_e Z02 Z04)))))))))
abbrev Zao : Stmt := top 6
abbrev Zg2 : List Str := ["pile", "most", "found", "cell"]
abbrev Z7k : List Str := ["pile", "most"]
theorem Zhh : Z0m Zg2 Z7k (Z05 Zao) := ⟨rfl, rfl, rfl, by decide +kernel, rfl, by decide +kernel, by decide +kernel⟩
abbrev Z47 : List Bool := [true, true]
def Zkc : Sf := (sSeq (sIf (tfB (eOp uGt (ePl 0 1) (eC (.int 0)))) (sSeq (sSet 2 (eOp uMod (ePl 0 1) (eVar 1)))
   (sSeq (sPl 0 1 (eOp uDiv (ePl 0 1) (eVar 1)))
   (sRet (eVar 2)))) Z0z)
   (sSeq (sIf (tfB (eOp uLt (ePl 0 0) (Z6x 0))) (sSeq (sSet 3 (Zcg 0 0))
   (sSeq (sPl 0 0 (eOp uAdd (ePl 0 0) (eC (.int 1))))
   (sSeq (sPl 0 2 (eOp uMod (eOp uAdd (eOp uMul (ePl 0 2) (eC (.int 69069))) (eVar 3)) (eC (.int 2147483629))))
   (sSeq (sIf (tfB (eOp uGe (eB uAbs (Z01 (eVar 3) aNil)) (eOp uPow (eC (.int 10)) (eC (.int 18))))) (sSeq (sPl 0 1 (eOp uDiv (eB uAbs (Z01 (eVar 3) aNil)) (eVar 1)))
   (sRet (eOp uMod (eB uAbs (Z01 (eVar 3) aNil)) (eVar 1)))) Z0z)
   (sRet (eOp uMod (eVar 3) (eVar 1))))))) Z0z)
   (sSeq (sPl 0 3 (eOp uAdd (ePl 0 3) (eC (.int 1))))
   (sSeq (sPl 0 2 (eOp uMod (eOp uAdd (eOp uAdd (eOp uMul (ePl 0 2) (ePl 0 2)) (eOp uMul (eC (.int 40014)) (ePl 0 3))) (eC (.int 977))) (eC (.int 2147483629))))
   (sRet (eOp uMod (eOp uDiv (ePl 0 2) (eC (.int 16))) (eVar 1)))))))
def Z0v : Ff := runU Zg2.length Zkc
theorem Zp6 {f : Addr} {fd : FuncData} (F : Fun K "_law_next" "_law_next" Zao f fd) (B : Bl mg) (kt : Kt K) (T : Tx K mg)  : FnOk P w K mg base (CX1 P w) 1 f fd Z7k (spU K mg PlW Z47.length Z47 Z0v) := by
 have nd := Zhh.nd
 refine F.okQ (N := Zg2) (ps := Z7k) (bs := Z47) (wk := PlW) (m := ⟨[0, 1], []⟩) (g := Zkc) Zhh rfl rfl (by decide) fun cdv A outer s H E W hK hm hw hr hA => ?_
 subst hK; subst hm
 have cx := Z0t (W := W) (P := P) (w := w) (base := base) (N := Zg2) (outer := outer) (H := H) (E := E) rfl rfl hr
 exact (Z07 (Z1a (Ziv (QE.tb (Z3w 0 1 hw cx)) (QE.tb Z02)) (Z0a (Z0n 2 (fun ψ => nd) (Z2l (QE.tb (Z3w 0 1 hw cx)) (Z00 1)) (hs := fun ψ => Z1k))
   (Z0a (Za8 0 1 hw (Z4s (QE.tb (Z3w 0 1 hw cx)) (Z00 1)))
   (Z09 (Z0p (Z0q 2))))) Z0d)
   (Z07 (Z1a (Ziu (QE.tb (Z3w 0 0 hw cx)) (QE.tb (Zf1 0 hw cx B))) (Z0a (Z0n 3 (fun ψ => nd) (Zj7 0 0 hw cx) (hs := fun ψ => Z4n))
   (Z0a (Za8 0 0 hw (Z0g cx (QE.tb (Z3w 0 0 hw cx)) (QE.tb Z02)))
   (Z0a (Za8 0 2 hw (Z2l (QE.tb (Z0g cx (QE.tb (Z1v (QE.tb (Z3w 0 2 hw cx)) (QE.tb Z02))) (Z00 3))) (QE.tb Z02)))
   (Z0a (Z1a (Zqp (QE.tb (Z3t cx B (Z00 3))) (QE.tb (Zn8 (QE.tb Z02) (QE.tb Z02)))) (Z0a (Za8 0 1 hw (Z4s (QE.tb (Z3t cx B (Z00 3))) (Z00 1)))
   (Z09 (Z0p (Z2l (QE.tb (Z3t cx B (Z00 3))) (Z00 1))))) Z0d)
   (Z09 (Z0p (Z2l (Z00 3) (Z00 1)))))))) Z0d)
   (Z07 (Za8 0 3 hw (Z0g cx (QE.tb (Z3w 0 3 hw cx)) (QE.tb Z02)))
   (Z07 (Za8 0 2 hw (Z2l (QE.tb (Z0g cx (QE.tb (Z0g cx (QE.tb (Z1v (QE.tb (Z3w 0 2 hw cx)) (QE.tb (Z3w 0 2 hw cx)))) (QE.tb (Z1v (QE.tb Z02) (QE.tb (Z3w 0 3 hw cx)))))) (QE.tb Z02))) (QE.tb Z02)))
   (Z1g (Z0p (Z2l (QE.tb (Z4s (QE.tb (Z3w 0 2 hw cx)) (QE.tb Z02))) (Z00 1))))))))
abbrev s_q3 : Stmt := top 8
abbrev N_q3 : List Str := ["pile", "some", "left", "found"]
abbrev p_q3 : List Str := ["pile", "some"]
theorem Zp7 : Z0m N_q3 p_q3 (Z05 s_q3) := ⟨rfl, rfl, rfl, by decide +kernel, rfl, by decide +kernel, by decide +kernel⟩
abbrev b_q3 : List Bool := [true, true]
def Z9f : Sf := (Z3x 3 2 (Z0h Z0v (Z01 (eVar 0) (Z01 (eB uLen (Z01 (eVar 2) aNil)) aNil))))
def g_q3 : Sf := (sSeq (sSet 2 (eB Z80 (Z01 (eVar 1) aNil)))
   (sSeq (sSet 3 (eLst aNil))
   (sSeq (sWh (tfB (eOp uNe (eVar 2) (eLst aNil))) Z9f)
   (sRet (eB Z4p (Z01 (eVar 3) aNil))))))
def F_q3 : Ff := runU N_q3.length g_q3
theorem Zrc {f : Addr} {fd : FuncData} (F : Fun K "_law_shuffled" "_law_shuffled" s_q3 f fd) (B : Bl mg) (kt : Kt K) (T : Tx K mg) {a_q12 : Addr} {d_q12 : FuncData} (c_q12 : Fn P w K mg base (CX1 P w) 1 "_law_next" a_q12 d_q12 Z7k (spU K mg PlW Z47.length Z47 Z0v)) : FnOk P w K mg base (CX1 P w) 2 f fd p_q3 (spU K mg PlW b_q3.length b_q3 F_q3) := by
 have nd := Zp7.nd
 refine F.okQ (N := N_q3) (ps := p_q3) (bs := b_q3) (wk := PlW) (m := ⟨[0, 1], [2, 3]⟩) (g := g_q3) Zp7 rfl rfl (by decide) fun cdv A outer s H E W hK hm hw hr hA => ?_
 subst hK; subst hm
 have cx := Z0t (W := W) (P := P) (w := w) (base := base) (N := N_q3) (outer := outer) (H := H) (E := E) rfl rfl hr
 have hw_q12 : PlW W := hw
 exact (Z07 (Z3u 2 (fun ψ => nd) (Ziw cx B (Z00 1)))
   (Z07 (Z3u 3 (fun ψ => nd) (Z0y Z04) (hs := fun ψ => Z2w))
   (Z07 (Z5f Z1l (Z5e cx (Z00 2) (QF.tb (Z0y Z04))) (Z09 (Zci 3 2 cx (QE.tb (Z08 cx (fun ψ => c_q12) (fun ψ => hr.mono (by decide)) hw_q12 (qa_b (Z00 0) (qa_b (QE.tb (Z3s cx B (Z00 2))) Z04)))))))
   (Z1g (Z0p (Zeu cx B (Z00 3)))))))
abbrev s_q0 : Stmt := top 7
abbrev N_q0 : List Str := ["pile", "base", "way", "found", "rest", "at", "one", "low", "k"]
abbrev p_q0 : List Str := ["pile"]
theorem Zp8 : Z0m N_q0 p_q0 (Z05 s_q0) := ⟨rfl, rfl, rfl, by decide +kernel, rfl, by decide +kernel, by decide +kernel⟩
abbrev b_q0 : List Bool := [true]
def Z9g : Sf := (sApp 3 (eOp uAdd (eVar 4) (eOp uMul (eVar 1) (eOp uIx (eLst (Z01 (eC (.int 0)) (Z01 (eUn uNeg (eC (.int 1))) (Z01 (eUn uNeg (eC (.int 1))) (Z01 (eC (.int 0)) (Z01 (eC (.int 1)) (Z01 (eUn uNeg (eC (.int 2))) aNil))))))) (Z0h Z0v (Z01 (eVar 0) (Z01 (eOp uIx (eLst (Z01 (eC (.int 4)) (Z01 (eC (.int 6)) aNil))) (eB uInt (Z01 (eOp uGt (eVar 2) (eC (.int 0))) aNil))) aNil)))))))
def Z4x : Sf := (sSeq (sSet 6 (eOp uSub (Z0h Z0v (Z01 (eVar 0) (Z01 (eOp uIx (eLst (Z01 (eC (.int 7)) (Z01 (eC (.int 41)) aNil))) (Z0h Z0v (Z01 (eVar 0) (Z01 (eC (.int 2)) aNil)))) aNil))) (eOp uIx (eLst (Z01 (eC (.int 3)) (Z01 (eC (.int 20)) aNil))) (Z0h Z0v (Z01 (eVar 0) (Z01 (eC (.int 2)) aNil))))))
   (sIf (tfB (eOp (uIn true) (eVar 6) (eVar 3))) (sApp 3 (eVar 6)) Z0z))
def g_q0 : Sf := (sSeq (sSet 1 (eOp uIx (eLst (Z01 (eC (.int 2)) (Z01 (eC (.int 3)) (Z01 (eOp uAdd (eC (.int 2)) (Z0h Z0v (Z01 (eVar 0) (Z01 (eC (.int 5)) aNil)))) (Z01 (eOp uAdd (eC (.int 2)) (Z0h Z0v (Z01 (eVar 0) (Z01 (eC (.int 9)) aNil)))) aNil))))) (Z0h Z0v (Z01 (eVar 0) (Z01 (eC (.int 4)) aNil)))))
   (sSeq (sSet 2 (Z0h Z0v (Z01 (eVar 0) (Z01 (eC (.int 6)) aNil))))
   (sSeq (sSet 3 (eLst (Z01 (eC (.int 0)) aNil)))
   (sSeq (sIf (tfB (eOp uLt (eVar 2) (eC (.int 3)))) (sFor (Z2j uR2 (Z01 (eC (.int 1)) (Z01 (eVar 1) aNil))) (Z0i 4) Z9g) Z0z)
   (sSeq (sIf (tfB (eOp uEq (eVar 2) (eC (.int 2)))) (sSeq (sSet 5 (Z0h Z0v (Z01 (eVar 0) (Z01 (eB uLen (Z01 (eVar 3) aNil)) aNil))))
   (sSeq (sSet 6 (eOp uSub (eOp uAdd (eOp uIx (eVar 3) (eVar 5)) (Z0h Z0v (Z01 (eVar 0) (Z01 (eC (.int 5)) aNil)))) (eC (.int 2))))
   (sIf (Zbx (tfB (eOp uGt (eVar 5) (eC (.int 0)))) (tfB (eOp (uIn true) (eVar 6) (eVar 3)))) (sPut 3 (eVar 5) (eVar 6)) Z0z))) Z0z)
   (sSeq (sIf (tfB (eOp uEq (eVar 2) (eC (.int 3)))) (sSeq (sSet 7 (Z0h Z0v (Z01 (eVar 0) (Z01 (eVar 1) aNil))))
   (sSet 3 (eB Z4f (Z01 (eOp uSub (eC (.int 0)) (eVar 7)) (Z01 (eOp uAdd (eOp uSub (eVar 1) (eVar 7)) (Z0h Z0v (Z01 (eVar 0) (Z01 (eC (.int 3)) aNil)))) aNil))))) Z0z)
   (sSeq (sIf (tfB (eOp uGt (eVar 2) (eC (.int 3)))) (sFor (Z2j uR1 (Z01 (eOp uAdd (eC (.int 1)) (Z0h Z0v (Z01 (eVar 0) (Z01 (eOp uIx (eLst (Z01 (eC (.int 3)) (Z01 (eC (.int 8)) aNil))) (eOp uSub (eVar 2) (eC (.int 4)))) aNil)))) aNil)) (Z0i 8) Z4x) Z0z)
   (sSeq (sIf (tfB (eOp uLt (eB uLen (Z01 (eVar 3) aNil)) (eC (.int 2)))) (sApp 3 (eOp uIx (eLst (Z01 (eC (.int 1)) (Z01 (eUn uNeg (eC (.int 1))) aNil))) (Z0h Z0v (Z01 (eVar 0) (Z01 (eC (.int 2)) aNil))))) Z0z)
   (sRet (eLst (Z01 (eVar 1) (Z01 (Z0h F_q3 (Z01 (eVar 0) (Z01 (eVar 3) aNil))) aNil))))))))))))
def F_q0 : Ff := runU N_q0.length g_q0
theorem Zrd {f : Addr} {fd : FuncData} (F : Fun K "_law_base_and_digits" "_law_base_and_digits" s_q0 f fd) (B : Bl mg) (kt : Kt K) (T : Tx K mg) {a_q12 : Addr} {d_q12 : FuncData} (c_q12 : Fn P w K mg base (CX1 P w) 1 "_law_next" a_q12 d_q12 Z7k (spU K mg PlW Z47.length Z47 Z0v)) {a_q3 : Addr} {d_q3 : FuncData} (c_q3 : Fn P w K mg base (CX1 P w) 2 "_law_shuffled" a_q3 d_q3 p_q3 (spU K mg PlW b_q3.length b_q3 F_q3)) : FnOk P w K mg base (CX1 P w) 3 f fd p_q0 (spU K mg PlW b_q0.length b_q0 F_q0) := by
 have nd := Zp8.nd
 refine F.okQ (N := N_q0) (ps := p_q0) (bs := b_q0) (wk := PlW) (m := ⟨[0], [3]⟩) (g := g_q0) Zp8 rfl rfl (by decide) fun cdv A outer s H E W hK hm hw hr hA => ?_
 subst hK; subst hm
 have cx := Z0t (W := W) (P := P) (w := w) (base := base) (N := N_q0) (outer := outer) (H := H) (E := E) rfl rfl hr
 have hw_q12 : PlW W := hw
 have hw_q3 : PlW W := hw
 exact (Z07 (Z0n 1 (fun ψ => nd) (Z4c cx (QF.tb (Z0y (qa_e Z02 (qa_e Z02 (qa_e (Z0g cx (QE.tb Z02) (QE.tb (Z08 cx (fun ψ => c_q12) (fun ψ => hr.mono (by decide)) hw_q12 (qa_b (Z00 0) (qa_b (QE.tb Z02) Z04))))) (qa_e (Z0g cx (QE.tb Z02) (QE.tb (Z08 cx (fun ψ => c_q12) (fun ψ => hr.mono (by decide)) hw_q12 (qa_b (Z00 0) (qa_b (QE.tb Z02) Z04))))) Z04)))))) (QE.tb (Z08 cx (fun ψ => c_q12) (fun ψ => hr.mono (by decide)) hw_q12 (qa_b (Z00 0) (qa_b (QE.tb Z02) Z04))))) (hs := fun ψ => Z4n))
   (Z07 (Z0n 2 (fun ψ => nd) (Z08 cx (fun ψ => c_q12) (fun ψ => hr.mono (by decide)) hw_q12 (qa_b (Z00 0) (qa_b (QE.tb Z02) Z04))))
   (Z07 (Z3u 3 (fun ψ => nd) (Z0y (qa_e Z02 Z04)) (hs := fun ψ => Z2w))
   (Z07 (Z1a (Ziu (Z00 2) (QE.tb Z02)) (Z09 (Z21 cx Z1l (Ziy cx B (qa_b (QE.tb Z02) (qa_b (Z00 1) Z04))) (Z0l 4 (fun ψ => nd)) (Z09 (Z4t 3 cx (Z0g cx (Z00 4) (QE.tb (Z1v (Z00 1) (QE.tb (Z4c cx (QF.tb (Z0y (qa_e Z02 (qa_e (Z1z (QE.tb Z02)) (qa_e (Z1z (QE.tb Z02)) (qa_e Z02 (qa_e Z02 (qa_e (Z1z (QE.tb Z02)) Z04)))))))) (QE.tb (Z08 cx (fun ψ => c_q12) (fun ψ => hr.mono (by decide)) hw_q12 (qa_b (Z00 0) (qa_b (QE.tb (Z4c cx (QF.tb (Z0y (qa_e Z02 (qa_e Z02 Z04)))) (QE.tb (Zev cx B (QE.tb (Zqo (Z00 2) (QE.tb Z02))))))) Z04))))))))))))) Z0d)
   (Z07 (Z1a (Z30 cx (Z00 2) (QE.tb Z02)) (Z0a (Z0n 5 (fun ψ => nd) (Z08 cx (fun ψ => c_q12) (fun ψ => hr.mono (by decide)) hw_q12 (qa_b (Z00 0) (qa_b (QE.tb (Z3s cx B (Z00 3))) Z04))))
   (Z0a (Z0n 6 (fun ψ => nd) (Z13 (QE.tb (Z0g cx (QE.tb (Z4c cx (Z00 3) (Z00 5))) (QE.tb (Z08 cx (fun ψ => c_q12) (fun ψ => hr.mono (by decide)) hw_q12 (qa_b (Z00 0) (qa_b (QE.tb Z02) Z04)))))) (QE.tb Z02)) (hs := fun ψ => Z1k))
   (Z09 (Z1a (QW.t (Zgq (Ziv (Z00 5) (QE.tb Z02)) (Zc5 (Z5k cx (Z00 6) (Z00 3))))) (Z09 (Zne 3 (Z0q 6) (Z00 5))) Z0d)))) Z0d)
   (Z07 (Z1a (Z30 cx (Z00 2) (QE.tb Z02)) (Z0a (Z0n 7 (fun ψ => nd) (Z08 cx (fun ψ => c_q12) (fun ψ => hr.mono (by decide)) hw_q12 (qa_b (Z00 0) (qa_b (Z00 1) Z04))))
   (Z09 (Z3u 3 (fun ψ => nd) (Z6w cx B (qa_b (QE.tb (Z13 (QE.tb Z02) (Z00 7))) (qa_b (QE.tb (Z0g cx (QE.tb (Z13 (Z00 1) (Z00 7))) (QE.tb (Z08 cx (fun ψ => c_q12) (fun ψ => hr.mono (by decide)) hw_q12 (qa_b (Z00 0) (qa_b (QE.tb Z02) Z04)))))) Z04)))))) Z0d)
   (Z07 (Z1a (Ziv (Z00 2) (QE.tb Z02)) (Z09 (Z21 cx Z1l (Zix cx B (qa_b (QE.tb (Z0g cx (QE.tb Z02) (QE.tb (Z08 cx (fun ψ => c_q12) (fun ψ => hr.mono (by decide)) hw_q12 (qa_b (Z00 0) (qa_b (QE.tb (Z4c cx (QF.tb (Z0y (qa_e Z02 (qa_e Z02 Z04)))) (QE.tb (Z13 (Z00 2) (QE.tb Z02))))) Z04)))))) Z04)) (Z0l 8 (fun ψ => nd)) (Z0a (Z0n 6 (fun ψ => nd) (Z13 (QE.tb (Z08 cx (fun ψ => c_q12) (fun ψ => hr.mono (by decide)) hw_q12 (qa_b (Z00 0) (qa_b (QE.tb (Z4c cx (QF.tb (Z0y (qa_e Z02 (qa_e Z02 Z04)))) (QE.tb (Z08 cx (fun ψ => c_q12) (fun ψ => hr.mono (by decide)) hw_q12 (qa_b (Z00 0) (qa_b (QE.tb Z02) Z04)))))) Z04)))) (QE.tb (Z4c cx (QF.tb (Z0y (qa_e Z02 (qa_e Z02 Z04)))) (QE.tb (Z08 cx (fun ψ => c_q12) (fun ψ => hr.mono (by decide)) hw_q12 (qa_b (Z00 0) (qa_b (QE.tb Z02) Z04))))))) (hs := fun ψ => Z1k))
   (Z09 (Z1a (Z5k cx (Z00 6) (Z00 3)) (Z09 (Z4t 3 cx (Z0q 6))) Z0d))))) Z0d)
   (Z07 (Z1a (Ziu (QE.tb (Z3s cx B (Z00 3))) (QE.tb Z02)) (Z09 (Z4t 3 cx (Z4c cx (QF.tb (Z0y (qa_e Z02 (qa_e (Z1z (QE.tb Z02)) Z04)))) (QE.tb (Z08 cx (fun ψ => c_q12) (fun ψ => hr.mono (by decide)) hw_q12 (qa_b (Z00 0) (qa_b (QE.tb Z02) Z04))))))) Z0d)
   (Z1g (Z0p (QF.te (Z0y (qa_e (Z0q 1) (qa_e (Z08 cx (fun ψ => c_q3) (fun ψ => hr.mono (by decide)) hw_q3 (qa_b (Z00 0) (qa_b (Z00 3) Z04))) Z04))))))))))))))
abbrev s_q7 : Stmt := top 9
abbrev N_q7 : List Str := ["base", "row", "number", "digit"]
abbrev p_q7 : List Str := ["base", "row"]
theorem Zp9 : Z0m N_q7 p_q7 (Z05 s_q7) := ⟨rfl, rfl, rfl, by decide +kernel, rfl, by decide +kernel, by decide +kernel⟩
abbrev b_q7 : List Bool := [true, true]
def Z9h : Sf := (sSet 2 (eOp uAdd (eOp uMul (eVar 2) (eVar 0)) (eVar 3)))
def g_q7 : Sf := (sSeq (sSet 2 (eC (.int 0)))
   (sSeq (sFor (iOf (eRev (eVar 1) (Z2f (eUn uNeg (eC (.int 1)))))) (Z0i 3) Z9h)
   (sRet (eVar 2))))
def F_q7 : Ff := runU N_q7.length g_q7
theorem Zre {f : Addr} {fd : FuncData} (F : Fun K "_law_number" "_law_number" s_q7 f fd) (B : Bl mg) (kt : Kt K) (T : Tx K mg)  : FnOk P w K mg base (CX1 P w) 1 f fd p_q7 (spU K mg wkT b_q7.length b_q7 F_q7) := by
 have nd := Zp9.nd
 refine F.okQ (N := N_q7) (ps := p_q7) (bs := b_q7) (wk := wkT) (m := ⟨[0, 1], []⟩) (g := g_q7) Zp9 rfl rfl (by decide) fun cdv A outer s H E W hK hm hw hr hA => ?_
 subst hK; subst hm
 have cx := Z0t (W := W) (P := P) (w := w) (base := base) (N := N_q7) (outer := outer) (H := H) (E := E) rfl rfl hr
 exact (Z07 (Z0n 2 (fun ψ => nd) Z02)
   (Z07 (Z21 cx Z1l (qi_e cx (Zgr cx (Z00 1) (Z20 (QE.tb (Z1z (QE.tb Z02)))))) (Z0l 3 (fun ψ => nd)) (Z09 (Z0n 2 (fun ψ => nd) (Z0g cx (QE.tb (Z1v (Z00 2) (Z00 0))) (Z00 3)) (hs := fun ψ => Z1k))))
   (Z1g (Z0p (Z0q 2)))))
abbrev s_q6 : Stmt := top 10
abbrev N_q6 : List Str := ["base", "digits"]
abbrev p_q6 : List Str := ["base", "digits"]
theorem Zpa : Z0m N_q6 p_q6 (Z05 s_q6) := ⟨rfl, rfl, rfl, by decide +kernel, rfl, by decide +kernel, by decide +kernel⟩
abbrev b_q6 : List Bool := [true, true]
def g_q6 : Sf := (sRet (eAnd (eOp uEq (eB uLen (Z01 (eVar 1) aNil)) (eVar 0)) (eOp uEq (eB Z2h (Z01 (Z2k (iOf (eVar 1)) 1 [0] (Z0i 0) Z14 (eOp uMod (eVar 0) (eVar 1))) aNil)) (eVar 0))))
def F_q6 : Ff := runU N_q6.length g_q6
theorem Zrf {f : Addr} {fd : FuncData} (F : Fun K "_law_is_full" "_law_is_full" s_q6 f fd) (B : Bl mg) (kt : Kt K) (T : Tx K mg)  : FnOk P w K mg base (CX1 P w) 1 f fd p_q6 (spU K mg wkT b_q6.length b_q6 F_q6) := by
 have nd := Zpa.nd
 refine F.okQ (N := N_q6) (ps := p_q6) (bs := b_q6) (wk := wkT) (m := ⟨[0, 1], []⟩) (g := g_q6) Zpa rfl rfl (by decide) fun cdv A outer s H E W hK hm hw hr hA => ?_
 subst hK; subst hm
 have cx := Z0t (W := W) (P := P) (w := w) (base := base) (N := N_q6) (outer := outer) (H := H) (E := E) rfl rfl hr
 exact (Z1g (Z0p (Zna (QE.tb (Zit cx (QE.tb (Z3s cx B (Z00 1))) (Z00 0))) (Zn9 (Zit cx (QE.tb (Z7g cx B (QF.tb (Z1o (bs := ["digit"]) ⟨[1], []⟩ cx (Z1n rfl (by rfl) rfl (by rfl) (by rfl) (.cons rfl .nil) (.cons (j := 0) rfl (by first | exact .inl rfl | exact .inr rfl) rfl (by first | exact .inl rfl | exact .inr rfl) .nil)) (qi_v 1 cx) (Z0l 0 (fun ψ => (show (["digit", "base"] : List Str).Nodup by decide +kernel))) Z1s (Z2l (Z00 0) (Z00 1)))))) (Z00 0))))))
abbrev s_q4 : Stmt := top 11
abbrev N_q4 : List Str := ["base", "digits", "number", "ahead", "waiting", "one", "digit"]
abbrev p_q4 : List Str := ["base", "digits", "number"]
theorem Zpb : Z0m N_q4 p_q4 (Z05 s_q4) := ⟨rfl, rfl, rfl, by decide +kernel, rfl, by decide +kernel, by decide +kernel⟩
abbrev b_q4 : List Bool := [true, true, false]
def Z4y : Sf := (sIf (Zbx (tfB (eOp uEq (eOp uMod (eOp uSub (eVar 5) (eVar 6)) (eVar 0)) (eC (.int 0)))) (tfB (eOp (uDIn true) (eOp uDiv (eOp uSub (eVar 5) (eVar 6)) (eVar 0)) (eVar 3)))) (sSeq (Z1x 3 (eOp uDiv (eOp uSub (eVar 5) (eVar 6)) (eVar 0)) (eOp uAdd (eOp Z1p (eVar 3) (eVar 5)) (eTup (Z01 (eVar 6) aNil))))
   (sApp 4 (eOp uDiv (eOp uSub (eVar 5) (eVar 6)) (eVar 0)))) Z0z)
def Zdt : Sf := (sSeq (Z42 5 4)
   (sSeq (sIf (tfB (eOp uEq (eVar 5) (eC (.int 0)))) (sRet (eOp Z1p (eVar 3) (eC (.int 0)))) Z0z)
   (sFor (iOf (eVar 1)) (Z0i 6) Z4y)))
def g_q4 : Sf := (sSeq (sSet 3 (eD1 (eVar 2) (eTup aNil)))
   (sSeq (sSet 4 (eLst (Z01 (eVar 2) aNil)))
   (sSeq (sWh (tfB (eOp uNe (eVar 4) (eLst aNil))) Zdt)
   (sRet (eTup (Z01 (eVar 2) aNil))))))
def F_q4 : Ff := runU N_q4.length g_q4
theorem Zrg {f : Addr} {fd : FuncData} (F : Fun K "_law_some_row" "_law_some_row" s_q4 f fd) (B : Bl mg) (kt : Kt K) (T : Tx K mg)  : FnOk P w K mg base (CX1 P w) 1 f fd p_q4 (spU K mg wkT b_q4.length b_q4 F_q4) := by
 have nd := Zpb.nd
 refine F.okQ (N := N_q4) (ps := p_q4) (bs := b_q4) (wk := wkT) (m := ⟨[0, 1], [3, 4]⟩) (g := g_q4) Zpb rfl rfl (by decide) fun cdv A outer s H E W hK hm hw hr hA => ?_
 subst hK; subst hm
 have cx := Z0t (W := W) (P := P) (w := w) (base := base) (N := N_q4) (outer := outer) (H := H) (E := E) rfl rfl hr
 exact (Z07 (Z33 3 (fun ψ => nd) (Zod (Z00 2) (Z1f Z04)))
   (Z07 (Z3u 4 (fun ψ => nd) (Z0y (qa_e (Z0q 2) Z04)) (hs := fun ψ => Z2w))
   (Z07 (Z5f Z1l (Z5e cx (Z00 4) (QF.tb (Z0y Z04))) (Z0a (Zd0 5 4 cx (fun ψ => nd))
   (Z0a (Z1a (Z30 cx (Z00 5) (QE.tb Z02)) (Z09 (Z0p (Z1i cx (Z00 3) (QE.tb Z02)))) Z0d)
   (Z09 (Z21 cx Z1l (qi_v 1 cx) (Z0l 6 (fun ψ => nd)) (Z09 (Z1a (QW.t (Zgq (Z30 cx (QE.tb (Z2l (QE.tb (Z13 (Z00 5) (Z00 6))) (Z00 0))) (QE.tb Z02)) (Zc5 (Zcu cx (QE.tb (Z4s (QE.tb (Z13 (Z00 5) (Z00 6))) (Z00 0))) (Z00 3))))) (Z0a (Z25 3 cx (Z0g cx (QE.tb (Z1i cx (Z00 3) (Z00 5))) (QE.tb (Z1f (qa_e (Z0q 6) Z04)))) (QE.tb (Z4s (QE.tb (Z13 (Z00 5) (Z00 6))) (Z00 0))))
   (Z09 (Z4t 4 cx (Z4s (QE.tb (Z13 (Z00 5) (Z00 6))) (Z00 0))))) Z0d)))))))
   (Z1g (Z0p (Z1f (qa_e (Z0q 2) Z04)))))))
abbrev s_q5 : Stmt := top 12
abbrev N_q5 : List Str := ["row"]
abbrev p_q5 : List Str := ["row"]
theorem Zpc : Z0m N_q5 p_q5 (Z05 s_q5) := ⟨rfl, rfl, rfl, by decide +kernel, rfl, by decide +kernel, by decide +kernel⟩
abbrev b_q5 : List Bool := [false]
def Z9i : Sf := (sSet 0 (eSl uSl (eVar 0) pNo (Z2f (eUn uNeg (eC (.int 1))))))
def g_q5 : Sf := (sSeq (sWh (tfB (eOp uEq (eSl uSl (eVar 0) (Z2f (eUn uNeg (eC (.int 1)))) pNo) (eTup (Z01 (eC (.int 0)) aNil)))) Z9i)
   (sRet (eVar 0)))
def F_q5 : Ff := runU N_q5.length g_q5
theorem Zrh {f : Addr} {fd : FuncData} (F : Fun K "_law_stripped" "_law_stripped" s_q5 f fd) (B : Bl mg) (kt : Kt K) (T : Tx K mg)  : FnOk P w K mg base (CX1 P w) 1 f fd p_q5 (spU K mg wkT b_q5.length b_q5 F_q5) := by
 have nd := Zpc.nd
 refine F.okQ (N := N_q5) (ps := p_q5) (bs := b_q5) (wk := wkT) (m := ⟨[], []⟩) (g := g_q5) Zpc rfl rfl (by decide) fun cdv A outer s H E W hK hm hw hr hA => ?_
 subst hK; subst hm
 have cx := Z0t (W := W) (P := P) (w := w) (base := base) (N := N_q5) (outer := outer) (H := H) (E := E) rfl rfl hr
 exact (Z07 (Z5f Z1l (Z30 cx (QE.tb (Za5 cx (Z00 0) (Z20 (QE.tb (Z1z (QE.tb Z02)))) Z31)) (QE.tb (Z1f (qa_e Z02 Z04)))) (Z09 (Z0n 0 (fun ψ => nd) (Za5 cx (Z00 0) Z31 (Z20 (QE.tb (Z1z (QE.tb Z02))))) (hs := fun ψ => Z4n))))
   (Z1g (Z0p (Z0q 0))))
abbrev s_q1 : Stmt := top 13
abbrev N_q1 : List Str := ["pile", "base", "digits", "paper", "most", "at", "far", "further", "other", "cut", "digit", "found", "rows", "row", "some"]
abbrev p_q1 : List Str := ["pile", "base", "digits", "paper"]
theorem Zpd : Z0m N_q1 p_q1 (Z05 s_q1) := ⟨rfl, rfl, rfl, by decide +kernel, rfl, by decide +kernel, by decide +kernel⟩
abbrev b_q1 : List Bool := [true, true, true, true]
def Z7l : Sf := (sSeq (sSet 14 (eB Z24 (Z01 (eVar 3) aNil)))
   (sSeq (Z1x 14 (eVar 5) (eVar 13))
   (sFz [14] (sApp 11 (eVar 14)))))
def g_q1 : Sf := (sSeq (sSet 4 (eB Z5g (Z01 (Z2k (iOf (eVar 2)) 1 [] (Z0i 0) Z14 (eB uAbs (Z01 (eVar 0) aNil))) aNil)))
   (sSeq (sSet 5 (eOp uSub (Z0h Z0v (Z01 (eVar 0) (Z01 (eOp uAdd (eOp uMul (eC (.int 2)) (eVar 4)) (eC (.int 1))) aNil))) (eVar 4)))
   (sSeq (sSet 6 (eOp uIx (eLst (Z01 (eOp uAdd (eOp uAdd (eVar 4) (eC (.int 1))) (Z0h Z0v (Z01 (eVar 0) (Z01 (eC (.int 3)) aNil)))) (Z01 (eOp uSub (eOp uSub (eOp uSub (eC (.int 0)) (eVar 4)) (eC (.int 1))) (Z0h Z0v (Z01 (eVar 0) (Z01 (eC (.int 3)) aNil)))) aNil))) (Z0h Z0v (Z01 (eVar 0) (Z01 (eC (.int 2)) aNil)))))
   (sSeq (sSet 7 (eB Z24 (Z01 (eVar 3) aNil)))
   (sSeq (Z1x 7 (eVar 6) (Z0h F_q5 (Z01 (Z0h F_q4 (Z01 (eVar 1) (Z01 (eVar 2) (Z01 (eVar 6) aNil)))) aNil)))
   (sSeq (sSet 8 (eB Z24 (Z01 (eVar 7) aNil)))
   (sSeq (Z40 8 (eVar 5))
   (sSeq (sSet 9 (Z0h Z0v (Z01 (eVar 0) (Z01 (eOp uAdd (eB uLen (Z01 (eOp Z1p (eVar 3) (eVar 5)) aNil)) (eC (.int 1))) aNil))))
   (sSeq (sSet 10 (eOp uIx (eVar 2) (Z0h Z0v (Z01 (eVar 0) (Z01 (eB uLen (Z01 (eVar 2) aNil)) aNil)))))
   (sSeq (sSet 11 (eLst (Z01 (eB uDOf (Z01 (Z2k (iOf (eRev (eB Z3a (Z01 (eVar 3) aNil)) (Z2f (eUn uNeg (eC (.int 1)))))) 1 [3] (Z0i 0) Z14 (eTup (Z01 (eVar 0) (Z01 (eOp Z1p (eVar 1) (eVar 0)) aNil)))) aNil)) (Z01 (eVar 7) (Z01 (eVar 8) aNil)))))
   (sSeq (sSet 12 (eLst (Z01 (eOp uAdd (eSl uSl (eOp Z1p (eVar 3) (eVar 5)) pNo (Z2f (eVar 9))) (eTup (Z01 (Z0h F_q7 (Z01 (eVar 1) (Z01 (eSl uSl (eOp Z1p (eVar 3) (eVar 5)) (Z2f (eVar 9)) pNo) aNil))) aNil))) (Z01 (eTup (Z01 (eOp uSub (eVar 5) (eOp uMul (eVar 1) (eVar 10))) (Z01 (eVar 10) aNil))) aNil))))
   (sSeq (sFor (iOf (eOp uAdd (eVar 12) (eLst (Z01 (eOp uAdd (eOp uRep (eTup (Z01 (eC (.int 0)) aNil)) (eC (.int 80))) (eTup (Z01 (eVar 10) (Z01 (eVar 10) aNil)))) aNil)))) (Z0i 13) Z7l)
   (sRet (eVar 11))))))))))))))
def F_q1 : Ff := runU N_q1.length g_q1
theorem Zri {f : Addr} {fd : FuncData} (F : Fun K "_law_more_papers" "_law_more_papers" s_q1 f fd) (B : Bl mg) (kt : Kt K) (T : Tx K mg) {a_q5 : Addr} {d_q5 : FuncData} (c_q5 : Fn P w K mg base (CX1 P w) 1 "_law_stripped" a_q5 d_q5 p_q5 (spU K mg wkT b_q5.length b_q5 F_q5)) {a_q12 : Addr} {d_q12 : FuncData} (c_q12 : Fn P w K mg base (CX1 P w) 1 "_law_next" a_q12 d_q12 Z7k (spU K mg PlW Z47.length Z47 Z0v)) {a_q4 : Addr} {d_q4 : FuncData} (c_q4 : Fn P w K mg base (CX1 P w) 1 "_law_some_row" a_q4 d_q4 p_q4 (spU K mg wkT b_q4.length b_q4 F_q4)) {a_q7 : Addr} {d_q7 : FuncData} (c_q7 : Fn P w K mg base (CX1 P w) 1 "_law_number" a_q7 d_q7 p_q7 (spU K mg wkT b_q7.length b_q7 F_q7)) : FnOk P w K mg base (CX1 P w) 2 f fd p_q1 (spU K mg PlW b_q1.length b_q1 F_q1) := by
 have nd := Zpd.nd
 refine F.okQ (N := N_q1) (ps := p_q1) (bs := b_q1) (wk := PlW) (m := ⟨[0, 1, 2, 3], [7, 8, 11, 14]⟩) (g := g_q1) Zpd rfl rfl (by decide) fun cdv A outer s H E W hK hm hw hr hA => ?_
 subst hK; subst hm
 have cx := Z0t (W := W) (P := P) (w := w) (base := base) (N := N_q1) (outer := outer) (H := H) (E := E) rfl rfl hr
 have hw_q5 : wkT W := trivial
 have hw_q12 : PlW W := hw
 have hw_q4 : wkT W := trivial
 have hw_q7 : wkT W := trivial
 exact (Z07 (Z0n 4 (fun ψ => nd) (Z5h cx B (QF.tb (Z1o (bs := ["digit"]) ⟨[], []⟩ cx (Z1n rfl (by rfl) rfl (by rfl) (by rfl) .nil .nil) (qi_v 2 cx) (Z0l 0 (fun ψ => (show (["digit"] : List Str).Nodup by decide +kernel))) Z1s (Z3t cx.blk B (Z00 0))))))
   (Z07 (Z0n 5 (fun ψ => nd) (Z13 (QE.tb (Z08 cx (fun ψ => c_q12) (fun ψ => hr.mono (by decide)) hw_q12 (qa_b (Z00 0) (qa_b (QE.tb (Z0g cx (QE.tb (Z1v (QE.tb Z02) (Z00 4))) (QE.tb Z02))) Z04)))) (Z00 4)) (hs := fun ψ => Z1k))
   (Z07 (Z0n 6 (fun ψ => nd) (Z4c cx (QF.tb (Z0y (qa_e (Z0g cx (QE.tb (Z0g cx (Z00 4) (QE.tb Z02))) (QE.tb (Z08 cx (fun ψ => c_q12) (fun ψ => hr.mono (by decide)) hw_q12 (qa_b (Z00 0) (qa_b (QE.tb Z02) Z04))))) (qa_e (Z13 (QE.tb (Z13 (QE.tb (Z13 (QE.tb Z02) (Z00 4))) (QE.tb Z02))) (QE.tb (Z08 cx (fun ψ => c_q12) (fun ψ => hr.mono (by decide)) hw_q12 (qa_b (Z00 0) (qa_b (QE.tb Z02) Z04))))) Z04)))) (QE.tb (Z08 cx (fun ψ => c_q12) (fun ψ => hr.mono (by decide)) hw_q12 (qa_b (Z00 0) (qa_b (QE.tb Z02) Z04))))) (hs := fun ψ => Z4n))
   (Z07 (Z33 7 (fun ψ => nd) (Z41 cx B (Z00 3)))
   (Z07 (Z25 7 cx (Z08 cx (fun ψ => c_q5) (fun ψ => hr.mono (by decide)) hw_q5 (qa_e (Z08 cx (fun ψ => c_q4) (fun ψ => hr.mono (by decide)) hw_q4 (qa_b (Z00 1) (qa_b (Z00 2) (qa_e (Z0q 6) Z04)))) Z04)) (Z00 6))
   (Z07 (Z33 8 (fun ψ => nd) (Z41 cx B (Z00 7)))
   (Z07 (Zcv 8 (Z00 5))
   (Z07 (Z0n 9 (fun ψ => nd) (Z08 cx (fun ψ => c_q12) (fun ψ => hr.mono (by decide)) hw_q12 (qa_b (Z00 0) (qa_b (QE.tb (Z0g cx (QE.tb (Z3s cx B (QE.tb (Z1i cx (Z00 3) (Z00 5))))) (QE.tb Z02))) Z04))))
   (Z07 (Z0n 10 (fun ψ => nd) (Z4c cx (Z00 2) (QE.tb (Z08 cx (fun ψ => c_q12) (fun ψ => hr.mono (by decide)) hw_q12 (qa_b (Z00 0) (qa_b (QE.tb (Z3s cx B (Z00 2))) Z04))))) (hs := fun ψ => Z4n))
   (Z6p [11, 14] (Z07 (Z3u 11 (fun ψ => nd) (Z0y (qa_e (QO.te (Zou cx B (QF.tb (Z1o (bs := ["number"]) ⟨[1], []⟩ cx (Z1n rfl (by rfl) rfl (by rfl) (by rfl) (.cons rfl .nil) (.cons (j := 3) rfl (by first | exact .inl rfl | exact .inr rfl) rfl (by first | exact .inl rfl | exact .inr rfl) .nil)) (qi_e cx (Zgr cx (QF.tb (Z9b cx B (Z00 3))) (Z20 (QE.tb (Z1z (QE.tb Z02)))))) (Z0l 0 (fun ψ => (show (["number", "paper"] : List Str).Nodup by decide +kernel))) Z1s (Z1f (qa_e (Z0q 0) (qa_e (Z1i cx.blk (Z00 1) (Z00 0)) Z04))))))) (qa_e (Z0q 7) (qa_e (Z0q 8) Z04)))) (hs := fun ψ => Z2w))
   (Z07 (Z0n 12 (fun ψ => nd) (QF.te (Z0y (qa_e (Z0g cx (QE.tb (Za5 cx (QE.tb (Z1i cx (Z00 3) (Z00 5))) Z31 (Z20 (Z00 9)))) (QE.tb (Z1f (qa_e (Z08 cx (fun ψ => c_q7) (fun ψ => hr.mono (by decide)) hw_q7 (qa_b (Z00 1) (qa_b (QE.tb (Za5 cx (QE.tb (Z1i cx (Z00 3) (Z00 5))) (Z20 (Z00 9)) Z31)) Z04))) Z04)))) (qa_e (Z1f (qa_e (Z13 (Z00 5) (QE.tb (Z1v (Z00 1) (Z00 10)))) (qa_e (Z0q 10) Z04))) Z04)))) (hs := fun ψ => Z2w))
   (Z07 (Z21 cx Z1l (qi_e cx (Z0g cx (Z00 12) (QF.tb (Z0y (qa_e (Z0g cx (QE.tb (Zn7 (QE.tb (Z1f (qa_e Z02 Z04))) (QE.tb Z02))) (QE.tb (Z1f (qa_e (Z0q 10) (qa_e (Z0q 10) Z04))))) Z04))))) (Z0l 13 (fun ψ => nd)) (Z0a (Z33 14 (fun ψ => nd) (Z41 cx B (Z00 3)))
   (Z0a (Z25 14 cx (Z0q 13) (Z00 5))
   (Zh3 [14] [11] (Z09 (Z4t 11 cx (Z0q 14)))))))
   (Z1g (Z0p (Z0q 11))))))))))))))))
abbrev s_q8 : Stmt := top 14
abbrev N_q8 : List Str := ["pile", "base", "digits", "most", "paper", "number", "found", "turn", "some", "at", "other"]
abbrev p_q8 : List Str := ["pile", "base", "digits"]
theorem Zpe : Z0m N_q8 p_q8 (Z05 s_q8) := ⟨rfl, rfl, rfl, by decide +kernel, rfl, by decide +kernel, by decide +kernel⟩
abbrev b_q8 : List Bool := [true, true, true]
def Z9j : Sf := (Z1x 4 (eVar 5) (Z0h F_q5 (Z01 (Z0h F_q4 (Z01 (eVar 1) (Z01 (eVar 2) (Z01 (eVar 5) aNil)))) aNil)))
def Z9k : Sf := (sSeq (sSet 8 (eB Z24 (Z01 (eVar 4) aNil)))
   (sSeq (sSet 9 (eOp uSub (Z0h Z0v (Z01 (eVar 0) (Z01 (eOp uAdd (eOp uMul (eC (.int 2)) (eVar 3)) (eC (.int 1))) aNil))) (eVar 3)))
   (sSeq (sSet 10 (eOp uSub (Z0h Z0v (Z01 (eVar 0) (Z01 (eOp uAdd (eOp uMul (eC (.int 2)) (eVar 3)) (eC (.int 1))) aNil))) (eVar 3)))
   (sSeq (sIf (tfB (eOp uEq (eVar 7) (eC (.int 0)))) (Z40 8 (eVar 9)) Z0z)
   (sSeq (sIf (tfB (eOp uEq (eVar 7) (eC (.int 1)))) (Z1x 8 (eOp uAdd (eOp uAdd (eVar 3) (eC (.int 1))) (Z0h Z0v (Z01 (eVar 0) (Z01 (eC (.int 3)) aNil)))) (eTup (Z01 (eC (.int 1)) aNil))) Z0z)
   (sSeq (sIf (tfB (eOp uEq (eVar 7) (eC (.int 2)))) (Z1x 8 (eVar 9) (eOp uAdd (eOp Z1p (eVar 8) (eVar 9)) (eTup (Z01 (eC (.int 0)) aNil)))) Z0z)
   (sSeq (sIf (tfB (eOp uEq (eVar 7) (eC (.int 3)))) (Z1x 8 (eVar 9) (eTup (Z01 (eOp uSub (eVar 9) (eOp uMul (eVar 1) (eOp uAdd (eVar 3) (eC (.int 1))))) (Z01 (eOp uAdd (eVar 3) (eC (.int 1))) aNil)))) Z0z)
   (sSeq (sIf (tfB (eOp uEq (eVar 7) (eC (.int 4)))) (Z1x 8 (eVar 9) (eOp Z1p (eVar 8) (eVar 10))) Z0z)
   (sSeq (sIf (tfB (eOp uEq (eVar 7) (eC (.int 5)))) (Zfg 8 (eVar 9) (eVar 10) (eTup (Z01 (eOp Z1p (eVar 8) (eVar 10)) (Z01 (eOp Z1p (eVar 8) (eVar 9)) aNil)))) Z0z)
   (sFz [8] (sApp 6 (eVar 8))))))))))))
def g_q8 : Sf := (sSeq (sSet 3 (eB Z5g (Z01 (Z2k (iOf (eVar 2)) 1 [] (Z0i 0) Z14 (eB uAbs (Z01 (eVar 0) aNil))) aNil)))
   (sSeq (sSet 4 Zcr)
   (sSeq (sFor (Z2j uR2 (Z01 (eOp uSub (eC (.int 0)) (eVar 3)) (Z01 (eOp uAdd (eVar 3) (eC (.int 1))) aNil))) (Z0i 5) Z9j)
   (sSeq (sSet 6 (eLst (Z01 (eVar 4) (Z01 Zcr aNil))))
   (sSeq (sFor (Z2j uR1 (Z01 (eC (.int 6)) aNil)) (Z0i 7) Z9k)
   (sRet (eOp uAdd (eVar 6) (Z0h F_q1 (Z01 (eVar 0) (Z01 (eVar 1) (Z01 (eVar 2) (Z01 (eVar 4) aNil))))))))))))
def F_q8 : Ff := runU N_q8.length g_q8
theorem Zrj {f : Addr} {fd : FuncData} (F : Fun K "_law_papers" "_law_papers" s_q8 f fd) (B : Bl mg) (kt : Kt K) (T : Tx K mg) {a_q5 : Addr} {d_q5 : FuncData} (c_q5 : Fn P w K mg base (CX1 P w) 1 "_law_stripped" a_q5 d_q5 p_q5 (spU K mg wkT b_q5.length b_q5 F_q5)) {a_q1 : Addr} {d_q1 : FuncData} (c_q1 : Fn P w K mg base (CX1 P w) 2 "_law_more_papers" a_q1 d_q1 p_q1 (spU K mg PlW b_q1.length b_q1 F_q1)) {a_q4 : Addr} {d_q4 : FuncData} (c_q4 : Fn P w K mg base (CX1 P w) 1 "_law_some_row" a_q4 d_q4 p_q4 (spU K mg wkT b_q4.length b_q4 F_q4)) {a_q12 : Addr} {d_q12 : FuncData} (c_q12 : Fn P w K mg base (CX1 P w) 1 "_law_next" a_q12 d_q12 Z7k (spU K mg PlW Z47.length Z47 Z0v)) : FnOk P w K mg base (CX1 P w) 3 f fd p_q8 (spU K mg PlW b_q8.length b_q8 F_q8) := by
 have nd := Zpe.nd
 refine F.okQ (N := N_q8) (ps := p_q8) (bs := b_q8) (wk := PlW) (m := ⟨[0, 1, 2], [4, 6, 8]⟩) (g := g_q8) Zpe rfl rfl (by decide) fun cdv A outer s H E W hK hm hw hr hA => ?_
 subst hK; subst hm
 have cx := Z0t (W := W) (P := P) (w := w) (base := base) (N := N_q8) (outer := outer) (H := H) (E := E) rfl rfl hr
 have hw_q5 : wkT W := trivial
 have hw_q1 : PlW W := hw
 have hw_q4 : wkT W := trivial
 have hw_q12 : PlW W := hw
 exact (Z07 (Z0n 3 (fun ψ => nd) (Z5h cx B (QF.tb (Z1o (bs := ["digit"]) ⟨[], []⟩ cx (Z1n rfl (by rfl) rfl (by rfl) (by rfl) .nil .nil) (qi_v 2 cx) (Z0l 0 (fun ψ => (show (["digit"] : List Str).Nodup by decide +kernel))) Z1s (Z3t cx.blk B (Z00 0))))))
   (Z07 (Z33 4 (fun ψ => nd) Zh2)
   (Z07 (Z21 cx Z1l (Ziy cx B (qa_b (QE.tb (Z13 (QE.tb Z02) (Z00 3))) (qa_b (QE.tb (Z0g cx (Z00 3) (QE.tb Z02))) Z04))) (Z0l 5 (fun ψ => nd)) (Z09 (Z25 4 cx (Z08 cx (fun ψ => c_q5) (fun ψ => hr.mono (by decide)) hw_q5 (qa_e (Z08 cx (fun ψ => c_q4) (fun ψ => hr.mono (by decide)) hw_q4 (qa_b (Z00 1) (qa_b (Z00 2) (qa_e (Z0q 5) Z04)))) Z04)) (Z00 5))))
   (Z6p [6, 8] (Z07 (Z3u 6 (fun ψ => nd) (Z0y (qa_e (Z0q 4) (qa_e (QO.te Zh2) Z04))) (hs := fun ψ => Z2w))
   (Z07 (Z21 cx Z1l (Zix cx B (qa_b (QE.tb Z02) Z04)) (Z0l 7 (fun ψ => nd)) (Z0a (Z33 8 (fun ψ => nd) (Z41 cx B (Z00 4)))
   (Z0a (Z0n 9 (fun ψ => nd) (Z13 (QE.tb (Z08 cx (fun ψ => c_q12) (fun ψ => hr.mono (by decide)) hw_q12 (qa_b (Z00 0) (qa_b (QE.tb (Z0g cx (QE.tb (Z1v (QE.tb Z02) (Z00 3))) (QE.tb Z02))) Z04)))) (Z00 3)) (hs := fun ψ => Z1k))
   (Z0a (Z0n 10 (fun ψ => nd) (Z13 (QE.tb (Z08 cx (fun ψ => c_q12) (fun ψ => hr.mono (by decide)) hw_q12 (qa_b (Z00 0) (qa_b (QE.tb (Z0g cx (QE.tb (Z1v (QE.tb Z02) (Z00 3))) (QE.tb Z02))) Z04)))) (Z00 3)) (hs := fun ψ => Z1k))
   (Z0a (Z1a (Z30 cx (Z00 7) (QE.tb Z02)) (Z09 (Zcv 8 (Z00 9))) Z0d)
   (Z0a (Z1a (Z30 cx (Z00 7) (QE.tb Z02)) (Z09 (Z25 8 cx (Z1f (qa_e Z02 Z04)) (QE.tb (Z0g cx (QE.tb (Z0g cx (Z00 3) (QE.tb Z02))) (QE.tb (Z08 cx (fun ψ => c_q12) (fun ψ => hr.mono (by decide)) hw_q12 (qa_b (Z00 0) (qa_b (QE.tb Z02) Z04)))))))) Z0d)
   (Z0a (Z1a (Z30 cx (Z00 7) (QE.tb Z02)) (Z09 (Z25 8 cx (Z0g cx (QE.tb (Z1i cx (Z00 8) (Z00 9))) (QE.tb (Z1f (qa_e Z02 Z04)))) (Z00 9))) Z0d)
   (Z0a (Z1a (Z30 cx (Z00 7) (QE.tb Z02)) (Z09 (Z25 8 cx (Z1f (qa_e (Z13 (Z00 9) (QE.tb (Z1v (Z00 1) (QE.tb (Z0g cx (Z00 3) (QE.tb Z02)))))) (qa_e (Z0g cx (Z00 3) (QE.tb Z02)) Z04))) (Z00 9))) Z0d)
   (Z0a (Z1a (Z30 cx (Z00 7) (QE.tb Z02)) (Z09 (Z25 8 cx (Z1i cx (Z00 8) (Z00 10)) (Z00 9))) Z0d)
   (Z0a (Z1a (Z30 cx (Z00 7) (QE.tb Z02)) (Z09 (Zjw 8 cx (Z1f (qa_e (Z1i cx (Z00 8) (Z00 10)) (qa_e (Z1i cx (Z00 8) (Z00 9)) Z04))) (Z00 9) (Z00 10))) Z0d)
   (Zh3 [8] [6] (Z09 (Z4t 6 cx (Z0q 8))))))))))))))
   (Z1g (Z0p (Z0g cx (Z00 6) (QE.tb (Z08 cx (fun ψ => c_q1) (fun ψ => hr.mono (by decide)) hw_q1 (qa_b (Z00 0) (qa_b (Z00 1) (qa_b (Z00 2) (qa_b (Z00 4) Z04)))))))))))))))
abbrev s_q2 : Stmt := top 15
abbrev N_q2 : List Str := ["base", "digits", "paper", "most", "number", "row"]
abbrev p_q2 : List Str := ["base", "digits", "paper"]
theorem Zpf : Z0m N_q2 p_q2 (Z05 s_q2) := ⟨rfl, rfl, rfl, by decide +kernel, rfl, by decide +kernel, by decide +kernel⟩
abbrev b_q2 : List Bool := [true, true, true]
def Z7m : Sf := (sSeq (sSet 5 (eOp Z1p (eVar 2) (eVar 4)))
   (sSeq (sIf (tfOr (tfB (eOp uNe (Z2k (iOf (eVar 5)) 1 [1] (Z0i 0) (tfB (eOp (uIn true) (eVar 0) (eVar 1))) (eVar 0)) (eLst aNil))) (tfB (eOp uEq (eSl uSl (eVar 5) (Z2f (eUn uNeg (eC (.int 1)))) pNo) (eTup (Z01 (eC (.int 0)) aNil))))) (sRet (eC (.bl false))) Z0z)
   (sIf (tfB (eOp uNe (Z0h F_q7 (Z01 (eVar 0) (Z01 (eVar 5) aNil))) (eVar 4))) (sRet (eC (.bl false))) Z0z)))
def g_q2 : Sf := (sSeq (sSet 3 (eB Z5g (Z01 (Z2k (iOf (eVar 1)) 1 [] (Z0i 0) Z14 (eB uAbs (Z01 (eVar 0) aNil))) aNil)))
   (sSeq (sIf (tfOr (Zby (tfB (Z0h F_q6 (Z01 (eVar 0) (Z01 (eVar 1) aNil))))) (tfB (eOp uNe (eB Z3a (Z01 (eVar 2) aNil)) (eB Z4f (Z01 (eOp uSub (eC (.int 0)) (eVar 3)) (Z01 (eOp uAdd (eVar 3) (eC (.int 1))) aNil)))))) (sRet (eC (.bl false))) Z0z)
   (sSeq (sFor (Zac (eVar 2)) (Z0i 4) Z7m)
   (sRet (eC (.bl true))))))
def F_q2 : Ff := runU N_q2.length g_q2
theorem Zrk {f : Addr} {fd : FuncData} (F : Fun K "_law_is_right" "_law_is_right" s_q2 f fd) (B : Bl mg) (kt : Kt K) (T : Tx K mg) {a_q6 : Addr} {d_q6 : FuncData} (c_q6 : Fn P w K mg base (CX1 P w) 1 "_law_is_full" a_q6 d_q6 p_q6 (spU K mg wkT b_q6.length b_q6 F_q6)) {a_q7 : Addr} {d_q7 : FuncData} (c_q7 : Fn P w K mg base (CX1 P w) 1 "_law_number" a_q7 d_q7 p_q7 (spU K mg wkT b_q7.length b_q7 F_q7)) : FnOk P w K mg base (CX1 P w) 2 f fd p_q2 (spU K mg wkT b_q2.length b_q2 F_q2) := by
 have nd := Zpf.nd
 refine F.okQ (N := N_q2) (ps := p_q2) (bs := b_q2) (wk := wkT) (m := ⟨[0, 1, 2], []⟩) (g := g_q2) Zpf rfl rfl (by decide) fun cdv A outer s H E W hK hm hw hr hA => ?_
 subst hK; subst hm
 have cx := Z0t (W := W) (P := P) (w := w) (base := base) (N := N_q2) (outer := outer) (H := H) (E := E) rfl rfl hr
 have hw_q6 : wkT W := trivial
 have hw_q7 : wkT W := trivial
 exact (Z07 (Z0n 3 (fun ψ => nd) (Z5h cx B (QF.tb (Z1o (bs := ["digit"]) ⟨[], []⟩ cx (Z1n rfl (by rfl) rfl (by rfl) (by rfl) .nil .nil) (qi_v 1 cx) (Z0l 0 (fun ψ => (show (["digit"] : List Str).Nodup by decide +kernel))) Z1s (Z3t cx.blk B (Z00 0))))))
   (Z07 (Z1a (QW.t (Za4 (Zgp (Zc4 (QE.tb (Z08 cx (fun ψ => c_q6) (fun ψ => hr.mono (by decide)) hw_q6 (qa_b (Z00 0) (qa_b (Z00 1) Z04)))))) (Z6o (Z5e cx (QF.tb (Z9b cx B (Z00 2))) (QF.tb (Z6w cx B (qa_b (QE.tb (Z13 (QE.tb Z02) (Z00 3))) (qa_b (QE.tb (Z0g cx (Z00 3) (QE.tb Z02))) Z04)))))))) (Z09 (Z0p Z4b)) Z0d)
   (Z07 (Z21 cx Z1l (Zjn 2) (Z0l 4 (fun ψ => nd)) (Z0a (Z0n 5 (fun ψ => nd) (Z1i cx (Z00 2) (Z00 4)) (hs := fun ψ => Z4n))
   (Z0a (Z1a (QW.t (Za4 (Z5e cx (QF.tb (Z1o (bs := ["digit"]) ⟨[1], []⟩ cx (Z1n rfl (by rfl) rfl (by rfl) (by rfl) (.cons rfl .nil) (.cons (j := 1) rfl (by first | exact .inl rfl | exact .inr rfl) rfl (by first | exact .inl rfl | exact .inr rfl) .nil)) (qi_v 5 cx) (Z0l 0 (fun ψ => (show (["digit", "digits"] : List Str).Nodup by decide +kernel))) (Zj0 (Z5k cx.blk (Z00 0) (Z00 1))) (Z0q 0))) (QF.tb (Z0y Z04))) (Z6o (Z30 cx (QE.tb (Za5 cx (Z00 5) (Z20 (QE.tb (Z1z (QE.tb Z02)))) Z31)) (QE.tb (Z1f (qa_e Z02 Z04))))))) (Z09 (Z0p Z4b)) Z0d)
   (Z09 (Z1a (Z5e cx (QE.tb (Z08 cx (fun ψ => c_q7) (fun ψ => hr.mono (by decide)) hw_q7 (qa_b (Z00 0) (qa_b (Z00 5) Z04)))) (Z00 4)) (Z09 (Z0p Z4b)) Z0d)))))
   (Z1g (Z0p Z4b)))))
abbrev Z5w : Stmt := top 16
abbrev Z8f : List Str := ["script", "pile", "turn", "paper", "base", "digits", "kept", "found"]
abbrev Zpg : List Str := ["script"]
theorem Zhi : Z0m Z8f Zpg (Z05 Z5w) := ⟨rfl, rfl, rfl, by decide +kernel, rfl, by decide +kernel, by decide +kernel⟩
def Z5x : Sf := (sSeq (sSet 6 (eB Z24 (Z01 (eVar 3) aNil)))
   (sSeq (sSet 7 (Z0h Zdq (Z01 (eVar 4) (Z01 (eVar 5) (Z01 (eVar 3) aNil)))))
   (sIf (tfOr (Zby (tfB (eB uIsT (Z01 (eVar 7) (Z01 (eC (.ty "bool")) aNil))))) (tfOr (tfB (eOp uNe (eVar 7) (Z0h F_q2 (Z01 (eVar 4) (Z01 (eVar 5) (Z01 (eVar 3) aNil)))))) (tfB (eOp (uEqD true) (eVar 3) (eVar 6))))) (sRet (eC (.bl false))) Z0z)))
def Z5y : Sf := (sSeq (sAsg (aLst 2 (Z4q (Z0i 4) (Z4q (Z0i 5) Zc0))) (Z0h F_q0 (Z01 (eVar 1) aNil)))
   (sFor (iOf (Z0h F_q8 (Z01 (eVar 1) (Z01 (eVar 4) (Z01 (eVar 5) aNil))))) (Z0i 3) Z5x))
def Zg3 : Sf := (sSeq (sFor (Z2j uR1 (Z01 (eC (.int 3)) aNil)) (Z0i 2) Z5y)
   (sRet (eC (.bl true))))
abbrev Z48 : List Int := [0, 0, 40213, 0]
theorem Zph {f : Addr} {fd : FuncData} (F : Fun K "law" "law" Z5w f fd) (B : Bl mg) (kt : Kt K) (T : Tx K mg) {a_q13 : Addr} {d_q13 : FuncData} (c_q13 : Fn P w K mg base (CX1 P w) 1 "_law_pile" a_q13 d_q13 Zdr (spU K mg wkT Zds.length Zds Zan)) {a_q0 : Addr} {d_q0 : FuncData} (c_q0 : Fn P w K mg base (CX1 P w) 3 "_law_base_and_digits" a_q0 d_q0 p_q0 (spU K mg PlW b_q0.length b_q0 F_q0)) {a_q8 : Addr} {d_q8 : FuncData} (c_q8 : Fn P w K mg base (CX1 P w) 3 "_law_papers" a_q8 d_q8 p_q8 (spU K mg PlW b_q8.length b_q8 F_q8)) {a_q10 : Addr} {d_q10 : FuncData} (c_q10 : Fn P w K mg base (CX1 P w) 2 "paper_shown" a_q10 d_q10 Zdo (spU K mg wkT Zdp.length Zdp Zdq)) {a_q2 : Addr} {d_q2 : FuncData} (c_q2 : Fn P w K mg base (CX1 P w) 2 "_law_is_right" a_q2 d_q2 p_q2 (spU K mg wkT b_q2.length b_q2 F_q2)) (hFp : ∀ ns ω, Zan [.scr ns] ω = .ok (.lst (.scr ns :: Z48.map U.int)) ω) (hlaw : ∀ ns : List Int, ns.length <= 63 -> ∃ ω', endF (Zg3 (none :: some .pile :: List.replicate (Z8f.length - 2) none) ⟨ns, Z48⟩) = .ok (.bl true) ω') : FnOk P w K mg base (CX1 P w) 4 f fd Zpg (Za7 K) := by
 have nd := Zhi.nd
 refine F.okP (N := Z8f) (m := ⟨[], []⟩) (g := Zg3) (Fp := Zan) (cells := Z48) Zhi rfl (by decide) (by decide) (fun cdv A outer s H E hr hA => ?_) (fun cdv A outer s H E W hK hm hw hr hA => ?_) hFp hlaw
 ·have cx := Z0t (W := wd0 K mg) (P := P) (w := w) (base := base) (N := Z8f) (outer := outer) (H := H) (E := E) rfl rfl hr
  have hw_q13 : wkT (wd0 K mg) := trivial
  exact (Z0n 1 (fun ψ => nd) (Z08 cx (fun ψ => c_q13) (fun ψ => hr.mono (by decide)) hw_q13 (qa_e (Z0q 0) Z04)))
 ·subst hK; subst hm
  have cx := Z0t (W := W) (P := P) (w := w) (base := base) (N := Z8f) (outer := outer) (H := H) (E := E) rfl rfl hr
  have hw_q13 : wkT W := trivial
  have hw_q0 : PlW W := hw
  have hw_q8 : PlW W := hw
  have hw_q10 : wkT W := trivial
  have hw_q2 : wkT W := trivial
  exact (Z07 (Z21 cx Z1l (Zix cx B (qa_b (QE.tb Z02) Z04)) (Z0l 2 (fun ψ => nd)) (Z0a (Znd (Z08 cx (fun ψ => c_q0) (fun ψ => hr.mono (by decide)) hw_q0 (qa_b (Z00 1) Z04)) (Znv (n := 2) cx (Z8u (Z0l 4 (fun ψ => nd)) (Z8u (Z0l 5 (fun ψ => nd)) Ziz))))
   (Z09 (Z21 cx Z1l (qi_e cx (Z08 cx (fun ψ => c_q8) (fun ψ => hr.mono (by decide)) hw_q8 (qa_b (Z00 1) (qa_b (Z00 4) (qa_b (Z00 5) Z04))))) (Z0l 3 (fun ψ => nd)) (Z0a (Z0n 6 (fun ψ => nd) (QO.te (Z41 cx B (Z00 3))))
   (Z0a (Z0n 7 (fun ψ => nd) (Z08 cx (fun ψ => c_q10) (fun ψ => hr.mono (by decide)) hw_q10 (qa_b (Z00 4) (qa_b (Z00 5) (qa_b (Z00 3) Z04)))))
   (Z09 (Z1a (QW.t (Za4 (Zgp (Zc4 (QE.tb (Znl cx B kt (qa_b (Z00 7) (qa_b (QE.tb (Zqn (n := "bool") (fun y => (congrFun (cx.hm y) _).trans B.bool) boot_bool)) Z04)))))) (Za4 (Z5e cx (Z00 7) (QE.tb (Z08 cx (fun ψ => c_q2) (fun ψ => hr.mono (by decide)) hw_q2 (qa_b (Z00 4) (qa_b (Z00 5) (qa_b (Z00 3) Z04)))))) (Z6o (Zog cx (Z00 3) (Z00 6)))))) (Z09 (Z0p Z4b)) Z0d))))))))
   (Z1g (Z0p Z4b)))
end
end EvBlock
section EvBlock
local macro_rules | `(tactic| walk_at "ev") => do
  let js1 <- ("List.length_cons List.length_nil List.length_append List.length_map List.length_replicate List.length_reverse List.length_take List.length_drop rngU_len List.length_range".splitOn " ").toArray.mapM fun s => `(Lean.Parser.Tactic.simpLemma| $(Lean.mkIdent s.toName):term)
  let ls <- ("sFz_ap dropFl_nx dropFl_rt dropFl_err dropE_nil dropE_cons sDPutU_ap dputA_ok asDO_I sDPopU_ap dpopA_ok uDGet_I uDIn_t uDIn_f uDLen_I eDGet1_ap asD_I uGt1_i uDCopy_I eDNew_ap eD1_ap uD1_i iDicU_ap sPopAt_ap sSetPop_ap sPut2_ap two_t sPutN_ap putU_d uReversed_t uReversed_l isNon_d aLst_ap sSeq_then thenF_nx thenF_rt thenF_err runU_end endF_rt endF_nx endF_err sNext_ap sIf_ap sSet_ap sRet_ap sAug_ap sApp_ap sPut_ap sAsg_ap sFor_ap stepU_ap aName_ap aNilT_ap aConsT_ap eVar_ap eC_ap eOp_ap eUn_ap eAnd_ap eTup_ap eLst_ap eB_ap eCall_ap eSl_ap eRev_ap eComp_ap cstU_ap tfB_ap tfAnd_ap tfOr_ap tfNot_ap tfTrue_ap aNil_ap aCons_ap pNo_ap pSome_ap iOf_ap iArgs_ap asB_r asI_r asSeq_l asSeq_t asOk_ok Res.bnd_ok Res.bnd_err Res.bnd_stk Res.of_some Res.of_none Fl.of_ok Fl.of_err Fl.of_stk List.getElem?_cons_zero List.getElem?_cons_succ List.set_cons_zero List.set_cons_succ List.map_cons List.map_nil List.length_cons List.length_nil List.length_map List.cons_append List.nil_append List.replicate Nat.zero_add uIx_l uIx_t uAdd_i uSub_r uNeg_r uLt_r uGt_r uGe_r uIs_r isNon_n isNon_i isNon_b isNon_t isNon_l isNon_s isNon_x uLen_l uLen_t uLen_s uTuple_l uTuple_t uList_l uList_t uList_s uAbs_r uInt_i uInt_b uIsT_ii uIsT_ib uIsT_bb uIsT_bi uIsT_tt uIsT_ll uEq_ii uNe_ii uDiv_s uMod_s uMul_r uMul_l uPow_s mkT_s mkL_s uAdd_l uAdd_t ite_lt ite_le uR1_s uR2_s ePl_ap ePlLen_ap ePlAt_ap sPl_ap uRngL_1 uRngL_2 uRngT_1 uRngT_2 uRep_t1 uRep_l1 atI_i2 atI_i3 atI_i4 atI_i5 atI_i6 atI_i7 atI_i8 atI_i10 uSl_l uSl_t uSlL_l atI_zero atI_one atI_end blkU_r Option.getD_some Option.getD_none Option.bind_some Option.bind_none Option.map_some decide_true decide_false Bool.not_true Bool.not_false if_true if_false Bool.false_eq_true Bool.true_eq_false decide_eq_true_eq Bool.not_eq_true' decide_eq_false_iff_not ne_eq not_true_eq_false not_false_eq_true Nat.reduceSub Nat.reduceAdd Nat.reduceLT Int.reduceEq Int.reduceLT Int.reduceLE Int.reduceAdd Int.reduceSub Int.reduceMul Int.reduceDiv Int.reduceMod reduceIte Int.reduceToNat Int.reducePow Int.reduceNeg".splitOn " ").toArray.mapM fun s => `(Lean.Parser.Tactic.simpLemma| $(Lean.mkIdent s.toName):term)
  `(tactic| try simp (disch := first | decide | lia | omega | (simp only [$js1,*]; first | lia | omega)) only [$ls,*])
theorem Zrl {us : List U} {n : Nat} (hn : 0 < n) : cutG us (some (-(n : Int))) none = us.drop (us.length - n) := by
 unfold cutG
 simp only [HT.sIx]
 rw [if_pos (by lia)]
 rw [List.take_of_length_le (by simp)]
 congr 1
 lia
theorem Zrm {us : List U} {n : Nat} (hn : 0 < n) : cutG us none (some (-(n : Int))) = us.take (us.length - n) := by
 unfold cutG
 simp only [HT.sIx]
 rw [if_pos (by lia)]
 simp only [List.drop_zero, Nat.sub_zero]
 congr 1
 lia
theorem Zkd {r : List Int} : cutG (r.map U.int) (some (-1)) none = (r.drop (r.length - 1)).map U.int := by
 rw [show (-1 : Int) = -((1 : Nat) : Int) from rfl, Zrl (by decide), List.length_map, List.map_drop]
theorem Z3i (ds : List Int) (ω : Om) : cmpU (cstU (Z0i 0) Z14 (eB uAbs (Z01 (eVar 0) aNil)) [none]) (ds.map U.int) ω = .ok ((ds.map iab).map U.int) ω := by
 refine (Z1h (f := fun d => some (U.int (iab d))) fun x hx => ?_).trans (by rw [List.map_map, <- List.filterMap_eq_map]; rfl)
 walk_at "ev"
 rfl
theorem Z5z {ds : List Int} (h : ds ≠ []) : Z5g [.lst ((ds.map iab).map U.int)] = some (.int (far ds)) := by
 cases ds with
 | nil => exact absurd rfl h
 | cons d ds => unfold Z5g Z22; simp only; rw [Z15]; rfl
theorem Zrn {ds : List Int} (h : ds ≠ []) (hl : ds.length <= 1000) (ω : Om) : F_q9 [.tup (ds.map U.int)] ω = .ok (.int (far ds)) ω := by
 unfold F_q9 g_q9
 walk_at "ev"
 rw [Z3i]
 walk_at "ev"
 rw [Z5z h]
 walk_at "ev"
theorem Z4z {b : Int} (b0 : 0 < b) (b1 : b < 1000) (B : Option U) (ω : Om) : ∀ (xs : List Int) (a : Int) (y : Option U), ∃ y', forU (Z1r (Z0i 3) Z9h) (xs.map U.int) [some (.int b), B, some (.int a), y] ω = .nx [some (.int b), B, some (.int (xs.foldl (fun a d => a * b + d) a)), y'] ω
 | [], a, y => ⟨y, rfl⟩
 | x :: xs, a, y => by
  obtain ⟨y', e⟩ := Z4z b0 b1 B ω xs (a * b + x) (some (.int x))
  refine ⟨y', ?_⟩
  rw [List.map_cons, forU, Z9h]
  walk_at "ev"
  rw [<- Z9h]
  exact e
theorem Z9l (b : Int) (r : List Int) : r.reverse.foldl (fun a d => a * b + d) 0 = wth b r := by rw [List.foldl_reverse]; rfl
theorem Zdu {b : Int} (b0 : 0 < b) (b1 : b < 1000) {r : List Int} (ω : Om) : F_q7 [.int b, .tup (r.map U.int)] ω = .ok (.int (wth b r)) ω := by
 unfold F_q7 g_q7
 walk_at "ev"
 rw [show uRev (.tup (r.map U.int)) (some (-1)) = some (.tup (r.reverse.map U.int)) by rw [List.map_reverse]; rfl]
 walk_at "ev"
 obtain ⟨y', e⟩ := Z4z b0 b1 (some (.tup (r.map U.int))) ω r.reverse 0 none
 rw [e]
 walk_at "ev"
 rw [Z9l]
theorem Zdv {b : Int} (b0 : 0 < b) (b1 : b < 1000) (B C D : Option U) (ω : Om) : ∀ (xs : List Int) (a : Int) (y : Option U), ∃ y', forU (Z1r (Z0i 5) Z5v) (xs.map U.int) [some (.int b), B, C, D, some (.int a), y] ω = .nx [some (.int b), B, C, D, some (.int (xs.foldl (fun a d => a * b + d) a)), y'] ω
 | [], a, y => ⟨y, rfl⟩
 | x :: xs, a, y => by
  obtain ⟨y', e⟩ := Zdv b0 b1 B C D ω xs (a * b + x) (some (.int x))
  refine ⟨y', ?_⟩
  rw [List.map_cons, forU, Z5v]
  walk_at "ev"
  rw [<- Z5v]
  exact e
theorem Zg4 {ds : List Int} (r : List Int) (ω : Om) : cmpU (cstU (Z0i 0) Z14 (eOp (uIn true) (eVar 0) (eVar 1)) [none, some (.tup (ds.map U.int))]) (r.map U.int) ω = .ok ((r.map fun d => !decide (d ∈ ds)).map U.bl) ω := by
 refine (Z1h (f := fun d => some (U.bl (!decide (d ∈ ds)))) fun x hx => ?_).trans (by rw [List.map_map, <- List.filterMap_eq_map]; rfl)
 walk_at "ev"
 rw [Znq]
 walk_at "ev"
theorem Zpi {bs : List Bool} : uAny [.lst (bs.map U.bl)] = some (.bl (bs.any id)) := by unfold uAny; simp only; rw [Z3q]; rfl
theorem Zpj {bs : List Bool} : uAll [.lst (bs.map U.bl)] = some (.bl (bs.all id)) := by unfold uAll Z6r; simp only; rw [Z3q]; rfl
theorem Zke (ds r : List Int) : (r.map fun d => !decide (d ∈ ds)).any id = !r.all fun d => decide (d ∈ ds) := by
 induction r with
 | nil => rfl
 | cons x r ih => rw [List.map_cons, List.any_cons, ih, List.all_cons, Bool.not_and]; rfl
theorem F_wr {b n : Int} (b0 : 0 < b) (b1 : b < 1000) {ds r : List Int} (hr : r.length <= 1000) (ω : Om) : Z7j [.int b, .tup (ds.map U.int), .tup (r.map U.int), .int n] ω = .ok (.bl (wrt b ds n r)) ω := by
 unfold Z7j Zfz
 unfold wrt
 walk_at "ev"
 rw [Zkd, show U.tup [U.int 0] = U.tup (([0] : List Int).map U.int) from rfl, Zcc]
 walk_at "ev"
 by_cases c1 : r.drop (r.length - 1) = [0]
 ·rw [if_pos c1]
  walk_at "ev"
  rw [decide_eq_true c1]
  rfl
 ·rw [if_neg c1]
  walk_at "ev"
  rw [Zg4]
  walk_at "ev"
  rw [Zpi, Zke]
  walk_at "ev"
  cases c2 : r.all fun d => decide (d ∈ ds) with
  | false =>
   walk_at "ev"
   rw [decide_eq_false c1]
   rfl
  | true =>
   walk_at "ev"
   obtain ⟨y', e⟩ := Zdv b0 b1 (some (.tup (ds.map U.int))) (some (.tup (r.map U.int))) (some (.int n)) ω r.reverse 0 none
   rw [<- List.map_reverse, e]
   walk_at "ev"
   rw [Z9l, decide_eq_false c1]
   rfl
theorem Zro {b n : Int} {ds : List Int} (ω : Om) : Z7j [.int b, .tup (ds.map U.int), .non, .int n] ω = .ok (.bl false) ω := by
 unfold Z7j Zfz
 walk_at "ev"
theorem Zdw {b : Int} (b0 : 0 < b) (ds : List Int) (ω : Om) : cmpU (cstU (Z0i 0) Z14 (eOp uMod (eVar 0) (eVar 1)) [none, some (.int b)]) (ds.map U.int) ω = .ok ((ds.map fun d => d % b).map U.int) ω := by
 refine (Z1h (f := fun d => some (U.int (d % b))) fun x hx => ?_).trans (by rw [List.map_map, <- List.filterMap_eq_map]; rfl)
 walk_at "ev"
theorem Z8g {m : Int} {n : Nat} (hn : n = (2 * m + 1).toNat) : rngU (-m) n = (rgz m).map U.int := by
 subst hn
 unfold rngU rgz
 rw [List.map_map]; rfl
def hasW (b : Int) (ds : List Int) (ps : Ps) (n : Int) : Bool := match asc ps n with
 | some u => wrt b ds n (rwU u)
 | none => false
theorem Zg5 {b m : Int} {N : Nat} (b0 : 0 < b) (b1 : b < 1000) {ds : List Int} {ps : Ps} (hp : Pap m N ps) (hN : N <= 1000) (xs : List Int) (ω : Om) : cmpU (cstU (Z0i 0) Z14 (Z0h Z7j (Z01 (eVar 1) (Z01 (eVar 2) (Z01 (Z72 (eVar 3) (eVar 0)) (Z01 (eVar 0) aNil))))) [none, some (.int b), some (.tup (ds.map U.int)), some (dicI ps)]) (xs.map U.int) ω = .ok ((xs.map (hasW b ds ps)).map U.bl) ω := by
 refine (Z1h (f := fun n => some (U.bl (hasW b ds ps n))) fun x hx => ?_).trans (by rw [List.map_map, <- List.filterMap_eq_map]; rfl)
 walk_at "ev"
 unfold hasW
 by_cases c : x ∈ ps.map (·.1)
 ·obtain ⟨r, e, l⟩ := hp.get c
  rw [e]
  walk_at "ev"
  rw [F_wr b0 b1 (by lia), Zp0]
  walk_at "ev"
 ·rw [Z96.mpr c]
  walk_at "ev"
  rw [Zro]
  walk_at "ev"
theorem Zkf {b m : Int} {N : Nat} (b0 : 0 < b) (b1 : b < 1000) {ds : List Int} {ps : Ps} (hp : Pap m N ps) (hN : N <= 1000) (hd : ds ≠ []) (hl : ds.length <= 1000) (hf : far ds <= 1000) (ω : Om) : Zdq [.int b, .tup (ds.map U.int), dicI ps] ω = .ok (.bl (shw b ds ps)) ω := by
 unfold Zdq Zka
 have f0 := Z2r ds
 walk_at "ev"
 unfold shw gdd
 by_cases c1 : (ds.length : Int) = b
 ·rw [if_neg (by simpa using c1)]
  walk_at "ev"
  rw [Zdw b0]
  walk_at "ev"
  rw [Z7f (by simp; lia)]
  walk_at "ev"
  by_cases c2 : ((dd (ds.map fun d => d % b)).length : Int) = b
  ·rw [if_neg (by simpa using c2)]
   walk_at "ev"
   rw [Zrn hd hl]
   walk_at "ev"
   by_cases c3 : (ps.length : Int) = 2 * far ds + 1
   ·rw [if_neg (by simpa using c3)]
    walk_at "ev"
    rw [Z8g (by lia), Zg5 b0 b1 hp hN]
    walk_at "ev"
    rw [Zpj]
    walk_at "ev"
    rw [decide_eq_true c1, decide_eq_true c2, decide_eq_true c3, List.all_map]
    rfl
   ·rw [if_pos (by simpa using c3)]
    walk_at "ev"
    rw [decide_eq_false c3, Bool.false_and, Bool.and_false]
  ·rw [if_pos (by simpa using c2)]
   walk_at "ev"
   rw [decide_eq_false c2, Bool.and_false, Bool.false_and]
 ·rw [if_pos (by simpa using c1)]
  walk_at "ev"
  rw [decide_eq_false c1, Bool.false_and, Bool.false_and]
theorem Zg6 {ds : List Int} (r : List Int) (ω : Om) : cmpU (cstU (Z0i 0) (tfB (eOp (uIn true) (eVar 0) (eVar 1))) (eVar 0) [none, some (.tup (ds.map U.int))]) (r.map U.int) ω = .ok ((r.filter fun d => !decide (d ∈ ds)).map U.int) ω := by
 have e : (r.filter fun d => !decide (d ∈ ds)).map U.int = r.filterMap fun d => if (!decide (d ∈ ds)) = true then some (U.int d) else none := by
  induction r with
  | nil => rfl
  | cons x r ih =>
   rw [List.filter_cons, List.filterMap_cons]
   by_cases c : (!decide (x ∈ ds)) = true
   ·rw [if_pos c, if_pos c, List.map_cons, ih]
   ·rw [if_neg c, if_neg c, ih]
 rw [e]
 refine Z1h fun x hx => ?_
 walk_at "ev"
 rw [Znq]
 walk_at "ev"
 by_cases c : x ∈ ds
 ·simp [c]
 ·simp [c]
theorem Zg7 (ds r : List Int) : decide ((r.filter fun d => !decide (d ∈ ds)) = []) = r.all fun d => decide (d ∈ ds) := by
 induction r with
 | nil => rfl
 | cons x r ih =>
  rw [List.filter_cons, List.all_cons, <- ih]
  by_cases c : x ∈ ds
  ·simp [c]
  ·simp [c]
theorem Z9m {b m : Int} {N : Nat} (b0 : 0 < b) (b1 : b < 1000) {ds : List Int} {ps : Ps} (hp : Pap m N ps) (hN : N <= 1000) (D : Option U) (ω : Om) : ∀ (qs : Ps) (y z : Option U), (∀ p ∈ qs, p ∈ ps) ->
  (∃ y' z', (qs.all fun p => wrt b ds p.1 (rwU p.2)) = true /\ forU (Z1r (Z0i 4) Z7m) (Z4g qs) [some (.int b), some (.tup (ds.map U.int)), some (dicI ps), D, y, z] ω = .nx [some (.int b), some (.tup (ds.map U.int)), some (dicI ps), D, y', z'] ω) \/
  ((qs.all fun p => wrt b ds p.1 (rwU p.2)) = false /\ forU (Z1r (Z0i 4) Z7m) (Z4g qs) [some (.int b), some (.tup (ds.map U.int)), some (dicI ps), D, y, z] ω = .rt (.bl false) ω)
 | [], y, z, _ => .inl ⟨y, z, rfl, rfl⟩
 | p :: qs, y, z, h => by
  have hm : p ∈ ps := h p (by simp)
  obtain ⟨r, er, lr⟩ := hp.rw p hm
  have ea : asc ps p.1 = some (.tup (r.map U.int)) := by rw [Z45 hp.nd hm, er]
  have step : Z1r (Z0i 4) Z7m (.int p.1) [some (.int b), some (.tup (ds.map U.int)), some (dicI ps), D, y, z] ω = if wrt b ds p.1 r = true then .nx [some (.int b), some (.tup (ds.map U.int)), some (dicI ps), D, some (.int p.1), some (.tup (r.map U.int))] ω else .rt (.bl false) ω := by
   rw [Z7m]
   walk_at "ev"
   rw [ea]
   walk_at "ev"
   rw [Zg6]
   walk_at "ev"
   rw [Zcd, Zg7]
   walk_at "ev"
   unfold wrt
   cases c2 : r.all fun d => decide (d ∈ ds) with
   | false =>
    walk_at "ev"
    rw [Bool.and_false, Bool.false_and]
    rfl
   | true =>
    walk_at "ev"
    rw [Zkd, show U.tup [U.int 0] = U.tup (([0] : List Int).map U.int) from rfl, Zcc]
    walk_at "ev"
    by_cases c1 : r.drop (r.length - 1) = [0]
    ·rw [if_pos c1]
     walk_at "ev"
     rw [decide_eq_true c1]
     rfl
    ·rw [if_neg c1]
     walk_at "ev"
     rw [Zdu b0 b1]
     walk_at "ev"
     rw [decide_eq_false c1]
     by_cases c3 : wth b r = p.1
     ·rw [if_neg (by simpa using c3), decide_eq_true c3]; rfl
     ·rw [if_pos c3, decide_eq_false c3]; rfl
  have e1 : rwU p.2 = r := by rw [er, Zp0]
  rw [show Z4g (p :: qs) = .int p.1 :: Z4g qs from rfl, forU, step]
  cases c : wrt b ds p.1 r with
  | false => exact .inr ⟨by rw [List.all_cons, e1, c]; rfl, rfl⟩
  | true =>
   rcases Z9m b0 b1 hp hN D ω qs (some (.int p.1)) (some (.tup (r.map U.int))) (fun q hq => h q (List.mem_cons_of_mem _ hq)) with ⟨y', z', e2, e3⟩ | ⟨e2, e3⟩
   ·exact .inl ⟨y', z', by rw [List.all_cons, e1, c, e2]; rfl, e3⟩
   ·exact .inr ⟨by rw [List.all_cons, e1, c, e2]; rfl, e3⟩
theorem Zpk {b : Int} (b0 : 0 < b) {ds : List Int} (hl : ds.length <= 1000) (ω : Om) : F_q6 [.int b, .tup (ds.map U.int)] ω = .ok (.bl (gdd b ds)) ω := by
 unfold F_q6 g_q6 gdd
 walk_at "ev"
 by_cases c1 : (ds.length : Int) = b
 ·rw [if_pos c1]
  walk_at "ev"
  rw [Zdw b0]
  walk_at "ev"
  rw [Z7f (by simp; lia)]
  walk_at "ev"
  rw [decide_eq_true c1, Bool.true_and]
 ·rw [if_neg c1]
  walk_at "ev"
  rw [decide_eq_false c1, Bool.false_and]
theorem Zkg {b m : Int} {N : Nat} (b0 : 0 < b) (b1 : b < 1000) {ds : List Int} {ps : Ps} (hp : Pap m N ps) (hN : N <= 1000) (hd : ds ≠ []) (hl : ds.length <= 1000) (hf : far ds <= 1000) (hs : Sbl (ps.map (·.1))) (ω : Om) : F_q2 [.int b, .tup (ds.map U.int), dicI ps] ω = .ok (.bl (due b ds ps)) ω := by
 unfold F_q2 g_q2
 have f0 := Z2r ds
 have pl := hp.len
 walk_at "ev"
 rw [Z3i]
 walk_at "ev"
 rw [Z5z hd]
 walk_at "ev"
 rw [Zpk b0 hl]
 walk_at "ev"
 unfold due
 cases c1 : gdd b ds with
 | false =>
  walk_at "ev"
  rfl
 | true =>
  walk_at "ev"
  rw [Z9c hs]
  walk_at "ev"
  rw [show (0 : Int) - far ds = -far ds by lia, Z8g (by lia), Zgu]
  walk_at "ev"
  by_cases c3 : srt (ps.map (·.1)) = rgz (far ds)
  ·rw [if_neg (by simpa using c3)]
   walk_at "ev"
   rw [decide_eq_true c3]
   rcases Z9m b0 b1 hp hN (some (.int (far ds))) ω ps none none (fun ψ h => h) with ⟨y', z', e1, e2⟩ | ⟨e1, e2⟩
   ·rw [e2, e1]
    walk_at "ev"
    rfl
   ·rw [e2, e1]
    walk_at "ev"
    rfl
  ·rw [if_pos (by simpa using c3)]
   walk_at "ev"
   rw [decide_eq_false c3]
   rfl
structure Ah (B : Int) (ps : Ps) : Prop where
 nd : (ps.map (·.1)).Nodup
 ky : ∀ p ∈ ps, -B <= p.1 /\ p.1 <= B
 rw : ∀ p ∈ ps, ∃ row : List Int, p.2 = .tup (row.map U.int) /\ row.length + 1 <= ps.length
theorem Ah.len {B : Int} {ps : Ps} (h : Ah B ps) (h0 : 0 <= B) : (ps.length : Int) <= 2 * B + 1 := by
 have := Zhb h.nd (a := -B) (b := B) fun z hz => by
  obtain ⟨p, hp, rfl⟩ := List.mem_map.mp hz
  exact h.ky p hp
 rw [List.length_map] at this
 lia
theorem Zpl {x y b B : Int} (hb : 2 <= b) (hB : 0 <= B) (hx : -B <= x /\ x <= B) (hy : -B <= y /\ y <= B) : -B <= (x - y) / b /\ (x - y) / b <= B := by
 have hm : B * 2 <= B * b := Int.mul_le_mul_of_nonneg_left hb hB
 refine ⟨Int.le_ediv_of_mul_le (by lia) ?_, Int.ediv_le_of_le_mul (by lia) ?_⟩
 ·rw [Int.neg_mul]; lia
 ·lia
abbrev ev7 (b : Int) (ds : List Int) (n : Int) (ps : Ps) (ws : List Int) (o y : Option U) : En := [some (.int b), some (.tup (ds.map U.int)), some (.int n), some (dicI ps), some (.lst (ws.map U.int)), o, y]
theorem Z60 {b B n one : Int} (b2 : 2 <= b) (b1 : b < 1000) (hB : 0 <= B) (B1 : B <= 1000) {ds : List Int} (ω : Om) (h1 : -B <= one /\ one <= B) : ∀ (xs : List Int) (ps : Ps) (ws : List Int) (y : Option U), (∀ d ∈ xs, -B <= d /\ d <= B) -> Ah B ps -> one ∈ ps.map (·.1) -> (∀ z ∈ ws, z ∈ ps.map (·.1)) -> ws.length <= ps.length ->
  ∃ ps' ws' y', forU (Z1r (Z0i 6) Z4y) (xs.map U.int) (ev7 b ds n ps ws (some (.int one)) y) ω = .nx (ev7 b ds n ps' ws' (some (.int one)) y') ω /\ Ah B ps' /\ (∀ z ∈ ws', z ∈ ps'.map (·.1)) /\ ws'.length <= ps'.length /\ ws'.length + ps.length = ws.length + ps'.length /\ ps.length <= ps'.length
 | [], ps, ws, y, _, ha, hone, hw, hl => ⟨ps, ws, y, rfl, ha, hw, hl, by lia, by lia⟩
 | d :: xs, ps, ws, y, hd, ha, hone, hw, hl => by
  have hlen := ha.len hB
  have dB := hd d (by simp)
  have qB := Zpl b2 hB h1 dB
  rw [List.map_cons, forU, Z4y]
  obtain ⟨p, hp, ep⟩ := List.mem_map.mp hone
  obtain ⟨r, er, lr⟩ := ha.rw p hp
  have ea : asc ps one = some (.tup (r.map U.int)) := by rw [<- er, <- ep]; exact Z45 ha.nd hp
  unfold ev7
  walk_at "ev"
  by_cases c1 : (one - d) % b = 0
  ·rw [if_pos c1]
   walk_at "ev"
   by_cases c2 : (one - d) / b ∈ ps.map (·.1)
   ·rw [Z5s.mpr c2]
    walk_at "ev"
    rw [<- Z4y]
    exact Z60 b2 b1 hB B1 ω h1 xs ps ws _ (fun e he => hd e (List.mem_cons_of_mem _ he)) ha hone hw hl
   ·rw [Z96.mpr c2]
    walk_at "ev"
    rw [show (none : Option U).isSome = false from rfl]
    walk_at "ev"
    rw [ea]
    walk_at "ev"
    rw [show r.map U.int ++ [U.int d] = (r ++ [d]).map U.int by simp, show ws.map U.int ++ [U.int ((one - d) / b)] = (ws ++ [(one - d) / b]).map U.int by simp]
    have ep' : putI ps ((one - d) / b) (.tup ((r ++ [d]).map U.int)) = ps ++ [((one - d) / b, .tup ((r ++ [d]).map U.int))] := Z2d c2
    have ha' : Ah B (putI ps ((one - d) / b) (.tup ((r ++ [d]).map U.int))) := by
     refine ⟨Zd9 ha.nd, fun q hq => ?_, fun q hq => ?_⟩
     ·rcases Z3h hq with e | e
      ·subst e; exact qB
      ·exact ha.ky q e.1
     ·have hl' : (putI ps ((one - d) / b) (.tup ((r ++ [d]).map U.int))).length = ps.length + 1 := by rw [ep']; simp
      rcases Z3h hq with e | e
      ·subst e; exact ⟨r ++ [d], rfl, by rw [hl']; simp; lia⟩
      ·obtain ⟨r2, e2, l2⟩ := ha.rw q e.1
       exact ⟨r2, e2, by rw [hl']; lia⟩
    have hk : ∀ z ∈ ps.map (·.1), z ∈ (putI ps ((one - d) / b) (.tup ((r ++ [d]).map U.int))).map (·.1) := fun z hz => by rw [ep', List.map_append]; exact List.mem_append_left _ hz
    have hl' : (putI ps ((one - d) / b) (.tup ((r ++ [d]).map U.int))).length = ps.length + 1 := by rw [ep']; simp
    rw [<- Z4y]
    obtain ⟨ps2, ws2, y2, e1, e2, e3, e4, e5, e6⟩ := Z60 b2 b1 hB B1 (n := n) (ds := ds) ω h1 xs (putI ps ((one - d) / b) (.tup ((r ++ [d]).map U.int))) (ws ++ [(one - d) / b]) (some (.int d)) (fun e he => hd e (List.mem_cons_of_mem _ he)) ha' (hk _ hone) (fun z hz => by
     rcases List.mem_append.mp hz with h | h
     ·exact hk z (hw z h)
     ·simp at h; subst h; rw [ep', List.map_append]; simp) (by rw [hl']; simp; lia)
    refine ⟨ps2, ws2, y2, e1, e2, e3, e4, ?_, by lia⟩
    rw [hl'] at e5; simp at e5; lia
  ·rw [if_neg c1]
   walk_at "ev"
   rw [<- Z4y]
   exact Z60 b2 b1 hB B1 ω h1 xs ps ws _ (fun e he => hd e (List.mem_cons_of_mem _ he)) ha hone hw hl
def Kr (b n B : Int) (ds : List Int) (ω : Om) (f : Fl) : Prop := ∃ r : List Int, ((∃ o y ps ws, f = .nx (ev7 b ds n ps ws o y) ω) \/ f = .rt (.tup (r.map U.int)) ω) /\ (r.length : Int) <= 2 * B + 1
theorem Zpm {b B n : Int} (b2 : 2 <= b) (b1 : b < 1000) (hB : 0 <= B) (B1 : B <= 100) {ds : List Int} (hn : -B <= n /\ n <= B) (hd : ∀ d ∈ ds, -B <= d /\ d <= B) (ω : Om) : ∃ r : List Int, F_q4 [.int b, .tup (ds.map U.int), .int n] ω = .ok (.tup (r.map U.int)) ω /\ (r.length : Int) <= 2 * B + 1 := by
 unfold F_q4 g_q4
 walk_at "ev"
 have key : Kr b n B ds ω (sWh (tfB (eOp uNe (eVar 4) (eLst aNil))) Zdt (ev7 b ds n [(n, .tup (([] : List Int).map U.int))] [n] none none) ω) := by
  refine Zir (K := Kr b n B ds ω) (fun k ρ ω' => ω' = ω /\ ∃ ps ws o y, ρ = ev7 b ds n ps ws o y /\ Ah B ps /\ (∀ z ∈ ws, z ∈ ps.map (·.1)) /\ ws.length <= ps.length /\ (k : Int) = 2 * (2 * B + 1 - ps.length) + ws.length) ?_ (2 * (2 * B + 1 - 1) + 1).toNat _ _ ⟨rfl, [(n, .tup (([] : List Int).map U.int))], [n], none, none, rfl, ⟨by simp, fun p hp => ?_, fun p hp => ?_⟩, by simp, by simp, by simp; lia⟩
  ·rintro k ρ ω' ⟨rfl, ps, ws, o, y, rfl, ha, hw, hl, hk⟩
   have hlen := ha.len hB
   unfold ev7
   walk_at "ev"
   rw [Zcd]
   walk_at "ev"
   by_cases c : ws = []
   ·refine .inl ⟨ω', by rw [decide_eq_true c]; rfl, [], .inl ⟨o, y, ps, ws, rfl⟩, by simp; lia⟩
   ·refine .inr ⟨ω', by rw [decide_eq_false c]; rfl, ?_⟩
    obtain ⟨wt, w, rfl⟩ : ∃ wt w, ws = wt ++ [w] := ⟨ws.dropLast, ws.getLast c, (List.dropLast_concat_getLast c).symm⟩
    rw [Zdt]
    walk_at "ev"
    rw [show ((wt ++ [w]).map U.int).getLast? = some (.int w) by simp, show ((wt ++ [w]).map U.int).dropLast = wt.map U.int by simp]
    walk_at "ev"
    have hwk : w ∈ ps.map (·.1) := hw w (by simp)
    have wB : -B <= w /\ w <= B := by
     obtain ⟨p, hp, e⟩ := List.mem_map.mp hwk
     have := ha.ky p hp
     rw [<- e]; exact this
    by_cases c0 : w = 0
    ·subst c0
     rw [if_pos rfl]
     walk_at "ev"
     obtain ⟨p, hp, ep⟩ := List.mem_map.mp hwk
     obtain ⟨r, er, lr⟩ := ha.rw p hp
     have ea : asc ps 0 = some (.tup (r.map U.int)) := by rw [<- er, <- ep]; exact Z45 ha.nd hp
     rw [ea]
     walk_at "ev"
     exact .inr (.inl ⟨_, _, rfl, r, .inr rfl, by lia⟩)
    ·rw [if_neg c0]
     walk_at "ev"
     simp at hl
     obtain ⟨ps2, ws2, y2, e1, e2, e3, e4, e5, e6⟩ := Z60 b2 b1 hB (by lia) (n := n) (ds := ds) ω' wB ds ps wt y hd ha hwk (fun z hz => hw z (by simp [hz])) (by lia)
     unfold ev7 at e1
     rw [e1]
     have hlen2 := e2.len hB
     refine .inl ⟨(2 * (2 * B + 1 - ps2.length) + ws2.length).toNat, _, ω', ?_, rfl, rfl, ps2, ws2, _, y2, rfl, e2, e3, e4, by lia⟩
     simp at hk
     lia
  ·simp at hp; subst hp; exact hn
  ·simp at hp; subst hp; exact ⟨[], rfl, by simp⟩
 obtain ⟨r, h | h, hr⟩ := key
 ·obtain ⟨o, y, ps, ws, h⟩ := h
  unfold ev7 at h
  simp only [List.map_nil, List.map_cons] at h
  rw [h]
  walk_at "ev"
  exact ⟨[n], rfl, by simp; lia⟩
 ·unfold ev7 at h
  simp only [List.map_nil, List.map_cons] at h
  rw [h]
  walk_at "ev"
  exact ⟨r, rfl, hr⟩
structure Gd (ω : Om) : Prop where
 ex : ∃ p1 p2 p3 p4, ω.rs = [p1, p2, p3, p4] /\ 0 <= p1 /\ 0 <= p3 /\ p3 < 2147483629
theorem Z0f {ω : Om} (h : Gd ω) {most : Int} (h0 : 0 < most) (h1 : most < 2 ^ 200) : ∃ (r : Int) (ω' : Om), Z0v [.pile, .int most] ω = .ok (.int r) ω' /\ Gd ω' /\ 0 <= r /\ r < most := by
 obtain ⟨cs, rs⟩ := ω
 obtain ⟨p1, p2, p3, p4, e, a1, a2, a3⟩ := h.ex
 simp only at e
 subst e
 have md : ∀ x : Int, 0 <= x % most /\ x % most < most := fun x => ⟨Int.emod_nonneg _ (by lia), Int.emod_lt_of_pos _ h0⟩
 unfold Z0v Zkc
 by_cases c1 : p2 > 0
 ·refine ⟨p2 % most, ⟨cs, [p1, p2 / most, p3, p4]⟩, ?_, ⟨p1, p2 / most, p3, p4, rfl, a1, a2, a3⟩, (md p2).1, (md p2).2⟩
  walk_at "ev"
  rw [if_pos c1]
  walk_at "ev"
  rw [Zgt 200 (by decide) h0 h1]
  walk_at "ev"
  try rfl
 ·by_cases c2 : p1 < (cs.length : Int)
  ·obtain ⟨c, hc⟩ : ∃ c, atI cs p1 = some c := ⟨cs[p1.toNat]'(by lia), by rw [Zca a1 c2]⟩
   have b1 := Int.emod_nonneg (p3 * 69069 + c) (show (2147483629 : Int) ≠ 0 by decide)
   have b2 := Int.emod_lt_of_pos (p3 * 69069 + c) (show (0 : Int) < 2147483629 by decide)
   by_cases c3 : 1000000000000000000 <= (if c < 0 then -c else c)
   ·refine ⟨(if c < 0 then -c else c) % most, ⟨cs, [p1 + 1, (if c < 0 then -c else c) / most, (p3 * 69069 + c) % 2147483629, p4]⟩, ?_, ⟨_, _, _, _, rfl, by lia, b1, b2⟩, (md _).1, (md _).2⟩
    walk_at "ev"
    rw [if_neg c1]
    walk_at "ev"
    rw [if_pos c2]
    walk_at "ev"
    rw [hc]
    walk_at "ev"
    rw [if_pos c3]
    walk_at "ev"
    rw [Zgt 200 (by decide) h0 h1]
    walk_at "ev"
    try rfl
   ·refine ⟨c % most, ⟨cs, [p1 + 1, p2, (p3 * 69069 + c) % 2147483629, p4]⟩, ?_, ⟨_, _, _, _, rfl, by lia, b1, b2⟩, (md _).1, (md _).2⟩
    walk_at "ev"
    rw [if_neg c1]
    walk_at "ev"
    rw [if_pos c2]
    walk_at "ev"
    rw [hc]
    walk_at "ev"
    rw [if_neg c3]
    walk_at "ev"
    try rfl
  ·have b1 := Int.emod_nonneg (p3 * p3 + 40014 * (p4 + 1) + 977) (show (2147483629 : Int) ≠ 0 by decide)
   have b2 := Int.emod_lt_of_pos (p3 * p3 + 40014 * (p4 + 1) + 977) (show (0 : Int) < 2147483629 by decide)
   refine ⟨(p3 * p3 + 40014 * (p4 + 1) + 977) % 2147483629 / 16 % most, ⟨cs, [p1, p2, (p3 * p3 + 40014 * (p4 + 1) + 977) % 2147483629, p4 + 1]⟩, ?_, ⟨_, _, _, _, rfl, a1, b1, b2⟩, (md _).1, (md _).2⟩
   walk_at "ev"
   rw [if_neg c1]
   walk_at "ev"
   rw [if_neg c2]
   walk_at "ev"
   try rfl
theorem Zkh (ns : List Int) (ω : Om) : Zan [.scr ns] ω = .ok (.lst (.scr ns :: Z48.map U.int)) ω := by
 unfold Zan Zkb
 walk_at "ev"
theorem Zdx (s : Int) (n : Nat) : rngU s (n + 1) = .int s :: rngU (s + 1) n := by
 unfold rngU
 rw [List.range_succ_eq_map, List.map_cons, List.map_map]
 congr 1
 ·simp
 ·apply List.map_congr_left
  intro i ψ
  simp only [Function.comp]
  congr 1
  lia
theorem Z7n {α β : Type} (f : α -> β) : ∀ (xs : List α) (n : Nat), (xs.eraseIdx n).map f = (xs.map f).eraseIdx n
 | [], _ => by simp
 | x :: xs, 0 => rfl
 | x :: xs, n + 1 => by simp [Z7n f xs n]
theorem erase_perm : ∀ {ls : List Int} {i : Nat} (h : i < ls.length), (ls[i] :: ls.eraseIdx i).Perm ls
 | x :: t, 0, _ => .refl _
 | x :: t, i + 1, h => by
  have h' : i < t.length := by simpa using h
  have ih := erase_perm h'
  rw [List.eraseIdx_cons_succ, List.getElem_cons_succ]
  exact (List.Perm.swap _ _ _).trans (ih.cons x)
theorem Zdy (B : Option U) : ∀ (n : Nat) (ls fs : List Int) (ω : Om), ls.length = n -> ls.length + fs.length <= 1000 -> Gd ω -> ∃ (fs' : List Int) (ω' : Om), sWh (tfB (eOp uNe (eVar 2) (eLst aNil))) Z9f [some .pile, B, some (.lst (ls.map U.int)), some (.lst (fs.map U.int))] ω = .nx [some .pile, B, some (.lst []), some (.lst (fs'.map U.int))] ω' /\ Gd ω' /\ fs'.Perm (ls ++ fs)
 | 0, ls, fs, ω, hn, hl, g => by
  have e : ls = [] := List.length_eq_zero_iff.mp hn
  subst e
  refine ⟨fs, ω, Z81 ?_, g, .refl _⟩
  walk_at "ev"
  rfl
 | n + 1, ls, fs, ω, hn, hl, g => by
  obtain ⟨r, ω1, e1, g1, r0, r1⟩ := Z0f g (most := ls.length) (by lia) (by lia)
  have hr : r.toNat < ls.length := by lia
  obtain ⟨fs', ω', e, g', h'⟩ := Zdy B n (ls.eraseIdx r.toNat) (fs ++ [ls[r.toNat]]) ω1 (by rw [List.length_eraseIdx_of_lt hr]; lia) (by rw [List.length_eraseIdx_of_lt hr]; simp; lia) g1
  refine ⟨fs', ω', ?_, g', h'.trans ?_⟩
  ·have tst : (tfB (eOp uNe (eVar 2) (eLst aNil))) [some .pile, B, some (.lst (ls.map U.int)), some (.lst (fs.map U.int))] ω = .ok true ω := by
    walk_at "ev"
    rw [Zcd]
    walk_at "ev"
    rw [decide_eq_false (fun z => by rw [z] at hn; simp at hn)]
    rfl
   have stp : Z9f [some .pile, B, some (.lst (ls.map U.int)), some (.lst (fs.map U.int))] ω = .nx [some .pile, B, some (.lst ((ls.eraseIdx r.toNat).map U.int)), some (.lst ((fs ++ [ls[r.toNat]]).map U.int))] ω1 := by
    rw [Z9f]
    unfold Z3x
    walk_at "ev"
    rw [e1]
    walk_at "ev"
    rw [show (ls.map U.int)[r.toNat]? = some (.int ls[r.toNat]) by rw [List.getElem?_map, List.getElem?_eq_getElem hr]; rfl]
    simp only
    have sl : sizeLine = 16777216 := sizeLine_eq
    rw [if_pos ⟨r0, by lia, by lia⟩]
    walk_at "ev"
    rw [List.map_append, Z7n]
    rfl
   rw [Z5d tst stp]
   exact e
  ·have p1 : (ls[r.toNat] :: ls.eraseIdx r.toNat).Perm ls := erase_perm hr
   have p2 : (ls.eraseIdx r.toNat ++ (fs ++ [ls[r.toNat]])).Perm (ls[r.toNat] :: (ls.eraseIdx r.toNat ++ fs)) := by
    rw [<- List.append_assoc]
    exact List.perm_append_singleton _ _
   exact p2.trans (by simpa using p1.append_right fs)
theorem Zhj {ls : List Int} (hl : ls.length <= 1000) {ω : Om} (g : Gd ω) : ∃ (fs : List Int) (ω' : Om), F_q3 [.pile, .lst (ls.map U.int)] ω = .ok (.tup (fs.map U.int)) ω' /\ Gd ω' /\ fs.Perm ls := by
 obtain ⟨fs, ω', e, g', p⟩ := Zdy (some (.lst (ls.map U.int))) ls.length ls [] ω rfl (by simpa using hl) g
 simp only [List.map_nil] at e
 rw [List.append_nil] at p
 have := p.length_eq
 refine ⟨fs, ω', ?_, g', p⟩
 unfold F_q3 g_q3
 walk_at "ev"
 rw [e]
 walk_at "ev"
theorem Zrp {r : List Int} : cutG (r.map U.int) none (some (-1)) = (r.take (r.length - 1)).map U.int := by
 rw [show (-1 : Int) = -((1 : Nat) : Int) from rfl, Zrm (by decide), List.length_map, List.map_take]
theorem Z9n (ω : Om) : ∀ (n : Nat) (r : List Int), r.length <= n -> ∃ r' : List Int, sWh (tfB (eOp uEq (eSl uSl (eVar 0) (Z2f (eUn uNeg (eC (.int 1)))) pNo) (eTup (Z01 (eC (.int 0)) aNil)))) Z9i [some (.tup (r.map U.int))] ω = .nx [some (.tup (r'.map U.int))] ω /\ r'.length <= r.length
 | n, r, hn => by
  have tst : (tfB (eOp uEq (eSl uSl (eVar 0) (Z2f (eUn uNeg (eC (.int 1)))) pNo) (eTup (Z01 (eC (.int 0)) aNil)))) [some (.tup (r.map U.int))] ω = .ok (decide (r.drop (r.length - 1) = [0])) ω := by
   walk_at "ev"
   rw [Zkd, show U.tup [U.int 0] = U.tup (([0] : List Int).map U.int) from rfl, Zcc]
   walk_at "ev"
  by_cases c : r.drop (r.length - 1) = [0]
  ·rw [decide_eq_true c] at tst
   have h1 : 0 < r.length := by
    cases r with
    | nil => simp at c
    | cons _ _ => simp
   cases n with
   | zero => lia
   | succ n =>
    obtain ⟨r', e, l⟩ := Z9n ω n (r.take (r.length - 1)) (by simp; lia)
    refine ⟨r', ?_, by simp at l; lia⟩
    have stp : Z9i [some (.tup (r.map U.int))] ω = .nx [some (.tup ((r.take (r.length - 1)).map U.int))] ω := by
     rw [Z9i]
     walk_at "ev"
     rw [Zrp]
    rw [Z5d tst stp]
    exact e
  ·rw [decide_eq_false c] at tst
   exact ⟨r, Z81 tst, Nat.le_refl _⟩
theorem Zdz {r : List Int} (ω : Om) : ∃ r' : List Int, F_q5 [.tup (r.map U.int)] ω = .ok (.tup (r'.map U.int)) ω /\ r'.length <= r.length := by
 obtain ⟨r', e, l⟩ := Z9n ω r.length r (Nat.le_refl _)
 refine ⟨r', ?_, l⟩
 unfold F_q5 g_q5
 walk_at "ev"
 rw [e]
 walk_at "ev"
def Dg (d : Int) : Prop := -40 <= d /\ d <= 40
theorem six {r : Int} (h0 : 0 <= r) (h1 : r < 6) : ∃ k : Int, ([0, -1, -1, 0, 1, -2] : List Int).getD r.toNat 0 = k /\ -2 <= k /\ k <= 1 := by
 rcases (show r = 0 \/ r = 1 \/ r = 2 \/ r = 3 \/ r = 4 \/ r = 5 by lia) with rfl | rfl | rfl | rfl | rfl | rfl
 ·exact ⟨0, rfl, by decide, by decide⟩
 ·exact ⟨-1, rfl, by decide, by decide⟩
 ·exact ⟨-1, rfl, by decide, by decide⟩
 ·exact ⟨0, rfl, by decide, by decide⟩
 ·exact ⟨1, rfl, by decide, by decide⟩
 ·exact ⟨-2, rfl, by decide, by decide⟩
theorem Ze0 {b w : Int} (b2 : 2 <= b) (b9 : b <= 10) (z5 z6 z7 z8 : Option U) : ∀ (n : Nat) (s : Int) (ls : List Int) (y : Option U) (ω : Om), Gd ω -> 1 <= s -> s + n = b -> (∀ x ∈ ls, -20 <= x /\ x <= 20) -> ls.length + n <= 100 ->
  ∃ (ls' : List Int) (y' : Option U) (ω' : Om), forU (Z1r (Z0i 4) Z9g) (rngU s n) [some .pile, some (.int b), some (.int w), some (.lst (ls.map U.int)), y, z5, z6, z7, z8] ω = .nx [some .pile, some (.int b), some (.int w), some (.lst (ls'.map U.int)), y', z5, z6, z7, z8] ω' /\ Gd ω' /\ (∀ x ∈ ls', -20 <= x /\ x <= 20) /\ ls'.length = ls.length + n
 | 0, s, ls, y, ω, g, _, _, hl, _ => ⟨ls, y, ω, rfl, g, hl, by simp⟩
 | n + 1, s, ls, y, ω, g, s1, sn, hl, hn => by
  obtain ⟨mo, emo, m0, m6⟩ : ∃ mo : Int, ([4, 6] : List Int).getD (if 0 < w then (1 : Int) else 0).toNat 0 = mo /\ 0 < mo /\ mo <= 6 := by
   by_cases c : 0 < w
   ·rw [if_pos c]; exact ⟨6, rfl, by decide, by decide⟩
   ·rw [if_neg c]; exact ⟨4, rfl, by decide, by decide⟩
  obtain ⟨r, ω1, e1, g1, r0, r1⟩ := Z0f g (most := mo) m0 (by lia)
  obtain ⟨k, ek, k0, k1⟩ := six (r := r) r0 (by lia)
  have bk : -20 <= b * k /\ b * k <= 10 := by
   rcases (show k = -2 \/ k = -1 \/ k = 0 \/ k = 1 by lia) with rfl | rfl | rfl | rfl <;> lia
  obtain ⟨ls', y', ω', e, g', h', l'⟩ := Ze0 (w := w) b2 b9 z5 z6 z7 z8 n (s + 1) (ls ++ [s + b * k]) (some (.int s)) ω1 g1 (by lia) (by lia) (fun q hq => by
   rcases List.mem_append.mp hq with h | h
   ·exact hl q h
   ·simp at h; lia) (by simp; lia)
  refine ⟨ls', y', ω', ?_, g', h', by simp at l' ⊢; lia⟩
  rw [Zdx, forU, Z9g]
  walk_at "ev"
  rw [emo, e1]
  walk_at "ev"
  rw [ek]
  walk_at "ev"
  rw [show ls.map U.int ++ [U.int (s + b * k)] = (ls ++ [s + b * k]).map U.int by simp, <- Z9g]
  exact e
theorem in_l {x : Int} {ls : List Int} : uIn true (.int x) (.lst (ls.map U.int)) = some (.bl (!decide (x ∈ ls))) := by rw [Zqv]; rfl
theorem Z2t {b w : Int} (z4 z5 z7 : Option U) : ∀ (xs : List U) (ls : List Int) (y6 y8 : Option U) (ω : Om), Gd ω -> (∀ x ∈ ls, Dg x) -> ls.length + xs.length <= 50 ->
  ∃ (ls' : List Int) (y6' y8' : Option U) (ω' : Om), forU (Z1r (Z0i 8) Z4x) xs [some .pile, some (.int b), some (.int w), some (.lst (ls.map U.int)), z4, z5, y6, z7, y8] ω = .nx [some .pile, some (.int b), some (.int w), some (.lst (ls'.map U.int)), z4, z5, y6', z7, y8'] ω' /\ Gd ω' /\ (∀ x ∈ ls', Dg x) /\ ls'.length <= ls.length + xs.length /\ ls.length <= ls'.length
 | [], ls, y6, y8, ω, g, hl, _ => ⟨ls, y6, y8, ω, rfl, g, hl, by simp, by lia⟩
 | x :: xs, ls, y6, y8, ω, g, hl, hn => by
  simp at hn
  obtain ⟨r, ω1, e1, g1, r0, r1⟩ := Z0f g (most := 2) (by decide) (by decide)
  obtain ⟨mo, emo, m0, m6⟩ : ∃ mo : Int, ([7, 41] : List Int).getD r.toNat 0 = mo /\ 0 < mo /\ mo <= 41 := by
   rcases (show r = 0 \/ r = 1 by lia) with rfl | rfl
   ·exact ⟨7, rfl, by decide, by decide⟩
   ·exact ⟨41, rfl, by decide, by decide⟩
  obtain ⟨q, ω2, e2, g2, q0, q1⟩ := Z0f g1 (most := mo) m0 (by lia)
  obtain ⟨t, ω3, e3, g3, t0, t1⟩ := Z0f g2 (most := 2) (by decide) (by decide)
  obtain ⟨of, eof, o0, o1⟩ : ∃ of : Int, ([3, 20] : List Int).getD t.toNat 0 = of /\ 3 <= of /\ of <= 20 := by
   rcases (show t = 0 \/ t = 1 by lia) with rfl | rfl
   ·exact ⟨3, rfl, by decide, by decide⟩
   ·exact ⟨20, rfl, by decide, by decide⟩
  by_cases c : q - of ∈ ls
  ·obtain ⟨ls', y6', y8', ω', e, g', h', l1, l2⟩ := Z2t (b := b) (w := w) z4 z5 z7 xs ls (some (.int (q - of))) (some x) ω3 g3 hl (by lia)
   refine ⟨ls', y6', y8', ω', ?_, g', h', by simp; lia, l2⟩
   rw [forU, Z4x]
   walk_at "ev"
   rw [e1]
   walk_at "ev"
   rw [emo, e2]
   walk_at "ev"
   rw [e3]
   walk_at "ev"
   rw [eof, in_l, decide_eq_true c]
   walk_at "ev"
   rw [<- Z4x]
   exact e
  ·obtain ⟨ls', y6', y8', ω', e, g', h', l1, l2⟩ := Z2t (b := b) (w := w) z4 z5 z7 xs (ls ++ [q - of]) (some (.int (q - of))) (some x) ω3 g3 (fun z hz => by
    rcases List.mem_append.mp hz with h | h
    ·exact hl z h
    ·simp at h; unfold Dg; lia) (by simp; lia)
   refine ⟨ls', y6', y8', ω', ?_, g', h', by simp at l1 ⊢; lia, by simp at l2; lia⟩
   rw [forU, Z4x]
   walk_at "ev"
   rw [e1]
   walk_at "ev"
   rw [emo, e2]
   walk_at "ev"
   rw [e3]
   walk_at "ev"
   rw [eof, in_l, decide_eq_false c]
   walk_at "ev"
   rw [show ls.map U.int ++ [U.int (q - of)] = (ls ++ [q - of]).map U.int by simp, <- Z4x]
   exact e
def T5 : Sf := (sSeq (sIf (tfB (eOp uLt (eB uLen (Z01 (eVar 3) aNil)) (eC (.int 2)))) (sApp 3 (eOp uIx (eLst (Z01 (eC (.int 1)) (Z01 (eUn uNeg (eC (.int 1))) aNil))) (Z0h Z0v (Z01 (eVar 0) (Z01 (eC (.int 2)) aNil))))) Z0z)
   (sRet (eLst (Z01 (eVar 1) (Z01 (Z0h F_q3 (Z01 (eVar 0) (Z01 (eVar 3) aNil))) aNil)))))
theorem Z7o {b w : Int} {ls : List Int} (y4 y5 y6 y7 y8 : Option U) {ω : Om} (g : Gd ω) (hl : ∀ x ∈ ls, Dg x) (hm : ls.length <= 50) : ∃ (ds : List Int) (ω' : Om), endF (T5 [some .pile, some (.int b), some (.int w), some (.lst (ls.map U.int)), y4, y5, y6, y7, y8] ω) = .ok (.lst [.int b, .tup (ds.map U.int)]) ω' /\ Gd ω' /\ ds ≠ [] /\ ds.length <= 60 /\ ∀ d ∈ ds, Dg d := by
 rw [T5]
 walk_at "ev"
 by_cases c : (ls.length : Int) < 2
 ·rw [if_pos c]
  obtain ⟨r, ω1, e1, g1, r0, r1⟩ := Z0f g (most := 2) (by decide) (by decide)
  obtain ⟨k, ek, k0, k1⟩ : ∃ k : Int, ([1, -1] : List Int).getD r.toNat 0 = k /\ -1 <= k /\ k <= 1 := by
   rcases (show r = 0 \/ r = 1 by lia) with rfl | rfl
   ·exact ⟨1, rfl, by decide, by decide⟩
   ·exact ⟨-1, rfl, by decide, by decide⟩
  obtain ⟨ds, ω2, e2, g2, pm⟩ := Zhj (ls := ls ++ [k]) (by simp; lia) g1
  have hlen := pm.length_eq
  rw [List.length_append, List.length_singleton] at hlen
  walk_at "ev"
  rw [e1]
  walk_at "ev"
  rw [ek, show ls.map U.int ++ [U.int k] = (ls ++ [k]).map U.int by simp, e2]
  walk_at "ev"
  refine ⟨ds, ω2, rfl, g2, fun z => by rw [z] at hlen; simp at hlen, by lia, fun d hd => ?_⟩
  rcases List.mem_append.mp (pm.mem_iff.mp hd) with h | h
  ·exact hl d h
  ·simp at h; unfold Dg; lia
 ·rw [if_neg c]
  obtain ⟨ds, ω2, e2, g2, pm⟩ := Zhj (ls := ls) (by lia) g
  have hlen := pm.length_eq
  walk_at "ev"
  rw [e2]
  walk_at "ev"
  exact ⟨ds, ω2, rfl, g2, fun z => by rw [z] at hlen; simp at hlen; lia, by lia, fun d hd => hl d (pm.mem_iff.mp hd)⟩
theorem F_bd {ω : Om} (g : Gd ω) : ∃ (b : Int) (ds : List Int) (ω' : Om), F_q0 [.pile] ω = .ok (.lst [.int b, .tup (ds.map U.int)]) ω' /\ Gd ω' /\ 2 <= b /\ b <= 10 /\ ds ≠ [] /\ ds.length <= 60 /\ ∀ d ∈ ds, Dg d := by
 obtain ⟨p, ω1, e1, g1, p0, p1⟩ := Z0f g (most := 5) (by decide) (by decide)
 obtain ⟨q, ω2, e2, g2, q0, q1⟩ := Z0f g1 (most := 9) (by decide) (by decide)
 obtain ⟨r, ω3, e3, g3, r0, r1⟩ := Z0f g2 (most := 4) (by decide) (by decide)
 obtain ⟨b, eb, b2, b9⟩ : ∃ b : Int, ([2, 3, 2 + p, 2 + q] : List Int).getD r.toNat 0 = b /\ 2 <= b /\ b <= 10 := by
  rcases (show r = 0 \/ r = 1 \/ r = 2 \/ r = 3 by lia) with rfl | rfl | rfl | rfl
  ·exact ⟨2, rfl, by decide, by decide⟩
  ·exact ⟨3, rfl, by decide, by decide⟩
  ·exact ⟨2 + p, rfl, by lia, by lia⟩
  ·exact ⟨2 + q, rfl, by lia, by lia⟩
 obtain ⟨w, ω4, e4, g4, w0, w1⟩ := Z0f g3 (most := 6) (by decide) (by decide)
 unfold F_q0 g_q0
 rw [<- T5]
 walk_at "ev"
 rw [e1]
 walk_at "ev"
 rw [e2]
 walk_at "ev"
 rw [e3]
 walk_at "ev"
 rw [eb, e4]
 walk_at "ev"
 have bdl := Ze0 (w := w) b2 b9 none none none none (b - 1).toNat 1 [0] none ω4 g4 (by decide) (by lia) (fun x hx => by simp at hx; subst hx; decide) (by simp; lia)
 simp only [List.map_cons, List.map_nil, List.length_cons, List.length_nil] at bdl
 rcases (show w = 0 \/ w = 1 \/ w = 2 \/ w = 3 \/ w = 4 \/ w = 5 by lia) with rfl | rfl | rfl | rfl | rfl | rfl
 ·obtain ⟨ls, y, ω5, e5, g5, h5, l5⟩ := bdl
  walk_at "ev"
  rw [e5]
  walk_at "ev"
  obtain ⟨ds, ω6, e6, g6, n6, l6, h6⟩ := Z7o (b := b) (w := 0) (ls := ls) y none none none none g5 (fun x hx => by have := h5 x hx; unfold Dg; lia) (by lia)
  exact ⟨b, ds, ω6, e6, g6, b2, b9, n6, l6, h6⟩
 ·obtain ⟨ls, y, ω5, e5, g5, h5, l5⟩ := bdl
  walk_at "ev"
  rw [e5]
  walk_at "ev"
  obtain ⟨ds, ω6, e6, g6, n6, l6, h6⟩ := Z7o (b := b) (w := 1) (ls := ls) y none none none none g5 (fun x hx => by have := h5 x hx; unfold Dg; lia) (by lia)
  exact ⟨b, ds, ω6, e6, g6, b2, b9, n6, l6, h6⟩
 ·obtain ⟨ls, y, ω5, e5, g5, h5, l5⟩ := bdl
  walk_at "ev"
  rw [e5]
  walk_at "ev"
  obtain ⟨at', ω6, e6, g6, a0, a1⟩ := Z0f g5 (most := ls.length) (by lia) (by lia)
  obtain ⟨f, ω7, e7, g7, f0, f1⟩ := Z0f g6 (most := 5) (by decide) (by decide)
  rw [e6]
  walk_at "ev"
  obtain ⟨x, ex, mx⟩ : ∃ x, atI (ls.map U.int) at' = some (.int x) /\ x ∈ ls := by
   refine ⟨ls[at'.toNat]'(by lia), ?_, List.getElem_mem _⟩
   rw [Zca a0 (by simp; lia)]; simp
  rw [ex]
  walk_at "ev"
  rw [e7]
  walk_at "ev"
  have hx := h5 x mx
  have keep : ∀ y ∈ ls, Dg y := fun y hy => by have := h5 y hy; unfold Dg; lia
  by_cases c1 : 0 < at'
  ·rw [if_pos c1]
   walk_at "ev"
   by_cases c2 : x + f - 2 ∈ ls
   ·rw [in_l, decide_eq_true c2]
    walk_at "ev"
    obtain ⟨ds, ω8, e8, g8, n8, l8, h8⟩ := Z7o (b := b) (w := 2) (ls := ls) y (some (.int at')) (some (.int (x + f - 2))) none none g7 keep (by lia)
    exact ⟨b, ds, ω8, e8, g8, b2, b9, n8, l8, h8⟩
   ·rw [in_l, decide_eq_false c2]
    walk_at "ev"
    have es : (ls.map U.int).set at'.toNat (.int (x + f - 2)) = (ls.set at'.toNat (x + f - 2)).map U.int := by rw [List.map_set]
    rw [Zqw a0 a1]
    simp only
    rw [es]
    walk_at "ev"
    obtain ⟨ds, ω8, e8, g8, n8, l8, h8⟩ := Z7o (b := b) (w := 2) (ls := ls.set at'.toNat (x + f - 2)) y (some (.int at')) (some (.int (x + f - 2))) none none g7 (fun z hz => by
     rcases List.mem_or_eq_of_mem_set hz with h | h
     ·exact keep z h
     ·unfold Dg; lia) (by simp; lia)
    exact ⟨b, ds, ω8, e8, g8, b2, b9, n8, l8, h8⟩
  ·rw [if_neg c1]
   walk_at "ev"
   obtain ⟨ds, ω8, e8, g8, n8, l8, h8⟩ := Z7o (b := b) (w := 2) (ls := ls) y (some (.int at')) (some (.int (x + f - 2))) none none g7 keep (by lia)
   exact ⟨b, ds, ω8, e8, g8, b2, b9, n8, l8, h8⟩
 ·walk_at "ev"
  obtain ⟨low, ω6, e6, g6, a0, a1⟩ := Z0f g4 (most := b) (by lia) (by lia)
  obtain ⟨f, ω7, e7, g7, f0, f1⟩ := Z0f g6 (most := 3) (by decide) (by decide)
  rw [e6]
  walk_at "ev"
  rw [e7]
  walk_at "ev"
  have er : rngU (0 - low) (b - low + f - (0 - low)).toNat = ((List.range (b - low + f - (0 - low)).toNat).map fun i : Nat => 0 - low + (i : Int)).map U.int := by
   unfold rngU; rw [List.map_map]; rfl
  rw [er]
  obtain ⟨ds, ω8, e8, g8, n8, l8, h8⟩ := Z7o (b := b) (w := 3) (ls := (List.range (b - low + f - (0 - low)).toNat).map fun i : Nat => 0 - low + (i : Int)) none none none (some (.int low)) none g7 (fun z hz => by
   obtain ⟨i, hi, e⟩ := List.mem_map.mp hz
   have := List.mem_range.mp hi
   unfold Dg; lia) (by simp; lia)
  exact ⟨b, ds, ω8, e8, g8, b2, b9, n8, l8, h8⟩
 ·obtain ⟨f, ω7, e7, g7, f0, f1⟩ := Z0f g4 (most := 3) (by decide) (by decide)
  walk_at "ev"
  rw [e7]
  walk_at "ev"
  obtain ⟨ls, y6, y8, ω5, e5, g5, h5, l5, l6⟩ := Z2t (b := b) (w := 4) none none none (rngU 0 (1 + f).toNat) [0] none none ω7 g7 (fun x hx => by simp at hx; subst hx; unfold Dg; lia) (by rw [rngU_len]; simp; lia)
  simp only [List.map_cons, List.map_nil, List.length_cons, List.length_nil, rngU_len] at e5 l5 l6
  rw [e5]
  walk_at "ev"
  obtain ⟨ds, ω8, e8, g8, n8, l8, h8⟩ := Z7o (b := b) (w := 4) (ls := ls) none none y6 none y8 g5 h5 (by lia)
  exact ⟨b, ds, ω8, e8, g8, b2, b9, n8, l8, h8⟩
 ·obtain ⟨f, ω7, e7, g7, f0, f1⟩ := Z0f g4 (most := 8) (by decide) (by decide)
  walk_at "ev"
  rw [e7]
  walk_at "ev"
  obtain ⟨ls, y6, y8, ω5, e5, g5, h5, l5, l6⟩ := Z2t (b := b) (w := 5) none none none (rngU 0 (1 + f).toNat) [0] none none ω7 g7 (fun x hx => by simp at hx; subst hx; unfold Dg; lia) (by rw [rngU_len]; simp; lia)
  simp only [List.map_cons, List.map_nil, List.length_cons, List.length_nil, rngU_len] at e5 l5 l6
  rw [e5]
  walk_at "ev"
  obtain ⟨ds, ω8, e8, g8, n8, l8, h8⟩ := Z7o (b := b) (w := 5) (ls := ls) none none y6 none y8 g5 h5 (by lia)
  exact ⟨b, ds, ω8, e8, g8, b2, b9, n8, l8, h8⟩
structure Pp (m : Int) (ps : Ps) : Prop where
 pap : Pap (m + 3) 100 ps
 shp : Shp (kyI ps)
theorem Z9o {b m : Int} (b2 : 2 <= b) (b1 : b < 1000) (m0 : 0 <= m) (m1 : m <= 40) {ds : List Int} (hd : ∀ d ∈ ds, -m <= d /\ d <= m) (A0 C z6 z7 z8 z9 z10 : Option U) (ω : Om) : ∀ (xs : List Int) (ps : Ps) (y : Option U), (∀ x ∈ xs, -m <= x /\ x <= m) -> (kyI ps ++ xs).Nodup -> Pap m 90 ps ->
  ∃ ps' y', forU (Z1r (Z0i 5) Z9j) (xs.map U.int) [A0, some (.int b), some (.tup (ds.map U.int)), C, some (dicI ps), y, z6, z7, z8, z9, z10] ω = .nx [A0, some (.int b), some (.tup (ds.map U.int)), C, some (dicI ps'), y', z6, z7, z8, z9, z10] ω /\ Pap m 90 ps' /\ kyI ps' = kyI ps ++ xs
 | [], ps, y, _, _, h => ⟨ps, y, rfl, h, by simp⟩
 | x :: xs, ps, y, hx, hnd, h => by
  have x1 := hx x (by simp)
  have pl := h.len
  obtain ⟨r, er, lr⟩ := Zpm b2 b1 (B := m) m0 (by lia) (n := x) (ds := ds) x1 hd ω
  obtain ⟨r', es, ls⟩ := Zdz (r := r) ω
  have hn : x ∉ kyI ps := fun z => (List.nodup_append.mp hnd).2.2 x z x (by simp) rfl
  obtain ⟨ps', y', e, k1, k2⟩ := Z9o b2 b1 m0 m1 hd A0 C z6 z7 z8 z9 z10 ω xs (putI ps x (.tup (r'.map U.int))) (some (.int x)) (fun q hq => hx q (List.mem_cons_of_mem _ hq)) (by rw [Z9d hn]; simpa using hnd) (h.put x1.1 x1.2 (by lia))
  refine ⟨ps', y', ?_, k1, by rw [k2, Z9d hn]; simp⟩
  rw [List.map_cons, forU, Z9j]
  walk_at "ev"
  rw [er]
  walk_at "ev"
  rw [es]
  walk_at "ev"
  rw [<- Z9j]
  exact e
structure P0 (m : Int) (ps : Ps) : Prop where
 pap : Pap m 90 ps
 ky : kyI ps = rgz m
theorem P0.mem {m n : Int} {ps : Ps} (h : P0 m ps) (m0 : 0 <= m) (h1 : -m <= n) (h2 : n <= m) : n ∈ kyI ps := by rw [h.ky]; exact (Z16 m0).mpr ⟨h1, h2⟩
theorem P0.pp {m : Int} {ps : Ps} (h : P0 m ps) : Pp m ps := ⟨h.pap.mono (by lia) (by decide), Zdk (by rw [h.ky]; exact Z2s m)⟩
theorem P0.put {m k : Int} {ps : Ps} {row : List Int} (h : P0 m ps) (m0 : 0 <= m) (h1 : -m <= k) (h2 : k <= m) (hl : row.length <= 100) : Pp m (putI ps k (.tup (row.map U.int))) /\ kyI (putI ps k (.tup (row.map U.int))) = rgz m := by
 have e : kyI (putI ps k (.tup (row.map U.int))) = rgz m := by rw [<- h.ky]; exact Z46 (h.mem m0 h1 h2)
 exact ⟨⟨(h.pap.mono (m' := m + 3) (N' := 100) (by lia) (by decide)).put (by lia) (by lia) hl, Zdk (by rw [e]; exact Z2s m)⟩, e⟩
abbrev e11 (b m : Int) (ds : List Int) (p0 : Ps) (y5 : Option U) (pl : List Ps) (y7 y8 y9 y10 : Option U) : En := [some .pile, some (.int b), some (.tup (ds.map U.int)), some (.int m), some (dicI p0), y5, some (.lst (pl.map dicI)), y7, y8, y9, y10]
theorem Zki {b m : Int} (b2 : 2 <= b) (b1 : b <= 10) (m0 : 0 <= m) (m1 : m <= 40) {ds : List Int} {p0 : Ps} (h : P0 m p0) (y5 : Option U) {pl : List Ps} (hl : pl.length <= 100) (y7 y8 y9 y10 : Option U) {ω : Om} (g : Gd ω) {t : Int} (t0 : 0 <= t) (t1 : t < 6) :
  ∃ (q : Ps) (z8 z9 z10 : Option U) (ω' : Om), Z1r (Z0i 7) Z9k (.int t) (e11 b m ds p0 y5 pl y7 y8 y9 y10) ω = .nx (e11 b m ds p0 y5 (pl ++ [q]) (some (.int t)) z8 z9 z10) ω' /\ Gd ω' /\ Pp m q := by
 have pln := h.pap.len
 obtain ⟨u, ω1, e1, g1, u0, u1⟩ := Z0f g (most := 2 * m + 1) (by lia) (by lia)
 obtain ⟨v, ω2, e2, g2, v0, v1⟩ := Z0f g1 (most := 2 * m + 1) (by lia) (by lia)
 have ku := h.mem (n := u - m) m0 (by lia) (by lia)
 have kv := h.mem (n := v - m) m0 (by lia) (by lia)
 obtain ⟨ru, eu, lu⟩ := h.pap.get ku
 obtain ⟨rv, ev, lv⟩ := h.pap.get kv
 have ap : ∀ q : Ps, pl.map dicI ++ [dicI q] = (pl ++ [q]).map dicI := fun q => by simp
 rw [Z9k]
 unfold e11
 walk_at "ev"
 rw [e1]
 walk_at "ev"
 rw [e2]
 walk_at "ev"
 rcases (show t = 0 \/ t = 1 \/ t = 2 \/ t = 3 \/ t = 4 \/ t = 5 by lia) with rfl | rfl | rfl | rfl | rfl | rfl
 ·have hs : (asc p0 (u - m)).isSome = true := by rw [eu]; rfl
  walk_at "ev"
  rw [ap]
  exact ⟨_, _, _, _, _, rfl, g2, h.pp.pap.drop, by rw [Zdl]; exact Zdk ((by rw [h.ky]; exact Z2s m : (kyI p0).Pairwise (· < ·)).sublist List.filter_sublist)⟩
 ·obtain ⟨w, ω3, e3, g3, w0, w1⟩ := Z0f g2 (most := 3) (by decide) (by decide)
  have hn : m + 1 + w ∉ kyI p0 := fun z => by rw [h.ky, Z16 m0] at z; lia
  walk_at "ev"
  rw [e3]
  walk_at "ev"
  rw [ap]
  refine ⟨_, _, _, _, _, rfl, g3, h.pp.pap.put (row := [1]) (by lia) (by lia) (by decide), ?_⟩
  rw [show kyI (putI p0 (m + 1 + w) (U.tup [U.int 1])) = kyI p0 ++ [m + 1 + w] from Z9d hn, h.ky]
  exact Zdk (Zhc (Z2s m) fun x hx => by have := (Z16 m0).mp hx; lia)
 ·walk_at "ev"
  rw [eu]
  walk_at "ev"
  rw [ap, show ru.map U.int ++ [U.int 0] = (ru ++ [0]).map U.int by simp]
  exact ⟨_, _, _, _, _, rfl, g2, (h.put m0 (by lia) (by lia) (by simp; lia)).1⟩
 ·walk_at "ev"
  rw [ap]
  exact ⟨_, _, _, _, _, rfl, g2, (h.put (row := [u - m - b * (m + 1), m + 1]) m0 (by lia) (by lia) (by simp)).1⟩
 ·walk_at "ev"
  rw [ev]
  walk_at "ev"
  rw [ap]
  exact ⟨_, _, _, _, _, rfl, g2, (h.put m0 (by lia) (by lia) (by lia)).1⟩
 ·walk_at "ev"
  rw [ev]
  walk_at "ev"
  rw [eu]
  walk_at "ev"
  obtain ⟨c1, c2⟩ := h.put (k := u - m) (row := rv) m0 (by lia) (by lia) (by lia)
  have l1 := c1.pap.len
  walk_at "ev"
  rw [ap]
  refine ⟨_, _, _, _, _, rfl, g2, c1.pap.put (row := ru) (by lia) (by lia) (by lia), ?_⟩
  rw [show kyI (putI (putI p0 (u - m) (U.tup (rv.map U.int))) (v - m) (U.tup (ru.map U.int))) = kyI (putI p0 (u - m) (U.tup (rv.map U.int))) from Z46 (by rw [show List.map (·.1) (putI p0 (u - m) (U.tup (rv.map U.int))) = rgz m from c2]; exact (Z16 m0).mpr (by lia)), c2]
  exact Zdk (Z2s m)
theorem Zpn {b m : Int} (b2 : 2 <= b) (b1 : b <= 10) (m0 : 0 <= m) (m1 : m <= 40) {ds : List Int} {p0 : Ps} (h : P0 m p0) (y5 : Option U) : ∀ (ts : List Int) (pl : List Ps) (y7 y8 y9 y10 : Option U) (ω : Om), Gd ω -> (∀ t ∈ ts, 0 <= t /\ t < 6) -> pl.length + ts.length <= 100 -> (∀ q ∈ pl, Pp m q) ->
  ∃ (pl' : List Ps) (z7 z8 z9 z10 : Option U) (ω' : Om), forU (Z1r (Z0i 7) Z9k) (ts.map U.int) (e11 b m ds p0 y5 pl y7 y8 y9 y10) ω = .nx (e11 b m ds p0 y5 pl' z7 z8 z9 z10) ω' /\ Gd ω' /\ (∀ q ∈ pl', Pp m q) /\ pl'.length = pl.length + ts.length
 | [], pl, y7, y8, y9, y10, ω, g, _, _, hp => ⟨pl, y7, y8, y9, y10, ω, rfl, g, hp, by simp⟩
 | t :: ts, pl, y7, y8, y9, y10, ω, g, ht, hl, hp => by
  simp at hl
  obtain ⟨q, w8, w9, w10, ω1, e1, g1, hq⟩ := Zki (ds := ds) b2 b1 m0 m1 h y5 (pl := pl) (by lia) y7 y8 y9 y10 g (ht t (by simp)).1 (ht t (by simp)).2
  obtain ⟨pl', z7, z8, z9, z10, ω2, e2, g2, h2, l2⟩ := Zpn b2 b1 m0 m1 h y5 ts (pl ++ [q]) (some (.int t)) w8 w9 w10 ω1 g1 (fun z hz => ht z (List.mem_cons_of_mem _ hz)) (by simp; lia) (fun z hz => by
   rcases List.mem_append.mp hz with k | k
   ·exact hp z k
   ·simp at k; subst k; exact hq)
  refine ⟨pl', z7, z8, z9, z10, ω2, ?_, g2, h2, by simp at l2 ⊢; lia⟩
  rw [List.map_cons, forU, e1]
  exact e2
theorem cut_to {r : List Int} {k : Int} (h0 : 0 <= k) : cutG (r.map U.int) none (some k) = (r.take k.toNat).map U.int := by
 unfold cutG
 simp only [HT.sIx]
 rw [if_neg (by lia)]
 simp only [List.drop_zero, Nat.sub_zero, List.length_map]
 rw [<- List.map_take]
 congr 1
 rw [List.take_eq_take_iff]
 lia
theorem Zg8 {r : List Int} {k : Int} (h0 : 0 <= k) : cutG (r.map U.int) (some k) none = (r.drop k.toNat).map U.int := by
 unfold cutG
 simp only [HT.sIx]
 rw [if_neg (by lia)]
 rw [List.take_of_length_le (by simp)]
 rw [<- List.map_drop]
 congr 1
 simp only [List.length_map]
 by_cases c : k.toNat <= r.length
 ·rw [Nat.min_eq_left c]
 ·rw [Nat.min_eq_right (by lia), List.drop_length, List.drop_eq_nil_of_le (by lia)]
abbrev e15 (b m : Int) (ds : List Int) (p0 : Ps) (a f : Int) (q1 q2 : Ps) (c d : Int) (pl : List Ps) (y12 y13 y14 : Option U) : En := [some .pile, some (.int b), some (.tup (ds.map U.int)), some (dicI p0), some (.int m), some (.int a), some (.int f), some (dicI q1), some (dicI q2), some (.int c), some (.int d), some (.lst (pl.map dicI)), y12, y13, y14]
theorem Z7p {b m a f c d : Int} (m0 : 0 <= m) (m1 : m <= 40) {ds : List Int} {p0 : Ps} (h : P0 m p0) (a0 : -m <= a) (a1 : a <= m) (q1 q2 : Ps) (y12 : Option U) (ω : Om) : ∀ (rs : List (List Int)) (pl : List Ps) (y13 y14 : Option U), (∀ r ∈ rs, r.length <= 100) -> pl.length + rs.length <= 100 -> (∀ q ∈ pl, Pp m q) ->
  ∃ (pl' : List Ps) (z13 z14 : Option U), forU (Z1r (Z0i 13) Z7l) (rs.map fun r => U.tup (r.map U.int)) (e15 b m ds p0 a f q1 q2 c d pl y12 y13 y14) ω = .nx (e15 b m ds p0 a f q1 q2 c d pl' y12 z13 z14) ω /\ (∀ q ∈ pl', Pp m q) /\ pl'.length = pl.length + rs.length
 | [], pl, y13, y14, _, _, hp => ⟨pl, y13, y14, rfl, hp, by simp⟩
 | r :: rs, pl, y13, y14, hr, hl, hp => by
  simp at hl
  have pln := h.pap.len
  obtain ⟨c1, c2⟩ := h.put (k := a) (row := r) m0 a0 a1 (hr r (by simp))
  obtain ⟨pl', z13, z14, e, k1, k2⟩ := Z7p (b := b) (f := f) (c := c) (d := d) (ds := ds) m0 m1 h a0 a1 q1 q2 y12 ω rs (pl ++ [putI p0 a (.tup (r.map U.int))]) (some (.tup (r.map U.int))) none (fun z hz => hr z (List.mem_cons_of_mem _ hz)) (by simp; lia) (fun z hz => by
   rcases List.mem_append.mp hz with k | k
   ·exact hp z k
   ·simp at k; subst k; exact c1)
  refine ⟨pl', z13, z14, ?_, k1, by simp at k2 ⊢; lia⟩
  rw [List.map_cons, forU, Z7l]
  unfold e15 at e ⊢
  walk_at "ev"
  rw [show pl.map dicI ++ [dicI (putI p0 a (.tup (r.map U.int)))] = (pl ++ [putI p0 a (.tup (r.map U.int))]).map dicI by simp, <- Z7l]
  exact e
def T6 : Sf := (sSeq (sFor (iOf (eOp uAdd (eVar 12) (eLst (Z01 (eOp uAdd (eOp uRep (eTup (Z01 (eC (.int 0)) aNil)) (eC (.int 80))) (eTup (Z01 (eVar 10) (Z01 (eVar 10) aNil)))) aNil)))) (Z0i 13) Z7l)
   (sRet (eVar 11)))
def T7 : Sf := (sSeq (sSet 12 (eLst (Z01 (eOp uAdd (eSl uSl (eOp Z1p (eVar 3) (eVar 5)) pNo (Z2f (eVar 9))) (eTup (Z01 (Z0h F_q7 (Z01 (eVar 1) (Z01 (eSl uSl (eOp Z1p (eVar 3) (eVar 5)) (Z2f (eVar 9)) pNo) aNil))) aNil))) (Z01 (eTup (Z01 (eOp uSub (eVar 5) (eOp uMul (eVar 1) (eVar 10))) (Z01 (eVar 10) aNil))) aNil))))
   T6)
def T8 : Sf := (sSeq (sSet 11 (eLst (Z01 (eB uDOf (Z01 (Z2k (iOf (eRev (eB Z3a (Z01 (eVar 3) aNil)) (Z2f (eUn uNeg (eC (.int 1)))))) 1 [3] (Z0i 0) Z14 (eTup (Z01 (eVar 0) (Z01 (eOp Z1p (eVar 1) (eVar 0)) aNil)))) aNil)) (Z01 (eVar 7) (Z01 (eVar 8) aNil)))))
   T7)
theorem Zrq {b m a f c d : Int} (m0 : 0 <= m) (m1 : m <= 40) {ds : List Int} {p0 : Ps} (h : P0 m p0) (a0 : -m <= a) (a1 : a <= m) (q1 q2 : Ps) {pl : List Ps} {r1 r2 : List Int} (hr1 : r1.length <= 100) (hr2 : r2.length <= 100) (hl : pl.length <= 50) (hp : ∀ q ∈ pl, Pp m q) (ω : Om) :
  ∃ pl' : List Ps, endF (T6 (e15 b m ds p0 a f q1 q2 c d pl (some (.lst [.tup (r1.map U.int), .tup (r2.map U.int)])) none none) ω) = .ok (.lst (pl'.map dicI)) ω /\ (∀ q ∈ pl', Pp m q) /\ pl'.length = pl.length + 3 := by
 obtain ⟨pl', z13, z14, e, k1, k2⟩ := Z7p (b := b) (f := f) (c := c) (d := d) (ds := ds) m0 m1 h a0 a1 q1 q2 (some (.lst [.tup (r1.map U.int), .tup (r2.map U.int)])) ω [r1, r2, List.replicate 80 0 ++ [d, d]] pl none none (fun r hr => by
  simp at hr
  rcases hr with rfl | rfl | rfl
  ·exact hr1
  ·exact hr2
  ·simp) (by simp; lia) hp
 refine ⟨pl', ?_, k1, k2⟩
 rw [T6]
 unfold e15 at e ⊢
 walk_at "ev"
 exact (congrArg (fun z => endF (Zcb (sRet (eVar 11)) z)) e).trans (by walk_at "ev")
theorem Zrr {b m a f c d : Int} (b2 : 2 <= b) (b1 : b <= 10) (m0 : 0 <= m) (m1 : m <= 40) {ds : List Int} {p0 : Ps} (h : P0 m p0) (a0 : -m <= a) (a1 : a <= m) (c0 : 0 <= c) (hd : Dg d) (q1 q2 : Ps) {pl : List Ps} (hl : pl.length <= 50) (hp : ∀ q ∈ pl, Pp m q) (ω : Om) :
  ∃ pl' : List Ps, endF (T7 (e15 b m ds p0 a f q1 q2 c d pl none none none) ω) = .ok (.lst (pl'.map dicI)) ω /\ (∀ q ∈ pl', Pp m q) /\ pl'.length = pl.length + 3 := by
 obtain ⟨r, er, lr⟩ := h.pap.get (h.mem m0 a0 a1)
 have hd1 := hd.1
 have hd2 := hd.2
 obtain ⟨pl', e, k1, k2⟩ := Zrq (b := b) (f := f) (c := c) (d := d) (ds := ds) m0 m1 h a0 a1 q1 q2 (pl := pl) (r1 := r.take c.toNat ++ [wth b (r.drop c.toNat)]) (r2 := [a - b * d, d]) (by simp; lia) (by simp) hl hp ω
 refine ⟨pl', ?_, k1, k2⟩
 rw [T7]
 unfold e15 at e ⊢
 walk_at "ev"
 rw [er]
 walk_at "ev"
 rw [cut_to c0, Zg8 c0, Zdu (by lia) (by lia)]
 walk_at "ev"
 rw [show (r.take c.toNat).map U.int ++ [U.int (wth b (r.drop c.toNat))] = (r.take c.toNat ++ [wth b (r.drop c.toNat)]).map U.int by simp]
 exact e
theorem Zg9 {m : Int} {N : Nat} {p0 : Ps} (hp : Pap m N p0) {xs : List Int} (hx : ∀ x ∈ xs, x ∈ kyI p0) (ω : Om) : cmpU (cstU (Z0i 0) Z14 (eTup (Z01 (eVar 0) (Z01 (eOp Z1p (eVar 1) (eVar 0)) aNil))) [none, some (dicI p0)]) (xs.map U.int) ω = .ok (xs.map fun x => U.tup [.int x, (asc p0 x).getD .non]) ω := by
 refine (Z1h (f := fun x => some (U.tup [.int x, (asc p0 x).getD .non])) fun x hxm => ?_).trans (by rw [<- List.filterMap_eq_map]; rfl)
 obtain ⟨r, er, lr⟩ := hp.get (hx x hxm)
 walk_at "ev"
 rw [er]
 walk_at "ev"
theorem Zrs {b m a f c d : Int} (b2 : 2 <= b) (b1 : b <= 10) (m0 : 0 <= m) (m1 : m <= 40) {ds : List Int} {p0 : Ps} (h : P0 m p0) (a0 : -m <= a) (a1 : a <= m) (c0 : 0 <= c) (hd : Dg d) {q1 q2 : Ps} (h1 : Pp m q1) (h2 : Pp m q2) (ω : Om) :
  ∃ pl' : List Ps, endF (T8 [some .pile, some (.int b), some (.tup (ds.map U.int)), some (dicI p0), some (.int m), some (.int a), some (.int f), some (dicI q1), some (dicI q2), some (.int c), some (.int d), none, none, none, none] ω) = .ok (.lst (pl'.map dicI)) ω /\ (∀ q ∈ pl', Pp m q) /\ pl'.length = 6 := by
 have pln := h.pap.len
 have hk := h.ky
 have hnd : (rgz m).reverse.Nodup := (List.reverse_perm _).nodup_iff.mpr (by rw [<- hk]; exact h.pap.nd)
 have hkl : (kyI p0).length = p0.length := List.length_map _
 have hs : Sbl (p0.map (·.1)) := .inr ⟨by rw [List.length_map]; lia, h.pp.shp⟩
 have esrt : srt (p0.map (·.1)) = rgz m := (Z8e m0 h.pap.nd).mpr ⟨by rw [show p0.map (·.1) = rgz m from hk, Z8c]; lia, fun z z1 z2 => by rw [show p0.map (·.1) = rgz m from hk]; exact (Z16 m0).mpr ⟨z1, z2⟩⟩
 have ky : kyI ((rgz m).reverse.map fun x => (x, (asc p0 x).getD .non)) = (rgz m).reverse := by unfold kyI; rw [List.map_map]; exact List.map_id' _
 have pq : Pp m ((rgz m).reverse.map fun x => (x, (asc p0 x).getD .non)) := by
  refine ⟨⟨by rw [show List.map (·.1) ((rgz m).reverse.map fun x => (x, (asc p0 x).getD U.non)) = _ from ky]; exact hnd, fun p hp => ?_, fun p hp => ?_⟩, .inr (.inl ?_)⟩
  ·obtain ⟨x, hx, rfl⟩ := List.mem_map.mp hp
   have := (Z16 m0).mp (List.mem_reverse.mp hx)
   exact ⟨by show _ <= x; lia, by show x <= _; lia⟩
  ·obtain ⟨x, hx, rfl⟩ := List.mem_map.mp hp
   obtain ⟨r, er, lr⟩ := h.pap.get (k := x) (by rw [show p0.map (·.1) = rgz m from hk]; exact List.mem_reverse.mp hx)
   exact ⟨r, by show (asc p0 x).getD U.non = _; rw [er]; rfl, by lia⟩
  ·rw [ky, List.pairwise_reverse]; exact Z2s m
 obtain ⟨pl', e, k1, k2⟩ := Zrr (f := f) (c := c) (d := d) (ds := ds) b2 b1 m0 m1 h a0 a1 c0 hd q1 q2 (pl := [(rgz m).reverse.map fun x => (x, (asc p0 x).getD .non), q1, q2]) (by simp) (fun q hq => by
  simp at hq
  rcases hq with rfl | rfl | rfl
  ·simpa using pq
  ·exact h1
  ·exact h2) ω
 refine ⟨pl', ?_, k1, k2⟩
 rw [T8]
 walk_at "ev"
 rw [Z9c hs, esrt]
 walk_at "ev"
 have hrl : (rgz m).length <= 81 := by rw [Z8c]; lia
 rw [show uRev (U.lst ((rgz m).map U.int)) (some (-1)) = some (.lst (((rgz m).reverse).map U.int)) from by rw [List.map_reverse]; rfl]
 walk_at "ev"
 rw [Zg9 h.pap (fun x hx => by rw [hk]; exact List.mem_reverse.mp hx)]
 walk_at "ev"
 rw [Zox (Zhd (fun x => (asc p0 x).getD .non) (rgz m).reverse) (by simp; lia), Zp1 (by have z := hnd; rw [<- ky] at z; exact z)]
 walk_at "ev"
 unfold e15 at e
 exact e
structure BD (b : Int) (ds : List Int) : Prop where
 b2 : 2 <= b
 b1 : b <= 10
 ne : ds ≠ []
 ln : ds.length <= 60
 dg : ∀ d ∈ ds, Dg d
theorem BD.far {b : Int} {ds : List Int} (h : BD b ds) : far ds <= 40 := Zoy (by decide) h.dg
theorem Zpo {b : Int} {ds : List Int} (h : BD b ds) {p0 : Ps} (hp : P0 (far ds) p0) {ω : Om} (g : Gd ω) : ∃ (pl : List Ps) (ω' : Om), F_q1 [.pile, .int b, .tup (ds.map U.int), dicI p0] ω = .ok (.lst (pl.map dicI)) ω' /\ Gd ω' /\ (∀ q ∈ pl, Pp (far ds) q) /\ pl.length = 6 := by
 have b2 := h.b2
 have b1 := h.b1
 have f0 := Z2r ds
 have f1 := h.far
 have hln := h.ln
 have hlp : 0 < ds.length := List.length_pos_iff.mpr h.ne
 have pln := hp.pap.len
 obtain ⟨a, ω1, e1, g1, a0, a1⟩ := Z0f g (most := 2 * far ds + 1) (by lia) (by lia)
 obtain ⟨p, ω2, e2, g2, p0', p1⟩ := Z0f g1 (most := 3) (by decide) (by decide)
 obtain ⟨q, ω3, e3, g3, q0, q1⟩ := Z0f g2 (most := 3) (by decide) (by decide)
 obtain ⟨r, ω4, e4, g4, r0, r1⟩ := Z0f g3 (most := 2) (by decide) (by decide)
 obtain ⟨f, ef, hf⟩ : ∃ f : Int, ([far ds + 1 + p, 0 - far ds - 1 - q] : List Int).getD r.toNat 0 = f /\ ((far ds < f /\ f <= far ds + 3) \/ (f < -far ds /\ -(far ds + 3) <= f)) := by
  rcases (show r = 0 \/ r = 1 by lia) with rfl | rfl
  ·exact ⟨far ds + 1 + p, rfl, by lia⟩
  ·exact ⟨0 - far ds - 1 - q, rfl, by lia⟩
 obtain ⟨w, ew, lw⟩ := Zpm b2 (by lia) (B := far ds + 3) (by lia) (by lia) (n := f) (ds := ds) (by lia) (fun d hd => by have := Zdi hd; lia) ω4
 obtain ⟨w', ew', lw'⟩ := Zdz (r := w) ω4
 have hn : f ∉ kyI p0 := fun z => by rw [hp.ky, Z16 f0] at z; lia
 have ky1 : kyI (putI p0 f (.tup (w'.map U.int))) = rgz (far ds) ++ [f] := by rw [Z9d hn, hp.ky]
 have ris : Ris (rgz (far ds) ++ [f]) := by
  rcases hf with hf | hf
  ·exact .inl (Zhc (Z2s _) fun x hx => by have := (Z16 f0).mp hx; lia)
  ·exact .inr ⟨rgz (far ds), f, rfl, Z2s _, fun x hx => by have := (Z16 f0).mp hx; lia⟩
 have h1 : Pp (far ds) (putI p0 f (.tup (w'.map U.int))) := ⟨(hp.pap.mono (m' := far ds + 3) (N' := 100) (by lia) (by decide)).put (by lia) (by lia) (by lia), by rw [ky1]; exact ris.shp⟩
 have h2 : Pp (far ds) (Z32 (putI p0 f (.tup (w'.map U.int))) (a - far ds)) := ⟨h1.pap.drop, by rw [Zdl, ky1]; exact ris.drop.shp⟩
 have ka := hp.mem (n := a - far ds) f0 (by lia) (by lia)
 obtain ⟨ra, ea, la⟩ := hp.pap.get ka
 have ea1 : asc (putI p0 f (.tup (w'.map U.int))) (a - far ds) = some (.tup (ra.map U.int)) := by rw [Zk2, if_neg (by lia), ea]
 have hs : (asc (putI p0 f (.tup (w'.map U.int))) (a - far ds)).isSome = true := by rw [ea1]; rfl
 obtain ⟨c, ω5, e5, g5, c0, c1⟩ := Z0f g4 (most := ra.length + 1) (by lia) (by lia)
 obtain ⟨k, ω6, e6, g6, k0, k1⟩ := Z0f g5 (most := ds.length) (by lia) (by lia)
 obtain ⟨d, ed, md⟩ : ∃ d, atI (ds.map U.int) k = some (.int d) /\ d ∈ ds := by
  refine ⟨ds[k.toNat]'(by lia), ?_, List.getElem_mem _⟩
  rw [Zca k0 (by simp; lia)]; simp
 obtain ⟨pl, e, k1', k2⟩ := Zrs (f := f) (c := c) (d := d) (ds := ds) b2 b1 f0 f1 hp (a := a - far ds) (by lia) (by lia) c0 (h.dg d md) h1 h2 ω6
 refine ⟨pl, ω6, ?_, g6, k1', k2⟩
 unfold F_q1 g_q1
 rw [<- T6, <- T7, <- T8]
 walk_at "ev"
 rw [Z3i]
 walk_at "ev"
 rw [Z5z h.ne]
 walk_at "ev"
 rw [e1]
 walk_at "ev"
 rw [e2]
 walk_at "ev"
 rw [e3]
 walk_at "ev"
 rw [e4]
 walk_at "ev"
 rw [ef, ew]
 walk_at "ev"
 rw [ew']
 walk_at "ev"
 rw [ea]
 walk_at "ev"
 rw [e5]
 walk_at "ev"
 rw [e6]
 walk_at "ev"
 rw [ed]
 walk_at "ev"
 exact e
theorem Zga {b : Int} {ds : List Int} (h : BD b ds) {ω : Om} (g : Gd ω) : ∃ (pl : List Ps) (ω' : Om), F_q8 [.pile, .int b, .tup (ds.map U.int)] ω = .ok (.lst (pl.map dicI)) ω' /\ Gd ω' /\ (∀ q ∈ pl, Pp (far ds) q) /\ pl.length <= 20 := by
 have b2 := h.b2
 have b1 := h.b1
 have f0 := Z2r ds
 have f1 := h.far
 have hln := h.ln
 obtain ⟨p0, y5, e1, k1, k2⟩ := Z9o b2 (by lia) f0 f1 (ds := ds) (fun d hd => Zdi hd) (some .pile) (some (.int (far ds))) none none none none none ω (rgz (far ds)) [] none (fun x hx => (Z16 f0).mp hx) (by rw [show kyI ([] : Ps) = [] from rfl, List.nil_append]; exact (Z2s (far ds)).imp fun h => Int.ne_of_lt h) Pap.nil
 have hp : P0 (far ds) p0 := ⟨k1, by simpa using k2⟩
 obtain ⟨pl, z7, z8, z9, z10, ω1, e2, g1, h1, l1⟩ := Zpn b2 b1 f0 f1 (ds := ds) hp y5 [0, 1, 2, 3, 4, 5] [p0, []] none none none none ω g (fun t ht => by simp at ht; lia) (by simp) (fun q hq => by
  simp at hq
  rcases hq with rfl | rfl
  ·exact hp.pp
  ·exact ⟨Pap.nil, Zk9⟩)
 obtain ⟨pl2, ω2, e3, g2, h2, l2⟩ := Zpo h hp g1
 simp at l1
 refine ⟨pl ++ pl2, ω2, ?_, g2, fun q hq => ?_, by simp; lia⟩
 ·unfold F_q8 g_q8
  walk_at "ev"
  rw [Z3i]
  walk_at "ev"
  rw [Z5z h.ne]
  walk_at "ev"
  rw [show (0 : Int) - far ds = -far ds by lia, Z8g (by lia)]
  rw [e1]
  walk_at "ev"
  unfold e11 at e2
  simp only [List.map_cons, List.map_nil] at e2
  rw [show rngU 0 6 = [U.int 0, U.int 1, U.int 2, U.int 3, U.int 4, U.int 5] from rfl, show dicI [] = dicI ([] : Ps) from rfl, e2]
  walk_at "ev"
  rw [e3]
  walk_at "ev"
  rw [List.map_append]
 ·rcases List.mem_append.mp hq with k | k
  ·exact h1 q k
  ·exact h2 q k
theorem dep0 : ∀ ns : List Int, L2.D.depths (ns.map L2.D.int) = 0
 | [] => by rw [List.map_nil, L2.D.depths]
 | n :: ns => by rw [List.map_cons, L2.D.depths, dep0 ns, L2.D.depth]; rfl; all_goals simp
theorem eqs0 : ∀ ns : List Int, L2.D.eqs (ns.map L2.D.int) (ns.map L2.D.int) = true
 | [] => by rw [List.map_nil, L2.D.eqs]
 | n :: ns => by rw [List.map_cons, L2.D.eqs, eqs0 ns, L2.D.eq]; simp
theorem Z7q : ∀ {us : List U}, (∀ u ∈ us, ∃ row : List Int, u = .tup (row.map U.int)) -> ∃ ds : List L2.D, U.toDs us = some ds /\ ds.length = us.length /\ L2.D.depths ds <= 3 /\ ∀ d ∈ ds, L2.D.eq d d = true
 | [], _ => ⟨[], by rw [U.toDs], rfl, by rw [L2.D.depths]; decide, fun ψ h => absurd h (by simp)⟩
 | u :: us, h => by
  obtain ⟨row, e⟩ := h u (by simp)
  obtain ⟨ds, e1, e2, e3, e4⟩ := Z7q fun v hv => h v (List.mem_cons_of_mem _ hv)
  subst e
  refine ⟨.tup (row.map L2.D.int) :: ds, ?_, by simp [e2], ?_, fun d hd => ?_⟩
  ·rw [U.toDs, U.toD, Z2n, e1]; rfl
  ·rw [L2.D.depths, L2.D.depth, dep0]; lia
  ·rcases List.mem_cons.mp hd with rfl | hd
   ·rw [L2.D.eq, eqs0]
   ·exact e4 d hd
theorem Zgb {m : Int} {N : Nat} {ps : Ps} (h : Pap m N ps) : uEqD true (dicI ps) (dicI ps) = some (.bl false) := by
 obtain ⟨ds, e1, e2, e3, e4⟩ := Z7q (us := ps.map (·.2)) fun u hu => by
  obtain ⟨p, hp, rfl⟩ := List.mem_map.mp hu
  obtain ⟨r, e, _⟩ := h.rw p hp
  exact ⟨r, e⟩
 unfold uEqD
 rw [asD_I]
 simp only [Option.bind_some]
 rw [e1]
 simp only [Option.bind_some]
 rw [if_pos (by lia), Zaj h.nd (by rw [e2, List.length_map, List.length_map]) e4]
 rfl
theorem Zrt {k : Bool} : uNe (.bl k) (.bl k) = some (.bl false) := by cases k <;> rfl
theorem look {b : Int} {ds : List Int} (h : BD b ds) (A0 A1 A2 : Option U) : ∀ (pl : List Ps) (y3 y6 y7 : Option U) (ω : Om), (∀ q ∈ pl, Pp (far ds) q) -> ∃ y3' y6' y7', forU (Z1r (Z0i 3) Z5x) (pl.map dicI) [A0, A1, A2, y3, some (.int b), some (.tup (ds.map U.int)), y6, y7] ω = .nx [A0, A1, A2, y3', some (.int b), some (.tup (ds.map U.int)), y6', y7'] ω
 | [], y3, y6, y7, ω, _ => ⟨y3, y6, y7, rfl⟩
 | ps :: pl, y3, y6, y7, ω, hp => by
  have b2 := h.b2
  have b1 := h.b1
  have f1 := h.far
  have hln := h.ln
  have hps := hp ps (by simp)
  have pln := hps.pap.len
  have f0 := Z2r ds
  have sb : Sbl (ps.map (·.1)) := .inr ⟨by rw [List.length_map]; lia, hps.shp⟩
  obtain ⟨y3', y6', y7', e⟩ := look h A0 A1 A2 pl (some (dicI ps)) (some (dicI ps)) (some (.bl (due b ds ps))) ω (fun q hq => hp q (List.mem_cons_of_mem _ hq))
  refine ⟨y3', y6', y7', ?_⟩
  rw [List.map_cons, forU, Z5x]
  walk_at "ev"
  rw [Zkf (by lia) (by lia) hps.pap (by decide) h.ne (by lia) (by lia), Zk8 hps.pap.nd]
  walk_at "ev"
  rw [Zkg (by lia) (by lia) hps.pap (by decide) h.ne (by lia) (by lia) sb]
  walk_at "ev"
  rw [Zrt]
  walk_at "ev"
  rw [Zgb hps.pap]
  walk_at "ev"
  rw [<- Z5x]
  exact e
theorem Z9p : ∀ (xs : List U) (e2 e3 e4 e5 e6 e7 : Option U) (ω : Om), Gd ω -> ∃ (f2 f3 f4 f5 f6 f7 : Option U) (ω' : Om), forU (Z1r (Z0i 2) Z5y) xs [none, some .pile, e2, e3, e4, e5, e6, e7] ω = .nx [none, some .pile, f2, f3, f4, f5, f6, f7] ω'
 | [], e2, e3, e4, e5, e6, e7, ω, g => ⟨e2, e3, e4, e5, e6, e7, ω, rfl⟩
 | x :: xs, e2, e3, e4, e5, e6, e7, ω, g => by
  obtain ⟨b, ds, ω1, q1, g1, b2, b9, ne, ln, hb⟩ := F_bd g
  have h : BD b ds := ⟨b2, b9, ne, ln, hb⟩
  obtain ⟨pl, ω2, q2, g2, hpl, lpl⟩ := Zga h g1
  obtain ⟨y3, y6, y7, q3⟩ := look h none (some .pile) (some x) pl e3 e6 e7 ω2 hpl
  obtain ⟨f2, f3, f4, f5, f6, f7, ω', q4⟩ := Z9p xs (some x) y3 (some (.int b)) (some (.tup (ds.map U.int))) y6 y7 ω2 g2
  refine ⟨f2, f3, f4, f5, f6, f7, ω', ?_⟩
  rw [forU, Z5y]
  walk_at "ev"
  rw [q1]
  walk_at "ev"
  rw [q2]
  walk_at "ev"
  rw [q3]
  walk_at "ev"
  rw [<- Z5y]
  exact q4
theorem Zgc (ns : List Int) (_ : ns.length <= 63) : ∃ ω', endF (Zg3 (none :: some .pile :: List.replicate (Z8f.length - 2) none) ⟨ns, Z48⟩) = .ok (.bl true) ω' := by
 have g : Gd ⟨ns, Z48⟩ := ⟨0, 0, 40213, 0, rfl, by decide, by decide, by decide⟩
 obtain ⟨f2, f3, f4, f5, f6, f7, ω', e⟩ := Z9p (rngU 0 3) none none none none none none ⟨ns, Z48⟩ g
 refine ⟨ω', ?_⟩
 unfold Zg3
 rw [show (none :: some U.pile :: List.replicate (Z8f.length - 2) none : En) = [none, some .pile, none, none, none, none, none, none] from rfl]
 walk_at "ev"
 rw [e]
 walk_at "ev"
end EvBlock
end My
set_option maxHeartbeats 0
open PySem PySem.W PyProof.Rows
open_top hd for PySem.Challenge.rw_mixedscales_k27_digits_papers_looked_at
set_option maxHeartbeats 8000000
namespace My
open PySem L2 PyProof.Rows
theorem us_1 {fd : FuncData} {ps : List Str} (h : ∀ a0, bindArgs fd ⟨[a0], []⟩ = pure (ps.zip [a0])) : ∀ us : List Value, us.length = 1 -> bindArgs fd ⟨us, []⟩ = pure (ps.zip us)
 | [a0], _ => h a0
theorem us_2 {fd : FuncData} {ps : List Str} (h : ∀ a0 a1, bindArgs fd ⟨[a0, a1], []⟩ = pure (ps.zip [a0, a1])) : ∀ us : List Value, us.length = 2 -> bindArgs fd ⟨us, []⟩ = pure (ps.zip us)
 | [a0, a1], _ => h a0 a1
theorem us_3 {fd : FuncData} {ps : List Str} (h : ∀ a0 a1 a2, bindArgs fd ⟨[a0, a1, a2], []⟩ = pure (ps.zip [a0, a1, a2])) : ∀ us : List Value, us.length = 3 -> bindArgs fd ⟨us, []⟩ = pure (ps.zip us)
 | [a0, a1, a2], _ => h a0 a1 a2
theorem us_4 {fd : FuncData} {ps : List Str} (h : ∀ a0 a1 a2 a3, bindArgs fd ⟨[a0, a1, a2, a3], []⟩ = pure (ps.zip [a0, a1, a2, a3])) : ∀ us : List Value, us.length = 4 -> bindArgs fd ⟨us, []⟩ = pure (ps.zip us)
 | [a0, a1, a2, a3], _ => h a0 a1 a2 a3
theorem Zpp {l : PySem.W.OpenLaw} {w : World} {K : L2.Fg} {h : Heap} {mg : L2.SV} {fa  f_q9 f_q11 f_q10 f_q13 f_q12 f_q3 f_q0 f_q7 f_q6 f_q4 f_q5 f_q1 f_q8 f_q2 f_law  : Addr} (X : K.In h) (G : h.Ns mainGlobals mg) (hfa : mg "law" = some (.ref fa))
  {od_q9 an_q9 od_q11 an_q11 od_q10 an_q10 od_q13 an_q13 od_q12 an_q12 od_q3 an_q3 od_q0 an_q0 od_q7 an_q7 od_q6 an_q6 od_q4 an_q4 od_q5 an_q5 od_q1 an_q1 od_q8 an_q8 od_q2 an_q2 od_law an_law : Option Addr} {sl_q9 sl_q11 sl_q10 sl_q13 sl_q12 sl_q3 sl_q0 sl_q7 sl_q6 sl_q4 sl_q5 sl_q1 sl_q8 sl_q2 sl_law : Array (Option Value)} {oc_q9 kV_q9 dc_q9 pm_q9 cd_q9 ct_q9 oc_q11 kV_q11 dc_q11 pm_q11 cd_q11 ct_q11 oc_q10 kV_q10 dc_q10 pm_q10 cd_q10 ct_q10 oc_q13 kV_q13 dc_q13 pm_q13 cd_q13 ct_q13 oc_q12 kV_q12 dc_q12 pm_q12 cd_q12 ct_q12 oc_q3 kV_q3 dc_q3 pm_q3 cd_q3 ct_q3 oc_q0 kV_q0 dc_q0 pm_q0 cd_q0 ct_q0 oc_q7 kV_q7 dc_q7 pm_q7 cd_q7 ct_q7 oc_q6 kV_q6 dc_q6 pm_q6 cd_q6 ct_q6 oc_q4 kV_q4 dc_q4 pm_q4 cd_q4 ct_q4 oc_q5 kV_q5 dc_q5 pm_q5 cd_q5 ct_q5 oc_q1 kV_q1 dc_q1 pm_q1 cd_q1 ct_q1 oc_q8 kV_q8 dc_q8 pm_q8 cd_q8 ct_q8 oc_q2 kV_q2 dc_q2 pm_q2 cd_q2 ct_q2 oc_law kV_law dc_law pm_law cd_law ct_law : Value}
  (a_q9 : PySem.W.nsIn K mainGlobals "farthest_of" = some (some (.ref f_q9)))
  (l_q9 : K.lookup f_q9 = some ⟨oc_q9, od_q9, .func (PySem.W.fnOf "farthest_of" "farthest_of" (Z0o s_q9) (Z0e s_q9) (Z05 s_q9) .none kV_q9 dc_q9 pm_q9 an_q9 cd_q9 ct_q9), sl_q9⟩)
  (c_q9 : PySem.W.codeIn K cd_q9 "farthest_of" = true)
  (k_q9 : PySem.W.keepIn K (.ref f_q9) = true)
  (a_q11 : PySem.W.nsIn K mainGlobals "is_writing" = some (some (.ref f_q11)))
  (l_q11 : K.lookup f_q11 = some ⟨oc_q11, od_q11, .func (PySem.W.fnOf "is_writing" "is_writing" (Z0o Zak) (Z0e Zak) (Z05 Zak) .none kV_q11 dc_q11 pm_q11 an_q11 cd_q11 ct_q11), sl_q11⟩)
  (c_q11 : PySem.W.codeIn K cd_q11 "is_writing" = true)
  (k_q11 : PySem.W.keepIn K (.ref f_q11) = true)
  (a_q10 : PySem.W.nsIn K mainGlobals "paper_shown" = some (some (.ref f_q10)))
  (l_q10 : K.lookup f_q10 = some ⟨oc_q10, od_q10, .func (PySem.W.fnOf "paper_shown" "paper_shown" (Z0o Zal) (Z0e Zal) (Z05 Zal) .none kV_q10 dc_q10 pm_q10 an_q10 cd_q10 ct_q10), sl_q10⟩)
  (c_q10 : PySem.W.codeIn K cd_q10 "paper_shown" = true)
  (k_q10 : PySem.W.keepIn K (.ref f_q10) = true)
  (a_q13 : PySem.W.nsIn K mainGlobals "_law_pile" = some (some (.ref f_q13)))
  (l_q13 : K.lookup f_q13 = some ⟨oc_q13, od_q13, .func (PySem.W.fnOf "_law_pile" "_law_pile" (Z0o Zam) (Z0e Zam) (Z05 Zam) .none kV_q13 dc_q13 pm_q13 an_q13 cd_q13 ct_q13), sl_q13⟩)
  (c_q13 : PySem.W.codeIn K cd_q13 "_law_pile" = true)
  (k_q13 : PySem.W.keepIn K (.ref f_q13) = true)
  (a_q12 : PySem.W.nsIn K mainGlobals "_law_next" = some (some (.ref f_q12)))
  (l_q12 : K.lookup f_q12 = some ⟨oc_q12, od_q12, .func (PySem.W.fnOf "_law_next" "_law_next" (Z0o Zao) (Z0e Zao) (Z05 Zao) .none kV_q12 dc_q12 pm_q12 an_q12 cd_q12 ct_q12), sl_q12⟩)
  (c_q12 : PySem.W.codeIn K cd_q12 "_law_next" = true)
  (k_q12 : PySem.W.keepIn K (.ref f_q12) = true)
  (a_q3 : PySem.W.nsIn K mainGlobals "_law_shuffled" = some (some (.ref f_q3)))
  (l_q3 : K.lookup f_q3 = some ⟨oc_q3, od_q3, .func (PySem.W.fnOf "_law_shuffled" "_law_shuffled" (Z0o s_q3) (Z0e s_q3) (Z05 s_q3) .none kV_q3 dc_q3 pm_q3 an_q3 cd_q3 ct_q3), sl_q3⟩)
  (c_q3 : PySem.W.codeIn K cd_q3 "_law_shuffled" = true)
  (k_q3 : PySem.W.keepIn K (.ref f_q3) = true)
  (a_q0 : PySem.W.nsIn K mainGlobals "_law_base_and_digits" = some (some (.ref f_q0)))
  (l_q0 : K.lookup f_q0 = some ⟨oc_q0, od_q0, .func (PySem.W.fnOf "_law_base_and_digits" "_law_base_and_digits" (Z0o s_q0) (Z0e s_q0) (Z05 s_q0) .none kV_q0 dc_q0 pm_q0 an_q0 cd_q0 ct_q0), sl_q0⟩)
  (c_q0 : PySem.W.codeIn K cd_q0 "_law_base_and_digits" = true)
  (k_q0 : PySem.W.keepIn K (.ref f_q0) = true)
  (a_q7 : PySem.W.nsIn K mainGlobals "_law_number" = some (some (.ref f_q7)))
  (l_q7 : K.lookup f_q7 = some ⟨oc_q7, od_q7, .func (PySem.W.fnOf "_law_number" "_law_number" (Z0o s_q7) (Z0e s_q7) (Z05 s_q7) .none kV_q7 dc_q7 pm_q7 an_q7 cd_q7 ct_q7), sl_q7⟩)
  (c_q7 : PySem.W.codeIn K cd_q7 "_law_number" = true)
  (k_q7 : PySem.W.keepIn K (.ref f_q7) = true)
  (a_q6 : PySem.W.nsIn K mainGlobals "_law_is_full" = some (some (.ref f_q6)))
  (l_q6 : K.lookup f_q6 = some ⟨oc_q6, od_q6, .func (PySem.W.fnOf "_law_is_full" "_law_is_full" (Z0o s_q6) (Z0e s_q6) (Z05 s_q6) .none kV_q6 dc_q6 pm_q6 an_q6 cd_q6 ct_q6), sl_q6⟩)
  (c_q6 : PySem.W.codeIn K cd_q6 "_law_is_full" = true)
  (k_q6 : PySem.W.keepIn K (.ref f_q6) = true)
  (a_q4 : PySem.W.nsIn K mainGlobals "_law_some_row" = some (some (.ref f_q4)))
  (l_q4 : K.lookup f_q4 = some ⟨oc_q4, od_q4, .func (PySem.W.fnOf "_law_some_row" "_law_some_row" (Z0o s_q4) (Z0e s_q4) (Z05 s_q4) .none kV_q4 dc_q4 pm_q4 an_q4 cd_q4 ct_q4), sl_q4⟩)
  (c_q4 : PySem.W.codeIn K cd_q4 "_law_some_row" = true)
  (k_q4 : PySem.W.keepIn K (.ref f_q4) = true)
  (a_q5 : PySem.W.nsIn K mainGlobals "_law_stripped" = some (some (.ref f_q5)))
  (l_q5 : K.lookup f_q5 = some ⟨oc_q5, od_q5, .func (PySem.W.fnOf "_law_stripped" "_law_stripped" (Z0o s_q5) (Z0e s_q5) (Z05 s_q5) .none kV_q5 dc_q5 pm_q5 an_q5 cd_q5 ct_q5), sl_q5⟩)
  (c_q5 : PySem.W.codeIn K cd_q5 "_law_stripped" = true)
  (k_q5 : PySem.W.keepIn K (.ref f_q5) = true)
  (a_q1 : PySem.W.nsIn K mainGlobals "_law_more_papers" = some (some (.ref f_q1)))
  (l_q1 : K.lookup f_q1 = some ⟨oc_q1, od_q1, .func (PySem.W.fnOf "_law_more_papers" "_law_more_papers" (Z0o s_q1) (Z0e s_q1) (Z05 s_q1) .none kV_q1 dc_q1 pm_q1 an_q1 cd_q1 ct_q1), sl_q1⟩)
  (c_q1 : PySem.W.codeIn K cd_q1 "_law_more_papers" = true)
  (k_q1 : PySem.W.keepIn K (.ref f_q1) = true)
  (a_q8 : PySem.W.nsIn K mainGlobals "_law_papers" = some (some (.ref f_q8)))
  (l_q8 : K.lookup f_q8 = some ⟨oc_q8, od_q8, .func (PySem.W.fnOf "_law_papers" "_law_papers" (Z0o s_q8) (Z0e s_q8) (Z05 s_q8) .none kV_q8 dc_q8 pm_q8 an_q8 cd_q8 ct_q8), sl_q8⟩)
  (c_q8 : PySem.W.codeIn K cd_q8 "_law_papers" = true)
  (k_q8 : PySem.W.keepIn K (.ref f_q8) = true)
  (a_q2 : PySem.W.nsIn K mainGlobals "_law_is_right" = some (some (.ref f_q2)))
  (l_q2 : K.lookup f_q2 = some ⟨oc_q2, od_q2, .func (PySem.W.fnOf "_law_is_right" "_law_is_right" (Z0o s_q2) (Z0e s_q2) (Z05 s_q2) .none kV_q2 dc_q2 pm_q2 an_q2 cd_q2 ct_q2), sl_q2⟩)
  (c_q2 : PySem.W.codeIn K cd_q2 "_law_is_right" = true)
  (k_q2 : PySem.W.keepIn K (.ref f_q2) = true)
  (a_law : PySem.W.nsIn K mainGlobals "law" = some (some (.ref f_law)))
  (l_law : K.lookup f_law = some ⟨oc_law, od_law, .func (PySem.W.fnOf "law" "law" (Z0o Z5w) (Z0e Z5w) (Z05 Z5w) .none kV_law dc_law pm_law an_law cd_law ct_law), sl_law⟩)
  (c_law : PySem.W.codeIn K cd_law "law" = true)
  (k_law : PySem.W.keepIn K (.ref f_law) = true)
  (n_len : PySem.W.nsIn K mainGlobals "len" = some none)
  (n_range : PySem.W.nsIn K mainGlobals "range" = some none)
  (n_sum : PySem.W.nsIn K mainGlobals "sum" = some none)
  (n_tuple : PySem.W.nsIn K mainGlobals "tuple" = some none)
  (n_list : PySem.W.nsIn K mainGlobals "list" = some none)
  (n_max : PySem.W.nsIn K mainGlobals "max" = some none)
  (n_min : PySem.W.nsIn K mainGlobals "min" = some none)
  (n_isinstance : PySem.W.nsIn K mainGlobals "isinstance" = some none)
  (n_int : PySem.W.nsIn K mainGlobals "int" = some none)
  (n_bool : PySem.W.nsIn K mainGlobals "bool" = some none)
  (n_abs : PySem.W.nsIn K mainGlobals "abs" = some none)
  (n_zip : PySem.W.nsIn K mainGlobals "zip" = some none)
  (n_enumerate : PySem.W.nsIn K mainGlobals "enumerate" = some none)
  (n_any : PySem.W.nsIn K mainGlobals "any" = some none)
  (n_all : PySem.W.nsIn K mainGlobals "all" = some none)
  (n_sorted : PySem.W.nsIn K mainGlobals "sorted" = some none)
  (n_set : PySem.W.nsIn K mainGlobals "set" = some none)
  (n_dict : PySem.W.nsIn K mainGlobals "dict" = some none)
  (n_reversed : PySem.W.nsIn K mainGlobals "reversed" = some none)
  (n_ValueError : PySem.W.nsIn K mainGlobals "ValueError" = some none)
  (i_ib : PySem.W.kitOne K (.type "int") (.type "bool") = some false)
  (i_bi : PySem.W.kitOne K (.type "bool") (.type "int") = some true)
  : ∃ fd : FuncData, (∀ (s : Shared) (v : Value), BindsTo s fd ⟨[v], []⟩ [("script", v)]) /\ ∀ base : Heap, K.In base -> base.Ns mainGlobals mg -> FnOk l.prog w K mg base CX0 4 fa fd ["script"] (Za7 K) := by
 have e := hfa.symm.trans (PySem.W.mg_of X G a_law)
 cases e
 have F_q9' := Z1d (st := s_q9) l_q9 c_q9 k_q9
 have b_q9' := F_q9'.binds (ps := p_q9) fun ψ ψ ψ ψ ψ ψ us hl => us_1 (fun ψ => rfl) us hl
 have m_q9 := PySem.W.mg_of X G a_q9
 have F_q11' := Z1d (st := Zak) l_q11 c_q11 k_q11
 have b_q11' := F_q11'.binds (ps := Zdm) fun ψ ψ ψ ψ ψ ψ us hl => us_4 (fun ψ ψ ψ ψ => rfl) us hl
 have m_q11 := PySem.W.mg_of X G a_q11
 have F_q10' := Z1d (st := Zal) l_q10 c_q10 k_q10
 have b_q10' := F_q10'.binds (ps := Zdo) fun ψ ψ ψ ψ ψ ψ us hl => us_3 (fun ψ ψ ψ => rfl) us hl
 have m_q10 := PySem.W.mg_of X G a_q10
 have F_q13' := Z1d (st := Zam) l_q13 c_q13 k_q13
 have b_q13' := F_q13'.binds (ps := Zdr) fun ψ ψ ψ ψ ψ ψ us hl => us_1 (fun ψ => rfl) us hl
 have m_q13 := PySem.W.mg_of X G a_q13
 have F_q12' := Z1d (st := Zao) l_q12 c_q12 k_q12
 have b_q12' := F_q12'.binds (ps := Z7k) fun ψ ψ ψ ψ ψ ψ us hl => us_2 (fun ψ ψ => rfl) us hl
 have m_q12 := PySem.W.mg_of X G a_q12
 have F_q3' := Z1d (st := s_q3) l_q3 c_q3 k_q3
 have b_q3' := F_q3'.binds (ps := p_q3) fun ψ ψ ψ ψ ψ ψ us hl => us_2 (fun ψ ψ => rfl) us hl
 have m_q3 := PySem.W.mg_of X G a_q3
 have F_q0' := Z1d (st := s_q0) l_q0 c_q0 k_q0
 have b_q0' := F_q0'.binds (ps := p_q0) fun ψ ψ ψ ψ ψ ψ us hl => us_1 (fun ψ => rfl) us hl
 have m_q0 := PySem.W.mg_of X G a_q0
 have F_q7' := Z1d (st := s_q7) l_q7 c_q7 k_q7
 have b_q7' := F_q7'.binds (ps := p_q7) fun ψ ψ ψ ψ ψ ψ us hl => us_2 (fun ψ ψ => rfl) us hl
 have m_q7 := PySem.W.mg_of X G a_q7
 have F_q6' := Z1d (st := s_q6) l_q6 c_q6 k_q6
 have b_q6' := F_q6'.binds (ps := p_q6) fun ψ ψ ψ ψ ψ ψ us hl => us_2 (fun ψ ψ => rfl) us hl
 have m_q6 := PySem.W.mg_of X G a_q6
 have F_q4' := Z1d (st := s_q4) l_q4 c_q4 k_q4
 have b_q4' := F_q4'.binds (ps := p_q4) fun ψ ψ ψ ψ ψ ψ us hl => us_3 (fun ψ ψ ψ => rfl) us hl
 have m_q4 := PySem.W.mg_of X G a_q4
 have F_q5' := Z1d (st := s_q5) l_q5 c_q5 k_q5
 have b_q5' := F_q5'.binds (ps := p_q5) fun ψ ψ ψ ψ ψ ψ us hl => us_1 (fun ψ => rfl) us hl
 have m_q5 := PySem.W.mg_of X G a_q5
 have F_q1' := Z1d (st := s_q1) l_q1 c_q1 k_q1
 have b_q1' := F_q1'.binds (ps := p_q1) fun ψ ψ ψ ψ ψ ψ us hl => us_4 (fun ψ ψ ψ ψ => rfl) us hl
 have m_q1 := PySem.W.mg_of X G a_q1
 have F_q8' := Z1d (st := s_q8) l_q8 c_q8 k_q8
 have b_q8' := F_q8'.binds (ps := p_q8) fun ψ ψ ψ ψ ψ ψ us hl => us_3 (fun ψ ψ ψ => rfl) us hl
 have m_q8 := PySem.W.mg_of X G a_q8
 have F_q2' := Z1d (st := s_q2) l_q2 c_q2 k_q2
 have b_q2' := F_q2'.binds (ps := p_q2) fun ψ ψ ψ ψ ψ ψ us hl => us_3 (fun ψ ψ ψ => rfl) us hl
 have m_q2 := PySem.W.mg_of X G a_q2
 have F_law' := Z1d (st := Z5w) l_law c_law k_law
 have z_len := PySem.W.mg_none_of X G n_len
 have z_range := PySem.W.mg_none_of X G n_range
 have z_sum := PySem.W.mg_none_of X G n_sum
 have z_tuple := PySem.W.mg_none_of X G n_tuple
 have z_list := PySem.W.mg_none_of X G n_list
 have z_max := PySem.W.mg_none_of X G n_max
 have z_min := PySem.W.mg_none_of X G n_min
 have z_isinstance := PySem.W.mg_none_of X G n_isinstance
 have z_int := PySem.W.mg_none_of X G n_int
 have z_bool := PySem.W.mg_none_of X G n_bool
 have z_abs := PySem.W.mg_none_of X G n_abs
 have z_zip := PySem.W.mg_none_of X G n_zip
 have z_enumerate := PySem.W.mg_none_of X G n_enumerate
 have z_any := PySem.W.mg_none_of X G n_any
 have z_all := PySem.W.mg_none_of X G n_all
 have z_sorted := PySem.W.mg_none_of X G n_sorted
 have z_set := PySem.W.mg_none_of X G n_set
 have z_dict := PySem.W.mg_none_of X G n_dict
 have z_reversed := PySem.W.mg_none_of X G n_reversed
 have z_ValueError := PySem.W.mg_none_of X G n_ValueError
 have B : Bl mg := ⟨z_len, z_range, z_sum, z_tuple, z_list, z_max, z_min, z_isinstance, z_int, z_bool, z_abs, z_zip, z_enumerate, z_any, z_all, z_sorted, z_set, z_dict, z_reversed, z_ValueError⟩
 have kt : Kt K := ⟨i_ib, i_bi⟩
 have T : Tx K mg := ⟨trivial⟩
 refine ⟨PySem.W.fnOf "law" "law" (Z0o Z5w) (Z0e Z5w) (Z05 Z5w) .none kV_law dc_law pm_law an_law cd_law ct_law, fun s v => .of_eq rfl, fun base ψ ψ => ?_⟩
 have c_q9' := Fn.mk (Zrb (P := l.prog) (w := w) (base := base) F_q9' B kt T ) m_q9 k_q9 b_q9'
 have c_q11' := Fn.mk (Zp3 (P := l.prog) (w := w) (base := base) F_q11' B kt T ) m_q11 k_q11 b_q11'
 have c_q10' := Fn.mk (Zp4 (P := l.prog) (w := w) (base := base) F_q10' B kt T c_q9' c_q11') m_q10 k_q10 b_q10'
 have c_q13' := Fn.mk (Zp5 (P := l.prog) (w := w) (base := base) F_q13' B kt T ) m_q13 k_q13 b_q13'
 have c_q12' := Fn.mk (Zp6 (P := l.prog) (w := w) (base := base) F_q12' B kt T ) m_q12 k_q12 b_q12'
 have c_q3' := Fn.mk (Zrc (P := l.prog) (w := w) (base := base) F_q3' B kt T c_q12') m_q3 k_q3 b_q3'
 have c_q0' := Fn.mk (Zrd (P := l.prog) (w := w) (base := base) F_q0' B kt T c_q12' c_q3') m_q0 k_q0 b_q0'
 have c_q7' := Fn.mk (Zre (P := l.prog) (w := w) (base := base) F_q7' B kt T ) m_q7 k_q7 b_q7'
 have c_q6' := Fn.mk (Zrf (P := l.prog) (w := w) (base := base) F_q6' B kt T ) m_q6 k_q6 b_q6'
 have c_q4' := Fn.mk (Zrg (P := l.prog) (w := w) (base := base) F_q4' B kt T ) m_q4 k_q4 b_q4'
 have c_q5' := Fn.mk (Zrh (P := l.prog) (w := w) (base := base) F_q5' B kt T ) m_q5 k_q5 b_q5'
 have c_q1' := Fn.mk (Zri (P := l.prog) (w := w) (base := base) F_q1' B kt T c_q5' c_q12' c_q4' c_q7') m_q1 k_q1 b_q1'
 have c_q8' := Fn.mk (Zrj (P := l.prog) (w := w) (base := base) F_q8' B kt T c_q5' c_q1' c_q4' c_q12') m_q8 k_q8 b_q8'
 have c_q2' := Fn.mk (Zrk (P := l.prog) (w := w) (base := base) F_q2' B kt T c_q6' c_q7') m_q2 k_q2 b_q2'
 exact Zf2 (Zph F_law' B kt T c_q13' c_q0' c_q8' c_q10' c_q2' Zkh Zgc)
end My
open PySem PySem.W PyProof.Rows
set_option maxRecDepth 100000 in
set_option maxHeartbeats 0 in
theorem PySem.Challenge.cw_mixedscales_k27_digits_papers_looked_at_holds : PySem.Challenge.rw_mixedscales_k27_digits_papers_looked_at.Holds :=
 hd (by
 k_fill
 refine L2.Zed (l := PySem.Challenge.rw_mixedscales_k27_digits_papers_looked_at) (n := 63) (k := 4) (x := "script") (CX := L2.CX0) (sp := L2.Za7) rfl (by decide) rfl ⟨rfl, by decide, by decide⟩ (fun w h Y => PySem.W.kIn_of Y) ?F ?S ?C
 case S => exact fun ψ ψ a ns hl ψ hS => ⟨a, ns, rfl, hS, hl, fun ψ => rfl⟩
 case C => exact fun ψ ψ ψ ψ z => z
 case F =>
  intro w mg fa h KX G hmg
  refine' My.Zpp KX G hmg ?a_q9 ?l_q9 ?c_q9 ?k_q9 ?a_q11 ?l_q11 ?c_q11 ?k_q11 ?a_q10 ?l_q10 ?c_q10 ?k_q10 ?a_q13 ?l_q13 ?c_q13 ?k_q13 ?a_q12 ?l_q12 ?c_q12 ?k_q12 ?a_q3 ?l_q3 ?c_q3 ?k_q3 ?a_q0 ?l_q0 ?c_q0 ?k_q0 ?a_q7 ?l_q7 ?c_q7 ?k_q7 ?a_q6 ?l_q6 ?c_q6 ?k_q6 ?a_q4 ?l_q4 ?c_q4 ?k_q4 ?a_q5 ?l_q5 ?c_q5 ?k_q5 ?a_q1 ?l_q1 ?c_q1 ?k_q1 ?a_q8 ?l_q8 ?c_q8 ?k_q8 ?a_q2 ?l_q2 ?c_q2 ?k_q2 ?a_law ?l_law ?c_law ?k_law ?n_len ?n_range ?n_sum ?n_tuple ?n_list ?n_max ?n_min ?n_isinstance ?n_int ?n_bool ?n_abs ?n_zip ?n_enumerate ?n_any ?n_all ?n_sorted ?n_set ?n_dict ?n_reversed ?n_ValueError ?i_ib ?i_bi
  (case a_q9 => k_is)
  (case l_q9 => k_is)
  (case c_q9 => k_is)
  (case k_q9 => k_is)
  (case a_q11 => k_is)
  (case l_q11 => k_is)
  (case c_q11 => k_is)
  (case k_q11 => k_is)
  (case a_q10 => k_is)
  (case l_q10 => k_is)
  (case c_q10 => k_is)
  (case k_q10 => k_is)
  (case a_q13 => k_is)
  (case l_q13 => k_is)
  (case c_q13 => k_is)
  (case k_q13 => k_is)
  (case a_q12 => k_is)
  (case l_q12 => k_is)
  (case c_q12 => k_is)
  (case k_q12 => k_is)
  (case a_q3 => k_is)
  (case l_q3 => k_is)
  (case c_q3 => k_is)
  (case k_q3 => k_is)
  (case a_q0 => k_is)
  (case l_q0 => k_is)
  (case c_q0 => k_is)
  (case k_q0 => k_is)
  (case a_q7 => k_is)
  (case l_q7 => k_is)
  (case c_q7 => k_is)
  (case k_q7 => k_is)
  (case a_q6 => k_is)
  (case l_q6 => k_is)
  (case c_q6 => k_is)
  (case k_q6 => k_is)
  (case a_q4 => k_is)
  (case l_q4 => k_is)
  (case c_q4 => k_is)
  (case k_q4 => k_is)
  (case a_q5 => k_is)
  (case l_q5 => k_is)
  (case c_q5 => k_is)
  (case k_q5 => k_is)
  (case a_q1 => k_is)
  (case l_q1 => k_is)
  (case c_q1 => k_is)
  (case k_q1 => k_is)
  (case a_q8 => k_is)
  (case l_q8 => k_is)
  (case c_q8 => k_is)
  (case k_q8 => k_is)
  (case a_q2 => k_is)
  (case l_q2 => k_is)
  (case c_q2 => k_is)
  (case k_q2 => k_is)
  (case a_law => k_is)
  (case l_law => k_is)
  (case c_law => k_is)
  (case k_law => k_is)
  (case n_len => k_is)
  (case n_range => k_is)
  (case n_sum => k_is)
  (case n_tuple => k_is)
  (case n_list => k_is)
  (case n_max => k_is)
  (case n_min => k_is)
  (case n_isinstance => k_is)
  (case n_int => k_is)
  (case n_bool => k_is)
  (case n_abs => k_is)
  (case n_zip => k_is)
  (case n_enumerate => k_is)
  (case n_any => k_is)
  (case n_all => k_is)
  (case n_sorted => k_is)
  (case n_set => k_is)
  (case n_dict => k_is)
  (case n_reversed => k_is)
  (case n_ValueError => k_is)
  (case i_ib => kit_is)
  (case i_bi => kit_is)
 )
end
