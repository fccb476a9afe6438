import PyProof.Rows.All
import Wide.All
import OpenK.AllK
import Wide.FinOn
import Lean
import PyProof.EqAt
import PyProof.EqKinds
import PyProof.TupleCall
import PyProof.Draws
import PyProof.Rows.CallKwBuiltin
import OpenK.KOwn
import KE.KTryMore
import PyProof.RulesAs
import PySem.Challenge.RW_rulerow_k05_answers_by_hand
set_option Elab.async false
set_option linter.all false
set_option maxRecDepth 100000
/-! THE HAND LAYER, for ints, bools, texts, own classes, LISTS and tuples (index, slices, in, append, pop ..), calls, loops. Paste it whole ahead of your own text; what your proof does not reach may be deleted. -/
namespace L2
open PySem PySem.Spec PyProof.Rows

/-- a key: an int or a str -/
abbrev Key := Sum Int Str
def keyIs : Key → Value → Bool
  | .inl k, v => Value.isInt k v
  | .inr x, v => Value.isStrOf x v
def keyH (w : World) : Key → Int
  | .inl k => hashInt k
  | .inr x => hashStr w x
theorem keyIs_shape : ∀ {k : Key} {v : Value}, keyIs k v = true → (∃ i t, k = Sum.inl i ∧ v = Value.int i t) ∨ (∃ x t, k = Sum.inr x ∧ v = Value.str x t)
  | .inl i, v, h => by
    obtain ⟨t, e⟩ := Value.isInt_shape (k := i) (v := v) h
    exact .inl ⟨i, t, rfl, e⟩
  | .inr x, v, h => by
    obtain ⟨t, e⟩ := Value.isStrOf_shape (x := x) (v := v) h
    exact .inr ⟨x, t, rfl, e⟩
theorem key_ll (a b : Int) : decide ((Sum.inl a : Key) = Sum.inl b) = (a == b) := by
  by_cases e : a = b
  · subst e; simp
  · have h : ¬ (Sum.inl a : Key) = Sum.inl b := fun q => e (Sum.inl.inj q)
    rw [decide_eq_false h]
    exact (beq_eq_false_iff_ne.mpr e).symm
theorem key_rr (a b : Str) : decide ((Sum.inr a : Key) = Sum.inr b) = decide (a = b) := by
  by_cases e : a = b
  · subst e; simp
  · have h : ¬ (Sum.inr a : Key) = Sum.inr b := fun q => e (Sum.inr.inj q)
    rw [decide_eq_false h, decide_eq_false e]
theorem key_lr (a : Int) (b : Str) : decide ((Sum.inl a : Key) = Sum.inr b) = false := decide_eq_false (fun q => nomatch q)
theorem key_rl (a : Str) (b : Int) : decide ((Sum.inr a : Key) = Sum.inl b) = false := decide_eq_false (fun q => nomatch q)

def mixKind (prog : Program) (w : World) : PySem.KeyKind prog w Key where
  is := keyIs
  hash := keyH w
  inj := fun v a b ha hb => by
    rcases keyIs_shape ha with ⟨i, t, rfl, rfl⟩ | ⟨x, t, rfl, rfl⟩
    · rcases keyIs_shape hb with ⟨j, u, rfl, e⟩ | ⟨y, u, rfl, e⟩
      · injection e with e1 _; rw [e1]
      · exact nomatch e
    · rcases keyIs_shape hb with ⟨j, u, rfl, e⟩ | ⟨y, u, rfl, e⟩
      · exact nomatch e
      · injection e with e1 _; rw [e1]
  byValue := fun k v h => by
    rcases keyIs_shape h with ⟨i, t, rfl, rfl⟩ | ⟨x, t, rfl, rfl⟩ <;> rfl
  pyHash := fun hv h => by
    rcases keyIs_shape hv with ⟨i, t, rfl, rfl⟩ | ⟨x, t, rfl, rfl⟩
    · exact wpAny_pyHash_int h
    · exact wpAny_pyHash_str h
  eqBool := fun hu hv h => by
    rcases keyIs_shape hu with ⟨i, t, rfl, rfl⟩ | ⟨x, t, rfl, rfl⟩
    · rcases keyIs_shape hv with ⟨j, u, rfl, rfl⟩ | ⟨y, u, rfl, rfl⟩
      · rw [key_ll] at h; exact wpAny_eqBool_int h
      · rw [key_lr] at h; exact SeqAt.EqAt.int_str i t y u _ _ _ _ h
    · rcases keyIs_shape hv with ⟨j, u, rfl, rfl⟩ | ⟨y, u, rfl, rfl⟩
      · rw [key_rl] at h; exact SeqAt.EqAt.str_int x t j u _ _ _ _ h
      · rw [key_rr] at h; exact wpAny_eqBool_str h
  «strs» := fun k x t v h => by
    rcases keyIs_shape h with ⟨i, u, rfl, e⟩ | ⟨y, u, rfl, e⟩
    · exact nomatch e
    · injection e with e1 _
      subst e1
      cases v <;> rfl

end L2

namespace L2
open PySem PySem.Spec PyProof.Rows

/-- a value, without the heap -/
inductive V where
  | non | bl (b : Bool) | int (i : Int) | str (x : Str) | byt (b : Array UInt8) | flt (b : UInt64) | ref (a : Addr) | ty (n : String)
  deriving DecidableEq

def RelV : V → Value → Prop
  | .non, u => u = Value.none
  | .bl b, u => u = Value.bool b
  | .int i, u => ∃ t, u = Value.int i t
  | .str x, u => ∃ t, u = Value.str x t
  | .byt b, u => ∃ t, u = Value.bytes b t
  | .flt b, u => ∃ t, u = Value.float b t
  | .ref a, u => u = Value.ref a
  | .ty n, u => u = Value.type n

abbrev Vals : List V → List Value → Prop := Paired RelV
theorem Vals.length {xs : List V} {us : List Value} (r : Vals xs us) : xs.length = us.length := Paired.length r
theorem Vals.get : ∀ {xs : List V} {us : List Value} {i : Nat} {x : V}, Vals xs us → xs[i]? = some x → ∃ u, us[i]? = some u ∧ RelV x u
  | _, _, _, _, .nil, e => by simp at e
  | _, _, 0, _, .cons r _, e => by simp at e; subst e; exact ⟨_, rfl, r⟩
  | _, _, i + 1, x, .cons _ t, e => by
    obtain ⟨u, h1, h2⟩ := Vals.get (i := i) (x := x) t (by simpa using e)
    exact ⟨u, by simpa using h1, h2⟩
theorem Vals.set {x : V} {u : Value} (r : RelV x u) : ∀ {xs : List V} {us : List Value} (i : Nat), Vals xs us → Vals (xs.set i x) (us.set i u)
  | _, _, _, .nil => .nil
  | _, _, 0, .cons _ t => .cons r t
  | _, _, i + 1, .cons q t => .cons q (Vals.set r i t)
theorem Vals.append : ∀ {xs ys : List V} {us ws : List Value}, Vals xs us → Vals ys ws → Vals (xs ++ ys) (us ++ ws)
  | _, _, _, _, .nil, s => s
  | _, _, _, _, .cons r t, s => .cons r (Vals.append t s)
theorem Vals.take : ∀ {xs : List V} {us : List Value} (n : Nat), Vals xs us → Vals (xs.take n) (us.take n)
  | _, _, 0, _ => .nil
  | _, _, _ + 1, .nil => .nil
  | _, _, n + 1, .cons r t => .cons r (Vals.take n t)
theorem Vals.drop : ∀ {xs : List V} {us : List Value} (n : Nat), Vals xs us → Vals (xs.drop n) (us.drop n)
  | _, _, 0, r => r
  | _, _, _ + 1, .nil => .nil
  | _, _, n + 1, .cons _ t => Vals.drop n t
theorem Vals.none_of : ∀ {xs : List V} {us : List Value} {i : Nat}, Vals xs us → xs[i]? = none → us[i]? = none := fun {xs us i} r e => by
  have h1 := r.length
  have h2 : xs.length ≤ i := List.getElem?_eq_none_iff.mp e
  exact List.getElem?_eq_none_iff.mpr (by omega)

def RelO : Option V → Option Value → Prop
  | some v, some u => RelV v u
  | none, none => True
  | _, _ => False
def KV {κ : Type} : List (κ × V) → List (κ × Value) → Prop := Paired fun (p : κ × V) (q : κ × Value) => p.1 = q.1 ∧ RelV p.2 q.2

/-- a key of a dict (00_mix): an int or a text -/
def kV : Key → V
  | .inl i => .int i
  | .inr x => .str x

/-- what stands at a tracked address -/
inductive HO where
  /-- a list -/
  | lst (xs : List V)
  /-- a tuple (never changes) -/
  | tup (xs : List V)
  /-- a dict whose keys are ints and texts; one whose keys are tuples of ints and texts (the empty one is both) -/
  | dK (kvs : List (Key × V)) | dT (kvs : List (List Key × V))
  /-- a set of ints: its members, its size -/
  | set (S : Int → Bool) (n : Nat)
  /-- an instance of the class at C, its dict at dx, its attributes -/
  | ins (C dx : Addr) (fs : List (Str × V))
  /-- the dict of the instance at x -/
  | own (x : Addr)
  /-- the dict of an exception -/
  | xd (fs : List (Str × V))
  /-- a bound method, f of x -/
  | met (f x : Addr)
  /-- a range object lo, lo + 1, .. below hi -/
  | rng (lo hi : Int)
  /-- a thing that is known to the object (the script; a dict while a loop walks it): read, never written while it is so -/
  | frz (o : Obj) (u : HO)
  /-- a code object's table -/
  | tbl (ps : Array Value)
  /-- any other thing, by what is true of its one object (a def of one's own: SetO a S n := HO.ext fun h => ..) -/
  | ext (φ : Heap → Prop)

abbrev Hp := Addr → Option HO
def upd (H : Hp) (a : Addr) (o : HO) : Hp := fun b => if b = a then some o else H b
theorem upd_same {H : Hp} {a : Addr} {o : HO} : upd H a o a = some o := by unfold upd; rw [if_pos rfl]
theorem upd_ne {H : Hp} {a b : Addr} {o : HO} (h : b ≠ a) : upd H a o b = H b := by unfold upd; rw [if_neg h]
/-- two objects of different content stand apart -/
theorem ne_of {H : Hp} {a b : Addr} {o u : HO} (h : H a = some o) (h' : H b = some u) (d : o ≠ u) : a ≠ b := by
  intro e; subst e; rw [h] at h'; exact d (Option.some.inj h')
theorem ne_of_none {H : Hp} {a b : Addr} {o : HO} (h : H a = some o) (h' : H b = none) : a ≠ b := by
  intro e; subst e; rw [h] at h'; cases h'

section
variable (P : Program) (w : World)
def ObjOk (H : Hp) (h : Heap) (a : Addr) : HO → Prop
  | .lst xs => xs.length ≤ sizeLine ∧ ∃ (its : List Value) (n : Nat), Vals xs its ∧ h.get? a = some { cls := .type "list", data := .seq its.toArray n }
  | .tup xs => xs.length ≤ sizeLine ∧ ∃ its : List Value, Vals xs its ∧ IsTup h a its.toArray
  | .dK kvs => kvs.length ≤ sizeLine ∧ (a == sysModules) = false ∧ ∃ vs, KV kvs vs ∧ h.DictOf (mixKind P w) a vs
  | .dT kvs => kvs.length ≤ sizeLine ∧ (a == sysModules) = false ∧ ∃ xs : List (List Key × Addr × Value),
      Paired (fun (p : List Key × V) (q : List Key × Addr × Value) => p.1 = q.1 ∧ H q.2.1 = some (.tup (p.1.map kV)) ∧ RelV p.2 q.2.2) kvs xs ∧
      ∃ o es ep, h.get? a = some o ∧ o.ExactDict ∧ o.data = .dict es ep ∧ es.toList = xs.map (entryOfKey (tupleKind (mixKind P w))) ∧ (xs.map (·.1)).Nodup
  | .set S n => h.SetOf (intKind P w) a S n
  | .ins C dx fs => H dx = some (.own a) ∧ fs.length ≤ 1000 ∧ dx ≠ a ∧ h.get? a = some (PySem.W.instObj C dx) ∧
      ∃ mA, h.Ns1 dx mA ∧ (∀ f, RelO (fs.lookup f) (mA f)) ∧ PySem.Within mA (fs.map (·.1))
  | .own _ => ∃ o, h.get? a = some o
  | .xd fs => ∃ mA, h.Ns1 a mA ∧ ∀ f, RelO (fs.lookup f) (mA f)
  | .rng lo hi => ∃ t u v, h.get? a = some { cls := .type "range", data := .fields #[.int lo t, .int hi u, .int 1 v] }
  | .frz o u => h.get? a = some o ∧ ObjOk H h a u
  | .tbl ps => h.get? a = some { cls := .none, data := .fields ps }
  | .met f x => h.get? a = some (PySem.W.methodObj (.ref f) (.ref x))
  | .ext φ => φ h ∧ (∃ o, h.get? a = some o) ∧ ∀ h1 h2 : Heap, φ h1 → (∀ o, h1.get? a = some o → h2.get? a = some o) → φ h2
/-- the abstract heap is held -/
def HOk (H : Hp) (h : Heap) : Prop := ∀ a o, H a = some o → ObjOk P w H h a o
end

section
variable {P : Program} {w : World} {H H' : Hp} {h h' : Heap} {a : Addr} {o : HO}
theorem ObjOk.lt (x : ObjOk P w H h a o) : a < h.objs.size := by
  cases o with
  | lst xs => obtain ⟨_, _, _, _, e⟩ := x; exact Heap.lt_size e
  | tup xs => obtain ⟨_, _, _, p⟩ := x; exact p.lt
  | dK kvs => obtain ⟨_, _, _, _, o, _, _, e, _⟩ := x; exact Heap.lt_size e
  | dT kvs => obtain ⟨_, _, _, _, o, _, _, e, _⟩ := x; exact Heap.lt_size e
  | set S n => obtain ⟨o, _, _, _, e, _⟩ := x; exact Heap.lt_size e
  | ins C dx fs => obtain ⟨_, _, _, e, _⟩ := x; exact Heap.lt_size e
  | own y => obtain ⟨_, e⟩ := x; exact Heap.lt_size e
  | xd fs => obtain ⟨_, ⟨_, _, _, e, _⟩, _⟩ := x; exact Heap.lt_size e
  | rng lo hi => obtain ⟨_, _, _, e⟩ := x; exact Heap.lt_size e
  | frz ob u => obtain ⟨e, _⟩ := x; exact Heap.lt_size e
  | tbl ps => exact Heap.lt_size (show h.get? a = some _ from x)
  | met f y => exact Heap.lt_size (show h.get? a = some _ from x)
  | ext φ => obtain ⟨_, ⟨_, e⟩, _⟩ := x; exact Heap.lt_size e
theorem Paired.mapP {α β : Type} {F G : α → β → Prop} : ∀ {l₁ : List α} {l₂ : List β}, Paired F l₁ l₂ → (∀ a b, F a b → G a b) → Paired G l₁ l₂
  | _, _, .nil, _ => .nil
  | _, _, .cons r t, f => .cons (f _ _ r) (Paired.mapP t f)
/-- what an object's description leans on: its own object, its own dict, the tuples -/
theorem ObjOk.stay (x : ObjOk P w H h a o) (k : ∀ b u, (b = a ∨ H b = some (.own a)) → h.get? b = some u → h'.get? b = some u)
    (ho : ∀ b, H b = some (.own a) → H' b = some (.own a)) (ht : ∀ b xs, H b = some (.tup xs) → H' b = some (.tup xs)) : ObjOk P w H' h' a o := by
  induction o with
  | lst xs => obtain ⟨z, its, n, r, e⟩ := x; exact ⟨z, its, n, r, k _ _ (.inl rfl) e⟩
  | tup xs => obtain ⟨z, its, r, ob, e, c⟩ := x; exact ⟨z, its, r, ob, k _ _ (.inl rfl) e, c⟩
  | dK kvs => obtain ⟨z, y, vs, r, ob, es, ep, e, c⟩ := x; exact ⟨z, y, vs, r, ob, es, ep, k _ _ (.inl rfl) e, c⟩
  | dT kvs =>
    obtain ⟨z, y, xs, r, ob, es, ep, e, c⟩ := x
    exact ⟨z, y, xs, Paired.mapP r fun p q z => ⟨z.1, ht _ _ z.2.1, z.2.2⟩, ob, es, ep, k _ _ (.inl rfl) e, c⟩
  | set S n => obtain ⟨ob, es, ep, t, e, c⟩ := x; exact ⟨ob, es, ep, t, k _ _ (.inl rfl) e, c⟩
  | ins C dx fs =>
    obtain ⟨d, z, ne, e, mA, ⟨od, es, ep, e2, c⟩, r⟩ := x
    exact ⟨ho _ d, z, ne, k _ _ (.inl rfl) e, mA, ⟨od, es, ep, k _ _ (.inr d) e2, c⟩, r⟩
  | own y => obtain ⟨ob, e⟩ := x; exact ⟨ob, k _ _ (.inl rfl) e⟩
  | xd fs => obtain ⟨mA, ⟨od, es, ep, e, c⟩, r⟩ := x; exact ⟨mA, ⟨od, es, ep, k _ _ (.inl rfl) e, c⟩, r⟩
  | rng lo hi => obtain ⟨t, u, v, e⟩ := x; exact ⟨t, u, v, k _ _ (.inl rfl) e⟩
  | frz ob u ih => obtain ⟨e, q⟩ := x; exact ⟨k _ _ (.inl rfl) e, ih q⟩
  | tbl ps =>
    have e : h.get? a = some { cls := .none, data := .fields ps } := x
    show h'.get? a = some { cls := .none, data := .fields ps }
    exact k a _ (.inl rfl) e
  | met f y =>
    have e : h.get? a = some (PySem.W.methodObj (.ref f) (.ref y)) := x
    show h'.get? a = some (PySem.W.methodObj (.ref f) (.ref y))
    exact k a _ (.inl rfl) e
  | ext φ => obtain ⟨p, ⟨o, e⟩, st⟩ := x; exact ⟨st _ _ p fun o q => k _ _ (.inl rfl) q, ⟨o, k _ _ (.inl rfl) e⟩, st⟩
theorem HOk.lt (x : HOk P w H h) (e : H a = some o) : a < h.objs.size := (x a o e).lt
theorem HOk.fresh (x : HOk P w H h) (e : h.objs.size ≤ a) : H a = none := by
  cases q : H a with
  | none => rfl
  | some u => exact absurd (Nat.lt_of_lt_of_le (x.lt q) e) (Nat.lt_irrefl _)
/-- every object of the heap is kept -/
theorem HOk.kept (x : HOk P w H h) (k : ∀ b u, h.get? b = some u → h'.get? b = some u) : HOk P w H h' := fun a o e =>
  (x a o e).stay (fun b u _ q => k b u q) (fun _ q => q) fun _ _ q => q
/-- a new object is laid and tracked -/
theorem HOk.laid (x : HOk P w H h) (k : ∀ b u, h.get? b = some u → h'.get? b = some u) (hp : h.objs.size ≤ a) (new : ObjOk P w (upd H a o) h' a o) : HOk P w (upd H a o) h' := fun b u e => by
  have hn := x.fresh hp
  by_cases hb : b = a
  · subst hb; rw [upd_same] at e; cases e; exact new
  · rw [upd_ne hb] at e
    exact (x b u e).stay (fun c v _ q => k c v q) (fun c q => by rw [upd_ne (ne_of_none q hn)]; exact q) fun c xs q => by rw [upd_ne (ne_of_none q hn)]; exact q
end

/-- what may be read as u: it is u, or a known u -/
def Rd (H : Hp) (a : Addr) (u : HO) : Prop := H a = some u ∨ ∃ o, H a = some (.frz o u)
theorem Rd.of {H : Hp} {a : Addr} {u : HO} (h : H a = some u) : Rd H a u := .inl h
theorem Rd.ok {P : Program} {w : World} {H : Hp} {h : Heap} {a : Addr} {u : HO} (r : Rd H a u) (x : HOk P w H h) : ObjOk P w H h a u := by
  rcases r with r | ⟨o, r⟩
  · exact x a u r
  · obtain ⟨_, q⟩ := x a _ r
    exact q
/-- what may be written -/
def Mut : Option HO → Prop
  | some (.lst _) => True
  | some (.dK _) => True
  | some (.dT _) => True
  | some (.set _ _) => True
  | some (.ins _ _ _) => True
  | some (.ext _) => True
  | _ => False
section
variable {P : Program} {w : World} {H : Hp} {h h' : Heap} {x e : Addr} {o' : HO}
/-- the object at e is changed: x itself, or the dict of the instance x -/
theorem HOk.write (ok : HOk P w H h) (mu : Mut (H x)) (he : e = x ∨ H e = some (.own x)) (k : ∀ b u, b ≠ e → h.get? b = some u → h'.get? b = some u) (heo : ∃ u, h'.get? e = some u)
    (new : ObjOk P w (upd H x o') h' x o') : HOk P w (upd H x o') h' := fun b u q => by
  have nown : ∀ c y, H c = some (.own y) → c ≠ x := fun c y r z => by subst z; rw [r] at mu; exact mu
  have ntup : ∀ c xs, H c = some (.tup xs) → c ≠ x := fun c xs r z => by subst z; rw [r] at mu; exact mu
  by_cases hb : b = x
  · subst hb; rw [upd_same] at q; cases q; exact new
  · rw [upd_ne hb] at q
    by_cases hbe : b = e
    · have q' : H b = some (.own x) := by
        rcases he with z | z
        · exact absurd (hbe.trans z) hb
        · rw [hbe]; exact z
      rw [q] at q'; cases q'
      obtain ⟨v, hv⟩ := heo
      exact ⟨v, by rw [hbe]; exact hv⟩
    · refine (ok b u q).stay (fun c v hc r => k c v ?_ r) (fun c r => by rw [upd_ne (nown c b r)]; exact r) fun c xs r => by rw [upd_ne (ntup c xs r)]; exact r
      rcases hc with rfl | hc
      · exact hbe
      · rintro rfl
        rcases he with z | z
        · exact nown c b hc z
        · rw [hc] at z; cases z; exact hb rfl
end

/-! ### kept unless tracked; of the frames at fs (the callers') the slots may change (an exception that passes writes there); of the records at ex (iterators) nothing is said -/
structure Un (fs ex : List Addr) (H H' : Hp) (h h' : Heap) : Prop where
  keep : ∀ b o, h.get? b = some o → H b = none → b ∉ fs → b ∉ ex → h'.get? b = some o
  slot : ∀ b o, h.get? b = some o → H b = none → b ∈ fs → b ∉ ex → ∃ sl, h'.get? b = some { o with slots := sl }
  free : ∀ b o, h.get? b = some o → H b = none → b ∉ ex → H' b = none
  there : ∀ b o, h.get? b = some o → b ∉ ex → ∃ o', h'.get? b = some o'
  tups : ∀ b xs, H b = some (.tup xs) → H' b = some (.tup xs)
  frzs : ∀ b o u, H b = some (.frz o u) → H' b = some (.frz o u)
  tbls : ∀ b ps, H b = some (.tbl ps) → ∃ more, H' b = some (.tbl (ps ++ more))
section
variable {fs fs' ex ex' : List Addr} {H H1 H2 : Hp} {h h1 h2 h' : Heap} {a x e : Addr} {o : HO}
theorem Un.any (u : Un fs ex H H1 h h1) {b : Addr} {ob : Obj} (q : h.get? b = some ob) (n : H b = none) (hx : b ∉ ex) : ∃ sl, h1.get? b = some { ob with slots := sl } := by
  by_cases hb : b ∈ fs
  · exact u.slot b ob q n hb hx
  · exact ⟨ob.slots, u.keep b ob q n hb hx⟩
theorem Un.trans (a : Un fs ex H H1 h h1) (b : Un fs ex H1 H2 h1 h2) : Un fs ex H H2 h h2 where
  keep := fun c ob q n hc hx => b.keep c ob (a.keep c ob q n hc hx) (a.free c ob q n hx) hc hx
  slot := fun c ob q n hc hx => by
    obtain ⟨sl, e1⟩ := a.slot c ob q n hc hx
    obtain ⟨sl', e2⟩ := b.slot c _ e1 (a.free c ob q n hx) hc hx
    exact ⟨sl', e2⟩
  free := fun c ob q n hx => by
    obtain ⟨o', e1⟩ := a.there c ob q hx
    exact b.free c o' e1 (a.free c ob q n hx) hx
  there := fun c ob q hx => by
    obtain ⟨o', e1⟩ := a.there c ob q hx
    exact b.there c o' e1 hx
  tups := fun c xs q => b.tups c xs (a.tups c xs q)
  frzs := fun c ob xs q => b.frzs c ob xs (a.frzs c ob xs q)
  tbls := fun c ps q => by
    obtain ⟨m1, e1⟩ := a.tbls c ps q
    obtain ⟨m2, e2⟩ := b.tbls c _ e1
    exact ⟨m1 ++ m2, by rw [e2, Array.append_assoc]⟩
theorem Un.kept (k : ∀ b u, h.get? b = some u → h'.get? b = some u) : Un fs ex H H h h' :=
  ⟨fun b ob q _ _ _ => k b ob q, fun b ob q _ _ _ => ⟨ob.slots, k b ob q⟩, fun _ _ _ n _ => n, fun b ob q _ => ⟨ob, k b ob q⟩, fun _ _ q => q, fun _ _ _ q => q, fun _ ps q => ⟨#[], by rw [q]; simp⟩⟩
theorem Un.refl : Un fs ex H H h h := Un.kept fun _ _ q => q
theorem Un.laid (k : ∀ b u, h.get? b = some u → h'.get? b = some u) (hp : h.objs.size ≤ a) (hn : H a = none) : Un fs ex H (upd H a o) h h' where
  keep := fun b u q _ _ _ => k b u q
  slot := fun b u q _ _ _ => ⟨u.slots, k b u q⟩
  free := fun b u q n _ => by rw [upd_ne (Nat.ne_of_lt (Nat.lt_of_lt_of_le (Heap.lt_size q) hp))]; exact n
  there := fun b u q _ => ⟨u, k b u q⟩
  tups := fun b xs q => by rw [upd_ne (ne_of_none q hn)]; exact q
  frzs := fun b u xs q => by rw [upd_ne (ne_of_none q hn)]; exact q
  tbls := fun b ps q => ⟨#[], by rw [upd_ne (ne_of_none q hn), q]; simp⟩
theorem Un.write (mu : Mut (H x)) (he : e = x ∨ H e = some (.own x)) (k : ∀ b u, b ≠ e → h.get? b = some u → h'.get? b = some u) (heo : ∃ u, h'.get? e = some u) : Un fs ex H (upd H x o) h h' := by
  have hx : ∀ b, H b = none → b ≠ x := fun b n z => by subst z; rw [n] at mu; exact mu
  have hb : ∀ b, H b = none → b ≠ e := fun b n z => by
    subst z
    rcases he with r | r
    · exact hx b n r
    · rw [n] at r; cases r
  have hm : ∀ b u, H b = some u → ¬ Mut (some u) → b ≠ x := fun b u q nm z => by subst z; rw [q] at mu; exact nm mu
  refine ⟨fun b u q n _ _ => k b u (hb b n) q, fun b u q n _ _ => ⟨u.slots, k b u (hb b n) q⟩, fun b u q n _ => by rw [upd_ne (hx b n)]; exact n, fun b u q _ => ?_,
    fun b xs q => by rw [upd_ne (hm b _ q fun z => z)]; exact q, fun b u xs q => by rw [upd_ne (hm b _ q fun z => z)]; exact q, fun b ps q => ⟨#[], by rw [upd_ne (hm b _ q fun z => z), q]; simp⟩⟩
  by_cases hbe : b = e
  · subst hbe; exact heo
  · exact ⟨u, k b u hbe q⟩
theorem Un.mono (u : Un fs ex H H1 h h1) (hs : ∀ b ∈ fs, b ∈ fs') (hx : ∀ b ∈ ex, b ∈ ex') : Un fs' ex' H H1 h h1 :=
  ⟨fun b ob q n hb he => u.keep b ob q n (fun z => hb (hs b z)) fun z => he (hx b z), fun _ _ q n _ he => u.any q n fun z => he (hx _ z), fun b ob q n he => u.free b ob q n fun z => he (hx b z), fun b ob q he => u.there b ob q fun z => he (hx b z), u.tups, u.frzs, u.tbls⟩
end

/-! ### the heap without what is tracked -/
def trk (h : Heap) (H : Hp) : List Addr := (List.range h.objs.size).filter fun a => (H a).isSome
def hidT (h : Heap) (H : Hp) : Heap := PySem.W.hideAll h (trk h H)
theorem hidT_size (h : Heap) (H : Hp) : (hidT h H).objs.size = h.objs.size := PySem.W.hideAll_size _ _
theorem hidT_get {h : Heap} {H : Hp} {b : Addr} {o : Obj} (e : h.get? b = some o) (n : H b = none) : (hidT h H).get? b = some o :=
  PySem.W.hideAll_get _ e fun hm => by
    have q : (H b).isSome = true := (List.mem_filter.mp hm).2
    rw [n] at q; simp at q
theorem of_hidT {h : Heap} {H : Hp} {b : Addr} {o : Obj} (e : (hidT h H).get? b = some o) : h.get? b = some o ∧ H b = none := by
  have e' : h.get? b = some o := PySem.W.of_hideAll (trk h H) e
  refine ⟨e', ?_⟩
  cases q : H b with
  | none => rfl
  | some x =>
    have hm : b ∈ trk h H := List.mem_filter.mpr ⟨List.mem_range.mpr (Heap.lt_size e'), by simp [q]⟩
    have z : (hidT h H).get? b = none := PySem.W.hideAll_none (trk h H) hm
    rw [z] at e; cases e

/-! ### OpenK's ledger, filled with every new object but one -/
def allNews (g h : Heap) (L : Addr) : List (Addr × Obj) := (List.range h.objs.size).filterMap fun a => if a = L ∨ (g.get? a).isSome = true then none else (h.get? a).map fun o => (a, o)
def rest (g h : Heap) (L d : Addr) : List (Addr × Obj) := (allNews g h L).filter fun p => decide (p.1 ≠ d)
end L2

namespace L2
open PySem PySem.Spec PyProof.Rows

/-- the module's facts, over the base: the heap at the law's entry without what is tracked there -/
structure Mod (K : PySem.W.Frag) (mg : Str → Option Value) (base : Heap) : Prop where
  kin : K.In base
  glob : base.Ns mainGlobals mg
  blt : ∃ mb, base.Ns builtinsNs mb ∧ ∀ x : Str, x ≠ "__name__" → mb x = bootBuiltins x
  nolimit : base.NoLimit

/-- the context: a def's body (or a comprehension's block) running. base: fixed through the whole law; s₀, H₀: the entry; outer: the frames whose slots others may change (a def's callers); stack: all frames that run;
   ex: iterators that were made ahead of the entry and are walked here (a comprehension's); fn: the names whose cells were made at the entry (a def: all; a comprehension's block: its own); calm: not within an except suite; pn: pins that every state bears; xe: what is wanted of an exception that leaves the code -/
structure Cx where
  prog : Program
  w : World
  K : PySem.W.Frag
  mg : Str → Option Value
  base : Heap
  A : Around
  N : List Str
  s₀ : Shared
  H₀ : Hp
  env : Env
  outer : List Env
  stack : List Env
  ex : List Addr
  fn : Str → Bool
  calm : Bool
  pn : List (Addr × Obj)
  xe : Value → Shared → Prop
/-- the callers' frames -/
def frs (l : List Env) : List Addr := l.filterMap (·.frame)
abbrev Cx.fs (X : Cx) : List Addr := frs X.outer

def Vis (sc : Scope) (x : Str) : Prop := sc.names.lookup x = some .local ∨ sc.names.lookup x = some .cell ∨ sc.names.lookup x = some .free
def Loc (sc : Scope) (x : Str) : Prop := sc.names.lookup x = some .local ∨ sc.names.lookup x = some .cell
def Look (env : Env) (h : Heap) (m : Str → Option Value) (x : Str) (u : Value) : Prop :=
  (env.kindOf x = some .local ∧ m x = some u) ∨ ((env.kindOf x = some .cell ∨ env.kindOf x = some .free) ∧ ∃ c, env.cells.lookup x = some c ∧ h.IsCell c (some u))

structure Cx.Ok (X : Cx) : Prop where
  mod : Mod X.K X.mg X.base
  kind : X.env.scope.kind = .function
  glob : X.env.globals = mainGlobals
  blt : X.env.builtins = builtinsNs
  above : X.s₀.heap.objs.size ≤ X.env.locals
  inj : ∀ x y c, X.env.cells.lookup x = some c → X.env.cells.lookup y = some c → x = y
  has : ∀ x, (X.env.kindOf x = some .cell ∨ X.env.kindOf x = some .free) → ∃ c, X.env.cells.lookup x = some c
  cab : ∀ x c, X.fn x = true → X.env.cells.lookup x = some c → X.s₀.heap.objs.size ≤ c
  hd : X.calm = true → X.A.handled = none
  frames : X.A.frames = some X.stack
  stk : X.stack = X.outer ∨ (X.stack = X.env :: X.outer ∧ X.env.frame = some X.env.locals)
  exf : ∀ b ∈ X.ex, b ≠ X.env.locals ∧ ∀ x c, X.env.cells.lookup x = some c → c ≠ b
  bs : ∀ b o, X.base.get? b = some o → X.s₀.heap.get? b = some o ∧ X.H₀ b = none
  bsz : X.base.objs.size ≤ X.s₀.heap.objs.size
  noex : ∀ b o, X.base.get? b = some o → b ∉ X.ex
  exfs : ∀ b ∈ X.ex, b ∉ X.fs
  funs : X.s₀.heap.FunFrames X.base X.outer
  frf : ∀ b ∈ X.fs, X.H₀ b = none

structure Inv (X : Cx) (pins : List (Addr × Obj)) (σ : List (Option V)) (H : Hp) (s : Shared) : Prop where
  ok : X.Ok
  os : s.os = X.s₀.os
  bare : AllBare s.gens
  base : Un X.fs X.ex X.H₀ H X.s₀.heap s.heap
  loc : ∃ m, s.heap.Ns X.env.locals m ∧ ∀ (i : Nat) (x : Str) (v : V), X.N[i]? = some x → σ[i]? = some (some v) → Vis X.env.scope x → ∃ u, RelV v u ∧ Look X.env s.heap m x u
  cell : ∀ x c, X.env.cells.lookup x = some c → ∃ v, s.heap.IsCell c v
  free : H X.env.locals = none
  freeC : ∀ x c, X.env.cells.lookup x = some c → H c = none
  pin : ∀ p ∈ X.pn ++ pins, s.heap.get? p.1 = some p.2 ∧ H p.1 = none ∧ p.1 ≠ X.env.locals ∧ p.1 ∉ X.fs ∧ ∀ v, p.2.data ≠ .cell v
  hok : HOk X.prog X.w H s.heap
  len : σ.length = X.N.length

section
variable {X : Cx} {pins : List (Addr × Obj)} {σ : List (Option V)} {H H' : Hp} {s : Shared} {h' : Heap}

theorem Cx.Ok.nofr (ok : X.Ok) {b : Addr} {o : Obj} (e : X.base.get? b = some o) : b ∉ X.fs := fun hb => by
  have := (ok.funs.mem hb).1
  rw [e] at this; cases this
theorem Inv.bs (I : Inv X pins σ H s) : ∀ b o, X.base.get? b = some o → s.heap.get? b = some o ∧ H b = none := fun b o e =>
  ⟨I.base.keep b o (I.ok.bs b o e).1 (I.ok.bs b o e).2 (I.ok.nofr e) (I.ok.noex b o e), I.base.free b o (I.ok.bs b o e).1 (I.ok.bs b o e).2 (I.ok.noex b o e)⟩
theorem Inv.bk (I : Inv X pins σ H s) : ∀ b o, X.base.get? b = some o → s.heap.get? b = some o := fun b o e => (I.bs b o e).1
theorem Inv.mod (I : Inv X pins σ H s) : Mod X.K X.mg X.base := I.ok.mod
theorem Inv.kIn (I : Inv X pins σ H s) : X.K.In s.heap := I.ok.mod.kin.keeps I.bk
theorem Inv.nolimit (I : Inv X pins σ H s) : s.heap.NoLimit := I.ok.mod.nolimit.keeps I.bk
/-- the frame over the base: for OpenK's rules (K.In X.base is I.mod.kin) -/
theorem Inv.fr (I : Inv X pins σ H s) : ∃ m, Fr X.base X.env.locals s.heap m :=
  let ⟨m, hn, _⟩ := I.loc
  ⟨m, hn, I.bk, Nat.le_trans I.ok.bsz I.ok.above⟩
theorem Inv.lt (I : Inv X pins σ H s) : X.env.locals < s.heap.objs.size := let ⟨_, hn, _⟩ := I.loc; hn.lt
theorem Inv.sz (I : Inv X pins σ H s) : X.s₀.heap.objs.size ≤ s.heap.objs.size := Nat.le_trans I.ok.above (Nat.le_of_lt I.lt)
theorem Inv.nofs (I : Inv X pins σ H s) {a : Addr} (h : s.heap.objs.size ≤ a) : a ∉ X.fs := fun hb => by
  obtain ⟨_, o, ho, _⟩ := I.ok.funs.mem hb
  exact absurd (Nat.lt_of_lt_of_le (Heap.lt_size ho) (Nat.le_trans I.sz h)) (Nat.lt_irrefl _)
theorem Inv.cne (I : Inv X pins σ H s) : ∀ x c, X.env.cells.lookup x = some c → c ≠ X.env.locals := fun x c e z => by
  obtain ⟨v, o, ho, hd⟩ := I.cell x c e
  obtain ⟨m, ⟨o', es, ep, ho', hd', _⟩, _⟩ := I.loc
  rw [z, ho'] at ho; cases ho; rw [hd'] at hd; cases hd
theorem Inv.funs (I : Inv X pins σ H s) : s.heap.FunFrames X.base X.outer := by
  have all : ∀ (l : List Env), (∀ b ∈ frs l, b ∈ X.fs) → X.s₀.heap.FunFrames X.base l → s.heap.FunFrames X.base l := by
    intro l
    induction l with
    | nil => intro _ _; trivial
    | cons env r ih =>
      intro hs hl
      obtain ⟨hk, ⟨L, o, hf, hn, ho, hd⟩, hr⟩ := hl
      have hL : L ∈ X.fs := hs L (by unfold frs; rw [List.filterMap_cons, hf]; exact List.mem_cons_self)
      obtain ⟨sl, e⟩ := I.base.slot L o ho (I.ok.frf L hL) hL fun z => I.ok.exfs L z hL
      exact ⟨hk, ⟨L, _, hf, hn, e, hd⟩, ih (fun b hb => hs b (by unfold frs; rw [List.filterMap_cons, hf]; exact List.mem_cons_of_mem _ hb)) hr⟩
  exact all X.outer (fun _ hb => hb) I.ok.funs

/-- the frames that run, for a call -/
theorem Inv.stack (I : Inv X pins σ H s) : s.heap.FunFrames X.base X.stack := by
  rcases I.ok.stk with e | ⟨e, hf⟩
  · rw [e]; exact I.funs
  · rw [e]
    obtain ⟨m, hn, _⟩ := I.loc
    refine .cons (by rw [I.ok.kind]; decide) hf hn ?_ I.funs
    exact Heap.get?_none_of_le (Nat.le_trans I.ok.bsz I.ok.above)
theorem Inv.stkSub (I : Inv X pins σ H s) : ∀ b ∈ frs X.stack, b ∈ X.env.locals :: X.fs := fun b hb => by
  rcases I.ok.stk with e | ⟨e, hf⟩
  · rw [e] at hb; exact List.mem_cons_of_mem _ hb
  · rw [e] at hb
    unfold frs at hb
    rw [List.filterMap_cons, hf] at hb
    exact hb
theorem Inv.stkFree (I : Inv X pins σ H s) : ∀ b ∈ frs X.stack, H b = none := fun b hb => by
  rcases List.mem_cons.mp (I.stkSub b hb) with e | hb
  · rw [e]; exact I.free
  · obtain ⟨_, o, ho, _⟩ := I.ok.funs.mem hb
    exact I.base.free b o ho (I.ok.frf b hb) fun z => I.ok.exfs b z hb

/-- THE STEP: the untracked objects but the frame and the records at ch are kept (the callers' frames up to slots), the frame's map is kept, the new abstract heap is held -/
theorem Inv.step {g' : Array GenState} {t' : Nat} {d' : Drawn} {ch : List Addr} (I : Inv X pins σ H s)
    (hch : ∀ b ∈ ch, (b ∈ X.ex ∨ X.s₀.heap.objs.size ≤ b) ∧ b ≠ X.env.locals ∧ (∀ x c, X.env.cells.lookup x = some c → c ≠ b) ∧ ∀ p ∈ X.pn ++ pins, p.1 ≠ b)
    (keep : ∀ b o, b ≠ X.env.locals → b ∉ X.fs → b ∉ ch → s.heap.get? b = some o → H b = none → h'.get? b = some o)
    (slot : ∀ b o, b ≠ X.env.locals → b ∈ X.fs → b ∉ ch → s.heap.get? b = some o → H b = none → ∃ sl, h'.get? b = some { o with slots := sl }) (free : ∀ b o, b ∉ ch → s.heap.get? b = some o → H b = none → H' b = none)
    (there : ∀ b o, b ∉ ch → s.heap.get? b = some o → ∃ o', h'.get? b = some o')
    (tups : ∀ b xs, H b = some (.tup xs) → H' b = some (.tup xs)) (frzs : ∀ b o u, H b = some (.frz o u) → H' b = some (.frz o u)) (tbls : ∀ b ps, H b = some (.tbl ps) → ∃ more, H' b = some (.tbl (ps ++ more)))
    (ns : ∀ m, s.heap.Ns X.env.locals m → h'.Ns X.env.locals m) (hok : HOk X.prog X.w H' h') (hg : AllBare g') :
    Inv X pins σ H' { s with heap := h', gens := g', drawn := d', toks := t' } := by
  have neL : ∀ b o, X.s₀.heap.get? b = some o → b ≠ X.env.locals := fun b o e => Nat.ne_of_lt (Nat.lt_of_lt_of_le (Heap.lt_size e) I.ok.above)
  have neC : ∀ b o, X.s₀.heap.get? b = some o → b ∉ X.ex → b ∉ ch := fun b o e hx hb => by
    rcases (hch b hb).1 with z | z
    · exact hx z
    · exact absurd (Nat.lt_of_lt_of_le (Heap.lt_size e) z) (Nat.lt_irrefl _)
  have cellK : ∀ x c, X.env.cells.lookup x = some c → ∀ v, s.heap.IsCell c v → h'.IsCell c v := fun x c e v ⟨o, ho, hd⟩ => by
    have nch : c ∉ ch := fun z => (hch c z).2.2.1 x c e rfl
    by_cases hc : c ∈ X.fs
    · obtain ⟨sl, q⟩ := slot c o (I.cne x c e) hc nch ho (I.freeC x c e)
      exact ⟨_, q, hd⟩
    · exact ⟨o, keep c o (I.cne x c e) hc nch ho (I.freeC x c e), hd⟩
  refine ⟨I.ok, I.os, hg, ⟨fun b o e n hb hx => ?_, fun b o e n hb hx => ?_, fun b o e n hx => ?_, fun b o e hx => ?_, fun b xs e => tups b xs (I.base.tups b xs e), fun b o xs e => frzs b o xs (I.base.frzs b o xs e), fun b ps e => ?_⟩, ?_, fun x c e => ?_, ?_, fun x c e => ?_, fun p hp => ?_, hok, I.len⟩
  · exact keep b o (neL b o e) hb (neC b o e hx) (I.base.keep b o e n hb hx) (I.base.free b o e n hx)
  · obtain ⟨sl, e1⟩ := I.base.slot b o e n hb hx
    obtain ⟨sl', e2⟩ := slot b _ (neL b o e) hb (neC b o e hx) e1 (I.base.free b o e n hx)
    exact ⟨sl', e2⟩
  · obtain ⟨o', e1⟩ := I.base.there b o e hx
    exact free b o' (neC b o e hx) e1 (I.base.free b o e n hx)
  · obtain ⟨o', e1⟩ := I.base.there b o e hx
    exact there b o' (neC b o e hx) e1
  · obtain ⟨m1, e1⟩ := I.base.tbls b ps e
    obtain ⟨m2, e2⟩ := tbls b _ e1
    exact ⟨m1 ++ m2, by rw [e2, Array.append_assoc]⟩
  · obtain ⟨m, hn, hl⟩ := I.loc
    refine ⟨m, ns m hn, fun i x v e1 e2 e3 => ?_⟩
    obtain ⟨u, r, l⟩ := hl i x v e1 e2 e3
    refine ⟨u, r, ?_⟩
    rcases l with l | ⟨k, c, e, z⟩
    · exact .inl l
    · exact .inr ⟨k, c, e, cellK x c e _ z⟩
  · obtain ⟨v, z⟩ := I.cell x c e
    exact ⟨v, cellK x c e v z⟩
  · obtain ⟨m, ⟨o, _, _, ho, _⟩, _⟩ := I.loc
    exact free _ o (fun z => (hch _ z).2.1 rfl) ho I.free
  · obtain ⟨v, o, ho, hd⟩ := I.cell x c e
    exact free c o (fun z => (hch c z).2.2.1 x c e rfl) ho (I.freeC x c e)
  · obtain ⟨e, n, ne, nf, d⟩ := I.pin p hp
    have nch : p.1 ∉ ch := fun z => (hch p.1 z).2.2.2 p hp rfl
    exact ⟨keep p.1 p.2 ne nf nch e n, free p.1 p.2 nch e n, ne, nf, d⟩
/-- .. where the frame's own object is kept too -/
theorem Inv.un {t' : Nat} (I : Inv X pins σ H s) (u : Un X.fs [] H H' s.heap h') (hok : HOk X.prog X.w H' h') : Inv X pins σ H' { s with heap := h', toks := t' } := by
  obtain ⟨m, ⟨o, es, ep, ho, r⟩, _⟩ := id I.loc
  obtain ⟨sl, hL⟩ := u.any ho I.free (by simp)
  exact I.step (g' := s.gens) (d' := s.drawn) (ch := []) (fun _ z => nomatch z) (fun b o _ hb _ e n => u.keep b o e n hb (by simp)) (fun b o _ hb _ e n => u.slot b o e n hb (by simp)) (fun b o _ e n => u.free b o e n (by simp)) (fun b o _ e => u.there b o e (by simp)) u.tups u.frzs u.tbls (fun m' hm => by
    obtain ⟨o', es', ep', ho', r'⟩ := hm
    rw [ho] at ho'; cases ho'
    exact ⟨_, es', ep', hL, r'⟩) hok I.bare
/-- behind a call (or a comprehension's block): the slots of this frame may have changed too, the records at ch may have turned -/
theorem Inv.call {g' : Array GenState} {t' : Nat} {d' : Drawn} {ch : List Addr} (I : Inv X pins σ H s) (u : Un (frs X.stack) ch H H' s.heap h') (hok : HOk X.prog X.w H' h') (hg : AllBare g')
    (hch : ∀ b ∈ ch, (b ∈ X.ex ∨ X.s₀.heap.objs.size ≤ b) ∧ b ≠ X.env.locals ∧ (∀ x c, X.env.cells.lookup x = some c → c ≠ b) ∧ ∀ p ∈ X.pn ++ pins, p.1 ≠ b) :
    Inv X pins σ H' { s with heap := h', gens := g', drawn := d', toks := t' } := by
  obtain ⟨m, ⟨o, es, ep, ho, r⟩, _⟩ := id I.loc
  obtain ⟨sl, hL⟩ := u.any ho I.free fun z => (hch _ z).2.1 rfl
  exact I.step (ch := ch) hch (fun b o hL hb hc e n => u.keep b o e n (fun z => (List.mem_cons.mp (I.stkSub b z)).elim hL hb) hc) (fun b o _ _ hc e n => u.any e n hc) (fun b o hc e n => u.free b o e n hc) (fun b o hc e => u.there b o e hc) u.tups u.frzs u.tbls (fun m' hm => by
    obtain ⟨o', es', ep', ho', r'⟩ := hm
    rw [ho] at ho'; cases ho'
    exact ⟨_, es', ep', hL, r'⟩) hok hg
/-- an untracked record of ours (an iterator) has turned -/
theorem Inv.turned {t' : Nat} {it : Addr} (I : Inv X pins σ H s) (k : ∀ b o, b ≠ it → s.heap.get? b = some o → h'.get? b = some o) (hn : H it = none) (hL : it ≠ X.env.locals)
    (h1 : it ∈ X.ex ∨ X.s₀.heap.objs.size ≤ it) (h2 : ∀ x c, X.env.cells.lookup x = some c → c ≠ it) (h3 : ∀ p ∈ X.pn ++ pins, p.1 ≠ it) : Inv X pins σ H { s with heap := h', toks := t' } := by
  have nit : ∀ b u, H b = some u → b ≠ it := fun b u e z => by rw [z, hn] at e; cases e
  refine I.step (g' := s.gens) (d' := s.drawn) (ch := [it]) (fun b hb => ?_) (fun b o _ _ hc e _ => k b o (fun z => hc (by simp [z])) e) (fun b o _ _ hc e _ => ⟨o.slots, k b o (fun z => hc (by simp [z])) e⟩) (fun _ _ _ _ n => n)
    (fun b o hc e => ⟨o, k b o (fun z => hc (by simp [z])) e⟩) (fun _ _ e => e) (fun _ _ _ e => e) (fun b ps e => ⟨#[], by rw [e]; simp⟩) (fun m hm => ?_) (fun b u e => ?_) I.bare
  · have e : b = it := by simpa using hb
    subst e
    exact ⟨h1, hL, h2, h3⟩
  · obtain ⟨o, es, ep, ho, r⟩ := hm
    exact ⟨o, es, ep, k _ o (Ne.symm hL) ho, r⟩
  · refine (I.hok b u e).stay (fun c v hc q => k c v ?_ q) (fun _ q => q) fun _ _ q => q
    rcases hc with z | z
    · rw [z]; exact nit b u e
    · exact nit c _ z
theorem Inv.tok (I : Inv X pins σ H s) (t : Nat) : Inv X pins σ H { s with toks := t } := I.un (h' := s.heap) (t' := t) Un.refl I.hok
/-- all objects kept -/
theorem Inv.kept {t' : Nat} (I : Inv X pins σ H s) (k : ∀ b u, s.heap.get? b = some u → h'.get? b = some u) : Inv X pins σ H { s with heap := h', toks := t' } := I.un (Un.kept k) (I.hok.kept k)
/-- a new object laid and tracked -/
theorem Inv.laid {a : Addr} {o : HO} {t' : Nat} (I : Inv X pins σ H s) (k : ∀ b u, s.heap.get? b = some u → h'.get? b = some u) (hp : s.heap.objs.size ≤ a) (new : ObjOk X.prog X.w (upd H a o) h' a o) :
    Inv X pins σ (upd H a o) { s with heap := h', toks := t' } := I.un (Un.laid k hp (I.hok.fresh hp)) (I.hok.laid k hp new)
/-- an object written -/
theorem Inv.write {x e : Addr} {o : HO} {t' : Nat} (I : Inv X pins σ H s) (mu : Mut (H x)) (he : e = x ∨ H e = some (.own x)) (k : ∀ b u, b ≠ e → s.heap.get? b = some u → h'.get? b = some u) (heo : ∃ u, h'.get? e = some u)
    (new : ObjOk X.prog X.w (upd H x o) h' x o) : Inv X pins σ (upd H x o) { s with heap := h', toks := t' } := I.un (Un.write mu he k heo) (I.hok.write mu he k heo new)
/-- forgetting slots, pins -/
theorem Inv.weak {σ' : List (Option V)} (I : Inv X pins σ H s) (hl : σ'.length = σ.length) (w : ∀ (i : Nat) v, σ'[i]? = some (some v) → σ[i]? = some (some v)) : Inv X pins σ' H s :=
  ⟨I.ok, I.os, I.bare, I.base, let ⟨m, hn, hl'⟩ := I.loc; ⟨m, hn, fun i x v e1 e2 e3 => hl' i x v e1 (w i v e2) e3⟩, I.cell, I.free, I.freeC, I.pin, I.hok, hl.trans I.len⟩
theorem Inv.pins_of {pins' : List (Addr × Obj)} (I : Inv X pins σ H s) (h : ∀ p ∈ pins', s.heap.get? p.1 = some p.2 ∧ H p.1 = none ∧ p.1 ≠ X.env.locals ∧ p.1 ∉ X.fs ∧ ∀ v, p.2.data ≠ .cell v) : Inv X pins' σ H s :=
  ⟨I.ok, I.os, I.bare, I.base, I.loc, I.cell, I.free, I.freeC, fun p hp => (List.mem_append.mp hp).elim (fun z => I.pin p (List.mem_append_left _ z)) (h p), I.hok, I.len⟩

theorem nodup_ix {N : List Str} (hN : N.Nodup) {i j : Nat} {x : Str} (a : N[i]? = some x) (b : N[j]? = some x) : i = j := by
  obtain ⟨h1, e1⟩ := List.getElem?_eq_some_iff.mp a
  obtain ⟨h2, e2⟩ := List.getElem?_eq_some_iff.mp b
  exact (List.getElem_inj hN).mp (e1.trans e2.symm)

/-- a name is stored; what changed -/
theorem store_ok2 {M : Model} {A : Around} {E : Value → Shared → Prop} {i : Nat} {x : Str} {v : V} {u : Value} {Q : Unit → Shared → Prop} (I : Inv X pins σ H s) (hN : X.N.Nodup) (hi : X.N[i]? = some x) (hx : Loc X.env.scope x) (r : RelV v u)
    (h : ∀ s', Inv X pins (σ.set i (some v)) H s' → (∃ a, Heap.SameBut a s.heap s'.heap ∧ (a = X.env.locals ∨ X.env.cells.lookup x = some a)) → Q () s') (hf : X.fn x = true ∨ X.env.scope.names.lookup x = some .local := by first | exact .inl rfl | exact .inr rfl | assumption) : wpAny M A (storeName X.env x u) Q E s := by
  obtain ⟨m, hn, hl⟩ := id I.loc
  have hcls : (X.env.scope.kind == .class || (X.env.scope.kind == .module && X.env.locals != X.env.globals)) = false := by rw [I.ok.kind]; rfl
  have hiσ : i < σ.length := by rw [I.len]; exact (List.getElem?_eq_some_iff.mp hi).1
  have cne := I.cne
  have tracked : ∀ {a : Addr} {h' : Heap}, (∃ o, s.heap.get? a = some o ∧ H a = none) → Heap.SameBut a s.heap h' → HOk X.prog X.w H h' := fun {a h'} ha hs b ob e => by
    obtain ⟨_, _, hfree⟩ := ha
    refine (I.hok b ob e).stay (fun c w' hc q => (hs.2 c ?_).trans q) (fun _ q => q) fun _ _ q => q
    rintro rfl
    rcases hc with rfl | hc
    · rw [hfree] at e; cases e
    · rw [hfree] at hc; cases hc
  rcases hx with hk | hk
  · refine wpAny_storeName_local hk hn (fun h' hn' hs => ?_) hcls
    obtain ⟨oL, _, _, hoL, _⟩ := id hn
    refine h _ ⟨I.ok, I.os, I.bare, ⟨fun b o e n hb hx => ?_, fun b o e n hb hx => ?_, I.base.free, fun b o e hx => ?_, I.base.tups, I.base.frzs, I.base.tbls⟩, ⟨_, hn', fun j y v' e1 e2 e3 => ?_⟩, fun y c e => ?_, I.free, I.freeC, fun p hp => ?_, tracked ⟨oL, hoL, I.free⟩ hs, by simpa using I.len⟩ ⟨_, hs, .inl rfl⟩
    · exact (hs.2 b (Nat.ne_of_lt (Nat.lt_of_lt_of_le (Heap.lt_size e) I.ok.above))).trans (I.base.keep b o e n hb hx)
    · obtain ⟨sl, e1⟩ := I.base.slot b o e n hb hx
      exact ⟨sl, (hs.2 b (Nat.ne_of_lt (Nat.lt_of_lt_of_le (Heap.lt_size e) I.ok.above))).trans e1⟩
    · obtain ⟨o', e1⟩ := I.base.there b o e hx
      exact ⟨o', (hs.2 b (Nat.ne_of_lt (Nat.lt_of_lt_of_le (Heap.lt_size e) I.ok.above))).trans e1⟩
    · by_cases hj : j = i
      · subst hj
        rw [hi] at e1; cases e1
        rw [List.getElem?_set_self hiσ] at e2
        cases e2
        exact ⟨u, r, .inl ⟨hk, by simp⟩⟩
      · rw [List.getElem?_set_ne (Ne.symm hj)] at e2
        obtain ⟨u', r', q⟩ := hl j y v' e1 e2 e3
        refine ⟨u', r', ?_⟩
        rcases q with ⟨k, e⟩ | ⟨k, c, e, z⟩
        · refine .inl ⟨k, ?_⟩
          have : y ≠ x := fun e => hj (nodup_ix hN e1 (e ▸ hi))
          simp [this, e]
        · exact .inr ⟨k, c, e, z.sameBut hs (cne y c e)⟩
    · obtain ⟨w', z⟩ := I.cell y c e
      exact ⟨w', z.sameBut hs (cne y c e)⟩
    · obtain ⟨e, n, ne, nf, d⟩ := I.pin p hp
      exact ⟨(hs.2 p.1 ne).trans e, n, ne, nf, d⟩
  · have hfn : X.fn x = true := by
      rcases hf with z | z
      · exact z
      · rw [z] at hk; cases hk
    obtain ⟨c, hc⟩ := I.ok.has x (.inl hk)
    obtain ⟨w', z⟩ := I.cell x c hc
    refine wpAny_storeName_cell I.ok.kind hk hc z (fun h' hc' hs => ?_)
    obtain ⟨oc, hoc, hocd⟩ := id z
    refine h { s with heap := h' } ⟨I.ok, I.os, I.bare, ⟨fun b o e n hb hx => ?_, fun b o e n hb hx => ?_, I.base.free, fun b o e hx => ?_, I.base.tups, I.base.frzs, I.base.tbls⟩, ⟨m, hn.sameBut hs (Ne.symm (cne x c hc)), fun j y v' e1 e2 e3 => ?_⟩, fun y c' e => ?_, I.free, I.freeC, fun p hp => ?_, tracked ⟨oc, hoc, I.freeC x c hc⟩ hs, by simpa using I.len⟩ ⟨c, hs, .inr hc⟩
    · exact (hs.2 b (Nat.ne_of_lt (Nat.lt_of_lt_of_le (Heap.lt_size e) (I.ok.cab x c hfn hc)))).trans (I.base.keep b o e n hb hx)
    · obtain ⟨sl, e1⟩ := I.base.slot b o e n hb hx
      exact ⟨sl, (hs.2 b (Nat.ne_of_lt (Nat.lt_of_lt_of_le (Heap.lt_size e) (I.ok.cab x c hfn hc)))).trans e1⟩
    · obtain ⟨o', e1⟩ := I.base.there b o e hx
      exact ⟨o', (hs.2 b (Nat.ne_of_lt (Nat.lt_of_lt_of_le (Heap.lt_size e) (I.ok.cab x c hfn hc)))).trans e1⟩
    · by_cases hj : j = i
      · subst hj
        rw [hi] at e1; cases e1
        rw [List.getElem?_set_self hiσ] at e2
        cases e2
        exact ⟨u, r, .inr ⟨.inl hk, c, hc, hc'⟩⟩
      · rw [List.getElem?_set_ne (Ne.symm hj)] at e2
        obtain ⟨u', r', q⟩ := hl j y v' e1 e2 e3
        refine ⟨u', r', ?_⟩
        rcases q with q | ⟨k, c', e, z'⟩
        · exact .inl q
        · refine .inr ⟨k, c', e, z'.sameBut hs ?_⟩
          rintro rfl
          exact hj (nodup_ix hN e1 (I.ok.inj _ _ _ e hc ▸ hi))
    · by_cases hcc : c' = c
      · subst hcc; exact ⟨_, hc'⟩
      · obtain ⟨w2, z2⟩ := I.cell y c' e
        exact ⟨w2, z2.sameBut hs hcc⟩
    · obtain ⟨e, n, ne, nf, d⟩ := I.pin p hp
      refine ⟨(hs.2 p.1 ?_).trans e, n, ne, nf, d⟩
      intro q
      rw [q, hoc] at e
      have q' : oc = p.2 := Option.some.inj e
      exact d w' (by rw [← q']; exact hocd)
theorem store_ok {M : Model} {A : Around} {E : Value → Shared → Prop} {i : Nat} {x : Str} {v : V} {u : Value} {Q : Unit → Shared → Prop} (I : Inv X pins σ H s) (hN : X.N.Nodup) (hi : X.N[i]? = some x) (hx : Loc X.env.scope x) (r : RelV v u)
    (h : ∀ s', Inv X pins (σ.set i (some v)) H s' → Q () s') (hf : X.fn x = true ∨ X.env.scope.names.lookup x = some .local := by first | exact .inl rfl | exact .inr rfl | assumption) : wpAny M A (storeName X.env x u) Q E s :=
  store_ok2 I hN hi hx r (fun s' I' _ => h s' I') hf
/-- behind a call or a block, the state as it is -/
theorem Inv.call' {s' : Shared} {ch : List Addr} (I : Inv X pins σ H s) (ho : s'.os = s.os) (u : Un (frs X.stack) ch H H' s.heap s'.heap) (hok : HOk X.prog X.w H' s'.heap) (hg : AllBare s'.gens)
    (hch : ∀ b ∈ ch, (b ∈ X.ex ∨ X.s₀.heap.objs.size ≤ b) ∧ b ≠ X.env.locals ∧ (∀ x c, X.env.cells.lookup x = some c → c ≠ b) ∧ ∀ p ∈ X.pn ++ pins, p.1 ≠ b) : Inv X pins σ H' s' := by
  obtain ⟨h', g', d', t', o'⟩ := s'
  have e : o' = s.os := ho
  subst e
  exact I.call (g' := g') (t' := t') (d' := d') u hok hg hch
end

/-! ### the judgements -/
/-- an exception: its class, its own dict's address (where it has one), the abstract heap behind it -/
abbrev XK := Value → Option Addr → Hp → Prop
abbrev St := List (Option V)
abbrev VK := V → Hp → Prop
/-- an expression's reading; a test's; an argument list's -/
abbrev TE := St → Hp → VK → Prop
abbrev TT := St → Hp → (Bool → Hp → Prop) → Prop
abbrev TA := St → Hp → (List V → Hp → Prop) → Prop
/-- what is wanted behind a statement -/
structure Ends where
  nx : St → Hp → Prop
  rt : VK
  bk : St → Hp → Prop := fun _ _ => False
  ct : St → Hp → Prop := fun _ _ => False
abbrev TS := Ends → St → Hp → Prop

def EP (X : Cx) (pins : List (Addr × Obj)) (σ : St) (Q : VK) (u : Value) (s' : Shared) : Prop := ∃ v H', Inv X pins σ H' s' ∧ RelV v u ∧ Q v H'
def TP (X : Cx) (pins : List (Addr × Obj)) (σ : St) (Q : Bool → Hp → Prop) (b : Bool) (s' : Shared) : Prop := ∃ H', Inv X pins σ H' s' ∧ Q b H'
def AP (X : Cx) (pins : List (Addr × Obj)) (σ : St) (Q : List V → Hp → Prop) (us : List Value) (s' : Shared) : Prop := ∃ vs H', Inv X pins σ H' s' ∧ Vals vs us ∧ Q vs H'
def SP (X : Cx) (pins : List (Addr × Obj)) (D : Ends) (f : Flow) (s' : Shared) : Prop :=
  match f with
  | .next => ∃ σ' H', Inv X pins σ' H' s' ∧ D.nx σ' H'
  | .brk => ∃ σ' H', Inv X pins σ' H' s' ∧ D.bk σ' H'
  | .cont => ∃ σ' H', Inv X pins σ' H' s' ∧ D.ct σ' H'
  | .ret u => ∃ v σ' H', Inv X pins σ' H' s' ∧ RelV v u ∧ D.rt v H'

def PE (X : Cx) (e : Expr) (t : TE) : Prop :=
  ∀ (pins : List (Addr × Obj)) (s : Shared) (σ : St) (H : Hp) (Q : VK), Inv X pins σ H s → t σ H Q → wpAny (model X.prog X.w) X.A (eval e X.env) (EP X pins σ Q) X.xe s
def PT (X : Cx) (e : Expr) (t : TT) : Prop :=
  ∀ (pins : List (Addr × Obj)) (s : Shared) (σ : St) (H : Hp) (Q : Bool → Hp → Prop), Inv X pins σ H s → t σ H Q → wpAny (model X.prog X.w) X.A (isTrue e X.env (eval e X.env)) (TP X pins σ Q) X.xe s
/-- a test whatever its 'whole' is (and, or) -/
def PW (X : Cx) (e : Expr) (t : TT) : Prop :=
  ∀ (whole : Sem Value) (pins : List (Addr × Obj)) (s : Shared) (σ : St) (H : Hp) (Q : Bool → Hp → Prop), Inv X pins σ H s → t σ H Q → wpAny (model X.prog X.w) X.A (isTrue e X.env whole) (TP X pins σ Q) X.xe s
theorem PW.pt {X : Cx} {e : Expr} {t : TT} (h : PW X e t) : PT X e t := h _
/-- an argument list (no star), from the left -/
def PA (X : Cx) (es : List Expr) (t : TA) : Prop :=
  ∀ (pos : Pos) (pins : List (Addr × Obj)) (s : Shared) (σ : St) (H : Hp) (Q : List V → Hp → Prop), Inv X pins σ H s → t σ H Q → wpAny (model X.prog X.w) X.A (spliced (backTo pos (starEach es X.env))) (AP X pins σ Q) X.xe s
def PS (X : Cx) (st : Stmt) (t : TS) : Prop :=
  ∀ (pins : List (Addr × Obj)) (s : Shared) (σ : St) (H : Hp) (D : Ends), Inv X pins σ H s → t D σ H → wpAny (model X.prog X.w) X.A (exec st X.env) (SP X pins D) X.xe s
def PSs (X : Cx) (st : List Stmt) (t : TS) : Prop :=
  ∀ (pins : List (Addr × Obj)) (s : Shared) (σ : St) (H : Hp) (D : Ends), Inv X pins σ H s → t D σ H → wpAny (model X.prog X.w) X.A (execs st X.env) (SP X pins D) X.xe s
/-- weaken the end -/
theorem thn {α : Type} {t : Sem α} {Q Q' : α → Shared → Prop} {M : Model} {A : Around} {E : Value → Shared → Prop} {s : Shared} (h : wpAny M A t Q E s) (hQ : ∀ a s, Q a s → Q' a s) : wpAny M A t Q' E s := wpAny_mono h hQ fun _ _ x => x
end L2

namespace L2
open PySem PySem.Spec PyProof.Rows
section
variable {X : Cx}

/-! ### names and constants -/
def tVar (i : Nat) : TE := fun σ H Q => ∃ v, σ[i]? = some (some v) ∧ Q v H
def tC (v : V) : TE := fun _ H Q => Q v H
theorem pe_var {i : Nat} {x : Str} {pos : Pos} (hN : X.N[i]? = some x) (hv : Vis X.env.scope x) (hd : (x == ("__debug__" : Str)) = false := by decide) (hcd : (x == ("__classdict__" : Str)) = false := by decide) : PE X (.Name x pos) (tVar i) := by
  intro pins s σ H Q I h
  obtain ⟨v, e, h⟩ := h
  obtain ⟨m, hn, hl⟩ := I.loc
  obtain ⟨u, r, l⟩ := hl i x v hN e hv
  have fin : EP X pins σ Q u s := ⟨v, H, I, r, h⟩
  rcases l with ⟨hk, hm⟩ | ⟨hk, c, hc, hcell⟩
  · exact wpAny_Name (wpAny_loadName_local I.ok.kind hk hn hm fin) hd
  · rcases hk with hk | hk
    · exact wpAny_Name (wpAny_loadName_cell I.ok.kind hk hc hcell fin) hd
    · exact wpAny_Name (wpAny_loadName_free I.ok.kind hk hc hcell fin hcd) hd
theorem pe_int {i j pos} : PE X (.Constant (.int i) j pos) (tC (.int i)) := fun _ _ _ H _ I h => wpAny_Constant_int ⟨.int i, H, I.tok _, ⟨_, rfl⟩, h⟩
theorem pe_bl {b j pos} : PE X (.Constant (.bool b) j pos) (tC (.bl b)) := fun _ _ _ H _ I h => Constant_bool ⟨.bl b, H, I, rfl, h⟩
/-- a global name of the def -/
def Gl (X : Cx) (x : Str) : Prop := X.env.kindOf x = some .globalImplicit
theorem ld_glob {E : Value → Shared → Prop} {pins : List (Addr × Obj)} {s : Shared} {σ : St} {H : Hp} {x : Str} {u : Value} {pos : Pos} {Q : Value → Shared → Prop} (I : Inv X pins σ H s) (hg : Gl X x) (hm : X.mg x = some u) (h : Q u s)
    (hd : (x == ("__debug__" : Str)) = false := by decide) : wpAny (model X.prog X.w) X.A (eval (.Name x pos) X.env) Q E s :=
  Calls.Name_function_global I.ok.kind hg (Calls.loadGlobal_global (by rw [I.ok.glob]; exact I.mod.glob.keeps I.bk) hm h) hd
theorem ld_blt {E : Value → Shared → Prop} {pins : List (Addr × Obj)} {s : Shared} {σ : St} {H : Hp} {x : Str} {u : Value} {pos : Pos} {Q : Value → Shared → Prop} (I : Inv X pins σ H s) (hg : Gl X x) (hm : X.mg x = none) (hv : bootBuiltins x = some u) (h : Q u s)
    (hn : x ≠ "__name__" := by decide) (hd : (x == ("__debug__" : Str)) = false := by decide) : wpAny (model X.prog X.w) X.A (eval (.Name x pos) X.env) Q E s := by
  obtain ⟨mb, h1, h2⟩ := I.mod.blt
  exact Calls.Name_function_global I.ok.kind hg (Calls.loadGlobal_builtin (by rw [I.ok.glob]; exact I.mod.glob.keeps I.bk) hm (by rw [I.ok.blt]; exact h1.keeps I.bk) ((h2 x hn).trans hv) h) hd
/-- a module's constant, a class, a function, as a value -/
theorem pe_glob {x : Str} {v : V} {u : Value} {pos : Pos} (hg : Gl X x) (hm : X.mg x = some u) (r : RelV v u) (hd : (x == ("__debug__" : Str)) = false := by decide) : PE X (.Name x pos) (tC v) :=
  fun _ _ _ H _ I h => ld_glob I hg hm ⟨v, H, I, r, h⟩ hd
theorem pe_bltn {x : Str} {v : V} {u : Value} {pos : Pos} (hg : Gl X x) (hm : X.mg x = none) (hv : bootBuiltins x = some u) (r : RelV v u) (hn : x ≠ "__name__" := by decide) (hd : (x == ("__debug__" : Str)) = false := by decide) : PE X (.Name x pos) (tC v) :=
  fun _ _ _ H _ I h => ld_blt I hg hm hv ⟨v, H, I, r, h⟩ hn hd

/-! ### arithmetic -/
variable {a b : Expr} {ta tb : TE} {pos : Pos}
/-! ### comparisons -/
/-- a comparison as a value, as a test -/
def tB (t : TE) : TT := fun σ H Q => t σ H fun x H1 => ∃ c, x = .bl c ∧ Q c H1
/-- an expression whose value is a bool, as a test -/
theorem pt_val {e : Expr} {t : TE} (h : PE X e t) (he : ∀ whole, isTrue e X.env whole = (do let v ← whole; standAt e.pos; holding [v] (truthy v)) := by intro _; rfl) : PT X e (tB t) := by
  intro pins s σ H Q I hw
  refine isTrue_plain (thn (h pins s σ H _ I hw) fun v s1 ⟨x, H1, I1, r1, q1⟩ => ?_) (he _)
  obtain ⟨d, rfl, q⟩ := q1
  cases r1
  exact wpAny_truthy_bool ⟨H1, I1, q⟩

/-! ### and, or, not -/
variable {tA tB' : TT} {rest : List Expr}
def tAnd (t u : TT) : TT := fun σ H Q => t σ H fun c H1 => if c = true then u σ H1 Q else Q false H1
def tOr (t u : TT) : TT := fun σ H Q => t σ H fun c H1 => if c = true then Q true H1 else u σ H1 Q
def tNot (t : TT) : TT := fun σ H Q => t σ H fun c H1 => Q (!c) H1
theorem pw_and1 (ha : PT X a tA) : PW X (.BoolOp .And [a] pos) tA := by
  intro wh pins s σ H Q I h
  refine isTrue_and (thn (ha pins s σ H Q I h) fun c s1 e => ?_)
  cases c with
  | true => exact isTrue_and_nil e
  | false => exact e
theorem pw_or1 (ha : PT X a tA) : PW X (.BoolOp .Or [a] pos) tA := by
  intro wh pins s σ H Q I h
  refine isTrue_or (thn (ha pins s σ H Q I h) fun c s1 e => ?_)
  cases c with
  | false => exact isTrue_or_nil e
  | true => exact e
theorem pw_and (ha : PT X a tA) (hb : PW X (.BoolOp .And (b :: rest) pos) tB') : PW X (.BoolOp .And (a :: b :: rest) pos) (tAnd tA tB') := by
  intro wh pins s σ H Q I h
  refine isTrue_and (thn (ha pins s σ H _ I h) fun c s1 ⟨H1, I1, q1⟩ => ?_)
  cases c with
  | true => exact hb wh pins s1 σ H1 Q I1 q1
  | false => exact ⟨H1, I1, q1⟩
theorem pw_or (ha : PT X a tA) (hb : PW X (.BoolOp .Or (b :: rest) pos) tB') : PW X (.BoolOp .Or (a :: b :: rest) pos) (tOr tA tB') := by
  intro wh pins s σ H Q I h
  refine isTrue_or (thn (ha pins s σ H _ I h) fun c s1 ⟨H1, I1, q1⟩ => ?_)
  cases c with
  | true => exact ⟨H1, I1, q1⟩
  | false => exact hb wh pins s1 σ H1 Q I1 q1
theorem pt_not (ha : PT X a tA) : PT X (.UnaryOp .Not a pos) (tNot tA) := by
  intro pins s σ H Q I h
  exact isTrue_not (ha pins s σ H (fun c H1 => Q (!c) H1) I h)
/-- .. as values (bools) -/
def tAndV (ta tb : TE) : TE := fun σ H Q => ta σ H fun x H1 => ∃ c, x = .bl c ∧ if c = true then tb σ H1 Q else Q (.bl false) H1
def tOrV (ta tb : TE) : TE := fun σ H Q => ta σ H fun x H1 => ∃ c, x = .bl c ∧ if c = true then Q (.bl true) H1 else tb σ H1 Q
def tNotV (ta : TE) : TE := fun σ H Q => ta σ H fun x H1 => ∃ c, x = .bl c ∧ Q (.bl (!c)) H1
theorem pe_one {op} {t : TE} (h : PE X a t) : PE X (.BoolOp op [a] pos) t := fun pins s σ H Q I hw => BoolOp_one (h pins s σ H Q I hw)
theorem pe_and (ha : PE X a ta) (hb : PE X (.BoolOp .And (b :: rest) pos) tb) : PE X (.BoolOp .And (a :: b :: rest) pos) (tAndV ta tb) := by
  intro pins s σ H Q I h
  refine BoolOp_and (thn (ha pins s σ H _ I h) fun v s1 ⟨x, H1, I1, r1, q1⟩ => ?_)
  obtain ⟨c, rfl, q1⟩ := q1
  cases r1
  refine wpAny_truthy_bool ?_
  cases c with
  | true => exact hb pins s1 σ H1 Q I1 q1
  | false => exact ⟨.bl false, H1, I1, rfl, q1⟩
theorem pe_or (ha : PE X a ta) (hb : PE X (.BoolOp .Or (b :: rest) pos) tb) : PE X (.BoolOp .Or (a :: b :: rest) pos) (tOrV ta tb) := by
  intro pins s σ H Q I h
  refine BoolOp_or (thn (ha pins s σ H _ I h) fun v s1 ⟨x, H1, I1, r1, q1⟩ => ?_)
  obtain ⟨c, rfl, q1⟩ := q1
  cases r1
  refine wpAny_truthy_bool ?_
  cases c with
  | false => exact hb pins s1 σ H1 Q I1 q1
  | true => exact ⟨.bl true, H1, I1, rfl, q1⟩
theorem pe_not (ha : PE X a ta) : PE X (.UnaryOp .Not a pos) (tNotV ta) := by
  intro pins s σ H Q I h
  refine UnaryOp_ (thn (ha pins s σ H _ I h) fun v s1 ⟨x, H1, I1, r1, q1⟩ => ?_)
  obtain ⟨c, rfl, q1⟩ := q1
  cases r1
  exact not_of (wpAny_truthy_bool ⟨.bl (!c), H1, I1, rfl, q1⟩)
/-- a if t else b -/
def tIf (t : TT) (ta tb : TE) : TE := fun σ H Q => t σ H fun c H1 => if c = true then ta σ H1 Q else tb σ H1 Q
theorem pe_ifExp {c : Expr} (hc : PT X c tA) (ha : PE X a ta) (hb : PE X b tb) : PE X (.IfExp c a b pos) (tIf tA ta tb) := by
  intro pins s σ H Q I h
  refine wpAny_IfExp (thn (hc pins s σ H _ I h) fun d s1 ⟨H1, I1, q1⟩ => ?_)
  cases d with
  | true => exact ha pins s1 σ H1 Q I1 q1
  | false => exact hb pins s1 σ H1 Q I1 q1
end
end L2

namespace L2
open PySem PySem.Spec PyProof.Rows

/-! ### a list, a tuple that is read: tracked, frozen, or an object of the module -/
def SqL (K : PySem.W.Frag) (H : Hp) (a : Addr) (xs : List V) : Prop :=
  Rd H a (.lst xs) ∨
    ∃ (o : Obj) (its : Array Value) (n : Nat), K.lookup a = some o ∧ o.cls = .type "list" ∧ o.dict = none ∧ o.data = .seq its n ∧ its.size ≤ sizeLine ∧ Vals xs its.toList
def SqT (K : PySem.W.Frag) (H : Hp) (a : Addr) (xs : List V) : Prop :=
  Rd H a (.tup xs) ∨
    ∃ (o : Obj) (its : Array Value) (n : Nat), K.lookup a = some o ∧ o.cls = .type "tuple" ∧ o.data = .seq its n ∧ its.size ≤ sizeLine ∧ Vals xs its.toList
def absV : Value → Option V
  | .none => some .non
  | .bool b => some (.bl b)
  | .int i _ => some (.int i)
  | .str x _ => some (.str x)
  | .bytes b _ => some (.byt b)
  | .float b _ => some (.flt b)
  | .ref a => some (.ref a)
  | .type n => some (.ty n)
  | _ => none
theorem RelV.abs {x : V} {u : Value} (r : RelV x u) : absV u = some x := by
  cases x with
  | non => cases r; rfl
  | bl _ => cases r; rfl
  | int _ => obtain ⟨t, rfl⟩ := r; rfl
  | str _ => obtain ⟨t, rfl⟩ := r; rfl
  | byt _ => obtain ⟨t, rfl⟩ := r; rfl
  | flt _ => obtain ⟨t, rfl⟩ := r; rfl
  | ref _ => cases r; rfl
  | ty _ => cases r; rfl
theorem RelV.inj {x y : V} {u : Value} (r : RelV x u) (q : RelV y u) : x = y := Option.some.inj (r.abs.symm.trans q.abs)
theorem Vals.inj : ∀ {xs ys : List V} {us : List Value}, Vals xs us → Vals ys us → xs = ys
  | _, _, _, .nil, .nil => rfl
  | _, _, _, .cons r t, .cons r' t' => by rw [r.inj r', Vals.inj t t']
section
variable {X : Cx} {pins : List (Addr × Obj)} {σ : St} {H : Hp} {s : Shared} {a : Addr} {xs ys : List V}
theorem SqL.of {K : PySem.W.Frag} (h : H a = some (.lst xs)) : SqL K H a xs := .inl (.inl h)
theorem SqT.of {K : PySem.W.Frag} (h : H a = some (.tup xs)) : SqT K H a xs := .inl (.inl h)
theorem Inv.list (I : Inv X pins σ H s) (h : SqL X.K H a xs) : ∃ its : List Value, Vals xs its ∧ PlainL s.heap a its.toArray ∧ xs.length ≤ sizeLine := by
  rcases h with h | ⟨o, its, n, hk, hc, hd, hs, hz, r⟩
  · obtain ⟨z, its, n, r, e⟩ := h.ok I.hok
    exact ⟨its, r, ⟨_, n, e, rfl, rfl, rfl⟩, z⟩
  · refine ⟨its.toList, r, ⟨o, n, I.kIn a o hk, hc, hd, by simpa using hs⟩, ?_⟩
    have e := r.length
    simp only [Array.length_toList] at e
    omega
theorem Inv.tuple (I : Inv X pins σ H s) (h : SqT X.K H a xs) : ∃ its : List Value, Vals xs its ∧ IsTup s.heap a its.toArray ∧ xs.length ≤ sizeLine := by
  rcases h with h | ⟨o, its, n, hk, hc, hs, hz, r⟩
  · obtain ⟨z, its, r, p⟩ := h.ok I.hok
    exact ⟨its, r, p, z⟩
  · refine ⟨its.toList, r, ⟨o, I.kIn a o hk, hc, n, by simpa using hs⟩, ?_⟩
    have e := r.length
    simp only [Array.length_toList] at e
    omega
theorem Inv.list_inj (I : Inv X pins σ H s) (h : SqL X.K H a xs) (h' : SqL X.K H a ys) : xs = ys := by
  obtain ⟨its, r, ⟨o, n, e, _, _, d⟩, _⟩ := I.list h
  obtain ⟨its', r', ⟨o', n', e', _, _, d'⟩, _⟩ := I.list h'
  rw [e] at e'; cases e'
  rw [d] at d'
  injection d' with d1 _
  have : its = its' := by simpa using congrArg Array.toList d1
  subst this
  exact r.inj r'
theorem Inv.tuple_inj (I : Inv X pins σ H s) (h : SqT X.K H a xs) (h' : SqT X.K H a ys) : xs = ys := by
  obtain ⟨its, r, ⟨o, e, _, n, d⟩, _⟩ := I.tuple h
  obtain ⟨its', r', ⟨o', e', _, n', d'⟩, _⟩ := I.tuple h'
  rw [e] at e'; cases e'
  rw [d] at d'
  injection d' with d1 _
  have : its = its' := by simpa using congrArg Array.toList d1
  subst this
  exact r.inj r'
end

/-! ### another wish about exceptions -/
abbrev Cx.wish (X : Cx) (E : Value → Shared → Prop) : Cx := { X with xe := E }
/-- no exception leaves -/
abbrev Cx.nox (X : Cx) : Cx := X.wish fun _ _ => False
theorem Cx.Ok.wish {X : Cx} (ok : X.Ok) (E : Value → Shared → Prop) : (X.wish E).Ok :=
  ⟨ok.mod, ok.kind, ok.glob, ok.blt, ok.above, ok.inj, ok.has, ok.cab, ok.hd, ok.frames, ok.stk, ok.exf, ok.bs, ok.bsz, ok.noex, ok.exfs, ok.funs, ok.frf⟩
theorem Cx.Ok.unwish {X : Cx} {E : Value → Shared → Prop} (ok : (X.wish E).Ok) : X.Ok :=
  ⟨ok.mod, ok.kind, ok.glob, ok.blt, ok.above, ok.inj, ok.has, ok.cab, ok.hd, ok.frames, ok.stk, ok.exf, ok.bs, ok.bsz, ok.noex, ok.exfs, ok.funs, ok.frf⟩
section
variable {X : Cx} {pins : List (Addr × Obj)} {σ : St} {H : Hp} {s : Shared} {E : Value → Shared → Prop}
theorem Inv.wish (I : Inv X pins σ H s) (E : Value → Shared → Prop) : Inv (X.wish E) pins σ H s := ⟨I.ok.wish E, I.os, I.bare, I.base, I.loc, I.cell, I.free, I.freeC, I.pin, I.hok, I.len⟩
theorem Inv.unwish (I : Inv (X.wish E) pins σ H s) : Inv X pins σ H s := ⟨I.ok.unwish, I.os, I.bare, I.base, I.loc, I.cell, I.free, I.freeC, I.pin, I.hok, I.len⟩
theorem SP.unwish {D : Ends} {f : Flow} {s' : Shared} (h : SP (X.wish E) pins D f s') : SP X pins D f s' := by
  cases f with
  | next => obtain ⟨σ', H', I, q⟩ := h; exact ⟨σ', H', I.unwish, q⟩
  | brk => obtain ⟨σ', H', I, q⟩ := h; exact ⟨σ', H', I.unwish, q⟩
  | cont => obtain ⟨σ', H', I, q⟩ := h; exact ⟨σ', H', I.unwish, q⟩
  | ret u => obtain ⟨v, σ', H', I, r, q⟩ := h; exact ⟨v, σ', H', I.unwish, r, q⟩
theorem PE.nox {e : Expr} {t : TE} (h : PE X.nox e t) : PE X e t := fun pins s σ H Q I hw =>
  wpAny_mono (h pins s σ H Q (I.wish _) hw) (fun _ _ ⟨v, H', I', r, q⟩ => ⟨v, H', I'.unwish, r, q⟩) fun _ _ z => False.elim z
theorem PT.nox {e : Expr} {t : TT} (h : PT X.nox e t) : PT X e t := fun pins s σ H Q I hw =>
  wpAny_mono (h pins s σ H Q (I.wish _) hw) (fun _ _ ⟨H', I', q⟩ => ⟨H', I'.unwish, q⟩) fun _ _ z => False.elim z
theorem PSs.nox {st : List Stmt} {t : TS} (h : PSs X.nox st t) : PSs X st t := fun pins s σ H D I hw =>
  wpAny_mono (h pins s σ H D (I.wish _) hw) (fun _ _ q => q.unwish) fun _ _ z => False.elim z
end

/-! ### blocks and small statements -/
section
variable {X : Cx} {st : Stmt} {rest : List Stmt} {t u : TS} {e : Expr} {te : TE} {pos : Pos}
def tNext : TS := fun D σ H => D.nx σ H
def tSeq (t u : TS) : TS := fun D σ H => t { D with nx := u D } σ H
theorem pss_nil : PSs X [] tNext := fun _ _ σ H _ I h => wpAny_execs_nil ⟨σ, H, I, h⟩
theorem pss_cons (h1 : PS X st t) (h2 : PSs X rest u) : PSs X (st :: rest) (tSeq t u) := by
  intro pins s σ H D I h
  refine wpAny_execs_cons (thn (h1 pins s σ H { D with nx := u D } I h) fun f s1 q => ?_)
  cases f with
  | next =>
    obtain ⟨σ', H', I', q⟩ := q
    exact h2 pins s1 σ' H' D I' q
  | ret v => exact q
  | brk => exact q
  | cont => exact q
theorem pss_one (h1 : PS X st t) : PSs X [st] t := by
  intro pins s σ H D I h
  refine wpAny_execs_cons (thn (h1 pins s σ H D I h) fun f s1 q => ?_)
  cases f with
  | next => exact wpAny_execs_nil q
  | ret v => exact q
  | brk => exact q
  | cont => exact q
def tCont : TS := fun D σ H => D.ct σ H
theorem ps_continue : PS X (.Continue pos) tCont := fun _ _ σ H _ I h => wpAny_Continue ⟨σ, H, I, h⟩
/-- in a def's body nothing is shown -/
theorem Inv.quiet {pins : List (Addr × Obj)} {σ : St} {H : Hp} {s : Shared} (I : Inv X pins σ H s) : interactive X.env = false := by simp [interactive, I.ok.kind]
/-- an expression whose value is dropped -/
def tDrop (te : TE) : TS := fun D σ H => te σ H fun _ H1 => D.nx σ H1
theorem ps_expr (he : PE X e te) (hs : swapsWith e none pos.line X.env = pure false := by rfl) : PS X (.Expr e pos) (tDrop te) := by
  intro pins s σ H D I h
  exact wpAny_Expr_any (thn (he pins s σ H _ I h) fun v s1 ⟨x, H1, I1, r1, q1⟩ => ⟨σ, H1, I1, q1⟩) I.quiet hs
def tRet (te : TE) : TS := fun D σ H => te σ H D.rt
theorem ps_ret (he : PE X e te) : PS X (.Return (some e) pos) (tRet te) := by
  intro pins s σ H D I h
  exact wpAny_Return_some (thn (he pins s σ H _ I h) fun v s1 ⟨x, H1, I1, r1, q1⟩ => ⟨x, σ, H1, I1, r1, q1⟩)
def tIfS (c : TT) (t u : TS) : TS := fun D σ H => c σ H fun b H1 => if b = true then t D σ H1 else u D σ H1
theorem ps_if {c : Expr} {a b : List Stmt} {tc : TT} (hc : PT X c tc) (ha : PSs X a t) (hb : PSs X b u) : PS X (.If c a b pos) (tIfS tc t u) := by
  intro pins s σ H D I h
  refine wpAny_If (thn (hc pins s σ H _ I h) fun d s1 ⟨H1, I1, q1⟩ => ?_)
  cases d with
  | true => exact ha pins s1 σ H1 D I1 q1
  | false => exact hb pins s1 σ H1 D I1 q1
/-- code that the proof never comes to -/
def tNever : TS := fun _ _ _ => False
theorem pss_never {sts : List Stmt} : PSs X sts tNever := fun _ _ _ _ _ _ h => h.elim
end

/-! ### targets -/
abbrev TG := V → St → Hp → (St → Hp → Prop) → Prop
abbrev TGs := List V → St → Hp → (St → Hp → Prop) → Prop
def PG (X : Cx) (target : Expr) (t : TG) : Prop :=
  ∀ (pins : List (Addr × Obj)) (s : Shared) (σ : St) (H : Hp) (v : V) (u : Value) (Q : St → Hp → Prop), Inv X pins σ H s → RelV v u → t v σ H Q →
    wpAny (model X.prog X.w) X.A (assign target X.env u) (fun _ s' => ∃ σ' H', Inv X pins σ' H' s' ∧ Q σ' H') X.xe s
/-- several targets, one after another -/
def PGs (X : Cx) (ts : List Expr) (t : TGs) : Prop :=
  ∀ (pins : List (Addr × Obj)) (s : Shared) (σ : St) (H : Hp) (vs : List V) (us : List Value) (Q : St → Hp → Prop), Inv X pins σ H s → Vals vs us → t vs σ H Q →
    wpAny (model X.prog X.w) X.A (assignInOrder ((assignEach ts X.env).map (·.2)) us) (fun _ s' => ∃ σ' H', Inv X pins σ' H' s' ∧ Q σ' H') X.xe s
/-- o[i] = v, by values -/
abbrev TSet := V → V → V → Hp → (Hp → Prop) → Prop
def PSet (X : Cx) (t : TSet) : Prop :=
  ∀ (pins : List (Addr × Obj)) (s : Shared) (σ : St) (H : Hp) (o i v : V) (ov iv u : Value) (Q : Hp → Prop), Inv X pins σ H s → RelV o ov → RelV i iv → RelV v u → t o i v H Q →
    wpAny (model X.prog X.w) X.A (setItem ov iv u) (fun _ s' => ∃ H', Inv X pins σ H' s' ∧ Q H') X.xe s
/-- a op= b, by values -/
abbrev TIp := V → V → Hp → VK → Prop
def PIp (X : Cx) (op : Operator) (t : TIp) : Prop :=
  ∀ (pins : List (Addr × Obj)) (s : Shared) (σ : St) (H : Hp) (x y : V) (v u : Value) (Q : VK), Inv X pins σ H s → RelV x v → RelV y u → t x y H Q →
    wpAny (model X.prog X.w) X.A (inplaceOp op v u) (EP X pins σ Q) X.xe s
section
variable {X : Cx} {pos : Pos}
def gName (i : Nat) : TG := fun v σ H Q => Q (σ.set i (some v)) H
theorem pg_name {i : Nat} {x : Str} (hN : X.N.Nodup) (hi : X.N[i]? = some x) (hx : Loc X.env.scope x) (hf : X.fn x = true ∨ X.env.scope.names.lookup x = some .local := by first | exact .inl rfl | exact .inr rfl | assumption) : PG X (.Name x pos) (gName i) := by
  intro pins s σ H v u Q I r h
  exact wpAny_assign_Name (store_ok I hN hi hx r (fun s' I' => ⟨_, H, I', h⟩) hf)
def gNil : TGs := fun vs σ H Q => vs = [] ∧ Q σ H
def gCons (t : TG) (u : TGs) : TGs := fun vs σ H Q => ∃ v r, vs = v :: r ∧ t v σ H fun σ' H' => u r σ' H' Q
theorem pgs_nil : PGs X [] gNil := by
  intro pins s σ H vs us Q I r h
  obtain ⟨e, h⟩ := h
  subst e
  cases r
  exact assignInOrder_nil ⟨σ, H, I, h⟩
theorem pgs_cons {e : Expr} {es : List Expr} {t : TG} {u : TGs} (h1 : PG X e t) (h2 : PGs X es u)
    (hs : (assignEach (e :: es) X.env).map (·.2) = assign e X.env :: (assignEach es X.env).map (·.2) := by rfl) : PGs X (e :: es) (gCons t u) := by
  intro pins s σ H vs us Q I r h
  obtain ⟨v, vr, e1, h⟩ := h
  subst e1
  cases r with
  | cons r rr =>
    rw [hs]
    refine assignInOrder_cons (thn (h1 pins s σ H _ _ _ I r h) fun _ s1 ⟨σ1, H1, I1, q1⟩ => ?_)
    exact h2 pins s1 σ1 H1 _ _ Q I1 rr q1
/-- (a, b, ..) = a tuple of that length -/
def gTup (K : PySem.W.Frag) (n : Nat) (t : TGs) : TG := fun v σ H Q => ∃ a xs, v = .ref a ∧ SqT K H a xs ∧ xs.length = n ∧ t xs σ H Q
theorem pg_tup {es : List Expr} {k : Nat} {t : TGs} {n : Nat} (hc : X.calm = true) (h : PGs X es t)
    (hn : (assignEach es X.env).length = n := by rfl) (hst : (assignEach es X.env).findIdx? (·.1) = none := by rfl) : PG X (.Tuple es k pos) (gTup X.K n t) := by
  intro pins s σ H v u Q I r hw
  obtain ⟨a, xs, e1, hq, hl, hw⟩ := hw
  subst e1
  cases r
  obtain ⟨its, rv, ht, hz⟩ := I.tuple hq
  refine assign_Tuple_tuple (I.ok.hd hc) ht (by simp [hn, ← hl, rv.length]) hst fun h' hx => ?_
  have I1 : Inv X pins σ H { s with heap := h' } := I.kept (t' := s.toks) fun b o e => hx b o (Nat.ne_of_lt (Heap.lt_size e)) e
  exact h pins _ σ H xs _ Q I1 (by simpa using rv) hw
/-- o[i] = .. -/
def gSub (to ti : TE) (t : TSet) : TG := fun v σ H Q => to σ H fun o H1 => ti σ H1 fun i H2 => t o i v H2 fun H3 => Q σ H3
theorem pg_sub {o i : Expr} {to ti : TE} {t : TSet} (ho : PE X o to) (hi : PE X i ti) (hs : PSet X t)
    (ha : ∀ v, assign (.Subscript o i pos) X.env v = (do
      let ov ← holding [v] (eval o X.env)
      let iv ← holding [v, ov] (eval i X.env)
      standAt pos
      holding [v, ov, iv] (setItem ov iv v)
      release [v, ov, iv] []) := by intro _; rfl) : PG X (.Subscript o i pos) (gSub to ti t) := by
  intro pins s σ H v u Q I r h
  rw [ha]
  refine wpAny_bind (wpAny_holding (thn (ho pins s σ H _ I h) fun ov s1 ⟨x, H1, I1, r1, q1⟩ => ?_))
  refine wpAny_bind (wpAny_holding (thn (hi pins s1 σ H1 _ I1 q1) fun iv s2 ⟨y, H2, I2, r2, q2⟩ => ?_))
  refine wpAny_bind (wpAny_standAt (wpAny_bind (wpAny_holding (thn (hs pins s2 σ H2 x y v ov iv u _ I2 r1 r2 r q2) fun _ s3 ⟨H3, I3, q3⟩ => ?_))))
  exact wpAny_release ⟨σ, H3, I3, q3⟩
/-- target = value -/
def tAsg (te : TE) (g : TG) : TS := fun D σ H => te σ H fun x H1 => g x σ H1 D.nx
theorem ps_asg {tg e : Expr} {te : TE} {g : TG} (he : PE X e te) (hg : PG X tg g) (hs : swapsWithSole [tg] e pos.line X.env = pure false := by rfl) (hw : swappedStores [tg] e X.env = pure none := by rfl)
    (h1 : (assignEach [tg] X.env).map (·.2) = [assign tg X.env] := by rfl) : PS X (.Assign [tg] e pos) (tAsg te g) := by
  intro pins s σ H D I h
  refine wpAny_Assign_stores (thn (he pins s σ H _ I h) fun v s1 ⟨x, H1, I1, r1, q1⟩ => ?_) hs hw
  rw [h1]
  exact thn (hg pins s1 σ H1 x v _ I1 r1 q1) fun _ s2 q => q
/-- name = value -/
theorem ps_set {i : Nat} {x : Str} {e : Expr} {te : TE} {pos' : Pos} (hN : X.N.Nodup) (hi : X.N[i]? = some x) (hx : Loc X.env.scope x) (he : PE X e te) (hs : swapsWith e (some (.Name x pos')) pos.line X.env = pure false := by rfl) (hf : X.fn x = true ∨ X.env.scope.names.lookup x = some .local := by first | exact .inl rfl | exact .inr rfl | assumption) :
    PS X (.Assign [.Name x pos'] e pos) (tAsg te (gName i)) := by
  intro pins s σ H D I h
  refine wpAny_Assign_Name (thn (he pins s σ H _ I h) fun v s1 ⟨y, H1, I1, r1, q1⟩ => ?_) hs
  exact store_ok I1 hN hi hx r1 (fun s2 I2 => ⟨_, H1, I2, q1⟩) hf
/-- a, b = x, y with plain local names: stored from the right; the pair itself is not tracked (the opening rows as in PyProof/Rows/TupAssign.lean:23) -/
def tPar (i j : Nat) (ta : TA) : TS := fun D σ H => ta σ H fun vs H1 => ∃ v w, vs = [v, w] ∧ D.nx ((σ.set i (some v)).set j (some w)) H1
theorem ps_par {i j : Nat} {x y : Str} {a b : Expr} {ta : TA} {px py pt : Pos} {kt k2 pt2} (hc : X.calm = true) (hN : X.N.Nodup) (hi : X.N[i]? = some x) (hj : X.N[j]? = some y) (hij : i ≠ j)
    (hx : X.env.scope.names.lookup x = some .local) (hy : X.env.scope.names.lookup y = some .local) (ha : PA X [a, b] ta)
    (hw : swappedStores [.Tuple [.Name x px, .Name y py] kt pt] (.Tuple [a, b] k2 pt2) X.env = pure (some [x, y]))
    (hs : swapsWithSole [.Tuple [.Name x px, .Name y py] kt pt] (.Tuple [a, b] k2 pt2) pos.line X.env = pure false := by rfl) :
    PS X (.Assign [.Tuple [.Name x px, .Name y py] kt pt] (.Tuple [a, b] k2 pt2) pos) (tPar i j ta) := by
  intro pins s σ H D I h
  rw [exec_Assign_arm]
  refine wpAny_bind (wpAny_standAt ?_)
  rw [hs]
  refine wpAny_bind (wpAny_pure ?_)
  rw [if_neg (by decide)]
  refine wpAny_bind (Tuple_ (thn (ha _ pins s σ H _ I h) fun us s1 ⟨vs, H1, I1, r1, q1⟩ => ?_))
  obtain ⟨v, w, e1, q1⟩ := q1
  subst e1
  obtain ⟨u1, u2, rfl, rv, rw'⟩ : ∃ u1 u2, us = [u1, u2] ∧ RelV v u1 ∧ RelV w u2 := by
    cases r1 with
    | cons p q =>
      cases q with
      | cons p' q' =>
        cases q'
        exact ⟨_, _, rfl, p, p'⟩
  refine wpAny_newObj_type ?_ (by show 2 ≤ sizeLine; decide)
  have I2 : Inv X pins σ H1 { s1 with heap := s1.heap.push { cls := .type "tuple", data := .seq [u1, u2].toArray } } := I1.kept (t' := s1.toks) fun b o e => Heap.get?_push_of_some _ e
  rw [hw]
  refine wpAny_bind (wpAny_pure ?_)
  show wpAny (model X.prog X.w) X.A (do rule "assign.swapped-stores"; let items ← unpackItems (.ref s1.heap.objs.size) 2 none; assignInOrder [fun v => bindName X.env y v, fun v => bindName X.env x v] items.reverse; pure Flow.next) _ _ _
  refine wpAny_bind (wpAny_rule (wpAny_bind (unpackItems_tuple (items := #[u1, u2]) (I.ok.hd hc) (IsTup.new s1.heap _) fun h' hx' => ?_)))
  have I3 := I2.kept (h' := h') (t' := s1.toks) fun b o e => hx' b o (Nat.ne_of_lt (Heap.lt_size e)) e
  show wpAny _ _ (assignInOrder [fun v => bindName X.env y v, fun v => bindName X.env x v] [u2, u1] >>= fun _ => pure Flow.next) _ _ _
  refine wpAny_bind (assignInOrder_cons (wpAny_bindName (store_ok I3 hN hj (.inl hy) rw' (fun s2 I4 => ?_) (.inr hy))))
  refine assignInOrder_cons (wpAny_bindName (store_ok I4 hN hi (.inl hx) rv (fun s3 I5 => assignInOrder_nil (wpAny_pure ?_)) (.inr hx)))
  rw [List.set_comm _ _ (Ne.symm hij)] at I5
  exact ⟨_, H1, I5, q1⟩
/-- name op= e -/
def tAug (i : Nat) (te : TE) (ti : TIp) : TS := fun D σ H => ∃ x, σ[i]? = some (some x) ∧ te σ H fun y H1 => ti x y H1 fun z H2 => D.nx (σ.set i (some z)) H2
theorem ps_aug {i : Nat} {x : Str} {e : Expr} {te : TE} {op : Operator} {ti : TIp} {pos' : Pos} (hN : X.N.Nodup) (hi : X.N[i]? = some x) (hx : Loc X.env.scope x) (he : PE X e te) (ho : PIp X op ti) (hf : X.fn x = true ∨ X.env.scope.names.lookup x = some .local := by first | exact .inl rfl | exact .inr rfl | assumption) :
    PS X (.AugAssign (.Name x pos') op e pos) (tAug i te ti) := by
  intro pins s σ H D I h
  obtain ⟨v, e1, h⟩ := h
  obtain ⟨m, hn, hl⟩ := I.loc
  have vis : Vis X.env.scope x := by rcases hx with k | k; exact .inl k; exact .inr (.inl k)
  obtain ⟨u, r, l⟩ := hl i x v hi e1 vis
  refine wpAny_AugAssign_Name ?_
  have go : wpAny (model X.prog X.w) X.A (eval e X.env) (fun w s₂ => wpAny (model X.prog X.w) X.A (inplaceOp op u w) (fun r s₃ => wpAny (model X.prog X.w) X.A (storeName X.env x r) (fun _ => SP X pins D .next) X.xe s₃) X.xe s₂) X.xe s := by
    refine thn (he pins s σ H _ I h) fun w s1 ⟨y, H1, I1, r1, q1⟩ => ?_
    refine thn (ho pins s1 σ H1 v y u w _ I1 r r1 q1) fun z s2 ⟨zv, H2, I2, r2, q2⟩ => ?_
    exact store_ok I2 hN hi hx r2 (fun s3 I3 => ⟨_, H2, I3, q2⟩) hf
  rcases l with ⟨hk, hm⟩ | ⟨hk, c, hc, hcell⟩
  · exact wpAny_loadName_local I.ok.kind hk hn hm go
  · rcases hk with hk | hk
    · exact wpAny_loadName_cell I.ok.kind hk hc hcell go
    · rcases hx with k | k
      · have : X.env.scope.names.lookup x = some .free := hk
        rw [k] at this; cases this
      · have : X.env.scope.names.lookup x = some .free := hk
        rw [k] at this; cases this
/-- ints -/
def ipI (f : Int → Int → Int) : TIp := fun x y H Q => ∃ i j, x = .int i ∧ y = .int j ∧ Q (.int (f i j)) H
theorem ip_add : PIp X .Add (ipI fun i j => i + j) := by
  intro pins s σ H x y v u Q I r1 r2 h
  obtain ⟨i, j, e1, e2, q⟩ := h
  subst e1; subst e2
  obtain ⟨t, rfl⟩ := r1
  obtain ⟨t', rfl⟩ := r2
  exact iadd_int ⟨.int _, H, I.tok _, ⟨_, rfl⟩, q⟩
end

/-! ### while -/
section
variable {X : Cx} {pos : Pos}
/-- the invariant W with its measure -/
def tWhile (c : TT) (tb : TS) : TS := fun D σ H => ∃ W : Nat → St → Hp → Prop, (∃ m, W m σ H) ∧ ∀ m σ H, W m σ H →
  c σ H fun b H1 => if b = true then ∃ N : St → Hp → Prop, (∀ σ' H', N σ' H' → ∃ m', m' < m ∧ W m' σ' H') ∧ tb { D with nx := N, ct := N, bk := D.nx } σ H1 else D.nx σ H1
theorem ps_while {c : Expr} {body : List Stmt} {tc : TT} {tb : TS} (hp : PassesOwn (model X.prog X.w) X.A X.env X.xe) (hc : PT X c tc) (hb : PSs X body tb) : PS X (.While c body [] pos) (tWhile tc tb) := by
  intro pins s σ H D I h
  obtain ⟨W, ⟨m0, w0⟩, turn⟩ := h
  refine wpAny_While (codeAny_whileLoop (fun n s' => ∃ σ' H', Inv X pins σ' H' s' ∧ W n σ' H') ?_ m0 ⟨σ, H, I, w0⟩)
  rintro n s1 ⟨σ1, H1, I1, w1⟩
  refine wpAny_passesOwn hp (thn (hc pins s1 σ1 H1 _ I1 (turn n σ1 H1 w1)) fun b s2 ⟨H2, I2, q2⟩ => ?_)
  cases b with
  | true =>
    obtain ⟨N, hN, q2⟩ := q2
    rw [if_pos rfl]
    refine wpAny_passesOwn hp (thn (hb pins s2 σ1 H2 _ I2 q2) fun f s3 q3 => ?_)
    cases f with
    | next =>
      obtain ⟨σ3, H3, I3, n3⟩ := q3
      obtain ⟨m', hm, w3⟩ := hN σ3 H3 n3
      exact ⟨m', hm, σ3, H3, I3, w3⟩
    | cont =>
      obtain ⟨σ3, H3, I3, n3⟩ := q3
      obtain ⟨m', hm, w3⟩ := hN σ3 H3 n3
      exact ⟨m', hm, σ3, H3, I3, w3⟩
    | brk => exact q3
    | ret v => exact q3
  | false =>
    rw [if_neg Bool.false_ne_true]
    exact wpAny_execs_nil ⟨σ1, H2, I2, q2⟩
end

/-! ### what a loop or a comprehension walks -/
/-- at turn i: it yields x (the heap may grow), or it stops -/
structure It where
  go : Nat → Hp → Prop
  yld : Nat → Hp → V → Hp → Prop
  stop : Nat → Hp → Prop
/-- the iterator's own objects may turn: they are not the frame's, not pinned, younger than the entry (or a comprehension's own) -/
def FpOk (X : Cx) (pins : List (Addr × Obj)) (H : Hp) (b : Addr) : Prop :=
  H b = none ∧ b ≠ X.env.locals ∧ b ∉ X.fs ∧ (b ∈ X.ex ∨ X.s₀.heap.objs.size ≤ b) ∧ (∀ x c, X.env.cells.lookup x = some c → c ≠ b) ∧ ∀ p ∈ X.pn ++ pins, p.1 ≠ b
theorem Inv.fpOk {X : Cx} {pins : List (Addr × Obj)} {σ : St} {H H' : Hp} {s : Shared} {b : Addr} (I : Inv X pins σ H s) (hb : s.heap.objs.size ≤ b) (hn : H' b = none) : FpOk X pins H' b := by
  refine ⟨hn, Nat.ne_of_gt (Nat.lt_of_lt_of_le I.lt hb), I.nofs hb, .inr (Nat.le_trans I.sz hb), fun x c e z => ?_, fun p hp z => ?_⟩
  · obtain ⟨v, q⟩ := I.cell x c e
    exact absurd (Nat.lt_of_lt_of_le q.lt (by rw [z]; exact hb)) (Nat.lt_irrefl _)
  · exact absurd (Nat.lt_of_lt_of_le (Heap.lt_size (I.pin p hp).1) (by rw [z]; exact hb)) (Nat.lt_irrefl _)
structure Turn (P : Program) (w : World) (K : PySem.W.Frag) (tg : Expr) (J : It) (fp : List Addr) (it : Addr) (tn : Nat → Heap → Prop) : Prop where
  mem : it ∈ fp
  obj : ∀ i h, tn i h → ∀ b ∈ fp, ∃ o, h.get? b = some o ∧ ∀ v, o.data ≠ .cell v
  keep : ∀ i h h', tn i h → (∀ b ∈ fp, ∀ o, h.get? b = some o → h'.get? b = some o) → tn i h'
  item : ∀ (X : Cx), X.prog = P → X.w = w → X.K = K → X.calm = true → ∀ (i : Nat) (pins : List (Addr × Obj)) (s : Shared) (σ : St) (H : Hp) (E : Value → Shared → Prop), Inv X pins σ H s → (∀ b ∈ fp, FpOk X pins H b) → tn i s.heap → J.go i H →
    wpAny (model P w) X.A (pyNext (.ref it)) (fun r s1 => ∃ u, r = some u ∧
      wpAny (model P w) X.A (letOwnedTupleGo tg (.ref it) u) (fun _ s2 => ∃ x H', Inv X pins σ H' s2 ∧ RelV x u ∧ J.yld i H x H' ∧ tn (i + 1) s2.heap ∧ ∀ b ∈ fp, H' b = none) E s1) E s
  done : ∀ (X : Cx), X.prog = P → X.w = w → X.K = K → X.calm = true → ∀ (i : Nat) (pins : List (Addr × Obj)) (s : Shared) (σ : St) (H : Hp) (E : Value → Shared → Prop), Inv X pins σ H s → (∀ b ∈ fp, FpOk X pins H b) → tn i s.heap → J.stop i H →
    wpAny (model P w) X.A (pyNext (.ref it)) (fun r s1 => r = none ∧ Inv X pins σ H s1) E s
  self : ∀ (A : Around) (i : Nat) (s : Shared) (Q : Value → Shared → Prop) (E : Value → Shared → Prop), tn i s.heap → Q (.ref it) s → wpAny (model P w) A (pyIter (.ref it)) Q E s
abbrev TI := St → Hp → (It → Hp → Prop) → Prop
/-- an iterator has come -/
def PIE (X : Cx) (pins : List (Addr × Obj)) (σ : St) (tg : Expr) (R : It → Hp → Prop) (itv : Value) (s2 : Shared) : Prop :=
  ∃ (it : Addr) (fp : List Addr) (tn : Nat → Heap → Prop) (J : It) (H' : Hp), itv = .ref it ∧ Inv X pins σ H' s2 ∧ Turn X.prog X.w X.K tg J fp it tn ∧ tn 0 s2.heap ∧ (∀ b ∈ fp, FpOk X pins H' b) ∧ R J H'
def PI (X : Cx) (tg iter : Expr) (wi : TI) : Prop :=
  ∀ (pins : List (Addr × Obj)) (s : Shared) (σ : St) (H : Hp) (R : It → Hp → Prop), Inv X pins σ H s → wi σ H R →
    wpAny (model X.prog X.w) X.A (eval iter X.env) (fun v s1 => wpAny (model X.prog X.w) X.A (pyIter v) (PIE X pins σ tg R) X.xe s1) X.xe s

/-- the step ahead of the store is nothing for an iterator that keeps no tuple -/
theorem go_of {M : Model} {A : Around} {E : Value → Shared → Prop} {s : Shared} {tg : Expr} {it : Addr} {u : Value} {o : Obj} {n : String} {vs : Array Value} {Q : Unit → Shared → Prop} (ho : s.heap.get? it = some o) (hc : o.cls = .type n) (hd : o.data = .fields vs)
    (hn : ["enumerate", "zip", "dict_itemiterator", "dict_reverseitemiterator", "odict_iterator", "itertools.zip_longest", "itertools.pairwise"].contains n = false) (hQ : Q () s) : wpAny M A (letOwnedTupleGo tg (.ref it) u) Q E s := by
  unfold letOwnedTupleGo
  cases tg <;> first
    | exact wpAny_pure hQ
    | (cases u <;> first
        | exact wpAny_pure hQ
        | (refine wpAny_bind (wpAny_load ho ?_)
           rw [hc, hd]
           show wpAny M A (if (["enumerate", "zip", "dict_itemiterator", "dict_reverseitemiterator", "odict_iterator", "itertools.zip_longest", "itertools.pairwise"].contains n && vs[0]? == some (rawInt _)) = true then _ else _) Q E s
           rw [if_neg (by intro h; rw [hn, Bool.false_and] at h; cases h)]
           exact wpAny_pure hQ))

/-- the list at a, as it stands at each turn (a loop may append to it) -/
def Itl (K : PySem.W.Frag) (a : Addr) : It :=
  ⟨fun i H => ∃ xs x, SqL K H a xs ∧ xs[i]? = some x, fun i H x H' => H' = H ∧ ∀ xs, SqL K H a xs → xs[i]? = some x, fun i H => ∃ xs, SqL K H a xs ∧ xs.length ≤ i⟩
def Itt (K : PySem.W.Frag) (a : Addr) : It :=
  ⟨fun i H => ∃ xs x, SqT K H a xs ∧ xs[i]? = some x, fun i H x H' => H' = H ∧ ∀ xs, SqT K H a xs → xs[i]? = some x, fun i H => ∃ xs, SqT K H a xs ∧ xs.length ≤ i⟩
/-- lo, lo + 1, .. (n of them) -/
def Itr (lo : Int) (n : Nat) : It := ⟨fun i _ => i < n, fun i H x H' => H' = H ∧ x = .int (lo + i), fun i _ => n ≤ i⟩
theorem turn_list {P : Program} {w : World} {K : PySem.W.Frag} {tg : Expr} (a it : Addr) : Turn P w K tg (Itl K a) [it] it (fun i h => h.IsListIter it a i) where
  mem := by simp
  obj := fun i h st b hb => by
    have e : b = it := by simpa using hb
    subst e
    obtain ⟨o, e, c, d⟩ := st
    exact ⟨o, e, fun v z => by rw [d] at z; cases z⟩
  keep := fun i h h' st k => st.at fun o e => k it (by simp) o e
  item := by
    intro X hP hw hK hc i pins s σ H E I hf st hg
    subst hP hw hK
    obtain ⟨xs, x, hq, hx⟩ := hg
    obtain ⟨its, rv, p, hz⟩ := I.list hq
    obtain ⟨u, hu, ru⟩ := rv.get hx
    obtain ⟨f0, f1, f2, f3, f4, f5⟩ := hf it (by simp)
    refine wpAny_pyNext_list_item st p.isList (x := u) (by simpa using hu) fun h' st' sb => ?_
    have I1 : Inv X pins σ H { s with heap := h' } := I.turned (t' := s.toks) (fun b o hb e => (sb.2 b hb).trans e) f0 f1 f3 f4 f5
    obtain ⟨o, e, c, d⟩ := id st'
    exact ⟨u, rfl, go_of (s := { s with heap := h' }) e c d (by decide) ⟨x, H, I1, ru, ⟨rfl, fun ys hy => by rw [I.list_inj hy hq]; exact hx⟩, st', fun b hb => (hf b hb).1⟩⟩
  done := by
    intro X hP hw hK hc i pins s σ H E I hf st hg
    subst hP hw hK
    obtain ⟨xs, hq, hx⟩ := hg
    obtain ⟨its, rv, p, hz⟩ := I.list hq
    obtain ⟨f0, f1, f2, f3, f4, f5⟩ := hf it (by simp)
    have hl := rv.length
    exact wpAny_pyNext_list_end (I.ok.hd hc) st p.isList (by simp; omega) fun h' eb => ⟨rfl, I.turned (t' := s.toks) (fun b o hb e => eb b o hb e) f0 f1 f3 f4 f5⟩
  self := fun _ _ _ _ _ st h => wpAny_pyIter_listiter st h
theorem turn_tuple {P : Program} {w : World} {K : PySem.W.Frag} {tg : Expr} (a it : Addr) : Turn P w K tg (Itt K a) [it] it (fun i h => h.IsTupleIter it a i) where
  mem := by simp
  obj := fun i h st b hb => by
    have e : b = it := by simpa using hb
    subst e
    obtain ⟨o, e, c, d⟩ := st
    exact ⟨o, e, fun v z => by rw [d] at z; cases z⟩
  keep := fun i h h' st k => st.at fun o e => k it (by simp) o e
  item := by
    intro X hP hw hK hc i pins s σ H E I hf st hg
    subst hP hw hK
    obtain ⟨xs, x, hq, hx⟩ := hg
    obtain ⟨its, rv, p, hz⟩ := I.tuple hq
    obtain ⟨u, hu, ru⟩ := rv.get hx
    obtain ⟨f0, f1, f2, f3, f4, f5⟩ := hf it (by simp)
    refine wpAny_pyNext_tuple_item st (show s.heap.IsTuple a its.toArray from p) (x := u) (by simpa using hu) fun h' st' sb => ?_
    have I1 : Inv X pins σ H { s with heap := h' } := I.turned (t' := s.toks) (fun b o hb e => (sb.2 b hb).trans e) f0 f1 f3 f4 f5
    obtain ⟨o, e, c, d⟩ := id st'
    exact ⟨u, rfl, go_of (s := { s with heap := h' }) e c d (by decide) ⟨x, H, I1, ru, ⟨rfl, fun ys hy => by rw [I.tuple_inj hy hq]; exact hx⟩, st', fun b hb => (hf b hb).1⟩⟩
  done := by
    intro X hP hw hK hc i pins s σ H E I hf st hg
    subst hP hw hK
    obtain ⟨xs, hq, hx⟩ := hg
    obtain ⟨its, rv, p, hz⟩ := I.tuple hq
    obtain ⟨f0, f1, f2, f3, f4, f5⟩ := hf it (by simp)
    have hl := rv.length
    exact wpAny_pyNext_tuple_end (I.ok.hd hc) st (show s.heap.IsTuple a its.toArray from p) (by simp; omega) fun h' eb => ⟨rfl, I.turned (t' := s.toks) (fun b o hb e => eb b o hb e) f0 f1 f3 f4 f5⟩
  self := fun _ _ _ _ _ st h => wpAny_pyIter_tupleiter st h
theorem turn_range {P : Program} {w : World} {K : PySem.W.Frag} {tg : Expr} (it : Addr) (lo : Int) (n : Nat) : Turn P w K tg (Itr lo n) [it] it (fun i h => IsRangeIter h it (lo + (i : Nat) * 1) ((n : Int) - (i : Nat)) 1) where
  mem := by simp
  obj := fun i h st b hb => by
    have e : b = it := by simpa using hb
    subst e
    exact ⟨_, st, fun v z => by
      have z' : Data.fields _ = Data.cell v := z
      cases z'⟩
  keep := fun i h h' st k => k it (by simp) _ st
  item := by
    intro X hP hw hK hc i pins s σ H E I hf st hg
    subst hP hw hK
    obtain ⟨f0, f1, f2, f3, f4, f5⟩ := hf it (by simp)
    have W := Walks.range (prog := X.prog) (w := X.w) (I.ok.hd hc) it lo 1 n
    refine W.item i s _ _ hg st fun v h' tk hv st' kk => ?_
    obtain ⟨t, rfl⟩ := hv
    have I1 : Inv X pins σ H { s with heap := h', toks := tk } := I.turned (fun b o hb e => kk b o (by simpa using hb) e) f0 f1 f3 f4 f5
    refine ⟨_, rfl, go_of (s := { s with heap := h', toks := tk }) (n := "range_iterator") st' rfl rfl (by decide) ⟨.int (lo + i), H, I1, ⟨t, ?_⟩, ⟨rfl, rfl⟩, st', fun b hb => (hf b hb).1⟩⟩
    rw [Int.mul_one]
  done := by
    intro X hP hw hK hc i pins s σ H E I hf st hg
    subst hP hw hK
    obtain ⟨f0, f1, f2, f3, f4, f5⟩ := hf it (by simp)
    exact wpAny_pyNext_range_end (I.ok.hd hc) st (by have : n ≤ i := hg; omega) fun h' eb => ⟨rfl, I.turned (t' := s.toks) (fun b o hb e => eb b o hb e) f0 f1 f3 f4 f5⟩
  self := fun _ _ _ _ _ st h => wpAny_pyIter_rangeiter st h
end L2

namespace L2
open PySem PySem.Spec PyProof.Rows
section
variable {X : Cx} {tg : Expr}
def iList (K : PySem.W.Frag) (tl : TE) : TI := fun σ H R => tl σ H fun x H1 => ∃ a, x = .ref a ∧ (∃ xs, SqL K H1 a xs) ∧ R (Itl K a) H1
def iTup (K : PySem.W.Frag) (tl : TE) : TI := fun σ H R => tl σ H fun x H1 => ∃ a, x = .ref a ∧ (∃ xs, SqT K H1 a xs) ∧ R (Itt K a) H1
theorem pi_list {l : Expr} {tl : TE} (hl : PE X l tl) : PI X tg l (iList X.K tl) := by
  intro pins s σ H R I h
  refine thn (hl pins s σ H _ I h) fun v s1 ⟨x, H1, I1, r1, q1⟩ => ?_
  obtain ⟨a, e, ⟨xs, hq⟩, q⟩ := q1
  subst e
  cases r1
  obtain ⟨its, rv, p, hz⟩ := I1.list hq
  refine wpAny_pyIter_list p.isList ?_
  refine ⟨s1.heap.objs.size, [s1.heap.objs.size], _, _, H1, rfl, I1.kept (t' := s1.toks) fun b o e => Heap.get?_push_of_some _ e, turn_list a _, ⟨_, Heap.get?_push_size _ rfl, rfl, rfl⟩, fun b hb => ?_, q⟩
  have e : b = s1.heap.objs.size := by simpa using hb
  subst e
  exact I1.fpOk (Nat.le_refl _) (I1.hok.fresh (Nat.le_refl _))
theorem pi_tup {l : Expr} {tl : TE} (hl : PE X l tl) : PI X tg l (iTup X.K tl) := by
  intro pins s σ H R I h
  refine thn (hl pins s σ H _ I h) fun v s1 ⟨x, H1, I1, r1, q1⟩ => ?_
  obtain ⟨a, e, ⟨xs, hq⟩, q⟩ := q1
  subst e
  cases r1
  obtain ⟨its, rv, p, hz⟩ := I1.tuple hq
  refine wpAny_pyIter_tuple (show s1.heap.IsTuple a its.toArray from p) ?_
  refine ⟨s1.heap.objs.size, [s1.heap.objs.size], _, _, H1, rfl, I1.kept (t' := s1.toks) fun b o e => Heap.get?_push_of_some _ e, turn_tuple a _, ⟨_, Heap.get?_push_size _ rfl, rfl, rfl⟩, fun b hb => ?_, q⟩
  have e : b = s1.heap.objs.size := by simpa using hb
  subst e
  exact I1.fpOk (Nat.le_refl _) (I1.hok.fresh (Nat.le_refl _))
/-- a range object just made, walked -/
theorem range_it {pins : List (Addr × Obj)} {σ : St} {H : Hp} {s : Shared} {R : It → Hp → Prop} {E : Value → Shared → Prop} {lo hi : Int} {t u v : Tok} {tk : Nat} (I : Inv X pins σ H s) (h1 : -(2 ^ 62) ≤ lo) (h2 : lo < 2 ^ 62) (h3 : -(2 ^ 62) ≤ hi) (h4 : hi < 2 ^ 62)
    (q : R (Itr lo (hi - lo).toNat) H) : wpAny (model X.prog X.w) X.A (pyIter (.ref s.heap.objs.size)) (PIE X pins σ tg R) E { s with heap := s.heap.push { cls := .type "range", data := .fields #[.int lo t, .int hi u, .int 1 v] }, toks := tk } := by
  refine wpAny_pyIter_range (IsRange.new ..) (small_one h1 h2 h3 h4) ?_
  have I1 : Inv X pins σ H { s with heap := s.heap.push { cls := .type "range", data := .fields #[.int lo t, .int hi u, .int 1 v] }, toks := tk } := I.kept fun b o e => Heap.get?_push_of_some _ e
  refine ⟨(s.heap.push { cls := .type "range", data := .fields #[.int lo t, .int hi u, .int 1 v] }).objs.size, [(s.heap.push { cls := .type "range", data := .fields #[.int lo t, .int hi u, .int 1 v] }).objs.size], _, _, H, rfl,
    I1.kept (t' := tk) fun b o e => Heap.get?_push_of_some _ e, turn_range _ lo (hi - lo).toNat, ?_, fun b hb => ?_, q⟩
  · have e1 : lo + ((0 : Nat) : Int) * 1 = lo := by simp
    have e2 : (((hi - lo).toNat : Nat) : Int) - ((0 : Nat) : Int) = Builtin.Range.rangeSize lo hi 1 := by rw [rangeSize_one]; split <;> omega
    show IsRangeIter _ _ (lo + ((0 : Nat) : Int) * 1) ((((hi - lo).toNat : Nat) : Int) - ((0 : Nat) : Int)) 1
    rw [e1, e2]
    exact Heap.get?_push_size _ rfl
  · have e : b = (s.heap.push { cls := .type "range", data := .fields #[.int lo t, .int hi u, .int 1 v] }).objs.size := by simpa using hb
    subst e
    exact I1.fpOk (Nat.le_refl _) (I1.hok.fresh (Nat.le_refl _))
def iRng1 (ta : TA) : TI := fun σ H R => ta σ H fun vs H1 => ∃ j : Int, vs = [.int j] ∧ -(2 ^ 62) ≤ j ∧ j < 2 ^ 62 ∧ R (Itr 0 j.toNat) H1
def iRng2 (ta : TA) : TI := fun σ H R => ta σ H fun vs H1 => ∃ i j : Int, vs = [.int i, .int j] ∧ (-(2 ^ 62) ≤ i ∧ i < 2 ^ 62 ∧ -(2 ^ 62) ≤ j ∧ j < 2 ^ 62) ∧ R (Itr i (j - i).toNat) H1
theorem pi_range1 {a : Expr} {ta : TA} {p pos : Pos} (hg : Gl X "range") (hm : X.mg "range" = none) (ha : PA X [a] ta) (hs : starEach [a] X.env = [(false, eval a X.env)] := by rfl) : PI X tg (.Call (.Name "range" p) [a] [] pos) (iRng1 ta) := by
  intro pins s σ H R I h
  refine Call_ (ld_blt I hg hm boot_range (PyProof.Rows.callWith_type1 (thn (ha pos pins s σ H _ I h) fun us s1 ⟨vs, H1, I1, r1, q1⟩ => ?_) hs rfl))
  obtain ⟨j, e, q1, q2, q⟩ := q1
  subst e
  cases r1 with
  | cons r rr =>
    cases rr
    obtain ⟨t, rfl⟩ := r
    exact call_range_1 (range_it I1 (by omega) (by omega) q1 q2 (by simpa using q))
theorem pi_range2 {a b : Expr} {ta : TA} {p pos : Pos} (hg : Gl X "range") (hm : X.mg "range" = none) (ha : PA X [a, b] ta) (hs : starEach [a, b] X.env = [(false, eval a X.env), (false, eval b X.env)] := by rfl) (hs2 : starEach [b] X.env = [(false, eval b X.env)] := by rfl) :
    PI X tg (.Call (.Name "range" p) [a, b] [] pos) (iRng2 ta) := by
  intro pins s σ H R I h
  refine Call_ (ld_blt I hg hm boot_range (PyProof.Rows.callWith_type1 (thn (ha pos pins s σ H _ I h) fun us s1 ⟨vs, H1, I1, r1, q1⟩ => ?_) (by rw [hs, hs2]) (by rw [hs2]; rfl)))
  obtain ⟨i, j, e, ⟨q1, q2, q3, q4⟩, q⟩ := q1
  subst e
  cases r1 with
  | cons r rr =>
    cases rr with
    | cons r' rr =>
      cases rr
      obtain ⟨t, rfl⟩ := r
      obtain ⟨t', rfl⟩ := r'
      exact call_range_2 (range_it I1 q1 q2 q3 q4 q)

/-! ### for -/
/-- W: the invariant by the turn and a measure; N: what the body is to reach -/
def tFor (wi : TI) (g : TG) (tb : TS) : TS := fun D σ H => wi σ H fun J H1 => ∃ W : Nat → Nat → St → Hp → Prop, (∃ m, W 0 m σ H1) ∧ ∀ i m σ H, W i m σ H →
  (J.stop i H ∧ D.nx σ H) ∨ (J.go i H ∧ ∃ N : St → Hp → Prop, (∀ σ' H', N σ' H' → ∃ m', m' < m ∧ W (i + 1) m' σ' H') ∧ ∀ x H', J.yld i H x H' → g x σ H' fun σ2 H2 => tb { D with nx := N, ct := N, bk := D.nx } σ2 H2)
/-- the records at fp as they stand -/
def pinsAt (fp : List Addr) (h : Heap) : List (Addr × Obj) := fp.filterMap fun b => (h.get? b).map fun o => (b, o)
theorem mem_pinsAt {fp : List Addr} {h : Heap} {b : Addr} {o : Obj} (hb : b ∈ fp) (e : h.get? b = some o) : (b, o) ∈ pinsAt fp h := List.mem_filterMap.mpr ⟨b, hb, by rw [e]; rfl⟩
theorem of_pinsAt {fp : List Addr} {h : Heap} {p : Addr × Obj} (hp : p ∈ pinsAt fp h) : p.1 ∈ fp ∧ h.get? p.1 = some p.2 := by
  obtain ⟨b, hb, e⟩ := List.mem_filterMap.mp hp
  cases q : h.get? b with
  | none => rw [q] at e; cases e
  | some o =>
    rw [q] at e
    have e' : (b, o) = p := Option.some.inj e
    subst e'
    exact ⟨hb, q⟩
theorem Inv.pinned {pins : List (Addr × Obj)} {σ : St} {H : Hp} {s : Shared} {fp : List Addr} (I : Inv X pins σ H s) (hf : ∀ b ∈ fp, FpOk X pins H b) (ho : ∀ b ∈ fp, ∃ o, s.heap.get? b = some o ∧ ∀ v, o.data ≠ .cell v) : Inv X (pins ++ pinsAt fp s.heap) σ H s :=
  I.pins_of fun p hp => (List.mem_append.mp hp).elim (fun z => I.pin p (List.mem_append_right _ z)) fun z => by
    obtain ⟨hb, e⟩ := of_pinsAt z
    obtain ⟨f0, f1, f2, _⟩ := hf p.1 hb
    obtain ⟨o, e', d⟩ := ho p.1 hb
    rw [e] at e'; cases e'
    exact ⟨e, f0, f1, f2, d⟩
theorem Inv.unpinned {pins pl : List (Addr × Obj)} {σ : St} {H : Hp} {s : Shared} (I : Inv X (pins ++ pl) σ H s) : Inv X pins σ H s := I.pins_of fun p hp => I.pin p (List.mem_append_right _ (List.mem_append_left _ hp))
theorem ps_for {iter : Expr} {body : List Stmt} {wi : TI} {g : TG} {tb : TS} {pos : Pos} (hp : PassesOwn (model X.prog X.w) X.A X.env X.xe) (hc : X.calm = true) (hi : PI X tg iter wi) (hg : PG X tg g) (hb : PSs X body tb)
    (hs : ∀ x, foldedSetIterable iter X.env x = pure x := by intro _; rfl) : PS X (.For tg iter body [] pos) (tFor wi g tb) := by
  intro pins s σ H D I h
  refine wpAny_For (thn (hi pins s σ H _ I h) fun v s1 h1 => thn h1 fun itv s2 h2 => ?_) hs
  obtain ⟨it, fp, tn, J, H2, e, I2, T, st2, f2, W, ⟨m0, w0⟩, turn⟩ := h2
  subst e
  -- what stays true of the iterator's objects through the loop
  have stat : ∀ {H' : Hp}, (∀ b ∈ fp, H' b = none) → ∀ b ∈ fp, FpOk X pins H' b := fun hn b hb => ⟨hn b hb, (f2 b hb).2⟩
  refine codeAny_forLoop_any (fun n s' => ∃ i σ' H', Inv X pins σ' H' s' ∧ tn i s'.heap ∧ (∀ b ∈ fp, H' b = none) ∧ W i n σ' H') ?_ m0 ⟨0, σ, H2, I2, st2, fun b hb => (f2 b hb).1, w0⟩
  rintro n s3 ⟨i, σ3, H3, I3, st3, fr3, w3⟩
  rcases turn i n σ3 H3 w3 with ⟨stop, qn⟩ | ⟨go, N, hN, step⟩
  · refine wpAny_passesOwn hp (thn (T.done X rfl rfl rfl hc i pins s3 σ3 H3 X.xe I3 (stat fr3) st3 stop) fun r s4 ⟨hr, I4⟩ => ?_)
    subst hr
    exact wpAny_execs_nil ⟨σ3, H3, I4, qn⟩
  · refine wpAny_passesOwn hp (thn (T.item X rfl rfl rfl hc i pins s3 σ3 H3 X.xe I3 (stat fr3) st3 go) fun r s4 ⟨u, hr, h4⟩ => ?_)
    subst hr
    refine wpAny_passesOwn hp (thn h4 fun _ s5 ⟨x, H5, I5, r5, y5, st5, fr5⟩ => ?_)
    have I5' := I5.pinned (stat fr5) (T.obj _ _ st5)
    refine wpAny_passesOwn hp (thn (hg _ s5 σ3 H5 x u _ I5' r5 (step x H5 y5)) fun _ s6 ⟨σ6, H6, I6, q6⟩ => ?_)
    refine wpAny_passesOwn hp (thn (hb _ s6 σ6 H6 _ I6 q6) fun f s7 q7 => ?_)
    have again : ∀ {σ7 : St} {H7 : Hp}, Inv X (pins ++ pinsAt fp s5.heap) σ7 H7 s7 → N σ7 H7 → ∃ m, m < n ∧ ∃ i σ' H', Inv X pins σ' H' s7 ∧ tn i s7.heap ∧ (∀ b ∈ fp, H' b = none) ∧ W i m σ' H' := fun {σ7 H7} I7 n7 => by
      obtain ⟨m', hm, w7⟩ := hN σ7 H7 n7
      refine ⟨m', hm, i + 1, σ7, H7, I7.unpinned, T.keep _ _ _ st5 fun b hb o e => (I7.pin (b, o) (List.mem_append_right _ (List.mem_append_right _ (mem_pinsAt hb e)))).1, fun b hb => ?_, w7⟩
      obtain ⟨o, e, d⟩ := T.obj _ _ st5 b hb
      exact (I7.pin (b, o) (List.mem_append_right _ (List.mem_append_right _ (mem_pinsAt hb e)))).2.1
    cases f with
    | next => obtain ⟨σ7, H7, I7, n7⟩ := q7; exact again I7 n7
    | cont => obtain ⟨σ7, H7, I7, n7⟩ := q7; exact again I7 n7
    | brk => obtain ⟨σ7, H7, I7, q7⟩ := q7; exact ⟨σ7, H7, I7.unpinned, q7⟩
    | ret v => obtain ⟨x7, σ7, H7, I7, r7, q7⟩ := q7; exact ⟨x7, σ7, H7, I7.unpinned, r7, q7⟩
end

/-! ### the forms one uses -/
/-- over a list that the body leaves as it is -/
theorem for_list {K : PySem.W.Frag} {a : Addr} {xs : List V} {g : TG} {tb : TS} {D : Ends} {σ : St} {H : Hp} (Pv : Nat → St → Hp → Prop) (h0 : Pv 0 σ H) (hl : ∀ i σ H, i ≤ xs.length → Pv i σ H → SqL K H a xs)
    (hs : ∀ i x σ H, xs[i]? = some x → Pv i σ H → g x σ H fun σ2 H2 => tb { D with nx := Pv (i + 1), ct := Pv (i + 1), bk := D.nx } σ2 H2) (hd : ∀ σ H, Pv xs.length σ H → D.nx σ H) :
    ∃ W : Nat → Nat → St → Hp → Prop, (∃ m, W 0 m σ H) ∧ ∀ i m σ H, W i m σ H →
      ((Itl K a).stop i H ∧ D.nx σ H) ∨ ((Itl K a).go i H ∧ ∃ N : St → Hp → Prop, (∀ σ' H', N σ' H' → ∃ m', m' < m ∧ W (i + 1) m' σ' H') ∧ ∀ x H', (Itl K a).yld i H x H' → g x σ H' fun σ2 H2 => tb { D with nx := N, ct := N, bk := D.nx } σ2 H2) := by
  refine ⟨fun i m σ H => m = xs.length - i ∧ i ≤ xs.length ∧ Pv i σ H, ⟨xs.length, by simp, Nat.zero_le _, h0⟩, ?_⟩
  rintro i m σ H ⟨rfl, hi, p⟩
  have q := hl i σ H hi p
  by_cases hlt : i < xs.length
  · refine .inr ⟨⟨xs, xs[i], q, by simp [hlt]⟩, Pv (i + 1), fun σ' H' p' => ⟨xs.length - (i + 1), by omega, rfl, hlt, p'⟩, fun x H' y => ?_⟩
    obtain ⟨e, y⟩ := y
    subst e
    exact hs i x σ _ (y xs q) p
  · have e : i = xs.length := by omega
    subst e
    exact .inl ⟨⟨xs, q, Nat.le_refl _⟩, hd σ H p⟩
theorem for_tup {K : PySem.W.Frag} {a : Addr} {xs : List V} {g : TG} {tb : TS} {D : Ends} {σ : St} {H : Hp} (Pv : Nat → St → Hp → Prop) (h0 : Pv 0 σ H) (hl : ∀ i σ H, i ≤ xs.length → Pv i σ H → SqT K H a xs)
    (hs : ∀ i x σ H, xs[i]? = some x → Pv i σ H → g x σ H fun σ2 H2 => tb { D with nx := Pv (i + 1), ct := Pv (i + 1), bk := D.nx } σ2 H2) (hd : ∀ σ H, Pv xs.length σ H → D.nx σ H) :
    ∃ W : Nat → Nat → St → Hp → Prop, (∃ m, W 0 m σ H) ∧ ∀ i m σ H, W i m σ H →
      ((Itt K a).stop i H ∧ D.nx σ H) ∨ ((Itt K a).go i H ∧ ∃ N : St → Hp → Prop, (∀ σ' H', N σ' H' → ∃ m', m' < m ∧ W (i + 1) m' σ' H') ∧ ∀ x H', (Itt K a).yld i H x H' → g x σ H' fun σ2 H2 => tb { D with nx := N, ct := N, bk := D.nx } σ2 H2) := by
  refine ⟨fun i m σ H => m = xs.length - i ∧ i ≤ xs.length ∧ Pv i σ H, ⟨xs.length, by simp, Nat.zero_le _, h0⟩, ?_⟩
  rintro i m σ H ⟨rfl, hi, p⟩
  have q := hl i σ H hi p
  by_cases hlt : i < xs.length
  · refine .inr ⟨⟨xs, xs[i], q, by simp [hlt]⟩, Pv (i + 1), fun σ' H' p' => ⟨xs.length - (i + 1), by omega, rfl, hlt, p'⟩, fun x H' y => ?_⟩
    obtain ⟨e, y⟩ := y
    subst e
    exact hs i x σ _ (y xs q) p
  · have e : i = xs.length := by omega
    subst e
    exact .inl ⟨⟨xs, q, Nat.le_refl _⟩, hd σ H p⟩
theorem for_range {lo : Int} {n : Nat} {g : TG} {tb : TS} {D : Ends} {σ : St} {H : Hp} (Pv : Nat → St → Hp → Prop) (h0 : Pv 0 σ H)
    (hs : ∀ i σ H, i < n → Pv i σ H → g (.int (lo + i)) σ H fun σ2 H2 => tb { D with nx := Pv (i + 1), ct := Pv (i + 1), bk := D.nx } σ2 H2) (hd : ∀ σ H, Pv n σ H → D.nx σ H) :
    ∃ W : Nat → Nat → St → Hp → Prop, (∃ m, W 0 m σ H) ∧ ∀ i m σ H, W i m σ H →
      ((Itr lo n).stop i H ∧ D.nx σ H) ∨ ((Itr lo n).go i H ∧ ∃ N : St → Hp → Prop, (∀ σ' H', N σ' H' → ∃ m', m' < m ∧ W (i + 1) m' σ' H') ∧ ∀ x H', (Itr lo n).yld i H x H' → g x σ H' fun σ2 H2 => tb { D with nx := N, ct := N, bk := D.nx } σ2 H2) := by
  refine ⟨fun i m σ H => m = n - i ∧ i ≤ n ∧ Pv i σ H, ⟨n, by simp, Nat.zero_le _, h0⟩, ?_⟩
  rintro i m σ H ⟨rfl, hi, p⟩
  by_cases hlt : i < n
  · refine .inr ⟨hlt, Pv (i + 1), fun σ' H' p' => ⟨n - (i + 1), by omega, rfl, hlt, p'⟩, fun x H' y => ?_⟩
    obtain ⟨e, y⟩ := y
    subst e y
    exact hs i σ _ hlt p
  · have e : i = n := by omega
    subst e
    exact .inl ⟨Nat.le_refl _, hd σ H p⟩
end L2

namespace L2
open PySem PySem.Spec PyProof.Rows

abbrev R2 := V → V → Hp → VK → Prop
/-- a two-place operation on values: f is binaryOp op, inplaceOp op or compareOp op -/
def OpR (X : Cx) (f : Value → Value → Sem Value) (r : R2) : Prop :=
  ∀ (pins : List (Addr × Obj)) (s : Shared) (σ : St) (H : Hp) (x y : V) (v u : Value) (Q : VK), Inv X pins σ H s → RelV x v → RelV y u → r x y H Q →
    wpAny (model X.prog X.w) X.A (f v u) (EP X pins σ Q) X.xe s
/-- a one-place operation -/
def UnR (X : Cx) (f : Value → Sem Value) (r : V → Hp → VK → Prop) : Prop :=
  ∀ (pins : List (Addr × Obj)) (s : Shared) (σ : St) (H : Hp) (x : V) (v : Value) (Q : VK), Inv X pins σ H s → RelV x v → r x H Q →
    wpAny (model X.prog X.w) X.A (f v) (EP X pins σ Q) X.xe s
/-- a call of a value that is known (a builtin, a type) with values -/
def CallR (X : Cx) (f : Value) (r : List V → Hp → VK → Prop) : Prop :=
  ∀ (pins : List (Addr × Obj)) (s : Shared) (σ : St) (H : Hp) (xs : List V) (us : List Value) (Q : VK), Inv X pins σ H s → Vals xs us → r xs H Q →
    wpAny (model X.prog X.w) X.A (call f us) (EP X pins σ Q) X.xe s
def tOp (r : R2) (ta tb : TE) : TE := fun σ H Q => ta σ H fun x H1 => tb σ H1 fun y H2 => r x y H2 Q
def tUn (r : V → Hp → VK → Prop) (ta : TE) : TE := fun σ H Q => ta σ H fun x H1 => r x H1 Q
/-- ints in, under C, and a value out -/
def rI (C : Int → Int → Prop) (g : Int → Int → V) : R2 := fun x y H Q => ∃ i j, x = .int i ∧ y = .int j ∧ C i j ∧ Q (g i j) H
def rI0 (g : Int → Int → V) : R2 := fun x y H Q => ∃ i j, x = .int i ∧ y = .int j ∧ Q (g i j) H
def rU (g : Int → V) : V → Hp → VK → Prop := fun x H Q => ∃ i, x = .int i ∧ Q (g i) H

section
variable {X : Cx} {a b c : Expr} {ta tb tc : TE} {pos : Pos}

theorem binT (ha : PE X a ta) (hb : PE X b tb) {pins : List (Addr × Obj)} {s : Shared} {σ : St} {H : Hp} {R : V → V → Hp → Prop} (I : Inv X pins σ H s)
    (h : ta σ H fun x H1 => tb σ H1 fun y H2 => R x y H2) {Q : Value → Shared → Prop} {f : Value → Value → Sem Value}
    (hf : ∀ v u s2 x y H2, Inv X pins σ H2 s2 → RelV x v → RelV y u → R x y H2 → wpAny (model X.prog X.w) X.A (f v u) Q X.xe s2) :
    wpAny (model X.prog X.w) X.A (eval a X.env) (fun v s₁ => wpAny (model X.prog X.w) X.A (eval b X.env) (fun u s₂ => wpAny (model X.prog X.w) X.A (f v u) Q X.xe s₂) X.xe s₁) X.xe s := by
  refine thn (ha pins s σ H _ I h) fun v s1 ⟨x, H1, I1, r1, q1⟩ => ?_
  refine thn (hb pins s1 σ H1 _ I1 q1) fun u s2 ⟨y, H2, I2, r2, q2⟩ => ?_
  exact hf v u s2 x y H2 I2 r1 r2 q2

theorem pe_op {op : Operator} {r : R2} (ho : OpR X (binaryOp op) r) (ha : PE X a ta) (hb : PE X b tb) : PE X (.BinOp a op b pos) (tOp r ta tb) := by
  intro pins s σ H Q I h
  exact wpAny_BinOp (binT ha hb I h fun v u s2 x y H2 I2 rx ry q => ho pins s2 σ H2 x y v u Q I2 rx ry q)
theorem pe_un {op : UnaryOp} {r : V → Hp → VK → Prop} (ho : UnR X (unaryOp op) r) (ha : PE X a ta) : PE X (.UnaryOp op a pos) (tUn r ta) := by
  intro pins s σ H Q I h
  exact UnaryOp_ (thn (ha pins s σ H _ I h) fun v s1 ⟨x, H1, I1, r1, q1⟩ => ho pins s1 σ H1 x v Q I1 r1 q1)
/-! ### ints -/
theorem opI {f : Value → Value → Sem Value} {C : Int → Int → Prop} {g : Int → Int → Int}
    (rule : ∀ (i j : Int) (t u : Tok) (s : Shared) (Q : Value → Shared → Prop) (E : Value → Shared → Prop), C i j → Q (.int (g i j) s.toks) { s with toks := s.toks + 1 } → wpAny (model X.prog X.w) X.A (f (.int i t) (.int j u)) Q E s) :
    OpR X f (rI C fun i j => .int (g i j)) := by
  intro pins s σ H x y v u Q I rx ry h
  obtain ⟨i, j, rfl, rfl, hc, q⟩ := h
  obtain ⟨t, rfl⟩ := rx
  obtain ⟨t', rfl⟩ := ry
  exact rule i j t t' s _ _ hc ⟨.int (g i j), H, I.tok _, ⟨_, rfl⟩, q⟩
theorem opI0 {f : Value → Value → Sem Value} {g : Int → Int → Int}
    (rule : ∀ (i j : Int) (t u : Tok) (s : Shared) (Q : Value → Shared → Prop) (E : Value → Shared → Prop), Q (.int (g i j) s.toks) { s with toks := s.toks + 1 } → wpAny (model X.prog X.w) X.A (f (.int i t) (.int j u)) Q E s) :
    OpR X f (rI0 fun i j => .int (g i j)) := by
  intro pins s σ H x y v u Q I rx ry h
  obtain ⟨i, j, rfl, rfl, q⟩ := h
  obtain ⟨t, rfl⟩ := rx
  obtain ⟨t', rfl⟩ := ry
  exact rule i j t t' s _ _ ⟨.int (g i j), H, I.tok _, ⟨_, rfl⟩, q⟩
theorem opB0 {f : Value → Value → Sem Value} {g : Int → Int → Bool}
    (rule : ∀ (i j : Int) (t u : Tok) (s : Shared) (Q : Value → Shared → Prop) (E : Value → Shared → Prop), Q (.bool (g i j)) s → wpAny (model X.prog X.w) X.A (f (.int i t) (.int j u)) Q E s) :
    OpR X f (rI0 fun i j => .bl (g i j)) := by
  intro pins s σ H x y v u Q I rx ry h
  obtain ⟨i, j, rfl, rfl, q⟩ := h
  obtain ⟨t, rfl⟩ := rx
  obtain ⟨t', rfl⟩ := ry
  exact rule i j t t' s _ _ ⟨.bl (g i j), H, I, rfl, q⟩

def CDiv (i j : Int) : Prop := 0 < j ∧ j < 1073741824
def CMul (i j : Int) : Prop := (-(2 ^ 64) < i ∧ i < 2 ^ 64) ∨ (-(2 ^ 64) < j ∧ j < 2 ^ 64)
theorem CMul.ok {i j : Int} (h : CMul i j) : IntMulOk i j := by
  rcases h with ⟨h1, h2⟩ | ⟨h1, h2⟩
  · exact .of_left (intBits_le_64 h1 h2)
  · exact .of_right (intBits_le_64 h1 h2)
theorem op_add : OpR X (binaryOp .Add) (rI0 fun i j => .int (i + j)) := opI0 fun _ _ _ _ _ _ _ q => add_int q
theorem op_sub : OpR X (binaryOp .Sub) (rI0 fun i j => .int (i - j)) := opI0 fun _ _ _ _ _ _ _ q => sub_int q
theorem op_mul : OpR X (binaryOp .Mult) (rI CMul fun i j => .int (i * j)) := opI fun _ _ _ _ _ _ _ hc q => mul_int q hc.ok
/-- // by a positive divisor -/
theorem op_fdiv : OpR X (binaryOp .FloorDiv) (rI CDiv fun i j => .int (i / j)) := opI fun i j _ _ _ _ _ hc q => by
  have h1 : (0 : Int) < j := hc.1
  have h2 : j < 1073741824 := hc.2
  exact floordiv_int (by omega) (by rw [Int.fdiv_eq_ediv_of_nonneg i (by omega)]; exact q) (.inl (PyProof.noPylong_small (by omega)))
/-- % by a positive divisor of any size -/
theorem op_mod : OpR X (binaryOp .Mod) (rI (fun _ j => 0 < j) fun i j => .int (i % j)) := opI fun i j _ _ _ _ _ hc q => by
  have h1 : (0 : Int) < j := hc
  exact mod_int' (by omega) (by rw [Int.fmod_eq_emod_of_nonneg i (by omega)]; exact q)
theorem unI {f : Value → Sem Value} {g : Int → Int}
    (rule : ∀ (i : Int) (t : Tok) (s : Shared) (Q : Value → Shared → Prop) (E : Value → Shared → Prop), Q (.int (g i) s.toks) { s with toks := s.toks + 1 } → wpAny (model X.prog X.w) X.A (f (.int i t)) Q E s) :
    UnR X f (rU fun i => .int (g i)) := by
  intro pins s σ H x v Q I rx h
  obtain ⟨i, rfl, q⟩ := h
  obtain ⟨t, rfl⟩ := rx
  exact rule i t s _ _ ⟨.int (g i), H, I.tok _, ⟨_, rfl⟩, q⟩
theorem un_neg : UnR X (unaryOp .USub) (rU fun i => .int (-i)) := unI fun _ _ _ _ _ q => neg_int q
/-! ### bools among ints: n += (a < b) -/
end

/-! ### comparisons -/
/-- the scalars that == tells apart as data does -/
def scal : V → V → Bool
  | .non, .non => true | .non, .int _ => true | .int _, .non => true | .non, .bl _ => true | .bl _, .non => true | .non, .str _ => true | .str _, .non => true
  | .int _, .int _ => true | .bl _, .bl _ => true | .str _, .str _ => true | .byt _, .byt _ => true
  | .int _, .str _ => true | .str _, .int _ => true | .bl _, .str _ => true | .str _, .bl _ => true
  | _, _ => false
def rEq : R2 := fun x y H Q => scal x y = true ∧ Q (.bl (decide (x = y))) H
def rNe : R2 := fun x y H Q => scal x y = true ∧ Q (.bl (!decide (x = y))) H

theorem dec_int {i j : Int} : decide (V.int i = V.int j) = (i == j) := by
  rw [Bool.eq_iff_iff]
  simp
theorem dec_bl {i j : Bool} : decide (V.bl i = V.bl j) = (i == j) := by
  rw [Bool.eq_iff_iff]
  simp
theorem dec_str {i j : Str} : decide (V.str i = V.str j) = (i == j) := by
  rw [Bool.eq_iff_iff]
  simp
theorem dec_byt {i j : Array UInt8} : decide (V.byt i = V.byt j) = (i.toList == j.toList) := by
  rw [Bool.eq_iff_iff]
  cases i
  cases j
  simp

section
variable {X : Cx} {a b c : Expr} {ta tb tc : TE} {pos : Pos}
theorem fin_bl {pins : List (Addr × Obj)} {σ : St} {H : Hp} {s : Shared} {Q : VK} {k k' : Bool} (I : Inv X pins σ H s) (q : Q (.bl k) H) (e : k = k') : EP X pins σ Q (.bool k') s := by
  subst e
  exact ⟨.bl k, H, I, rfl, q⟩
theorem op_eq : OpR X (compareOp .Eq) rEq := by
  intro pins s σ H x y v u Q I rx ry h
  obtain ⟨hs, q⟩ := h
  cases x with
  | non =>
    cases rx
    cases y with
    | non => cases ry; exact PySem.EqNone.eq_none_none (fin_bl I q (by simp))
    | bl j => cases ry; exact PySem.EqNone.eq_none_bool (fin_bl I q (by simp))
    | int j => obtain ⟨t', rfl⟩ := ry; exact PySem.EqNone.eq_none_int (fin_bl I q (by simp))
    | str j => obtain ⟨t', rfl⟩ := ry; exact PySem.EqNone.eq_none_str (fin_bl I q (by simp))
    | _ => exact absurd (show false = true from hs) Bool.false_ne_true
  | bl i =>
    cases rx
    cases y with
    | non => cases ry; exact PySem.EqNone.eq_bool_none (fin_bl I q (by simp))
    | bl j => cases ry; exact eq_bool (fin_bl I q dec_bl)
    | str j => obtain ⟨t', rfl⟩ := ry; exact PySem.EqMixed.eq_bool_str (fin_bl I q (by simp))
    | _ => exact absurd (show false = true from hs) Bool.false_ne_true
  | int i =>
    obtain ⟨t, rfl⟩ := rx
    cases y with
    | non => cases ry; exact PySem.EqNone.eq_int_none (fin_bl I q (by simp))
    | int j => obtain ⟨t', rfl⟩ := ry; exact eq_int (fin_bl I q dec_int)
    | str j => obtain ⟨t', rfl⟩ := ry; exact PySem.EqMixed.eq_int_str (fin_bl I q (by simp))
    | _ => exact absurd (show false = true from hs) Bool.false_ne_true
  | str i =>
    obtain ⟨t, rfl⟩ := rx
    cases y with
    | non => cases ry; exact PySem.EqNone.eq_str_none (fin_bl I q (by simp))
    | bl j => cases ry; exact PySem.EqMixed.eq_str_bool (fin_bl I q (by simp))
    | int j => obtain ⟨t', rfl⟩ := ry; exact PySem.EqMixed.eq_str_int (fin_bl I q (by simp))
    | str j => obtain ⟨t', rfl⟩ := ry; exact eq_str (fin_bl I q dec_str)
    | _ => exact absurd (show false = true from hs) Bool.false_ne_true
  | byt i =>
    obtain ⟨t, rfl⟩ := rx
    cases y with
    | byt j => obtain ⟨t', rfl⟩ := ry; exact PySem.W.eq_bytes (fin_bl I q dec_byt)
    | _ => exact absurd (show false = true from hs) Bool.false_ne_true
  | _ => cases y <;> exact absurd (show false = true from hs) Bool.false_ne_true
theorem op_ne : OpR X (compareOp .NotEq) rNe := by
  intro pins s σ H x y v u Q I rx ry h
  obtain ⟨hs, q⟩ := h
  cases x with
  | non =>
    cases rx
    cases y with
    | non => cases ry; exact PySem.EqNone.ne_none_none (fin_bl I q (by simp))
    | bl j => cases ry; exact PySem.EqNone.ne_none_bool (fin_bl I q (by simp))
    | int j => obtain ⟨t', rfl⟩ := ry; exact PySem.EqNone.ne_none_int (fin_bl I q (by simp))
    | str j => obtain ⟨t', rfl⟩ := ry; exact PySem.EqNone.ne_none_str (fin_bl I q (by simp))
    | _ => exact absurd (show false = true from hs) Bool.false_ne_true
  | bl i =>
    cases rx
    cases y with
    | non => cases ry; exact PySem.EqNone.ne_bool_none (fin_bl I q (by simp))
    | bl j => cases ry; exact ne_bool (fin_bl I q (congrArg not dec_bl))
    | str j => obtain ⟨t', rfl⟩ := ry; exact PySem.EqMixed.ne_bool_str (fin_bl I q (by simp))
    | _ => exact absurd (show false = true from hs) Bool.false_ne_true
  | int i =>
    obtain ⟨t, rfl⟩ := rx
    cases y with
    | non => cases ry; exact PySem.EqNone.ne_int_none (fin_bl I q (by simp))
    | int j => obtain ⟨t', rfl⟩ := ry; exact ne_int (fin_bl I q (congrArg not dec_int))
    | str j => obtain ⟨t', rfl⟩ := ry; exact PySem.EqMixed.ne_int_str (fin_bl I q (by simp))
    | _ => exact absurd (show false = true from hs) Bool.false_ne_true
  | str i =>
    obtain ⟨t, rfl⟩ := rx
    cases y with
    | non => cases ry; exact PySem.EqNone.ne_str_none (fin_bl I q (by simp))
    | bl j => cases ry; exact PySem.EqMixed.ne_str_bool (fin_bl I q (by simp))
    | int j => obtain ⟨t', rfl⟩ := ry; exact PySem.EqMixed.ne_str_int (fin_bl I q (by simp))
    | str j => obtain ⟨t', rfl⟩ := ry; exact ne_str (fin_bl I q (congrArg not dec_str))
    | _ => exact absurd (show false = true from hs) Bool.false_ne_true
  | byt i =>
    obtain ⟨t, rfl⟩ := rx
    cases y with
    | byt j => obtain ⟨t', rfl⟩ := ry; exact PySem.W.ne_bytes (fin_bl I q (congrArg not dec_byt))
    | _ => exact absurd (show false = true from hs) Bool.false_ne_true
  | _ => cases y <;> exact absurd (show false = true from hs) Bool.false_ne_true

theorem op_lt : OpR X (compareOp .Lt) (rI0 fun i j => .bl (decide (i < j))) := opB0 fun _ _ _ _ _ _ _ q => lt_int q
theorem op_le : OpR X (compareOp .LtE) (rI0 fun i j => .bl (decide (i ≤ j))) := opB0 fun _ _ _ _ _ _ _ q => le_int q
theorem op_gt : OpR X (compareOp .Gt) (rI0 fun i j => .bl (decide (j < i))) := opB0 fun _ _ _ _ _ _ _ q => gt_int q
theorem op_ge : OpR X (compareOp .GtE) (rI0 fun i j => .bl (decide (j ≤ i))) := opB0 fun _ _ _ _ _ _ _ q => ge_int q
/-- two rules for one operation: by cases -/
theorem OpR.or {f : Value → Value → Sem Value} {r r' : R2} (h : OpR X f r) (h' : OpR X f r') : OpR X f (fun x y H Q => r x y H Q ∨ r' x y H Q) := by
  intro pins s σ H x y v u Q I rx ry q
  rcases q with q | q
  · exact h pins s σ H x y v u Q I rx ry q
  · exact h' pins s σ H x y v u Q I rx ry q

theorem nomark (b : Expr) {op : CmpOp} (h : op ≠ .In := by decide) (h2 : op ≠ .NotIn := by decide) : behindInMarks op b = false := by
  have e1 : (op == CmpOp.In) = false := by cases op <;> first | rfl | exact absurd rfl h
  have e2 : (op == CmpOp.NotIn) = false := by cases op <;> first | rfl | exact absurd rfl h2
  cases b <;> simp [behindInMarks, e1, e2]
/-- a comparison as a value; hm: nomark b, or (for in, not in) by with_unfolding_all rfl -/
theorem pe_cmpR {op : CmpOp} {r : R2} (ho : OpR X (compareOp op) r) (ha : PE X a ta) (hb : PE X b tb) (hm : behindInMarks op b = false) : PE X (.Compare a [op] [b] pos) (tOp r ta tb) := by
  intro pins s σ H Q I h
  exact wpAny_Compare1 (binT ha hb I h fun v u s2 x y H2 I2 rx ry q => ho pins s2 σ H2 x y v u Q I2 rx ry q) hm
/-- a reading of a value as a test -/
def tTest (t : TE) : TT := fun σ H Q => t σ H fun x H' => ∃ k, x = .bl k ∧ Q k H'
theorem pt_cmpR {op : CmpOp} {r : R2} (ho : OpR X (compareOp op) r) (ha : PE X a ta) (hb : PE X b tb) (hm : behindInMarks op b = false) : PT X (.Compare a [op] [b] pos) (tTest (tOp r ta tb)) := by
  intro pins s σ H Q I h
  refine wpAny_isTrue_Compare1 (thn (ha pins s σ H _ I h) fun v s1 ⟨x, H1, I1, r1, q1⟩ => thn (hb pins s1 σ H1 _ I1 q1) fun u s2 ⟨y, H2, I2, r2, q2⟩ =>
    thn (ho pins s2 σ H2 x y v u _ I2 r1 r2 q2) fun c s3 ⟨z, H3, I3, r3, k, e, q3⟩ => ?_) hm
  subst e
  cases r3
  exact wpAny_truthy_bool ⟨H3, I3, q3⟩
/-- a op1 b op2 c -/
def tChain (r r' : R2) (ta tb tc : TE) : TE := fun σ H Q => ta σ H fun x H1 => tb σ H1 fun y H2 => r x y H2 fun z H3 => ∃ k, z = .bl k ∧
  (if k = true then tc σ H3 fun w' H4 => r' y w' H4 Q else Q (.bl false) H3)
theorem pe_chain {op op' : CmpOp} {r r' : R2} (ho : OpR X (compareOp op) r) (ho' : OpR X (compareOp op') r') (ha : PE X a ta) (hb : PE X b tb) (hc : PE X c tc)
    (hm : lastMarks [op, op'] [b, c] = false := by with_unfolding_all rfl) : PE X (.Compare a [op, op'] [b, c] pos) (tChain r r' ta tb tc) := by
  intro pins s σ H Q I h
  refine Compare_chain (thn (ha pins s σ H _ I h) fun v s1 ⟨x, H1, I1, r1, q1⟩ => chain_link (thn (hb pins s1 σ H1 _ I1 q1) fun u s2 ⟨y, H2, I2, r2, q2⟩ =>
    thn (ho pins s2 σ H2 x y v u _ I2 r1 r2 q2) fun d s3 ⟨z, H3, I3, r3, k, e, q3⟩ => ?_)) hm
  subst e
  cases r3
  refine wpAny_truthy_bool ?_
  cases k with
  | false => exact ite_ff ⟨.bl false, H3, I3, rfl, q3⟩
  | true => exact ite_tt (chain_last (thn (hc pins s3 σ H3 _ I3 q3) fun w' s4 ⟨z', H4, I4, r4, q4⟩ => ho' pins s4 σ H4 y z' u w' Q I4 r2 r4 q4))
theorem pt_chain {op op' : CmpOp} {r r' : R2} (ho : OpR X (compareOp op) r) (ho' : OpR X (compareOp op') r') (ha : PE X a ta) (hb : PE X b tb) (hc : PE X c tc)
    (hm : lastMarks [op, op'] [b, c] = false := by with_unfolding_all rfl) : PT X (.Compare a [op, op'] [b, c] pos) (tTest (tChain r r' ta tb tc)) := by
  intro pins s σ H Q I h
  refine isTrue_chain (thn (ha pins s σ H _ I h) fun v s1 ⟨x, H1, I1, r1, q1⟩ => test_link (thn (hb pins s1 σ H1 _ I1 q1) fun u s2 ⟨y, H2, I2, r2, q2⟩ =>
    thn (ho pins s2 σ H2 x y v u _ I2 r1 r2 q2) fun d s3 ⟨z, H3, I3, r3, k, e, q3⟩ => ?_)) hm
  subst e
  cases r3
  refine wpAny_truthy_bool ?_
  cases k with
  | false =>
    obtain ⟨k', e', q'⟩ := q3
    cases e'
    exact ite_ff ⟨H3, I3, q'⟩
  | true =>
    refine ite_tt (test_last (thn (hc pins s3 σ H3 _ I3 q3) fun w' s4 ⟨z', H4, I4, r4, q4⟩ => thn (ho' pins s4 σ H4 y z' u w' _ I4 r2 r4 q4) fun d' s5 ⟨z2, H5, I5, r5, k2, e2, q5⟩ => ?_))
    subst e2
    cases r5
    exact wpAny_truthy_bool ⟨H5, I5, q5⟩

/-! ### truth -/
theorem line63 : (sizeLine : Nat) < 2 ^ 63 := by rw [sizeLine_eq]; decide
/-! ### strs and bytes -/
/-! ### scalar builtins, by CallR -/
theorem vals1 {x : V} {us : List Value} (r : Vals [x] us) : ∃ u, us = [u] ∧ RelV x u := by
  cases r with
  | cons r1 r2 => cases r2; exact ⟨_, rfl, r1⟩
theorem vals2 {x y : V} {us : List Value} (r : Vals [x, y] us) : ∃ u w', us = [u, w'] ∧ RelV x u ∧ RelV y w' := by
  cases r with
  | cons r1 r2 =>
    cases r2 with
    | cons r3 r4 => cases r4; exact ⟨_, _, rfl, r1, r3⟩
theorem call_max2 (hc : X.calm = true) : CallR X (.builtin "max") (fun xs H Q => ∃ i j, xs = [.int i, .int j] ∧ Q (.int (if j > i then j else i)) H) := by
  intro pins s σ H xs us Q I r h
  obtain ⟨i, j, rfl, q⟩ := h
  obtain ⟨u, w', rfl, ⟨t, rfl⟩, ⟨t', rfl⟩⟩ := vals2 r
  refine max_two_ints (I.ok.hd hc) fun h' tk k => ⟨_, H, I.kept k, ?_, q⟩
  by_cases hj : j > i
  · rw [if_pos hj, if_pos hj]; exact ⟨_, rfl⟩
  · rw [if_neg hj, if_neg hj]; exact ⟨_, rfl⟩
end
end L2

namespace L2
open PySem PySem.Spec PyProof.Rows

/-! ### an instance, its attributes a map -/
structure ObjM (h : Heap) (x dx C : Addr) (mA : Str → Option Value) : Prop where
  obj : h.get? x = some (PySem.W.instObj C dx)
  ns : h.Ns1 dx mA
  ne : dx ≠ x

theorem lookIn_ns {h : Heap} {dx : Addr} {mA : Str → Option Value} (n : h.Ns1 dx mA) : ∃ od, h.get? dx = some od ∧ ∀ name, PySem.W.lookIn name od = some (mA name) := by
  obtain ⟨o, es, ep, ho, hd, hk, _, hm⟩ := n
  refine ⟨o, ho, fun name => ?_⟩
  have e := hm name
  unfold nsFind findBy at e
  rw [← Array.find?_toList] at e
  unfold PySem.W.lookIn
  rw [hd]
  dsimp only
  split
  · rename_i y q
    rw [q] at e
    exact congrArg some e
  · rename_i q
    rw [q] at e
    have a : es.toList.any (·.refKey) = false := by
      rw [List.any_eq_false]
      intro y hy
      obtain ⟨z, t, hkey⟩ := hk y (Array.mem_toList_iff.mp hy)
      simp [DictEntry.refKey, hkey]
    have a' : ¬ es.toList.any (·.refKey) = true := by rw [a]; exact Bool.false_ne_true
    rw [if_neg a']
    exact congrArg some e

theorem ObjM.look {h : Heap} {x dx C : Addr} {mA : Str → Option Value} (I : ObjM h x dx C mA) : ∃ od, PySem.W.InstAt h x (PySem.W.instObj C dx) C (some od) ∧ ∀ name, PySem.W.lookIn name od = some (mA name) :=
  let ⟨od, ho, hl⟩ := lookIn_ns I.ns
  ⟨od, ⟨I.obj, rfl, rfl, ho⟩, hl⟩

section
variable {prog : Program} {w : World} {A : Around} {E : Value → Shared → Prop} {s : Shared} {K : PySem.W.Frag} {x dx C f : Addr} {mA : Str → Option Value} {name : Str} {v : Value}

theorem get_map {expr : Bool} {Q : Value → Shared → Prop} (X : K.In s.heap) (I : ObjM s.heap x dx C mA) (hg : PySem.W.plainGet K C name = true) (hh : PySem.W.hasDictIn K C = true)
    (ha : PySem.W.findIn K (.ref C) name = some none) (hv : mA name = some v) (hv' : PySem.W.handedIn v = true) (h : Q v { s with toks := s.toks + 1 }) :
    wpAny (model prog w) A (getAttr (.ref x) name expr) Q E s := by
  obtain ⟨od, J, hl⟩ := I.look
  exact PySem.W.get_value X J (PySem.W.plainGet_of hg).1 (PySem.W.findObj_own hh ha rfl (by rw [hl, hv])) hv' h

theorem get_meth {pl : Sem Bool} {Q : Value × List Value → Shared → Prop} (X : K.In s.heap) (I : ObjM s.heap x dx C mA) (hg : PySem.W.plainGet K C name = true)
    (hf : PySem.W.findIn K (.ref C) name = some (some (.ref f))) (ht : PySem.W.isFn K (.ref f) = true) (hv : mA name = none) (h : Q (.ref f, [.ref x]) s) :
    wpAny (model prog w) A (getMethod (.ref x) name pl) Q E s := by
  obtain ⟨od, J, hl⟩ := I.look
  exact PySem.W.method_fn X J (PySem.W.plainGet_of hg).1 (PySem.W.plainGet_of hg).2 hf (beq_iff_eq.mp ht) (by show (PySem.W.lookIn name od).map (·.isSome) = some false; rw [hl, hv]; rfl) h

theorem set_map {ns : List Str} {Q : Unit → Shared → Prop} (X : K.In s.heap) (I : ObjM s.heap x dx C mA)
    (hs : PySem.W.findIn K (.ref C) "__setattr__" = some (some (.builtin "object.__setattr__"))) (hp : PySem.W.plainOver K C = true) (ht : PySem.W.takerIn K C name = some none) (hh : PySem.W.hasDictIn K C = true)
    (hw : PySem.Within mA ns) (hsz : ns.length ≤ sizeLine)
    (h : ∀ h', ObjM h' x dx C (fun y => if y = name then some v else mA y) → Heap.SameBut dx s.heap h' → Q () { s with heap := h', toks := s.toks + 2 }) :
    wpAny (model prog w) A (setAttr (.ref x) name v) Q E s := by
  obtain ⟨od, J, hl⟩ := I.look
  refine PySem.W.set_plain X J hs (PySem.W.osa_open (s := { s with toks := s.toks + 1 }) (r := none) X J hp ht fun b => ?_)
  obtain ⟨cd, hc, hd'⟩ := PySem.W.any_some hh
  have hx : s.heap.get? x = some ⟨.ref C, some dx, .plain, #[]⟩ := I.obj
  refine wpAny_bind (wpAny_pure (wpAny_bind (wpAny_bind (wpAny_loadPart hx (wpAny_bind (PySem.W.Looks.here (s := { s with toks := s.toks + 1 }) (PySem.W.looks_clsIn X hc) ?_))))))
  rw [hd']
  refine wpAny_pure (a := some dx) (wpAny_bind (wpAny_pure (wpAny_bind ?_)))
  refine wpAny_nsSet1 (s := { s with toks := s.toks + 1 }) I.ns fun h' hn2 hs2 => ?_
  obtain ⟨oD, esD, epD, hoD, hdD, hcD⟩ := hn2.count (PySem.Within.cons name v hw)
  refine wpAny_bind (wpAny_lookBehind hoD (by rw [hdD]; exact pastItsLine_dict (Nat.le_trans hcD (by rw [List.length_cons]; omega))) ?_)
  exact wpAny_pure (h _ ⟨(hs2.2 _ (Ne.symm I.ne)).trans I.obj, hn2, I.ne⟩ hs2)

/-- C(..): the dict at the heap's end, the instance behind it; then its __init__ -/
theorem make_map {R : Result → Shared → Prop} {vs : List Value} {kw : List (Str × Value)} (X : K.In s.heap) (hm : PySem.W.makesIn K C = true)
    (hi : PySem.W.findIn K (.ref C) "__init__" = some (some (.ref f))) (hf : PySem.W.typeIn K (.ref f) = some (.type "function"))
    (h : codeAny (model prog w) (A.under (.builtin "type.__call__" ⟨.ref C :: vs, kw⟩)) (.call (.ref f) ⟨.ref (s.heap.objs.size + 1) :: vs, kw⟩) (PySem.W.InitBack (s.heap.objs.size + 1) R)
      { s with heap := (s.heap.push PySem.W.emptyDict).push (PySem.W.instObj C s.heap.objs.size) }) :
    codeAny (model prog w) A (.call (.ref C) ⟨vs, kw⟩) R s := by
  obtain ⟨hh, g, d, t, os⟩ := s
  exact PySem.W.make_core (PySem.W.makes_of X hm) (PySem.W.looks_findIn X hi) (fun self => PySem.W.bind_fn X self hf) (.inl rfl) h
end

/-! ### the attributes as a list of pairs -/
def putF (f : Str) (v : V) : List (Str × V) → List (Str × V)
  | [] => [(f, v)]
  | (g, x) :: r => if g = f then (g, v) :: r else (g, x) :: putF f v r
theorem lookup_putF (f g : Str) (v : V) : ∀ fs : List (Str × V), (putF f v fs).lookup g = if g = f then some v else fs.lookup g
  | [] => by
    show List.lookup g [(f, v)] = _
    by_cases h : g = f
    · have hb : (g == f) = true := beq_iff_eq.mpr h
      simp only [List.lookup, hb, if_pos h]
    · have hb : (g == f) = false := beq_eq_false_iff_ne.mpr h
      simp only [List.lookup, hb, if_neg h]
  | (k, x) :: r => by
    have ih := lookup_putF f g v r
    rw [show putF f v ((k, x) :: r) = (if k = f then (k, v) :: r else (k, x) :: putF f v r) from rfl]
    by_cases hk : k = f
    · rw [if_pos hk]
      by_cases h : g = k
      · have hb : (g == k) = true := beq_iff_eq.mpr h
        simp only [List.lookup, hb, if_pos (h.trans hk)]
      · have hb : (g == k) = false := beq_eq_false_iff_ne.mpr h
        simp only [List.lookup, hb, if_neg (fun e : g = f => h (e.trans hk.symm))]
    · rw [if_neg hk]
      by_cases h : g = k
      · have hb : (g == k) = true := beq_iff_eq.mpr h
        simp only [List.lookup, hb, if_neg (fun e : g = f => hk (h.symm.trans e))]
      · have hb : (g == k) = false := beq_eq_false_iff_ne.mpr h
        simp only [List.lookup, hb]
        exact ih
theorem keys_putF (f : Str) (v : V) : ∀ fs : List (Str × V), f ∈ (putF f v fs).map (·.1) ∧ ∀ g, g ∈ fs.map (·.1) → g ∈ (putF f v fs).map (·.1)
  | [] => ⟨by simp [putF], fun g h => by simp at h⟩
  | (k, x) :: r => by
    obtain ⟨i1, i2⟩ := keys_putF f v r
    rw [show putF f v ((k, x) :: r) = (if k = f then (k, v) :: r else (k, x) :: putF f v r) from rfl]
    by_cases hk : k = f
    · rw [if_pos hk]
      subst hk
      exact ⟨by simp, fun g h => by simpa using h⟩
    · rw [if_neg hk]
      refine ⟨?_, fun g h => ?_⟩
      · rw [List.map_cons]
        exact List.mem_cons_of_mem _ i1
      · rw [List.map_cons] at h ⊢
        rcases List.mem_cons.mp h with e | e
        · exact List.mem_cons.mpr (.inl e)
        · exact List.mem_cons_of_mem _ (i2 g e)
theorem length_putF (f : Str) (v : V) : ∀ fs : List (Str × V), (putF f v fs).length ≤ fs.length + 1
  | [] => by simp [putF]
  | (k, x) :: r => by
    have ih := length_putF f v r
    rw [show putF f v ((k, x) :: r) = (if k = f then (k, v) :: r else (k, x) :: putF f v r) from rfl]
    by_cases hk : k = f
    · rw [if_pos hk, List.length_cons, List.length_cons]; omega
    · rw [if_neg hk, List.length_cons, List.length_cons]; omega

theorem RelO.some_of {v : V} {o : Option Value} (r : RelO (some v) o) : ∃ u, o = some u ∧ RelV v u := by
  cases o with
  | none => exact (show False from r).elim
  | some u => exact ⟨u, rfl, r⟩
theorem RelO.none_of {o : Option Value} (r : RelO none o) : o = none := by
  cases o with
  | none => rfl
  | some u => exact (show False from r).elim
theorem handed_of {v : V} {u : Value} (r : RelV v u) : PySem.W.handedIn u = true := by
  cases v with
  | non => cases (show u = Value.none from r); rfl
  | bl b => cases (show u = Value.bool b from r); rfl
  | int i => obtain ⟨t, e⟩ := (show ∃ t, u = Value.int i t from r); cases e; rfl
  | str x => obtain ⟨t, e⟩ := (show ∃ t, u = Value.str x t from r); cases e; rfl
  | byt b => obtain ⟨t, e⟩ := (show ∃ t, u = Value.bytes b t from r); cases e; rfl
  | flt b => obtain ⟨t, e⟩ := (show ∃ t, u = Value.float b t from r); cases e; rfl
  | ref a => cases (show u = Value.ref a from r); rfl
  | ty n => cases (show u = Value.type n from r); rfl

section
variable {P : Program} {w : World} {H H' : Hp} {h h' : Heap} {a C dx : Addr} {fs fs' : List (Str × V)}
theorem ins_get (hok : HOk P w H h) (e : H a = some (.ins C dx fs)) : ∃ mA, ObjM h a dx C mA ∧ (∀ f, RelO (fs.lookup f) (mA f)) ∧ PySem.Within mA (fs.map (·.1)) ∧ fs.length ≤ 1000 ∧ H dx = some (.own a) := by
  obtain ⟨d, z, ne, ob, mA, n, r, q⟩ := (show ObjOk P w H h a (.ins C dx fs) from hok a _ e)
  exact ⟨mA, ⟨ob, n, ne⟩, r, q, z, d⟩
end

/-! ### what of the text a class must have -/
structure Cls (K : PySem.W.Frag) (C : Addr) : Prop where
  pg : PySem.W.plainGet K C Str.empty = true
  hd : PySem.W.hasDictIn K C = true
  po : PySem.W.plainOver K C = true
  sa : PySem.W.findIn K (.ref C) "__setattr__" = some (some (.builtin "object.__setattr__"))
theorem Cls.get {K : PySem.W.Frag} {C : Addr} (c : Cls K C) (f : Str) : PySem.W.plainGet K C f = true := c.pg
/-- no class of it has the name -/
def NoAttr (K : PySem.W.Frag) (C : Addr) (f : Str) : Prop := PySem.W.findIn K (.ref C) f = some none
theorem NoAttr.taker {K : PySem.W.Frag} {C : Addr} {f : Str} (n : NoAttr K C f) : PySem.W.takerIn K C f = some none := by
  unfold PySem.W.takerIn
  rw [show PySem.W.findIn K (.ref C) f = some none from n]
  rfl
/-- a constant of the class -/
structure Con (K : PySem.W.Frag) (C : Addr) (f : Str) (v : V) (u : Value) : Prop where
  at_ : PySem.W.findIn K (.ref C) f = some (some u)
  rel : RelV v u
  get : PySem.W.specialIn K u "__get__" = some none
  cp : PySem.W.copiedNames.contains f = false
/-- a method: a plain def of the class or of one above it -/
structure Meth (K : PySem.W.Frag) (C : Addr) (m : Str) (f : Addr) : Prop where
  at_ : PySem.W.findIn K (.ref C) m = some (some (.ref f))
  fn : PySem.W.isFn K (.ref f) = true
  kp : PySem.W.keepIn K (.ref f) = true

section
variable {X : Cx} {pins : List (Addr × Obj)} {σ : St} {H : Hp} {s : Shared} {a C dx : Addr} {fs : List (Str × V)} {f : Str} {v : V} {A : Around} {E : Value → Shared → Prop}

theorem getattr_ok {b : Bool} {Q : Value → Shared → Prop} (I : Inv X pins σ H s) (e : H a = some (.ins C dx fs)) (c : Cls X.K C) (n : NoAttr X.K C f) (l : fs.lookup f = some v)
    (h : ∀ u s', Inv X pins σ H s' → RelV v u → Q u s') : wpAny (model X.prog X.w) A (getAttr (.ref a) f b) Q E s := by
  obtain ⟨mA, O, r, _, _, _⟩ := ins_get I.hok e
  obtain ⟨u, hu, ru⟩ := RelO.some_of (v := v) (o := mA f) (by rw [← l]; exact r f)
  exact get_map I.kIn O (c.get f) c.hd n hu (handed_of ru) (h u _ (I.tok _) ru)

theorem getmeth_ok {m : Str} {g : Addr} {pl : Sem Bool} {Q : Value × List Value → Shared → Prop} (I : Inv X pins σ H s) (e : H a = some (.ins C dx fs)) (c : Cls X.K C) (k : Meth X.K C m g) (l : fs.lookup m = none)
    (h : Q (.ref g, [.ref a]) s) : wpAny (model X.prog X.w) A (getMethod (.ref a) m pl) Q E s := by
  obtain ⟨mA, O, r, _, _, _⟩ := ins_get I.hok e
  have hn : mA m = none := RelO.none_of (by rw [← l]; exact r m)
  exact get_meth I.kIn O (c.get m) k.at_ k.fn hn h

theorem setattr_ok {y : V} {u : Value} {Q : Unit → Shared → Prop} (I : Inv X pins σ H s) (e : H a = some (.ins C dx fs)) (c : Cls X.K C) (n : NoAttr X.K C f) (hl : fs.length < 1000) (ry : RelV y u)
    (h : ∀ s', Inv X pins σ (upd H a (.ins C dx (putF f y fs))) s' → Q () s') : wpAny (model X.prog X.w) A (setAttr (.ref a) f u) Q E s := by
  obtain ⟨mA, O, r, wi, _, ho⟩ := ins_get I.hok e
  have hz : (fs.map (·.1)).length ≤ sizeLine := by rw [List.length_map, sizeLine_eq]; omega
  refine set_map I.kIn O c.sa c.po n.taker c.hd wi hz fun h' O' sb => h _ ?_
  have hd : ∃ o, h'.get? dx = some o := let ⟨o, _, _, e', _⟩ := O'.ns; ⟨o, e'⟩
  refine I.write (x := a) (e := dx) (by rw [e]; exact True.intro) (.inr ho) (fun b q hb z => (sb.2 b hb).trans z) hd ?_
  refine ⟨by rw [upd_ne O.ne]; exact ho, ?_, O.ne, O'.obj, _, O'.ns, fun g => ?_, fun g hg => ?_⟩
  · have := length_putF f y fs; omega
  · show RelO ((putF f y fs).lookup g) (if g = f then some u else mA g)
    rw [lookup_putF]
    by_cases q : g = f
    · rw [if_pos q, if_pos q]; exact ry
    · rw [if_neg q, if_neg q]; exact r g
  · by_cases q : g = f
    · rw [q]; exact (keys_putF f y fs).1
    · refine (keys_putF f y fs).2 g (wi g fun z => hg ?_)
      show (if g = f then some u else mA g) = none
      rw [if_neg q]; exact z

/-- a new instance, tracked, without attributes -/
theorem Inv.made (I : Inv X pins σ H s) : Inv X pins σ (upd (upd H s.heap.objs.size (.own (s.heap.objs.size + 1))) (s.heap.objs.size + 1) (.ins C s.heap.objs.size []))
    { s with heap := (s.heap.push PySem.W.emptyDict).push (PySem.W.instObj C s.heap.objs.size) } := by
  have e1 : (s.heap.push PySem.W.emptyDict).get? s.heap.objs.size = some PySem.W.emptyDict := Heap.get?_push_size s.heap rfl
  have e2 : ((s.heap.push PySem.W.emptyDict).push (PySem.W.instObj C s.heap.objs.size)).get? (s.heap.objs.size + 1) = some (PySem.W.instObj C s.heap.objs.size) := by
    have := Heap.get?_push_size (s.heap.push PySem.W.emptyDict) (o := PySem.W.instObj C s.heap.objs.size) rfl
    rwa [Heap.size_push] at this
  have e3 : (s.heap.push PySem.W.emptyDict).Ns s.heap.objs.size (fun _ => none) := ⟨PySem.W.emptyDict, #[], _, e1, rfl, (fun e he => absurd he (by simp)), fun _ => rfl⟩
  have I1 := I.laid (a := s.heap.objs.size) (o := .own (s.heap.objs.size + 1)) (h' := s.heap.push PySem.W.emptyDict) (t' := s.toks) (fun b u q => Heap.get?_push_of_some _ q) (Nat.le_refl _) ⟨_, e1⟩
  refine I1.laid (a := s.heap.objs.size + 1) (o := .ins C s.heap.objs.size []) (t' := s.toks) (fun b u q => Heap.get?_push_of_some _ q) (Nat.le_of_eq (Heap.size_push _ _)) ?_
  have ne : s.heap.objs.size ≠ s.heap.objs.size + 1 := Nat.ne_of_lt (Nat.lt_succ_self _)
  refine ⟨by rw [upd_ne ne, upd_same], Nat.zero_le _, ne, e2, fun _ => none, (Heap.Ns1.of_empty e3).at fun o q => Heap.get?_push_of_some _ q, fun _ => True.intro, fun y hy => absurd rfl hy⟩

/-- e.f where nothing but the object is asked: through attributeBase (super) and the last hold -/
theorem attr_of {prog : Program} {w : World} {env : Env} {e : Expr} {f : Str} {pos : Pos} {s : Shared} {Q : Value → Shared → Prop} (hb : attributeBase e f env (eval e env) = eval e env)
    (h : wpAny (model prog w) A (eval e env) (fun o s₁ => wpAny (model prog w) A (getAttr o f true) Q E s₁) E s) : wpAny (model prog w) A (eval (.Attribute e f pos) env) Q E s :=
  Attribute_any_ h (by rw [arm_eval_Attribute, hb])
end

/-! ### readings and rules -/
/-- e.f, an attribute of the instance -/
def tFld (K : PySem.W.Frag) (ta : TE) (f : Str) : TE := fun σ H Q => ta σ H fun x H1 => ∃ a C dx fs v, x = .ref a ∧ H1 a = some (.ins C dx fs) ∧ Cls K C ∧ NoAttr K C f ∧ fs.lookup f = some v ∧ Q v H1
/-- e.f = value -/
def sFld (K : PySem.W.Frag) (ta tv : TE) (f : Str) : TS := fun D σ H => tv σ H fun y H1 => ta σ H1 fun x H2 => ∃ a C dx fs, x = .ref a ∧ H2 a = some (.ins C dx fs) ∧ Cls K C ∧ NoAttr K C f ∧ fs.length < 1000 ∧
  D.nx σ (upd H2 a (.ins C dx (putF f y fs)))
section
variable {X : Cx} {o e value : Expr} {f : Str} {pos pos' tpos : Pos} {ta tv : TE}
theorem pe_fld (he : PE X e ta) (hb : attributeBase e f X.env (eval e X.env) = eval e X.env) : PE X (.Attribute e f pos) (tFld X.K ta f) := by
  intro pins s σ H Q I h
  refine attr_of hb (thn (he pins s σ H _ I h) fun u s1 ⟨x, H1, I1, rx, a, C, dx, fs, v, ex, ea, c, n, l, q⟩ => ?_)
  subst ex
  obtain rfl : u = Value.ref a := rx
  exact getattr_ok I1 ea c n l fun u' s2 I2 ru => ⟨v, H1, I2, ru, q⟩
theorem ps_fld (ha : PE X o ta) (hv : PE X value tv) (hs : swapsWith value (some (.Attribute o f pos')) pos.line X.env = pure false) : PS X (.Assign [.Attribute o f pos'] value pos) (sFld X.K ta tv f) := by
  intro pins s σ H D I h
  refine plainObj_wpAny_Assign_Attribute (thn (hv pins s σ H _ I h) fun u s1 ⟨y, H1, I1, ry, q⟩ => thn (ha pins s1 σ H1 _ I1 q) fun ov s2 ⟨x, H2, I2, rx, a, C, dx, fs, ex, ea, c, n, l, q2⟩ => ?_) hs
  subst ex
  obtain rfl : ov = Value.ref a := rx
  exact setattr_ok I2 ea c n l ry fun s3 I3 => ⟨σ, _, I3, q2⟩
end

/-! ### isinstance -/
section
variable {X : Cx} {pins : List (Addr × Obj)} {σ : St} {H : Hp} {s : Shared} {A : Around} {E : Value → Shared → Prop} {Q : Value → Shared → Prop} {c : Value} {b : Bool}
/-- the type of a value, as the fragment's deciders take it; for an instance its class -/
inductive TyOf (K : PySem.W.Frag) (H : Hp) : V → Value → Prop where
  | non : TyOf K H .non (.type "NoneType")
  | bl (x : Bool) : TyOf K H (.bl x) (.type "bool")
  | int (i : Int) : TyOf K H (.int i) (.type "int")
  | str (x : Str) : TyOf K H (.str x) (.type "str")
  | flt (x : UInt64) : TyOf K H (.flt x) (.type "float")
  | lst {a : Addr} {xs : List V} (e : H a = some (.lst xs)) : TyOf K H (.ref a) (.type "list")
  | frz {a : Addr} {o : Obj} {xs : List V} (e : H a = some (.frz o (.lst xs))) : TyOf K H (.ref a) (.type "list")
  | tup {a : Addr} {xs : List V} (e : H a = some (.tup xs)) : TyOf K H (.ref a) (.type "tuple")
  | dK {a : Addr} {kvs : List (Key × V)} (e : H a = some (.dK kvs)) : TyOf K H (.ref a) (.type "dict")
  | dT {a : Addr} {kvs : List (List Key × V)} (e : H a = some (.dT kvs)) : TyOf K H (.ref a) (.type "dict")
  | ins {a C dx : Addr} {fs : List (Str × V)} (e : H a = some (.ins C dx fs)) (cl : Cls K C) (ha : PySem.W.findIn K (.ref C) "__class__" = some (some (.builtin "object.__class__")))
      (hn : PySem.W.specialIn K (.builtin "object.__class__") "__get__" = some (some (.builtin "getset_descriptor.__get__"))) (htk : PySem.W.takesIn K (.builtin "object.__class__") = some true)
      (hm : PySem.W.mroIn K C (.type "object") = some true) : TyOf K H (.ref a) (.ref C)
/-- isinstance(x, c) for one class c, a built-in or an own one: kitOne's answer -/
theorem isinst_ok {x : V} {u t : Value} (I : Inv X pins σ H s) (rx : RelV x u) (ty : TyOf X.K H x t) (e : PySem.W.kitOne X.K t c = some b) (h : ∀ tk, Q (.bool b) { s with toks := tk }) :
    wpAny (model X.prog X.w) A (call (.builtin "isinstance") [u, c]) Q E s := by
  cases ty with
  | non => cases (show u = Value.none from rx); exact PySem.W.kia_one PySem.W.kitx_none I.kIn True.intro e (fun z => nomatch z) h
  | bl y => cases (show u = Value.bool y from rx); exact PySem.W.kia_one PySem.W.kitx_bool I.kIn True.intro e (fun z => nomatch z) h
  | int i => obtain ⟨t, q⟩ := (show ∃ t, u = Value.int i t from rx); cases q; exact PySem.W.kia_one PySem.W.kitx_int I.kIn True.intro e (fun z => nomatch z) h
  | str y => obtain ⟨t, q⟩ := (show ∃ t, u = Value.str y t from rx); cases q; exact PySem.W.kia_one PySem.W.kitx_str I.kIn True.intro e (fun z => nomatch z) h
  | flt y => obtain ⟨t, q⟩ := (show ∃ t, u = Value.float y t from rx); cases q; exact PySem.W.kia_one PySem.W.kitx_float I.kIn True.intro e (fun z => nomatch z) h
  | @lst a xs ea =>
    cases (show u = Value.ref a from rx)
    obtain ⟨_, _, n, _, h1⟩ := (show ObjOk X.prog X.w H s.heap a (.lst xs) from I.hok a _ ea)
    exact PySem.W.kia_one PySem.W.kitx_list I.kIn ⟨_, h1, rfl⟩ e (fun z => nomatch z) h
  | @frz a ob xs ea =>
    cases (show u = Value.ref a from rx)
    obtain ⟨_, _, _, n, _, h1⟩ := (show ObjOk X.prog X.w H s.heap a (.frz ob (.lst xs)) from I.hok a _ ea)
    exact PySem.W.kia_one PySem.W.kitx_list I.kIn ⟨_, h1, rfl⟩ e (fun z => nomatch z) h
  | @tup a xs ea =>
    cases (show u = Value.ref a from rx)
    obtain ⟨_, _, _, p⟩ := (show ObjOk X.prog X.w H s.heap a (.tup xs) from I.hok a _ ea)
    obtain ⟨o, h1, h2, _⟩ := p
    exact PySem.W.kia_one PySem.W.kitx_tuple I.kIn ⟨o, h1, h2⟩ e (fun z => nomatch z) h
  | @dK a kvs ea =>
    cases (show u = Value.ref a from rx)
    obtain ⟨_, _, vs, _, p⟩ := (show ObjOk X.prog X.w H s.heap a (.dK kvs) from I.hok a _ ea)
    obtain ⟨o, es, ep, h1, h2, _⟩ := p
    exact PySem.W.kia_one PySem.W.kitx_dict I.kIn ⟨o, h1, h2.1⟩ e (fun z => nomatch z) h
  | @dT a kvs ea =>
    cases (show u = Value.ref a from rx)
    obtain ⟨_, _, xs, _, o, es, ep, h1, h2, _⟩ := (show ObjOk X.prog X.w H s.heap a (.dT kvs) from I.hok a _ ea)
    exact PySem.W.kia_one PySem.W.kitx_dict I.kIn ⟨o, h1, h2.1⟩ e (fun z => nomatch z) h
  | @ins a C dx fs ea cl ha hn htk hm =>
    cases (show u = Value.ref a from rx)
    obtain ⟨mA, O, _⟩ := ins_get I.hok ea
    obtain ⟨od, J, _⟩ := O.look
    exact PySem.W.kia_one (PySem.W.kitx_own (cl.get _) cl.hd ha hn htk hm) I.kIn J e (fun z => nomatch z) h
end
end L2

namespace L2
open PySem PySem.Spec PyProof.Rows

/-! ### room -/
structure Room (k : Nat) (A : Around) : Prop where
  hd : A.handled = none
  dp : A.depth + 3 * k + 5 < recursionLimit
  un : A.units + 16 * k + 200 < cLine
theorem Room.mono {j k : Nat} {A : Around} (r : Room k A) (h : j ≤ k) : Room j A := ⟨r.hd, by have := r.dp; omega, by have := r.un; omega⟩
theorem Room.deeper {k : Nat} {A : Around} (r : Room (k + 1) A) (env : Env) : Room k (A.deeper env) :=
  ⟨r.hd, by have := r.dp; show A.depth + 1 + 3 * k + 5 < _; omega, by have := r.un; show A.units + 3 + 16 * k + 200 < _; omega⟩
theorem Room.in1 {k : Nat} {A : Around} (r : Room (k + 1) A) : Room k A.in1 :=
  ⟨r.hd, by have := r.dp; show A.depth + 3 * k + 5 < _; omega, by have := r.un; show A.units + 1 + 16 * k + 200 < _; omega⟩
theorem make_depth {A : Around} {C : Addr} {us : List Value} {kw : List (Str × Value)} : (A.under (.builtin "type.__call__" ⟨.ref C :: us, kw⟩)).depth = A.depth + 1 := by
  first | rfl | simp [Around.under, Code.weight, Code.isCreation, Code.isGuard, Code.isCaller, Code.frames, Code.isFrame, guardIds]
theorem make_units {A : Around} {C : Addr} {us : List Value} {kw : List (Str × Value)} : (A.under (.builtin "type.__call__" ⟨.ref C :: us, kw⟩)).units = A.units + 1 := by
  first | rfl | simp [Around.under, Code.cUnits, Code.frames, Code.isFrame]
theorem Room.make {k : Nat} {A : Around} (r : Room (k + 1) A) (C : Addr) (us : List Value) (kw : List (Str × Value)) : Room k (A.under (.builtin "type.__call__" ⟨.ref C :: us, kw⟩)) :=
  ⟨r.hd, by have := r.dp; rw [make_depth]; omega, by have := r.un; rw [make_units]; omega⟩
theorem Room.depth {k : Nat} {A : Around} (r : Room k A) : A.depth < recursionLimit := by have := r.dp; omega
theorem Room.units {k : Nat} {A : Around} (r : Room k A) : A.units + 64 < cLine := by have := r.un; omega
/-! ### argument lists and displays -/
def tNil : TA := fun _ H Q => Q [] H
def tCons (ta : TE) (tr : TA) : TA := fun σ H Q => ta σ H fun x H1 => tr σ H1 fun xs H2 => Q (x :: xs) H2
section
variable {X : Cx} {e : Expr} {es : List Expr} {te : TE} {t : TA} {pos : Pos}
theorem pa_nil : PA X [] tNil := fun _ _ _ _ H Q I h => Calls.spliced_nil ⟨[], H, I, .nil, h⟩
theorem pa_cons (ha : PE X e te) (hr : PA X es t) (hs : starEach (e :: es) X.env = (false, eval e X.env) :: starEach es X.env := by rfl) : PA X (e :: es) (tCons te t) := by
  intro pos pins s σ H Q I h
  rw [hs]
  show wpAny _ _ (spliced ((false, eval e X.env) :: backTo pos (starEach es X.env))) _ _ s
  refine Calls.spliced_cons (thn (ha pins s σ H _ I h) fun u s1 ⟨x, H1, I1, r1, q1⟩ => ?_)
  exact thn (hr pos pins s1 σ H1 _ I1 q1) fun us s2 ⟨xs, H2, I2, r2, q2⟩ => ⟨x :: xs, H2, I2, .cons r1 r2, q2⟩

/-- a tuple, a list of written items -/
def tTup (t : TA) : TE := fun σ H Q => t σ H fun xs H1 => xs.length ≤ sizeLine ∧ ∀ p, H1 p = none → Q (.ref p) (upd H1 p (.tup xs))
def tLst (t : TA) : TE := fun σ H Q => t σ H fun xs H1 => xs.length ≤ sizeLine ∧ ∀ p, H1 p = none → Q (.ref p) (upd H1 p (.lst xs))
theorem pe_tup {x1} (h : PA X es t) : PE X (.Tuple es x1 pos) (tTup t) := by
  intro pins s σ H Q I hq
  refine wpAny_Tuple_spliced (thn (h pos pins s σ H _ I hq) fun us s1 ⟨xs, H1, I1, r, z, q⟩ => ⟨by rw [← r.length]; exact z, ?_⟩)
  have hf : H1 s1.heap.objs.size = none := I1.hok.fresh (Nat.le_refl _)
  refine ⟨.ref s1.heap.objs.size, upd H1 s1.heap.objs.size (.tup xs), I1.laid (t' := s1.toks) (fun b u e => Heap.get?_push_of_some _ e) (Nat.le_refl _) ?_, rfl, q _ hf⟩
  exact ⟨z, us, r, ⟨_, Heap.get?_push_size _ rfl, rfl, _, rfl⟩⟩
theorem pe_lst (h : PA X es t) : PE X (.List es pos) (tLst t) := by
  intro pins s σ H Q I hq
  refine wpAny_List_spliced (thn (h pos pins s σ H _ I hq) fun us s1 ⟨xs, H1, I1, r, z, q⟩ => ⟨by rw [← r.length]; exact z, ?_⟩)
  have hf : H1 s1.heap.objs.size = none := I1.hok.fresh (Nat.le_refl _)
  refine ⟨.ref s1.heap.objs.size, upd H1 s1.heap.objs.size (.lst xs), I1.laid (t' := s1.toks) (fun b u e => Heap.get?_push_of_some _ e) (Nat.le_refl _) ?_, rfl, q _ hf⟩
  exact ⟨z, us, 0, r, Heap.get?_push_size _ rfl⟩
end

/-! ### what a def promises -/
/-- a def's promise: the bound arguments in the parameters' order, the heap, the wanted end, the wanted exception -/
abbrev Sp := List V → Hp → VK → XK → Prop
/-- how an exception lies behind a call (file 08 gives it): the callers' frames, abstract heap and state ahead of the call, the wish, the exception, the state -/
abbrev CXT := List Env → Hp → Shared → XK → Value → Shared → Prop

/-- the state at a call -/
structure Env0 (P : Program) (w : World) (K : PySem.W.Frag) (mg : Str → Option Value) (base : Heap) (A : Around) (outer : List Env) (s : Shared) (H : Hp) : Prop where
  frames : A.frames = some outer
  mod : Mod K mg base
  bs : ∀ b o, base.get? b = some o → s.heap.get? b = some o ∧ H b = none
  bsz : base.objs.size ≤ s.heap.objs.size
  funs : s.heap.FunFrames base outer
  frf : ∀ b ∈ frs outer, H b = none
  hok : HOk P w H s.heap
  bare : AllBare s.gens
/-- a call's end -/
def CE (outer : List Env) (P : Program) (w : World) (H : Hp) (s : Shared) (Q : VK) (u : Value) (s' : Shared) : Prop :=
  ∃ v H', s'.os = s.os ∧ AllBare s'.gens ∧ Un (frs outer) [] H H' s.heap s'.heap ∧ HOk P w H' s'.heap ∧ RelV v u ∧ Q v H'
def CR (CX : CXT) (outer : List Env) (P : Program) (w : World) (H : Hp) (s : Shared) (Q : VK) (E : XK) (r : Result) (s' : Shared) : Prop :=
  match r with
  | .ok (.ret u) => CE outer P w H s Q u s'
  | .ok _ => False
  | .error e => CX outer H s E e s'
structure FnOk (P : Program) (w : World) (K : PySem.W.Frag) (mg : Str → Option Value) (base : Heap) (CX : CXT) (k : Nat) (f : Addr) (fd : FuncData) (ps : List Str) (sp : Sp) : Prop where
  len : ∀ vs H Q E, sp vs H Q E → vs.length = ps.length
  run : ∀ (A : Around) (outer : List Env) (s : Shared) (H : Hp) (args : Args) (us : List Value) (vs : List V) (Q : VK) (E : XK), Room k A → Env0 P w K mg base A outer s H → BindsTo s fd args (ps.zip us) → Vals vs us → sp vs H Q E →
    codeAny (model P w) A (.call (.ref f) args) (CR CX outer P w H s Q E) s
theorem FnOk.mono {P : Program} {w : World} {K : PySem.W.Frag} {mg : Str → Option Value} {base : Heap} {CX : CXT} {j k : Nat} {f : Addr} {fd : FuncData} {ps : List Str} {sp : Sp} (F : FnOk P w K mg base CX j f fd ps sp) (h : j ≤ k) :
    FnOk P w K mg base CX k f fd ps sp := ⟨F.len, fun A outer s H args us vs Q E hr => F.run A outer s H args us vs Q E (hr.mono h)⟩
/-- a weaker promise -/
theorem FnOk.imp {P : Program} {w : World} {K : PySem.W.Frag} {mg : Str → Option Value} {base : Heap} {CX : CXT} {k : Nat} {f : Addr} {fd : FuncData} {ps : List Str} {sp sp' : Sp} (F : FnOk P w K mg base CX k f fd ps sp)
    (h : ∀ vs H Q E, sp' vs H Q E → sp vs H Q E) : FnOk P w K mg base CX k f fd ps sp' :=
  ⟨fun vs H Q E q => F.len vs H Q E (h _ _ _ _ q), fun A outer s H args us vs Q E hr he hb hv hs => F.run A outer s H args us vs Q E hr he hb hv (h _ _ _ _ hs)⟩

theorem Env0.make {P : Program} {w : World} {K : PySem.W.Frag} {mg : Str → Option Value} {base : Heap} {A : Around} {outer : List Env} {s : Shared} {H : Hp} (e : Env0 P w K mg base A outer s H) (C : Addr) (us : List Value) (kw : List (Str × Value)) :
    Env0 P w K mg base (A.under (.builtin "type.__call__" ⟨.ref C :: us, kw⟩)) outer s H := ⟨by first | exact e.frames | (simpa [Around.under, Code.envs, Code.isFrame, pushEnvs] using e.frames), e.mod, e.bs, e.bsz, e.funs, e.frf, e.hok, e.bare⟩
theorem Env0.in1 {P : Program} {w : World} {K : PySem.W.Frag} {mg : Str → Option Value} {base : Heap} {A : Around} {outer : List Env} {s : Shared} {H : Hp} (e : Env0 P w K mg base A outer s H) :
    Env0 P w K mg base A.in1 outer s H := ⟨e.frames, e.mod, e.bs, e.bsz, e.funs, e.frf, e.hok, e.bare⟩

section
variable {X : Cx} {pins : List (Addr × Obj)} {σ : St} {H : Hp} {s s' : Shared}
/-- from a body: what a callee wants -/
theorem Inv.env0 (I : Inv X pins σ H s) : Env0 X.prog X.w X.K X.mg X.base X.A X.stack s H :=
  ⟨I.ok.frames, I.ok.mod, I.bs, Nat.le_trans I.ok.bsz I.sz, I.stack, I.stkFree, I.hok, I.bare⟩
/-- behind a call -/
theorem Inv.after {Q : VK} {u : Value} (I : Inv X pins σ H s) (h : CE X.stack X.prog X.w H s Q u s') : EP X pins σ Q u s' := by
  obtain ⟨v, H', os, bare, un, hok, r, q⟩ := h
  obtain ⟨hh, g, d, t, os'⟩ := s'
  obtain rfl : os' = s.os := os
  exact ⟨v, H', I.call (h' := hh) (g' := g) (d' := d) (t' := t) (ch := []) un hok bare (fun b z => absurd z (by simp)), r, q⟩
end

/-! ### calls -/
/-- f(..): the written arguments, then the defaults dvs; E: what is wanted of an exception -/
def tCall (sp : Sp) (dvs : List V) (E : XK) (t : TA) : TE := fun σ H Q => t σ H fun vs H1 => sp (vs ++ dvs) H1 Q E
/-- o.m(..) of an instance of the class at C -/
def tMeth (C : Addr) (m : Str) (sp : Sp) (dvs : List V) (E : XK) (ta : TE) (t : TA) : TE := fun σ H Q => ta σ H fun x H1 => ∃ a dx fs, x = .ref a ∧ H1 a = some (.ins C dx fs) ∧ fs.lookup m = none ∧
  t σ H1 fun vs H2 => sp (x :: (vs ++ dvs)) H2 Q E
/-- C(..): a new instance and its dict, then __init__ -/
def tMake (C : Addr) (sp : Sp) (dvs : List V) (E : XK) (t : TA) : TE := fun σ H Q => t σ H fun vs H1 => ∀ x dx, H1 x = none → H1 dx = none → dx ≠ x →
  sp (.ref x :: (vs ++ dvs)) (upd (upd H1 dx (.own x)) x (.ins C dx [])) (fun v H2 => v = .non ∧ Q (.ref x) H2) E

/-- how the parameters are bound: us the positional arguments, kw the keywords' values by name, ds the defaults that fill up -/
def Binds (K : PySem.W.Frag) (fd : FuncData) (ps : List Str) (ds : List Value) : Prop :=
  ∀ (s : Shared) (us : List Value), K.In s.heap → (us ++ ds).length = ps.length → BindsTo s fd ⟨us, []⟩ (ps.zip (us ++ ds))
/-- every parameter is given -/
theorem Binds.all {K : PySem.W.Frag} {fd : FuncData} {ps : List Str} (h : ∀ us : List Value, us.length = ps.length → bindArgs fd ⟨us, []⟩ = pure (ps.zip us)) : Binds K fd ps [] := fun s us _ hl => by
  rw [List.append_nil] at hl ⊢
  exact .of_eq (h us hl)

/-- an exception of a callee reaches what this body wants of exceptions -/
def Passes (CX : CXT) (X : Cx) (E : XK) : Prop := ∀ (pins : List (Addr × Obj)) (σ : St) (H : Hp) (s : Shared) (e : Value) (s' : Shared), Inv X pins σ H s → CX X.stack H s E e s' → X.xe e s'

section
variable {X : Cx} {CX : CXT} {k : Nat} {f C : Addr} {fd : FuncData} {ps : List Str} {sp : Sp} {dvs : List V} {ds : List Value} {E : XK} {x m : Str} {p pos apos : Pos} {e o : Expr} {es : List Expr} {ta : TE} {t : TA}

/-- the callee runs -/
theorem run_fn {pins : List (Addr × Obj)} {σ : St} {H : Hp} {s : Shared} {Q : VK} {us : List Value} {vs : List V} (F : FnOk X.prog X.w X.K X.mg X.base CX k f fd ps sp) (hr : Room k X.A) (hb : Binds X.K fd ps ds) (hd : Vals dvs ds) (hx : Passes CX X E)
    (I : Inv X pins σ H s) (r : Vals vs us) (h : sp (vs ++ dvs) H Q E) : wpAny (model X.prog X.w) X.A (call (.ref f) us) (EP X pins σ Q) X.xe s := by
  have r2 : Vals (vs ++ dvs) (us ++ ds) := r.append hd
  have hl : (us ++ ds).length = ps.length := by rw [← r2.length]; exact F.len _ _ _ _ h
  refine wpAny_call (codeAny_mono (F.run X.A X.stack s H ⟨us, []⟩ (us ++ ds) (vs ++ dvs) Q E hr I.env0 (hb s us I.kIn hl) r2 h) fun r s' hq => ?_)
  cases r with
  | error e => exact hx pins σ H s e s' I hq
  | ok fl =>
    cases fl with
    | ret u => exact I.after hq
    | next => exact False.elim hq
    | brk => exact False.elim hq
    | cont => exact False.elim hq

theorem pe_call (F : FnOk X.prog X.w X.K X.mg X.base CX k f fd ps sp) (hr : Room k X.A) (hg : Gl X x) (hm : X.mg x = some (.ref f)) (hk : PySem.W.keepIn X.K (.ref f) = true) (hb : Binds X.K fd ps ds) (hd : Vals dvs ds) (hx : Passes CX X E)
    (ha : PA X (e :: es) t) (hdb : (x == ("__debug__" : Str)) = false := by decide) (he : starEach (e :: es) X.env = (false, eval e X.env) :: starEach es X.env := by rfl) (hpl : (backTo pos (starEach es X.env)).any (·.1) = false := by rfl) :
    PE X (.Call (.Name x p) (e :: es) [] pos) (tCall sp dvs E t) := by
  intro pins s σ H Q I h
  refine wpAny_Call_Name_kw (ld_glob I hg hm ?_ hdb)
  refine PySem.W.callWith_K (h₀ := X.base) I.ok.mod.kin hk (thn (ha pos pins s σ H _ I h) fun us s1 ⟨vs, H1, I1, r, q⟩ => ⟨I1.kIn, ?_⟩) he hpl
  exact run_fn F hr hb hd hx I1 r q
/-- o.m(e, ..) -/
theorem pe_meth {pl : Sem Bool} (he : PE X o ta) (c : Cls X.K C) (hm : Meth X.K C m f) (F : FnOk X.prog X.w X.K X.mg X.base CX k f fd ps sp) (hr : Room k X.A) (hb : Binds X.K fd ps ds) (hd : Vals dvs ds) (hx : Passes CX X E) (ha : PA X (e :: es) t)
    (hst : starEach (e :: es) X.env = (false, eval e X.env) :: starEach es X.env := by rfl) (hpl : (backTo pos (starEach es X.env)).any (·.1) = false := by rfl)
    (ht : eval (.Call (.Attribute o m apos) (e :: es) [] pos) X.env = (do
      let ov ← eval o X.env
      standAt apos.atName
      let (f, first) ← holding [ov] (getMethod ov m pl)
      callWith pos f first (backTo pos (starEach (e :: es) X.env)) (backToKw pos (keywordEach [] X.env))) := by rfl) :
    PE X (.Call (.Attribute o m apos) (e :: es) [] pos) (tMeth C m sp dvs E ta t) := by
  intro pins s σ H Q I h
  refine PySem.W.methodCall_KW (pl := pl) (thn (he pins s σ H _ I h) fun u s1 ⟨x, H1, I1, rx, a, dx, fs, ex, ea, l, q⟩ => ?_) ht
  subst ex
  obtain rfl : u = Value.ref a := rx
  refine getmeth_ok I1 ea c hm l ?_
  refine PySem.W.callWith_K (first := [.ref a]) (h₀ := X.base) I.ok.mod.kin hm.kp (thn (ha pos pins s1 σ H1 _ I1 q) fun us s2 ⟨vs, H2, I2, r, q2⟩ => ⟨I2.kIn, ?_⟩) hst hpl
  exact run_fn (us := .ref a :: us) (vs := .ref a :: vs) F hr hb hd hx I2 (.cons rfl r) q2
/-- what a class must have to be made -/
structure Mk (K : PySem.W.Frag) (C f : Addr) : Prop where
  makes : PySem.W.makesIn K C = true
  init : PySem.W.findIn K (.ref C) "__init__" = some (some (.ref f))
  fn : PySem.W.isFn K (.ref f) = true
  kp : PySem.W.keepIn K (.ref C) = true

theorem run_make {pins : List (Addr × Obj)} {σ : St} {H : Hp} {s : Shared} {Q : VK} {us : List Value} {vs : List V} (M : Mk X.K C f) (F : FnOk X.prog X.w X.K X.mg X.base CX k f fd ps sp) (hr : Room (k + 1) X.A) (hb : Binds X.K fd ps ds) (hd : Vals dvs ds)
    (hx : Passes CX X E) (I : Inv X pins σ H s) (r : Vals vs us)
    (h : ∀ x dx, H x = none → H dx = none → dx ≠ x → sp (.ref x :: (vs ++ dvs)) (upd (upd H dx (.own x)) x (.ins C dx [])) (fun v H2 => v = .non ∧ Q (.ref x) H2) E) :
    wpAny (model X.prog X.w) X.A (call (.ref C) us) (EP X pins σ Q) X.xe s := by
  have hq := h (s.heap.objs.size + 1) s.heap.objs.size (I.hok.fresh (Nat.le_succ _)) (I.hok.fresh (Nat.le_refl _)) (Nat.ne_of_lt (Nat.lt_succ_self _))
  have I2 := Inv.made (C := C) I
  have r2 : Vals (V.ref (s.heap.objs.size + 1) :: (vs ++ dvs)) (Value.ref (s.heap.objs.size + 1) :: (us ++ ds)) := .cons rfl (r.append hd)
  have hl : (Value.ref (s.heap.objs.size + 1) :: us ++ ds).length = ps.length := by
    have e := r2.length
    rw [F.len _ _ _ _ hq] at e
    exact e.symm
  refine wpAny_call (make_map (f := f) I.kIn M.makes M.init (beq_iff_eq.mp M.fn) (codeAny_mono (F.run _ X.stack _ _ ⟨Value.ref (s.heap.objs.size + 1) :: us, []⟩ (Value.ref (s.heap.objs.size + 1) :: (us ++ ds)) _ _ E (hr.make C us [])
    (I2.env0.make C us []) (hb _ (Value.ref (s.heap.objs.size + 1) :: us) I2.kIn hl) r2 hq) fun r s' hq' => ?_))
  cases r with
  | error e => exact hx pins σ _ _ e s' I2 hq'
  | ok fl =>
    cases fl with
    | ret u =>
      obtain ⟨v, H', I3, rv, ev, q3⟩ := I2.after hq'
      subst ev
      exact ⟨rv, ⟨V.ref (s.heap.objs.size + 1), H', I3, rfl, q3⟩⟩
    | next => exact False.elim hq'
    | brk => exact False.elim hq'
    | cont => exact False.elim hq'
theorem pe_make (M : Mk X.K C f) (F : FnOk X.prog X.w X.K X.mg X.base CX k f fd ps sp) (hr : Room (k + 1) X.A) (hg : Gl X x) (hm : X.mg x = some (.ref C)) (hb : Binds X.K fd ps ds) (hd : Vals dvs ds) (hx : Passes CX X E)
    (ha : PA X (e :: es) t) (hdb : (x == ("__debug__" : Str)) = false := by decide) (he : starEach (e :: es) X.env = (false, eval e X.env) :: starEach es X.env := by rfl) (hpl : (backTo pos (starEach es X.env)).any (·.1) = false := by rfl) :
    PE X (.Call (.Name x p) (e :: es) [] pos) (tMake C sp dvs E t) := by
  intro pins s σ H Q I h
  refine wpAny_Call_Name_kw (ld_glob I hg hm ?_ hdb)
  refine PySem.W.callWith_K (h₀ := X.base) I.ok.mod.kin M.kp (thn (ha pos pins s σ H _ I h) fun us s1 ⟨vs, H1, I1, r, q⟩ => ⟨I1.kIn, ?_⟩) he hpl
  exact run_make M F hr hb hd hx I1 r q
end

/-! ### keywords -/
/-- the values of the keywords, from the left -/
def PK (X : Cx) (kws : List Keyword) (t : TA) : Prop :=
  ∀ (pos : Pos) (pins : List (Addr × Obj)) (s : Shared) (σ : St) (H : Hp) (Q : List V → Hp → Prop), Inv X pins σ H s → t σ H Q → wpAny (model X.prog X.w) X.A (evalAll ((backToKw pos (keywordEach kws X.env)).map (·.2))) (AP X pins σ Q) X.xe s
section
variable {X : Cx} {CX : CXT} {k : Nat} {f C : Addr} {fd : FuncData} {ps ks : List Str} {sp : Sp} {E : XK} {x m : Str} {p pos apos kpos : Pos} {e o : Expr} {es : List Expr} {kws : List Keyword} {te ta : TE} {t tk : TA} {nm : Option Str}
theorem pk_nil : PK X [] tNil := fun _ _ _ _ H Q I h => wpAny_evalAll_nil ⟨[], H, I, .nil, h⟩
theorem pk_cons (ha : PE X e te) (hr : PK X kws t) : PK X (⟨nm, e, kpos⟩ :: kws) (tCons te t) := by
  intro pos pins s σ H Q I h
  show wpAny _ _ (evalAll ((do let v ← eval e X.env; standAt pos; pure v) :: (backToKw pos (keywordEach kws X.env)).map (·.2))) _ _ s
  refine wpAny_evalAll_cons (wpAny_bind (thn (ha pins s σ H _ I h) fun u s1 ⟨x, H1, I1, r1, q1⟩ => wpAny_bind (wpAny_standAt (wpAny_pure ?_))))
  exact thn (hr pos pins s1 σ H1 _ I1 q1) fun us s2 ⟨xs, H2, I2, r2, q2⟩ => ⟨x :: xs, H2, I2, .cons r1 r2, q2⟩

/-- how a call with keywords binds: g puts the positional values us and the keywords' values ws (names ks) in the parameters' order, defaults among them -/
structure KBinds (K : PySem.W.Frag) (fd : FuncData) (ps ks : List Str) (g : List Value → List Value → List Value) (gV : List V → List V → List V) : Prop where
  to : ∀ (s : Shared) (us ws : List Value), K.In s.heap → (g us ws).length = ps.length → BindsTo s fd ⟨us, ks.zip ws⟩ (ps.zip (g us ws))
  rel : ∀ {vs : List V} {us : List Value} {zs : List V} {ws : List Value}, Vals vs us → Vals zs ws → Vals (gV vs zs) (g us ws)
variable {g : List Value → List Value → List Value} {gV : List V → List V → List V}
end

/-! ### a def's body keeps its promise -/
/-- names: the parameters first -/
structure FnScope (N P : List Str) (sc : Scope) : Prop where
  kind : sc.kind = .function
  co : sc.isCoroutine = false
  gen : sc.isGenerator = false
  nd : N.Nodup
  pre : N.take P.length = P
  par : ∀ x ∈ P, sc.names.lookup x = some .local ∨ sc.names.lookup x = some .cell
  nofree : ∀ y ∈ sc.names, y.2 ≠ .free

theorem bindL_out {kindOf : Str → Option NameKind} {x : Str} : ∀ {binds : List (Str × Value)} {m : Str → Option Value}, (∀ v, (x, v) ∉ binds) → bindL kindOf binds m x = m x
  | [], _, _ => rfl
  | (n, v) :: r, m, h => by
    unfold bindL
    rw [bindL_out fun w hw => h w (List.mem_cons_of_mem _ hw)]
    split
    · have : x ≠ n := by rintro rfl; exact h v List.mem_cons_self
      simp [this]
    · rfl
theorem bindC_out {kindOf : Str → Option NameKind} {x : Str} : ∀ {binds : List (Str × Value)} {m : Str → Option Value}, (∀ v, (x, v) ∉ binds) → bindC kindOf binds m x = m x
  | [], _, _ => rfl
  | (n, v) :: r, m, h => by
    unfold bindC
    rw [bindC_out fun w hw => h w (List.mem_cons_of_mem _ hw)]
    split
    · rfl
    · have : x ≠ n := by rintro rfl; exact h v List.mem_cons_self
      simp [this]
theorem bindL_get {kindOf : Str → Option NameKind} {x : Str} {v : Value} : ∀ {P : List Str} {vs : List Value} {i : Nat} {m : Str → Option Value}, P.Nodup → P[i]? = some x → vs[i]? = some v → kindOf x = some .local →
    bindL kindOf (P.zip vs) m x = some v
  | [], _, _, _, _, h, _, _ => by simp at h
  | _ :: _, [], _, _, _, _, h, _ => by simp at h
  | p :: P, w :: vs, 0, m, nd, h1, h2, hk => by
    simp at h1 h2; subst h1; subst h2
    show bindL kindOf ((p, w) :: P.zip vs) m p = _
    unfold bindL
    rw [bindL_out fun v hv => (List.nodup_cons.mp nd).1 (List.of_mem_zip hv).1, if_pos hk]
    simp
  | p :: P, w :: vs, i + 1, m, nd, h1, h2, hk => by
    show bindL kindOf ((p, w) :: P.zip vs) m x = _
    unfold bindL
    exact bindL_get (i := i) (List.nodup_cons.mp nd).2 (by simpa using h1) (by simpa using h2) hk
theorem bindC_get {kindOf : Str → Option NameKind} {x : Str} {v : Value} : ∀ {P : List Str} {vs : List Value} {i : Nat} {m : Str → Option Value}, P.Nodup → P[i]? = some x → vs[i]? = some v → kindOf x ≠ some .local →
    bindC kindOf (P.zip vs) m x = some v
  | [], _, _, _, _, h, _, _ => by simp at h
  | _ :: _, [], _, _, _, _, h, _ => by simp at h
  | p :: P, w :: vs, 0, m, nd, h1, h2, hk => by
    simp at h1 h2; subst h1; subst h2
    show bindC kindOf ((p, w) :: P.zip vs) m p = _
    unfold bindC
    rw [bindC_out fun v hv => (List.nodup_cons.mp nd).1 (List.of_mem_zip hv).1, if_neg hk]
    simp
  | p :: P, w :: vs, i + 1, m, nd, h1, h2, hk => by
    show bindC kindOf ((p, w) :: P.zip vs) m x = _
    unfold bindC
    exact bindC_get (i := i) (List.nodup_cons.mp nd).2 (by simpa using h1) (by simpa using h2) hk

/-- the names' values at the entry -/
def start (N : List Str) (vs : List V) : St := vs.map some ++ List.replicate (N.length - vs.length) none

/-- the context of a def's body, at its entry; an exception leaves the frame, then lies as CX says -/
def cxOf (CX : CXT) (P : Program) (w : World) (K : PySem.W.Frag) (mg : Str → Option Value) (base : Heap) (N : List Str) (qual : Str) (scope : Scope) (f : Addr) (cd : Value) (A : Around) (outer : List Env) (s : Shared) (H : Hp) (E : XK) : Cx where
  prog := P
  w := w
  K := K
  mg := mg
  base := base
  A := A.deeper (envOfC qual scope s.heap.objs.size f cd)
  N := N
  s₀ := s
  H₀ := H
  env := envOfC qual scope s.heap.objs.size f cd
  outer := outer
  stack := envOfC qual scope s.heap.objs.size f cd :: outer
  ex := []
  calm := true
  fn := fun _ => true
  pn := []
  xe := fun e s' => wpAny (model P w) (A.deeper (envOfC qual scope s.heap.objs.size f cd)) (leaving (envOfC qual scope s.heap.objs.size f cd) e) (fun _ s'' => CX outer H s E e s'') (fun e' s'' => CX outer H s E e' s'') s'

theorem cell_has {sc : Scope} {n : Nat} {x : Str} (h : sc.names.lookup x = some .cell) : ∃ c, (cellsFrom n sc.names []).lookup x = some c := by
  have q := PySem.W.cellsFrom_some sc.names n [] (.inl h)
  exact Option.isSome_iff_exists.mp q

theorem inv_start {CX : CXT} {P : Program} {w : World} {K : PySem.W.Frag} {mg : Str → Option Value} {base : Heap} {N ps : List Str} {qual : Str} {scope : Scope} {f : Addr} {cd : Value} {A : Around} {outer : List Env} {s s1 : Shared} {H : Hp} {E : XK} {us : List Value} {vs : List V}
    (S : FnScope N ps scope) (hd : A.handled = none) (e0 : Env0 P w K mg base A outer s H) (hl : vs.length = ps.length) (r : Vals vs us)
    (x : InCallC s s.heap.objs.size (bindL (envOfC qual scope s.heap.objs.size f cd).kindOf (ps.zip us) fun _ => none) (cellsFrom (s.heap.objs.size + 1) scope.names []) (bindC (envOfC qual scope s.heap.objs.size f cd).kindOf (ps.zip us) fun _ => none) s1) :
    Inv (cxOf CX P w K mg base N qual scope f cd A outer s H E) [] (start N vs) H s1 := by
  have hpl : ps.length ≤ N.length := by have := congrArg List.length S.pre; rw [List.length_take] at this; omega
  obtain ⟨h1, tk, rfl, hk⟩ := x.done
  have noA : ∀ b : Addr, b ∉ (cxOf CX P w K mg base N qual scope f cd A outer s H E).ex := fun b z => absurd (show b ∈ ([] : List Addr) from z) (by simp)
  refine ⟨⟨e0.mod, S.kind, rfl, rfl, Nat.le_refl _, fun y z c h1 h2 => ?_, fun y hy => ?_, fun y c _ h => ?_, fun _ => hd, Around.frames_deeper e0.frames, .inr ⟨rfl, rfl⟩, fun b z => absurd z (noA b), e0.bs, e0.bsz, fun b _ _ => noA b, fun b z => absurd z (noA b), e0.funs, e0.frf⟩,
    rfl, e0.bare, Un.kept hk, ⟨_, x.toInCall.ns, fun i y v h1 h2 h3 => ?_⟩, fun y c h => ⟨_, x.cell y c h⟩, e0.hok.fresh (Nat.le_refl _), fun y c h => ?_, fun p hp => absurd (show p ∈ ([] : List (Addr × Obj)) from hp) (by simp), e0.hok.kept hk, ?_⟩
  · exact name_of_addr x.apart (PySem.mem_of_lookup h1) (PySem.mem_of_lookup h2)
  · have hy : scope.names.lookup y = some .cell ∨ scope.names.lookup y = some .free := hy
    rcases hy with hy | hy
    · exact cell_has hy
    · exact absurd rfl (S.nofree _ (PySem.mem_of_lookup hy))
  · exact Nat.le_of_lt (x.above y c (PySem.mem_of_lookup h))
  · have hi : i < vs.length := by
      unfold start at h2
      by_cases hi : i < vs.length
      · exact hi
      · rw [List.getElem?_append_right (by simpa using hi)] at h2
        rw [List.getElem?_replicate] at h2
        split at h2 <;> cases h2
    have ha : vs[i]? = some v := by
      unfold start at h2
      rw [List.getElem?_append_left (by simpa using hi), List.getElem?_map] at h2
      cases e : vs[i]? with
      | none => rw [e] at h2; cases h2
      | some a => rw [e] at h2; cases h2; rfl
    obtain ⟨u, hu, rv⟩ := r.get ha
    have hp : ps[i]? = some y := by
      rw [← S.pre, List.getElem?_take_of_lt (by omega)]; exact h1
    have ndP : ps.Nodup := by rw [← S.pre]; exact S.nd.sublist (List.take_sublist _ _)
    refine ⟨u, rv, ?_⟩
    rcases S.par y (List.mem_of_getElem? hp) with k | k
    · exact .inl ⟨k, bindL_get ndP hp hu k⟩
    · obtain ⟨c, e⟩ := cell_has (n := s.heap.objs.size + 1) k
      refine .inr ⟨.inl k, c, e, ?_⟩
      have q := x.cell y c e
      rw [bindC_get ndP hp hu (by show scope.names.lookup y ≠ _; rw [k]; decide)] at q
      exact q
  · exact e0.hok.fresh (Nat.le_of_lt (x.above y c (PySem.mem_of_lookup h)))
  · unfold start
    show _ = N.length
    rw [List.length_append, List.length_map, List.length_replicate]
    omega

/-- THE RULE: a def (or a method) of the text, by its body. The body's reading t is chosen for each entry; it is run at the parameters' values -/
theorem fn_of {CX : CXT} {P : Program} {w : World} {K : PySem.W.Frag} {mg : Str → Option Value} {base : Heap} {k : Nat} {f : Addr} {name qual : Str} {params : Arguments} {body : List Stmt} {scope : Scope} {dV kV doc pm cdv ct oc : Value} {an od : Option Addr}
    {osl : Array (Option Value)} {N ps : List Str} {sp : Sp} (lk : K.lookup f = some ⟨oc, od, .func (PySem.W.fnOf name qual params body scope dV kV doc pm an cdv ct), osl⟩) (hcd : PySem.W.codeIn K cdv qual = true) (S : FnScope N ps scope)
    (len : ∀ vs H Q E, sp vs H Q E → vs.length = ps.length)
    (hbody : ∀ (A : Around) (outer : List Env) (s : Shared) (H : Hp) (vs : List V) (Q : VK) (E : XK), Room k (A.deeper (envOfC qual scope s.heap.objs.size f cdv)) → sp vs H Q E →
      ∃ t, PSs (cxOf CX P w K mg base N qual scope f cdv A outer s H E) body t ∧ t { nx := fun _ H' => Q .non H', rt := Q } (start N vs) H) :
    FnOk P w K mg base CX (k + 1) f (PySem.W.fnOf name qual params body scope dV kV doc pm an cdv ct) ps sp := by
  refine ⟨len, fun A outer s H args us vs Q E hr e0 hb r hsp => ?_⟩
  have hl := len _ _ _ _ hsp
  have KX : K.In s.heap := e0.mod.kin.keeps fun b o e => (e0.bs b o e).1
  have lim : s.heap.NoLimit := e0.mod.nolimit.keeps fun b o e => (e0.bs b o e).1
  have hkind : ∀ y ∈ ps.zip us, scope.names.lookup y.1 = some .local ∨ (scope.names.lookup y.1 = some .cell ∧ ((cellsFrom (s.heap.objs.size + 1) scope.names []).lookup y.1).isSome = true) := fun ⟨n, v⟩ hy => by
    rcases S.par n (List.of_mem_zip hy).1 with q | q
    · exact .inl q
    · exact .inr ⟨q, PySem.W.cellsFrom_some _ _ _ (.inl q)⟩
  refine codeAny_call_function hr.depth (KX _ _ lk) rfl S.co S.gen rfl (PySem.W.codeRec_of KX hcd) (hb _ _ _ _ ?_)
  refine wpAny_newFunctionEnv_cells S.kind hkind fun env he s1 x => ?_
  subst he
  refine ⟨lim.keeps x.toInCall.keep, codeAny_func ?_⟩
  obtain ⟨t, ht, hq⟩ := hbody A outer s H vs Q E (hr.deeper _) hsp
  have I : Inv (cxOf CX P w K mg base N qual scope f cdv A outer s H E) [] (start N vs) H s1 := inv_start S hr.hd e0 hl r x
  refine wpAny_mono (ht [] s1 (start N vs) H _ I hq) (fun fl s' hs => ?_) fun e s' hs => hs
  have fin : ∀ {σ' : St} {H' : Hp} {v : V} {u : Value}, Inv (cxOf CX P w K mg base N qual scope f cdv A outer s H E) [] σ' H' s' → RelV v u → Q v H' → CE outer P w H s Q u s' :=
    fun {σ' H' v u} J rv q => ⟨v, H', J.os, J.bare, J.base, J.hok, rv, q⟩
  cases fl with
  | ret u =>
    obtain ⟨v, σ', H', J, rv, q⟩ := hs
    exact fin J rv q
  | next =>
    obtain ⟨σ', H', J, q⟩ := hs
    exact fin (v := V.non) (u := Value.none) J rfl q
  | brk =>
    obtain ⟨_, _, _, q⟩ := hs
    exact False.elim q
  | cont =>
    obtain ⟨_, _, _, q⟩ := hs
    exact False.elim q
end L2

namespace L2
open PySem PySem.Spec PyProof.Rows
section
variable {X : Cx} {x : Str} {p pos : Pos} {e : Expr} {es : List Expr} {t : TA} {id T : String} {r : List V → Hp → VK → Prop}

def tCB (r : List V → Hp → VK → Prop) (t : TA) : TE := fun σ H Q => t σ H fun vs H1 => r vs H1 Q
/-- f(e, ..), f a built-in function -/
theorem pe_callB (hc : CallR X (.builtin id) r) (hg : Gl X x) (hm : X.mg x = none) (hv : bootBuiltins x = some (.builtin id)) (ha : PA X (e :: es) t) (hn : x ≠ "__name__" := by decide) (hdb : (x == ("__debug__" : Str)) = false := by decide)
    (he : starEach (e :: es) X.env = (false, eval e X.env) :: starEach es X.env := by rfl) (hpl : (backTo pos (starEach es X.env)).any (·.1) = false := by rfl) : PE X (.Call (.Name x p) (e :: es) [] pos) (tCB r t) := by
  intro pins s σ H Q I h
  refine wpAny_Call_Name_kw (ld_blt I hg hm hv ?_ hn hdb)
  exact PyProof.Rows.callWith_builtin1 (thn (ha pos pins s σ H _ I h) fun us s1 ⟨vs, H1, I1, r1, q1⟩ => hc pins s1 σ H1 vs us Q I1 r1 q1) he hpl
/-- T(e, ..), T a built-in type -/
theorem pe_callTy (hc : CallR X (.type T) r) (hg : Gl X x) (hm : X.mg x = none) (hv : bootBuiltins x = some (.type T)) (ha : PA X (e :: es) t) (hn : x ≠ "__name__" := by decide) (hdb : (x == ("__debug__" : Str)) = false := by decide)
    (he : starEach (e :: es) X.env = (false, eval e X.env) :: starEach es X.env := by rfl) (hpl : (backTo pos (starEach es X.env)).any (·.1) = false := by rfl) : PE X (.Call (.Name x p) (e :: es) [] pos) (tCB r t) := by
  intro pins s σ H Q I h
  refine wpAny_Call_Name_kw (ld_blt I hg hm hv ?_ hn hdb)
  exact PyProof.Rows.callWith_type1 (thn (ha pos pins s σ H _ I h) fun us s1 ⟨vs, H1, I1, r1, q1⟩ => hc pins s1 σ H1 vs us Q I1 r1 q1) he hpl
end
end L2

namespace HT
open PySem PyProof.Rows

section
open PySem.SeqAt
open PySem.AutoSeq1 (wpAny_loadPart')
open PySem.MeetsSeq PySem.MeetsSeq2 PySem.MeetsSeq3

end

section
variable {prog : Program} {w : World} {A : Around} {E : Value → Shared → Prop} {s : Shared}

/-! ### t[a:b], not the whole -/
/-- a slice's bound as a place among n (d where it is left out) -/
def sIx (n d : Nat) : Option Int → Nat
  | none => d
  | some v => if v < 0 then (v + (n : Int)).toNat else min v.toNat n
theorem sIx_none (n d : Nat) : sIx n d none = d := rfl
theorem sIx_nat (n d k : Nat) : sIx n d (some (k : Int)) = min k n := by
  show (if (k : Int) < 0 then ((k : Int) + (n : Int)).toNat else min (k : Int).toNat n) = min k n
  rw [if_neg (by omega), Int.toNat_natCast]
end
end HT

namespace L2
open PySem PySem.Spec PyProof.Rows

/-! ### the parts of a slice -/
abbrev TO := St → Hp → (Option Int → Hp → Prop) → Prop
/-- a slice's part (left out, or an int) -/
def PO (X : Cx) (e : Option Expr) (t : TO) : Prop :=
  ∀ (pins : List (Addr × Obj)) (s : Shared) (σ : St) (H : Hp) (Q : Option Int → Hp → Prop), Inv X pins σ H s → t σ H Q →
    wpAny (model X.prog X.w) X.A (evalPart e X.env) (fun u s' => ∃ o H', Inv X pins σ H' s' ∧ IsPart u o ∧ Q o H') X.xe s
def tNoPart : TO := fun _ H Q => Q none H
def tPart (t : TE) : TO := fun σ H Q => t σ H fun x H1 => ∃ i, x = .int i ∧ Q (some i) H1

theorem intsAre_of {ns : List Int} : ∀ {us : List Value}, Vals (ns.map V.int) us → IntsAre us ns := by
  induction ns with
  | nil => intro us r; rw [List.map_nil] at r; cases r; exact .nil
  | cons n ns ih =>
    intro us r
    rw [List.map_cons] at r
    cases r with
    | cons r1 r2 =>
      obtain ⟨t, e⟩ := r1
      subst e
      exact .cons n t (ih r2)

section
variable {X : Cx} {e : Expr} {te : TE} {lo hi : Option Expr} {tl th : TO} {pos p2 : Pos}

theorem po_none : PO X none tNoPart := by
  intro pins s σ H Q I h
  rw [evalPart_none]
  exact wpAny_pure ⟨none, H, I, .none, h⟩
theorem po_some (h : PE X e te) : PO X (some e) (tPart te) := by
  intro pins s σ H Q I hw
  rw [evalPart_some]
  refine thn (h pins s σ H _ I hw) fun u s1 ⟨x, H1, I1, r1, q1⟩ => ?_
  obtain ⟨i, rfl, q⟩ := q1
  obtain ⟨t, rfl⟩ := r1
  exact ⟨some i, H1, I1, .int i t, q⟩

/-- what a slice of a value is, by values: the slice object stands at sl -/
def SlR (X : Cx) (r : V → Option Int → Option Int → Hp → VK → Prop) : Prop :=
  ∀ (pins : List (Addr × Obj)) (s : Shared) (σ : St) (H : Hp) (x : V) (v vl vu : Value) (lo hi : Option Int) (sl : Addr) (Q : VK), Inv X pins σ H s → RelV x v → s.heap.IsSliceOf sl vl vu .none → IsPart vl lo → IsPart vu hi → r x lo hi H Q →
    ∃ T id, typeLookup (.type T) "__getitem__" = pure (some (.builtin id)) ∧ s.TypeIs v T ∧ wpAny (model X.prog X.w) X.A (getItem v (.ref sl)) (EP X pins σ Q) X.xe s
theorem SlR.or {r r' : V → Option Int → Option Int → Hp → VK → Prop} (h : SlR X r) (h' : SlR X r') : SlR X (fun x lo hi H Q => r x lo hi H Q ∨ r' x lo hi H Q) := by
  intro pins s σ H x v vl vu lo hi sl Q I rx hs pl pu q
  rcases q with q | q
  · exact h pins s σ H x v vl vu lo hi sl Q I rx hs pl pu q
  · exact h' pins s σ H x v vl vu lo hi sl Q I rx hs pl pu q
def tSl (r : V → Option Int → Option Int → Hp → VK → Prop) (te : TE) (tl th : TO) : TE := fun σ H Q => te σ H fun x H1 => tl σ H1 fun l H2 => th σ H2 fun u H3 => r x l u H3 Q
/-- a[lo:hi], any a -/
theorem pe_slice {r : V → Option Int → Option Int → Hp → VK → Prop} (hr : SlR X r) (he : PE X e te) (hl : PO X lo tl) (hu : PO X hi th) : PE X (.Subscript e (.Slice lo hi none p2) pos) (tSl r te tl th) := by
  intro pins s σ H Q I h
  refine Subscript_ (thn (he pins s σ H _ I h) fun v s1 ⟨x, H1, I1, r1, q1⟩ => ?_)
  refine wpAny_Slice (thn (hl pins s1 σ H1 _ I1 q1) fun vl s2 ⟨l, H2, I2, pl, q2⟩ => thn (hu pins s2 σ H2 _ I2 q2) fun vu s3 ⟨u, H3, I3, pu, q3⟩ => ?_)
  rw [evalPart_none]
  refine wpAny_pure ?_
  have I4 : Inv X pins σ H3 { s3 with heap := s3.heap.push { cls := .type "slice", data := .fields #[vl, vu, .none] } } := I3.kept (t' := s3.toks) fun b ob q => Heap.get?_push_of_some _ q
  obtain ⟨T, id, hT, ht, hg⟩ := hr pins { s3 with heap := s3.heap.push { cls := .type "slice", data := .fields #[vl, vu, .none] } } σ H3 x v vl vu l u s3.heap.objs.size Q I4 r1 (Heap.IsSliceOf.new ..) pl pu q3
  show wpAny (model X.prog X.w) X.A (subscriptTail e (.Slice lo hi none p2) v (.ref s3.heap.objs.size)) (EP X pins σ Q) X.xe { s3 with heap := s3.heap.push { cls := .type "slice", data := .fields #[vl, vu, .none] } }
  exact tail_any (ops := [.ref s3.heap.objs.size, v]) ht hT hg (by with_unfolding_all rfl)

/-- the items of xs[lo:hi] -/
def cutV (xs : List V) (lo hi : Option Int) : List V := (xs.drop (HT.sIx xs.length 0 lo)).take (HT.sIx xs.length xs.length hi - HT.sIx xs.length 0 lo)
theorem cutV_length (xs : List V) (lo hi : Option Int) : (cutV xs lo hi).length ≤ xs.length := by
  unfold cutV
  rw [List.length_take, List.length_drop]
  omega
/-! ### t < u, t + u -/
end
end L2

namespace L2
open PySem PySem.Spec PyProof.Rows

/-! ### places -/
/-- the place that an index of any sign means -/
def ixN (n : Nat) (i : Int) : Option Nat := if 0 ≤ i then (if i < n then some i.toNat else none) else if -(n : Int) ≤ i then some (i + n).toNat else none
def atI {α : Type} (xs : List α) (i : Int) : Option α := (ixN xs.length i).bind fun j => xs[j]?
theorem ixN_seq {n : Nat} {i : Int} {j : Nat} (h : ixN n i = some j) : seqIndex? i n = some j ∧ j < n ∧ -(n : Int) ≤ i ∧ i < n := by
  unfold ixN at h
  by_cases h0 : 0 ≤ i
  · rw [if_pos h0] at h
    by_cases h1 : i < n
    · rw [if_pos h1] at h
      have e : i.toNat = j := Option.some.inj h
      exact ⟨by rw [seqIndex_of h0 h1, e], by omega, by omega, h1⟩
    · rw [if_neg h1] at h; cases h
  · rw [if_neg h0] at h
    by_cases h1 : -(n : Int) ≤ i
    · rw [if_pos h1] at h
      have e : (i + n).toNat = j := Option.some.inj h
      exact ⟨by rw [seqIndex_neg (by omega) h1, e], by omega, h1, by omega⟩
    · rw [if_neg h1] at h; cases h
theorem atI_get {α : Type} {xs : List α} {i : Int} {v : α} (h : atI xs i = some v) : ∃ j, seqIndex? i xs.length = some j ∧ xs[j]? = some v ∧ j < xs.length ∧ -(xs.length : Int) ≤ i ∧ i < xs.length := by
  unfold atI at h
  cases e : ixN xs.length i with
  | none => rw [e] at h; cases h
  | some j =>
    rw [e] at h
    obtain ⟨h1, h2, h3, h4⟩ := ixN_seq e
    exact ⟨j, h1, h, h2, h3, h4⟩
theorem atI_nat {α : Type} {xs : List α} {j : Nat} {v : α} (h : xs[j]? = some v) : atI xs (j : Int) = some v := by
  have hj : j < xs.length := (List.getElem?_eq_some_iff.mp h).1
  have e : ixN xs.length (j : Int) = some j := by
    unfold ixN
    rw [if_pos (by omega), if_pos (by omega)]; simp
  unfold atI; rw [e]; exact h
/-! ### what may be subscripted -/
/-- what stands as an index of a plain subscript -/
def PlainIx (b : Expr) : Prop := ∀ o i, subscripted b false o i = operate [o, i] (getItem o i)
/-- a subscript by values -/
def IxR (X : Cx) (r : R2) : Prop :=
  ∀ (value slice : Expr) (pins : List (Addr × Obj)) (s : Shared) (σ : St) (H : Hp) (x y : V) (v u : Value) (Q : VK), Inv X pins σ H s → RelV x v → RelV y u → r x y H Q →
    subscripted slice false v u = operate [v, u] (getItem v u) → wpAny (model X.prog X.w) X.A (subscriptTail value slice v u) (EP X pins σ Q) X.xe s
/-- a call of a builtin's method by values: the receiver, the arguments -/
def MtR (X : Cx) (id : String) (r : V → List V → Hp → VK → Prop) : Prop :=
  ∀ (pins : List (Addr × Obj)) (s : Shared) (σ : St) (H : Hp) (x : V) (xs : List V) (v : Value) (us : List Value) (Q : VK), Inv X pins σ H s → RelV x v → Vals xs us → r x xs H Q →
    wpAny (model X.prog X.w) X.A (call (.builtin id) (v :: us)) (EP X pins σ Q) X.xe s
section
variable {X : Cx} {a b : Expr} {ta tb : TE} {pos : Pos}
theorem IxR.or {r r' : R2} (h : IxR X r) (h' : IxR X r') : IxR X (fun x y H Q => r x y H Q ∨ r' x y H Q) := by
  intro value slice pins s σ H x y v u Q I rx ry q hs
  rcases q with q | q
  · exact h value slice pins s σ H x y v u Q I rx ry q hs
  · exact h' value slice pins s σ H x y v u Q I rx ry q hs
theorem MtR.or {id : String} {r r' : V → List V → Hp → VK → Prop} (h : MtR X id r) (h' : MtR X id r') : MtR X id (fun x xs H Q => r x xs H Q ∨ r' x xs H Q) := by
  intro pins s σ H x xs v us Q I rx rs q
  rcases q with q | q
  · exact h pins s σ H x xs v us Q I rx rs q
  · exact h' pins s σ H x xs v us Q I rx rs q
/-- a[b] -/
theorem pe_ix {r : R2} (hr : IxR X r) (ha : PE X a ta) (hb : PE X b tb) (hs : PlainIx b) : PE X (.Subscript a b pos) (tOp r ta tb) := by
  intro pins s σ H Q I h
  exact Subscript_ (binT ha hb I h fun v u s2 x y H2 I2 rx ry q => hr a b pins s2 σ H2 x y v u Q I2 rx ry q (hs _ _))

def rIxL (K : PySem.W.Frag) : R2 := fun x y H Q => ∃ p xs i v, x = .ref p ∧ y = .int i ∧ SqL K H p xs ∧ atI xs i = some v ∧ Q v H
def rIxT (K : PySem.W.Frag) : R2 := fun x y H Q => ∃ p xs i v, x = .ref p ∧ y = .int i ∧ SqT K H p xs ∧ atI xs i = some v ∧ Q v H
theorem ix_list : IxR X (rIxL X.K) := by
  intro value slice pins s σ H x y v u Q I rx ry h hs
  obtain ⟨p, xs, i, z, rfl, rfl, hq, he, q⟩ := h
  cases rx
  obtain ⟨t, rfl⟩ := ry
  obtain ⟨its, r, pl, hz⟩ := I.list hq
  obtain ⟨j, h1, h2, h3, h4, h5⟩ := atI_get he
  obtain ⟨w, ew, rw'⟩ := r.get h2
  have hl := r.length
  have hn := line63
  have fin : EP X pins σ Q w s := ⟨z, H, I, rw', q⟩
  by_cases h0 : 0 ≤ i
  · have hj : i.toNat = j := by
      rw [seqIndex_of h0 h5] at h1
      exact Option.some.inj h1
    exact item_listR pl.isList h0 (by omega) (by rw [hj]; simpa using ew) fin hs
  · have hj : (i + (its.toArray.size : Int)).toNat = j := by
      rw [seqIndex_neg (by omega) h4] at h1
      rw [List.size_toArray, ← hl]
      exact Option.some.inj h1
    exact subscriptTail_builtinR (x := w) pl.isList.typeIs slot_list_getitem.lookup
      (wpAny_getItem_list_neg (Q := fun r s' => r = w ∧ EP X pins σ Q r s') pl.isList (by omega) (by rw [List.size_toArray] <;> omega) (by omega) (by rw [hj]; simpa using ew) ⟨rfl, fin⟩) hs
theorem ix_tup : IxR X (rIxT X.K) := by
  intro value slice pins s σ H x y v u Q I rx ry h hs
  obtain ⟨p, xs, i, z, rfl, rfl, hq, he, q⟩ := h
  cases rx
  obtain ⟨t, rfl⟩ := ry
  obtain ⟨its, r, pl, hz⟩ := I.tuple hq
  obtain ⟨j, h1, h2, h3, h4, h5⟩ := atI_get he
  obtain ⟨w, ew, rw'⟩ := r.get h2
  have hl := r.length
  have hn := line63
  have fin : EP X pins σ Q w s := ⟨z, H, I, rw', q⟩
  exact subscriptTail_builtinR (x := w) pl.typeIs slot_tuple_getitem.lookup
    (getItem_tuple (j := j) (Q := fun r s' => r = w ∧ EP X pins σ Q r s') pl (by omega) (by omega) (by rw [List.size_toArray, ← hl]; exact h1) (by simpa using ew) ⟨rfl, fin⟩) hs
/-! ### xs[i] = v, any sign -/
/-- the list's object behind a store -/
theorem mapSeq_set (its : List Value) (n j : Nat) (u : Value) : Obj.mapSeq (·.setIfInBounds j u) { cls := .type "list", data := .seq its.toArray n } = { cls := .type "list", data := .seq (its.set j u).toArray n } := by
  simp [Obj.mapSeq]
theorem Inv.lst {pins : List (Addr × Obj)} {σ : St} {H : Hp} {s : Shared} {p : Addr} {xs : List V} (I : Inv X pins σ H s) (h : H p = some (.lst xs)) :
    ∃ (its : List Value) (n : Nat), Vals xs its ∧ s.heap.get? p = some { cls := .type "list", data := .seq its.toArray n } ∧ xs.length ≤ sizeLine := by
  obtain ⟨z, its, n, r, e⟩ := I.hok p _ h
  exact ⟨its, n, r, e, z⟩
/-- the list at p is written by an update of its object -/
theorem Inv.lstUpd {pins : List (Addr × Obj)} {σ : St} {H : Hp} {s : Shared} {p : Addr} {xs ys : List V} {its its' : List Value} {n n' : Nat} {f : Obj → Obj} (I : Inv X pins σ H s) (h : H p = some (.lst xs))
    (ho : s.heap.get? p = some { cls := .type "list", data := .seq its.toArray n }) (hf : f { cls := .type "list", data := .seq its.toArray n } = { cls := .type "list", data := .seq its'.toArray n' }) (r : Vals ys its') (hz : ys.length ≤ sizeLine) (t : Nat) :
    Inv X pins σ (upd H p (.lst ys)) { s with heap := s.heap.update p f, toks := t } := by
  have e : (s.heap.update p f).get? p = some { cls := .type "list", data := .seq its'.toArray n' } := by
    rw [Heap.get?_update_self f ho (by rw [hf] <;> rfl), hf]
  refine I.write (x := p) (e := p) (by rw [h]; trivial) (.inl rfl) (fun b u hb q => (Heap.get?_update_other _ _ (Ne.symm hb)).trans q) ⟨_, e⟩ ?_
  exact ⟨hz, its', n', r, e⟩
def rSetL : V → V → V → Hp → (Hp → Prop) → Prop := fun o i v H Q => ∃ p xs k j, o = .ref p ∧ i = .int k ∧ H p = some (.lst xs) ∧ ixN xs.length k = some j ∧ Q (upd H p (.lst (xs.set j v)))
theorem set_list : PSet X rSetL := by
  intro pins s σ H o i v ov iv u Q I ro ri rv h
  obtain ⟨p, xs, k, j, rfl, rfl, hp, hj, q⟩ := h
  cases ro
  obtain ⟨t, rfl⟩ := ri
  obtain ⟨its, n, r, ho, hz⟩ := I.lst hp
  obtain ⟨h1, h2, h3, h4⟩ := ixN_seq hj
  have hl := r.length
  have hn := line63
  have I' : Inv X pins σ (upd H p (.lst (xs.set j v))) { s with heap := s.heap.update p (Obj.mapSeq (·.setIfInBounds j u)) } :=
    I.lstUpd hp ho (mapSeq_set its n j u) (r.set rv j) (by rw [List.length_set]; exact hz) s.toks
  by_cases h0 : 0 ≤ k
  · have hk : k.toNat = j := by
      rw [seqIndex_of h0 h4] at h1
      exact Option.some.inj h1
    exact PySem.W.ki_setAt ho h0 (by omega) (by rw [List.size_toArray, ← hl]; exact h4) (by rw [hk]; exact ⟨_, I', q⟩)
  · have hk : (k + (its.toArray.size : Int)).toNat = j := by
      rw [seqIndex_neg (by omega) h3] at h1
      rw [List.size_toArray, ← hl]
      exact Option.some.inj h1
    exact PySem.W.ki_setBack ho (by omega) (by rw [List.size_toArray, ← hl]; exact h3) (by omega) (by rw [hk]; exact ⟨_, I', q⟩)

/-! ### slices -/
theorem slice_bounds (lo hi : Option Int) (n : Nat) : (sliceBounds lo hi none n).1 = ((HT.sIx n 0 lo : Nat) : Int) ∧ (sliceBounds lo hi none n).2.1 = ((HT.sIx n n hi : Nat) : Int) ∧ (sliceBounds lo hi none n).2.2 = 1 := by
  refine ⟨?_, ?_, rfl⟩
  · cases lo with
    | none => simp [sliceBounds, HT.sIx]
    | some i =>
      simp only [sliceBounds, HT.sIx, Option.getD_none, show (1 : Int) > 0 by decide, if_true]
      by_cases h : i < 0
      · simp only [h, if_true] <;> omega
      · simp only [h, if_false] <;> omega
  · cases hi with
    | none => simp [sliceBounds, HT.sIx]
    | some i =>
      simp only [sliceBounds, HT.sIx, Option.getD_none, show (1 : Int) > 0 by decide, if_true]
      by_cases h : i < 0
      · simp only [h, if_true] <;> omega
      · simp only [h, if_false] <;> omega
theorem slicePick_cut (its : List Value) (lo hi : Option Int) : slicePick its.toArray lo hi none = ((its.drop (HT.sIx its.length 0 lo)).take (HT.sIx its.length its.length hi - HT.sIx its.length 0 lo)).toArray := by
  obtain ⟨h1, h2, h3⟩ := slice_bounds lo hi its.toArray.size
  unfold slicePick
  rw [h1, h2, h3]
  simp only [sliceRange_one, pick_run, List.size_toArray] <;> rfl
/-- xs[lo:hi] of a list: a new list -/
def rSlL (K : PySem.W.Frag) : V → Option Int → Option Int → Hp → VK → Prop := fun x lo hi H Q => ∃ a xs, x = .ref a ∧ SqL K H a xs ∧ ∀ p, H p = none → Q (.ref p) (upd H p (.lst (cutV xs lo hi)))
theorem sl_list : SlR X (rSlL X.K) := by
  intro pins s σ H x v vl vu lo hi sl Q I rx hs pl pu h
  obtain ⟨a, xs, rfl, hx, q⟩ := h
  cases rx
  obtain ⟨its, r, ht, hz⟩ := I.list hx
  have hlen := r.length
  refine ⟨"list", _, slot_list_getitem.lookup, ht.isList.typeIs, ?_⟩
  refine wpAny_getItem_list_slice ht.isList hs pl pu .none (by simp) ?_ (by rw [List.size_toArray] <;> omega)
  rw [slicePick_cut, ← hlen]
  refine ⟨.ref s.heap.objs.size, _, I.laid (t' := s.toks) (o := .lst (cutV xs lo hi)) (fun b ob q => Heap.get?_push_of_some _ q) (Nat.le_refl _) ?_, rfl, q _ (I.hok.fresh (Nat.le_refl _))⟩
  exact ⟨Nat.le_trans (cutV_length xs lo hi) hz, _, 0, (r.drop (HT.sIx xs.length 0 lo)).take (HT.sIx xs.length xs.length hi - HT.sIx xs.length 0 lo), Heap.get?_push_size _ rfl⟩

/-! ### in, not in: flat items -/
/-! ### len, list(x), tuple(x) of any list or tuple that is read -/
theorem call_len_seq : CallR X (.builtin "len") (fun xs H Q => ∃ p ys, xs = [.ref p] ∧ (SqL X.K H p ys ∨ SqT X.K H p ys) ∧ Q (.int ys.length) H) := by
  intro pins s σ H xs us Q I r h
  obtain ⟨p, ys, rfl, hq, q⟩ := h
  obtain ⟨u, rfl, rx⟩ := vals1 r
  cases rx
  have hn := line63
  rcases hq with hq | hq
  · obtain ⟨its, r', pl, hz⟩ := I.list hq
    have hlen := r'.length
    exact Calls.call_len_list pl.isList (by simp only [List.size_toArray] <;> omega) ⟨.int ys.length, H, I.tok _, ⟨s.toks + 1, by rw [List.size_toArray, hlen]⟩, q⟩
  · obtain ⟨its, r', pl, hz⟩ := I.tuple hq
    have hlen := r'.length
    exact len_tuple pl (by simp only [List.size_toArray] <;> omega) ⟨.int ys.length, H, I.tok _, ⟨s.toks + 1, by rw [List.size_toArray, hlen]⟩, q⟩
theorem CallR.or {f : Value} {r r' : List V → Hp → VK → Prop} (h : CallR X f r) (h' : CallR X f r') : CallR X f (fun xs H Q => r xs H Q ∨ r' xs H Q) := by
  intro pins s σ H xs us Q I rs q
  rcases q with q | q
  · exact h pins s σ H xs us Q I rs q
  · exact h' pins s σ H xs us Q I rs q
theorem call_list_of : CallR X (.type "list") (fun xs H Q => ∃ p ys, xs = [.ref p] ∧ (SqL X.K H p ys ∨ SqT X.K H p ys) ∧ ∀ l, H l = none → Q (.ref l) (upd H l (.lst ys))) := by
  intro pins s σ H xs us Q I r h
  obtain ⟨p, ys, rfl, hq, q⟩ := h
  obtain ⟨u, rfl, rx⟩ := vals1 r
  cases rx
  have fin : ∀ (its : List Value), Vals ys its → ys.length ≤ sizeLine → ∀ (h' : Heap) (c' : Nat), (∀ b o', s.heap.get? b = some o' → h'.get? b = some o') →
      h'.get? s.heap.objs.size = some { cls := .type "list", dict := none, data := .seq its.toArray c', slots := #[] } → EP X pins σ Q (.ref s.heap.objs.size) { s with heap := h' } := fun its r' hz h' c' kp e =>
    ⟨.ref s.heap.objs.size, _, I.laid (t' := s.toks) kp (Nat.le_refl _) (show ObjOk X.prog X.w _ h' _ (.lst ys) from ⟨hz, its, c', r', e⟩), rfl, q _ (I.hok.fresh (Nat.le_refl _))⟩
  rcases hq with hq | hq
  · obtain ⟨its, r', pl, hz⟩ := I.list hq
    have hlen := r'.length
    obtain ⟨o, ho, hc, n, hd⟩ := pl.isList
    exact call_list_seq p (.inl rfl) ho hc hd (fun h' c' kp e => fin its r' hz h' c' kp e) (by simp only [List.size_toArray] <;> omega)
  · obtain ⟨its, r', pl, hz⟩ := I.tuple hq
    have hlen := r'.length
    obtain ⟨o, ho, hc, n, hd⟩ := pl
    exact call_list_seq p (.inr rfl) ho hc hd (fun h' c' kp e => fin its r' hz h' c' kp e) (by simp only [List.size_toArray] <;> omega)
/-! ### the call of a builtin's method: o.m(..) -/
/-- the value is of that builtin type -/
def tyV (K : PySem.W.Frag) (T : String) (x : V) (H : Hp) : Prop := match x with
  | .str _ => T = "str"
  | .int _ => T = "int"
  | .ref p => (T = "list" ∧ ∃ xs, SqL K H p xs) ∨ (T = "tuple" ∧ ∃ o, K.lookup p = some o ∧ o.cls = .type "tuple" ∧ o.dict = none) ∨
      (T = "dict" ∧ ((∃ kvs, H p = some (.dK kvs)) ∨ ∃ kvs, H p = some (.dT kvs))) ∨ (T = "set" ∧ ∃ S n, H p = some (.set S n))
  | _ => False
theorem tyV_is {pins : List (Addr × Obj)} {σ : St} {H : Hp} {s : Shared} {T : String} {x : V} {v : Value} (I : Inv X pins σ H s) (r : RelV x v) (ty : tyV X.K T x H) :
    s.TypeIs v T ∧ ∀ a, v = .ref a → ∃ ob, s.heap.get? a = some ob ∧ ob.dict = none := by
  cases x with
  | str z =>
    obtain ⟨t, rfl⟩ := r
    cases (show T = "str" from ty)
    exact ⟨typeIs_str s z t, fun _ e => nomatch e⟩
  | int i =>
    obtain ⟨t, rfl⟩ := r
    cases (show T = "int" from ty)
    exact ⟨typeIs_int s i t, fun _ e => nomatch e⟩
  | ref p =>
    cases r
    rcases ty with ⟨rfl, xs, hq⟩ | ⟨rfl, o, hk, hc, hd⟩ | ⟨rfl, hk⟩ | ⟨rfl, S, n, hk⟩
    · obtain ⟨its, _, pl, _⟩ := I.list hq
      refine ⟨pl.isList.typeIs, fun a e => ?_⟩
      cases e
      obtain ⟨o, n, e, c, hd, _⟩ := pl
      exact ⟨o, e, hd⟩
    · refine ⟨⟨o, I.kIn p o hk, hc⟩, fun a e => ?_⟩
      cases e
      exact ⟨o, I.kIn _ o hk, hd⟩
    · have z : ∃ o, s.heap.get? p = some o ∧ o.ExactDict := by
        rcases hk with ⟨kvs, hk⟩ | ⟨kvs, hk⟩
        · obtain ⟨_, _, _, _, o, _, _, e, ex, _⟩ := I.hok p _ hk
          exact ⟨o, e, ex⟩
        · obtain ⟨_, _, _, _, o, _, _, e, ex, _⟩ := I.hok p _ hk
          exact ⟨o, e, ex⟩
      obtain ⟨o, e, ex⟩ := z
      refine ⟨⟨o, e, ex.1⟩, fun a e2 => ?_⟩
      cases e2
      exact ⟨o, e, ex.2.1⟩
    · obtain ⟨o, _, _, _, e, ex, _⟩ := I.hok p _ hk
      refine ⟨⟨o, e, ex.1⟩, fun a e2 => ?_⟩
      cases e2
      exact ⟨o, e, ex.2.1⟩
  | _ => exact False.elim ty
def tBM (K : PySem.W.Frag) (T : String) (r : V → List V → Hp → VK → Prop) (to : TE) (t : TA) : TE := fun σ H Q => to σ H fun x H1 => tyV K T x H1 ∧ t σ H1 fun xs H2 => r x xs H2 Q
variable {o e : Expr} {es : List Expr} {to : TE} {t : TA} {name : Str} {apos cpos : Pos} {T id : String} {r : V → List V → Hp → VK → Prop}
theorem pe_bm (pa : PlainAttrs T) (slot : Slot T name id) (hty : typeOf (.builtin id) = pure (.type "method_descriptor")) (hm : MtR X id r) (ho : PE X o to) (ha : PA X (e :: es) t)
    (hbase : attributeBase o name X.env (eval o X.env) = eval o X.env := by rfl)
    (hfew : ((backTo cpos (starEach (e :: es) X.env)).all (fun x => !x.1) && (backToKw cpos (keywordEach [] X.env)).all (fun x => x.1.isSome)
      && decide ((e :: es).length + ([] : List Keyword).length + (if ([] : List Keyword).isEmpty then 0 else 1) < 30)) = true := by rfl)
    (hline : (apos.endLine == cpos.line) = true := by rfl) (hs : starEach (e :: es) X.env = (false, eval e X.env) :: starEach es X.env := by rfl) (hplain : (backTo cpos (starEach es X.env)).any (·.1) = false := by rfl) :
    PE X (.Call (.Attribute o name apos) (e :: es) [] cpos) (tBM X.K T r to t) := by
  intro pins s σ H Q I h
  refine wpAny_Call_method_late hbase hfew hline rfl (thn (ho pins s σ H _ I h) fun v s1 ⟨x, H1, I1, r1, ty, q1⟩ => ?_)
  obtain ⟨h1, h2⟩ := tyV_is I1 r1 ty
  refine ⟨T, id, pa, slot, hty, h1, h2, ?_⟩
  have hA := ha cpos pins s1 σ H1 _ I1 q1
  rw [hs] at hA ⊢
  refine Calls.callWith_builtin (by show (false || (backTo cpos (starEach es X.env)).any (·.1)) = false; rw [hplain] <;> rfl) (Calls.evalArgs_plain ?_)
  exact thn hA fun us s2 ⟨vs, H2, I2, r2, q2⟩ => hm pins s2 σ H2 x vs v us Q I2 r1 r2 q2
/- xs.append(e), list.index on a module's tuple .. are MtR facts of 06m -/
end
end L2

namespace L2
open PySem PySem.Spec PyProof.Rows

def MtM (X : Cx) (id : String) (r : V → List V → Hp → VK → Prop) : Prop :=
  ∀ (pins : List (Addr × Obj)) (s : Shared) (σ : St) (H : Hp) (x : V) (xs : List V) (v : Value) (us : List Value) (Q : VK), Inv X pins σ H s → RelV x v → Vals xs us → r x xs H Q →
    wpAny (model X.prog X.w) X.A (call (.builtin id) (v :: us)) (EP X pins σ Q) X.xe s

/-! ### lists of values -/
theorem Vals.one : ∀ {x : V} {us : List Value}, Vals [x] us → ∃ u, us = [u] ∧ RelV x u
  | _, _, .cons r .nil => ⟨_, rfl, r⟩
theorem Vals.two : ∀ {x y : V} {us : List Value}, Vals [x, y] us → ∃ u v, us = [u, v] ∧ RelV x u ∧ RelV y v
  | _, _, _, .cons r (.cons q .nil) => ⟨_, _, rfl, r, q⟩
theorem Vals.zero : ∀ {us : List Value}, Vals [] us → us = []
  | _, .nil => rfl
theorem Vals.reverse {xs : List V} {us : List Value} (h : Vals xs us) : Vals xs.reverse us.reverse := by
  induction h with
  | nil => exact .nil
  | cons r t ih => rw [List.reverse_cons, List.reverse_cons]; exact Vals.append ih (.cons r .nil)
theorem Vals.rep {xs : List V} {us : List Value} (h : Vals xs us) : ∀ k : Nat, Vals (List.replicate k xs).flatten (List.replicate k us).flatten
  | 0 => .nil
  | k + 1 => by
    rw [List.replicate_succ, List.replicate_succ, List.flatten_cons, List.flatten_cons]
    exact Vals.append h (Vals.rep h k)
theorem foldl_rep (its : List Value) : ∀ (k : Nat) (acc : List Value),
    List.foldl (fun x1 x2 => x1 ++ x2) acc.toArray (List.replicate k its.toArray) = (acc ++ (List.replicate k its).flatten).toArray
  | 0, acc => by simp
  | k + 1, acc => by
    have e : acc.toArray ++ its.toArray = (acc ++ its).toArray := by simp
    have e2 : (acc ++ its) ++ (List.replicate k its).flatten = acc ++ (List.replicate (k + 1) its).flatten := by
      rw [List.replicate_succ, List.flatten_cons, List.append_assoc]
    rw [← e2, ← foldl_rep its k (acc ++ its), ← e, List.replicate_succ, List.foldl_cons]

section
variable {X : Cx} {pins : List (Addr × Obj)} {σ : St} {H : Hp} {s : Shared} {l b : Addr} {xs ys zs : List V}

/-! ### the two steps: a tracked list is rewritten, a new list is laid -/
theorem Inv.lset {its its' : List Value} {n : Nat} {f : Array Value → Array Value} {t' : Nat} (I : Inv X pins σ H s) (hH : H l = some (.lst xs))
    (e : s.heap.get? l = some { cls := .type "list", data := .seq its.toArray n }) (hf : f its.toArray = its'.toArray) (hv : Vals ys its') (hz : ys.length ≤ sizeLine) :
    Inv X pins σ (upd H l (.lst ys)) { s with heap := s.heap.update l (Obj.mapSeq f), toks := t' } := by
  have q := PySem.IsL.update e f
  rw [hf] at q
  refine I.write (x := l) (e := l) (by rw [hH]; exact trivial) (.inl rfl) (fun b' u hb hu => (Heap.get?_update_other s.heap (Obj.mapSeq f) (Ne.symm hb)).trans hu) ⟨_, q⟩ ?_
  exact ⟨hz, its', _, hv, q⟩
theorem Inv.lnew {its : List Value} {t' : Nat} (I : Inv X pins σ H s) (hv : Vals ys its) (hz : ys.length ≤ sizeLine) :
    Inv X pins σ (upd H s.heap.objs.size (.lst ys)) { s with heap := s.heap.push { cls := .type "list", data := .seq its.toArray }, toks := t' } :=
  I.laid (fun _ _ q => Heap.get?_push_of_some _ q) (Nat.le_refl _) ⟨hz, its, 0, hv, Heap.get?_push_size _ rfl⟩
theorem Inv.fresh (I : Inv X pins σ H s) : H s.heap.objs.size = none := I.hok.fresh (Nat.le_refl _)
theorem Inv.lstM (I : Inv X pins σ H s) (hH : H l = some (.lst xs)) : xs.length ≤ sizeLine ∧ ∃ (its : List Value) (n : Nat), Vals xs its ∧ xs.length = its.length ∧ s.heap.get? l = some { cls := .type "list", data := .seq its.toArray n } := by
  obtain ⟨z, its, n, r, e⟩ := I.hok l _ hH
  exact ⟨z, its, n, r, r.length, e⟩

theorem notLongL {n : Nat} (h : n ≤ sizeLine) : Builtin.List.listTooLong n = false := by
  unfold Builtin.List.listTooLong
  exact decide_eq_false (by omega)
end

section
variable {X : Cx}

/-! ### methods -/
def rAppend : V → List V → Hp → VK → Prop := fun x vs H Q => ∃ l xs y, x = .ref l ∧ vs = [y] ∧ H l = some (.lst xs) ∧ xs.length < sizeLine ∧ Q .non (upd H l (.lst (xs ++ [y])))
theorem mt_append : MtM X "list.append" rAppend := by
  intro pins s σ H x vs v us Q I rx rv h
  obtain ⟨l, xs, y, rfl, rfl, hH, hz, q⟩ := h
  cases rx
  obtain ⟨u, rfl, ru⟩ := rv.one
  obtain ⟨z, its, n, r, hl, e⟩ := I.lstM hH
  refine call_meets F.slot_list_append ⟨_, e, rfl⟩ F.entry_list_append (F.args_list_append_2 _ _) (PySem.list_append l its.toArray n u (by rw [List.size_toArray]; omega)) ⟨e, ?_⟩
  refine ⟨.non, _, I.lset (its' := its ++ [u]) hH e (by simp) (r.append (.cons ru .nil)) ?_, rfl, q⟩
  rw [List.length_append, List.length_singleton]
  omega

/-! ### list + list, list += list, list * int -/
def rCat : R2 := fun x y H Q => ∃ l b xs zs, x = .ref l ∧ y = .ref b ∧ H l = some (.lst xs) ∧ H b = some (.lst zs) ∧ xs.length + zs.length ≤ sizeLine ∧ ∀ p, H p = none → Q (.ref p) (upd H p (.lst (xs ++ zs)))
theorem op_cat : OpR X (binaryOp .Add) rCat := by
  intro pins s σ H x y v u Q I rx ry h
  obtain ⟨l, b, xs, zs, rfl, rfl, hH, hB, hz, q⟩ := h
  cases rx
  cases ry
  obtain ⟨z, its, n, r, hl, e⟩ := I.lstM hH
  obtain ⟨z2, its2, n2, r2, hl2, e2⟩ := I.lstM hB
  refine PySem.P.add_list e e2 ?_ (by rw [List.size_toArray, List.size_toArray]; omega)
  have ea : its.toArray ++ its2.toArray = (its ++ its2).toArray := by simp
  rw [ea]
  exact ⟨.ref _, _, I.lnew (t' := s.toks) (r.append r2) (by rw [List.length_append]; omega), rfl, q _ I.fresh⟩
/-- a list times an int (a negative one is nothing) -/
def rRep : R2 := fun x y H Q => ∃ l k xs, x = .ref l ∧ y = .int k ∧ H l = some (.lst xs) ∧ -(2 ^ 63) ≤ k ∧ k < 2 ^ 63 ∧ xs.length * k.toNat ≤ sizeLine ∧
  ∀ p, H p = none → Q (.ref p) (upd H p (.lst (List.replicate k.toNat xs).flatten))
theorem len_rep {α : Type} (xs : List α) (k : Nat) : (List.replicate k xs).flatten.length = k * xs.length := by
  induction k with
  | zero => simp
  | succ k ih => rw [List.replicate_succ, List.flatten_cons, List.length_append, ih, Nat.succ_mul, Nat.add_comm]
theorem op_rep : OpR X (binaryOp .Mult) rRep := by
  intro pins s σ H x y v u Q I rx ry h
  obtain ⟨l, k, xs, rfl, rfl, hH, h1, h2, hz, q⟩ := h
  cases rx
  obtain ⟨t, rfl⟩ := ry
  obtain ⟨z, its, n, r, hl, e⟩ := I.lstM hH
  have hlen : its.toArray.size * k.toNat ≤ sizeLine := by rw [List.size_toArray, ← hl]; exact hz
  have hcap : ¬ its.toArray.size * k.toNat > (2 ^ 63 - 1) / 8 := by
    have : (sizeLine : Nat) ≤ (2 ^ 63 - 1) / 8 := by decide
    omega
  have hfit : ¬ (!Builtin.List.listFitsIndex k) = true := by
    rw [fitsIndex_both h1 h2]
    exact Bool.false_ne_true
  have hlong : ¬ Builtin.List.listTooLong (its.toArray.size * k.toNat) = true := by
    rw [notLongL hlen]
    exact Bool.false_ne_true
  have hnew : List.foldl (fun x1 x2 => x1 ++ x2) #[] (List.replicate (if its.toArray.isEmpty = true then 0 else k.toNat) its.toArray) = (List.replicate k.toNat its).flatten.toArray := by
    have f0 : ∀ m : Nat, List.foldl (fun x1 x2 => x1 ++ x2) #[] (List.replicate m its.toArray) = (List.replicate m its).flatten.toArray := fun m => by
      have := foldl_rep its m []
      rw [List.nil_append] at this
      exact this
    rw [f0]
    cases its with
    | nil => simp
    | cons a r' => rw [if_neg (by simp)]
  refine wpAny_binaryOp_repeat_ref (T := "list") (U := "int") (by decide) ⟨_, e, rfl⟩ (fun s' => typeIs_int s' k t) noFill_list_mul F.fills_int_mul F.slot_int_rmul repeat_list F.slot_int_index.lookup
    (call_meets F.slot_int_rmul (typeIs_int s k t) F.entry_int_rmul (F.args_int_rmul_2 _ _) (int___rmul___int_list k t l its.toArray n)
      ⟨e, rfl, ⟨_, e, rfl⟩, call_meets F.slot_list_mul ⟨_, e, rfl⟩ F.entry_list_mul (F.args_list_mul_2 _ _) (AutoListH.list___mul___list_int_3 l its.toArray n k t hfit hcap hlong) ⟨e, ?_⟩⟩)
  rw [hnew]
  exact ⟨.ref _, _, I.lnew (t' := s.toks) (r.rep k.toNat) (by rw [len_rep, Nat.mul_comm]; exact hz), rfl, q _ I.fresh⟩

/-! ### del xs[i] -/
end

/-! ### xs[a:b] = ys -/
section
variable {prog : Program} {w : World} {A : Around} {E : Value → Shared → Prop} {s : Shared}
end

section
variable {X : Cx}
end
end L2

namespace Att
open PySem PySem.W PySem.Calls PyProof.Rows

/-! ### the script -/
theorem ints_of_wellAll {P : Params} {h : Heap} : ∀ (ns : List Int) (vs : List Value), WellAll P h vs (ns.map WData.int) → IntsAre vs ns := by
  intro ns
  induction ns with
  | nil =>
    intro vs w
    rw [List.map_nil] at w
    cases w
    exact .nil
  | cons n ns ih =>
    intro vs w
    rw [List.map_cons] at w
    cases w with
    | cons a b =>
      cases a
      exact .cons _ _ (ih _ b)

theorem script_of {l : OpenLaw} {n : Nat} (hn : l.most = some n) {P : Params} {h : Heap} {args : List WData} {vals : List Value}
    (hpre : l.row.toRowW.claim.pre args = true) (hwl : WellAll P h vals args) :
    ∃ a vs ns, vals = [Value.ref a] ∧ args = [WData.list (ns.map WData.int)] ∧ h.get? a = some { cls := .type "list", data := .seq vs.toArray } ∧ IntsAre vs ns ∧ ns.length ≤ n := by
  have hsh : WShape.hasAll [] args [.list .int] = true := (pre_splitW hpre).1
  have hc : l.pre.holds [] { args := args } = true := (pre_splitW hpre).2
  obtain ⟨d, r, rfl, h1, h2⟩ := hasAllW_cons hsh
  obtain rfl := hasAllW_nil h2
  obtain ⟨xs, rfl, h3⟩ := hasW_list h1
  obtain ⟨ns, rfl⟩ := items_int h3
  have hlen : ns.length ≤ n := by
    unfold OpenLaw.pre at hc
    have h4 : (WTm.not (.lt (.lit (.int (n : Int))) (.len (.arg 0)))).holds [] { args := [.list (ns.map .int)] } = true := by
      have h4 := (holds_andW hc).1
      rw [hn] at h4
      exact h4
    have h5 := condW_of h4 (w_not (w_lt w_lit (w_len_list (w_arg rfl))))
    rw [List.length_map] at h5
    refine Nat.le_of_not_lt fun q => ?_
    have q' : (n : Int) < ((ns.length : Nat) : Int) := by omega
    first
      | (rw [decide_eq_true q'] at h5; exact absurd h5 (by decide))
      | (simp at h5; omega)
  cases hwl with
  | cons w1 w2 =>
    cases w2
    cases w1 with
    | list ho hall => exact ⟨_, _, ns, rfl, rfl, ho, ints_of_wellAll ns _ hall, hlen⟩

theorem post_true (l : OpenLaw) (args : List WData) : l.row.toRowW.claim.post args (.bool true) args = true :=
  postW_of (r := l.row.toRowW) (X := (true == true))
    (show WShape.has [] (.bool true) .bool = true by first | rfl | decide | simp [WShape.has, WShape.arms, WShape.armsAll])
    (show (WTm.eq .res (.lit (.bool true))).value [] { args := args, res := some (.bool true), after := args } = some (.bool (true == true)) from w_eq_bool (w_res rfl) w_lit) rfl

/-! ### the attachment: holds_open's last premise (the goal 'hc' behind k_head) from a wpAny of the law's body -/
/-- the same from a codeAny of the CALL (for a layer whose function contracts speak of calls) -/
theorem attach_call {l : OpenLaw} {n : Nat} {q : Program} {loose : List Str} {XP : (Str → Option Value) → Heap → Prop} {YP : World → Heap → Prop} {d : DefRec}
    (hn : l.most = some n) (hdf : d.params.defaults = [])
    (call : ∀ (w : World) (s₀ s₁ : Shared) (mg mb : Str → Option Value) (fa : Addr) (o : Obj) (pm cd doc : Value) (a : Addr) (vs : List Value) (ns : List Int),
      Ground q loose [] XP w s₀ mg mb s₁.heap → YP w s₁.heap →
      s₁.heap.get? fa = some o → o.data = .func (docDef d.name d.params d.body d.scope pm cd doc) → s₁.heap.CodeRec cd d.name → mg d.name = some (.ref fa) →
      s₁.heap.get? a = some { cls := .type "list", data := .seq vs.toArray } → IntsAre vs ns → ns.length ≤ n → s₁.gens = #[] →
      codeAny (model l.prog w) callerA (.call (.ref fa) ⟨[.ref a], []⟩) (fun r s' => r = .ok (.ret (.bool true)) ∧ OldK s₁.heap s'.heap ∧ s'.os = s₁.os ∧ AllBare s'.gens) s₁) :
    WalkO q loose XP YP l.row.toRowW d [] (fun f vs => PySem.call f vs) := by
  intro w s₀ s₁ mg mb G Y fa o pm cd doc dV kV ho hd hcd hD hmg hg args vals as hpre hlay hrd hwl hlo
  obtain rfl : dV = .none := Dflts.none hD hdf
  obtain rfl : kV = .none := Dflts.noKw hD
  obtain ⟨a, vs, ns, rfl, rfl, hobj, hints, hlen⟩ := script_of hn hpre hwl
  refine enter_call (codeAny_mono (call w s₀ s₁ mg mb fa o pm cd doc a vs ns G Y ho (fd_plain hd) hcd hmg hobj hints hlen hg) fun r s' hq => ?_)
  obtain ⟨rfl, h2, h3, h4⟩ := hq
  exact ⟨.inl ⟨.bool true, .bool true, [], rfl, fun _ => rfl, .bool true, post_true l _, fun _ => ⟨List.Pairwise.nil, fun _ hm => (nomatch hm)⟩⟩, h2, h3, h4⟩

/-! ### rules over ANY heap (no ledger) from facts about the written part K: the library's own take a ledger (News) for what they write -/
section
variable {prog : Program} {w : World} {A : Around} {E : Value → Shared → Prop} {s : Shared} {K : Frag}

/-! the whole heap as the ledger: makes every rule that writes through a ledger a rule over any heap -/
def ledger (h : Heap) (L d : Addr) : List (Addr × Obj) := (List.range h.objs.size).filterMap fun a => if a = L ∨ a = d then none else (h.get? a).map fun o => (a, o)
end
end Att

namespace L2
open PySem PySem.Spec PyProof.Rows

theorem vals_ints : ∀ {vs : List Value} {ns : List Int}, IntsAre vs ns → Vals (ns.map V.int) vs
  | _, _, .nil => .nil
  | _, _, .cons n t h => .cons ⟨t, rfl⟩ (vals_ints h)

/-- nothing is tracked but the script, known to the object (or it is an object of the module) -/
def Only (H : Hp) : Prop := ∀ b, H b = none ∨ ∃ o xs, H b = some (.frz o (.lst xs))

/-- THE HEAD: the law's promise, at the heap behind the top. F, the promise of the law's def, may use that base is part of the heap (so K.In base, base.Ns mainGlobals mg stand in Mod) -/
theorem law_call {P : Program} {w : World} {K : PySem.W.Frag} {mg mb : Str → Option Value} {CX : CXT} {k : Nat} {fa a : Addr} {fd : FuncData} {x : Str} {sp : Sp} {s₁ : Shared} {vs : List Value} {ns : List Int}
    (KX : K.In s₁.heap) (hns : s₁.heap.Ns mainGlobals mg) (hb : s₁.heap.Ns builtinsNs mb) (hbb : ∀ x : Str, x ≠ "__name__" → mb x = bootBuiltins x) (hlim : s₁.heap.NoLimit) (hg : s₁.gens = #[])
    (ha : s₁.heap.get? a = some { cls := .type "list", data := .seq vs.toArray }) (hi : IntsAre vs ns) (hl : ns.length ≤ sizeLine) (hr : Room k callerA)
    (F : ∀ base : Heap, K.In base → base.Ns mainGlobals mg → FnOk P w K mg base CX k fa fd [x] sp) (hbind : ∀ (s : Shared) (u : Value), BindsTo s fd ⟨[u], []⟩ [(x, u)])
    (hsp : ∀ H : Hp, Only H → SqL K H a (ns.map V.int) → sp [.ref a] H (fun v _ => v = .bl true) fun _ _ _ => False)
    (hCX : ∀ H e s', CX [] H s₁ (fun _ _ _ => False) e s' → False) :
    codeAny (model P w) callerA (.call (.ref fa) ⟨[.ref a], []⟩) (fun r s' => r = .ok (.ret (.bool true)) ∧ OldK s₁.heap s'.heap ∧ s'.os = s₁.os ∧ AllBare s'.gens) s₁ := by
  have rv := vals_ints hi
  have lenV := hi.length
  -- from an abstract heap in which nothing but the script may be tracked
  have core : ∀ H : Hp, Only H → SqL K H a (ns.map V.int) → HOk P w H s₁.heap → (∀ b, H b ≠ none → b = a) → (H a ≠ none → K.lookup a = none) →
      codeAny (model P w) callerA (.call (.ref fa) ⟨[.ref a], []⟩) (fun r s' => r = .ok (.ret (.bool true)) ∧ OldK s₁.heap s'.heap ∧ s'.os = s₁.os ∧ AllBare s'.gens) s₁ := by
    intro H hO hS hok hA hK
    have base_of : ∀ {b : Addr} {o : Obj}, s₁.heap.get? b = some o → H b = none → (hidT s₁.heap H).get? b = some o := fun e n => hidT_get e n
    have noA : ∀ {b : Addr} {o : Obj} {es : Array DictEntry} {ep : Nat}, s₁.heap.get? b = some o → o.data = .dict es ep → H b = none := fun {b o es ep} e d => by
      cases q : H b with
      | none => rfl
      | some u =>
        have e' : b = a := hA b (by rw [q]; simp)
        subst e'
        rw [ha] at e; cases e
        have d' : Data.seq vs.toArray _ = Data.dict es ep := d
        cases d'
    have nsK : ∀ {b : Addr} {m : Str → Option Value}, s₁.heap.Ns b m → (hidT s₁.heap H).Ns b m := fun {b m} ⟨o, es, ep, e, d, r⟩ => ⟨o, es, ep, base_of e (noA e d), d, r⟩
    have hKb : K.In (hidT s₁.heap H) := fun b o e => base_of (KX b o e) (by
      cases q : H b with
      | none => rfl
      | some u =>
        have e' : b = a := hA b (by rw [q]; simp)
        subst e'
        rw [hK (by rw [q]; simp)] at e; cases e)
    have hM : Mod K mg (hidT s₁.heap H) := ⟨hKb, nsK hns, ⟨mb, nsK hb, hbb⟩, let ⟨mc, h1, h2⟩ := hlim; ⟨mc, nsK h1, h2⟩⟩
    have e0 : Env0 P w K mg (hidT s₁.heap H) callerA [] s₁ H := ⟨rfl, hM, fun b o e => of_hidT e, Nat.le_of_eq (hidT_size _ _), trivial, fun b hb => absurd (show b ∈ ([] : List Addr) from hb) (by simp), hok, .of_eq hg⟩
    refine codeAny_mono ((F _ hKb (nsK hns)).run callerA [] s₁ H ⟨[.ref a], []⟩ [.ref a] [.ref a] _ _ hr e0 (hbind s₁ (.ref a)) (.cons rfl .nil) (hsp H hO hS)) fun r s' h => ?_
    cases r with
    | error e => exact (hCX H e s' h).elim
    | ok fl =>
      cases fl with
      | next => exact False.elim h
      | brk => exact False.elim h
      | cont => exact False.elim h
      | ret u =>
        obtain ⟨v, H', os, bare, un, hok', r', q⟩ := h
        have q' : v = .bl true := q
        subst q'
        obtain rfl : u = Value.bool true := r'
        refine ⟨rfl, OldK.of_keep fun b o e => ?_, os, bare⟩
        cases q : H b with
        | none => exact un.keep b o e q (by intro z; exact absurd (show b ∈ ([] : List Addr) from z) (by simp)) (by simp)
        | some u =>
          rcases hO b with z | ⟨ob, xs, z⟩
          · rw [q] at z; cases z
          · have z2 := un.frzs b ob _ z
            obtain ⟨e1, _⟩ := hok b _ z
            obtain ⟨e2, _⟩ := hok' b _ z2
            rw [e] at e1; cases e1
            exact e2
  cases hk : K.lookup a with
  | some o =>
    -- the script is one of the module's own objects
    have e := KX a o hk
    rw [ha] at e
    cases e
    refine core (fun _ => none) (fun _ => .inl rfl) (.inr ⟨_, vs.toArray, _, hk, rfl, rfl, rfl, by rw [List.size_toArray, lenV]; exact hl, by simpa using rv⟩) (fun b u z => by have z' : (none : Option HO) = some u := z; cases z') (fun b z => absurd rfl z) fun z => absurd rfl z
  | none =>
    refine core (fun b => if b = a then some (.frz { cls := .type "list", data := .seq vs.toArray } (.lst (ns.map V.int))) else none) (fun b => ?_) (.inl (.inr ⟨{ cls := .type "list", data := .seq vs.toArray }, if_pos rfl⟩)) (fun b u z => ?_) (fun b z => ?_) fun _ => hk
    · by_cases hb : b = a
      · exact .inr ⟨_, _, if_pos hb⟩
      · exact .inl (if_neg hb)
    · by_cases hb : b = a
      · have z' := (if_pos hb).symm.trans z
        cases z'
        subst hb
        exact ⟨ha, by rw [List.length_map]; exact hl, vs, _, rv, ha⟩
      · have z' := (if_neg hb).symm.trans z
        cases z'
    · by_cases hb : b = a
      · exact hb
      · exact absurd (if_neg hb) z
end L2

namespace L2
open PySem PySem.Spec PyProof.Rows

abbrev KOf {K : PySem.W.Frag} {h : Heap} (_ : K.In h) : PySem.W.Frag := K

/-- the goal that k_head leaves (case hc), from the law's promise. F gives the function object fd (K's own) once, then the promise over every base -/
theorem walk_of {l : PySem.W.OpenLaw} {n k : Nat} {q : Program} {loose : List Str} {XP : (Str → Option Value) → Heap → Prop} {YP : World → Heap → Prop} {d : DefRec} {K : Params → PySem.W.Frag} {CX : World → CXT} {sp : World → Sp} {x : Str}
    (hn : l.most = some n) (hn2 : n ≤ sizeLine) (hdf : d.params.defaults = []) (hr : Room k callerA)
    (hY : ∀ (w : World) (h : Heap), YP w h → (K w.params).In h)
    (F : ∀ (w : World) (mg : Str → Option Value) (fa : Addr) (h : Heap), (K w.params).In h → h.Ns mainGlobals mg → mg d.name = some (.ref fa) →
      ∃ fd : FuncData, (∀ (s : Shared) (u : Value), BindsTo s fd ⟨[u], []⟩ [(x, u)]) ∧
        ∀ base : Heap, (K w.params).In base → base.Ns mainGlobals mg → FnOk l.prog w (K w.params) mg base (CX w) k fa fd [x] (sp w))
    (hsp : ∀ (w : World) (H : Hp) (a : Addr) (ns : List Int), ns.length ≤ n → Only H → SqL (K w.params) H a (ns.map V.int) → sp w [.ref a] H (fun v _ => v = .bl true) fun _ _ _ => False)
    (hCX : ∀ (w : World) (H : Hp) (s : Shared) (e : Value) (s' : Shared), CX w [] H s (fun _ _ _ => False) e s' → False) :
    PySem.W.WalkO q loose XP YP l.row.toRowW d [] (fun f vs => PySem.call f vs) := by
  refine Att.attach_call hn hdf fun w s₀ s₁ mg mb fa o pm cd doc a vs ns G Y ho hd hcd hmg hobj hints hlen hg => ?_
  have KX := hY w _ Y
  obtain ⟨fd, hb, hF⟩ := F w mg fa _ KX G.T.g hmg
  exact law_call KX G.T.g G.T.b G.T.builtins G.T.nolimit hg hobj hints (Nat.le_trans hlen hn2) hr hF hb (fun H hO hS => hsp w H a ns hlen hO hS) fun H e s' => hCX w H s₁ e s'
end L2

/- THE LAST THEOREM (shape; LID, My.* are yours):
   My.Adr: a structure of the addresses that your layer names (classes, functions); My.Txt K t: a structure (Prop) of the equations over K;
   My.txt_mk : {K} {implicit addresses ..} (e1 : nsIn K mainGlobals "law" = some (some (.ref f))) (e2 : K.lookup f = some ⟨oc, od, .func (fnOf "law" "law" params body scope dV kV doc pm an cdv ct), sl⟩) (e3 : codeIn K cdv "law" = true) .. : ∃ t, My.Txt K t

set_option maxRecDepth 100000 in
set_option maxHeartbeats 0 in
theorem PySem.Challenge.cw_LID_holds : PySem.Challenge.rw_LID.Holds := by
  w_on; o_law; k_head; (case hw => w_witness2)
  k_fill
  refine L2.walk_of (l := PySem.Challenge.rw_LID) (n := 63) (k := 40) (x := "script") (CX := fun w => ..) (sp := fun _ => My.sp_law) rfl (by decide) rfl ⟨rfl, by decide, by decide⟩ (fun w h Y => PySem.W.kIn_of Y) ?F ?S ?C
  case F =>
    intro w mg fa h KX G hmg
    have T : ∃ t, My.Txt (L2.KOf KX) t := by
      dsimp only [L2.KOf]                          -- K must stand as «<heap const> w.params» for k_is
      refine' My.txt_mk ?e1 ?e2 ?e3 ..
      (case e1 => PySem.W.k_is)                    -- in the order: a name -> its address -> its object -> its parts
      (case e2 => PySem.W.k_is)
      ..
    obtain ⟨t, T⟩ := T
    have e0 := hmg.symm.trans (PySem.W.mg_of KX G T.law)
    cases e0                                       -- fa is the law's own address
    exact ⟨_, fun s u => .of_eq rfl, fun base kb nb => My.law_fn T kb nb⟩     -- if «.of_eq rfl» comes too early: refine' ⟨_, ?b, fun base kb nb => My.law_fn T kb nb⟩; exact fun s u => .of_eq rfl
  case S => exact fun w H a ns hl hO hS => ..
  case C => exact ..
(the tactic k_is has no namespace: write k_is) -/

/-! SHORT WORDS over the layer: a def of the text, its body, what a loop and a test want. -/
namespace L2
open PySem PySem.Spec PyProof.Rows

/-! ### the text by places -/
/-- the j-th statement of a class's body -/
def inClass (s : Stmt) (j : Nat) : Stmt := match s with
  | .ClassDef _ _ _ body _ _ _ _ _ _ _ => body.getD j (.Pass ⟨0, 0, 0, 0⟩)
  | _ => .Pass ⟨0, 0, 0, 0⟩
def defArgs (s : Stmt) : Arguments := match s with
  | .FunctionDef _ a _ _ _ _ _ _ _ _ => a
  | _ => { posonlyargs := [], args := [], vararg := none, kwonlyargs := [], kw_defaults := [], kwarg := none, defaults := [] }
def defBody (s : Stmt) : List Stmt := match s with
  | .FunctionDef _ _ b _ _ _ _ _ _ _ => b
  | _ => []
def defScope (s : Stmt) : Scope := match s with
  | .FunctionDef _ _ _ _ _ _ sc _ _ _ => sc
  | _ => { kind := .function, names := [], isGenerator := false, isCoroutine := false }

/-! ### no exception leaves a def -/
abbrev CX0 : CXT := fun _ _ _ _ _ _ => False
abbrev E0 : XK := fun _ _ _ => False
theorem pass0 {X : Cx} : Passes CX0 X E0 := fun _ _ _ _ _ _ _ h => h.elim

/-! ### a def (or method) of the text as it stands behind the top -/
structure Fun (K : PySem.W.Frag) (x qual : Str) (st : Stmt) (f : Addr) (fd : FuncData) : Prop where
  ex : ∃ (oc : Value) (od : Option Addr) (kV doc pm : Value) (an : Option Addr) (cdv ct : Value) (osl : Array (Option Value)),
    fd = PySem.W.fnOf x qual (defArgs st) (defBody st) (defScope st) .none kV doc pm an cdv ct ∧ K.lookup f = some ⟨oc, od, .func fd, osl⟩ ∧ PySem.W.codeIn K cdv qual = true
  kp : PySem.W.keepIn K (.ref f) = true
section
variable {P : Program} {w : World} {K : PySem.W.Frag} {mg : Str → Option Value} {base : Heap}
/-- THE RULE for a def: its body as a term of rules, and the reading of that term -/
theorem Fun.ok {x qual : Str} {st : Stmt} {f : Addr} {fd : FuncData} {N ps : List Str} {k : Nat} {sp : Sp} (F : Fun K x qual st f fd) (S : FnScope N ps (defScope st)) (len : ∀ vs H Q E, sp vs H Q E → vs.length = ps.length)
    (hbody : ∀ (cdv : Value) (A : Around) (outer : List Env) (s : Shared) (H : Hp) (vs : List V) (Q : VK) (E : XK), Room k (A.deeper (envOfC qual (defScope st) s.heap.objs.size f cdv)) → sp vs H Q E →
      ∃ t, PSs (cxOf CX0 P w K mg base N qual (defScope st) f cdv A outer s H E).nox (defBody st) t ∧ t { nx := fun _ H' => Q .non H', rt := Q } (start N vs) H) : FnOk P w K mg base CX0 (k + 1) f fd ps sp := by
  obtain ⟨oc, od, kV, doc, pm, an, cdv, ct, osl, rfl, lk, hcd⟩ := F.ex
  refine fn_of lk hcd S len fun A outer s H vs Q E hr hsp => ?_
  obtain ⟨t, h, q⟩ := hbody cdv A outer s H vs Q E hr hsp
  exact ⟨t, h.nox, q⟩
/-- how its arguments bind (no defaults): h is «fun _ _ _ _ _ _ us hl => match us, hl with | [_, _], _ => rfl», one _ a parameter -/
theorem Fun.binds {x qual : Str} {st : Stmt} {f : Addr} {fd : FuncData} {ps : List Str} (F : Fun K x qual st f fd)
    (h : ∀ (kV doc pm : Value) (an : Option Addr) (cdv ct : Value) (us : List Value), us.length = ps.length → bindArgs (PySem.W.fnOf x qual (defArgs st) (defBody st) (defScope st) .none kV doc pm an cdv ct) ⟨us, []⟩ = pure (ps.zip us)) : Binds K fd ps [] := by
  obtain ⟨oc, od, kV, doc, pm, an, cdv, ct, osl, rfl, lk, hcd⟩ := F.ex
  exact .all (h kV doc pm an cdv ct)
theorem fun_mk {x qual : Str} {st : Stmt} {f : Addr} {oc : Value} {od an : Option Addr} {osl : Array (Option Value)} {kV doc pm cdv ct : Value} (l : K.lookup f = some ⟨oc, od, .func (PySem.W.fnOf x qual (defArgs st) (defBody st) (defScope st) .none kV doc pm an cdv ct), osl⟩)
    (c : PySem.W.codeIn K cdv qual = true) (k : PySem.W.keepIn K (.ref f) = true) : Fun K x qual st f (PySem.W.fnOf x qual (defArgs st) (defBody st) (defScope st) .none kV doc pm an cdv ct) := ⟨⟨oc, od, kV, doc, pm, an, cdv, ct, osl, rfl, l, c⟩, k⟩
end
theorem small1000 {n : Nat} (h : n ≤ 1000) : n < sizeLine := Nat.lt_of_le_of_lt h (by decide)

/-! ### expressions in short: the name that stands in the i-th slot -/
section
variable {X : Cx}
theorem pv (i : Nat) {x : Str} {pos : Pos} (hN : X.N[i]? = some x := by rfl) (hv : Vis X.env.scope x := by first | exact Or.inl rfl | exact Or.inr (Or.inl rfl) | exact Or.inr (Or.inr rfl)) (hd : (x == ("__debug__" : Str)) = false := by decide)
    (hcd : (x == ("__classdict__" : Str)) = false := by decide) : PE X (.Name x pos) (tVar i) := pe_var hN hv hd hcd
end

/-! ### tests -/
theorem iteF {A B : Prop} (h : B) : if false = true then A else B := by
  rw [if_neg Bool.false_ne_true]
  exact h
theorem iteT {A B : Prop} (h : A) : if true = true then A else B := by
  rw [if_pos rfl]
  exact h
theorem ite2 {c A B : Prop} [Decidable c] (h1 : c → A) (h2 : ¬ c → B) : if c then A else B := by
  by_cases h : c
  · rw [if_pos h]
    exact h1 h
  · rw [if_neg h]
    exact h2 h
/-! ### heaps -/
/-- all that was tracked is as it was -/
def Same (H H' : Hp) : Prop := ∀ b o, H b = some o → H' b = some o
theorem Same.refl (H : Hp) : Same H H := fun _ _ h => h
theorem Same.trans {H H1 H2 : Hp} (a : Same H H1) (b : Same H1 H2) : Same H H2 := fun c o h => b c o (a c o h)
theorem Same.free {H H' : Hp} (e : Same H H') {l : Addr} (h : H' l = Option.none) : H l = Option.none := by
  cases q : H l with
  | none => rfl
  | some o =>
    rw [e l o q] at h
    cases h
theorem Same.seq {K : PySem.W.Frag} {H H' : Hp} {a : Addr} {xs : List V} (e : Same H H') (h : SqL K H a xs) : SqL K H' a xs := by
  rcases h with (h | ⟨o, h⟩) | h
  · exact .inl (.inl (e _ _ h))
  · exact .inl (.inr ⟨o, e _ _ h⟩)
  · exact .inr h

end L2

set_option Elab.async false
set_option linter.all false
set_option maxRecDepth 100000
/-! The layer, grown: comprehensions, pairs, more iterators, more calls. -/
namespace L2
open PySem PySem.Spec PyProof.Rows

/-! ### untracked records turn; an object that stands there is tracked from now on -/
section
variable {X : Cx} {pins : List (Addr × Obj)} {σ : St} {H H' : Hp} {s : Shared} {h' : Heap}
theorem Inv.turnedL {t' : Nat} {ch : List Addr} (I : Inv X pins σ H s) (k : ∀ b o, b ∉ ch → s.heap.get? b = some o → h'.get? b = some o) (hf : ∀ b ∈ ch, FpOk X pins H b) :
    Inv X pins σ H { s with heap := h', toks := t' } := by
  have nch : ∀ b u, H b = some u → b ∉ ch := fun b u e z => by
    have q := (hf b z).1
    rw [q] at e
    cases e
  refine I.step (g' := s.gens) (d' := s.drawn) (ch := ch) (fun b hb => ?_) (fun b o _ _ hc e _ => k b o hc e) (fun b o _ _ hc e _ => ⟨o.slots, k b o hc e⟩) (fun _ _ _ _ n => n)
    (fun b o hc e => ⟨o, k b o hc e⟩) (fun _ _ e => e) (fun _ _ _ e => e) (fun b ps e => ⟨#[], by rw [e]; simp⟩) (fun m hm => ?_) (fun b u e => ?_) I.bare
  · obtain ⟨_, f1, _, f3, f4, f5⟩ := hf b hb
    exact ⟨f3, f1, f4, f5⟩
  · obtain ⟨o, es, ep, ho, r⟩ := hm
    exact ⟨o, es, ep, k _ o (fun z => (hf _ z).2.1 rfl) ho, r⟩
  · refine (I.hok b u e).stay (fun c v hc q => k c v ?_ q) (fun _ q => q) fun _ _ q => q
    rcases hc with z | z
    · rw [z]
      exact nch b u e
    · exact nch c _ z
theorem Inv.track {a : Addr} {o : HO} (I : Inv X pins σ H s) (f : FpOk X pins H a) (new : ObjOk X.prog X.w (upd H a o) s.heap a o) : Inv X pins σ (upd H a o) s := by
  have hn := f.1
  obtain ⟨hh, g, d, t, os⟩ := s
  refine I.step (h' := hh) (g' := g) (d' := d) (t' := t) (ch := [a]) (fun b hb => ?_) (fun b ob _ _ _ e _ => e) (fun b ob _ _ _ e _ => ⟨ob.slots, e⟩) (fun b ob hc e n => ?_)
    (fun b ob _ e => ⟨ob, e⟩) (fun b xs e => ?_) (fun b ob u e => ?_) (fun b ps e => ⟨#[], ?_⟩) (fun m hm => hm) (fun b u e => ?_) I.bare
  · obtain rfl : b = a := by simpa using hb
    obtain ⟨_, f1, _, f3, f4, f5⟩ := f
    exact ⟨f3, f1, f4, f5⟩
  · rw [upd_ne (fun z => hc (by simp [z]))]
    exact n
  · rw [upd_ne (ne_of_none e hn)]
    exact e
  · rw [upd_ne (ne_of_none e hn)]
    exact e
  · rw [upd_ne (ne_of_none e hn), e]
    simp
  · by_cases hb : b = a
    · subst hb
      rw [upd_same] at e
      cases e
      exact new
    · rw [upd_ne hb] at e
      exact (I.hok b u e).stay (fun c v _ q => q) (fun c q => by rw [upd_ne (ne_of_none q hn)]; exact q) fun c xs q => by rw [upd_ne (ne_of_none q hn)]; exact q
end

/-! ### captured names -/
def isCap : Option NameKind → Bool
  | some .cell => true
  | some .free => true
  | _ => false
def capB (N : List Str) (osc rsc : Scope) (js : List Nat) : Bool := js.all fun j => match N[j]? with
  | some x => isCap (osc.names.lookup x) && isCap (rsc.names.lookup x)
  | none => false
def selN (own : List Str) (js : List Nat) (N : List Str) : List Str := own ++ js.filterMap fun j => N[j]?
def selS (k : Nat) (js : List Nat) (σ : St) : St := List.replicate k none ++ js.map fun j => (σ[j]?).join
theorem isCap_or {o : Option NameKind} (h : isCap o = true) : o = some .cell ∨ o = some .free := by
  cases o with
  | none => exact absurd h Bool.false_ne_true
  | some k => cases k <;> first | exact .inl rfl | exact .inr rfl | exact absurd h Bool.false_ne_true
theorem capB_cons {N : List Str} {osc rsc : Scope} {j : Nat} {js : List Nat} (h : capB N osc rsc (j :: js) = true) :
    (∃ x, N[j]? = some x ∧ isCap (osc.names.lookup x) = true ∧ isCap (rsc.names.lookup x) = true) ∧ capB N osc rsc js = true := by
  unfold capB at h
  rw [List.all_cons, Bool.and_eq_true] at h
  refine ⟨?_, h.2⟩
  have h1 := h.1
  cases e : N[j]? with
  | none => rw [e] at h1; exact absurd h1 Bool.false_ne_true
  | some x =>
    rw [e] at h1
    have h2 := (Bool.and_eq_true _ _).mp h1
    exact ⟨x, rfl, h2.1, h2.2⟩
theorem capB_len {N : List Str} {osc rsc : Scope} : ∀ {js : List Nat}, capB N osc rsc js = true → (js.filterMap fun j => N[j]?).length = js.length
  | [], _ => rfl
  | j :: js, h => by
    obtain ⟨⟨x, e, _⟩, h2⟩ := capB_cons h
    rw [List.filterMap_cons, e]
    show (js.filterMap fun j => N[j]?).length + 1 = js.length + 1
    rw [capB_len h2]
theorem capB_at {N : List Str} {osc rsc : Scope} : ∀ {js : List Nat} {i : Nat} {x : Str}, capB N osc rsc js = true → (js.filterMap fun j => N[j]?)[i]? = some x →
    ∃ j, js[i]? = some j ∧ N[j]? = some x ∧ isCap (osc.names.lookup x) = true ∧ isCap (rsc.names.lookup x) = true
  | [], _, _, _, h => by simp at h
  | j :: js, i, x, h, hi => by
    obtain ⟨⟨y, e, c1, c2⟩, h2⟩ := capB_cons h
    rw [List.filterMap_cons, e] at hi
    cases i with
    | zero =>
      have z : y = x := by simpa using hi
      subst z
      exact ⟨j, rfl, e, c1, c2⟩
    | succ i =>
      have hi' : (js.filterMap fun j => N[j]?)[i]? = some x := by simpa using hi
      obtain ⟨j', e1, e2⟩ := capB_at (i := i) h2 hi'
      exact ⟨j', by simpa using e1, e2⟩
theorem selS_own {k : Nat} {js : List Nat} {σ : St} {i : Nat} (h : i < k) : (selS k js σ)[i]? = some none := by
  unfold selS
  rw [List.getElem?_append_left (by simpa using h), List.getElem?_replicate, if_pos h]
theorem selS_cap {k : Nat} {js : List Nat} {σ : St} {i : Nat} {v : V} (h : (selS k js σ)[i]? = some (some v)) : ∃ j, k ≤ i ∧ js[i - k]? = some j ∧ σ[j]? = some (some v) := by
  by_cases hi : i < k
  · rw [selS_own hi] at h
    cases h
  · unfold selS at h
    rw [List.getElem?_append_right (by simpa using hi), List.length_replicate, List.getElem?_map] at h
    cases e : js[i - k]? with
    | none => rw [e] at h; cases h
    | some j =>
      rw [e] at h
      refine ⟨j, by omega, rfl, ?_⟩
      have h2 : (σ[j]?).join = some v := by simpa using h
      cases e2 : σ[j]? with
      | none => rw [e2] at h2; cases h2
      | some o =>
        rw [e2] at h2
        have h3 : o = some v := by simpa using h2
        rw [h3]
theorem selS_len {k : Nat} {js : List Nat} {σ : St} : (selS k js σ).length = k + js.length := by
  unfold selS
  rw [List.length_append, List.length_replicate, List.length_map]

/-- the cells that a comprehension's block takes along -/
theorem closure_go (env : Env) : ∀ (names : List (Str × NameKind)) (cs : List (Str × Addr)), (∀ x, (x, NameKind.free) ∈ names → ∃ c, env.cells.lookup x = some c) →
    (∀ x c, cs.lookup x = some c → env.cells.lookup x = some c) →
    ∃ cl, (forIn names cs (fun (p : Str × NameKind) (r : List (Str × Addr)) => match p with
      | (name, kind) => if (kind == NameKind.free) = true then (do let a ← cellOf env name; pure (ForInStep.yield ((name, a) :: r))) else pure (ForInStep.yield r)) : Sem (List (Str × Addr))) = pure cl ∧
      (∀ x c, cl.lookup x = some c → env.cells.lookup x = some c) ∧ (∀ x, (x, NameKind.free) ∈ names → ∃ c, cl.lookup x = some c) ∧ ∀ x, (∃ c, cs.lookup x = some c) → ∃ c, cl.lookup x = some c
  | [], cs, _, hc => ⟨cs, by simp only [List.forIn_nil], hc, (fun _ h => (nomatch h)), fun _ h => h⟩
  | (n, k) :: r, cs, h, hc => by
    by_cases hk : k = NameKind.free
    · subst hk
      obtain ⟨c, e⟩ := h n List.mem_cons_self
      have hc' : ∀ x d, ((n, c) :: cs).lookup x = some d → env.cells.lookup x = some d := fun x d q => by
        rw [List.lookup_cons] at q
        cases z : x == n with
        | true =>
          rw [z] at q
          have q' : c = d := by simpa using q
          have zx : x = n := by simpa using z
          rw [zx, e, q']
        | false =>
          rw [z] at q
          exact hc x d (by simpa using q)
      obtain ⟨cl, h1, h2, h3, h4⟩ := closure_go env r ((n, c) :: cs) (fun x hx => h x (List.mem_cons_of_mem _ hx)) hc'
      have head : ∃ d, ((n, c) :: cs).lookup n = some d := ⟨c, by simp [List.lookup_cons]⟩
      refine ⟨cl, ?_, h2, fun x hx => ?_, fun x ⟨d, hd⟩ => h4 x ?_⟩
      · rw [List.forIn_cons]
        have ec : cellOf env n = pure c := by unfold cellOf; rw [e]
        simp only [beq_self_eq_true, if_true, ec, pure_bind]
        exact h1
      · rcases List.mem_cons.mp hx with z | z
        · obtain ⟨rfl, _⟩ := Prod.mk.inj z
          exact h4 _ head
        · exact h3 x z
      · rw [List.lookup_cons]
        cases z : x == n with
        | true => exact ⟨c, rfl⟩
        | false => exact ⟨d, hd⟩
    · have hb : (k == NameKind.free) = false := by simpa using hk
      obtain ⟨cl, h1, h2, h3, h4⟩ := closure_go env r cs (fun x hx => h x (List.mem_cons_of_mem _ hx)) hc
      refine ⟨cl, ?_, h2, fun x hx => ?_, h4⟩
      · rw [List.forIn_cons]
        simp only [hb, Bool.false_eq_true, if_false, pure_bind]
        exact h1
      · rcases List.mem_cons.mp hx with z | z
        · exact absurd (Prod.mk.inj z).2.symm hk
        · exact h3 x z
theorem closure_of {env : Env} {scope : Scope} (h : ∀ x, (x, NameKind.free) ∈ scope.names → ∃ c, env.cells.lookup x = some c) :
    ∃ cl, closureFor scope env = pure cl ∧ (∀ x c, cl.lookup x = some c → env.cells.lookup x = some c) ∧ ∀ x, (x, NameKind.free) ∈ scope.names → ∃ c, cl.lookup x = some c := by
  obtain ⟨cl, h1, h2, h3, _⟩ := closure_go env scope.names [] h (fun x c q => by simp at q)
  refine ⟨cl, ?_, h2, h3⟩
  unfold closureFor
  first
    | exact h1
    | (simp only [bind_pure]; exact h1)
    | (simp only [bind_pure_comp, map_pure, id_map']; exact h1)
    | (rw [← h1]; rfl)
end L2

set_option Elab.async false
set_option linter.all false
set_option maxRecDepth 100000
namespace L2
open PySem PySem.Spec PyProof.Rows

/-! ### the block of a comprehension as a context -/
abbrev cxC (X : Cx) (own : List Str) (js : List Nat) (scope : Scope) (cl : List (Str × Addr)) (C : Addr) (s₂ : Shared) (H₂ : Hp) (fp : List Addr) : Cx :=
  { X with N := selN own js X.N, s₀ := s₂, H₀ := H₂, env := compEnvC scope cl C X.env, outer := X.stack, stack := X.stack, ex := fp, fn := fun _ => false, pn := [], xe := fun _ _ => False }

theorem relabel_lookup {env : Env} {x : Str} {scope : Scope} (hc : ∀ y ∈ scope.names, y.2 ≠ .cell) (h : (relabel scope env).names.lookup x = some .cell ∨ (relabel scope env).names.lookup x = some .free) : (x, NameKind.free) ∈ scope.names := by
  have key : ∀ k, (relabel scope env).names.lookup x = some k → k = .cell ∨ k = .free → (x, NameKind.free) ∈ scope.names := fun k e hk => by
    have hm : (x, k) ∈ scope.names.map fun (n, k) => if (k == .free && env.scope.kind == .function && env.kindOf n == some .cell) then (n, .cell) else (n, k) := PySem.mem_of_lookup e
    obtain ⟨⟨n, k'⟩, hp, hq⟩ := List.mem_map.mp hm
    by_cases hz : (k' == NameKind.free && env.scope.kind == .function && env.kindOf n == some .cell) = true
    · have hkf : k' = .free := by
        have := (Bool.and_eq_true _ _).mp ((Bool.and_eq_true _ _).mp hz).1
        simpa using this.1
      have q : (n, NameKind.cell) = (x, k) := by
        have hq' : (if (k' == NameKind.free && env.scope.kind == .function && env.kindOf n == some .cell) = true then (n, NameKind.cell) else (n, k')) = (x, k) := hq
        rw [if_pos hz] at hq'
        exact hq'
      obtain ⟨rfl, _⟩ := Prod.mk.inj q
      rw [hkf] at hp
      exact hp
    · have q : (n, k') = (x, k) := by
        have hq' : (if (k' == NameKind.free && env.scope.kind == .function && env.kindOf n == some .cell) = true then (n, NameKind.cell) else (n, k')) = (x, k) := hq
        rw [if_neg hz] at hq'
        exact hq'
      obtain ⟨rfl, rfl⟩ := Prod.mk.inj q
      rcases hk with rfl | rfl
      · exact absurd rfl (hc _ hp)
      · exact hp
  rcases h with h | h
  · exact key _ h (.inl rfl)
  · exact key _ h (.inr rfl)

section
variable {X : Cx} {pins : List (Addr × Obj)} {σ : St} {H : Hp} {s2 s5 : Shared} {own : List Str} {js : List Nat} {scope : Scope} {cl : List (Str × Addr)} {C D : Addr} {fp : List Addr} {oD : Obj}
theorem inv_comp (I : Inv X pins σ H s2) (hcap : capB X.N X.env.scope (relabel scope X.env) js = true) (hkind : scope.kind = .function)
    (hclL : ∀ x c, cl.lookup x = some c → X.env.cells.lookup x = some c)
    (hclR : ∀ x, ((relabel scope X.env).names.lookup x = some .cell ∨ (relabel scope X.env).names.lookup x = some .free) → ∃ c, cl.lookup x = some c)
    (hfp : ∀ b ∈ fp, FpOk X pins H b) (hfo : ∀ b ∈ fp, ∃ o, s2.heap.get? b = some o) (hC : s2.heap.objs.size ≤ C) (hk : ∀ b o, s2.heap.get? b = some o → s5.heap.get? b = some o)
    (hns : ∃ m, s5.heap.Ns C m) (hos : s5.os = s2.os) (hg : s5.gens = s2.gens) (hD : s5.heap.get? D = some oD) (hDs : s2.heap.objs.size ≤ D) (hDC : D ≠ C) (hDd : ∀ v, oD.data ≠ .cell v) :
    Inv (cxC X own js scope cl C s2 H fp) [(D, oD)] (selS own.length js σ) H s5 := by
  have lt2 : ∀ {b : Addr} {o : Obj}, s2.heap.get? b = some o → b < s2.heap.objs.size := fun e => Heap.lt_size e
  have hfs : ∀ b ∈ fp, b ∉ frs X.stack := fun b hb z => by
    obtain ⟨_, f1, f2, _⟩ := hfp b hb
    rcases List.mem_cons.mp (I.stkSub b z) with q | q
    · exact f1 q
    · exact f2 q
  have ok : (cxC X own js scope cl C s2 H fp).Ok := by
    refine ⟨I.ok.mod, hkind, I.ok.glob, I.ok.blt, hC, fun x y c h1 h2 => I.ok.inj x y c (hclL x c h1) (hclL y c h2), fun x hx => hclR x hx, fun x c hf _ => absurd (show false = true from hf) Bool.false_ne_true, I.ok.hd, I.ok.frames, .inl rfl,
      fun b hb => ⟨?_, fun x c e => ?_⟩, I.bs, Nat.le_trans I.ok.bsz I.sz, fun b o e hb => ?_, hfs, I.stack, I.stkFree⟩
    · obtain ⟨o, e⟩ := hfo b hb
      exact Nat.ne_of_lt (Nat.lt_of_lt_of_le (lt2 e) hC)
    · exact (hfp b hb).2.2.2.2.1 x c (hclL x c e)
    · rcases (hfp b hb).2.2.2.1 with q | q
      · exact I.ok.noex b o e q
      · exact absurd (Nat.lt_of_lt_of_le (Heap.lt_size e) (Nat.le_trans I.ok.bsz q)) (Nat.lt_irrefl _)
  have hlen : (js.filterMap fun j => X.N[j]?).length = js.length := capB_len hcap
  refine ⟨ok, hos, by rw [hg]; exact I.bare, Un.kept hk, ?_, fun x c e => ?_, I.hok.fresh hC, fun x c e => I.freeC x c (hclL x c e), fun p hp => ?_, I.hok.kept hk, ?_⟩
  · obtain ⟨m, hm⟩ := hns
    refine ⟨m, hm, fun i x v h1 h2 h3 => ?_⟩
    obtain ⟨j, hik, hj, hv⟩ := selS_cap h2
    have h1' : (js.filterMap fun j => X.N[j]?)[i - own.length]? = some x := by
      have q : (own ++ js.filterMap fun j => X.N[j]?)[i]? = some x := h1
      rw [List.getElem?_append_right hik] at q
      exact q
    obtain ⟨j', e1, e2, c1, c2⟩ := capB_at hcap h1'
    rw [hj] at e1
    cases e1
    obtain ⟨m0, hm0, hl⟩ := I.loc
    have vis : Vis X.env.scope x := by
      rcases isCap_or c1 with q | q
      · exact .inr (.inl q)
      · exact .inr (.inr q)
    obtain ⟨u, ru, l⟩ := hl j x v e2 hv vis
    refine ⟨u, ru, ?_⟩
    rcases l with ⟨hloc, _⟩ | ⟨_, c, hc, hcell⟩
    · have q : X.env.scope.names.lookup x = some .local := hloc
      rw [q] at c1
      exact absurd c1 Bool.false_ne_true
    · have kd : (relabel scope X.env).names.lookup x = some .cell ∨ (relabel scope X.env).names.lookup x = some .free := isCap_or c2
      obtain ⟨c', hc'⟩ := hclR x kd
      have e := hclL x c' hc'
      rw [hc] at e
      cases e
      obtain ⟨o, ho, hd⟩ := hcell
      exact .inr ⟨kd, c, hc', o, hk c o ho, hd⟩
  · obtain ⟨v, o, ho, hd⟩ := I.cell x c (hclL x c e)
    exact ⟨v, o, hk c o ho, hd⟩
  · have e : p = (D, oD) := by simpa using hp
    subst e
    refine ⟨hD, I.hok.fresh hDs, hDC, fun z => ?_, hDd⟩
    obtain ⟨_, o, ho, _⟩ := I.stack.mem z
    exact absurd (Nat.lt_of_lt_of_le (lt2 ho) hDs) (Nat.lt_irrefl _)
  · show (selS own.length js σ).length = (own ++ js.filterMap fun j => X.N[j]?).length
    rw [selS_len, List.length_append, hlen]
end

/-- a target leaves the captured slots -/
def GKeep (k : Nat) (g : TG) : Prop := ∀ (x : V) (σ0 : St) (H : Hp) (Q : St → Hp → Prop), g x σ0 H Q →
  g x σ0 H (fun σ2 H2 => (σ2.length = σ0.length ∧ ∀ (i : Nat) (v : V), k ≤ i → σ0[i]? = some (some v) → σ2[i]? = some (some v)) ∧ Q σ2 H2)
theorem gk_name {k i : Nat} (h : i < k) : GKeep k (gName i) := fun x σ0 H Q q =>
  ⟨⟨List.length_set, fun j v hj e => by rw [List.getElem?_set_ne (by omega)]; exact e⟩, q⟩
theorem gk_pair {K : PySem.W.Frag} {k i j : Nat} (hi : i < k) (hj : j < k) : GKeep k (gTup K 2 (gCons (gName i) (gCons (gName j) gNil))) := fun x σ0 H Q q => by
  obtain ⟨a, xs, e1, hq, hl, v, r, e2, v2, r2, e3, e4, q⟩ := q
  refine ⟨a, xs, e1, hq, hl, v, r, e2, v2, r2, e3, e4, ⟨by rw [List.length_set, List.length_set], fun m w hm e => ?_⟩, q⟩
  rw [List.getElem?_set_ne (by omega), List.getElem?_set_ne (by omega)]
  exact e

/-- the reading of [elt for target in iter] -/
def CompR (J : It) (σ0 : St) (g : TG) (te : TE) (H1 : Hp) (R : List V → Hp → Prop) : Prop :=
  ∃ (n : Nat) (W : Nat → List V → Hp → Prop), n ≤ sizeLine ∧ W 0 [] H1 ∧
    (∀ i ys H, i < n → ys.length = i → W i ys H → J.go i H ∧ ∀ x H', J.yld i H x H' → g x σ0 H' fun σ2 H2 => te σ2 H2 fun y H3 => W (i + 1) (ys ++ [y]) H3) ∧
    ∀ ys H, ys.length = n → W n ys H → J.stop n H ∧ R ys H
def tComp (wi : TI) (k : Nat) (js : List Nat) (g : TG) (te : TE) : TE := fun σ H Q => wi σ H fun J H1 =>
  CompR J (selS k js σ) g te H1 fun ys H2 => ∀ p, H2 p = none → Q (.ref p) (upd H2 p (.lst ys))

theorem app_plain {prog : Program} {w : World} {A : Around} {E : Value → Shared → Prop} {s : Shared} {l : Addr} {its : List Value} {n : Nat} {u : Value} {Q : Value → Shared → Prop}
    (e : s.heap.get? l = some { cls := .type "list", data := .seq its.toArray n }) (hz : its.length ≤ sizeLine)
    (h : ∀ h' n', h'.get? l = some { cls := .type "list", data := .seq (its ++ [u]).toArray n' } → (∀ b o, b ≠ l → s.heap.get? b = some o → h'.get? b = some o) → Q .none { s with heap := h' }) :
    wpAny (model prog w) A (call (.builtin "list.append") [.ref l, u]) Q E s := by
  refine call_meets F.slot_list_append ⟨_, e, rfl⟩ F.entry_list_append (F.args_list_append_2 _ _) (PySem.list_append l its.toArray n u (by rw [List.size_toArray]; omega)) ⟨e, ?_⟩
  have q := PySem.IsL.update e (·.push u)
  have q2 : its.toArray.push u = (its ++ [u]).toArray := by simp
  rw [q2] at q
  exact h _ _ q fun b o hb hu => (Heap.get?_update_other s.heap (Obj.mapSeq (·.push u)) (Ne.symm hb)).trans hu

section
variable {X : Cx} {own : List Str} {js : List Nat} {scope : Scope} {elt tg iter : Expr} {g : TG} {te : TE} {pos : Pos}
/-- the block runs: a new list, a new frame, the turns -/
theorem comp_run {pins : List (Addr × Obj)} {σ : St} {H1 : Hp} {s2 : Shared} {it : Addr} {fp : List Addr} {tn : Nat → Heap → Prop} {J : It} {cl : List (Str × Addr)} {R : List V → Hp → Prop} {RR : Value → Addr → Result → Shared → Prop}
    {E : Value → Shared → Prop} (hc : X.calm = true) (I : Inv X pins σ H1 s2) (T : Turn X.prog X.w X.K tg J fp it tn) (st : tn 0 s2.heap) (hfp : ∀ b ∈ fp, FpOk X pins H1 b)
    (hcap : capB X.N X.env.scope (relabel scope X.env) js = true) (hkind : scope.kind = .function) (hcell : ∀ y ∈ scope.names, y.2 ≠ .cell)
    (hclL : ∀ x c, cl.lookup x = some c → X.env.cells.lookup x = some c)
    (hclR : ∀ x, (x, NameKind.free) ∈ scope.names → ∃ c, cl.lookup x = some c)
    (hg : ∀ C s₂ H₂ fp, PG (cxC X own js scope cl C s₂ H₂ fp) tg g) (hgk : GKeep own.length g) (he : ∀ C s₂ H₂ fp, PE (cxC X own js scope cl C s₂ H₂ fp) elt te)
    (hR : CompR J (selS own.length js σ) g te H1 R)
    (hRR : ∀ D C ys H' s' m, Inv X pins σ (upd H' D (.lst ys)) s' → FpOk X pins (upd H' D (.lst ys)) C → s'.heap.Ns C m → H' D = none → R ys H' → RR (.ref D) C (.ok .next) s') :
    wpAny (model X.prog X.w) X.A (newList []) (fun acc s₃ => wpAny (model X.prog X.w) X.A (newFunctionEnv scope X.env.globals cl [] X.env.qual none .none (some X.env)) (fun cenv s₄ =>
      codeAny (model X.prog X.w) X.A (.compStart (.ListComp elt [⟨tg, iter, [], 0⟩] scope pos) 0 (.ref it) acc { cenv with scope := relabel scope X.env }) (RR acc cenv.locals) s₄) E s₃) E s2 := by
  obtain ⟨n, W, hz, w0, turn, fin⟩ := hR
  refine wpAny_newObj_type (wpAny_newFunctionEnv hcell (by intro y hy; simp at hy) (fun h₁ hns₁ hsb₁ => ?_) hkind)
  dsimp only at hns₁ hsb₁ ⊢
  generalize hH2 : s2.heap.push { cls := .type "list", dict := none, data := .seq ([] : List Value).toArray } = G2 at hns₁ hsb₁ ⊢
  have hC : G2.objs.size = s2.heap.objs.size + 1 := by rw [← hH2, Heap.size_push]
  have hDC : s2.heap.objs.size ≠ G2.objs.size := by rw [hC]; exact Nat.ne_of_lt (Nat.lt_succ_self _)
  have hCle : s2.heap.objs.size ≤ G2.objs.size := by rw [hC]; exact Nat.le_succ _
  have old : ∀ b o, s2.heap.get? b = some o → h₁.get? b = some o := fun b o e =>
    hsb₁.extBut b o (by rw [hC]; exact Nat.ne_of_lt (Nat.lt_succ_of_lt (Heap.lt_size e))) (Heap.get?_push_of_some _ (hH2 ▸ Heap.get?_push_of_some _ e))
  have hacc : h₁.get? s2.heap.objs.size = some { cls := .type "list", dict := none, data := .seq ([] : List Value).toArray } := hsb₁.extBut _ _ hDC (Heap.get?_push_of_some _ (hH2 ▸ Heap.get?_push_size _ rfl))
  have hrel : ∀ x, ((relabel scope X.env).names.lookup x = some .cell ∨ (relabel scope X.env).names.lookup x = some .free) → ∃ c, cl.lookup x = some c := fun x h => hclR x (relabel_lookup hcell h)
  have I0 : Inv (cxC X own js scope cl G2.objs.size s2 H1 fp) [(s2.heap.objs.size, { cls := .type "list", dict := none, data := .seq ([] : List Value).toArray })] (selS own.length js σ) H1
      { s2 with heap := h₁, toks := s2.toks + ([] : List (Str × Value)).length } :=
    inv_comp (s5 := { s2 with heap := h₁, toks := s2.toks + ([] : List (Str × Value)).length }) I hcap hkind hclL hrel hfp (fun b hb => let ⟨o, e, _⟩ := T.obj 0 _ st b hb; ⟨o, e⟩) hCle old ⟨_, hns₁⟩ rfl rfl hacc (Nat.le_refl _) hDC
      (fun v z => by cases (show Data.seq _ _ = Data.cell v from z))
  generalize hXe : cxC X own js scope cl G2.objs.size s2 H1 fp = X' at I0
  have hXP : X'.prog = X.prog := by rw [← hXe]
  have hXw : X'.w = X.w := by rw [← hXe]
  have hXK : X'.K = X.K := by rw [← hXe]
  have hXA : X'.A = X.A := by rw [← hXe]
  have hXc : X'.calm = true := by rw [← hXe]; exact hc
  have hXenv : X'.env = compEnvC scope cl G2.objs.size X.env := by rw [← hXe]
  have hXs : X'.s₀ = s2 := by rw [← hXe]
  have hXex : X'.ex = fp := by rw [← hXe]
  have hXfs : X'.fs = frs X.stack := by rw [← hXe]
  have hXpn : X'.pn = [] := by rw [← hXe]
  have hXe0 : X'.xe = fun _ _ => False := by rw [← hXe]
  have hXcl : X'.env.cells = cl := by rw [hXenv]; rfl
  have hXl : X'.env.locals = G2.objs.size := by rw [hXenv]; rfl
  have ltD : ∀ b ∈ fp, b ≠ s2.heap.objs.size := fun b hb => let ⟨o, e, _⟩ := T.obj 0 _ st b hb; Nat.ne_of_lt (Heap.lt_size e)
  -- what stays true of the iterator's records in the block
  have fpX : ∀ {pl : List (Addr × Obj)} {H' : Hp}, (∀ p ∈ pl, p.1 = s2.heap.objs.size) → (∀ b ∈ fp, H' b = none) → ∀ b ∈ fp, FpOk X' pl H' b := fun {pl H'} hpl hn b hb => by
    refine ⟨hn b hb, ?_, ?_, .inl (by rw [hXex]; exact hb), fun x c e => ?_, fun p hp => ?_⟩
    · obtain ⟨o, e, _⟩ := T.obj 0 _ st b hb
      rw [hXl]
      exact Nat.ne_of_lt (Nat.lt_of_lt_of_le (Heap.lt_size e) hCle)
    · rw [hXfs]
      intro z
      obtain ⟨_, f1, f2, _⟩ := hfp b hb
      exact (List.mem_cons.mp (I.stkSub b z)).elim f1 f2
    · rw [hXcl] at e
      exact (hfp b hb).2.2.2.2.1 x c (hclL x c e)
    · rw [hXpn] at hp
      rw [hpl p (by simpa using hp)]
      exact (ltD b hb).symm
  have dX : ∀ {pl : List (Addr × Obj)} {H' : Hp}, (∀ p ∈ pl, p.1 ∈ fp) → H' s2.heap.objs.size = none → FpOk X' pl H' s2.heap.objs.size := fun {pl H'} hpl hn => by
    refine ⟨hn, by rw [hXl]; exact hDC, ?_, .inr (by rw [hXs]; exact Nat.le_refl _), fun x c e => ?_, fun p hp => ?_⟩
    · rw [hXfs]
      exact fun z => by
        obtain ⟨_, o, ho, _⟩ := I.stack.mem z
        exact absurd (Heap.lt_size ho) (Nat.lt_irrefl _)
    · rw [hXcl] at e
      obtain ⟨v, o, ho, _⟩ := I.cell x c (hclL x c e)
      exact Nat.ne_of_lt (Heap.lt_size ho)
    · rw [hXpn] at hp
      exact ltD p.1 (hpl p (by simpa using hp))
  let obD : List Value → Nat → Obj := fun its k => { cls := .type "list", dict := none, data := .seq its.toArray k }
  have loop : codeAny (model X.prog X.w) X.A (.compLoop (.ListComp elt [⟨tg, iter, [], 0⟩] scope pos) 0 (.ref it) (.ref s2.heap.objs.size) (compEnvC scope cl G2.objs.size X.env))
      (RR (.ref s2.heap.objs.size) G2.objs.size) { s2 with heap := h₁, toks := s2.toks + ([] : List (Str × Value)).length } := by
    refine PySem.W.kcp_loop (fun k s => ∃ i ys its c H, k = n + 1 - i ∧ i ≤ n ∧ ys.length = i ∧ Vals ys its ∧ Inv X' [(s2.heap.objs.size, obD its c)] (selS own.length js σ) H s ∧ tn i s.heap ∧ (∀ b ∈ fp, H b = none) ∧ W i ys H) ?_ (n + 1)
      ⟨0, [], [], 0, H1, rfl, Nat.zero_le _, rfl, .nil, I0, T.keep _ _ _ st (fun b _ o e => old b o e), fun b hb => (hfp b hb).1, w0⟩
    rintro k s ⟨i, ys, its, c, H, rfl, hi, hl, rv, I1, st1, fr1, w1⟩
    have pl1 : ∀ p ∈ [(s2.heap.objs.size, obD its c)], p.1 = s2.heap.objs.size := fun p hp => by rw [show p = _ by simpa using hp]
    by_cases hlt : i < n
    · obtain ⟨go, step⟩ := turn i ys H hlt hl w1
      rw [← hXA]
      refine thn (T.item X' hXP hXw hXK hXc i _ s _ H _ I1 (fpX pl1 fr1) st1 go) fun r s3 ⟨u, hr, h3⟩ => ?_
      subst hr
      refine thn h3 fun _ s4 ⟨x, H4, I4, r4, y4, st4, fr4⟩ => ?_
      have I4' := I4.pinned (fpX pl1 fr4) (T.obj _ _ st4)
      have hgX : PG X' tg g := by rw [← hXe]; exact hg _ _ _ _
      have heX : PE X' elt te := by rw [← hXe]; exact he _ _ _ _
      rw [← hXP, ← hXw, ← hXenv]
      have up : ∀ {α : Type} {t : Sem α} {Q : α → Shared → Prop} {E' : Value → Shared → Prop} {s : Shared}, wpAny (model X'.prog X'.w) X'.A t Q X'.xe s → wpAny (model X'.prog X'.w) X'.A t Q E' s := fun h =>
        wpAny_mono h (fun _ _ q => q) fun _ _ q => by rw [hXe0] at q; exact q.elim
      refine thn (up (hgX _ s4 _ H4 x u _ I4' r4 (hgk _ _ _ _ (step x H4 y4)))) fun _ s5 ⟨σ5, H5, I5, ⟨hl5, hk5⟩, q5⟩ => ?_
      refine thn (up (heX _ s5 σ5 H5 _ I5 q5)) fun y s6 ⟨yv, H6, I6, r6, q6⟩ => ?_
      have eD := I6.pin (s2.heap.objs.size, obD its c) (List.mem_append_right _ (List.mem_append_left _ (List.mem_singleton.mpr rfl)))
      have efp : ∀ b ∈ fp, ∀ o, s4.heap.get? b = some o → s6.heap.get? b = some o ∧ H6 b = none := fun b hb o e =>
        let q := I6.pin (b, o) (List.mem_append_right _ (List.mem_append_right _ (mem_pinsAt hb e)))
        ⟨q.1, q.2.1⟩
      have fr6 : ∀ b ∈ fp, H6 b = none := fun b hb => let ⟨o, e, _⟩ := T.obj _ _ st4 b hb; (efp b hb o e).2
      have st6 : tn (i + 1) s6.heap := T.keep _ _ _ st4 fun b hb o e => (efp b hb o e).1
      have hlen := rv.length
      refine app_plain (n := c) eD.1 (by omega) fun h' n' e' k' => ?_
      have I7 : Inv X' [] σ5 H6 s6 := I6.pins_of fun p hp => nomatch hp
      have I8 : Inv X' [] σ5 H6 { s6 with heap := h' } := by
        obtain ⟨f0, f1, _, f3, f4, f5⟩ := dX (pl := []) (H' := H6) (fun p hp => nomatch hp) eD.2.1
        exact I7.turned (t' := s6.toks) k' f0 f1 f3 f4 f5
      have I9 : Inv X' [(s2.heap.objs.size, obD (its ++ [y]) n')] (selS own.length js σ) H6 { s6 with heap := h' } := by
        refine (I8.weak (σ' := selS own.length js σ) hl5.symm fun j v e => ?_).pins_of fun p hp => ?_
        · obtain ⟨_, hj, _⟩ := selS_cap e
          exact hk5 j v hj e
        · have ep : p = (s2.heap.objs.size, obD (its ++ [y]) n') := by simpa using hp
          subst ep
          obtain ⟨f0, f1, f2, _⟩ := dX (pl := []) (H' := H6) (fun p hp => nomatch hp) eD.2.1
          exact ⟨e', f0, f1, f2, fun v z => by cases (show Data.seq _ _ = Data.cell v from z)⟩
      refine ⟨n + 1 - (i + 1), by omega, i + 1, ys ++ [yv], its ++ [y], n', H6, rfl, hlt, by rw [List.length_append, hl]; rfl, rv.append (.cons r6 .nil), I9, ?_, fr6, q6⟩
      exact T.keep _ _ _ st6 fun b hb o e => k' b o (ltD b hb) e
    · have hin : i = n := by omega
      subst hin
      obtain ⟨stop, q⟩ := fin ys H hl w1
      rw [← hXA]
      refine thn (T.done X' hXP hXw hXK hXc i _ s _ H _ I1 (fpX pl1 fr1) st1 stop) fun r s3 ⟨hr, I3⟩ => ?_
      subst hr
      have eD := I3.pin (s2.heap.objs.size, obD its c) (List.mem_append_right _ (List.mem_singleton.mpr rfl))
      have un : Un (frs X.stack) fp H1 H s2.heap s3.heap := by
        have b := I3.base
        rw [hXfs, hXex, hXs] at b
        rw [← hXe] at b
        exact b
      have hok : HOk X.prog X.w H s3.heap := by
        have b := I3.hok
        rw [hXP, hXw] at b
        exact b
      have os : s3.os = s2.os := by rw [I3.os, hXs]
      have IX : Inv X pins σ H s3 := I.call' (ch := fp) os un hok I3.bare fun b hb => by
        obtain ⟨_, f1, _, f3, f4, f5⟩ := hfp b hb
        exact ⟨f3, f1, f4, f5⟩
      have lens := rv.length
      have nD := eD.2.1
      have nC : H G2.objs.size = none := by
        have q := I3.free
        rw [hXl] at q
        exact q
      have fD : FpOk X pins H s2.heap.objs.size := I.fpOk (Nat.le_refl _) nD
      have I4 : Inv X pins σ (upd H s2.heap.objs.size (.lst ys)) s3 := IX.track fD ⟨by omega, its, c, rv, eD.1⟩
      have fC : FpOk X pins (upd H s2.heap.objs.size (.lst ys)) G2.objs.size := I.fpOk hCle (by rw [upd_ne (Ne.symm hDC)]; exact nC)
      obtain ⟨m, hm, _⟩ := I3.loc
      rw [hXl] at hm
      exact hRR _ _ ys H s3 m I4 fC hm nD q
  exact codeAny_compStart_list loop (T.self _ 0 _ _ _ (T.keep _ _ _ st fun b _ o e => old b o e) loop)
end

section
variable {X : Cx} {own : List Str} {js : List Nat} {scope : Scope} {elt tg iter : Expr} {g : TG} {te : TE} {pos : Pos} {wi : TI}
theorem hasFree {pins : List (Addr × Obj)} {σ : St} {H : Hp} {s : Shared} (I : Inv X pins σ H s) (hfree : (scope.names.all fun p => !(p.2 == NameKind.free) || isCap (X.env.scope.names.lookup p.1)) = true) :
    ∀ x, (x, NameKind.free) ∈ scope.names → ∃ c, X.env.cells.lookup x = some c := fun x hx => by
  have q := List.all_eq_true.mp hfree (x, .free) hx
  have q2 : isCap (X.env.scope.names.lookup x) = true := by simpa using q
  exact I.ok.has x (isCap_or q2)
/-- [elt for target in iter] as a value -/
theorem pe_comp (own : List Str) (js : List Nat) (hc : X.calm = true) (hi : PI X tg iter wi) (hg : ∀ cl C s₂ H₂ fp, PG (cxC X own js scope cl C s₂ H₂ fp) tg g) (hgk : GKeep own.length g) (he : ∀ cl C s₂ H₂ fp, PE (cxC X own js scope cl C s₂ H₂ fp) elt te)
    (hcap : capB X.N X.env.scope (relabel scope X.env) js = true := by kernel_rfl) (hfree : (scope.names.all fun p => !(p.2 == NameKind.free) || isCap (X.env.scope.names.lookup p.1)) = true := by kernel_rfl)
    (hkind : scope.kind = .function := by rfl) (hcell : ∀ y ∈ scope.names, y.2 ≠ .cell := by decide +kernel) (hnames : ∀ x ∈ scope.names, x.2 = .local → scope.names.lookup x.1 = some .local := by decide +kernel)
    (hs : ∀ x, foldedSetIterable iter X.env x = pure x := by intro _; rfl) :
    PE X (.ListComp elt [⟨tg, iter, [], 0⟩] scope pos) (tComp wi own.length js g te) := by
  intro pins s σ H Q I h
  obtain ⟨cl, h1, h2, h3⟩ := closure_of (env := X.env) (scope := scope) (hasFree I hfree)
  rw [eval_ListComp]
  refine wpAny_comprehension_free (use := none) rfl hs h1 hkind hnames (thn (hi pins s σ H _ I h) fun v s1 q1 => thn q1 fun itv s2 q2 => ?_)
  obtain ⟨it, fp, tn, J, H1, rfl, I2, T, st, hfp, hR⟩ := q2
  refine comp_run (own := own) (js := js) (RR := fun acc C => compPost (model X.prog X.w) X.A X.xe none (EP X pins σ Q) acc C) hc I2 T st hfp hcap hkind hcell h2 h3 (hg cl) hgk (he cl) hR ?_
  intro D C ys H' s' m I' fC hm hD q
  obtain ⟨f0, f1, _, f3, f4, f5⟩ := fC
  exact ⟨m, hm, fun h' hs' => ⟨.ref D, _, I'.turned (t' := s'.toks) (fun b o hb e => hs'.extBut b o hb e) f0 f1 f3 f4 f5, rfl, q D hD⟩⟩
end

/-! ### the form one uses: all that is tracked stays, the i-th item is f i -/
theorem snocF {f : Nat → V} {i : Nat} {y : V} (h : y = f i) : (List.range i).map f ++ [y] = (List.range (i + 1)).map f := by
  rw [List.range_succ, List.map_append, h]
  rfl
theorem comp_by {J : It} {σ0 : St} {g : TG} {te : TE} {H1 : Hp} {R : List V → Hp → Prop} (n : Nat) (f : Nat → V) (hz : n ≤ sizeLine)
    (hgo : ∀ i H, i < n → Same H1 H → J.go i H) (hst : ∀ H, Same H1 H → J.stop n H)
    (ht : ∀ i H x H', i < n → Same H1 H → J.yld i H x H' → g x σ0 H' fun σ2 H2 => te σ2 H2 fun y H3 => (List.range i).map f ++ [y] = (List.range (i + 1)).map f ∧ Same H1 H3)
    (hR : ∀ H, Same H1 H → R ((List.range n).map f) H) : CompR J σ0 g te H1 R := by
  refine ⟨n, fun i ys H => ys = (List.range i).map f ∧ Same H1 H, hz, ⟨rfl, Same.refl _⟩, fun i ys H hi hl w => ⟨hgo i H hi w.2, fun x H' y => ?_⟩, fun ys H hl w => ⟨hst H w.2, ?_⟩⟩
  · obtain ⟨rfl, sm⟩ := w
    exact ht i H x H' hi sm y
  · obtain ⟨rfl, sm⟩ := w
    exact hR H sm
/-- over range(lo, ..), n turns -/
theorem comp_range {lo : Int} {n : Nat} {σ0 : St} {te : TE} {H1 : Hp} {R : List V → Hp → Prop} (f : Nat → V) (hz : n ≤ sizeLine)
    (ht : ∀ i H, i < n → Same H1 H → te (σ0.set 0 (some (.int (lo + i)))) H fun y H3 => (List.range i).map f ++ [y] = (List.range (i + 1)).map f ∧ Same H1 H3)
    (hR : ∀ H, Same H1 H → R ((List.range n).map f) H) : CompR (Itr lo n) σ0 (gName 0) te H1 R :=
  comp_by n f hz (fun i H hi _ => hi) (fun H _ => Nat.le_refl n) (fun i H x H' hi sm y => by
    obtain ⟨e1, e2⟩ := y
    subst e1 e2
    exact ht i _ hi sm) hR
/-- over a list -/
theorem comp_list {K : PySem.W.Frag} {a : Addr} {xs : List V} {σ0 : St} {te : TE} {H1 : Hp} {R : List V → Hp → Prop} (hq : SqL K H1 a xs) (f : Nat → V) (hz : xs.length ≤ sizeLine)
    (ht : ∀ i x H, xs[i]? = some x → Same H1 H → te (σ0.set 0 (some x)) H fun y H3 => (List.range i).map f ++ [y] = (List.range (i + 1)).map f ∧ Same H1 H3)
    (hR : ∀ H, Same H1 H → R ((List.range xs.length).map f) H) : CompR (Itl K a) σ0 (gName 0) te H1 R :=
  comp_by xs.length f hz (fun i H hi sm => ⟨xs, xs[i], sm.seq hq, by simp [hi]⟩) (fun H sm => ⟨xs, sm.seq hq, Nat.le_refl _⟩) (fun i H x H' hi sm y => by
    obtain ⟨e1, e2⟩ := y
    subst e1
    exact ht i x _ (e2 xs (sm.seq hq)) sm) hR
end L2

set_option Elab.async false
set_option linter.all false
set_option maxRecDepth 100000
namespace L2
open PySem PySem.Spec PyProof.Rows

theorem same_new {H : Hp} {p : Addr} (h : H p = none) (o : HO) : Same H (upd H p o) := fun b u q => by
  rw [upd_ne (ne_of_none q h)]
  exact q
abbrev gPair (K : PySem.W.Frag) : TG := gTup K 2 (gCons (gName 0) (gCons (gName 1) gNil))
theorem pair_go {K : PySem.W.Frag} {H : Hp} {p : Addr} {a b : V} {σ : St} {Q : St → Hp → Prop} (h : H p = some (.tup [a, b])) (q : Q ((σ.set 0 (some a)).set 1 (some b)) H) : gPair K (.ref p) σ H Q :=
  ⟨p, [a, b], rfl, SqT.of h, rfl, a, [b], rfl, b, [], rfl, rfl, q⟩

section
variable {X : Cx} {pins : List (Addr × Obj)} {σ : St} {H : Hp} {s : Shared}
/-- a pair that was just laid, untracked yet -/
theorem Inv.pairAt {T : Addr} {a b : V} {u v : Value} (I : Inv X pins σ H s) (f : FpOk X pins H T) (h : s.heap.get? T = some { cls := .type "tuple", data := .seq #[u, v] }) (ra : RelV a u) (rb : RelV b v) :
    Inv X pins σ (upd H T (.tup [a, b])) s :=
  I.track f ⟨by show 2 ≤ sizeLine; decide, [u, v], .cons ra (.cons rb .nil), ⟨_, h, rfl, _, rfl⟩⟩
end

/-! ### enumerate(a list) -/
def Ite (K : PySem.W.Frag) (a : Addr) : It :=
  ⟨fun i H => ∃ xs x, SqL K H a xs ∧ xs[i]? = some x, fun i H v H' => ∃ p, H p = none ∧ v = .ref p ∧ ∀ xs x, SqL K H a xs → xs[i]? = some x → H' = upd H p (.tup [.int i, x]), fun i H => ∃ xs, SqL K H a xs ∧ xs.length ≤ i⟩
theorem turn_enum {P : Program} {w : World} {K : PySem.W.Frag} {elts : List Expr} {k : Nat} {tp : Pos} (a e it : Addr) (hne : e ≠ it) :
    Turn P w K (.Tuple elts k tp) (Ite K a) [e, it] e (fun i h => (∃ old, IsEnum h e it (i : Nat) old) ∧ h.IsListIter it a i) where
  mem := by simp
  obj := fun i h st b hb => by
    obtain ⟨⟨old, h1⟩, o, h2, _, h3⟩ := st
    rcases List.mem_cons.mp hb with q | q
    · subst q
      exact ⟨_, h1, fun v z => by cases (show Data.fields _ = Data.cell v from z)⟩
    · have q' : b = it := by simpa using q
      subst q'
      exact ⟨o, h2, fun v z => by rw [h3] at z; cases z⟩
  keep := fun i h h' st kk => by
    obtain ⟨⟨old, h1⟩, h2⟩ := st
    exact ⟨⟨old, kk e (by simp) _ h1⟩, h2.at fun o q => kk it (by simp) o q⟩
  item := by
    intro X hP hw hK hc i pins s σ H E I hf st hg
    subst hP hw hK
    obtain ⟨⟨old, h1⟩, h2⟩ := st
    obtain ⟨xs, x, hq, hx⟩ := hg
    obtain ⟨its, rv, p, hz⟩ := I.list hq
    obtain ⟨u, hu, ru⟩ := rv.get hx
    have elt : e < s.heap.objs.size := Heap.lt_size h1
    have ilt : it < s.heap.objs.size := by obtain ⟨_, q, _⟩ := h2; exact Heap.lt_size q
    refine wpAny_pyNext_enum_item h1 h2 p.isList (x := u) (by simpa using hu) hne fun h' ho hit hT hsz kk => ⟨_, rfl, ?_⟩
    have I1 : Inv X pins σ H { s with heap := h', toks := s.toks + 1 } := I.turnedL (ch := [e, it]) (fun b o hb q => kk b o (fun z => hb (by simp [z])) (fun z => hb (by simp [z])) q) hf
    refine wpAny_letOwnedTupleGo_enum ho fun h2' he' hs' => ?_
    have I2 := I1.turnedL (h' := h2') (t' := s.toks + 1) (ch := [e]) (fun b o hb q => hs'.extBut b o (fun z => hb (by simp [z])) q) fun b hb => hf b (by
      rcases List.mem_singleton.mp hb with rfl
      simp)
    have nT : H s.heap.objs.size = none := I.hok.fresh (Nat.le_refl _)
    have I3 := I2.pairAt (T := s.heap.objs.size) (a := .int i) (b := x) (I.fpOk (Nat.le_refl _) nT) (hs'.extBut _ _ (Nat.ne_of_gt elt) hT) ⟨_, rfl⟩ ru
    refine ⟨.ref s.heap.objs.size, _, I3, rfl, ⟨_, nT, rfl, fun ys y hy hyi => ?_⟩, ⟨⟨u, ?_⟩, ?_⟩, fun b hb => ?_⟩
    · have e1 := I.list_inj hy hq
      subst e1
      rw [hx] at hyi
      cases hyi
      rfl
    · have ec : ((i + 1 : Nat) : Int) = (i : Int) + 1 := by omega
      rw [ec]
      exact he'
    · exact hit.at fun o q => hs'.extBut it o (Ne.symm hne) q
    · rw [upd_ne ?_]
      · exact (hf b hb).1
      · rcases List.mem_cons.mp hb with q | q
        · rw [q]
          exact Nat.ne_of_lt elt
        · rw [show b = it by simpa using q]
          exact Nat.ne_of_lt ilt
  done := by
    intro X hP hw hK hc i pins s σ H E I hf st hg
    subst hP hw hK
    obtain ⟨⟨old, h1⟩, h2⟩ := st
    obtain ⟨xs, hq, hx⟩ := hg
    obtain ⟨its, rv, p, hz⟩ := I.list hq
    have hl := rv.length
    refine wpAny_pyNext_enum_end (I.ok.hd hc) h1 h2 p.isList (by simp; omega) fun h' eb => ⟨rfl, ?_⟩
    exact I.turnedL (t' := s.toks) (ch := [e, it]) (fun b o hb q => eb b o (fun z => hb (by simp [z])) q) hf
  self := fun _ _ _ _ _ st h => by
    obtain ⟨⟨old, h1⟩, _⟩ := st
    exact wpAny_pyIter_enum h1 h

section
variable {X : Cx} {elts : List Expr} {k : Nat} {tp : Pos}
/-- enumerate(l), l tracked or the script -/
def iEnum (K : PySem.W.Frag) (ta : TA) : TI := fun σ H R => ta σ H fun vs H1 => ∃ a, vs = [.ref a] ∧ (∃ xs, Rd H1 a (.lst xs)) ∧ R (Ite K a) H1
theorem pi_enum {e : Expr} {ta : TA} {p pos : Pos} (hg : Gl X "enumerate") (hm : X.mg "enumerate" = none) (ha : PA X [e] ta) (hs : starEach [e] X.env = [(false, eval e X.env)] := by rfl) :
    PI X (.Tuple elts k tp) (.Call (.Name "enumerate" p) [e] [] pos) (iEnum X.K ta) := by
  intro pins s σ H R I h
  refine Call_ (ld_blt I hg hm (by decide +kernel : bootBuiltins "enumerate" = some (.type "enumerate")) (PyProof.Rows.callWith_type1 (thn (ha pos pins s σ H _ I h) fun us s1 ⟨vs, H1, I1, r1, q1⟩ => ?_) hs rfl))
  obtain ⟨a, e1, ⟨xs, hr⟩, q⟩ := q1
  subst e1
  obtain ⟨u, rfl, ru⟩ := vals1 r1
  cases ru
  obtain ⟨z, its, n, rv, ho⟩ := hr.ok I1.hok
  refine call_enumerate_1 ho fun h' he hit hsz kk => ?_
  refine wpAny_pyIter_enum he ?_
  have I2 : Inv X pins σ H1 { s1 with heap := h' } := I1.kept (t' := s1.toks) kk
  refine ⟨s1.heap.objs.size + 1, [s1.heap.objs.size + 1, s1.heap.objs.size], _, _, H1, rfl, I2, turn_enum a _ _ (Nat.ne_of_gt (Nat.lt_succ_self _)), ⟨⟨.none, he⟩, hit⟩, fun b hb => ?_, q⟩
  rcases List.mem_cons.mp hb with z1 | z1
  · rw [z1]
    exact I1.fpOk (Nat.le_succ _) (I1.hok.fresh (Nat.le_succ _))
  · rw [show b = s1.heap.objs.size by simpa using z1]
    exact I1.fpOk (Nat.le_refl _) (I1.hok.fresh (Nat.le_refl _))
end
theorem comp_enum {K : PySem.W.Frag} {a : Addr} {xs : List V} {σ0 : St} {te : TE} {H1 : Hp} {R : List V → Hp → Prop} (hq : SqL K H1 a xs) (f : Nat → V) (hz : xs.length ≤ sizeLine)
    (ht : ∀ (i : Nat) x H, xs[i]? = some x → Same H1 H → te ((σ0.set 0 (some (.int (i : Int)))).set 1 (some x)) H fun y H3 => (List.range i).map f ++ [y] = (List.range (i + 1)).map f ∧ Same H1 H3)
    (hR : ∀ H, Same H1 H → R ((List.range xs.length).map f) H) : CompR (Ite K a) σ0 (gPair K) te H1 R :=
  comp_by xs.length f hz (fun i H hi sm => ⟨xs, xs[i], sm.seq hq, by simp [hi]⟩) (fun H sm => ⟨xs, sm.seq hq, Nat.le_refl _⟩) (fun i H x H' hi sm y => by
    obtain ⟨p, hp, e1, e2⟩ := y
    have hx : xs[i]? = some xs[i] := by simp [hi]
    have e3 := e2 xs _ (sm.seq hq) hx
    subst e1 e3
    exact pair_go upd_same (ht i _ _ hx (sm.trans (same_new hp _)))) hR
theorem for_enum {K : PySem.W.Frag} {a : Addr} {xs : List V} {tb : TS} {D : Ends} {σ : St} {H : Hp} {g : TG} (Pv : Nat → St → Hp → Prop) (h0 : Pv 0 σ H) (hl : ∀ i σ H, i ≤ xs.length → Pv i σ H → SqL K H a xs)
    (hs : ∀ (i : Nat) x σ H p, xs[i]? = some x → Pv i σ H → H p = none → g (.ref p) σ (upd H p (.tup [.int (i : Int), x])) fun σ2 H2 => tb { D with nx := Pv (i + 1), ct := Pv (i + 1), bk := D.nx } σ2 H2) (hd : ∀ σ H, Pv xs.length σ H → D.nx σ H) :
    ∃ W : Nat → Nat → St → Hp → Prop, (∃ m, W 0 m σ H) ∧ ∀ i m σ H, W i m σ H →
      ((Ite K a).stop i H ∧ D.nx σ H) ∨ ((Ite K a).go i H ∧ ∃ N : St → Hp → Prop, (∀ σ' H', N σ' H' → ∃ m', m' < m ∧ W (i + 1) m' σ' H') ∧ ∀ x H', (Ite K a).yld i H x H' → g x σ H' fun σ2 H2 => tb { D with nx := N, ct := N, bk := D.nx } σ2 H2) := by
  refine ⟨fun i m σ H => m = xs.length - i ∧ i ≤ xs.length ∧ Pv i σ H, ⟨xs.length, by simp, Nat.zero_le _, h0⟩, ?_⟩
  rintro i m σ H ⟨rfl, hi, p⟩
  have q := hl i σ H hi p
  by_cases hlt : i < xs.length
  · have hx : xs[i]? = some xs[i] := by simp [hlt]
    refine .inr ⟨⟨xs, xs[i], q, hx⟩, Pv (i + 1), fun σ' H' p' => ⟨xs.length - (i + 1), by omega, rfl, hlt, p'⟩, fun x H' y => ?_⟩
    obtain ⟨p', hp, e1, e2⟩ := y
    have e3 := e2 xs _ q hx
    subst e1 e3
    exact hs i _ σ H p' hx p hp
  · have e : i = xs.length := by omega
    subst e
    exact .inl ⟨⟨xs, q, Nat.le_refl _⟩, hd σ H p⟩

/-! ### reversed(a list) -/
theorem rev_get {α : Type} {xs : List α} {i : Nat} {x : α} (h : xs.reverse[i]? = some x) : i < xs.length ∧ xs[xs.length - 1 - i]? = some x := by
  have hi : i < xs.reverse.length := (List.getElem?_eq_some_iff.mp h).1
  rw [List.length_reverse] at hi
  refine ⟨hi, ?_⟩
  rw [List.getElem?_reverse hi] at h
  exact h
section
variable {X : Cx} {x : Str} {xp : Pos}
end
/-! ### range(a, b, c), c > 0, and reversed(range(n)) -/
end L2

set_option Elab.async false
set_option linter.all false
set_option maxRecDepth 100000
namespace L2
open PySem PySem.Spec PyProof.Rows

/-! ### sum, all, any of a list -/
section
variable {X : Cx}
theorem call_sum (hc : X.calm = true) : CallR X (.builtin "sum") (fun xs H Q => ∃ (p : Addr) (ns : List Int), xs = [.ref p] ∧ SqL X.K H p (ns.map V.int) ∧ Q (.int (List.sum ns)) H) := by
  intro pins s σ H xs us Q I r h
  obtain ⟨p, ns, rfl, hq, q⟩ := h
  obtain ⟨u, rfl, rx⟩ := vals1 r
  cases rx
  obtain ⟨its, rv, pl, hz⟩ := I.list hq
  have hi : IntsAre its ns := intsAre_of rv
  obtain ⟨ys, hx⟩ := hi.allInts.items
  have hl' : s.heap.IsList p (intItems ys) := hx ▸ pl.isList
  refine sum_intListG (I.ok.hd hc) hl' fun h' tk t' hk => ⟨.int ns.sum, H, I.kept hk, ⟨t', ?_⟩, q⟩
  have e1 : ns = ys.toList.map (·.1) := by
    rw [← nums_intItems, ← hx]
    exact (show numsOf its.toArray.toList = ns from hi.numsOf).symm
  rw [preSum_eq, List.take_of_length_le (by simp), e1]
theorem bools_of {bs : List Bool} : ∀ {us : List Value}, Vals (bs.map V.bl) us → LSm.BoolsAre us bs := by
  induction bs with
  | nil => intro us r; rw [List.map_nil] at r; cases r; exact .nil
  | cons b bs ih =>
    intro us r
    rw [List.map_cons] at r
    cases r with
    | cons r1 r2 =>
      cases (show _ = Value.bool b from r1)
      exact .cons b (ih r2)
theorem call_all (hc : X.calm = true) : CallR X (.builtin "all") (fun xs H Q => ∃ (p : Addr) (bs : List Bool), xs = [.ref p] ∧ SqL X.K H p (bs.map V.bl) ∧ Q (.bl (bs.all id)) H) := by
  intro pins s σ H xs us Q I r h
  obtain ⟨p, bs, rfl, hq, q⟩ := h
  obtain ⟨u, rfl, rx⟩ := vals1 r
  cases rx
  obtain ⟨its, rv, pl, hz⟩ := I.list hq
  have hb := bools_of rv
  have hl := pl.isList
  have hlt : p < s.heap.objs.size := by obtain ⟨_, e, _⟩ := hl; exact Heap.lt_size e
  refine call_all_walk (wpAny_pyIter_list hl ⟨s.heap.objs.size, [s.heap.objs.size, p], [s.heap.objs.size], its.toArray.size, _, _, fun i => (bs[i]?).getD true, rfl,
    Walks.list (A := X.A.in1) (I.ok.hd hc) _ p (Nat.ne_of_lt hlt) its.toArray, ⟨⟨_, Heap.get?_push_size _ rfl, rfl, rfl⟩, hl.push _⟩, fun i v s' Q' E' hP hQ => ?_, fun h' tk hk => ?_⟩)
  · obtain ⟨b, e, rfl⟩ := hb.get i v (by simpa using hP)
    simp only [e, Option.getD_some] at hQ
    exact wpAny_truthy_bool hQ
  · refine ⟨.bl (bs.all id), H, I.kept (LSm.kept_iter hk), ?_, q⟩
    show Value.bool _ = Value.bool _
    rw [List.size_toArray, hb.length, LSm.range_all]
theorem call_any (hc : X.calm = true) : CallR X (.builtin "any") (fun xs H Q => ∃ (p : Addr) (bs : List Bool), xs = [.ref p] ∧ SqL X.K H p (bs.map V.bl) ∧ Q (.bl (bs.any id)) H) := by
  intro pins s σ H xs us Q I r h
  obtain ⟨p, bs, rfl, hq, q⟩ := h
  obtain ⟨u, rfl, rx⟩ := vals1 r
  cases rx
  obtain ⟨its, rv, pl, hz⟩ := I.list hq
  have hb := bools_of rv
  have hl := pl.isList
  have hlt : p < s.heap.objs.size := by obtain ⟨_, e, _⟩ := hl; exact Heap.lt_size e
  refine call_any_walk (wpAny_pyIter_list hl ⟨s.heap.objs.size, [s.heap.objs.size, p], [s.heap.objs.size], its.toArray.size, _, _, fun i => (bs[i]?).getD false, rfl,
    Walks.list (A := X.A.in1) (I.ok.hd hc) _ p (Nat.ne_of_lt hlt) its.toArray, ⟨⟨_, Heap.get?_push_size _ rfl, rfl, rfl⟩, hl.push _⟩, fun i v s' Q' E' hP hQ => ?_, fun h' tk hk => ?_⟩)
  · obtain ⟨b, e, rfl⟩ := hb.get i v (by simpa using hP)
    simp only [e, Option.getD_some] at hQ
    exact wpAny_truthy_bool hQ
  · refine ⟨.bl (bs.any id), H, I.kept (LSm.kept_iter hk), ?_, q⟩
    show Value.bool _ = Value.bool _
    rw [List.size_toArray, hb.length, LSm.range_any]

/-! ### isinstance -/
theorem call_isi : CallR X (.builtin "isinstance") (fun xs H Q => ∃ x T t b, xs = [x, .ty T] ∧ TyOf X.K H x t ∧ PySem.W.kitOne X.K t (.type T) = some b ∧ Q (.bl b) H) := by
  intro pins s σ H xs us Q I r h
  obtain ⟨x, T, t, b, rfl, ty, e, q⟩ := h
  obtain ⟨u, w', rfl, rx, ry⟩ := vals2 r
  cases (show w' = Value.type T from ry)
  exact isinst_ok I rx ty e fun tk => ⟨.bl b, H, I.tok tk, rfl, q⟩
/-- a built-in type's name as a value -/
theorem pe_ty {x : Str} {T : String} {pos : Pos} (hg : Gl X x) (hm : X.mg x = none) (hv : bootBuiltins x = some (.type T)) (hn : x ≠ "__name__" := by decide) (hd : (x == ("__debug__" : Str)) = false := by decide) :
    PE X (.Name x pos) (tC (.ty T)) := pe_bltn hg hm hv rfl hn hd

/-! ### is True, is not True -/
/-! ### lists of ints compared; lists of two such -/
theorem op_eqL (hu : X.A.units + 64 < cLine) : OpR X (compareOp .Eq) (fun x y H Q => ∃ (a b : Addr) (ns ms : List Int), x = .ref a ∧ y = .ref b ∧ SqL X.K H a (ns.map V.int) ∧ SqL X.K H b (ms.map V.int) ∧ Q (.bl (decide (ns = ms))) H) := by
  intro pins s σ H x y v u Q I rx ry h
  obtain ⟨a, b, ns, ms, rfl, rfl, ha, hb, q⟩ := h
  cases rx
  cases ry
  obtain ⟨its, r1, p1, _⟩ := I.list ha
  obtain ⟨its2, r2, p2, _⟩ := I.list hb
  exact PySem.W.ke_eq_ints p1.isList p2.isList (intsAre_of r1) (intsAre_of r2) hu ⟨.bl _, H, I, rfl, q⟩
theorem op_neL (hu : X.A.units + 64 < cLine) : OpR X (compareOp .NotEq) (fun x y H Q => ∃ (a b : Addr) (ns ms : List Int), x = .ref a ∧ y = .ref b ∧ SqL X.K H a (ns.map V.int) ∧ SqL X.K H b (ms.map V.int) ∧ Q (.bl (!decide (ns = ms))) H) := by
  intro pins s σ H x y v u Q I rx ry h
  obtain ⟨a, b, ns, ms, rfl, rfl, ha, hb, q⟩ := h
  cases rx
  cases ry
  obtain ⟨its, r1, p1, _⟩ := I.list ha
  obtain ⟨its2, r2, p2, _⟩ := I.list hb
  exact PySem.W.ke_ne_ints p1.isList p2.isList (intsAre_of r1) (intsAre_of r2) hu ⟨.bl _, H, I, rfl, q⟩
/-! ### xs[::-1] -/
def rSlRev (K : PySem.W.Frag) : V → Hp → VK → Prop := fun x H Q => ∃ a xs, x = .ref a ∧ SqL K H a xs ∧ ∀ p, H p = none → Q (.ref p) (upd H p (.lst xs.reverse))
theorem pe_sliceRev {e st : Expr} {te ts : TE} {pos p2 : Pos} (he : PE X e te) (hs : PE X st ts) :
    PE X (.Subscript e (.Slice none none (some st) p2) pos) (fun σ H Q => te σ H fun x H1 => ts σ H1 fun y H2 => y = .int (-1) ∧ rSlRev X.K x H2 Q) := by
  intro pins s σ H Q I h
  refine Subscript_ (thn (he pins s σ H _ I h) fun v s1 ⟨x, H1, I1, r1, q1⟩ => ?_)
  refine wpAny_Slice ?_
  rw [evalPart_none]
  refine wpAny_pure ?_
  refine wpAny_pure ?_
  rw [evalPart_some]
  refine thn (hs pins s1 σ H1 _ I1 q1) fun vk s3 ⟨y, H3, I3, ry, ey, a, xs, ex, hx, q3⟩ => ?_
  subst ey ex
  obtain ⟨tk, rfl⟩ := ry
  cases r1
  have I4 : Inv X pins σ H3 { s3 with heap := s3.heap.push { cls := .type "slice", data := .fields #[.none, .none, .int (-1) tk] } } := I3.kept (t' := s3.toks) fun b ob q => Heap.get?_push_of_some _ q
  obtain ⟨its, r, ht, hz⟩ := I4.list hx
  have hlen := r.length
  show wpAny (model X.prog X.w) X.A (subscriptTail e (.Slice none none (some st) p2) (.ref a) (.ref s3.heap.objs.size)) (EP X pins σ Q) X.xe { s3 with heap := s3.heap.push { cls := .type "slice", data := .fields #[.none, .none, .int (-1) tk] } }
  refine tail_any (ops := [.ref a, .ref s3.heap.objs.size]) ht.isList.typeIs slot_list_getitem.lookup ?_ (by with_unfolding_all rfl)
  refine wpAny_getItem_list_slice ht.isList (Heap.IsSliceOf.new ..) .none .none (.int (-1) tk) (by simp) ?_ (by rw [List.size_toArray] <;> omega)
  rw [PySem.W.krv_pick]
  refine ⟨.ref (s3.heap.push { cls := .type "slice", data := .fields #[.none, .none, .int (-1) tk] }).objs.size, _, I4.laid (t' := s3.toks) (o := .lst xs.reverse) (fun b ob q => Heap.get?_push_of_some _ q) (Nat.le_refl _) ?_, rfl, q3 _ (I4.hok.fresh (Nat.le_refl _))⟩
  exact ⟨by rw [List.length_reverse]; exact hz, its.reverse, 0, r.reverse, Heap.get?_push_size _ rfl⟩

/-! ### range(a, b, c) with c > 0; reversed(range(n)) -/
variable {tg : Expr}
theorem vals3 {x y z : V} {us : List Value} (r : Vals [x, y, z] us) : ∃ u v w', us = [u, v, w'] ∧ RelV x u ∧ RelV y v ∧ RelV z w' := by
  cases r with
  | cons r1 r2 =>
    obtain ⟨v, w', rfl, h1, h2⟩ := vals2 r2
    exact ⟨_, _, _, rfl, r1, h1, h2⟩
end
end L2

set_option Elab.async false
set_option linter.all false
set_option maxRecDepth 100000
namespace L2
open PySem PySem.Spec PyProof.Rows

/-! ### the next item of a reversed list, as zip asks for it -/
section
variable {prog : Program} {w : World} {A : Around} {E : Value → Shared → Prop} {s : Shared}
theorem nextOf_rev {it l : Addr} {i : Nat} {items : Array Value} {x : Value} {Q : Value → Shared → Prop} (hit : s.heap.IsRevIter it l (i : Int)) (hl : s.heap.IsList l items) (hx : items[i]? = some x)
    (hQ : ∀ h', h'.IsRevIter it l ((i : Int) - 1) → Heap.SameBut it s.heap h' → Q x { s with heap := h' }) : wpAny (model prog w) A (Builtin.SmallTypes.nextOf (.ref it)) Q E s := by
  obtain ⟨ob, hob, hcl, hda⟩ := id hit
  obtain ⟨ol, hol, _, nl, hdl⟩ := hl
  unfold Builtin.SmallTypes.nextOf
  refine wpAny_bind (wpAny_callSpecial?_slot (name := Str.ofString "__next__") hit.typeIs F.slot_lri_next (wpAny_call_entry F.slot_lri_next hit.typeIs F.entry_lri_next ?_ (F.args_lri_next_1 _)))
  unfold Builtin.«list_reverseiterator.__next__»
  refine wpAny_bind (wpAny_of_eq (a := (Value.ref it, [])) rfl ?_)
  try dsimp only
  refine wpAny_bind (wpAny_field hob hda (x := rawInt (i : Int)) rfl ?_)
  show wpAny _ _ (if (i : Int) < 0 then _ else _) _ _ s
  rw [if_neg (by omega)]
  show wpAny _ _ (field (.ref it) 0 >>= _) _ _ s
  refine wpAny_bind (wpAny_field hob hda (x := .ref l) rfl ?_)
  show wpAny _ _ (seqItems? (.ref l) >>= _) _ _ s
  refine wpAny_bind (wpAny_seqItems hol hdl ?_)
  simp only [Int.toNat_natCast, hx]
  refine wpAny_bind (wpAny_setField hob hda (by simp) ?_)
  first
  | refine wpAny_pure ⟨x, rfl, wpAny_pure (hQ _ ?_ (Heap.SameBut.update ..))⟩
  | refine wpAny_bind (wpAny_pure (wpAny_pure ⟨x, rfl, wpAny_pure (hQ _ ?_ (Heap.SameBut.update ..))⟩))
  exact ⟨_, Heap.get?_update_self _ hob (Obj.isFreed_of_fields (Obj.data_mapFields hda _)), (Obj.cls_mapFields ..).trans hcl, by rw [Obj.data_mapFields hda]; simp⟩
theorem nextOf_rev_end {it l : Addr} {Q : Value → Shared → Prop} (hh : A.handled = none) (hit : s.heap.IsRevIter it l (-1))
    (hE : ∀ h' e, Heap.ExtBut it s.heap h' → (∃ o, h'.get? e = some o ∧ o.cls = .type "StopIteration") → E (.ref e) { s with heap := h' }) : wpAny (model prog w) A (Builtin.SmallTypes.nextOf (.ref it)) Q E s := by
  obtain ⟨ob, hob, hcl, hda⟩ := id hit
  unfold Builtin.SmallTypes.nextOf
  refine wpAny_bind (wpAny_callSpecial?_slot (name := Str.ofString "__next__") hit.typeIs F.slot_lri_next (wpAny_call_entry F.slot_lri_next hit.typeIs F.entry_lri_next ?_ (F.args_lri_next_1 _)))
  unfold Builtin.«list_reverseiterator.__next__»
  refine wpAny_bind (wpAny_of_eq (a := (Value.ref it, [])) rfl ?_)
  try dsimp only
  refine wpAny_bind (wpAny_field hob hda (x := rawInt (-1)) rfl ?_)
  show wpAny _ _ (if (-1 : Int) < 0 then _ else _) _ _ s
  rw [if_pos (by decide)]
  refine wpAny_bind (wpAny_rule ?_)
  first
  | show wpAny _ _ (newExc (.type "StopIteration") [] >>= _) _ _ _
  | (refine wpAny_bind ?_; show wpAny _ _ (newExc (.type "StopIteration") [] >>= _) _ _ _)
  refine wpAny_bind ?_
  simp only [newExc, newTuple]
  refine wpAny_bind (wpAny_newObj_type ?_ (by size_fits))
  refine wpAny_bind (m := firstArgMember _ _) (wpAny_of_eq (a := Value.none) (by first | rfl | (simp only [firstArgMember]; rfl)) ?_)
  refine wpAny_newObj_type ?_ (by size_fits)
  simp only [raiseNew]
  refine wpAny_bind (wpAny_handled ?_)
  first | rw [show A.in1.handled = none from hh] | rw [hh]
  refine wpAny_bind (wpAny_pure (wpAny_throw ?_))
  exact hE _ _ (((Heap.ExtBut.refl _ _).push _).push _) ⟨_, Heap.get?_push_size _ rfl, rfl⟩
end

/-! ### zip(a reversed list's iterator, a list) -/
structure ZA (z TI TO i1 i2 : Addr) : Prop where
  TIz : TI ≠ z
  TOz : TO ≠ z
  i1z : i1 ≠ z
  i2z : i2 ≠ z
  TITO : TI ≠ TO
  TIi1 : TI ≠ i1
  TIi2 : TI ≠ i2
  TOi1 : TO ≠ i1
  TOi2 : TO ≠ i2
  i12 : i1 ≠ i2
structure ZL (z TO i1 i2 l : Addr) : Prop where
  z : l ≠ z
  TO : l ≠ TO
  i1 : l ≠ i1
  i2 : l ≠ i2
section
variable {prog : Program} {w : World} {A : Around} {E : Value → Shared → Prop} {s : Shared}
theorem zr_item {z TI TO i1 i2 l1 l2 : Addr} {k1 k2 : Nat} {xs ys : Array Value} {x y a b : Value} {Q : Option Value → Shared → Prop} (D : ZA z TI TO i1 i2) (L1 : ZL z TO i1 i2 l1) (L2 : ZL z TO i1 i2 l2)
    (hz : IsZip s.heap z TI TO .none) (hTI : IsPair s.heap TI (.ref i1) (.ref i2)) (hTO : IsPair s.heap TO a b)
    (h1 : s.heap.IsRevIter i1 l1 (k1 : Int)) (h2 : s.heap.IsListIter i2 l2 k2) (hl1 : s.heap.IsList l1 xs) (hl2 : s.heap.IsList l2 ys) (hx : xs[k1]? = some x) (hy : ys[k2]? = some y)
    (hQ : ∀ h', IsZip h' z TI TO (rawInt s.heap.objs.size) → IsPair h' TO x y → h'.IsRevIter i1 l1 ((k1 : Int) - 1) → h'.IsListIter i2 l2 (k2 + 1) → IsPair h' s.heap.objs.size x y → h'.objs.size = s.heap.objs.size + 1 →
      (∀ c o, c ≠ z → c ≠ TO → c ≠ i1 → c ≠ i2 → s.heap.get? c = some o → h'.get? c = some o) → Q (some (.ref s.heap.objs.size)) { s with heap := h' }) :
    wpAny (model prog w) A (pyNext (.ref z)) Q E s := by
  have hT : s.TypeIs (.ref z) "zip" := ⟨_, hz, rfl⟩
  unfold pyNext
  refine wpAny_bind (wpAny_attempt (wpAny_callSpecial?_slot (name := Str.ofString "__next__") hT F.slot_zip_next (wpAny_call_entry F.slot_zip_next hT F.entry_zip_next ?_ (F.args_zip_next_1 _))))
  show wpAny _ _ (field (.ref z) 2 >>= _) _ _ _
  refine wpAny_bind (wpAny_field hz rfl (x := .bool false) rfl ?_)
  show wpAny _ _ (field (.ref z) 3 >>= _) _ _ _
  refine wpAny_bind (wpAny_field hz rfl (x := .ref TI) rfl ?_)
  refine wpAny_bind (wpAny_seqItems hTI rfl ?_)
  show wpAny _ _ (Builtin.SmallTypes.ownedTupleIsFree (.ref z) >>= _) _ _ _
  refine wpAny_bind ?_
  unfold Builtin.SmallTypes.ownedTupleIsFree
  refine wpAny_bind (wpAny_field hz rfl (x := .none) rfl (wpAny_pure ?_))
  simp only [if_true]
  refine wpAny_bind (wpAny_rule ?_)
  refine wpAny_bind (wpAny_field hz rfl (x := .ref TO) rfl ?_)
  refine wpAny_bind (wpAny_setField_rec hz (by simp) fun g1 hz1 sb1 => ?_)
  replace hz1 : IsZip g1 z TI TO .ellipsis := hz1
  refine wpAny_bind ?_
  simp only [List.zipIdx_cons, List.zipIdx_nil, List.forIn_cons, List.forIn_nil]
  refine wpAny_bind (wpAny_bind (wpAny_onRaise ?_))
  show wpAny _ _ (Builtin.SmallTypes.nextOf (.ref i1) >>= _) _ _ _
  refine wpAny_bind (nextOf_rev (h1.at fun o e => sb1.extBut _ o D.i1z e) (hl1.extBut sb1.extBut L1.z) hx fun g2 r2 sb2 => wpAny_pure ?_)
  have to2 : IsPair g2 TO a b := sb2.extBut _ _ D.TOi1 (sb1.extBut _ _ D.TOz hTO)
  refine wpAny_bind (wpAny_seqItems to2 rfl ?_)
  refine wpAny_bind (wpAny_updateSeq_pair to2 fun g3 to3 sb3 => ?_)
  replace to3 : IsPair g3 TO x b := to3
  refine wpAny_bind (wpAny_letGo (wpAny_pure ?_))
  refine wpAny_bind (wpAny_bind (wpAny_onRaise ?_))
  show wpAny _ _ (Builtin.SmallTypes.nextOf (.ref i2) >>= _) _ _ _
  refine wpAny_bind (wpAny_nextOf_list_item (((h2.extBut sb1.extBut D.i2z).extBut sb2.extBut D.i12.symm).extBut sb3.extBut D.TOi2.symm)
    (((hl2.extBut sb1.extBut L2.z).extBut sb2.extBut L2.i1).extBut sb3.extBut L2.TO) hy fun g4 r4 sb4 => wpAny_pure ?_)
  have to4 : IsPair g4 TO x b := sb4.extBut _ _ D.TOi2 to3
  refine wpAny_bind (wpAny_seqItems to4 rfl ?_)
  refine wpAny_bind (wpAny_updateSeq_pair to4 fun g5 to5 sb5 => ?_)
  replace to5 : IsPair g5 TO x y := to5
  refine wpAny_bind (wpAny_letGo (wpAny_pure (wpAny_pure ?_)))
  refine wpAny_bind (wpAny_seqItems to5 rfl ?_)
  refine wpAny_bind (wpAny_newTuple ?_)
  have hsz : g5.objs.size = s.heap.objs.size := by rw [sb5.1, sb4.1, sb3.1, sb2.1, sb1.1]
  have z5 : IsZip g5 z TI TO .ellipsis := sb5.extBut _ _ D.TOz.symm (sb4.extBut _ _ D.i2z.symm (sb3.extBut _ _ D.TOz.symm (sb2.extBut _ _ D.i1z.symm hz1)))
  have k5 : ∀ c o, c ≠ z → c ≠ TO → c ≠ i1 → c ≠ i2 → s.heap.get? c = some o → g5.get? c = some o := fun c o c1 c2 c3 c4 e =>
    sb5.extBut _ _ c2 (sb4.extBut _ _ c4 (sb3.extBut _ _ c2 (sb2.extBut _ _ c3 (sb1.extBut _ _ c1 e))))
  have r5 : g5.IsRevIter i1 l1 ((k1 : Int) - 1) := r2.at fun o e => sb5.extBut _ o D.TOi1.symm (sb4.extBut _ o D.i12 (sb3.extBut _ o D.TOi1.symm e))
  have q5 : g5.IsListIter i2 l2 (k2 + 1) := r4.extBut sb5.extBut D.TOi2.symm
  have hzlt : z < g5.objs.size := Heap.lt_size z5
  show wpAny _ _ (Builtin.SmallTypes.ownedTupleHandOut (.ref z) (.ref g5.objs.size) >>= _) _ _ _
  refine wpAny_bind ?_
  unfold Builtin.SmallTypes.ownedTupleHandOut
  have z6 : IsZip (g5.push { cls := .type "tuple", data := .seq #[x, y] }) z TI TO .ellipsis := Heap.get?_push_of_some _ z5
  refine wpAny_bind (wpAny_setField_rec z6 (by simp) fun g7 z7 sb7 => ?_)
  replace z7 : IsZip g7 z TI TO (rawInt g5.objs.size) := z7
  refine wpAny_setField_rec z7 (by simp) fun g8 z8 sb8 => ?_
  replace z8 : IsZip g8 z TI TO (rawInt g5.objs.size) := z8
  have up : ∀ c o, c ≠ z → g5.get? c = some o → g8.get? c = some o := fun c o c1 e => sb8.extBut _ _ c1 (sb7.extBut _ _ c1 (Heap.get?_push_of_some _ e))
  have t8 : IsPair g8 g5.objs.size x y := sb8.extBut _ _ (Nat.ne_of_gt hzlt) (sb7.extBut _ _ (Nat.ne_of_gt hzlt) (Heap.get?_push_size _ rfl))
  have n8 : g8.objs.size = g5.objs.size + 1 := by rw [sb8.1, sb7.1, Heap.size_push]
  rw [hsz] at z8 t8 n8
  refine wpAny_pure ⟨_, rfl, ?_⟩
  refine wpAny_pure ?_
  show Q (some (.ref g5.objs.size)) _
  rw [hsz]
  exact hQ g8 z8 (up _ _ D.TOz to5) (r5.at fun o e => up _ o D.i1z e) (q5.at fun o e => up _ o D.i2z e) t8 n8 fun c o c1 c2 c3 c4 e => up c o c1 (k5 c o c1 c2 c3 c4 e)
theorem zr_end {z TI TO i1 i2 l1 l2 : Addr} {k1 : Int} {k2 : Nat} {xs ys : Array Value} {a b : Value} {Q : Option Value → Shared → Prop} (hh : A.handled = none) (D : ZA z TI TO i1 i2) (L1 : ZL z TO i1 i2 l1) (L2 : ZL z TO i1 i2 l2)
    (hz : IsZip s.heap z TI TO .none) (hTI : IsPair s.heap TI (.ref i1) (.ref i2)) (hTO : IsPair s.heap TO a b)
    (h1 : s.heap.IsRevIter i1 l1 k1) (h2 : s.heap.IsListIter i2 l2 k2) (hl1 : s.heap.IsList l1 xs) (hl2 : s.heap.IsList l2 ys) (hend : k1 = -1 ∨ (∃ (j : Nat) (x : Value), k1 = (j : Int) ∧ xs[j]? = some x) ∧ ys[k2]? = none)
    (hQ : ∀ h', (∀ c o, c ≠ z → c ≠ TO → c ≠ i1 → c ≠ i2 → s.heap.get? c = some o → h'.get? c = some o) → Q none { s with heap := h' }) :
    wpAny (model prog w) A (pyNext (.ref z)) Q E s := by
  have hT : s.TypeIs (.ref z) "zip" := ⟨_, hz, rfl⟩
  have stop : ∀ (h' : Heap) (e : Addr), (∀ c o, c ≠ z → c ≠ TO → c ≠ i1 → c ≠ i2 → s.heap.get? c = some o → h'.get? c = some o) → (∃ o, h'.get? e = some o ∧ o.cls = .type "StopIteration") →
      wpAny (model prog w) A (do let c ← isInstance (.ref e) (.type "StopIteration"); if c = true then pure none else throw (.ref e) : Sem (Option Value)) Q E { s with heap := h' } := fun h' e hk he => by
    obtain ⟨o, ho, hc⟩ := he
    refine wpAny_bind (wpAny_isInstance (T := "StopIteration") (b := true) ⟨o, ho, hc⟩ isSubtype_stop ?_)
    exact wpAny_pure (hQ _ hk)
  unfold pyNext
  refine wpAny_bind (wpAny_attempt (wpAny_callSpecial?_slot (name := Str.ofString "__next__") hT F.slot_zip_next (wpAny_call_entry F.slot_zip_next hT F.entry_zip_next ?_ (F.args_zip_next_1 _))))
  show wpAny _ _ (field (.ref z) 2 >>= _) _ _ _
  refine wpAny_bind (wpAny_field hz rfl (x := .bool false) rfl ?_)
  show wpAny _ _ (field (.ref z) 3 >>= _) _ _ _
  refine wpAny_bind (wpAny_field hz rfl (x := .ref TI) rfl ?_)
  refine wpAny_bind (wpAny_seqItems hTI rfl ?_)
  show wpAny _ _ (Builtin.SmallTypes.ownedTupleIsFree (.ref z) >>= _) _ _ _
  refine wpAny_bind ?_
  unfold Builtin.SmallTypes.ownedTupleIsFree
  refine wpAny_bind (wpAny_field hz rfl (x := .none) rfl (wpAny_pure ?_))
  simp only [if_true]
  refine wpAny_bind (wpAny_rule ?_)
  refine wpAny_bind (wpAny_field hz rfl (x := .ref TO) rfl ?_)
  refine wpAny_bind (wpAny_setField_rec hz (by simp) fun g1 hz1 sb1 => ?_)
  replace hz1 : IsZip g1 z TI TO .ellipsis := hz1
  refine wpAny_bind ?_
  simp only [List.zipIdx_cons, List.zipIdx_nil, List.forIn_cons, List.forIn_nil]
  refine wpAny_bind (wpAny_bind (wpAny_onRaise ?_))
  show wpAny _ _ (Builtin.SmallTypes.nextOf (.ref i1) >>= _) _ _ _
  rcases hend with rfl | ⟨⟨j, x, rfl, hx⟩, hy⟩
  · refine wpAny_bind (nextOf_rev_end hh (h1.at fun o e => sb1.extBut _ o D.i1z e) fun g2 e sb2 he => ?_)
    obtain ⟨oe, hoe, hce⟩ := he
    have z2 : IsZip g2 z TI TO .ellipsis := sb2 _ _ D.i1z.symm hz1
    have hez : e ≠ z := fun q => by subst q; rw [z2] at hoe; cases hoe; simp at hce
    refine wpAny_setField_rec z2 (by simp) fun g3 _ sb3 => stop g3 e (fun c o c1 _ c3 _ q => sb3.extBut _ _ c1 (sb2 _ _ c3 (sb1.extBut _ _ c1 q))) ⟨oe, sb3.extBut _ _ hez hoe, hce⟩
  · refine wpAny_bind (nextOf_rev (h1.at fun o e => sb1.extBut _ o D.i1z e) (hl1.extBut sb1.extBut L1.z) hx fun g2 r2 sb2 => wpAny_pure ?_)
    have to2 : IsPair g2 TO a b := sb2.extBut _ _ D.TOi1 (sb1.extBut _ _ D.TOz hTO)
    refine wpAny_bind (wpAny_seqItems to2 rfl ?_)
    refine wpAny_bind (wpAny_updateSeq_pair to2 fun g3 to3 sb3 => ?_)
    refine wpAny_bind (wpAny_letGo (wpAny_pure ?_))
    refine wpAny_bind (wpAny_bind (wpAny_onRaise ?_))
    show wpAny _ _ (Builtin.SmallTypes.nextOf (.ref i2) >>= _) _ _ _
    refine wpAny_bind (wpAny_nextOf_list_end hh (((h2.extBut sb1.extBut D.i2z).extBut sb2.extBut D.i12.symm).extBut sb3.extBut D.TOi2.symm)
      (((hl2.extBut sb1.extBut L2.z).extBut sb2.extBut L2.i1).extBut sb3.extBut L2.TO) hy fun g4 e sb4 he => ?_)
    obtain ⟨oe, hoe, hce⟩ := he
    have z4 : IsZip g4 z TI TO .ellipsis := sb4 _ _ D.i2z.symm (sb3.extBut _ _ D.TOz.symm (sb2.extBut _ _ D.i1z.symm hz1))
    have hez : e ≠ z := fun q => by subst q; rw [z4] at hoe; cases hoe; simp at hce
    refine wpAny_setField_rec z4 (by simp) fun g5 _ sb5 => stop g5 e (fun c o c1 c2 c3 c4 q => sb5.extBut _ _ c1 (sb4 _ _ c4 (sb3.extBut _ _ c2 (sb2.extBut _ _ c3 (sb1.extBut _ _ c1 q))))) ⟨oe, sb5.extBut _ _ hez hoe, hce⟩
end
end L2

set_option Elab.async false
set_option linter.all false
set_option maxRecDepth 100000
namespace L2
open PySem PySem.Spec PyProof.Rows

abbrev zrA (h : Heap) (l2 : Addr) : Heap := h.push { cls := .type "list_iterator", data := .fields #[.ref l2, .int 0 0] }
abbrev zrB (h : Heap) (r l2 : Addr) : Heap := (zrA h l2).push { cls := .type "tuple", data := .seq #[.ref r, .ref h.objs.size] }
abbrev zrC (h : Heap) (r l2 : Addr) : Heap := (zrB h r l2).push { cls := .type "tuple", data := .seq #[.none, .none] }
abbrev zrD (h : Heap) (r l2 : Addr) : Heap := (zrC h r l2).push { cls := .type "zip", data := .fields #[.none, .bool false, .bool false, .ref (zrA h l2).objs.size, .ref (zrB h r l2).objs.size] }
theorem meets_zip_rev (r l1 l2 : Addr) (k : Int) (ys : Array Value) :
    Meets (Builtin.«zip.__new__» ⟨[.type "zip", .ref r, .ref l2], []⟩) (fun _ R s => s.heap.IsRevIter r l1 k ∧ s.heap.IsList l2 ys ∧ R (.ok (.ret (.ref (zrC s.heap r l2).objs.size))) { s with heap := zrD s.heap r l2 }) :=
  .of_wp fun prog w A R s h => by
    obtain ⟨hp, g, d, tk, os⟩ := s
    obtain ⟨hr, hl2, h⟩ := h
    have hsub := sub_zip
    have hR : Heap.IsRevIter (Shared.heap ⟨hp, g, d, tk, os⟩) r l1 k := hr
    have hL2 : Heap.IsList (Shared.heap ⟨hp, g, d, tk, os⟩) l2 ys := hl2
    wp_walk using wpAny_pyIter_revIter hR, wpAny_pyIter_list hL2
    exact ⟨_, rfl, h⟩
section
variable {prog : Program} {w : World} {A : Around} {E : Value → Shared → Prop} {s : Shared}
theorem call_zip_rev {r l1 l2 : Addr} {k : Int} {ys : Array Value} {Q : Value → Shared → Prop} (hr : s.heap.IsRevIter r l1 k) (hl2 : s.heap.IsList l2 ys)
    (h : ∀ h', IsZip h' (s.heap.objs.size + 3) (s.heap.objs.size + 1) (s.heap.objs.size + 2) .none → IsPair h' (s.heap.objs.size + 1) (.ref r) (.ref s.heap.objs.size) →
      IsPair h' (s.heap.objs.size + 2) .none .none → h'.IsListIter s.heap.objs.size l2 0 → (∀ c o, s.heap.get? c = some o → h'.get? c = some o) → Q (.ref (s.heap.objs.size + 3)) { s with heap := h' }) :
    wpAny (model prog w) A (call (.type "zip") [.ref r, .ref l2]) Q E s := by
  refine callType_new F.called_zip (by decide) (F.typeCall_zip_2 _ _) (F.newCall_zip_2 _ _) (fun obj => F.args_object_init_3 obj _ _) F.entry_zip_new (meets_zip_rev r l1 l2 k ys) ⟨hr, hl2, ?_⟩
  have z1 : (zrA s.heap l2).objs.size = s.heap.objs.size + 1 := Heap.size_push ..
  have z2 : (zrB s.heap r l2).objs.size = s.heap.objs.size + 2 := by rw [Heap.size_push, z1]
  have z3 : (zrC s.heap r l2).objs.size = s.heap.objs.size + 3 := by rw [Heap.size_push, z2]
  have g4 : (zrD s.heap r l2).get? (zrC s.heap r l2).objs.size = some _ := Heap.get?_push_size _ rfl
  have g3 : (zrD s.heap r l2).get? (zrB s.heap r l2).objs.size = some _ := Heap.get?_push_of_some _ (Heap.get?_push_size _ rfl)
  have g2 : (zrD s.heap r l2).get? (zrA s.heap l2).objs.size = some _ := Heap.get?_push_of_some _ (Heap.get?_push_of_some _ (Heap.get?_push_size _ rfl))
  have g1 : (zrD s.heap r l2).get? s.heap.objs.size = some _ := Heap.get?_push_of_some _ (Heap.get?_push_of_some _ (Heap.get?_push_of_some _ (Heap.get?_push_size _ rfl)))
  show _ ∧ _
  rw [z1, z2, z3] at g4
  rw [z2] at g3
  rw [z1] at g2
  rw [z3]
  exact ⟨⟨_, g4, rfl⟩, h _ g4 g2 g3 ⟨_, g1, rfl, rfl⟩ fun c o x => Heap.get?_push_of_some _ (Heap.get?_push_of_some _ (Heap.get?_push_of_some _ (Heap.get?_push_of_some _ x)))⟩
end

/-- the turns of zip(reversed(l1), l2); n is the length of l1 -/
def Itz (K : PySem.W.Frag) (l1 l2 : Addr) (n : Nat) : It :=
  ⟨fun i H => ∃ xs ys x y, SqL K H l1 xs ∧ SqL K H l2 ys ∧ xs.length = n ∧ xs.reverse[i]? = some x ∧ ys[i]? = some y,
   fun i H v H' => ∃ p, H p = none ∧ v = .ref p ∧ ∀ xs ys x y, SqL K H l1 xs → SqL K H l2 ys → xs.reverse[i]? = some x → ys[i]? = some y → H' = upd H p (.tup [x, y]),
   fun i H => ∃ xs ys, SqL K H l1 xs ∧ SqL K H l2 ys ∧ xs.length = n ∧ i ≤ n ∧ (i = n ∨ ys.length ≤ i)⟩
theorem zl_of {z TI TO i1 i2 l : Addr} {X : Cx} {pins : List (Addr × Obj)} {σ : St} {H : Hp} {s : Shared} {xs : List V} (I : Inv X pins σ H s) (hq : SqL X.K H l xs) (hf : ∀ b ∈ [z, TI, TO, i1, i2], FpOk X pins H b)
    (ho : ∀ b ∈ [z, TI, TO, i1, i2], ∃ o, s.heap.get? b = some o ∧ o.cls ≠ .type "list") : ZL z TO i1 i2 l := by
  have ne : ∀ b ∈ [z, TI, TO, i1, i2], l ≠ b := fun b hb q => by
    obtain ⟨o, e, c⟩ := ho b hb
    obtain ⟨its, _, ⟨o', n, e', c', _⟩, _⟩ := I.list hq
    rw [q, e] at e'
    cases e'
    exact c c'
  exact ⟨ne z (by simp), ne TO (by simp), ne i1 (by simp), ne i2 (by simp)⟩
theorem turn_zip {P : Program} {w : World} {K : PySem.W.Frag} {elts : List Expr} {k : Nat} {tp : Pos} (z TI TO i1 i2 l1 l2 : Addr) (n : Nat) (D : ZA z TI TO i1 i2) :
    Turn P w K (.Tuple elts k tp) (Itz K l1 l2 n) [z, TI, TO, i1, i2] z (fun i h => IsZip h z TI TO .none ∧ IsPair h TI (.ref i1) (.ref i2) ∧ (∃ a b, IsPair h TO a b) ∧ h.IsRevIter i1 l1 ((n : Int) - 1 - (i : Nat)) ∧ h.IsListIter i2 l2 i) := by
  have cls : ∀ {i : Nat} {h : Heap}, (IsZip h z TI TO .none ∧ IsPair h TI (.ref i1) (.ref i2) ∧ (∃ a b, IsPair h TO a b) ∧ h.IsRevIter i1 l1 ((n : Int) - 1 - (i : Nat)) ∧ h.IsListIter i2 l2 i) →
      ∀ b ∈ [z, TI, TO, i1, i2], ∃ o, h.get? b = some o ∧ o.cls ≠ .type "list" ∧ ∀ v, o.data ≠ .cell v := fun {i h} st b hb => by
    obtain ⟨h1, h2, ⟨a, c, h3⟩, ⟨o4, h4, c4, d4⟩, ⟨o5, h5, c5, d5⟩⟩ := st
    simp only [List.mem_cons, List.not_mem_nil, or_false] at hb
    rcases hb with rfl | rfl | rfl | rfl | rfl
    · exact ⟨_, h1, (by show Value.type "zip" ≠ Value.type "list"; decide +kernel), fun v q => by cases (show Data.fields _ = Data.cell v from q)⟩
    · exact ⟨_, h2, (by show Value.type "tuple" ≠ Value.type "list"; decide +kernel), fun v q => by cases (show Data.seq _ _ = Data.cell v from q)⟩
    · exact ⟨_, h3, (by show Value.type "tuple" ≠ Value.type "list"; decide +kernel), fun v q => by cases (show Data.seq _ _ = Data.cell v from q)⟩
    · exact ⟨o4, h4, by rw [c4]; decide +kernel, fun v q => by rw [d4] at q; cases q⟩
    · exact ⟨o5, h5, by rw [c5]; decide +kernel, fun v q => by rw [d5] at q; cases q⟩
  refine ⟨by simp, fun i h st b hb => ?_, fun i h h' st kk => ?_, ?_, ?_, fun _ _ _ _ _ st h => wpAny_pyIter_zip st.1 h⟩
  · obtain ⟨o, e, _, d⟩ := cls st b hb
    exact ⟨o, e, d⟩
  · obtain ⟨h1, h2, ⟨a, c, h3⟩, h4, h5⟩ := st
    exact ⟨kk z (by simp) _ h1, kk TI (by simp) _ h2, ⟨a, c, kk TO (by simp) _ h3⟩, h4.at fun o q => kk i1 (by simp) o q, h5.at fun o q => kk i2 (by simp) o q⟩
  · intro X hP hw hK hc i pins s σ H E I hf st hg
    subst hP hw hK
    obtain ⟨xs, ys, x, y, hq1, hq2, hn, hx, hy⟩ := hg
    have L1 := zl_of I hq1 hf fun b hb => let ⟨o, e, c, _⟩ := cls st b hb; ⟨o, e, c⟩
    have L2 := zl_of I hq2 hf fun b hb => let ⟨o, e, c, _⟩ := cls st b hb; ⟨o, e, c⟩
    have lt : ∀ b ∈ [z, TI, TO, i1, i2], b < s.heap.objs.size := fun b hb => let ⟨o, e, _⟩ := cls st b hb; Heap.lt_size e
    obtain ⟨h1, h2, ⟨a, c, h3⟩, h4, h5⟩ := st
    obtain ⟨its, rv, p, hz⟩ := I.list hq1
    obtain ⟨its2, rv2, p2, hz2⟩ := I.list hq2
    obtain ⟨hi, hx'⟩ := rev_get hx
    obtain ⟨u, hu, ru⟩ := rv.get hx'
    obtain ⟨v, hv, rv'⟩ := rv2.get hy
    have e : (n : Int) - 1 - (i : Nat) = ((xs.length - 1 - i : Nat) : Int) := by omega
    rw [e] at h4
    refine zr_item D L1 L2 h1 h2 h3 h4 h5 p.isList p2.isList (x := u) (y := v) (by simpa using hu) (by simpa using hv) fun h' a1 a2 a3 a4 a5 a6 kk => ⟨_, rfl, ?_⟩
    have I1 : Inv X pins σ H { s with heap := h' } := I.turnedL (t' := s.toks) (ch := [z, TI, TO, i1, i2]) (fun b o hb q => kk b o (fun r => hb (by simp [r])) (fun r => hb (by simp [r])) (fun r => hb (by simp [r])) (fun r => hb (by simp [r])) q) hf
    refine wpAny_letOwnedTupleGo_zip a1 fun h2' he' hs' => ?_
    have I2 := I1.turnedL (h' := h2') (t' := s.toks) (ch := [z]) (fun b o hb q => hs'.extBut b o (fun r => hb (by simp [r])) q) fun b hb => hf b (by
      rcases List.mem_singleton.mp hb with rfl
      simp)
    have nT : H s.heap.objs.size = none := I.hok.fresh (Nat.le_refl _)
    have zT : s.heap.objs.size ≠ z := Nat.ne_of_gt (lt z (by simp))
    have I3 := I2.pairAt (T := s.heap.objs.size) (a := x) (b := y) (I.fpOk (Nat.le_refl _) nT) (hs'.extBut _ _ zT a5) ru rv'
    refine ⟨.ref s.heap.objs.size, _, I3, rfl, ⟨_, nT, rfl, fun xs' ys' x' y' q1 q2 q3 q4 => ?_⟩, ⟨he', ?_, ⟨_, _, hs'.extBut _ _ D.TOz a2⟩, ?_, a4.extBut hs'.extBut D.i2z⟩, fun b hb => ?_⟩
    · have e1 := I.list_inj q1 hq1
      have e2 := I.list_inj q2 hq2
      subst e1 e2
      rw [hx] at q3
      rw [hy] at q4
      cases q3
      cases q4
      rfl
    · exact hs'.extBut _ _ D.TIz (kk _ _ D.TIz D.TITO D.TIi1 D.TIi2 h2)
    · have e2 : ((xs.length - 1 - i : Nat) : Int) - 1 = (n : Int) - 1 - ((i + 1 : Nat) : Int) := by omega
      rw [e2] at a3
      exact a3.at fun o q => hs'.extBut _ o D.i1z q
    · rw [upd_ne (Nat.ne_of_lt (lt b hb))]
      exact (hf b hb).1
  · intro X hP hw hK hc i pins s σ H E I hf st hg
    subst hP hw hK
    obtain ⟨xs, ys, hq1, hq2, hn, hin, hend⟩ := hg
    have L1 := zl_of I hq1 hf fun b hb => let ⟨o, e, c, _⟩ := cls st b hb; ⟨o, e, c⟩
    have L2 := zl_of I hq2 hf fun b hb => let ⟨o, e, c, _⟩ := cls st b hb; ⟨o, e, c⟩
    obtain ⟨h1, h2, ⟨a, c, h3⟩, h4, h5⟩ := st
    obtain ⟨its, rv, p, hz⟩ := I.list hq1
    obtain ⟨its2, rv2, p2, hz2⟩ := I.list hq2
    have hl := rv.length
    have hl2 := rv2.length
    refine zr_end (I.ok.hd hc) D L1 L2 h1 h2 h3 h4 h5 p.isList p2.isList ?_ fun h' kk => ⟨rfl, ?_⟩
    · by_cases hi : i = n
      · exact .inl (by omega)
      · refine .inr ⟨⟨n - 1 - i, its[n - 1 - i]'(by omega), by omega, by rw [List.getElem?_toArray, List.getElem?_eq_getElem (by omega)]⟩, ?_⟩
        have q : ys.length ≤ i := by rcases hend with q | q; exact absurd q hi; exact q
        simp
        omega
    · exact I.turnedL (t' := s.toks) (ch := [z, TI, TO, i1, i2]) (fun b o hb q => kk b o (fun r => hb (by simp [r])) (fun r => hb (by simp [r])) (fun r => hb (by simp [r])) (fun r => hb (by simp [r])) q) hf

section
variable {X : Cx} {elts : List Expr} {k : Nat} {tp : Pos}
/-- zip(reversed(a), b) -/
def iZipR (K : PySem.W.Frag) (ta tb : TE) : TI := fun σ H R => ta σ H fun x H1 => ∃ a xs, x = .ref a ∧ SqL K H1 a xs ∧ tb σ H1 fun y H2 => ∃ b ys, y = .ref b ∧ SqL K H2 a xs ∧ SqL K H2 b ys ∧ R (Itz K a b xs.length) H2
theorem pi_zipR {a b : Expr} {ta tb : TE} {p p2 pos pos2 : Pos} (hg : Gl X "zip") (hm : X.mg "zip" = none) (hg2 : Gl X "reversed") (hm2 : X.mg "reversed" = none) (ha : PE X a ta) (hb : PE X b tb)
    (hs : starEach [.Call (.Name "reversed" p2) [a] [] pos2, b] X.env = (false, eval (.Call (.Name "reversed" p2) [a] [] pos2) X.env) :: starEach [b] X.env := by rfl)
    (hs2 : starEach [b] X.env = [(false, eval b X.env)] := by rfl) (hs3 : starEach [a] X.env = [(false, eval a X.env)] := by rfl) :
    PI X (.Tuple elts k tp) (.Call (.Name "zip" p) [.Call (.Name "reversed" p2) [a] [] pos2, b] [] pos) (iZipR X.K ta tb) := by
  intro pins s σ H R I h
  have hA : PA X [a] (tCons ta tNil) := pa_cons ha pa_nil hs3
  have hB : PA X [b] (tCons tb tNil) := pa_cons hb pa_nil hs2
  refine Call_ (ld_blt I hg hm boot_zip (PyProof.Rows.callWith_type1 (Q := fun v s1 => wpAny (model X.prog X.w) X.A (pyIter v) (PIE X pins σ (.Tuple elts k tp) R) X.xe s1) ?_ hs (by rw [hs2]; rfl)))
  rw [hs]
  show wpAny _ _ (spliced ((false, eval (.Call (.Name "reversed" p2) [a] [] pos2) X.env) :: backTo pos (starEach [b] X.env))) _ _ s
  refine Calls.spliced_cons ?_
  refine Call_ (ld_blt I hg2 hm2 (by decide +kernel : bootBuiltins "reversed" = some (.type "reversed")) (PyProof.Rows.callWith_type1 (thn (hA pos2 pins s σ H (fun vs H1 => match vs with
      | [x] => ∃ a xs, x = .ref a ∧ SqL X.K H1 a xs ∧ tb σ H1 fun y H2 => ∃ b ys, y = .ref b ∧ SqL X.K H2 a xs ∧ SqL X.K H2 b ys ∧ R (Itz X.K a b xs.length) H2
      | _ => False) I h) fun us s1 ⟨vs, H1, I1, r1, q1⟩ => ?_) hs3 rfl))
  match vs, q1 with
  | [x], q1 =>
    obtain ⟨l1, xs, e2, hq, q⟩ := q1
    subst e2
    obtain ⟨u, rfl, ru⟩ := vals1 r1
    cases ru
    obtain ⟨its, rv, pl, hz⟩ := I1.list hq
    have hlen := rv.length
    refine call_reversed_list pl.isList ?_
    have eR : (s1.heap.push (revObj l1 ((its.toArray.size : Int) - 1))).get? s1.heap.objs.size = some (revObj l1 ((xs.length : Int) - 1)) := by
      rw [Heap.get?_push_size _ rfl, List.size_toArray, hlen]
    have n1 : H1 s1.heap.objs.size = none := I1.hok.fresh (Nat.le_refl _)
    have f1 : FpOk X pins H1 s1.heap.objs.size := I1.fpOk (Nat.le_refl _) n1
    have I2 : Inv X (pins ++ [(s1.heap.objs.size, revObj l1 ((xs.length : Int) - 1))]) σ H1 { s1 with heap := s1.heap.push (revObj l1 ((its.toArray.size : Int) - 1)) } := by
      refine (I1.kept (h' := s1.heap.push (revObj l1 ((its.toArray.size : Int) - 1))) (t' := s1.toks) fun b o q => Heap.get?_push_of_some _ q).pins_of fun pp hp => ?_
      rcases List.mem_append.mp hp with z | z
      · obtain ⟨w1, w2⟩ := I1.pin pp (List.mem_append_right _ z)
        exact ⟨Heap.get?_push_of_some _ w1, w2⟩
      · have ep : pp = (s1.heap.objs.size, revObj l1 ((xs.length : Int) - 1)) := by simpa using z
        rw [ep]
        exact ⟨eR, n1, f1.2.1, f1.2.2.1, fun v q => by cases (show Data.fields _ = Data.cell v from q)⟩
    refine thn (hB pos _ _ σ H1 (fun vs H2 => match vs with
      | [y] => ∃ b ys, y = .ref b ∧ SqL X.K H2 l1 xs ∧ SqL X.K H2 b ys ∧ R (Itz X.K l1 b xs.length) H2
      | _ => False) I2 q) fun us2 s3 ⟨vs2, H3, I3, r3, q3⟩ => ?_
    match vs2, q3 with
    | [y], q3 =>
      obtain ⟨l2, ys, e3, hq1, hq2, qR⟩ := q3
      subst e3
      obtain ⟨u2, rfl, ru2⟩ := vals1 r3
      cases ru2
      have pn := I3.pin (s1.heap.objs.size, revObj l1 ((xs.length : Int) - 1)) (List.mem_append_right _ (List.mem_append_right _ (List.mem_singleton.mpr rfl)))
      have I4 : Inv X pins σ H3 s3 := I3.unpinned
      have hr : s3.heap.IsRevIter s1.heap.objs.size l1 ((xs.length : Int) - 1 - ((0 : Nat) : Int)) := by
        have e0 : (xs.length : Int) - 1 - ((0 : Nat) : Int) = (xs.length : Int) - 1 := by simp
        rw [e0]
        exact ⟨_, pn.1, rfl, rfl⟩
      obtain ⟨its2, rv2, pl2, hz2⟩ := I4.list hq2
      have rlt : s1.heap.objs.size < s3.heap.objs.size := Heap.lt_size pn.1
      refine call_zip_rev hr pl2.isList fun h' a1 a2 a3 a4 kk => ?_
      refine wpAny_pyIter_zip a1 ?_
      have I5 : Inv X pins σ H3 { s3 with heap := h' } := I4.kept (t' := s3.toks) kk
      have ne : ∀ {x y : Nat}, x < y → x ≠ y := fun h => Nat.ne_of_lt h
      have D : ZA (s3.heap.objs.size + 3) (s3.heap.objs.size + 1) (s3.heap.objs.size + 2) s1.heap.objs.size s3.heap.objs.size :=
        ⟨ne (by omega), ne (by omega), ne (by omega), ne (by omega), ne (by omega), (ne (by omega)).symm, (ne (by omega)).symm, (ne (by omega)).symm, (ne (by omega)).symm, ne rlt⟩
      refine ⟨s3.heap.objs.size + 3, [s3.heap.objs.size + 3, s3.heap.objs.size + 1, s3.heap.objs.size + 2, s1.heap.objs.size, s3.heap.objs.size], _, _, H3, rfl, I5, turn_zip _ _ _ _ _ l1 l2 xs.length D, ⟨a1, a2, ⟨_, _, a3⟩, hr.at fun o q => kk _ o q, a4⟩, fun c hc => ?_, qR⟩
      have fresh : ∀ j, FpOk X pins H3 (s3.heap.objs.size + j) := fun j => I4.fpOk (Nat.le_add_right _ _) (I4.hok.fresh (Nat.le_add_right _ _))
      simp only [List.mem_cons, List.not_mem_nil, or_false] at hc
      rcases hc with rfl | rfl | rfl | rfl | rfl
      · exact fresh 3
      · exact fresh 1
      · exact fresh 2
      · exact ⟨pn.2.1, f1.2⟩
      · exact fresh 0
end
theorem comp_zipR {K : PySem.W.Frag} {a b : Addr} {xs ys : List V} {σ0 : St} {te : TE} {H1 : Hp} {R : List V → Hp → Prop} (hq1 : SqL K H1 a xs) (hq2 : SqL K H1 b ys) (f : Nat → V) (hz : xs.length ≤ sizeLine)
    (ht : ∀ i x y H, xs.reverse[i]? = some x → ys[i]? = some y → Same H1 H → te ((σ0.set 0 (some x)).set 1 (some y)) H fun v H3 => (List.range i).map f ++ [v] = (List.range (i + 1)).map f ∧ Same H1 H3)
    (hR : ∀ H, Same H1 H → R ((List.range (min xs.length ys.length)).map f) H) : CompR (Itz K a b xs.length) σ0 (gPair K) te H1 R := by
  have m1 : min xs.length ys.length ≤ xs.length := Nat.min_le_left _ _
  have m2 : min xs.length ys.length ≤ ys.length := Nat.min_le_right _ _
  refine comp_by (min xs.length ys.length) f (Nat.le_trans m1 hz) (fun i H hi sm => ?_) (fun H sm => ⟨xs, ys, sm.seq hq1, sm.seq hq2, rfl, m1, ?_⟩) (fun i H x H' hi sm y => ?_) hR
  · have h1 : i < xs.reverse.length := by rw [List.length_reverse]; omega
    exact ⟨xs, ys, xs.reverse[i], ys[i]'(by omega), sm.seq hq1, sm.seq hq2, rfl, List.getElem?_eq_getElem h1, List.getElem?_eq_getElem (by omega)⟩
  · omega
  · have h1 : i < xs.reverse.length := by rw [List.length_reverse]; omega
    have h2 : i < ys.length := by omega
    obtain ⟨p, hp, e1, e2⟩ := y
    have e3 := e2 xs ys _ _ (sm.seq hq1) (sm.seq hq2) (List.getElem?_eq_getElem h1) (List.getElem?_eq_getElem h2)
    subst e1 e3
    exact pair_go upd_same (ht i _ _ _ (List.getElem?_eq_getElem h1) (List.getElem?_eq_getElem h2) (sm.trans (same_new hp _)))
end L2

set_option Elab.async false
set_option linter.all false
set_option maxRecDepth 100000
namespace L2
open PySem PySem.Spec PyProof.Rows

/-! ### reversed(range(n)) -/
section
variable {prog : Program} {w : World} {A : Around} {E : Value → Shared → Prop} {s : Shared}
end
section
variable {X : Cx} {tg : Expr}
end
end L2

set_option Elab.async false
set_option linter.all false
set_option maxRecDepth 100000
/-! exceptions: the trace's entries, step by step, at the level of the heap -/
namespace L2
open PySem PySem.Spec PyProof.Rows
/-- frames change in their slots alone, ch may change, all else stays -/
structure MvR (fr ch : List Addr) (h h' : Heap) : Prop where
  keep : ∀ b o, h.get? b = some o → b ∉ ch → b ∉ fr → h'.get? b = some o
  slot : ∀ b o, h.get? b = some o → b ∈ fr → ∃ sl, h'.get? b = some { o with slots := sl }
theorem MvR.trans {fr ch ch2 ch3 : List Addr} {h h1 h2 : Heap} (a : MvR fr ch h h1) (b : MvR fr ch2 h1 h2) (h3 : ∀ x ∈ ch, x ∈ ch3) (h4 : ∀ x ∈ ch2, x ∈ ch3 ∨ h.get? x = none) : MvR fr ch3 h h2 where
  keep := fun x o e hc hf => b.keep x o (a.keep x o e (fun z => hc (h3 x z)) hf) (fun z => (h4 x z).elim hc fun n => by rw [n] at e; cases e) hf
  slot := fun x o e hf => by
    obtain ⟨s1, e1⟩ := a.slot x o e hf
    obtain ⟨s2, e2⟩ := b.slot x _ e1 hf
    exact ⟨s2, e2⟩
/-- an exception and the head of its trace; fl: the frame that has it in flight -/
def TrR (h : Heap) (ea T : Addr) (cls fl : Value) : Prop :=
  ∃ (oe : Obj) (vs : Array Value) (oT : Obj) (ts : Array Value), h.get? ea = some oe ∧ (oe.cls = cls ∧ oe.dict = none) ∧ oe.data = .fields vs ∧ vs[1]? = some (.ref T) ∧ vs[2]? = some .none ∧ T ≠ ea ∧ h.get? T = some oT ∧ oT.data = .fields ts ∧ ts[3]? = some fl
section
variable {M : Model} {A : Around} {E : Value → Shared → Prop} {s : Shared} {Q : Unit → Shared → Prop} {base : Heap} {env : Env} {outer : List Env} {L ea T : Addr} {oe : Obj} {vs : Array Value} {cls fl : Value}
end
end L2

set_option Elab.async false
set_option linter.all false
set_option maxRecDepth 100000
/-! exceptions: how one lies behind a call, how it leaves a def -/
namespace L2
open PySem PySem.Spec PyProof.Rows

/-- an exception on its way: its class; it and its trace are new since h0, and untracked -/
def Trac (h0 : Heap) (H : Hp) (h : Heap) (ea : Addr) (cls : Value) : Prop := ∃ T : Addr, TrR h ea T cls .none ∧ (h0.get? ea = none ∧ h0.get? T = none) ∧ H ea = none ∧ H T = none
theorem none_back {h0 h1 : Heap} {b : Addr} (k : ∀ b o, h0.get? b = some o → ∃ o', h1.get? b = some o') (e : h1.get? b = none) : h0.get? b = none := by
  cases q : h0.get? b with
  | none => rfl
  | some o =>
    obtain ⟨o', e'⟩ := k b o q
    rw [e] at e'
    cases e'
theorem Trac.back {h0 h1 h : Heap} {H : Hp} {ea : Addr} {cls : Value} (t : Trac h1 H h ea cls) (k : ∀ b o, h0.get? b = some o → ∃ o', h1.get? b = some o') : Trac h0 H h ea cls := by
  obtain ⟨T, x, ⟨y1, y2⟩, z⟩ := t
  exact ⟨T, x, ⟨none_back k y1, none_back k y2⟩, z⟩
theorem ObjOk.has {P : Program} {w : World} {H : Hp} {h : Heap} {a : Addr} {o : HO} (x : ObjOk P w H h a o) : ∃ u, h.get? a = some u := by
  cases o with
  | lst _ => obtain ⟨_, _, _, _, q⟩ := x; exact ⟨_, q⟩
  | tup _ => obtain ⟨_, _, _, _, q, _⟩ := x; exact ⟨_, q⟩
  | dK _ => obtain ⟨_, _, _, _, _, _, _, q, _⟩ := x; exact ⟨_, q⟩
  | dT _ => obtain ⟨_, _, _, _, _, _, _, q, _⟩ := x; exact ⟨_, q⟩
  | set _ _ => obtain ⟨_, _, _, _, q, _⟩ := x; exact ⟨_, q⟩
  | ins _ _ _ => obtain ⟨_, _, _, q, _⟩ := x; exact ⟨_, q⟩
  | own _ => exact x
  | xd _ => obtain ⟨_, ⟨_, _, _, q, _⟩, _⟩ := x; exact ⟨_, q⟩
  | rng _ _ => obtain ⟨_, _, _, q⟩ := x; exact ⟨_, q⟩
  | frz _ _ => exact ⟨_, x.1⟩
  | tbl _ => exact ⟨_, x⟩
  | met _ _ => exact ⟨_, x⟩
  | ext _ => exact x.2.1
section
variable {X : Cx} {pins : List (Addr × Obj)} {σ : St} {H H' : Hp} {s s' : Shared} {ea : Addr} {cls : Value} {h' : Heap}
/-- only frames' slots, and some untracked new records, have changed -/
structure Moved (X : Cx) (H : Hp) (h h' : Heap) (ch : List Addr) : Prop where
  keep : ∀ b o, h.get? b = some o → b ∉ ch → b ∉ frs X.stack → h'.get? b = some o
  slot : ∀ b o, h.get? b = some o → b ∈ frs X.stack → ∃ sl, h'.get? b = some { o with slots := sl }
  new : ∀ b ∈ ch, X.s₀.heap.get? b = none ∧ H b = none
theorem Moved.un {ch : List Addr} (J : Inv X pins σ H s) (hex : X.ex = []) (m : Moved X H s.heap h' ch) : Un X.fs [] X.H₀ H X.s₀.heap h' := by
  have U := J.base
  rw [hex] at U
  have nc : ∀ b o, X.s₀.heap.get? b = some o → b ∉ ch := fun b o e z => by
    rw [(m.new b z).1] at e
    cases e
  have nf : ∀ b o, X.s₀.heap.get? b = some o → b ∉ X.fs → b ∉ frs X.stack := fun b o e hb z => by
    rcases List.mem_cons.mp (J.stkSub b z) with q | q
    · have l1 := Heap.lt_size e
      have l2 := J.ok.above
      rw [q] at l1
      exact absurd l1 (Nat.not_lt.mpr l2)
    · exact hb q
  have sl : ∀ b o, s.heap.get? b = some o → b ∉ ch → ∃ sl, h'.get? b = some { o with slots := sl } := fun b o e hc => by
    by_cases hb : b ∈ frs X.stack
    · exact m.slot b o e hb
    · exact ⟨o.slots, m.keep b o e hc hb⟩
  refine ⟨fun b o e n hb hx => m.keep b o (U.keep b o e n hb hx) (nc b o e) (nf b o e hb), fun b o e n hb hx => ?_, fun b o e n hx => U.free b o e n hx, fun b o e hx => ?_, U.tups, U.frzs, U.tbls⟩
  · obtain ⟨sl1, q⟩ := U.slot b o e n hb hx
    obtain ⟨sl2, q2⟩ := sl b _ q (nc b o e)
    exact ⟨sl2, q2⟩
  · obtain ⟨o1, q⟩ := U.there b o e hx
    obtain ⟨sl2, q2⟩ := sl b _ q (nc b o e)
    exact ⟨_, q2⟩
theorem Moved.hok {ch : List Addr} (J : Inv X pins σ H s) (m : Moved X H s.heap h' ch) : HOk X.prog X.w H h' := fun a o e =>
  (J.hok a o e).stay (fun b u hb q => m.keep b u q (fun z => by
    rcases hb with rfl | hb
    · rw [(m.new _ z).2] at e; cases e
    · rw [(m.new _ z).2] at hb; cases hb) (fun z => by
    rcases hb with rfl | hb
    · rw [J.stkFree _ z] at e; cases e
    · rw [J.stkFree _ z] at hb; cases hb)) (fun _ q => q) fun _ _ q => q
end
section
variable {P : Program} {w : World} {K : PySem.W.Frag} {mg : Str → Option Value} {base : Heap} {N : List Str} {qual : Str} {scope : Scope} {f : Addr} {cd : Value} {A : Around} {outer : List Env} {s0 : Shared} {H0 : Hp} {E : XK}
end
end L2

set_option Elab.async false
set_option linter.all false
set_option maxRecDepth 100000
namespace L2
open PySem PySem.Spec PyProof.Rows

/-- the classes behind an own exception's class that are built in -/
abbrev veMro : List Value := [.type "ValueError", .type "Exception", .type "BaseException", .type "object"]
/-- an own exception class of the text: what stands behind it in its order -/
structure XC (K : PySem.W.Frag) (C : Addr) (bm : List Value) : Prop where
  lk : ∃ nm q N bs hdct sn sub ab col dd k0 k1 k2 k3 k5, K.lookup C = some (excClassObj nm q C N bs bm hdct sn sub ab col dd k0 k1 k2 k3 k5 "ValueError.__new__") ∧ PySem.W.nsOkIn K N = true ∧ PySem.W.nsIn K N "__init__" = some none
  tl : PySem.W.tailIn K veMro bm = true
section
variable {X : Cx} {x : Str} {C : Addr} {bm : List Value} {e : Expr} {es : List Expr} {t : TA} {E : XK} {np cpos pos : Pos}
end
section
variable {P : Program} {w : World} {K : PySem.W.Frag} {mg : Str → Option Value} {base : Heap} {N : List Str} {qual : Str} {scope : Scope} {f : Addr} {cd : Value} {A : Around} {outer : List Env} {s0 : Shared} {H0 : Hp} {E : XK}
end
end L2

set_option Elab.async false
set_option linter.all false
set_option maxRecDepth 100000
/-! exceptions: try, with a name for what is caught -/
namespace L2
open PySem PySem.Spec PyProof.Rows
section
variable {X : Cx} {pins pins2 : List (Addr × Obj)} {σ : St} {H H' : Hp} {s s' : Shared} {ea : Addr} {cls : Value} {h' : Heap}
/-- the loops' records of the statement are named, for all that runs within it -/
abbrev Cx.pinned (X : Cx) (pins : List (Addr × Obj)) (A : Around) (calm : Bool) (xe : Value → Shared → Prop) : Cx := { X with pn := X.pn ++ pins, A := A, calm := calm, xe := xe }
end
section
variable {X : Cx} {pins : List (Addr × Obj)} {E : St → XK} {k : Nat} {f : Addr} {fd : FuncData} {ps : List Str} {sp : Sp} {x : Str} {p pos : Pos} {e : Expr} {es : List Expr} {t : TA}
end
end L2

set_option Elab.async false
set_option linter.all false
set_option maxRecDepth 100000
namespace L2
open PySem PySem.Spec PyProof.Rows
section
variable {X : Cx} {pins : List (Addr × Obj)} {σ : St} {H H' : Hp} {s s' : Shared} {ea : Addr} {cls : Value} {h' : Heap}
/-- what is known of a caught exception -/
def excIs (ea : Addr) (cls : Value) (h : Heap) : Prop := ∃ (o : Obj) (vs : Array Value), h.get? ea = some o ∧ (o.cls = cls ∧ o.dict = none) ∧ o.data = .fields vs ∧ vs[2]? = some .none
theorem excIs.ok {P : Program} {w : World} {H : Hp} {h : Heap} (x : excIs ea cls h) : ObjOk P w H h ea (.ext (excIs ea cls)) := by
  refine ⟨x, ?_, fun h1 h2 ⟨o, vs, e, r⟩ k => ⟨o, vs, k o e, r⟩⟩
  obtain ⟨o, _, e, _⟩ := x
  exact ⟨o, e⟩
end
/-- the context of an except suite -/
abbrev Cx.suite (X : Cx) (pins : List (Addr × Obj)) (ea : Addr) : Cx := X.pinned pins (X.A.mark (some (.ref ea))) false fun _ _ => False
section
variable {X : Cx} {body : List Stmt} {b₀ : Stmt} {suite : List Stmt} {cx n : Str} {C : Addr} {np hpos pos : Pos} {i : Nat} {tb : (St → XK) → TS} {ts : Addr → TS}
end
end L2

set_option Elab.async false
set_option linter.all false
set_option maxRecDepth 100000
/-! isinstance of a caught exception -/
namespace L2
open PySem PySem.Spec PySem.Calls PyProof.Rows PySem.W
section
variable {prog : Program} {w : World} {A : Around} {E : Value → Shared → Prop} {h : Heap} {g : Array GenState} {d : Drawn} {t : Nat} {os : OsState} {K : Frag} {a C : Addr} {ox : Obj}
/-- what the written part tells of an own exception class -/
structure XI (K : Frag) (C : Addr) : Prop where
  ga : findIn K (.ref C) "__getattribute__" = some (some (.builtin "BaseException.__getattribute__"))
  gt : findIn K (.ref C) "__getattr__" = some none
  cl : findIn K (.ref C) "__class__" = some (some (.builtin "object.__class__"))
  ob : mroIn K C (.type "object") = some true
  be : subIn K (.ref C) (.type "BaseException") = some true
end
/-- a class of the text, or a built-in one, as a value -/
inductive ClsV : V → Value → Prop where
  | own (C : Addr) : ClsV (.ref C) (.ref C)
  | ty (T : String) : ClsV (.ty T) (.type T)
end L2

set_option Elab.async false
set_option linter.all false
set_option maxRecDepth 100000
/-! any(..) of a list within an except suite -/
namespace L2
open PySem PySem.Spec PySem.Calls PyProof.Rows PySem.W
section
variable {prog : Program} {w : World} {A : Around} {E : Value → Shared → Prop} {s : Shared} {ea : Addr} {oe : Obj} {vs : Array Value}
end
end L2

set_option Elab.async false
set_option linter.all false
set_option maxRecDepth 100000
/-! enumerate(l, start=k); isinstance of an own object -/
namespace L2
open PySem PySem.Spec PySem.Calls PyProof.Rows
/-- a source that counts from k on -/
theorem draws_from {prog : Program} {w : World} {A : Around} {it : Addr} {fp : List Addr} {n : Nat} {P : Nat → Value → Prop} {St : Nat → Heap → Prop} (D : Draws prog w A it fp n P St) (k : Nat) :
    Draws prog w A it fp (k + n) (fun j x => ∃ i, j = k + i ∧ P i x) (fun j h => ∃ i, j = k + i ∧ St i h) where
  live := fun _ h ⟨i, _, q⟩ => D.live i h q
  frame := fun _ h h' ⟨i, e, q⟩ f => ⟨i, e, D.frame i h h' q f⟩
  item := fun j s Q E hj ⟨i, e, q⟩ hQ => D.item i s Q E (by omega) q fun x h' tk px st sb => hQ x h' tk ⟨i, e, px⟩ ⟨i + 1, by omega, st⟩ sb
  done := fun s Q E ⟨i, e, q⟩ hE => D.done s Q E (by
    have e' : i = n := by omega
    rw [← e']
    exact q) hE
/-- a list's iterator at the end -/
theorem draws_end {prog : Program} {w : World} {A : Around} (hh : A.handled = none) (it l : Addr) (items : Array Value) (i : Nat) (hx : items[i]? = none) :
    Draws prog w A it [it, l] 0 (fun _ _ => False) (fun _ h => h.IsListIter it l i ∧ h.IsList l items) where
  live := fun _ _ ⟨⟨o, ho, _⟩, _⟩ => ⟨o, ho⟩
  frame := fun _ _ _ ⟨q1, q2⟩ f => ⟨q1.at fun o e => f it (by simp) o e, q2.at fun o e => f l (by simp) o e⟩
  item := fun _ _ _ _ hi _ _ => absurd hi (Nat.not_lt_zero _)
  done := fun _ _ _ ⟨q1, q2⟩ hE => wpAny_nextOf_list_end hh q1 q2 hx hE
section
variable {prog : Program} {w : World} {A : Around} {E : Value → Shared → Prop} {s : Shared}
theorem tyCall_enumK (a v : Value) : checkTypeCall "enumerate" ⟨[a], [("start", v)]⟩ = pure () := by kernel_rfl
theorem newCall_enumK (a v : Value) : checkBuiltinCall "enumerate.__new__" ⟨[.type "enumerate", a], [("start", v)]⟩ = pure () := by kernel_rfl
theorem initArgs_enumK (o a v : Value) : argsOk "object.__init__" ⟨[o, a], [("start", v)]⟩ := by
  unfold argsOk
  rw [signature?_of (id := "object.__init__") (n := "__tini__".toList) (o := "tcejbo".toList) (by kernel_rfl) F.owner_object]
  kernel_rfl
theorem init_enumK (o a v : Value) : Meets (Builtin.«object.__init__» ⟨[o, a], [("start", v)]⟩) (fun _ R s => s.TypeIs o "enumerate" ∧ R (.ok (.ret .none)) s) :=
  .of_wp fun prog w A R s ⟨hT, hq⟩ => by
    have f1 := F.called_enumerate.init.lookup
    have f2 := F.called_enumerate.made
    repeat (any_goals (first | assumption | wp_step))
    exact ⟨_, rfl, hq⟩
theorem new_enumK (l : Addr) (items : Array Value) (n : Nat) (i : Int) (t : Tok) (hi : Builtin.SmallTypes.fitsIndex i = true) :
    Meets (Builtin.«enumerate.__new__» ⟨[.type "enumerate", .ref l], [("start", .int i t)]⟩) (fun _ R s => s.heap.get? l = some { cls := .type "list", dict := none, data := .seq items n, slots := #[] } ∧
      R (.ok (.ret (.ref (s.heap.push { cls := .type "list_iterator", data := .fields #[.ref l, .int 0 0] }).objs.size)))
        { s with heap := (s.heap.push { cls := .type "list_iterator", data := .fields #[.ref l, .int 0 0] }).push { cls := .type "enumerate", data := .fields #[.none, .bool false, .ref s.heap.objs.size, rawInt i, .none, .none] } }) :=
  .of_wp fun prog w A R s h => by
    obtain ⟨hp, g, d, tk, os⟩ := s
    obtain ⟨hl, h⟩ := h
    have hsub := sub_enumerate
    have hL : Heap.IsList (Shared.heap ⟨hp, g, d, tk, os⟩) l items := ⟨_, hl, rfl, n, rfl⟩
    wp_walk using AutoSeq1.wpAny_loadPart' hl
    refine wpAny_stack_any fun st => wpAny_pure ?_
    split
    · rename_i c _ _ _ _ _
      cases (c == Value.type "enumerate")
      · wp_walk using AutoSeq1.wpAny_loadPart' hl, wpAny_pyIter_list hL
        exact ⟨_, rfl, h⟩
      · wp_walk using AutoSeq1.wpAny_loadPart' hl, wpAny_pyIter_list hL
        exact ⟨_, rfl, h⟩
    · wp_walk using AutoSeq1.wpAny_loadPart' hl, wpAny_pyIter_list hL
      exact ⟨_, rfl, h⟩
/-- enumerate(l, start=i), the call -/
theorem call_enumK {l : Addr} {items : Array Value} {n : Nat} {i : Int} {t : Tok} {Q : Value → Shared → Prop} (hi : Builtin.SmallTypes.fitsIndex i = true)
    (hl : s.heap.get? l = some { cls := .type "list", dict := none, data := .seq items n, slots := #[] })
    (h : ∀ h', IsEnum h' (s.heap.objs.size + 1) s.heap.objs.size i .none → h'.IsListIter s.heap.objs.size l 0 → h'.objs.size = s.heap.objs.size + 2 →
      (∀ b o, s.heap.get? b = some o → h'.get? b = some o) → Q (.ref (s.heap.objs.size + 1)) { s with heap := h' }) :
    wpAny (model prog w) A (call (.type "enumerate") [.ref l] [("start", .int i t)]) Q E s := by
  have ft := F.called_enumerate
  obtain ⟨c, tl, hmro⟩ := ft.mro
  have hmade := ft.made
  have hsub := ft.sub
  have hct := tyCall_enumK (.ref l) (.int i t)
  have hcn := newCall_enumK (.ref l) (.int i t)
  refine wpAny_call (codeAny_of_tree ?_)
  show wpAny _ _ (callAny (.type "enumerate") _) _ _ _
  refine wpAny_pure ⟨Code.quiet_builtin _ (by decide +kernel), codeAny_builtin F.entry_type_call ?_⟩
  rw [Around.under_plain (weight_type_call_type "enumerate" [.ref l] [("start", .int i t)]) (units_type_call_type "enumerate" [.ref l] [("start", .int i t)])]
  have h1 := ft.notType
  have h2 := ft.canCreate
  repeat (any_goals (first | assumption | wp_step))
  refine codeAny_mono (codeAny_call_builtin ft.plain F.entry_enumerate_new (wpAny_of_eq hcn (new_enumK l items n i t hi prog w A.in1 (wants (fun obj s₁ => s₁.TypeIs obj "enumerate" ∧ Q obj s₁) E) s ⟨hl, ?_⟩))) fun r s₁ hr => ?_
  · have hz : (s.heap.push { cls := .type "list_iterator", data := .fields #[.ref l, .int 0 0] }).objs.size = s.heap.objs.size + 1 := Heap.size_push ..
    show _ ∧ _
    rw [hz]
    have he := Heap.get?_push_size (s.heap.push { cls := .type "list_iterator", data := .fields #[.ref l, .int 0 0] }) (o := { cls := .type "enumerate", data := .fields #[.none, .bool false, .ref s.heap.objs.size, rawInt i, .none, .none] }) rfl
    rw [hz] at he
    refine ⟨⟨_, he, rfl⟩, h _ he ⟨_, Heap.get?_push_of_some _ (Heap.get?_push_size _ rfl), rfl, rfl⟩ (by rw [Heap.size_push, hz]) fun b o x => Heap.get?_push_of_some _ (Heap.get?_push_of_some _ x)⟩
  cases r with
  | error e => exact hr
  | ok fl =>
    cases fl with
    | ret obj =>
      obtain ⟨hT, hQ⟩ := (show s₁.TypeIs obj "enumerate" ∧ Q obj s₁ from hr)
      have hli := ft.init.lookup
      have hbi := ft.init.bind obj
      repeat (any_goals (first | assumption | wp_step))
      refine codeAny_mono (codeAny_call_builtin ft.init.plain F.entry_object_init (ft.init.check _ _ _ _ _ _ _ _ hT (initArgs_enumK obj (.ref l) (.int i t)) (init_enumK obj (.ref l) (.int i t) prog w A.in1 (wants (fun r s₂ => r = .none ∧ Q obj s₂) E) s₁ ⟨hT, rfl, hQ⟩))) fun r₂ s₂ hr₂ => ?_
      cases r₂ with
      | error e => exact hr₂
      | ok fl₂ =>
        cases fl₂ with
        | ret r =>
          obtain ⟨rfl, hq⟩ := hr₂
          repeat (any_goals (first | assumption | wp_step))
        | _ => exact hr₂.elim
    | _ => exact hr.elim
theorem callWith_tyK {M : Model} {env : Env} {pos : Pos} {T : String} {e : Expr} {rest : List Expr} {kws : List Keyword} {Q : Value → Shared → Prop}
    (h : wpAny M A (spliced (backTo pos (starEach (e :: rest) env))) (fun vs s₁ => wpAny M A (evalAll ((backToKw pos (keywordEach kws env)).map (·.2)))
      (fun ks s₂ => wpAny M A (call (.type T) vs (((backToKw pos (keywordEach kws env)).filterMap (·.1)).zip ks)) Q E s₂) E s₁) E s)
    (he : backTo pos (starEach (e :: rest) env) = (false, eval e env) :: backTo pos (starEach rest env)) (hpl : (backTo pos (starEach (e :: rest) env)).any (·.1) = false)
    (hall : (backToKw pos (keywordEach kws env)).all (·.1.isSome) = true) (hkw : (backToKw pos (keywordEach kws env)).any (·.1.isNone) = false) :
    wpAny M A (callWith pos (.type T) [] (backTo pos (starEach (e :: rest) env)) (backToKw pos (keywordEach kws env))) Q E s := by
  have h2 : wpAny M A (evalArgs (.type T) true (backTo pos (starEach (e :: rest) env)) (backToKw pos (keywordEach kws env))) (fun a s₁ => wpAny M A (call (.type T) a.pos a.kw) Q E s₁) E s := by
    rw [he] at h ⊢
    exact evalArgs_kwB hall h
  unfold callWith
  refine wpAny_bind (wpAny_holding (wpAny_mono h2 (fun a s₁ h₁ => wpAny_bind (wpAny_standAt ?_)) fun _ _ x => x))
  simp only [hpl, hkw, Bool.or_false]
  refine wpAny_bind (wpAny_pure ?_)
  exact wpAny_bind (wpAny_mono h₁ (fun r s₂ hr => wpAny_bind (wpAny_holding (wpAny_point (wpAny_pure hr)))) fun _ _ x => x)
end
/-! ### the iterator -/
def IteK (K : PySem.W.Frag) (a : Addr) (k : Nat) : It :=
  ⟨fun i H => ∃ xs x, SqL K H a xs ∧ xs[i]? = some x, fun i H v H' => ∃ p, H p = none ∧ v = .ref p ∧ ∀ xs x, SqL K H a xs → xs[i]? = some x → H' = upd H p (.tup [.int ((k + i : Nat) : Int), x]), fun i H => ∃ xs, SqL K H a xs ∧ xs.length ≤ i⟩
theorem turn_enumK {P : Program} {w : World} {K : PySem.W.Frag} {elts : List Expr} {j : Nat} {tp : Pos} (a e it : Addr) (k : Nat) (hne : e ≠ it) :
    Turn P w K (.Tuple elts j tp) (IteK K a k) [e, it] e (fun i h => (∃ old, IsEnum h e it ((k + i : Nat) : Int) old) ∧ h.IsListIter it a i) where
  mem := by simp
  obj := fun i h st b hb => by
    obtain ⟨⟨old, h1⟩, o, h2, _, h3⟩ := st
    rcases List.mem_cons.mp hb with q | q
    · subst q
      exact ⟨_, h1, fun v z => by cases (show Data.fields _ = Data.cell v from z)⟩
    · have q' : b = it := by simpa using q
      subst q'
      exact ⟨o, h2, fun v z => by rw [h3] at z; cases z⟩
  keep := fun i h h' st kk => by
    obtain ⟨⟨old, h1⟩, h2⟩ := st
    exact ⟨⟨old, kk e (by simp) _ h1⟩, h2.at fun o q => kk it (by simp) o q⟩
  item := by
    intro X hP hw hK hc i pins s σ H E I hf st hg
    subst hP hw hK
    obtain ⟨⟨old, h1⟩, h2⟩ := st
    obtain ⟨xs, x, hq, hx⟩ := hg
    obtain ⟨its, rv, p, hz⟩ := I.list hq
    obtain ⟨u, hu, ru⟩ := rv.get hx
    have elt : e < s.heap.objs.size := Heap.lt_size h1
    have ilt : it < s.heap.objs.size := by obtain ⟨_, q, _⟩ := h2; exact Heap.lt_size q
    have hhd : X.A.in1.handled = none := I.ok.hd hc
    have hnl : a ≠ it := fun z => by
      obtain ⟨o1, q1, c1, _⟩ := h2
      obtain ⟨o2, q2, c2, _⟩ := p.isList
      rw [z, q1] at q2
      cases q2
      rw [c1] at c2
      exact absurd (Value.type.inj c2) (by decide)
    have hne2 : a ≠ e := fun z => by
      obtain ⟨o2, q2, c2, _⟩ := p.isList
      rw [z, h1] at q2
      cases q2
      exact absurd (Value.type.inj (show Value.type "enumerate" = .type "list" from c2)) (by decide)
    have hil : i < its.toArray.size := by
      have := (List.getElem?_eq_some_iff.mp hu).1
      simpa using this
    refine wpAny_pyNext_enum_itemD (draws_from (Draws.list hhd it a hnl its.toArray) k) h1 ⟨i, rfl, h2, p.isList⟩ (by omega) hne (by simp [hne, Ne.symm hne2]) fun y h' tk hP' ho hst hT hsz kk => ⟨_, rfl, ?_⟩
    obtain ⟨i', ei, hy⟩ := hP'
    have ei' : i' = i := by omega
    subst ei'
    obtain ⟨i2, e2, hit, _⟩ := hst
    have e2' : i2 = i' + 1 := by omega
    subst e2'
    have hyu : y = u := by
      rw [show its.toArray[i']? = its[i']? by simp, hu] at hy
      exact (Option.some.inj hy).symm
    subst hyu
    have I1 : Inv X pins σ H { s with heap := h', toks := tk + 1 } := I.turnedL (ch := [e, it]) (fun b o hb q => kk b o (fun z => hb (by simp [z])) (fun z => hb (by simp [z])) q) hf
    refine wpAny_letOwnedTupleGo_enum ho fun h2' he' hs' => ?_
    have I2 := I1.turnedL (h' := h2') (t' := tk + 1) (ch := [e]) (fun b o hb q => hs'.extBut b o (fun z => hb (by simp [z])) q) fun b hb => hf b (by
      rcases List.mem_singleton.mp hb with rfl
      simp)
    have nT : H s.heap.objs.size = none := I.hok.fresh (Nat.le_refl _)
    have I3 := I2.pairAt (T := s.heap.objs.size) (a := .int ((k + i' : Nat) : Int)) (b := x) (I.fpOk (Nat.le_refl _) nT) (hs'.extBut _ _ (Nat.ne_of_gt elt) hT) ⟨_, rfl⟩ ru
    refine ⟨.ref s.heap.objs.size, _, I3, rfl, ⟨_, nT, rfl, fun ys z hy hyi => ?_⟩, ⟨⟨y, ?_⟩, ?_⟩, fun b hb => ?_⟩
    · have e1 := I.list_inj hy hq
      subst e1
      rw [hx] at hyi
      cases hyi
      rfl
    · have ec : ((k + (i' + 1) : Nat) : Int) = ((k + i' : Nat) : Int) + 1 := by omega
      rw [ec]
      exact he'
    · exact hit.at fun o q => hs'.extBut it o (Ne.symm hne) q
    · rw [upd_ne ?_]
      · exact (hf b hb).1
      · rcases List.mem_cons.mp hb with q | q
        · rw [q]
          exact Nat.ne_of_lt elt
        · rw [show b = it by simpa using q]
          exact Nat.ne_of_lt ilt
  done := by
    intro X hP hw hK hc i pins s σ H E I hf st hg
    subst hP hw hK
    obtain ⟨⟨old, h1⟩, h2⟩ := st
    obtain ⟨xs, hq, hx⟩ := hg
    obtain ⟨its, rv, p, hz⟩ := I.list hq
    have hl := rv.length
    have hhd : X.A.in1.handled = none := I.ok.hd hc
    refine wpAny_pyNext_enum_endD (draws_end hhd it a its.toArray i (by simp; omega)) h1 ⟨h2, p.isList⟩ fun h' eb => ⟨rfl, ?_⟩
    exact I.turnedL (t' := s.toks) (ch := [e, it]) (fun b o hb q => eb b o (fun z => hb (by simp [z])) q) hf
  self := fun _ _ _ _ _ st h => by
    obtain ⟨⟨old, h1⟩, _⟩ := st
    exact wpAny_pyIter_enum h1 h
section
variable {X : Cx} {elts : List Expr} {k : Nat} {tp : Pos}
def iEnumK (K : PySem.W.Frag) (ta : TA) (tk : TE) : TI := fun σ H R => ta σ H fun vs H1 => tk σ H1 fun y H2 => ∃ (a : Addr) (n : Nat), vs = [.ref a] ∧ y = .int (n : Int) ∧ n < 2 ^ 62 ∧ (∃ xs, Rd H2 a (.lst xs)) ∧ R (IteK K a n) H2
theorem pi_enumK {e ek : Expr} {ta : TA} {tk : TE} {p kp pos : Pos} (hg : Gl X "enumerate") (hm : X.mg "enumerate" = none) (ha : PA X [e] ta) (hk : PE X ek tk) (he : backTo pos (starEach [e] X.env) = [(false, eval e X.env)] := by rfl)
    (hall : (backToKw pos (keywordEach [⟨some "start", ek, kp⟩] X.env)).all (·.1.isSome) = true := by rfl) (hkw : (backToKw pos (keywordEach [⟨some "start", ek, kp⟩] X.env)).any (·.1.isNone) = false := by rfl)
    (hnm : (backToKw pos (keywordEach [⟨some "start", ek, kp⟩] X.env)).filterMap (·.1) = [("start" : Str)] := by rfl) :
    PI X (.Tuple elts k tp) (.Call (.Name "enumerate" p) [e] [⟨some "start", ek, kp⟩] pos) (iEnumK X.K ta tk) := by
  intro pins s σ H R I h
  refine wpAny_Call_Name_kw (ld_blt I hg hm (by decide +kernel : bootBuiltins "enumerate" = some (.type "enumerate")) (callWith_tyK (thn (ha pos pins s σ H _ I h) fun us s1 ⟨vs, H1, I1, r1, q1⟩ => ?_) he (by rw [he]; rfl) hall hkw))
  refine thn (pk_cons (nm := some "start") (kpos := kp) hk pk_nil pos pins s1 σ H1 (fun zs H2 => match zs with
    | [y] => ∃ (a : Addr) (n : Nat), vs = [.ref a] ∧ y = .int (n : Int) ∧ n < 2 ^ 62 ∧ (∃ xs, Rd H2 a (.lst xs)) ∧ R (IteK X.K a n) H2
    | _ => False) I1 q1) fun ws s2 ⟨zs, H2, I2, rz, q2⟩ => ?_
  obtain ⟨y, ez⟩ : ∃ y, zs = [y] := by
    match zs, q2 with
    | [y], _ => exact ⟨y, rfl⟩
  subst ez
  obtain ⟨a, n, ev, ey, hn, ⟨xs, hr⟩, q⟩ := q2
  subst ev ey
  obtain ⟨u, rfl, ru⟩ := vals1 r1
  cases ru
  obtain ⟨u2, rfl, t, rfl⟩ := vals1 rz
  rw [hnm]
  show wpAny _ _ (call (.type "enumerate") [.ref a] [("start", .int (n : Int) t)]) _ _ _
  obtain ⟨z, its, m, rv, ho⟩ := hr.ok I2.hok
  refine call_enumK (by unfold Builtin.SmallTypes.fitsIndex; simp; omega) ho fun h' hen hit hsz kk => ?_
  refine wpAny_pyIter_enum hen ?_
  have I3 : Inv X pins σ H2 { s2 with heap := h' } := I2.kept (t' := s2.toks) kk
  refine ⟨s2.heap.objs.size + 1, [s2.heap.objs.size + 1, s2.heap.objs.size], _, _, H2, rfl, I3, turn_enumK a _ _ n (Nat.ne_of_gt (Nat.lt_succ_self _)), ⟨⟨.none, hen⟩, hit⟩, fun b hb => ?_, q⟩
  rcases List.mem_cons.mp hb with z1 | z1
  · rw [z1]
    exact I2.fpOk (Nat.le_succ _) (I2.hok.fresh (Nat.le_succ _))
  · rw [show b = s2.heap.objs.size by simpa using z1]
    exact I2.fpOk (Nat.le_refl _) (I2.hok.fresh (Nat.le_refl _))
end
theorem for_enumK {K : PySem.W.Frag} {a : Addr} {k : Nat} {xs : List V} {tb : TS} {D : Ends} {σ : St} {H : Hp} {g : TG} (Pv : Nat → St → Hp → Prop) (h0 : Pv 0 σ H) (hl : ∀ i σ H, i ≤ xs.length → Pv i σ H → SqL K H a xs)
    (hs : ∀ (i : Nat) x σ H p, xs[i]? = some x → Pv i σ H → H p = none → g (.ref p) σ (upd H p (.tup [.int ((k + i : Nat) : Int), x])) fun σ2 H2 => tb { D with nx := Pv (i + 1), ct := Pv (i + 1), bk := D.nx } σ2 H2) (hd : ∀ σ H, Pv xs.length σ H → D.nx σ H) :
    ∃ W : Nat → Nat → St → Hp → Prop, (∃ m, W 0 m σ H) ∧ ∀ i m σ H, W i m σ H →
      ((IteK K a k).stop i H ∧ D.nx σ H) ∨ ((IteK K a k).go i H ∧ ∃ N : St → Hp → Prop, (∀ σ' H', N σ' H' → ∃ m', m' < m ∧ W (i + 1) m' σ' H') ∧ ∀ x H', (IteK K a k).yld i H x H' → g x σ H' fun σ2 H2 => tb { D with nx := N, ct := N, bk := D.nx } σ2 H2) := by
  refine ⟨fun i m σ H => m = xs.length - i ∧ i ≤ xs.length ∧ Pv i σ H, ⟨xs.length, by simp, Nat.zero_le _, h0⟩, ?_⟩
  rintro i m σ H ⟨rfl, hi, p⟩
  have q := hl i σ H hi p
  by_cases hlt : i < xs.length
  · have hx : xs[i]? = some xs[i] := by simp [hlt]
    refine .inr ⟨⟨xs, xs[i], q, hx⟩, Pv (i + 1), fun σ' H' p' => ⟨xs.length - (i + 1), by omega, rfl, hlt, p'⟩, fun x H' y => ?_⟩
    obtain ⟨p', hp, e1, e2⟩ := y
    have e3 := e2 xs _ q hx
    subst e1 e3
    exact hs i _ σ H p' hx p hp
  · have e : i = xs.length := by omega
    subst e
    exact .inl ⟨⟨xs, q, Nat.le_refl _⟩, hd σ H p⟩
/-! ### isinstance of an own object -/
structure TyC (K : PySem.W.Frag) (C : Addr) : Prop where
  ha : PySem.W.findIn K (.ref C) "__class__" = some (some (.builtin "object.__class__"))
  hn : PySem.W.specialIn K (.builtin "object.__class__") "__get__" = some (some (.builtin "getset_descriptor.__get__"))
  ht : PySem.W.takesIn K (.builtin "object.__class__") = some true
  hm : PySem.W.mroIn K C (.type "object") = some true
theorem TyC.of {K : PySem.W.Frag} {C : Addr} (t : TyC K C) {H : Hp} {x dx : Addr} {fs : List (Str × V)} (e : H x = some (.ins C dx fs)) (c : Cls K C) : TyOf K H (.ref x) (.ref C) := .ins e c t.ha t.hn t.ht t.hm
theorem call_isiO {X : Cx} : CallR X (.builtin "isinstance") (fun xs H Q => ∃ (x y : V) (t c : Value) (b : Bool), xs = [x, y] ∧ ClsV y c ∧ TyOf X.K H x t ∧ PySem.W.kitOne X.K t c = some b ∧ Q (.bl b) H) := by
  intro pins s σ H xs us Q I r h
  obtain ⟨x, y, t, c, b, rfl, hy, ty, e, q⟩ := h
  obtain ⟨u, w', rfl, rx, ry⟩ := vals2 r
  have hc : w' = c := by
    cases hy with
    | own C => exact ry
    | ty T => exact ry
  subst hc
  exact isinst_ok I rx ty e fun tk => ⟨.bl b, H, I.tok tk, rfl, q⟩
end L2

set_option Elab.async false
set_option linter.all false
set_option maxRecDepth 100000
/-! a, b, c = x, y, z -/
namespace L2
open PySem PySem.Spec PySem.Calls PyProof.Rows
section
variable {X : Cx} {pos : Pos}
def tPar3 (i j k : Nat) (ta : TA) : TS := fun D σ H => ta σ H fun vs H1 => ∃ v w u, vs = [v, w, u] ∧ D.nx (((σ.set i (some v)).set j (some w)).set k (some u)) H1
theorem ps_par3 {i j k : Nat} {x y z : Str} {a b c : Expr} {ta : TA} {px py pz pt : Pos} {kt k2 pt2} (hc : X.calm = true) (hN : X.N.Nodup) (hi : X.N[i]? = some x) (hj : X.N[j]? = some y) (hk : X.N[k]? = some z) (hij : i ≠ j) (hik : i ≠ k) (hjk : j ≠ k)
    (hx : X.env.scope.names.lookup x = some .local) (hy : X.env.scope.names.lookup y = some .local) (hz : X.env.scope.names.lookup z = some .local) (ha : PA X [a, b, c] ta)
    (hw : swappedStores [.Tuple [.Name x px, .Name y py, .Name z pz] kt pt] (.Tuple [a, b, c] k2 pt2) X.env = pure (some [x, y, z]))
    (hs : swapsWithSole [.Tuple [.Name x px, .Name y py, .Name z pz] kt pt] (.Tuple [a, b, c] k2 pt2) pos.line X.env = pure false := by rfl) :
    PS X (.Assign [.Tuple [.Name x px, .Name y py, .Name z pz] kt pt] (.Tuple [a, b, c] k2 pt2) pos) (tPar3 i j k ta) := by
  intro pins s σ H D I h
  rw [exec_Assign_arm]
  refine wpAny_bind (wpAny_standAt ?_)
  rw [hs]
  refine wpAny_bind (wpAny_pure ?_)
  rw [if_neg (by decide)]
  refine wpAny_bind (Tuple_ (thn (ha _ pins s σ H _ I h) fun us s1 ⟨vs, H1, I1, r1, q1⟩ => ?_))
  obtain ⟨v, w, u, e1, q1⟩ := q1
  subst e1
  obtain ⟨u1, u2, u3, rfl, rv, rw', ru⟩ := vals3 r1
  refine wpAny_newObj_type ?_ (by show 3 ≤ sizeLine; decide)
  have I2 : Inv X pins σ H1 { s1 with heap := s1.heap.push { cls := .type "tuple", data := .seq [u1, u2, u3].toArray } } := I1.kept (t' := s1.toks) fun b o e => Heap.get?_push_of_some _ e
  rw [hw]
  refine wpAny_bind (wpAny_pure ?_)
  show wpAny (model X.prog X.w) X.A (do rule "assign.swapped-stores"; let items ← unpackItems (.ref s1.heap.objs.size) 3 none; assignInOrder [fun v => bindName X.env z v, fun v => bindName X.env y v, fun v => bindName X.env x v] items.reverse; pure Flow.next) _ _ _
  refine wpAny_bind (wpAny_rule (wpAny_bind (unpackItems_tuple (items := #[u1, u2, u3]) (I.ok.hd hc) (IsTup.new s1.heap _) fun h' hx' => ?_)))
  have I3 := I2.kept (h' := h') (t' := s1.toks) fun b o e => hx' b o (Nat.ne_of_lt (Heap.lt_size e)) e
  show wpAny _ _ (assignInOrder [fun v => bindName X.env z v, fun v => bindName X.env y v, fun v => bindName X.env x v] [u3, u2, u1] >>= fun _ => pure Flow.next) _ _ _
  refine wpAny_bind (assignInOrder_cons (wpAny_bindName (store_ok I3 hN hk (.inl hz) ru (fun s2 I4 => ?_) (.inr hz))))
  refine assignInOrder_cons (wpAny_bindName (store_ok I4 hN hj (.inl hy) rw' (fun s3 I5 => ?_) (.inr hy)))
  refine assignInOrder_cons (wpAny_bindName (store_ok I5 hN hi (.inl hx) rv (fun s4 I6 => assignInOrder_nil (wpAny_pure ?_)) (.inr hx)))
  have e : ((σ.set k (some u)).set j (some w)).set i (some v) = ((σ.set i (some v)).set j (some w)).set k (some u) := by
    rw [List.set_comm _ _ (Ne.symm hjk), List.set_comm _ _ (Ne.symm hik), List.set_comm _ _ (Ne.symm hij)]
  rw [e] at I6
  exact ⟨_, H1, I6, q1⟩
end
end L2

set_option Elab.async false
set_option linter.all false
set_option maxRecDepth 100000
/-! a block cut in two: what holds between is said -/
namespace L2
open PySem PySem.Spec PySem.Calls PyProof.Rows
section
variable {X : Cx} {st : Stmt} {rest : List Stmt} {t : TS} {u : TS}
def tCut (t u : TS) : TS := fun D σ H => ∃ M : St → Hp → Prop, t { D with nx := M } σ H ∧ ∀ σ' H', M σ' H' → u D σ' H'
theorem pss_cut (h1 : PS X st t) (h2 : PSs X rest u) : PSs X (st :: rest) (tCut t u) := by
  intro pins s σ H D I h
  obtain ⟨M, hM, hu⟩ := h
  refine wpAny_execs_cons (thn (h1 pins s σ H { D with nx := M } I hM) fun f s1 q => ?_)
  cases f with
  | next =>
    obtain ⟨σ', H', I', q⟩ := q
    exact h2 pins s1 σ' H' D I' (hu σ' H' q)
  | ret v => exact q
  | brk => exact q
  | cont => exact q
end
end L2

set_option Elab.async false
set_option linter.all false
set_option maxRecDepth 100000
/-! a block that is left at once; a call by a local name within a try; a call within an except suite; {}; list(range(n)); lists of truths compared -/
namespace L2
open PySem PySem.Spec PySem.Calls PyProof.Rows
section
variable {X : Cx} {st : Stmt} {rest : List Stmt} {t : TS}
end
section
variable {X : Cx} {pins : List (Addr × Obj)} {E : St → XK} {k i : Nat} {f : Addr} {fd : FuncData} {ps : List Str} {sp : Sp} {x : Str} {p pos : Pos} {e : Expr} {es : List Expr} {t : TA} {tn : TE}
end
/-! ### a def called while an exception is handled -/
structure RoomH (k : Nat) (A : Around) : Prop where
  dp : A.depth + 3 * k + 5 < recursionLimit
  un : A.units + 16 * k + 200 < cLine
theorem Room.h {k : Nat} {A : Around} (r : Room k A) (m : Option Value) : RoomH k (A.mark m) := ⟨r.dp, r.un⟩
theorem RoomH.mono {j k : Nat} {A : Around} (r : RoomH k A) (h : j ≤ k) : RoomH j A := ⟨by have := r.dp; omega, by have := r.un; omega⟩
theorem RoomH.deeper {k : Nat} {A : Around} (r : RoomH (k + 1) A) (env : Env) : RoomH k (A.deeper env) :=
  ⟨by have := r.dp; show A.depth + 1 + 3 * k + 5 < _; omega, by have := r.un; show A.units + 3 + 16 * k + 200 < _; omega⟩
structure FnH (P : Program) (w : World) (K : PySem.W.Frag) (mg : Str → Option Value) (base : Heap) (k : Nat) (f : Addr) (fd : FuncData) (ps : List Str) (sp : Sp) : Prop where
  len : ∀ vs H Q E, sp vs H Q E → vs.length = ps.length
  run : ∀ (A : Around) (outer : List Env) (s : Shared) (H : Hp) (args : Args) (us : List Value) (vs : List V) (Q : VK) (E : XK), RoomH k A → Env0 P w K mg base A outer s H → BindsTo s fd args (ps.zip us) → Vals vs us → sp vs H Q E →
    codeAny (model P w) A (.call (.ref f) args) (CR CX0 outer P w H s Q E) s
section
variable {X : Cx} {k : Nat} {f : Addr} {fd : FuncData} {ps : List Str} {sp : Sp} {x : Str} {p pos : Pos} {e : Expr} {es : List Expr} {t : TA}
end
/-! ### {} -/
section
variable {X : Cx} {pos : Pos}
end
/-! ### range(n) as a value, list(range(n)) -/
section
variable {X : Cx}
end
/-! ### lists of truths compared -/
section
variable {X : Cx}
end
end L2

/-! Sums, congruences, convolutions: plain mathematics. -/
namespace RM
/-- f 0 + .. + f (n - 1) -/
def sm : Nat → (Nat → Int) → Int
  | 0, _ => 0
  | n + 1, f => sm n f + f n
theorem sm_congr {n : Nat} {f g : Nat → Int} (h : ∀ i, i < n → f i = g i) : sm n f = sm n g := by
  induction n with
  | zero => rfl
  | succ n ih => rw [sm, sm, ih fun i hi => h i (by omega), h n (by omega)]
theorem sm_zero {n : Nat} {f : Nat → Int} (h : ∀ i, i < n → f i = 0) : sm n f = 0 := by
  induction n with
  | zero => rfl
  | succ n ih => rw [sm, ih fun i hi => h i (by omega), h n (by omega)]; rfl
theorem sm_add (n : Nat) (f g : Nat → Int) : sm n (fun i => f i + g i) = sm n f + sm n g := by
  induction n with
  | zero => rfl
  | succ n ih => simp only [sm]; rw [ih]; omega
theorem sm_mul (n : Nat) (c : Int) (f : Nat → Int) : sm n (fun i => c * f i) = c * sm n f := by
  induction n with
  | zero => simp [sm]
  | succ n ih => simp only [sm]; rw [ih, Int.mul_add]
theorem sm_mulr (n : Nat) (c : Int) (f : Nat → Int) : sm n (fun i => f i * c) = sm n f * c := by
  rw [Int.mul_comm, ← sm_mul]
  exact sm_congr fun i _ => Int.mul_comm _ _
/-- one more at the front -/
theorem sm_front (n : Nat) (f : Nat → Int) : sm (n + 1) f = f 0 + sm n (fun i => f (i + 1)) := by
  induction n with
  | zero => simp [sm]
  | succ n ih =>
    rw [sm, ih]
    simp only [sm]
    omega
/-- told from behind -/
theorem sm_rev (n : Nat) (f : Nat → Int) : sm n (fun i => f (n - 1 - i)) = sm n f := by
  induction n with
  | zero => rfl
  | succ n ih =>
    rw [sm_front, sm]
    have e : sm n (fun i => f (n + 1 - 1 - (i + 1))) = sm n (fun i => f (n - 1 - i)) := sm_congr fun i _ => by
      have : n + 1 - 1 - (i + 1) = n - 1 - i := by omega
      rw [this]
    rw [e, ih]
    simp only [Nat.add_sub_cancel, Nat.sub_zero]
    omega
theorem sm_cut {n m : Nat} {f : Nat → Int} (h : n ≤ m) (h0 : ∀ i, n ≤ i → i < m → f i = 0) : sm m f = sm n f := by
  induction m with
  | zero => have : n = 0 := by omega
            subst this; rfl
  | succ m ih =>
    by_cases e : n = m + 1
    · rw [e]
    · rw [sm, ih (by omega) fun i a b => h0 i a (by omega), h0 m (by omega) (by omega)]
      omega
/-- a triangle told by its rows or by its diagonals -/
theorem sm_tri (F : Nat → Nat → Int) (n : Nat) : sm (n + 1) (fun i => sm (n - i + 1) (fun j => F i j)) = sm (n + 1) (fun k => sm (k + 1) (fun i => F i (k - i))) := by
  induction n with
  | zero => rfl
  | succ n ih =>
    rw [show sm (n + 1 + 1) (fun k => sm (k + 1) (fun i => F i (k - i))) = sm (n + 1) (fun k => sm (k + 1) (fun i => F i (k - i))) + sm (n + 1 + 1) (fun i => F i (n + 1 - i)) from rfl, ← ih]
    rw [sm]
    have e1 : sm (n + 1) (fun i => sm (n + 1 - i + 1) (fun j => F i j)) = sm (n + 1) (fun i => sm (n - i + 1) (fun j => F i j)) + sm (n + 1) (fun i => F i (n + 1 - i)) := by
      rw [← sm_add]
      refine sm_congr fun i hi => ?_
      have e : n + 1 - i + 1 = (n - i + 1) + 1 := by omega
      have e' : n - i + 1 = n + 1 - i := by omega
      rw [e, sm, e']
    have e2 : sm (n + 1 - (n + 1) + 1) (fun j => F (n + 1) j) = F (n + 1) (n + 1 - (n + 1)) := by
      rw [Nat.sub_self]
      simp [sm]
    rw [e1, e2]
    rw [show sm (n + 1 + 1) (fun i => F i (n + 1 - i)) = sm (n + 1) (fun i => F i (n + 1 - i)) + F (n + 1) (n + 1 - (n + 1)) from rfl]
    omega

/-! ### equal up to p -/
def Cg (p a b : Int) : Prop := p ∣ a - b
theorem Cg.refl (p a : Int) : Cg p a a := ⟨0, by omega⟩
theorem Cg.of_eq {p a b : Int} (h : a = b) : Cg p a b := h ▸ Cg.refl p a
theorem Cg.symm {p a b : Int} (h : Cg p a b) : Cg p b a := by
  obtain ⟨k, e⟩ := h
  exact ⟨-k, by rw [Int.mul_neg]; omega⟩
theorem Cg.trans {p a b c : Int} (h : Cg p a b) (h' : Cg p b c) : Cg p a c := by
  obtain ⟨k, e⟩ := h
  obtain ⟨l, e'⟩ := h'
  exact ⟨k + l, by rw [Int.mul_add]; omega⟩
theorem Cg.add {p a b c d : Int} (h : Cg p a b) (h' : Cg p c d) : Cg p (a + c) (b + d) := by
  obtain ⟨k, e⟩ := h
  obtain ⟨l, e'⟩ := h'
  exact ⟨k + l, by rw [Int.mul_add]; omega⟩
theorem Cg.neg {p a b : Int} (h : Cg p a b) : Cg p (-a) (-b) := by
  obtain ⟨k, e⟩ := h
  exact ⟨-k, by rw [Int.mul_neg]; omega⟩
theorem Cg.mul {p a b c d : Int} (h : Cg p a b) (h' : Cg p c d) : Cg p (a * c) (b * d) := by
  obtain ⟨k, e⟩ := h
  obtain ⟨l, e'⟩ := h'
  have e1 : a = b + p * k := by omega
  have e2 : c = d + p * l := by omega
  refine ⟨b * l + k * d + k * (p * l), ?_⟩
  rw [e1, e2]
  rw [Int.add_mul, Int.mul_add, Int.mul_add, Int.mul_add, Int.mul_add]
  have q1 : b * (p * l) = p * (b * l) := by rw [← Int.mul_assoc, Int.mul_comm b p, Int.mul_assoc]
  have q2 : p * k * d = p * (k * d) := Int.mul_assoc ..
  have q3 : p * k * (p * l) = p * (k * (p * l)) := Int.mul_assoc ..
  rw [q1, q2, q3]
  omega
theorem Cg.emod (p a : Int) : Cg p (a % p) a := by
  refine ⟨-(a / p), ?_⟩
  have := Int.emod_add_mul_ediv a p
  rw [Int.mul_neg]
  omega
theorem Cg.eq {p a b : Int} (hp : 0 < p) (h : Cg p a b) : a % p = b % p := by
  obtain ⟨k, e⟩ := h
  have e1 : a = b + p * k := by omega
  rw [e1, Int.add_mul_emod_self_left]
theorem Cg.of_mod {p a b : Int} (h : a % p = b % p) : Cg p a b := ((Cg.emod p a).symm.trans (Cg.of_eq h)).trans (Cg.emod p b)
theorem Cg.sm {p : Int} {n : Nat} {f g : Nat → Int} (h : ∀ i, i < n → Cg p (f i) (g i)) : Cg p (sm n f) (sm n g) := by
  induction n with
  | zero => exact Cg.refl _ _
  | succ n ih => exact (ih fun i hi => h i (by omega)).add (h n (by omega))
/-- a rest is its own rest -/
theorem rest_eq {p a b : Int} (h0 : 0 ≤ a) (h1 : a < p) (h2 : 0 ≤ b) (h3 : b < p) (h : Cg p a b) : a = b := by
  have := h.eq (by omega)
  rw [Int.emod_eq_of_lt h0 h1, Int.emod_eq_of_lt h2 h3] at this
  exact this
theorem mod_rest {a p : Int} (hp : 0 < p) : 0 ≤ a % p ∧ a % p < p := ⟨Int.emod_nonneg _ (by omega), Int.emod_lt_of_pos _ hp⟩

/-! ### convolution -/
def cv (f g : Nat → Int) (n : Nat) : Int := sm (n + 1) fun i => f i * g (n - i)
theorem cv_comm (f g : Nat → Int) (n : Nat) : cv f g n = cv g f n := by
  unfold cv
  rw [← sm_rev (n + 1) (fun i => g i * f (n - i))]
  refine sm_congr fun i hi => ?_
  have e1 : n + 1 - 1 - i = n - i := by omega
  have e2 : n - (n - i) = i := by omega
  rw [e1, e2, Int.mul_comm]
theorem cv_assoc (f g h : Nat → Int) (n : Nat) : cv f (cv g h) n = cv (cv f g) h n := by
  have e1 : cv f (cv g h) n = sm (n + 1) (fun i => sm (n - i + 1) (fun j => f i * (g j * h (n - i - j)))) := sm_congr fun i _ => by
    unfold cv
    rw [sm_mul]
  have e2 : cv (cv f g) h n = sm (n + 1) (fun k => sm (k + 1) (fun i => f i * (g (k - i) * h (n - i - (k - i))))) := sm_congr fun k hk => by
    unfold cv
    rw [← sm_mulr]
    refine sm_congr fun i hi => ?_
    have e : n - i - (k - i) = n - k := by omega
    rw [e, Int.mul_assoc]
  rw [e1, e2]
  exact sm_tri (fun i j => f i * (g j * h (n - i - j))) n
theorem cv_congr {p : Int} {f f' g g' : Nat → Int} {n : Nat} (h : ∀ i, i ≤ n → Cg p (f i) (f' i)) (h' : ∀ i, i ≤ n → Cg p (g i) (g' i)) : Cg p (cv f g n) (cv f' g' n) :=
  Cg.sm fun i hi => (h i (by omega)).mul (h' (n - i) (by omega))
theorem cv_eq {f f' g g' : Nat → Int} {n : Nat} (h : ∀ i, i ≤ n → f i = f' i) (h' : ∀ i, i ≤ n → g i = g' i) : cv f g n = cv f' g' n :=
  sm_congr fun i hi => by rw [h i (by omega), h' (n - i) (by omega)]
/-- the sign of -1 to the n -/
def sg (n : Nat) : Int := if n % 2 = 0 then 1 else -1
theorem sg_mul (m n : Nat) : sg m * sg n = sg (m + n) := by
  unfold sg
  rcases Nat.mod_two_eq_zero_or_one m with hm | hm <;> rcases Nat.mod_two_eq_zero_or_one n with hn | hn
  · rw [if_pos hm, if_pos hn, if_pos (by omega)]; rfl
  · rw [if_pos hm, if_neg (by omega), if_neg (by omega)]; rfl
  · rw [if_neg (by omega), if_pos hn, if_neg (by omega)]; rfl
  · rw [if_neg (by omega), if_neg (by omega), if_pos (by omega)]; rfl
/-- q(x) q(-x) has even powers alone -/
theorem mirror_odd (q : Nat → Int) (n : Nat) (hn : n % 2 = 1) : cv q (fun i => sg i * q i) n = 0 := by
  have e1 : cv q (fun i => sg i * q i) n = -cv (fun i => sg i * q i) q n := by
    unfold cv
    rw [← Int.neg_one_mul, ← sm_mul]
    refine sm_congr fun i hi => ?_
    have e : sg (n - i) = -sg i := by
      have h1 : sg i * sg (n - i) = sg n := by rw [sg_mul, show i + (n - i) = n by omega]
      have h2 : sg n = -1 := by unfold sg; rw [if_neg (by omega)]
      rw [h2] at h1
      unfold sg at h1 ⊢
      by_cases c1 : i % 2 = 0 <;> by_cases c2 : (n - i) % 2 = 0 <;> simp only [c1, c2, if_true, if_false] at h1 ⊢ <;> omega
    show q i * (sg (n - i) * q (n - i)) = -1 * (sg i * q i * q (n - i))
    rw [e, Int.neg_mul, Int.mul_neg, Int.neg_one_mul, ← Int.mul_assoc, Int.mul_comm (q i) (sg i)]
  have e2 := cv_comm q (fun i => sg i * q i) n
  omega
/-- only even places count -/
theorem sm_even (e : Nat) (he : e < 2) (m : Nat) (f : Nat → Int) (h : ∀ i, i % 2 = 1 → f i = 0) : sm (2 * m + e + 1) f = sm (m + 1) (fun j => f (2 * j)) := by
  induction m with
  | zero =>
    rcases (by omega : e = 0 ∨ e = 1) with r | r
    · subst r; rfl
    · subst r
      show sm 2 f = sm 1 fun j => f (2 * j)
      simp only [sm]
      rw [h 1 rfl]
      simp
  | succ m ih =>
    have q : 2 * (m + 1) + e + 1 = (2 * m + e + 1) + 1 + 1 := by omega
    rw [q, sm, sm, ih]
    rw [show sm (m + 1 + 1) (fun j => f (2 * j)) = sm (m + 1) (fun j => f (2 * j)) + f (2 * (m + 1)) from rfl]
    rcases (by omega : e = 0 ∨ e = 1) with r | r
    · subst r
      rw [h (2 * m + 0 + 1) (by omega), show 2 * m + 0 + 1 + 1 = 2 * (m + 1) by omega]
      omega
    · subst r
      rw [h (2 * m + 1 + 1 + 1) (by omega), show 2 * m + 1 + 1 = 2 * (m + 1) by omega]
      omega
/-- ONE ROUND of halving: if q * a = u up to p then with v(x^2) = q(x) q(-x) and the half w of u(x) q(-x): v * (a at 2 n + e) = w up to p -/
theorem halve {p : Int} {q a u v w : Nat → Int} {e : Nat} (he : e < 2) (h : ∀ n, Cg p (cv q a n) (u n)) (hv : ∀ j, Cg p (v j) (cv q (fun i => sg i * q i) (2 * j))) (hw : ∀ m, Cg p (w m) (cv u (fun i => sg i * q i) (2 * m + e))) :
    ∀ m, Cg p (cv v (fun n => a (2 * n + e)) m) (w m) := fun m => by
  let s : Nat → Int := fun i => sg i * q i
  have h1 : Cg p (cv u s (2 * m + e)) (cv (cv q s) a (2 * m + e)) := by
    have a1 : Cg p (cv u s (2 * m + e)) (cv (cv q a) s (2 * m + e)) := cv_congr (fun i _ => (h i).symm) fun i _ => Cg.refl _ _
    refine a1.trans (Cg.of_eq ?_)
    rw [cv_comm, cv_assoc, cv_eq (fun i _ => cv_comm s q i) fun i _ => rfl]
  have h2 : cv (cv q s) a (2 * m + e) = sm (m + 1) (fun j => cv q s (2 * j) * a (2 * (m - j) + e)) := by
    unfold cv
    rw [sm_even e he m (fun i => sm (i + 1) (fun k => q k * s (i - k)) * a (2 * m + e - i)) fun i hi => by
      have z : sm (i + 1) (fun k => q k * s (i - k)) = 0 := mirror_odd q i hi
      rw [z, Int.zero_mul]]
    refine sm_congr fun j hj => ?_
    have z : 2 * m + e - 2 * j = 2 * (m - j) + e := by omega
    show sm (2 * j + 1) _ * a (2 * m + e - 2 * j) = _
    rw [z]
  have h3 : Cg p (cv v (fun n => a (2 * n + e)) m) (sm (m + 1) (fun j => cv q s (2 * j) * a (2 * (m - j) + e))) := Cg.sm fun j _ => (hv j).mul (Cg.refl _ _)
  exact (h3.trans (Cg.of_eq h2.symm)).trans (h1.symm.trans (hw m).symm)
end RM

namespace RM
/-! ### rules and rows as plain lists -/
def gt (l : List Int) (i : Nat) : Int := l.getD i 0
theorem gt_lt {l : List Int} {i : Nat} (h : i < l.length) : gt l i = l[i] := by unfold gt; rw [List.getD_eq_getElem?_getD, List.getElem?_eq_getElem h]; rfl
theorem gt_some {l : List Int} {i : Nat} {x : Int} (h : l[i]? = some x) : gt l i = x := by unfold gt; rw [List.getD_eq_getElem?_getD, h]; rfl
theorem gt_ge {l : List Int} {i : Nat} (h : l.length ≤ i) : gt l i = 0 := by unfold gt; rw [List.getD_eq_getElem?_getD, List.getElem?_eq_none h]; rfl
theorem gt_app {l r : List Int} {i : Nat} (h : i < l.length) : gt (l ++ r) i = gt l i := by unfold gt; rw [List.getD_eq_getElem?_getD, List.getD_eq_getElem?_getD, List.getElem?_append_left h]
theorem gt_last {l : List Int} {x : Int} : gt (l ++ [x]) l.length = x := by unfold gt; rw [List.getD_eq_getElem?_getD, List.getElem?_append_right (Nat.le_refl _)]; simp
theorem gt_drop {l : List Int} {k i : Nat} : gt (l.drop k) i = gt l (k + i) := by unfold gt; rw [List.getD_eq_getElem?_getD, List.getD_eq_getElem?_getD, List.getElem?_drop]
theorem gt_map {n i : Nat} {f : Nat → Int} (h : i < n) : gt ((List.range n).map f) i = f i := by unfold gt; rw [List.getD_eq_getElem?_getD, List.getElem?_map, List.getElem?_range h]; rfl
theorem len_map {n : Nat} {f : Nat → Int} : ((List.range n).map f).length = n := by rw [List.length_map, List.length_range]
theorem gt_map0 {n i : Nat} {f : Nat → Int} (h : n ≤ i) : gt ((List.range n).map f) i = 0 := gt_ge (by rw [len_map]; exact h)
theorem gt_mapf {l : List Int} {f : Int → Int} {i : Nat} (h : i < l.length) : gt (l.map f) i = f (gt l i) := by
  rw [gt_lt h, gt_lt (by rw [List.length_map]; exact h), List.getElem_map]
theorem gt_map_all {l : List Int} {f : Int → Int} (h0 : f 0 = 0) (i : Nat) : gt (l.map f) i = f (gt l i) := by
  by_cases h : i < l.length
  · exact gt_mapf h
  · rw [gt_ge (by rw [List.length_map]; omega), gt_ge (by omega), h0]
/-- the list by its places -/
theorem list_eq {l : List Int} {n : Nat} {f : Nat → Int} (hl : l.length = n) (h : ∀ i, i < n → gt l i = f i) : l = (List.range n).map f := by
  apply List.ext_getElem
  · rw [len_map]; exact hl
  · intro i h1 h2
    rw [List.getElem_map, List.getElem_range, ← h i (by omega), gt_lt h1]
theorem list_sum (l : List Int) : l.sum = sm l.length (gt l) := by
  induction l with
  | nil => rfl
  | cons x r ih =>
    rw [List.sum_cons, ih, List.length_cons, sm_front]
    rfl
theorem sum_range (n : Nat) (f : Nat → Int) : ((List.range n).map f).sum = sm n f := by
  rw [list_sum, len_map]
  exact sm_congr fun i hi => gt_map hi
/-- rests -/
def Rests (p : Int) (l : List Int) : Prop := ∀ x ∈ l, 0 ≤ x ∧ x < p
theorem Rests.at {p : Int} {l : List Int} (h : Rests p l) (hp : 0 < p) (i : Nat) : 0 ≤ gt l i ∧ gt l i < p := by
  by_cases hi : i < l.length
  · rw [gt_lt hi]; exact h _ (List.getElem_mem hi)
  · rw [gt_ge (by omega)]; omega
theorem Rests.map {p : Int} {n : Nat} {f : Nat → Int} (h : ∀ i, i < n → 0 ≤ f i ∧ f i < p) : Rests p ((List.range n).map f) := fun x hx => by
  obtain ⟨i, hi, rfl⟩ := List.mem_map.mp hx
  exact h i (List.mem_range.mp hi)
theorem Rests.app {p : Int} {l r : List Int} (h : Rests p l) (h' : Rests p r) : Rests p (l ++ r) := fun x hx => (List.mem_append.mp hx).elim (h x) (h' x)
theorem Rests.drop {p : Int} {l : List Int} (h : Rests p l) (k : Nat) : Rests p (l.drop k) := fun x hx => h x (List.mem_of_mem_drop hx)
theorem Rests.take {p : Int} {l : List Int} (h : Rests p l) (k : Nat) : Rests p (l.take k) := fun x hx => h x (List.mem_of_mem_take hx)
theorem Rests.one {p x : Int} (h : 0 ≤ x ∧ x < p) : Rests p [x] := fun y hy => by rw [List.mem_singleton.mp hy]; exact h
theorem Rests.nil {p : Int} : Rests p [] := fun _ h => nomatch h

/-- what is due at a place -/
def dueN (p : Int) (rule row : List Int) (k : Nat) : Int := sm rule.length (fun i => gt rule i * gt row (k - 1 - i)) % p
theorem dueN_rest {p : Int} (hp : 0 < p) (rule row : List Int) (k : Nat) : 0 ≤ dueN p rule row k ∧ dueN p rule row k < p := mod_rest hp
/-- whether a rule makes a row -/
def makesN (p : Int) (rule row : List Int) : Bool := (List.range (row.length - rule.length)).all fun i => gt row (rule.length + i) == dueN p rule row (rule.length + i)
/-- the row gone on, m numbers more -/
def ext (p : Int) (rule row : List Int) : Nat → List Int
  | 0 => row
  | m + 1 => ext p rule row m ++ [dueN p rule (ext p rule row m) (ext p rule row m).length]
theorem ext_len (p : Int) (rule row : List Int) (m : Nat) : (ext p rule row m).length = row.length + m := by
  induction m with
  | zero => rfl
  | succ m ih => rw [ext, List.length_append, ih]; rfl
theorem ext_pre (p : Int) (rule row : List Int) (m d : Nat) {i : Nat} (h : i < row.length + m) : gt (ext p rule row (m + d)) i = gt (ext p rule row m) i := by
  induction d with
  | zero => rfl
  | succ d ih => rw [← Nat.add_assoc, ext, gt_app (by rw [ext_len]; omega), ih]
/-- the number at a place of the row gone on for ever -/
def seq (p : Int) (rule row : List Int) (i : Nat) : Int := gt (ext p rule row (i + 1)) i
theorem seq_ext {p : Int} {rule row : List Int} {m i : Nat} (h : i < row.length + m) : gt (ext p rule row m) i = seq p rule row i := by
  unfold seq
  rcases Nat.le_total m (i + 1) with q | q
  · obtain ⟨d, e⟩ := Nat.exists_eq_add_of_le q
    rw [e, ext_pre _ _ _ _ _ h]
  · obtain ⟨d, e⟩ := Nat.exists_eq_add_of_le q
    rw [e, ext_pre _ _ _ _ _ (by omega)]
theorem seq_row {p : Int} {rule row : List Int} {i : Nat} (h : i < row.length) : seq p rule row i = gt row i := by
  rw [← seq_ext (m := 0) (by omega)]
  rfl
/-- it goes by the rule behind the row -/
theorem seq_rec {p : Int} {rule row : List Int} {n : Nat} (hl : rule.length ≤ row.length) (h : row.length ≤ n) : seq p rule row n = sm rule.length (fun i => gt rule i * seq p rule row (n - 1 - i)) % p := by
  obtain ⟨m, rfl⟩ := Nat.exists_eq_add_of_le h
  rw [← seq_ext (m := m + 1) (by omega)]
  have e := ext_len p rule row m
  have e2 : row.length + m = (ext p rule row m).length := by omega
  rw [ext, e2, gt_last, dueN]
  congr 1
  refine sm_congr fun i hi => ?_
  rw [seq_ext (by omega)]
/-! ### products of polynomials, the program's road -/
def prodAt (p : Int) (one other : List Int) (k : Nat) : Int := cv (gt one) (gt other) k % p
def polyN (p : Int) (rule : List Int) : List Int := 1 :: rule.map fun r => (-r) % p
theorem polyN_len (p : Int) (rule : List Int) : (polyN p rule).length = rule.length + 1 := by unfold polyN; rw [List.length_cons, List.length_map]
theorem polyN_0 (p : Int) (rule : List Int) : gt (polyN p rule) 0 = 1 := rfl
theorem polyN_s (p : Int) (rule : List Int) (i : Nat) : gt (polyN p rule) (i + 1) = (-gt rule i) % p := by
  have e : gt (polyN p rule) (i + 1) = gt (rule.map fun r => (-r) % p) i := rfl
  rw [e, gt_map_all (by simp)]
def mirN (p : Int) (l : List Int) : List Int := (List.range l.length).map fun i => if i % 2 = 0 then gt l i else (-gt l i) % p
theorem mirN_cg (p : Int) (l : List Int) (i : Nat) : Cg p (gt (mirN p l) i) (sg i * gt l i) := by
  by_cases h : i < l.length
  · unfold mirN sg
    rw [gt_map h]
    by_cases c : i % 2 = 0
    · rw [if_pos c, if_pos c, Int.one_mul]; exact Cg.refl _ _
    · rw [if_neg c, if_neg c, Int.neg_one_mul]; exact Cg.emod _ _
  · unfold mirN
    rw [gt_map0 (by omega), gt_ge (l := l) (by omega), Int.mul_zero]
    exact Cg.refl _ _
theorem mirN_len (p : Int) (l : List Int) : (mirN p l).length = l.length := len_map
theorem cv_high {f g : List Int} {k : Nat} (h : f.length + g.length ≤ k + 1) : cv (gt f) (gt g) k = 0 := sm_zero fun i hi => by
  by_cases c : i < f.length
  · rw [gt_ge (l := g) (by omega), Int.mul_zero]
  · rw [gt_ge (l := f) (by omega), Int.zero_mul]
/-- the state between two rounds: lower * a = upper up to p, lower begins with 1, and a at left is what is sought -/
structure NI (p : Int) (L : Nat) (goal : Int) (left : Nat) (lower upper : List Int) : Prop where
  ll : lower.length = L + 1
  lu : upper.length = L
  rl : Rests p lower
  ru : Rests p upper
  one : Cg p (gt lower 0) 1
  ex : ∃ a : Nat → Int, (∀ n, Cg p (cv (gt lower) a n) (gt upper n)) ∧ Cg p (a left) goal
def upN (p : Int) (L : Nat) (left : Nat) (lower upper : List Int) : List Int := (List.range L).map fun m => prodAt p upper (mirN p lower) (2 * m + left % 2)
def loN (p : Int) (L : Nat) (lower : List Int) : List Int := (List.range (L + 1)).map fun m => prodAt p lower (mirN p lower) (2 * m)
theorem NI.step {p : Int} {L : Nat} {goal : Int} {left : Nat} {lower upper : List Int} (hp : 0 < p) (h : NI p L goal left lower upper) : NI p L goal (left / 2) (loN p L lower) (upN p L left lower upper) := by
  have e2 : left % 2 < 2 := Nat.mod_lt _ (by decide)
  refine ⟨len_map, len_map, Rests.map fun _ _ => mod_rest hp, Rests.map fun _ _ => mod_rest hp, ?_, ?_⟩
  · unfold loN
    rw [gt_map (by omega)]
    refine (Cg.emod _ _).trans ?_
    show Cg p (0 + gt lower 0 * gt (mirN p lower) 0) 1
    have q : Cg p (gt (mirN p lower) 0) (gt lower 0) := (mirN_cg p lower 0).trans (Cg.of_eq (by unfold sg; simp))
    have := h.one.mul (q.trans h.one)
    rw [Int.zero_add]
    simpa using this
  · obtain ⟨a, ha, hg⟩ := h.ex
    refine ⟨fun n => a (2 * n + left % 2), halve e2 ha (fun j => ?_) (fun m => ?_), ?_⟩
    · by_cases c : j < L + 1
      · unfold loN
        rw [gt_map c]
        exact (Cg.emod _ _).trans (cv_congr (fun i _ => Cg.refl _ _) fun i _ => mirN_cg p lower i)
      · unfold loN
        rw [gt_map0 (by omega)]
        have z := cv_high (f := lower) (g := mirN p lower) (k := 2 * j) (by rw [mirN_len, h.ll]; omega)
        refine (Cg.of_eq z.symm).trans (cv_congr (fun i _ => Cg.refl _ _) fun i _ => mirN_cg p lower i)
    · by_cases c : m < L
      · unfold upN
        rw [gt_map c]
        exact (Cg.emod _ _).trans (cv_congr (fun i _ => Cg.refl _ _) fun i _ => mirN_cg p lower i)
      · unfold upN
        rw [gt_map0 (by omega)]
        have z := cv_high (f := upper) (g := mirN p lower) (k := 2 * m + left % 2) (by rw [mirN_len, h.ll, h.lu]; omega)
        refine (Cg.of_eq z.symm).trans (cv_congr (fun i _ => Cg.refl _ _) fun i _ => mirN_cg p lower i)
    · show Cg p (a (2 * (left / 2) + left % 2)) goal
      rw [show 2 * (left / 2) + left % 2 = left by omega]
      exact hg
theorem NI.done {p : Int} {L : Nat} {goal : Int} {lower upper : List Int} (hp : 0 < p) (hg : 0 ≤ goal ∧ goal < p) (h : NI p L goal 0 lower upper) : gt upper 0 = goal := by
  obtain ⟨a, ha, hl⟩ := h.ex
  have q := ha 0
  have q2 : cv (gt lower) a 0 = gt lower 0 * a 0 := by show 0 + gt lower 0 * a 0 = _; rw [Int.zero_add]
  rw [q2] at q
  have q3 : Cg p (gt lower 0 * a 0) (1 * goal) := h.one.mul hl
  rw [Int.one_mul] at q3
  have r := h.ru.at hp 0
  exact rest_eq r.1 r.2 hg.1 hg.2 (q.symm.trans q3)
theorem NI.start {p : Int} {rule start : List Int} (hp : 0 < p) (h1 : 1 < p) (hl : start.length = rule.length) (hL : 0 < rule.length) (place : Nat) :
    NI p rule.length (seq p rule start place) place (polyN p rule) ((List.range rule.length).map fun m => prodAt p start (polyN p rule) m) := by
  refine ⟨polyN_len p rule, len_map, ?_, Rests.map fun _ _ => mod_rest hp, Cg.of_eq (polyN_0 p rule), seq p rule start, fun n => ?_, Cg.refl _ _⟩
  · intro x hx
    rcases List.mem_cons.mp hx with rfl | hx
    · omega
    · obtain ⟨r, _, rfl⟩ := List.mem_map.mp hx
      exact mod_rest hp
  · by_cases c : n < rule.length
    · rw [gt_map c, cv_comm]
      refine (Cg.of_eq ?_).trans (Cg.emod _ _).symm
      exact cv_eq (fun i hi => seq_row (by omega)) fun _ _ => rfl
    · rw [gt_map0 (by omega)]
      have e1 : cv (gt (polyN p rule)) (seq p rule start) n = seq p rule start n + sm rule.length (fun i => (-gt rule i) % p * seq p rule start (n - 1 - i)) := by
        unfold cv
        rw [sm_front, polyN_0, Int.one_mul, Nat.sub_zero]
        congr 1
        have e : sm n (fun i => gt (polyN p rule) (i + 1) * seq p rule start (n - (i + 1))) = sm rule.length (fun i => gt (polyN p rule) (i + 1) * seq p rule start (n - (i + 1))) :=
          sm_cut (by omega) fun i a b => by rw [polyN_s, gt_ge a]; simp
        rw [e]
        refine sm_congr fun i hi => ?_
        rw [polyN_s, show n - (i + 1) = n - 1 - i by omega]
      rw [e1]
      have e2 : Cg p (sm rule.length (fun i => (-gt rule i) % p * seq p rule start (n - 1 - i))) (-sm rule.length (fun i => gt rule i * seq p rule start (n - 1 - i))) := by
        rw [← Int.neg_one_mul, ← sm_mul]
        refine Cg.sm fun i _ => ?_
        have q := (Cg.emod p (-gt rule i)).mul (Cg.refl p (seq p rule start (n - 1 - i)))
        rw [Int.neg_mul] at q
        rw [Int.neg_one_mul]
        exact q
      have e3 : Cg p (seq p rule start n) (sm rule.length (fun i => gt rule i * seq p rule start (n - 1 - i))) := by
        rw [seq_rec (by omega) (by omega)]
        exact Cg.emod _ _
      have := e3.add e2
      rw [Int.add_right_neg] at this
      exact this
end RM

namespace RM
/-! ### powers of a step -/
/-- a sum of steps, at a row -/
def phi (a : Nat → Int) (f : List Int) (n : Nat) : Int := sm f.length fun k => gt f k * a (n + k)
theorem gt_set {l : List Int} {j i : Nat} {x : Int} (h : j < l.length) : gt (l.set j x) i = if i = j then x else gt l i := by
  unfold gt
  rw [List.getD_eq_getElem?_getD, List.getD_eq_getElem?_getD]
  by_cases c : i = j
  · subst c
    rw [List.getElem?_set_self h, if_pos rfl]
    rfl
  · rw [List.getElem?_set_ne (Ne.symm c), if_neg c]
theorem sm_one {n j : Nat} (h : j < n) (f : Nat → Int) (x : Int) : sm n (fun k => if k = j then f k + x else f k) = sm n f + x := by
  induction n with
  | zero => omega
  | succ n ih =>
    simp only [sm]
    by_cases c : j = n
    · subst c
      rw [if_pos rfl, sm_congr (g := f) fun i hi => by rw [if_neg (by omega)]]
      omega
    · rw [ih (by omega), if_neg (Ne.symm c)]
      omega
/-- a row that goes on by the rule from its length on -/
def Rec (p : Int) (rule : List Int) (a : Nat → Int) : Prop := ∀ m, rule.length ≤ m → Cg p (a m) (sm rule.length fun k => gt rule k * a (m - 1 - k))
/-- what two sums of steps multiplied are, at a row -/
def prodPhi (a : Nat → Int) (one other : List Int) (n : Nat) : Int := sm one.length fun i => gt one i * phi a other (n + i)
/-- the first loops: i whole turns, then k turns -/
def part (a : Nat → Int) (one other : List Int) (i k n : Nat) : Int := sm i (fun i' => gt one i' * phi a other (n + i')) + gt one i * sm k (fun k' => gt other k' * a (n + i + k'))
/-- what the law's times hands back -/
structure TimesOk (p : Int) (rule one other f : List Int) : Prop where
  rests : Rests p f
  lo : 1 ≤ f.length
  hi : f.length ≤ rule.length
  val : ∀ a, Rec p rule a → ∀ n, Cg p (phi a f n) (prodPhi a one other n)
theorem TimesOk.steps {p : Int} {rule one other f : List Int} (h : TimesOk p rule one other f) {a : Nat → Int} (hr : Rec p rule a) {e1 e2 : Nat} (h1 : ∀ n, Cg p (phi a one n) (a (n + e1))) (h2 : ∀ n, Cg p (phi a other n) (a (n + e2))) :
    ∀ n, Cg p (phi a f n) (a (n + (e1 + e2))) := fun n => by
  refine (h.val a hr n).trans ?_
  have q : Cg p (prodPhi a one other n) (phi a one (n + e2)) := Cg.sm fun i _ => (Cg.refl _ _).mul ((h2 (n + i)).trans (Cg.of_eq (by rw [show n + i + e2 = n + e2 + i by omega])))
  refine q.trans ((h1 (n + e2)).trans (Cg.of_eq ?_))
  rw [show n + e2 + e1 = n + (e1 + e2) by omega]
end RM

set_option Elab.async false
set_option linter.all false
/-! rules put together, rules told backwards -/
namespace RM
theorem Cg.sub {p a b c d : Int} (h : Cg p a b) (h' : Cg p c d) : Cg p (a - c) (b - d) := by
  have := h.add h'.neg
  rw [← Int.sub_eq_add_neg, ← Int.sub_eq_add_neg] at this
  exact this
theorem Cg.zero_of {p a b : Int} (h : Cg p a b) : Cg p (a - b) 0 := by
  unfold Cg at h ⊢
  rw [Int.sub_zero]
  exact h
theorem Cg.of_zero {p a b : Int} (h : Cg p (a - b) 0) : Cg p a b := by
  unfold Cg at h ⊢
  rw [Int.sub_zero] at h
  exact h
theorem cv_poly (p : Int) (rule : List Int) (a : Nat → Int) (n : Nat) (h : rule.length ≤ n) : Cg p (cv (gt (polyN p rule)) a n) (a n - sm rule.length fun i => gt rule i * a (n - 1 - i)) := by
  unfold cv
  rw [sm_front, polyN_0, Int.one_mul, Nat.sub_zero]
  have e : sm n (fun i => gt (polyN p rule) (i + 1) * a (n - (i + 1))) = sm rule.length (fun i => gt (polyN p rule) (i + 1) * a (n - (i + 1))) := sm_cut h fun i h1 _ => by
    rw [polyN_s, gt_ge h1]
    simp
  rw [e, Int.sub_eq_add_neg]
  refine (Cg.refl _ _).add ?_
  have e2 : -(sm rule.length fun i => gt rule i * a (n - 1 - i)) = sm rule.length fun i => (-1) * (gt rule i * a (n - 1 - i)) := by
    rw [sm_mul, Int.neg_one_mul]
  rw [e2]
  refine Cg.sm fun i hi => ?_
  rw [polyN_s, show n - (i + 1) = n - 1 - i by omega, ← Int.mul_assoc, Int.neg_one_mul]
  exact (Cg.emod _ _).mul (Cg.refl _ _)
/-- a row goes by a rule, up to p -/
def Goes (p : Int) (rule row : List Int) : Prop := ∀ n, rule.length ≤ n → n < row.length → Cg p (cv (gt (polyN p rule)) (gt row) n) 0
theorem Goes.of_makes {p : Int} {rule row : List Int} (h : makesN p rule row = true) : Goes p rule row := fun n h1 h2 => by
  unfold makesN at h
  have := List.all_eq_true.mp h (n - rule.length) (List.mem_range.mpr (by omega))
  rw [beq_iff_eq, show rule.length + (n - rule.length) = n by omega] at this
  refine (cv_poly p rule (gt row) n h1).trans (Cg.zero_of ?_)
  rw [this]
  exact Cg.emod _ _
theorem Goes.makes {p : Int} {rule row : List Int} (hp : 0 < p) (hr : Rests p row) (h : Goes p rule row) : makesN p rule row = true := by
  unfold makesN
  rw [List.all_eq_true]
  intro i hi
  have hi' := List.mem_range.mp hi
  rw [beq_iff_eq]
  have c := (cv_poly p rule (gt row) (rule.length + i) (by omega)).symm.trans (h (rule.length + i) (by omega) (by omega))
  have b := hr.at hp (rule.length + i)
  have b2 := dueN_rest hp rule row (rule.length + i)
  exact rest_eq b.1 b.2 b2.1 b2.2 ((Cg.of_zero c).trans (Cg.emod _ _).symm)
/-! ### put together -/
theorem cv_goes {p : Int} {q : List Int} {rule row : List Int} {n : Nat} (h : Goes p rule row) (h1 : q.length + rule.length ≤ n + 1) (h2 : n < row.length) : Cg p (cv (gt q) (cv (gt (polyN p rule)) (gt row)) n) 0 := by
  have e : (0 : Int) = sm (n + 1) fun _ => 0 := (sm_zero fun _ _ => rfl).symm
  rw [e]
  refine Cg.sm fun i hi => ?_
  by_cases c : i < q.length
  · have := (Cg.refl p (gt q i)).mul (h (n - i) (by omega) (by omega))
    rw [Int.mul_zero] at this
    exact this
  · rw [gt_ge (by omega), Int.zero_mul]
    exact Cg.refl _ _
/-! ### told backwards -/
/-! ### the share of one, by powers -/
theorem Cg.pow {p a b : Int} (h : Cg p a b) : ∀ n : Nat, Cg p (a ^ n) (b ^ n)
  | 0 => by rw [Int.pow_zero, Int.pow_zero]; exact Cg.refl _ _
  | n + 1 => by rw [Int.pow_succ, Int.pow_succ]; exact (Cg.pow h n).mul h
theorem pow_half (x : Int) (n : Nat) : x ^ n = (x * x) ^ (n / 2) * x ^ (n % 2) := by
  have e : n = n / 2 * 2 + n % 2 := by omega
  have e2 : x ^ n = x ^ (n / 2 * 2) * x ^ (n % 2) := by rw [← Int.pow_add, ← e]
  rw [e2]
  congr 1
  rw [Nat.mul_comm, Int.pow_mul]
  congr 1
  rw [Int.pow_succ, Int.pow_succ, Int.pow_zero, Int.one_mul]
theorem fermat {p : Nat} (h : p = 2 ∨ p = 3 ∨ p = 5 ∨ p = 7 ∨ p = 11 ∨ p = 31 ∨ p = 997) {x : Int} (h0 : 0 < x) (h1 : x < p) : Cg p (x * x ^ (p - 2)) 1 := by
  have key : ∀ q ∈ [2, 3, 5, 7, 11, 31, 997], ∀ n : Nat, n < q → n ≠ 0 → n * n ^ (q - 2) % q = 1 % q := by decide +kernel
  obtain ⟨n, rfl⟩ : ∃ n : Nat, x = (n : Int) := ⟨x.toNat, by omega⟩
  have := key p (by simp; omega) n (by omega) (by omega)
  refine Cg.of_mod ?_
  have e : ((n * n ^ (p - 2) % p : Nat) : Int) = ((1 % p : Nat) : Int) := by rw [this]
  simpa using e
end RM

set_option Elab.async false
set_option linter.all false
/-! the shortest rule: rules mixed, the walk over a row -/
namespace RM
theorem sm_parts (n m : Nat) (f : Nat → Int) : sm (n + m) f = sm n f + sm m (fun i => f (n + i)) := by
  induction m with
  | zero => show sm n f = sm n f + 0; omega
  | succ m ih =>
    show sm (n + m) f + f (n + m) = sm n f + (sm m (fun i => f (n + i)) + f (n + m))
    rw [ih]
    omega
theorem sm_at {n j : Nat} (h : j < n) (x : Int) : sm n (fun k => if k = j then x else 0) = x := by
  have e := sm_one h (fun _ => 0) x
  rw [sm_zero (fun _ _ => rfl)] at e
  rw [← Int.zero_add x, ← e]
  refine sm_congr fun i _ => ?_
  show (if i = j then _ else _) = (if i = j then _ else _)
  by_cases q : i = j
  · rw [if_pos q, if_pos q, e]
  · rw [if_neg q, if_neg q]
/-- a rule with so many times another one, so far back: as far as k of its rests are in -/
def mixK (p : Int) (rule shorter : List Int) (shift : Nat) (share : Int) (k : Nat) : List Int :=
  (List.range (max rule.length (shift + shorter.length))).map fun i => (gt rule i + (if i + 1 = shift then share else 0) - (if shift ≤ i ∧ i < shift + k then share * gt shorter (i - shift) else 0)) % p
def mixL (p : Int) (rule shorter : List Int) (shift : Nat) (share : Int) : List Int := mixK p rule shorter shift share shorter.length
theorem mixK_len (p : Int) (rule shorter : List Int) (shift : Nat) (share : Int) (k : Nat) : (mixK p rule shorter shift share k).length = max rule.length (shift + shorter.length) := len_map
theorem mixL_len (p : Int) (rule shorter : List Int) (shift : Nat) (share : Int) : (mixL p rule shorter shift share).length = max rule.length (shift + shorter.length) := len_map
theorem mixK_rests {p : Int} (hp : 0 < p) (rule shorter : List Int) (shift : Nat) (share : Int) (k : Nat) : Rests p (mixK p rule shorter shift share k) := Rests.map fun _ _ => mod_rest hp
theorem rest_mod {p x : Int} (h : 0 ≤ x ∧ x < p) : x % p = x := Int.emod_eq_of_lt h.1 h.2
theorem gt_zeros (m i : Nat) : gt (List.replicate m 0) i = 0 := by
  unfold gt
  rw [List.getD_eq_getElem?_getD, List.getElem?_replicate]
  split <;> rfl
theorem gt_app_ge {l r : List Int} {i : Nat} (h : l.length ≤ i) : gt (l ++ r) i = gt r (i - l.length) := by
  unfold gt
  rw [List.getD_eq_getElem?_getD, List.getD_eq_getElem?_getD, List.getElem?_append_right h]
theorem mix_start {p : Int} {rule shorter : List Int} {shift : Nat} {share : Int} (hp : 0 < p) (hr : Rests p rule) (hs : 1 ≤ shift) :
    (rule ++ List.replicate (max rule.length (shift + shorter.length) - rule.length) 0).set (shift - 1) ((gt (rule ++ List.replicate (max rule.length (shift + shorter.length) - rule.length) 0) (shift - 1) + share) % p) = mixK p rule shorter shift share 0 := by
  have g : ∀ i, gt (rule ++ List.replicate (max rule.length (shift + shorter.length) - rule.length) 0) i = gt rule i := fun i => by
    by_cases h : i < rule.length
    · exact gt_app h
    · rw [gt_app_ge (by omega), gt_zeros, gt_ge (by omega)]
  have hl : (rule ++ List.replicate (max rule.length (shift + shorter.length) - rule.length) (0 : Int)).length = max rule.length (shift + shorter.length) := by
    rw [List.length_append, List.length_replicate]
    omega
  refine list_eq (by rw [List.length_set, hl]) fun i hi => ?_
  rw [gt_set (by rw [hl]; omega), g, g, if_neg (by omega : ¬ (shift ≤ i ∧ i < shift + 0)), Int.sub_zero]
  by_cases h : i = shift - 1
  · rw [if_pos h, if_pos (by omega), h]
  · rw [if_neg h, if_neg (by omega), Int.add_zero, rest_mod (hr.at hp i)]
theorem mix_next {p : Int} {rule shorter : List Int} {shift k : Nat} {share : Int} (hp : 0 < p) (hk : k < shorter.length) :
    (mixK p rule shorter shift share k).set (shift + k) ((gt (mixK p rule shorter shift share k) (shift + k) - share * gt shorter k) % p) = mixK p rule shorter shift share (k + 1) := by
  refine list_eq (by rw [List.length_set, mixK_len]) fun i hi => ?_
  rw [gt_set (by rw [mixK_len]; omega)]
  by_cases h : i = shift + k
  · rw [if_pos h, h]
    unfold mixK
    rw [gt_map (by omega), if_neg (by omega : ¬ (shift ≤ shift + k ∧ shift + k < shift + k)), if_pos (by omega : shift ≤ shift + k ∧ shift + k < shift + (k + 1)), Nat.add_sub_cancel_left, Int.sub_zero, Int.emod_sub_emod]
  · rw [if_neg h]
    unfold mixK
    rw [gt_map hi]
    by_cases h2 : shift ≤ i ∧ i < shift + k
    · rw [if_pos h2, if_pos (show shift ≤ i ∧ i < shift + (k + 1) by omega)]
    · rw [if_neg h2, if_neg (show ¬ (shift ≤ i ∧ i < shift + (k + 1)) by omega)]
/-- what is due by the mixed rule -/
theorem mix_due {p : Int} {rule shorter row : List Int} {shift j : Nat} {share : Int} (hp : 0 < p) (hs : 1 ≤ shift) (hj : max rule.length (shift + shorter.length) ≤ j) :
    Cg p (sm (mixL p rule shorter shift share).length fun i => gt (mixL p rule shorter shift share) i * gt row (j - 1 - i))
      (sm rule.length (fun i => gt rule i * gt row (j - 1 - i)) + share * (gt row (j - shift) - sm shorter.length fun i => gt shorter i * gt row (j - shift - 1 - i))) := by
  rw [mixL_len]
  generalize hL : max rule.length (shift + shorter.length) = L
  have e1 : Cg p (sm L fun i => gt (mixL p rule shorter shift share) i * gt row (j - 1 - i))
      (sm L fun i => gt rule i * gt row (j - 1 - i) + ((if i = shift - 1 then share * gt row (j - shift) else 0) + -(if shift ≤ i then share * (gt shorter (i - shift) * gt row (j - 1 - i)) else 0))) := by
    refine Cg.sm fun i hi => ?_
    unfold mixL mixK
    rw [gt_map (by omega)]
    refine (Cg.mul (Cg.emod _ _) (Cg.refl _ _)).trans (Cg.of_eq ?_)
    rw [Int.sub_eq_add_neg, Int.add_mul, Int.add_mul, Int.add_assoc]
    congr 1
    congr 1
    · by_cases q : i = shift - 1
      · rw [if_pos (by omega), if_pos q, show j - 1 - i = j - shift by omega]
      · rw [if_neg (by omega), if_neg q, Int.zero_mul]
    · by_cases q : shift ≤ i
      · by_cases q2 : i < shift + shorter.length
        · rw [if_pos ⟨q, q2⟩, if_pos q, Int.neg_mul, Int.mul_assoc]
        · rw [if_neg (by omega), if_pos q, gt_ge (l := shorter) (by omega)]
          simp
      · rw [if_neg (by omega), if_neg q]
        simp
  refine e1.trans (Cg.of_eq ?_)
  rw [sm_add, sm_add, sm_cut (n := rule.length) (by omega) (fun i h1 _ => by rw [gt_ge h1, Int.zero_mul])]
  congr 1
  rw [sm_at (by omega), Int.mul_sub, Int.sub_eq_add_neg]
  congr 1
  have e2 : sm L (fun i => -(if shift ≤ i then share * (gt shorter (i - shift) * gt row (j - 1 - i)) else 0)) = (-1) * sm L (fun i => if shift ≤ i then share * (gt shorter (i - shift) * gt row (j - 1 - i)) else 0) := by
    rw [← sm_mul]
    exact sm_congr fun i _ => by omega
  rw [e2, show L = shift + (L - shift) by omega, sm_parts, sm_zero (n := shift) (fun i hi => if_neg (by omega)), Int.zero_add, sm_cut (n := shorter.length) (m := L - shift) (by omega) (fun i h1 _ => by
    rw [if_pos (by omega), gt_ge (l := shorter) (by omega)]; simp)]
  rw [Int.neg_mul, Int.one_mul]
  congr 1
  rw [← sm_mul]
  refine sm_congr fun i _ => ?_
  rw [if_pos (by omega), Nat.add_sub_cancel_left, show j - 1 - (shift + i) = j - shift - 1 - i by omega]
theorem mix_row {p : Int} {rule shorter row : List Int} {shift j : Nat} {share d e : Int} (hp : 0 < p) (hr : Rests p row) (hs : 1 ≤ shift) (hj : max rule.length (shift + shorter.length) ≤ j) (h1 : Cg p (gt row j - sm rule.length fun i => gt rule i * gt row (j - 1 - i)) d)
    (h2 : Cg p (gt row (j - shift) - sm shorter.length fun i => gt shorter i * gt row (j - shift - 1 - i)) e) (h3 : Cg p (share * e) d) : gt row j = dueN p (mixL p rule shorter shift share) row j := by
  have a := hr.at hp j
  have b := dueN_rest hp (mixL p rule shorter shift share) row j
  refine rest_eq a.1 a.2 b.1 b.2 (Cg.symm ?_)
  unfold dueN
  refine (Cg.emod _ _).trans ((mix_due (row := row) (share := share) hp hs hj).trans ?_)
  have c := (Cg.refl p (sm rule.length fun i => gt rule i * gt row (j - 1 - i))).add (((Cg.refl p share).mul h2).trans (h3.trans h1.symm))
  refine c.trans (Cg.of_eq ?_)
  rw [Int.add_comm, Int.sub_add_cancel]
theorem lack_zero {p : Int} {rule row : List Int} {j : Nat} (h : gt row j = dueN p rule row j) : Cg p (gt row j - sm rule.length fun i => gt rule i * gt row (j - 1 - i)) 0 := by
  refine Cg.zero_of ?_
  rw [h]
  exact Cg.emod _ _
theorem lack_miss (p : Int) (rule row : List Int) (j : Nat) : Cg p (gt row j - sm rule.length fun i => gt rule i * gt row (j - 1 - i)) ((gt row j - dueN p rule row j) % p) := Cg.symm ((Cg.emod _ _).trans (Cg.sub (Cg.refl _ _) (Cg.emod _ _)))
/-! ### whether an answer shows what it tells -/
def restsB (p : Int) (l : List Int) : Bool := l.all fun x => decide (0 ≤ x) && decide (x < p)
theorem restsB_iff {p : Int} {l : List Int} : restsB p l = true ↔ Rests p l := by
  unfold restsB Rests
  rw [List.all_eq_true]
  simp
def firstB (p : Int) (row shorter : List Int) (q : Nat) : Bool := (!(gt row q == dueN p shorter row q)) && makesN p shorter (row.take q)
def leastB (p : Int) (row rule shorter : List Int) (place : Int) : Bool :=
  restsB p rule && restsB p shorter && makesN p rule row &&
    (if rule.length = 0 then decide (shorter.length = 0) && decide (place = -1)
     else decide (shorter.length < rule.length) && decide ((rule.length : Int) + shorter.length = place + 1) && decide ((shorter.length : Int) ≤ place ∧ place < row.length) && firstB p row shorter place.toNat)
theorem makes_iff {p : Int} {rule row : List Int} : makesN p rule row = true ↔ ∀ j, rule.length ≤ j → j < row.length → gt row j = dueN p rule row j := by
  unfold makesN
  rw [List.all_eq_true]
  constructor
  · intro h j h1 h2
    have := h (j - rule.length) (List.mem_range.mpr (by omega))
    rw [show rule.length + (j - rule.length) = j by omega] at this
    exact beq_iff_eq.mp this
  · intro h i hi
    have := List.mem_range.mp hi
    exact beq_iff_eq.mpr (h _ (by omega) (by omega))
theorem gt_takeM {l : List Int} {k i : Nat} (h : i < k) : gt (l.take k) i = gt l i := by
  unfold gt
  rw [List.getD_eq_getElem?_getD, List.getD_eq_getElem?_getD, List.getElem?_take_of_lt h]
theorem dueN_take {p : Int} {rule row : List Int} {j q : Nat} (h0 : rule.length ≤ j) (h : j ≤ q) : dueN p rule (row.take q) j = dueN p rule row j := by
  unfold dueN
  congr 1
  refine sm_congr fun i hi => ?_
  rw [gt_takeM (by omega)]
theorem makes_take {p : Int} {rule row : List Int} {q : Nat} (hq : q ≤ row.length) : makesN p rule (row.take q) = true ↔ ∀ j, rule.length ≤ j → j < q → gt row j = dueN p rule row j := by
  rw [makes_iff, List.length_take, Nat.min_eq_left hq]
  constructor
  · intro h j h1 h2
    have := h j h1 h2
    rwa [gt_takeM h2, dueN_take h1 (by omega)] at this
  · intro h j h1 h2
    rw [gt_takeM h2, dueN_take h1 (by omega)]
    exact h j h1 h2
/-! ### the walk -/
structure BM (p : Int) (row : List Int) (n : Nat) (rule shorter : List Int) (place miss : Int) : Prop where
  r1 : Rests p rule
  r2 : Rests p shorter
  all : ∀ j, rule.length ≤ j → j < n → gt row j = dueN p rule row j
  st : (rule = [] ∧ shorter = [] ∧ place = -1 ∧ miss = 1) ∨ ∃ q : Nat, place = (q : Int) ∧ q < n ∧ shorter.length < rule.length ∧ rule.length + shorter.length = q + 1 ∧ shorter.length ≤ q ∧
    (∀ j, shorter.length ≤ j → j < q → gt row j = dueN p shorter row j) ∧ miss = (gt row q - dueN p shorter row q) % p ∧ miss ≠ 0
theorem BM.start (p : Int) (row : List Int) : BM p row 0 [] [] (-1) 1 := ⟨Rests.nil, Rests.nil, fun j _ h => absurd h (Nat.not_lt_zero _), .inl ⟨rfl, rfl, rfl, rfl⟩⟩
section
variable {p : Int} {row : List Int} {n : Nat} {rule shorter : List Int} {place miss : Int}
theorem BM.len (h : BM p row n rule shorter place miss) : rule.length ≤ n := by
  rcases h.st with ⟨h1, _⟩ | ⟨q, _, h1, _, h2, _⟩
  · rw [h1]; exact Nat.zero_le _
  · omega
theorem BM.len2 (h : BM p row n rule shorter place miss) : shorter.length ≤ n := by
  rcases h.st with ⟨_, h1, _⟩ | ⟨q, _, h1, _, h2, _⟩
  · rw [h1]; exact Nat.zero_le _
  · omega
theorem BM.lo (h : BM p row n rule shorter place miss) : -1 ≤ place ∧ place < n := by
  rcases h.st with ⟨_, _, h1, _⟩ | ⟨q, h0, h1, _⟩
  · omega
  · omega
theorem BM.missr (hp : 1 < p) (h : BM p row n rule shorter place miss) : 0 < miss ∧ miss < p := by
  rcases h.st with ⟨_, _, _, h1⟩ | ⟨q, _, _, _, _, _, _, h1, h2⟩
  · omega
  · have := mod_rest (a := gt row q - dueN p shorter row q) (p := p) (by omega)
    omega
theorem BM.skip (hp : 0 < p) (hr : Rests p row) (h : BM p row n rule shorter place miss) (hl : (gt row n - dueN p rule row n) % p = 0) : BM p row (n + 1) rule shorter place miss := by
  refine ⟨h.r1, h.r2, fun j h1 h2 => ?_, ?_⟩
  · by_cases hj : j < n
    · exact h.all j h1 hj
    · have : j = n := by omega
      subst this
      have a := hr.at hp j
      have b := dueN_rest hp rule row j
      exact rest_eq a.1 a.2 b.1 b.2 (Cg.of_zero (Cg.of_mod (by rw [hl, Int.zero_emod])))
  · rcases h.st with s | ⟨q, h1, h2, s⟩
    · exact .inl s
    · exact .inr ⟨q, h1, by omega, s⟩
/-- the mixed rule makes what is ahead, and the next one -/
theorem BM.mixed (hp : 0 < p) (hr : Rests p row) (h : BM p row n rule shorter place miss) {share lack : Int} (hl : lack = (gt row n - dueN p rule row n) % p) (hs : Cg p (share * miss) lack) :
    ∀ j, (mixL p rule shorter ((n : Int) - place).toNat share).length ≤ j → j < n + 1 → gt row j = dueN p (mixL p rule shorter ((n : Int) - place).toNat share) row j := by
  intro j h1 h2
  rcases h.st with ⟨hr0, hs0, hpl, hm⟩ | ⟨q, hq, hqn, hlt, hsum, hle, hmk, hm, hm0⟩
  · rw [mixL_len, hr0, hs0, hpl] at h1
    have : ((n : Int) - -1).toNat = n + 1 := by omega
    rw [this] at h1
    have : max ([] : List Int).length (n + 1 + ([] : List Int).length) = n + 1 := by simp
    omega
  have hsh : ((n : Int) - place).toNat = n - q := by omega
  rw [hsh] at h1 ⊢
  rw [mixL_len] at h1
  by_cases hj : j < n
  · refine mix_row hp hr (by omega) h1 (lack_zero (h.all j (by omega) hj)) (lack_zero (hmk (j - (n - q)) (by omega) (by omega))) ?_
    rw [Int.mul_zero]
    exact Cg.refl _ _
  · have : j = n := by omega
    subst this
    have c2 := lack_miss p shorter row q
    rw [← hm] at c2
    have c1 := lack_miss p rule row j
    rw [← hl] at c1
    refine mix_row (e := miss) hp hr (by omega) h1 c1 ?_ hs
    rw [show j - (j - q) = q by omega]
    exact c2
theorem BM.longer (hp : 0 < p) (hr : Rests p row) (h : BM p row n rule shorter place miss) {share lack : Int} (hl : lack = (gt row n - dueN p rule row n) % p) (h0 : lack ≠ 0) (hs : Cg p (share * miss) lack)
    (hg : rule.length < (mixL p rule shorter ((n : Int) - place).toNat share).length) : BM p row (n + 1) (mixL p rule shorter ((n : Int) - place).toNat share) rule n lack := by
  refine ⟨mixK_rests hp _ _ _ _ _, h.r1, h.mixed hp hr hl hs, .inr ⟨n, rfl, Nat.lt_succ_self _, hg, ?_, h.len, h.all, hl, h0⟩⟩
  rw [mixL_len] at hg ⊢
  rcases h.st with ⟨hr0, hs0, hpl, hm⟩ | ⟨q, hq, hqn, hlt, hsum, hle, hmk, hm, hm0⟩
  · rw [hr0, hs0, hpl]
    simp
  · omega
theorem BM.same (hp : 0 < p) (hr : Rests p row) (h : BM p row n rule shorter place miss) {share lack : Int} (hl : lack = (gt row n - dueN p rule row n) % p) (h0 : lack ≠ 0) (hs : Cg p (share * miss) lack)
    (hg : ¬ rule.length < (mixL p rule shorter ((n : Int) - place).toNat share).length) : BM p row (n + 1) (mixL p rule shorter ((n : Int) - place).toNat share) shorter place miss := by
  refine ⟨mixK_rests hp _ _ _ _ _, h.r2, h.mixed hp hr hl hs, ?_⟩
  rw [mixL_len] at hg ⊢
  rcases h.st with ⟨hr0, hs0, hpl, hm⟩ | ⟨q, hq, hqn, hlt, hsum, hle, hmk, hm, hm0⟩
  · exfalso
    rw [hr0, hs0, hpl] at hg
    simp at hg
  · exact .inr ⟨q, hq, by omega, by omega, by omega, hle, hmk, hm, hm0⟩
theorem miss_ne (hp : 0 < p) {x y : Int} (h : (x - y) % p ≠ 0) : x ≠ y := fun e => h (by rw [e, Int.sub_self, Int.zero_emod])
theorem BM.least (hp : 0 < p) (h : BM p row row.length rule shorter place miss) : leastB p row rule shorter place = true := by
  unfold leastB
  rw [restsB_iff.mpr h.r1, restsB_iff.mpr h.r2, makes_iff.mpr h.all]
  rcases h.st with ⟨hr0, hs0, hpl, hm⟩ | ⟨q, hq, hqn, hlt, hsum, hle, hmk, hm, hm0⟩
  · rw [hr0, hs0, hpl]
    rfl
  · rw [if_neg (by omega), decide_eq_true (by omega : shorter.length < rule.length), decide_eq_true (by omega : (rule.length : Int) + shorter.length = place + 1), decide_eq_true (by omega : (shorter.length : Int) ≤ place ∧ place < row.length), hq]
    have e : firstB p row shorter q = true := by
      unfold firstB
      rw [(makes_take (by omega)).mpr hmk]
      have : gt row q ≠ dueN p shorter row q := by
        rw [hm] at hm0
        exact miss_ne hp hm0
      simp [this]
    rw [show ((q : Int)).toNat = q from rfl, e]
    rfl
/-- another one as short -/
theorem BM.other (hp : 1 < p) (hr : Rests p row) (h : BM p row row.length rule shorter place miss) (h2 : row.length < 2 * rule.length) :
    (mixL p rule shorter (rule.length - shorter.length) 1).length = rule.length ∧ mixL p rule shorter (rule.length - shorter.length) 1 ≠ rule ∧ leastB p row (mixL p rule shorter (rule.length - shorter.length) 1) shorter place = true := by
  rcases h.st with ⟨hr0, hs0, hpl, hm⟩ | ⟨q, hq, hqn, hlt, hsum, hle, hmk, hm, hm0⟩
  · exfalso
    rw [hr0] at h2
    simp at h2
  have hL : (mixL p rule shorter (rule.length - shorter.length) 1).length = rule.length := by rw [mixL_len]; omega
  refine ⟨hL, fun e => ?_, ?_⟩
  · have e1 : gt (mixL p rule shorter (rule.length - shorter.length) 1) (rule.length - shorter.length - 1) = gt rule (rule.length - shorter.length - 1) := by rw [e]
    unfold mixL mixK at e1
    rw [gt_map (by omega), if_pos (by omega), if_neg (by omega), Int.sub_zero] at e1
    have a := h.r1.at (by omega : 0 < p) (rule.length - shorter.length - 1)
    generalize gt rule (rule.length - shorter.length - 1) = x at e1 a
    by_cases hx : x + 1 < p
    · rw [Int.emod_eq_of_lt (by omega) hx] at e1
      omega
    · have : x + 1 = p := by omega
      rw [this, Int.emod_self] at e1
      omega
  · have key : BM p row row.length (mixL p rule shorter (rule.length - shorter.length) 1) shorter place miss := by
      refine ⟨mixK_rests (by omega) _ _ _ _ _, h.r2, fun j h1 h3 => ?_, .inr ⟨q, hq, hqn, by omega, by omega, hle, hmk, hm, hm0⟩⟩
      rw [mixL_len] at h1
      refine mix_row (by omega) hr (by omega) h1 (lack_zero (h.all j (by omega) h3)) (lack_zero (hmk (j - (rule.length - shorter.length)) (by omega) (by omega))) ?_
      rw [Int.mul_zero]
      exact Cg.refl _ _
    exact key.least (by omega)
end
/-! ### answers with one rest more show nothing -/
theorem least_lens {p : Int} {row rule shorter : List Int} {place : Int} (h : leastB p row rule shorter place = true) : (rule.length : Int) + shorter.length = place + 1 := by
  unfold leastB at h
  simp only [Bool.and_eq_true] at h
  obtain ⟨_, h⟩ := h
  by_cases q : rule.length = 0
  · rw [if_pos q] at h
    simp at h
    rw [q, h.1, h.2]
    rfl
  · rw [if_neg q] at h
    simp only [Bool.and_eq_true, decide_eq_true_eq] at h
    exact h.1.1.2
theorem least_not {p : Int} {row rule shorter : List Int} {place : Int} (h : (rule.length : Int) + shorter.length ≠ place + 1) : leastB p row rule shorter place = false := by
  rw [Bool.eq_false_iff]
  exact fun z => h (least_lens z)
end RM

set_option Elab.async false
set_option linter.all false
/-! whether an answer shows what it tells, way by way -/
namespace RM
section
variable {p : Int} {row rule shorter : List Int} {pl : Int}
theorem leastB_r1 (h : restsB p rule = false) : leastB p row rule shorter pl = false := by unfold leastB; rw [h]; rfl
theorem leastB_r2 (h : restsB p shorter = false) : leastB p row rule shorter pl = false := by unfold leastB; rw [h, Bool.and_false]; rfl
theorem leastB_mk (h : makesN p rule row = false) : leastB p row rule shorter pl = false := by unfold leastB; rw [h, Bool.and_false, Bool.false_and]
theorem leastB_nil (h1 : restsB p rule = true) (h2 : restsB p shorter = true) (h3 : makesN p rule row = true) (h4 : rule.length = 0) : leastB p row rule shorter pl = (decide (shorter.length = 0) && decide (pl = -1)) := by
  unfold leastB
  rw [h1, h2, h3, if_pos h4]
  rfl
theorem leastB_ge (h4 : rule.length ≠ 0) (h : rule.length ≤ shorter.length) : leastB p row rule shorter pl = false := by
  unfold leastB
  rw [if_neg h4, decide_eq_false (by omega : ¬ shorter.length < rule.length), Bool.false_and, Bool.false_and, Bool.false_and, Bool.and_false]
theorem leastB_out (h4 : rule.length ≠ 0) (h : ¬ ((shorter.length : Int) ≤ pl ∧ pl < row.length)) : leastB p row rule shorter pl = false := by
  unfold leastB
  rw [if_neg h4, decide_eq_false h, Bool.and_false, Bool.false_and, Bool.and_false]
theorem leastB_last (h1 : restsB p rule = true) (h2 : restsB p shorter = true) (h3 : makesN p rule row = true) (h4 : rule.length ≠ 0) (h5 : shorter.length < rule.length) (h6 : (rule.length : Int) + shorter.length = pl + 1) :
    leastB p row rule shorter pl = (decide ((shorter.length : Int) ≤ pl ∧ pl < row.length) && firstB p row shorter pl.toNat) := by
  unfold leastB
  rw [h1, h2, h3, if_neg h4, decide_eq_true h5, decide_eq_true h6]
  rfl
end
theorem restsB_no {p : Int} {ns : List Int} {i : Nat} (hi : i < ns.length) (h : (decide (0 ≤ gt ns i) && decide (gt ns i < p)) = false) : restsB p ns = false := by
  rw [Bool.eq_false_iff]
  intro z
  have := restsB_iff.mp z _ (List.getElem_mem hi)
  rw [← gt_lt hi] at this
  rw [decide_eq_true this.1, decide_eq_true this.2] at h
  cases h
theorem restsB_yes {p : Int} {ns : List Int} (h : ∀ i, i < ns.length → (decide (0 ≤ gt ns i) && decide (gt ns i < p)) = true) : restsB p ns = true := by
  rw [restsB_iff]
  intro x hx
  obtain ⟨i, hi, rfl⟩ := List.getElem_of_mem hx
  have := h i hi
  rw [gt_lt hi] at this
  simpa using this
theorem restsB_all {p : Int} {ns : List Int} : ((List.range ns.length).map fun i => decide (0 ≤ gt ns i) && decide (gt ns i < p)).all id = restsB p ns := by
  cases e : restsB p ns with
  | true =>
    rw [List.all_eq_true]
    intro x hx
    obtain ⟨i, hi, rfl⟩ := List.mem_map.mp hx
    have hi := List.mem_range.mp hi
    have := restsB_iff.mp e _ (List.getElem_mem hi)
    rw [← gt_lt hi] at this
    simp [this.1, this.2]
  | false =>
    rw [Bool.eq_false_iff]
    intro z
    rw [List.all_eq_true] at z
    have : restsB p ns = true := restsB_yes fun i hi => z _ (List.mem_map.mpr ⟨i, List.mem_range.mpr hi, rfl⟩)
    rw [e] at this
    cases this
end RM

set_option Elab.async false
set_option linter.all false
/-! no shorter rule makes the row -/
namespace RM
section
variable {p : Int} {row : List Int} {rule shorter : List Int} {pl miss : Int}
theorem cv_turn (f g h : Nat → Int) (n : Nat) : cv f (cv g h) n = cv g (cv f h) n := by
  rw [cv_assoc, cv_assoc]
  exact cv_eq (fun i _ => cv_comm f g i) (fun _ _ => rfl)
theorem BM.min (hp : 0 < p) (h : BM p row row.length rule shorter pl miss) {R : List Int} (hR : makesN p R row = true) : rule.length ≤ R.length := by
  rcases h.st with ⟨hr0, _⟩ | ⟨q, hq, hqn, hlt, hsum, hle, hmk, hm, hm0⟩
  · rw [hr0]
    exact Nat.zero_le _
  refine Nat.le_of_not_lt fun hc => ?_
  have e1 := cv_goes (p := p) (q := polyN p shorter) (n := q) (Goes.of_makes hR) (by rw [polyN_len]; omega) hqn
  rw [cv_turn] at e1
  have e2 : Cg p (cv (gt (polyN p R)) (cv (gt (polyN p shorter)) (gt row)) q) (cv (gt (polyN p shorter)) (gt row) q) := by
    unfold cv
    rw [sm_front]
    have z : Cg p (sm q fun i => gt (polyN p R) (i + 1) * sm (q - (i + 1) + 1) fun j => gt (polyN p shorter) j * gt row (q - (i + 1) - j)) 0 := by
      have z0 : Cg p (sm q fun i => gt (polyN p R) (i + 1) * sm (q - (i + 1) + 1) fun j => gt (polyN p shorter) j * gt row (q - (i + 1) - j)) (sm q fun _ => 0) := by
        refine Cg.sm fun i hi => ?_
        by_cases hi2 : i + 1 ≤ R.length
        · have k1 := cv_poly p shorter (gt row) (q - (i + 1)) (by omega)
          have k2 := hmk (q - (i + 1)) (by omega) (by omega)
          have k3 : Cg p (gt row (q - (i + 1)) - sm shorter.length fun j => gt shorter j * gt row (q - (i + 1) - 1 - j)) 0 := by
            refine Cg.zero_of ?_
            rw [k2]
            exact Cg.emod _ _
          have k4 := Cg.mul (Cg.refl p (gt (polyN p R) (i + 1))) (k1.trans k3)
          rwa [Int.mul_zero] at k4
        · rw [gt_ge (l := polyN p R) (by rw [polyN_len]; omega), Int.zero_mul]
          exact Cg.refl _ _
      rwa [sm_zero (fun _ _ => rfl)] at z0
    have z1 := (Cg.refl p (gt (polyN p R) 0 * sm (q - 0 + 1) fun j => gt (polyN p shorter) j * gt row (q - 0 - j))).add z
    refine z1.trans (Cg.of_eq ?_)
    rw [polyN_0, Int.one_mul, Int.add_zero]
    rfl
  have e3 := cv_poly p shorter (gt row) q hle
  have e4 : Cg p (gt row q - dueN p shorter row q) 0 := (Cg.sub (Cg.refl _ _) (Cg.emod _ _)).trans ((e3.symm.trans e2.symm).trans e1)
  apply hm0
  rw [hm]
  have := e4.eq hp
  rw [this, Int.zero_emod]
end
end RM

set_option Elab.async false
set_option linter.all false
set_option maxRecDepth 100000
/-! what the program's defs and the laws' own helpers promise -/
namespace Rr
open PySem L2 RM

/-- a tracked list of ints -/
def Ls (H : Hp) (a : Addr) (ns : List Int) : Prop := H a = some (.lst (ns.map V.int))
theorem Ls.sq {K : PySem.W.Frag} {H : Hp} {a : Addr} {ns : List Int} (h : Ls H a ns) : SqL K H a (ns.map V.int) := SqL.of h
theorem Ls.same {H H' : Hp} {a : Addr} {ns : List Int} (h : Ls H a ns) (s : Same H H') : Ls H' a ns := s _ _ h
theorem Ls.new {H : Hp} {p : Addr} {ns : List Int} {xs : List V} (e : xs = ns.map V.int) : Ls (upd H p (.lst xs)) p ns := by
  unfold Ls
  rw [upd_same, e]
theorem at_int {ns : List Int} {i : Nat} {x : V} (h : (ns.map V.int)[i]? = some x) : x = .int (gt ns i) ∧ i < ns.length := by
  rw [List.getElem?_map] at h
  cases e : ns[i]? with
  | none => rw [e] at h; cases h
  | some n =>
    rw [e] at h
    rw [gt_some e]
    exact ⟨(Option.some.inj h).symm, (List.getElem?_eq_some_iff.mp e).1⟩
theorem atI_int {ns : List Int} {i : Int} {k : Nat} (hi : i = (k : Int)) (h : k < ns.length) : atI (ns.map V.int) i = some (.int (gt ns k)) := by
  subst hi
  refine atI_nat ?_
  rw [List.getElem?_map, List.getElem?_eq_getElem h, gt_lt h]
  rfl
theorem mapInt {n : Nat} (f : Nat → Int) : (List.range n).map (fun i => V.int (f i)) = ((List.range n).map f).map V.int := by
  rw [List.map_map]
  rfl
theorem mapBl {n : Nat} (f : Nat → Bool) : (List.range n).map (fun i => V.bl (f i)) = ((List.range n).map f).map V.bl := by
  rw [List.map_map]
  rfl
theorem small {n : Nat} (h : n ≤ 10000) : n ≤ sizeLine := Nat.le_trans h (by decide)
/-- a prime of ours, as the program looks at it -/
def PrimeOk (p : Int) : Prop := 2 ≤ p ∧ p ≤ 997 ∧ ∀ d : Int, 2 ≤ d → d * d ≤ p → p % d ≠ 0
theorem PrimeOk.pos {p : Int} (h : PrimeOk p) : 0 < p := by have := h.1; omega
theorem ones_of {p : Int} (h : p = 2 ∨ p = 3 ∨ p = 5 ∨ p = 7 ∨ p = 11 ∨ p = 31 ∨ p = 997) : PrimeOk p := by
  refine ⟨by omega, by omega, fun d h1 h2 => ?_⟩
  have hd : d ≤ 31 := by
    refine Int.not_lt.mp fun q => ?_
    have q1 : (32 : Int) * 32 ≤ d * d := Int.mul_le_mul (by omega) (by omega) (by omega) (by omega)
    omega
  obtain ⟨n, rfl⟩ : ∃ n : Nat, d = (n : Int) := ⟨d.toNat, by omega⟩
  have hn : n < 32 := by omega
  have key : ∀ n : Nat, n < 32 → 2 ≤ n → ∀ q ∈ [(2 : Int), 3, 5, 7, 11, 31, 997], (n : Int) * n ≤ q → q % (n : Int) ≠ 0 := by decide +kernel
  exact key n hn (by omega) p (by simp; omega) h2
/-! ### the sorts of promises -/
abbrev Args := List V → Hp → Prop
section
variable (K : PySem.W.Frag)
/-- is_whole of an int -/
def spWhole : Sp := fun vs H Q _ => ∃ (i : Int), vs = [.int i] ∧ Q (.bl true) H
def spPrime : Sp := fun vs H Q _ => ∃ (p : Int), vs = [.int p] ∧ PrimeOk p ∧ Q (.bl true) H
def spAre : Sp := fun vs H Q _ => ∃ (p : Int) (a : Addr) (ns : List Int), vs = [.int p, .ref a] ∧ Ls H a ns ∧ Rests p ns ∧ Q (.bl true) H
def spNeedPrime : Sp := fun vs H Q _ => ∃ (p : Int), vs = [.int p] ∧ PrimeOk p ∧ Q .non H
def spNeed : Sp := fun vs H Q _ => ∃ (p : Int) (a : Addr) (ns : List Int), vs = [.int p, .ref a] ∧ Ls H a ns ∧ Rests p ns ∧ Q .non H
/-- a rule and a row, in their places -/
structure RR (p : Int) (rule row : List Int) : Prop where
  pr : PrimeOk p
  r1 : Rests p rule
  r2 : Rests p row
  l1 : rule.length ≤ 100
  l2 : row.length ≤ 1000
def spMakes : Sp := fun vs H Q _ => ∃ (p : Int) (a : Addr) (b : Addr) (rule : List Int) (row : List Int), vs = [.int p, .ref a, .ref b] ∧ Ls H a rule ∧ Ls H b row ∧ RR p rule row ∧ ∀ H', Same H H' → Q (.bl (makesN p rule row)) H'
def spDue : Sp := fun vs H Q _ => ∃ (p : Int) (a : Addr) (b : Addr) (rule : List Int) (row : List Int) (k : Nat), vs = [.int p, .ref a, .ref b, .int ((k : Nat) : Int)] ∧ Ls H a rule ∧ Ls H b row ∧ RR p rule row ∧ rule.length ≤ k ∧ k ≤ row.length ∧ ∀ H', Same H H' → Q (.int (dueN p rule row k)) H'
/-! ### the laws' helpers -/
def spCell : Sp := fun vs H Q _ => ∃ (a : Addr) (ns : List Int) (k : Nat), vs = [.ref a, .int ((k : Nat) : Int)] ∧ SqL K H a (ns.map V.int) ∧ ns.length ≤ 1000 ∧ Q (.int (gt ns k)) H
def spDraw : Sp := fun vs H Q _ => ∃ (c : Int) (k : Nat) (m : Int), vs = [.int c, .int ((k : Nat) : Int), .int m] ∧ 0 < m ∧ ∀ v H', 0 ≤ v → v < m → Same H H' → Q (.int v) H'
def spPrimeL : Sp := fun vs H Q _ => ∃ (a : Addr) (ns : List Int), vs = [.ref a] ∧ SqL K H a (ns.map V.int) ∧ ns.length ≤ 1000 ∧ ∀ p H', (p = 2 ∨ p = 3 ∨ p = 5 ∨ p = 7 ∨ p = 11 ∨ p = 31 ∨ p = 997) → Same H H' → Q (.int p) H'
def spRests : Sp := fun vs H Q _ => ∃ (a : Addr) (ns : List Int) (b : Nat) (p : Int) (m : Nat), vs = [.ref a, .int ((b : Nat) : Int), .int p, .int ((m : Nat) : Int)] ∧ SqL K H a (ns.map V.int) ∧ ns.length ≤ 1000 ∧ 0 < p ∧ m ≤ 1000 ∧
  ∀ (r : Addr) (H' : Hp) (l : List Int), Same H H' → H r = none → Ls H' r l → Rests p l → l.length = m → Q (.ref r) H'
def spRow : Sp := fun vs H Q _ => ∃ (a : Addr) (ns : List Int) (p : Int), vs = [.ref a, .int p] ∧ SqL K H a (ns.map V.int) ∧ ns.length ≤ 1000 ∧ PrimeOk p ∧ ∀ (r : Addr) (H' : Hp) (l : List Int), Same H H' → H r = none → Ls H' r l → Rests p l → l.length = ns.length → Q (.ref r) H'
def spMade : Sp := fun vs H Q _ => ∃ (p : Int) (a : Addr) (b : Addr) (rule : List Int) (row : List Int), vs = [.int p, .ref a, .ref b] ∧ Ls H a rule ∧ Ls H b row ∧ RR p rule row ∧ ∀ H', Same H H' → Q (.bl (makesN p rule row)) H'
def spLaw : Sp := fun vs H Q _ => ∃ (a : Addr) (ns : List Int), vs = [.ref a] ∧ SqL K H a (ns.map V.int) ∧ ns.length ≤ 63 ∧ ∀ H', Q (.bl true) H'
end
/-! ### a def of the text, with its name and how it binds -/
structure Def (K : PySem.W.Frag) (mg : Str → Option Value) (x : Str) (st : Stmt) (ps : List Str) (f : Addr) (fd : FuncData) : Prop where
  F : Fun K x x st f fd
  b : Binds K fd ps []
  m : mg x = some (.ref f)
/-- Python's own names that the text does not bind -/
structure Own (mg : Str → Option Value) : Prop where
  isinstance : mg "isinstance" = none
  int : mg "int" = none
  bool : mg "bool" = none
  list : mg "list" = none
  len : mg "len" = none
  range : mg "range" = none
  sum : mg "sum" = none
  zip : mg "zip" = none
  reversed : mg "reversed" = none
  enumerate : mg "enumerate" = none
  max : mg "max" = none
  min : mg "min" = none
  all : mg "all" = none
  any : mg "any" = none
  abs : mg "abs" = none
theorem boot_isi : bootBuiltins "isinstance" = some (.builtin "isinstance") := by decide +kernel
theorem boot_intT : bootBuiltins "int" = some (.type "int") := by decide +kernel
theorem boot_boolT : bootBuiltins "bool" = some (.type "bool") := by decide +kernel
theorem boot_listT : bootBuiltins "list" = some (.type "list") := by decide +kernel
theorem boot_sumB : bootBuiltins "sum" = some (.builtin "sum") := by decide +kernel
theorem boot_maxB : bootBuiltins "max" = some (.builtin "max") := by decide +kernel
theorem boot_allB : bootBuiltins "all" = some (.builtin "all") := by decide +kernel
theorem boot_anyB : bootBuiltins "any" = some (.builtin "any") := by decide +kernel
section
variable {X : Cx} {x : Str} {st : Stmt} {ps : List Str} {f : Addr} {fd : FuncData} {j k : Nat} {sp : Sp} {e : Expr} {es : List Expr} {t : TA} {p pos : Pos}
/-- a call of a def of the text -/
theorem pcall (D : Def X.K X.mg x st ps f fd) (G : FnOk X.prog X.w X.K X.mg X.base CX0 j f fd ps sp) (hr : Room k X.A) (ha : PA X (e :: es) t) (hj : j ≤ k := by decide) (hg : Gl X x := by rfl) (hdb : (x == ("__debug__" : Str)) = false := by decide)
    (he : starEach (e :: es) X.env = (false, eval e X.env) :: starEach es X.env := by rfl) (hpl : (backTo pos (starEach es X.env)).any (·.1) = false := by rfl) :
    PE X (.Call (.Name x p) (e :: es) [] pos) (tCall sp [] E0 t) := pe_call (G.mono hj) hr hg D.m D.F.kp D.b .nil pass0 ha hdb he hpl
theorem pint {i : Int} {j : Nat} {pos : Pos} : PE X (.Constant (.int i) j pos) (tC (.int i)) := pe_int
theorem plen (o : Own X.mg) {e : Expr} {te : TE} {p pos : Pos} (h : PE X e te) (hg : Gl X "len" := by rfl) (hs : starEach [e] X.env = [(false, eval e X.env)] := by rfl) :
    PE X (.Call (.Name "len" p) [e] [] pos) (tCB (fun xs H Q => ∃ p ys, xs = [.ref p] ∧ (SqL X.K H p ys ∨ SqT X.K H p ys) ∧ Q (.int ys.length) H) (tCons te tNil)) :=
  pe_callB call_len_seq hg o.len PySem.boot_len (pa_cons h pa_nil (by rw [hs]; rfl)) (by decide) (by decide) (by rw [hs]; rfl) rfl
theorem pgn (i : Nat) {x : Str} {pos : Pos} (hN : X.N.Nodup := by exact of_decide_eq_true (by kernel_rfl)) (hi : X.N[i]? = some x := by rfl) (hx : Loc X.env.scope x := by exact Or.inl rfl)
    (hf : X.fn x = true ∨ X.env.scope.names.lookup x = some .local := by first | exact .inl rfl | exact .inr rfl) : PG X (.Name x pos) (gName i) := pg_name hN hi hx hf
theorem pgp {x y : Str} {px py pos : Pos} {k : Nat} (hc : X.calm = true := by rfl) (hN : X.N.Nodup := by exact of_decide_eq_true (by kernel_rfl)) (h0 : X.N[0]? = some x := by rfl) (h1 : X.N[1]? = some y := by rfl) (hx : X.env.scope.names.lookup x = some .local := by rfl)
    (hy : X.env.scope.names.lookup y = some .local := by rfl) : PG X (.Tuple [.Name x px, .Name y py] k pos) (gPair X.K) :=
  pg_tup hc (pgs_cons (pg_name hN h0 (.inl hx) (.inr hx)) (pgs_cons (pg_name hN h1 (.inl hy) (.inr hy)) pgs_nil))
end
/-! ### the same, with the written part named (inside a comprehension) -/
theorem ixK {X : Cx} {K : PySem.W.Frag} (h : X.K = K) : IxR X (rIxL K) := h ▸ ix_list
theorem isiK {X : Cx} {K : PySem.W.Frag} (h : X.K = K) : CallR X (.builtin "isinstance") (fun xs H Q => ∃ x T t b, xs = [x, .ty T] ∧ TyOf K H x t ∧ PySem.W.kitOne K t (.type T) = some b ∧ Q (.bl b) H) := h ▸ call_isi
theorem cut_at {ns : List Int} {lo hi : Nat} (h1 : lo ≤ hi) (h2 : hi ≤ ns.length) : cutV (ns.map V.int) (some (lo : Int)) (some (hi : Int)) = ((ns.drop lo).take (hi - lo)).map V.int := by
  unfold cutV
  rw [HT.sIx_nat, HT.sIx_nat, List.length_map, show min lo ns.length = lo by omega, show min hi ns.length = hi by omega, List.map_take, List.map_drop]
theorem cut_from {ns : List Int} {lo : Nat} (h1 : lo ≤ ns.length) : cutV (ns.map V.int) (some (lo : Int)) none = (ns.drop lo).map V.int := by
  unfold cutV
  rw [HT.sIx_nat, HT.sIx_none, List.length_map, show min lo ns.length = lo by omega, List.map_drop, List.take_of_length_le (by rw [List.length_drop, List.length_map]; omega)]
theorem gt_take {l : List Int} {k i : Nat} (h : i < k) : gt (l.take k) i = gt l i := by
  unfold gt
  rw [List.getD_eq_getElem?_getD, List.getD_eq_getElem?_getD, List.getElem?_take_of_lt h]
theorem gt_reverse {l : List Int} {i : Nat} (h : i < l.length) : gt l.reverse i = gt l (l.length - 1 - i) := by
  unfold gt
  rw [List.getD_eq_getElem?_getD, List.getD_eq_getElem?_getD, List.getElem?_reverse h]
theorem sput {H H1 : Hp} {l : Addr} {o : HO} (h : Same H H1) (hn : H l = none) : Same H (upd H1 l o) := fun b u q => by
  rw [upd_ne (ne_of_none q hn)]
  exact h b u q
theorem iteFd {c A B : Prop} [Decidable c] (hc : ¬ c) (h : B) : if decide c = true then A else B := by
  rw [decide_eq_false hc]
  exact iteF h
theorem iteTd {c A B : Prop} [Decidable c] (hc : c) (h : A) : if decide c = true then A else B := by
  rw [decide_eq_true hc]
  exact iteT h
/-- not equal, told as a truth -/
theorem iteNd {c A B : Prop} [Decidable c] (hc : c) (h : B) : if (!decide c) = true then A else B := by
  rw [decide_eq_true hc]
  exact iteF h
theorem iteYd {c A B : Prop} [Decidable c] (hc : ¬ c) (h : A) : if (!decide c) = true then A else B := by
  rw [decide_eq_false hc]
  exact iteT h
theorem kit_int_int (K : PySem.W.Frag) : PySem.W.kitOne K (.type "int") (.type "int") = some true := by
  unfold PySem.W.kitOne
  exact if_pos (by decide)
theorem kit_int_bool (K : PySem.W.Frag) : PySem.W.kitOne K (.type "int") (.type "bool") = some false := by
  kernel_rfl
theorem kit_list_list (K : PySem.W.Frag) : PySem.W.kitOne K (.type "list") (.type "list") = some true := by
  unfold PySem.W.kitOne
  exact if_pos (by decide)
theorem kit_bool_bool (K : PySem.W.Frag) : PySem.W.kitOne K (.type "bool") (.type "bool") = some true := by
  unfold PySem.W.kitOne
  exact if_pos (by decide)
end Rr

set_option Elab.async false
set_option linter.all false
set_option maxRecDepth 100000
/-! arguments that bear no star, by their kind -/
namespace L2
open PySem PySem.Spec PySem.Calls PyProof.Rows
def Pl (e : Expr) : Prop := ∀ (es : List Expr) (env : Env), starEach (e :: es) env = (false, eval e env) :: starEach es env
theorem Pl.C {v : Const} {k : Nat} {pos : Pos} : Pl (.Constant v k pos) := fun _ _ => rfl
theorem Pl.N {x : Str} {pos : Pos} : Pl (.Name x pos) := fun _ _ => rfl
theorem Pl.L {es : List Expr} {pos : Pos} : Pl (.List es pos) := fun _ _ => rfl
theorem Pl.T {es : List Expr} {k : Nat} {pos : Pos} : Pl (.Tuple es k pos) := fun _ _ => rfl
theorem Pl.D {ks : List (Option Expr)} {vs : List Expr} {pos : Pos} : Pl (.Dict ks vs pos) := fun _ _ => rfl
theorem Pl.B {l r : Expr} {op : Operator} {pos : Pos} : Pl (.BinOp l op r pos) := fun _ _ => rfl
theorem Pl.U {e : Expr} {op : UnaryOp} {pos : Pos} : Pl (.UnaryOp op e pos) := fun _ _ => rfl
theorem Pl.S {e i : Expr} {pos : Pos} : Pl (.Subscript e i pos) := fun _ _ => rfl
theorem Pl.K {f : Expr} {as : List Expr} {kw : List Keyword} {pos : Pos} : Pl (.Call f as kw pos) := fun _ _ => rfl
theorem Pl.M {l : Expr} {ops : List CmpOp} {rs : List Expr} {pos : Pos} : Pl (.Compare l ops rs pos) := fun _ _ => rfl
theorem Pl.A {e : Expr} {x : Str} {pos : Pos} : Pl (.Attribute e x pos) := fun _ _ => rfl
def NS (es : List Expr) : Prop := ∀ (pos : Pos) (env : Env), (backTo pos (starEach es env)).any (·.1) = false
theorem NS.nil : NS [] := fun _ _ => rfl
theorem NS.cons {e : Expr} {es : List Expr} (h : Pl e) (t : NS es) : NS (e :: es) := fun pos env => by
  rw [h es env]
  show (false || (backTo pos (starEach es env)).any (·.1)) = false
  rw [t pos env]
  rfl
section
variable {X : Cx} {e : Expr} {es : List Expr} {te : TE} {t : TA}
theorem pa_c (h : Pl e) (ha : PE X e te) (hr : PA X es t) : PA X (e :: es) (tCons te t) := pa_cons ha hr (h es X.env)
end
end L2
namespace Rr
open PySem L2
section
variable {X : Cx} {x : Str} {st : Stmt} {ps : List Str} {f : Addr} {fd : FuncData} {j k : Nat} {sp : Sp} {e : Expr} {es : List Expr} {t : TA} {p pos : Pos}
theorem pcallP (D : Def X.K X.mg x st ps f fd) (G : FnOk X.prog X.w X.K X.mg X.base CX0 j f fd ps sp) (hr : Room k X.A) (h : Pl e) (n : NS es) (ha : PA X (e :: es) t) (hj : j ≤ k := by decide) (hg : Gl X x := by rfl) (hdb : (x == ("__debug__" : Str)) = false := by decide) :
    PE X (.Call (.Name x p) (e :: es) [] pos) (tCall sp [] E0 t) := pcall D G hr ha hj hg hdb (h es X.env) (n pos X.env)
end
end Rr

set_option Elab.async false
set_option linter.all false
set_option maxRecDepth 100000
/-! what the answers, least and unlike promise -/
namespace Rr
open PySem L2 RM
def Seven (p : Int) : Prop := p = 2 ∨ p = 3 ∨ p = 5 ∨ p = 7 ∨ p = 11 ∨ p = 31 ∨ p = 997
theorem Seven.ok {p : Int} (h : Seven p) : PrimeOk p := ones_of h
theorem Seven.two {p : Int} (h : Seven p) : 1 < p := by unfold Seven at h; omega
def spRestB : Sp := fun vs H Q _ => ∃ (p : Int) (i : Int), vs = [.int p, .int i] ∧ Q (.bl (decide (0 ≤ i) && decide (i < p))) H
def spAreB : Sp := fun vs H Q _ => ∃ (p : Int) (a : Addr) (ns : List Int), vs = [.int p, .ref a] ∧ Ls H a ns ∧ Q (.bl (restsB p ns)) H
def spRestedB : Sp := fun vs H Q _ => ∃ (p : Int) (a : Addr) (ns : List Int), vs = [.int p, .ref a] ∧ Ls H a ns ∧ ns.length ≤ 1000 ∧ ∀ H', Same H H' → Q (.bl (restsB p ns)) H'
def spInv : Sp := fun vs H Q _ => ∃ (p x : Int), vs = [.int p, .int x] ∧ Seven p ∧ 0 < x ∧ x < p ∧ ∀ t : Int, 0 ≤ t → t < p → Cg p (x * t) 1 → Q (.int t) H
/-- a row, and what an answer to it holds -/
structure LR (p : Int) (row rule shorter : List Int) : Prop where
  pr : PrimeOk p
  r : Rests p row
  l1 : row.length ≤ 1000
  l2 : rule.length ≤ 100
  l3 : shorter.length ≤ 100
def spFails : Sp := fun vs H Q _ => ∃ (p : Int) (a : Addr) (b : Addr) (rule : List Int) (row : List Int) (pl : Int), vs = [.int p, .ref a, .ref b, .int pl] ∧ Ls H a rule ∧ Ls H b row ∧ RR p rule row ∧
  ∀ H', Same H H' → Q (.bl (decide ((rule.length : Int) ≤ pl ∧ pl < row.length) && firstB p row rule pl.toNat)) H'
def spIsLeast : Sp := fun vs H Q _ => ∃ (p : Int) (b : Addr) (a : Addr) (c : Addr) (row : List Int) (rule : List Int) (shorter : List Int) (pl : Int), vs = [.int p, .ref b, .ref a, .ref c, .int pl] ∧ Ls H b row ∧ Ls H a rule ∧ Ls H c shorter ∧ LR p row rule shorter ∧
  ∀ H', Same H H' → Q (.bl (leastB p row rule shorter pl)) H'
/-- a reading that a lemma closes -/
inductive Tag (p : Prop) : Prop where
  | mk (h : p) : Tag p
theorem PE.tag {X : Cx} {e : Expr} {t : TE} (h : PE X e t) : PE X e (fun σ H Q => Tag (t σ H Q)) := fun pins s σ H Q I q => h pins s σ H Q I (q.casesOn id)
abbrev tL5 (K : PySem.W.Frag) (i j k : Nat) (f1 f2 f3 : Str) : TE := tCall spIsLeast [] E0 (tCons (tVar j) (tCons (tVar k) (tCons (tFld K (tVar i) f1) (tCons (tFld K (tVar i) f2) (tCons (tFld K (tVar i) f3) tNil)))))
theorem call5 {K : PySem.W.Frag} {C x dx b r s : Addr} {fs : List (Str × V)} {f1 f2 f3 : Str} {row rule shorter : List Int} {p pl : Int} {i j k : Nat} {σ : St} {H : Hp} {Q : VK} (hx : H x = some (.ins C dx fs)) (cl : Cls K C) (n1 : NoAttr K C f1) (n2 : NoAttr K C f2) (n3 : NoAttr K C f3) (l1 : fs.lookup f1 = some (.ref r)) (l2 : fs.lookup f2 = some (.ref s)) (l3 : fs.lookup f3 = some (.int pl))
    (ei : σ[i]? = some (some (.ref x))) (ej : σ[j]? = some (some (.int p))) (ek : σ[k]? = some (some (.ref b))) (hb : Ls H b row) (h1 : Ls H r rule) (h2 : Ls H s shorter) (lr : LR p row rule shorter) (q : ∀ H', Same H H' → Q (.bl (leastB p row rule shorter pl)) H') : Tag (tL5 K i j k f1 f2 f3 σ H Q) :=
  .mk ⟨_, ej, _, ek, _, ei, x, C, dx, _, _, rfl, hx, cl, n1, l1, _, ei, x, C, dx, _, _, rfl, hx, cl, n2, l2, _, ei, x, C, dx, _, _, rfl, hx, cl, n3, l3, p, b, r, s, row, rule, shorter, pl, rfl, hb, h1, h2, lr, q⟩
/-! ### answers as objects -/
def flds3 (r s : Addr) (pl : Int) : List (Str × V) := putF "place" (.int pl) (putF "shorter" (.ref s) (putF "rule" (.ref r) []))
theorem flds3_r {r s : Addr} {pl : Int} : (flds3 r s pl).lookup ("rule" : Str) = some (.ref r) := by
  unfold flds3
  rw [lookup_putF, if_neg (by decide), lookup_putF, if_neg (by decide), lookup_putF, if_pos rfl]
theorem flds3_s {r s : Addr} {pl : Int} : (flds3 r s pl).lookup ("shorter" : Str) = some (.ref s) := by
  unfold flds3
  rw [lookup_putF, if_neg (by decide), lookup_putF, if_pos rfl]
theorem flds3_p {r s : Addr} {pl : Int} : (flds3 r s pl).lookup ("place" : Str) = some (.int pl) := by
  unfold flds3
  rw [lookup_putF, if_pos rfl]
theorem flds3_m {r s : Addr} {pl : Int} : (flds3 r s pl).lookup ("shows" : Str) = none := by
  unfold flds3
  rw [lookup_putF, if_neg (by decide), lookup_putF, if_neg (by decide), lookup_putF, if_neg (by decide)]
  rfl
def flds4 (r t s : Addr) (pl : Int) : List (Str × V) := putF "place" (.int pl) (putF "shorter" (.ref s) (putF "other" (.ref t) (putF "one" (.ref r) [])))
theorem flds4_r {r t s : Addr} {pl : Int} : (flds4 r t s pl).lookup ("one" : Str) = some (.ref r) := by
  unfold flds4
  rw [lookup_putF, if_neg (by decide), lookup_putF, if_neg (by decide), lookup_putF, if_neg (by decide), lookup_putF, if_pos rfl]
theorem flds4_t {r t s : Addr} {pl : Int} : (flds4 r t s pl).lookup ("other" : Str) = some (.ref t) := by
  unfold flds4
  rw [lookup_putF, if_neg (by decide), lookup_putF, if_neg (by decide), lookup_putF, if_pos rfl]
theorem flds4_s {r t s : Addr} {pl : Int} : (flds4 r t s pl).lookup ("shorter" : Str) = some (.ref s) := by
  unfold flds4
  rw [lookup_putF, if_neg (by decide), lookup_putF, if_pos rfl]
theorem flds4_p {r t s : Addr} {pl : Int} : (flds4 r t s pl).lookup ("place" : Str) = some (.int pl) := by
  unfold flds4
  rw [lookup_putF, if_pos rfl]
theorem flds4_m {r t s : Addr} {pl : Int} : (flds4 r t s pl).lookup ("shows" : Str) = none := by
  unfold flds4
  rw [lookup_putF, if_neg (by decide), lookup_putF, if_neg (by decide), lookup_putF, if_neg (by decide), lookup_putF, if_neg (by decide)]
  rfl
/-- Least, Only -/
structure Ans3 (C : Addr) (H : Hp) (x ra sa : Addr) (rule shorter : List Int) (pl : Int) : Prop where
  ob : ∃ dx, H x = some (.ins C dx (flds3 ra sa pl))
  r : Ls H ra rule
  s : Ls H sa shorter
  ne : ra ≠ sa
theorem Ans3.same {C : Addr} {H H' : Hp} {x r s : Addr} {rule shorter : List Int} {pl : Int} (h : Ans3 C H x r s rule shorter pl) (q : Same H H') : Ans3 C H' x r s rule shorter pl :=
  ⟨let ⟨dx, e⟩ := h.ob; ⟨dx, q _ _ e⟩, h.r.same q, h.s.same q, h.ne⟩
/-- Another -/
structure Ans4 (C : Addr) (H : Hp) (x ra ta sa : Addr) (one other shorter : List Int) (pl : Int) : Prop where
  ob : ∃ dx, H x = some (.ins C dx (flds4 ra ta sa pl))
  r : Ls H ra one
  t : Ls H ta other
  s : Ls H sa shorter
  n1 : ra ≠ ta
  n2 : ra ≠ sa
  n3 : ta ≠ sa
theorem Ans4.same {C : Addr} {H H' : Hp} {x r t s : Addr} {one other shorter : List Int} {pl : Int} (h : Ans4 C H x r t s one other shorter pl) (q : Same H H') : Ans4 C H' x r t s one other shorter pl :=
  ⟨let ⟨dx, e⟩ := h.ob; ⟨dx, q _ _ e⟩, h.r.same q, h.t.same q, h.s.same q, h.n1, h.n2, h.n3⟩
/-- what of the text a class of answers has -/
structure Cl3 (K : PySem.W.Frag) (C : Addr) : Prop where
  cl : Cls K C
  r : NoAttr K C "rule"
  s : NoAttr K C "shorter"
  p : NoAttr K C "place"
structure Cl4 (K : PySem.W.Frag) (C : Addr) : Prop where
  cl : Cls K C
  r : NoAttr K C "one"
  t : NoAttr K C "other"
  s : NoAttr K C "shorter"
  p : NoAttr K C "place"
def spInit3 (C : Addr) : Sp := fun vs H Q _ => ∃ (x : Addr) (a : Addr) (c : Addr) (pl : Int) (dx : Addr) (rule : List Int) (shorter : List Int), vs = [.ref x, .ref a, .ref c, .int pl] ∧ H x = some (.ins C dx []) ∧ Ls H a rule ∧ Ls H c shorter ∧
  ∀ (r s : Addr) (H' : Hp), H r = none → H s = none → Ans3 C H' x r s rule shorter pl → (∀ b o, b ≠ x → H b = some o → H' b = some o) → Q .non H'
def spInit4 (C : Addr) : Sp := fun vs H Q _ => ∃ (x : Addr) (a : Addr) (b : Addr) (c : Addr) (pl : Int) (dx : Addr) (one : List Int) (other : List Int) (shorter : List Int), vs = [.ref x, .ref a, .ref b, .ref c, .int pl] ∧ H x = some (.ins C dx []) ∧ Ls H a one ∧ Ls H b other ∧ Ls H c shorter ∧
  ∀ (r t s : Addr) (H' : Hp), H r = none → H t = none → H s = none → Ans4 C H' x r t s one other shorter pl → (∀ b o, b ≠ x → H b = some o → H' b = some o) → Q .non H'
def spShows (C : Addr) : Sp := fun vs H Q _ => ∃ (x : Addr) (p : Int) (b : Addr) (r : Addr) (s : Addr) (row : List Int) (rule : List Int) (shorter : List Int) (pl : Int), vs = [.ref x, .int p, .ref b] ∧ Ans3 C H x r s rule shorter pl ∧ Ls H b row ∧ LR p row rule shorter ∧
  ∀ H', Same H H' → Q (.bl (leastB p row rule shorter pl)) H'
def soleB (row rule : List Int) : Bool := decide (2 * (rule.length : Int) ≤ row.length)
def spShowsO (C : Addr) : Sp := fun vs H Q _ => ∃ (x : Addr) (p : Int) (b : Addr) (r : Addr) (s : Addr) (row : List Int) (rule : List Int) (shorter : List Int) (pl : Int), vs = [.ref x, .int p, .ref b] ∧ Ans3 C H x r s rule shorter pl ∧ Ls H b row ∧ LR p row rule shorter ∧
  ∀ H', Same H H' → Q (.bl (soleB row rule && leastB p row rule shorter pl)) H'
def anoB (p : Int) (row one other shorter : List Int) (pl : Int) : Bool := decide (one.length = other.length) && !decide (one = other) && leastB p row one shorter pl && leastB p row other shorter pl
def spShowsA (C : Addr) : Sp := fun vs H Q _ => ∃ (x : Addr) (p : Int) (b : Addr) (r : Addr) (t : Addr) (s : Addr) (row : List Int) (one : List Int) (other : List Int) (shorter : List Int) (pl : Int), vs = [.ref x, .int p, .ref b] ∧ Ans4 C H x r t s one other shorter pl ∧ Ls H b row ∧ LR p row one shorter ∧ other.length ≤ 100 ∧
  ∀ H', Same H H' → Q (.bl (anoB p row one other shorter pl)) H'
def spSole : Sp := fun vs H Q _ => ∃ (a : Addr) (b : Addr) (rule : List Int) (row : List Int), vs = [.ref a, .ref b] ∧ Ls H a rule ∧ Ls H b row ∧ rule.length ≤ 1000 ∧ row.length ≤ 1000 ∧ Q (.bl (soleB row rule)) H
def spMixed : Sp := fun vs H Q _ => ∃ (p : Int) (a : Addr) (c : Addr) (rule : List Int) (shorter : List Int) (sh : Nat) (share : Int), vs = [.int p, .ref a, .ref c, .int ((sh : Nat) : Int), .int share] ∧ Ls H a rule ∧ Ls H c shorter ∧ 0 < p ∧ p ≤ 1000 ∧ Rests p rule ∧ Rests p shorter ∧
  1 ≤ sh ∧ sh ≤ 1000 ∧ 0 ≤ share ∧ share < p ∧ rule.length ≤ 1000 ∧ shorter.length ≤ 1000 ∧ ∀ (r : Addr) (H' : Hp), Same H H' → H r = none → Ls H' r (mixL p rule shorter sh share) → Q (.ref r) H'
def spLeast (C : Addr) : Sp := fun vs H Q _ => ∃ (p : Int) (b : Addr) (row : List Int), vs = [.int p, .ref b] ∧ Ls H b row ∧ Seven p ∧ Rests p row ∧ row.length ≤ 100 ∧
  ∀ (x r s : Addr) (H' : Hp) (rule shorter : List Int) (pl miss : Int), Same H H' → H x = none → H r = none → H s = none → Ans3 C H' x r s rule shorter pl → BM p row row.length rule shorter pl miss → Q (.ref x) H'
def spUnlike (CO CA : Addr) : Sp := fun vs H Q _ => ∃ (p : Int) (b : Addr) (row : List Int), vs = [.int p, .ref b] ∧ Ls H b row ∧ Seven p ∧ Rests p row ∧ row.length ≤ 100 ∧
  (∀ (x r s : Addr) (H' : Hp) (rule shorter : List Int) (pl miss : Int), Same H H' → H x = none → H r = none → H s = none → Ans3 CO H' x r s rule shorter pl → BM p row row.length rule shorter pl miss → 2 * rule.length ≤ row.length → Q (.ref x) H') ∧
  (∀ (x r t s : Addr) (H' : Hp) (one other shorter : List Int) (pl miss : Int), Same H H' → H x = none → H r = none → H t = none → H s = none → Ans4 CA H' x r t s one other shorter pl → BM p row row.length one shorter pl miss → row.length < 2 * one.length →
    other = mixL p one shorter (one.length - shorter.length) 1 → Q (.ref x) H')
end Rr

set_option Elab.async false
set_option linter.all false
set_option maxRecDepth 100000
namespace Rr
open PySem L2 RM
def top (i : Nat) : Stmt := PySem.Challenge.pw_rulerow_k05_answers_by_hand.main.body.getD i (.Pass ⟨0, 0, 0, 0⟩)





























abbrev sWhole : Stmt := top 8
abbrev sPrime : Stmt := top 9
abbrev sRest : Stmt := top 10
abbrev sAre : Stmt := top 11
abbrev sNeedPrime : Stmt := top 12
abbrev sNeedRule : Stmt := top 13
abbrev sNeedRow : Stmt := top 14
abbrev sInv : Stmt := top 15
abbrev sMakes : Stmt := top 17
abbrev sDue : Stmt := top 18
abbrev cLeast : Stmt := top 21
abbrev cOnly : Stmt := top 22
abbrev cAnother : Stmt := top 23
abbrev sSole : Stmt := top 24
abbrev sIsLeast : Stmt := top 25
abbrev sFails : Stmt := top 26
abbrev sLeast : Stmt := top 28
abbrev sUnlike : Stmt := top 29
abbrev sMixed : Stmt := top 30
abbrev lCell : Stmt := top 32
abbrev lDraw : Stmt := top 33
abbrev lPrime : Stmt := top 34
abbrev lRests : Stmt := top 35
abbrev lRow : Stmt := top 36
abbrev lDue : Stmt := top 37
abbrev lMade : Stmt := top 38
abbrev lRested : Stmt := top 39
abbrev lLeast : Stmt := top 40
abbrev lSays : Stmt := top 41
abbrev lBent : Stmt := top 42
abbrev lRight : Stmt := top 43
abbrev lARight : Stmt := top 44
abbrev lLaw : Stmt := top 45
section
variable {P : Program} {w : World} {K : PySem.W.Frag} {mg : Str → Option Value} {base : Heap} {f g : Addr} {fd gd : FuncData}
theorem scWhole : FnScope ["value"] ["value"] (defScope sWhole) := ⟨rfl, rfl, rfl, by decide +kernel, rfl, by decide +kernel, by decide +kernel⟩
theorem ok_whole (D : Def K mg "is_whole" sWhole ["value"] f fd) (o : Own mg) : FnOk P w K mg base CX0 1 f fd ["value"] spWhole := by
  refine D.F.ok scWhole (fun vs H Q E h => ?_) (fun cdv A outer s H vs Q E hr h => ?_)
  · obtain ⟨i, rfl, _⟩ := h
    rfl
  obtain ⟨i, rfl, q⟩ := h
  refine ⟨_, pss_one (ps_ret (pe_and (pe_callB call_isi rfl o.isinstance boot_isi (pa_cons (pv 0) (pa_cons (pe_ty rfl o.int boot_intT) pa_nil)))
    (pe_one (pe_not (pe_callB call_isi rfl o.isinstance boot_isi (pa_cons (pv 0) (pa_cons (pe_ty rfl o.bool boot_boolT) pa_nil))))))), ?_⟩
  refine ⟨_, rfl, _, _, _, _, rfl, TyOf.int i, kit_int_int _, true, rfl, iteT ?_⟩
  exact ⟨_, rfl, _, _, _, _, rfl, TyOf.int i, kit_int_bool _, false, rfl, q⟩
theorem scPrime : FnScope ["value", "divisor"] ["value"] (defScope sPrime) := ⟨rfl, rfl, rfl, by decide +kernel, rfl, by decide +kernel, by decide +kernel⟩
theorem ok_prime (D : Def K mg "is_prime" sPrime ["value"] f fd) (o : Own mg) (DW : Def K mg "is_whole" sWhole ["value"] g gd) (GW : FnOk P w K mg base CX0 1 g gd ["value"] spWhole) {t1 t2 : Tok} (hlo : mg "LOWEST_PRIME" = some (.int 2 t1)) (hhi : mg "HIGHEST_PRIME" = some (.int 997 t2)) :
    FnOk P w K mg base CX0 2 f fd ["value"] spPrime := by
  refine D.F.ok scPrime (fun vs H Q E h => ?_) (fun cdv A outer s H vs Q E hr h => ?_)
  · obtain ⟨i, rfl, _⟩ := h
    rfl
  obtain ⟨p, rfl, hp, q⟩ := h
  obtain ⟨h1, h2, h3⟩ := hp
  refine ⟨_, pss_cons (ps_if (pw_or (pt_not (pt_val (pcall DW GW hr (pa_cons (pv 0) pa_nil)))) (pw_or (pt_cmpR op_lt (pv 0) (pe_glob (v := .int 2) (by rfl) hlo ⟨_, rfl⟩) (nomark _)) (pw_or1 (pt_cmpR op_gt (pv 0) (pe_glob (v := .int 997) (by rfl) hhi ⟨_, rfl⟩) (nomark _))))).pt (pss_one (ps_ret pe_bl)) pss_nil)
    (pss_cons (ps_set (i := 1) scPrime.nd rfl (Or.inl rfl) pint)
    (pss_cons (ps_while PassesOwn.never (pt_cmpR op_le (pe_op op_mul (pv 1) (pv 1)) (pv 0) (nomark _))
      (pss_cons (ps_if (pt_cmpR op_eq (pe_op op_mod (pv 0) (pv 1)) pint (nomark _)) (pss_one (ps_ret pe_bl)) pss_nil)
        (pss_one (ps_aug (i := 1) scPrime.nd rfl (Or.inl rfl) pint ip_add))))
    (pss_one (ps_ret pe_bl)))), ?_⟩
  refine ⟨_, rfl, p, rfl, true, rfl, iteF ?_⟩
  refine ⟨_, rfl, _, _, rfl, rfl, _, rfl, iteFd (by omega) ?_⟩
  refine ⟨_, rfl, _, _, rfl, rfl, _, rfl, iteFd (by omega) ?_⟩
  refine ⟨fun m σ H' => H' = H ∧ ∃ d : Int, σ = [some (.int p), some (.int d)] ∧ 2 ≤ d ∧ d ≤ 1000 ∧ m = (1000 - d).toNat, ⟨998, rfl, 2, rfl, by omega, by omega, rfl⟩, ?_⟩
  rintro m σ H' ⟨rfl, d, rfl, hd, hd2, rfl⟩
  refine ⟨_, rfl, _, rfl, _, _, rfl, rfl, .inl ⟨by omega, by omega⟩, _, rfl, _, _, rfl, rfl, _, rfl, ?_⟩
  by_cases hle : d * d ≤ p
  · have hd31 : d < 1000 := by
      refine Int.not_le.mp fun z => ?_
      have q1 : (1000 : Int) * 1000 ≤ d * d := Int.mul_le_mul z z (by omega) (by omega)
      omega
    refine iteTd hle ⟨_, fun σ' H' z => z, ?_⟩
    refine ⟨_, rfl, _, rfl, _, _, rfl, rfl, (by show 0 < d; omega), rfl, _, rfl, iteFd (fun z => h3 d hd hle (by injection z)) ?_⟩
    exact ⟨_, rfl, _, _, rfl, rfl, _, (by show (1000 - (d + 1)).toNat < (1000 - d).toNat; omega), rfl, d + 1, rfl, by omega, by omega, rfl⟩
  · exact iteFd hle q
end
end Rr

set_option Elab.async false
set_option linter.all false
set_option maxRecDepth 100000
namespace Rr
open PySem L2 RM
section
variable {P : Program} {w : World} {K : PySem.W.Frag} {mg : Str → Option Value} {base : Heap} {f g : Addr} {fd gd : FuncData}
theorem scRest : FnScope ["prime", "value"] ["prime", "value"] (defScope sRest) := ⟨rfl, rfl, rfl, by decide +kernel, rfl, by decide +kernel, by decide +kernel⟩
theorem ok_restB (D : Def K mg "is_rest" sRest ["prime", "value"] f fd) (DW : Def K mg "is_whole" sWhole ["value"] g gd) (GW : FnOk P w K mg base CX0 1 g gd ["value"] spWhole) : FnOk P w K mg base CX0 2 f fd ["prime", "value"] spRestB := by
  refine D.F.ok scRest (fun vs H Q E h => ?_) (fun cdv A outer s H vs Q E hr h => ?_)
  · obtain ⟨p, i, rfl, _⟩ := h
    rfl
  obtain ⟨p, i, rfl, q⟩ := h
  refine ⟨_, pss_one (ps_ret (pe_and (pcall DW GW hr (pa_cons (pv 1) pa_nil)) (pe_and (pe_cmpR op_ge (pv 1) pint (nomark _)) (pe_one (pe_cmpR op_lt (pv 1) (pv 0) (nomark _)))))), ?_⟩
  refine ⟨_, rfl, i, rfl, true, rfl, iteT ?_⟩
  refine ⟨_, rfl, _, _, rfl, rfl, _, rfl, ?_⟩
  by_cases h0 : 0 ≤ i
  · refine iteTd h0 ⟨_, rfl, _, rfl, _, _, rfl, rfl, ?_⟩
    rw [decide_eq_true h0, Bool.true_and] at q
    exact q
  · refine iteFd h0 ?_
    rw [decide_eq_false h0, Bool.false_and] at q
    exact q
theorem scAre : FnScope ["prime", "value", "number"] ["prime", "value"] (defScope sAre) := ⟨rfl, rfl, rfl, by decide +kernel, rfl, by decide +kernel, by decide +kernel⟩
theorem ok_areB (D : Def K mg "are_rests" sAre ["prime", "value"] f fd) (o : Own mg) (DR : Def K mg "is_rest" sRest ["prime", "value"] g gd) (GR : FnOk P w K mg base CX0 2 g gd ["prime", "value"] spRestB) : FnOk P w K mg base CX0 3 f fd ["prime", "value"] spAreB := by
  refine D.F.ok scAre (fun vs H Q E h => ?_) (fun cdv A outer s H vs Q E hr h => ?_)
  · obtain ⟨p, a, ns, rfl, _⟩ := h
    rfl
  obtain ⟨p, a, ns, rfl, hL, q⟩ := h
  refine ⟨_, pss_cons (ps_if (pt_not (pt_val (pe_callB call_isi rfl o.isinstance boot_isi (pa_cons (pv 1) (pa_cons (pe_ty rfl o.list boot_listT) pa_nil))))) (pss_one (ps_ret pe_bl)) pss_nil)
    (pss_cons (ps_for PassesOwn.never rfl (pi_list (pv 1)) (pg_name (i := 2) scAre.nd rfl (Or.inl rfl))
      (pss_one (ps_if (pt_not (pt_val (pcall DR GR hr (pa_cons (pv 0) (pa_cons (pv 2) pa_nil))))) (pss_one (ps_ret pe_bl)) pss_nil)))
    (pss_one (ps_ret pe_bl))), ?_⟩
  refine ⟨_, rfl, _, _, _, _, rfl, TyOf.lst hL, kit_list_list _, true, rfl, iteF ?_⟩
  refine ⟨_, rfl, a, rfl, ⟨_, hL.sq⟩, for_list (xs := ns.map V.int) (fun i σ H' => H' = H ∧ (∀ j, j < i → (decide (0 ≤ gt ns j) && decide (gt ns j < p)) = true) ∧ ∃ x, σ = [some (.int p), some (.ref a), x]) ⟨rfl, fun _ h => absurd h (Nat.not_lt_zero _), none, rfl⟩ (fun i σ H' _ h => by rw [h.1]; exact hL.sq) ?_ (fun σ H' h => ?_)⟩
  · rintro i x σ H' hx ⟨rfl, hall, y, rfl⟩
    obtain ⟨rfl, hi⟩ := at_int hx
    refine ⟨_, rfl, _, rfl, p, gt ns i, rfl, _, rfl, ?_⟩
    cases e : (decide (0 ≤ gt ns i) && decide (gt ns i < p)) with
    | true =>
      refine iteF ⟨rfl, fun j hj => ?_, _, rfl⟩
      by_cases hj' : j < i
      · exact hall j hj'
      · have : j = i := by omega
        subst this
        exact e
    | false =>
      refine iteT ?_
      rw [restsB_no hi e] at q
      exact q
  · obtain ⟨rfl, hall, _⟩ := h
    rw [List.length_map] at hall
    rw [restsB_yes hall] at q
    exact q
theorem ok_are (G : FnOk P w K mg base CX0 3 f fd ["prime", "value"] spAreB) : FnOk P w K mg base CX0 3 f fd ["prime", "value"] spAre := G.imp fun vs H Q E h => by
  obtain ⟨p, a, ns, rfl, hL, hR, q⟩ := h
  exact ⟨p, a, ns, rfl, hL, by rw [restsB_iff.mpr hR]; exact q⟩
end
end Rr

set_option Elab.async false
set_option linter.all false
set_option maxRecDepth 100000
namespace Rr
open PySem L2 RM
section
variable {P : Program} {w : World} {K : PySem.W.Frag} {mg : Str → Option Value} {base : Heap} {f g g2 g3 g4 g5 : Addr} {fd gd gd2 gd3 gd4 gd5 : FuncData}
theorem scNeedPrime : FnScope ["prime"] ["prime"] (defScope sNeedPrime) := ⟨rfl, rfl, rfl, by decide +kernel, rfl, by decide +kernel, by decide +kernel⟩
theorem ok_needPrime (D : Def K mg "need_prime" sNeedPrime ["prime"] f fd) (DP : Def K mg "is_prime" sPrime ["value"] g gd) (GP : FnOk P w K mg base CX0 2 g gd ["value"] spPrime) : FnOk P w K mg base CX0 3 f fd ["prime"] spNeedPrime := by
  refine D.F.ok scNeedPrime (fun vs H Q E h => ?_) (fun cdv A outer s H vs Q E hr h => ?_)
  · obtain ⟨p, rfl, _⟩ := h
    rfl
  obtain ⟨p, rfl, hp, q⟩ := h
  refine ⟨_, pss_one (ps_if (pt_not (pt_val (pcall DP GP hr (pa_cons (pv 0) pa_nil)))) pss_never pss_nil), ?_⟩
  exact ⟨_, rfl, p, rfl, hp, true, rfl, iteF q⟩
theorem scNeedRule : FnScope ["prime", "rule"] ["prime", "rule"] (defScope sNeedRule) := ⟨rfl, rfl, rfl, by decide +kernel, rfl, by decide +kernel, by decide +kernel⟩
theorem ok_needRule (D : Def K mg "need_rule" sNeedRule ["prime", "rule"] f fd) (DP : Def K mg "are_rests" sAre ["prime", "value"] g gd) (GP : FnOk P w K mg base CX0 3 g gd ["prime", "value"] spAre) : FnOk P w K mg base CX0 4 f fd ["prime", "rule"] spNeed := by
  refine D.F.ok scNeedRule (fun vs H Q E h => ?_) (fun cdv A outer s H vs Q E hr h => ?_)
  · obtain ⟨p, a, ns, rfl, _⟩ := h
    rfl
  obtain ⟨p, a, ns, rfl, hL, hR, q⟩ := h
  refine ⟨_, pss_one (ps_if (pt_not (pt_val (pcall DP GP hr (pa_cons (pv 0) (pa_cons (pv 1) pa_nil))))) pss_never pss_nil), ?_⟩
  exact ⟨_, rfl, _, rfl, p, a, ns, rfl, hL, hR, true, rfl, iteF q⟩
theorem scNeedRow : FnScope ["prime", "row"] ["prime", "row"] (defScope sNeedRow) := ⟨rfl, rfl, rfl, by decide +kernel, rfl, by decide +kernel, by decide +kernel⟩
theorem ok_needRow (D : Def K mg "need_row" sNeedRow ["prime", "row"] f fd) (DP : Def K mg "are_rests" sAre ["prime", "value"] g gd) (GP : FnOk P w K mg base CX0 3 g gd ["prime", "value"] spAre) : FnOk P w K mg base CX0 4 f fd ["prime", "row"] spNeed := by
  refine D.F.ok scNeedRow (fun vs H Q E h => ?_) (fun cdv A outer s H vs Q E hr h => ?_)
  · obtain ⟨p, a, ns, rfl, _⟩ := h
    rfl
  obtain ⟨p, a, ns, rfl, hL, hR, q⟩ := h
  refine ⟨_, pss_one (ps_if (pt_not (pt_val (pcall DP GP hr (pa_cons (pv 0) (pa_cons (pv 1) pa_nil))))) pss_never pss_nil), ?_⟩
  exact ⟨_, rfl, _, rfl, p, a, ns, rfl, hL, hR, true, rfl, iteF q⟩
structure Needs (P : Program) (w : World) (K : PySem.W.Frag) (mg : Str → Option Value) (base : Heap) (f1 f2 f3 : Addr) (d1 d2 d3 : FuncData) : Prop where
  D1 : Def K mg "need_prime" sNeedPrime ["prime"] f1 d1
  G1 : FnOk P w K mg base CX0 3 f1 d1 ["prime"] spNeedPrime
  D2 : Def K mg "need_rule" sNeedRule ["prime", "rule"] f2 d2
  G2 : FnOk P w K mg base CX0 4 f2 d2 ["prime", "rule"] spNeed
  D3 : Def K mg "need_row" sNeedRow ["prime", "row"] f3 d3
  G3 : FnOk P w K mg base CX0 4 f3 d3 ["prime", "row"] spNeed
theorem scDue : FnScope ["prime", "rule", "row", "place", "ahead"] ["prime", "rule", "row", "place"] (defScope sDue) := ⟨rfl, rfl, rfl, by decide +kernel, rfl, by decide +kernel, by decide +kernel⟩
theorem ok_due (D : Def K mg "due" sDue ["prime", "rule", "row", "place"] f fd) (o : Own mg) : FnOk P w K mg base CX0 1 f fd ["prime", "rule", "row", "place"] spDue := by
  refine D.F.ok scDue (fun vs H Q E h => ?_) (fun cdv A outer s H vs Q E hr h => ?_)
  · obtain ⟨p, a, b, rule, row, k, rfl, _⟩ := h
    rfl
  obtain ⟨p, a, b, rule, row, k, rfl, h1, h2, rr, hk, hk2, q⟩ := h
  refine ⟨_, pss_cons (ps_set (i := 4) scDue.nd rfl (Or.inl rfl) (pe_slice sl_list (pv 2) (po_some (pe_op op_sub (pv 3) (plen o (pv 1)))) (po_some (pv 3))))
    (pss_one (ps_ret (pe_op op_mod (pe_callB (call_sum rfl) rfl o.sum boot_sumB (pa_cons (pe_comp ["number", "rest"] [] rfl (pi_zipR rfl o.zip rfl o.reversed (pv 4) (pv 1))
      (fun cl C s₂ H₂ fp => pgp) (gk_pair (by decide) (by decide)) (fun cl C s₂ H₂ fp => pe_op op_mul (pv 0) (pv 1))) pa_nil)) (pv 0)))), ?_⟩
  have hp := rr.pr.pos
  have e1 : (k : Int) - ((rule.map V.int).length : Int) = ((k - rule.length : Nat) : Int) := by rw [List.length_map]; omega
  refine ⟨_, rfl, _, rfl, _, rfl, a, _, rfl, .inl h1.sq, _, _, rfl, rfl, _, rfl, _, rfl, _, rfl, b, _, rfl, h2.sq, fun r hr' => ?_⟩
  have ec : cutV (row.map V.int) (some ((k : Int) - ((rule.map V.int).length : Int))) (some (k : Int)) = ((row.drop (k - rule.length)).take rule.length).map V.int := by
    rw [e1, cut_at (by omega) hk2, show k - (k - rule.length) = rule.length by omega]
  rw [ec]
  have sm1 : Same H (upd H r (.lst (((row.drop (k - rule.length)).take rule.length).map V.int))) := same_new hr' _
  have lA : ((row.drop (k - rule.length)).take rule.length).length = rule.length := by rw [List.length_take, List.length_drop]; omega
  have s1 : SqL K (upd H r (.lst (((row.drop (k - rule.length)).take rule.length).map V.int))) r (((row.drop (k - rule.length)).take rule.length).map V.int) := SqL.of upd_same
  refine ⟨_, rfl, r, _, rfl, s1, _, rfl, a, _, rfl, s1, (h1.same sm1).sq, ?_⟩
  have l1 := rr.l1
  refine comp_zipR s1 (h1.same sm1).sq (fun i => V.int (gt ((row.drop (k - rule.length)).take rule.length).reverse i * gt rule i)) (by rw [List.length_map, lA]; exact small (by omega)) (fun i x y H' hx hy sm => ?_) (fun H' sm p' hp' => ?_)
  · rw [← List.map_reverse] at hx
    obtain ⟨rfl, hi⟩ := at_int hx
    obtain ⟨rfl, hi2⟩ := at_int hy
    have rA : Rests p ((row.drop (k - rule.length)).take rule.length).reverse := fun z hz => (rr.r2.drop _).take _ z (List.mem_reverse.mp hz)
    have b1 := rA.at hp i
    have p1 := rr.pr.2.1
    exact ⟨_, rfl, _, rfl, _, _, rfl, rfl, .inl ⟨by omega, by omega⟩, snocF rfl, sm⟩
  · rw [List.length_map, List.length_map, lA, Nat.min_self]
    refine ⟨p', (List.range rule.length).map (fun i => gt ((row.drop (k - rule.length)).take rule.length).reverse i * gt rule i), rfl, ?_, _, rfl, _, _, rfl, rfl, hp, ?_⟩
    · rw [← mapInt]
      exact SqL.of upd_same
    · have ev : ((List.range rule.length).map (fun i => gt ((row.drop (k - rule.length)).take rule.length).reverse i * gt rule i)).sum % p = dueN p rule row k := by
        rw [sum_range]
        unfold dueN
        congr 1
        refine sm_congr fun i hi => ?_
        rw [gt_reverse (by omega), lA, gt_take (by omega), gt_drop, Int.mul_comm, show k - rule.length + (rule.length - 1 - i) = k - 1 - i by omega]
      show Q (.int (((List.range rule.length).map (fun i => gt ((row.drop (k - rule.length)).take rule.length).reverse i * gt rule i)).sum % p)) _
      rw [ev]
      exact q _ ((sm1.trans sm).trans (same_new hp' _))
end
end Rr

set_option Elab.async false
set_option linter.all false
set_option maxRecDepth 100000
namespace Rr
open PySem L2 RM
theorem makes_no {p : Int} {rule row : List Int} {i : Nat} (hi : i < row.length - rule.length) (h : gt row (rule.length + i) ≠ dueN p rule row (rule.length + i)) : makesN p rule row = false := by
  unfold makesN
  rw [Bool.eq_false_iff]
  intro z
  have := List.all_eq_true.mp z i (List.mem_range.mpr hi)
  exact h (beq_iff_eq.mp this)
theorem makes_yes {p : Int} {rule row : List Int} (h : ∀ i, i < row.length - rule.length → gt row (rule.length + i) = dueN p rule row (rule.length + i)) : makesN p rule row = true := by
  unfold makesN
  rw [List.all_eq_true]
  intro i hi
  exact beq_iff_eq.mpr (h i (List.mem_range.mp hi))
section
variable {P : Program} {w : World} {K : PySem.W.Frag} {mg : Str → Option Value} {base : Heap} {f g g2 g3 g4 g5 g6 : Addr} {fd gd gd2 gd3 gd4 gd5 gd6 : FuncData}
theorem scMakes : FnScope ["prime", "rule", "row", "place"] ["prime", "rule", "row"] (defScope sMakes) := ⟨rfl, rfl, rfl, by decide +kernel, rfl, by decide +kernel, by decide +kernel⟩
theorem ok_makes (D : Def K mg "makes" sMakes ["prime", "rule", "row"] f fd) (o : Own mg) (N : Needs P w K mg base g g2 g3 gd gd2 gd3) (DD : Def K mg "due" sDue ["prime", "rule", "row", "place"] g4 gd4) (GD : FnOk P w K mg base CX0 1 g4 gd4 ["prime", "rule", "row", "place"] spDue) :
    FnOk P w K mg base CX0 5 f fd ["prime", "rule", "row"] spMakes := by
  refine D.F.ok scMakes (fun vs H Q E h => ?_) (fun cdv A outer s H vs Q E hr h => ?_)
  · obtain ⟨p, a, b, rule, row, rfl, _⟩ := h
    rfl
  obtain ⟨p, a, b, rule, row, rfl, h1, h2, rr, q⟩ := h
  refine ⟨_, pss_cons (ps_expr (pcall N.D1 N.G1 hr (pa_cons (pv 0) pa_nil))) (pss_cons (ps_expr (pcall N.D2 N.G2 hr (pa_cons (pv 0) (pa_cons (pv 1) pa_nil)))) (pss_cons (ps_expr (pcall N.D3 N.G3 hr (pa_cons (pv 0) (pa_cons (pv 2) pa_nil))))
    (pss_cons (ps_for PassesOwn.never rfl (pi_range2 rfl o.range (pa_cons (plen o (pv 1)) (pa_cons (plen o (pv 2)) pa_nil))) (pgn 3)
      (pss_one (ps_if (pt_cmpR op_ne (pe_ix ix_list (pv 2) (pv 3) (fun _ _ => rfl)) (pcall DD GD hr (pa_cons (pv 0) (pa_cons (pv 1) (pa_cons (pv 2) (pa_cons (pv 3) pa_nil))))) (nomark _)) (pss_one (ps_ret pe_bl)) pss_nil)))
    (pss_one (ps_ret pe_bl))))), ?_⟩
  have l1 := rr.l1
  have l2 := rr.l2
  refine ⟨_, rfl, p, rfl, rr.pr, ?_⟩
  refine ⟨_, rfl, _, rfl, p, a, rule, rfl, h1, rr.r1, ?_⟩
  refine ⟨_, rfl, _, rfl, p, b, row, rfl, h2, rr.r2, ?_⟩
  refine ⟨_, rfl, a, _, rfl, .inl h1.sq, _, rfl, b, _, rfl, .inl h2.sq, _, _, rfl, ?_⟩
  rw [List.length_map, List.length_map]
  refine ⟨⟨by omega, by omega, by omega, by omega⟩, for_range (n := ((row.length : Int) - (rule.length : Int)).toNat) (fun i σ H' => Same H H' ∧ (∀ j, j < i → gt row (rule.length + j) = dueN p rule row (rule.length + j)) ∧ ∃ x, σ = [some (.int p), some (.ref a), some (.ref b), x])
    ⟨Same.refl _, fun _ h => absurd h (Nat.not_lt_zero _), none, rfl⟩ ?_ ?_⟩
  · rintro i σ H' hi ⟨sm, hall, y, rfl⟩
    have hi' : rule.length + i < row.length := by omega
    have ei : (rule.length : Int) + (i : Int) = ((rule.length + i : Nat) : Int) := by omega
    refine ⟨_, rfl, _, rfl, b, _, _, _, rfl, rfl, (h2.same sm).sq, atI_int ei hi', ?_⟩
    refine ⟨_, rfl, _, rfl, _, rfl, _, rfl, p, a, b, rule, row, rule.length + i, congrArg (fun z => [V.int p, V.ref a, V.ref b, V.int z]) ei, h1.same sm, h2.same sm, rr, by omega, by omega, fun H2 sm2 => ?_⟩
    refine ⟨rfl, _, rfl, ?_⟩
    by_cases hc : gt row (rule.length + i) = dueN p rule row (rule.length + i)
    · refine iteNd (by rw [hc]) ⟨sm.trans sm2, fun j hj => ?_, _, rfl⟩
      by_cases hj' : j < i
      · exact hall j hj'
      · have : j = i := by omega
        subst this
        exact hc
    · refine iteYd (fun z => hc (by injection z)) ?_
      have := q H2 (sm.trans sm2)
      rw [makes_no (by omega) hc] at this
      exact this
  · rintro σ H' ⟨sm, hall, _⟩
    have := q H' sm
    rw [makes_yes fun i hi => hall i (by omega)] at this
    exact this
end
end Rr

set_option Elab.async false
set_option linter.all false
set_option maxRecDepth 100000
set_option maxHeartbeats 800000
namespace Rr
open PySem L2 RM
theorem cut_fromA {ns : List Int} {lo : Nat} : cutV (ns.map V.int) (some (lo : Int)) none = (ns.drop lo).map V.int := by
  by_cases h : lo ≤ ns.length
  · exact cut_from h
  · unfold cutV
    rw [HT.sIx_nat, HT.sIx_none, List.length_map, show min lo ns.length = ns.length by omega, Nat.sub_self, List.take_zero, List.drop_eq_nil_of_le (show ns.length ≤ lo by omega)]
    rfl
/-- written ints, as arguments or items -/
def constI : Expr → Option Int
  | .Constant (.int i) _ _ => some i
  | _ => none
theorem nn_some {i : Int} (h : (none : Option Int) = some i) : False := by cases h
theorem constI_inv {e : Expr} {i : Int} (h : constI e = some i) : ∃ j pos, e = .Constant (.int i) j pos := by
  cases e with
  | Constant c j pos =>
    cases c with
    | int k =>
      have e : k = i := Option.some.inj h
      rw [e]
      exact ⟨j, pos, rfl⟩
    | _ => exact (nn_some h).elim
  | _ => exact (nn_some h).elim
theorem pa_consts {X : Cx} {es : List Expr} : (es.all fun e => (constI e).isSome) = true → PA X es (fun _ H Q => Q ((es.filterMap constI).map V.int) H) := by
  induction es with
  | nil => exact fun _ => pa_nil
  | cons e es ih =>
    intro h
    rw [List.all_cons, Bool.and_eq_true] at h
    obtain ⟨i, hi⟩ := Option.isSome_iff_exists.mp h.1
    obtain ⟨j, pos, rfl⟩ := constI_inv hi
    exact pa_cons (pe_int (i := i) (j := j) (pos := pos)) (ih h.2)
section
variable {P : Program} {w : World} {K : PySem.W.Frag} {mg : Str → Option Value} {base : Heap} {f g g2 g3 g4 g5 g6 : Addr} {fd gd gd2 gd3 gd4 gd5 gd6 : FuncData}
theorem scCell : FnScope ["_law_script", "_law_k"] ["_law_script", "_law_k"] (defScope lCell) := ⟨rfl, rfl, rfl, by decide +kernel, rfl, by decide +kernel, by decide +kernel⟩
theorem ok_cell (D : Def K mg "_law_cell_at" lCell ["_law_script", "_law_k"] f fd) (o : Own mg) : FnOk P w K mg base CX0 1 f fd ["_law_script", "_law_k"] (spCell K) := by
  refine D.F.ok scCell (fun vs H Q E h => ?_) (fun cdv A outer s H vs Q E hr h => ?_)
  · obtain ⟨a, ns, k, rfl, _⟩ := h
    rfl
  obtain ⟨a, ns, k, rfl, h1, hl, q⟩ := h
  refine ⟨_, pss_cons (ps_if (pt_cmpR op_lt (pv 1) (plen o (pv 0)) (nomark _)) (pss_one (ps_ret (pe_ix ix_list (pv 0) (pv 1) (fun _ _ => rfl)))) pss_nil) (pss_one (ps_ret pint)), ?_⟩
  refine ⟨_, rfl, _, rfl, a, _, rfl, .inl h1, _, _, rfl, rfl, _, rfl, ?_⟩
  rw [List.length_map]
  by_cases hc : k < ns.length
  · exact iteTd (by omega) ⟨_, rfl, _, rfl, a, _, _, _, rfl, rfl, h1, atI_int rfl hc, q⟩
  · refine iteFd (by omega) ?_
    rw [gt_ge (by omega)] at q
    exact q
theorem scRests : FnScope ["_law_script", "_law_by", "_law_prime_here", "_law_many"] ["_law_script", "_law_by", "_law_prime_here", "_law_many"] (defScope lRests) := ⟨rfl, rfl, rfl, by decide +kernel, rfl, by decide +kernel, by decide +kernel⟩
theorem ok_rests (D : Def K mg "_law_rests" lRests ["_law_script", "_law_by", "_law_prime_here", "_law_many"] f fd) (o : Own mg) (DC : Def K mg "_law_cell_at" lCell ["_law_script", "_law_k"] g gd) (GC : FnOk P w K mg base CX0 1 g gd ["_law_script", "_law_k"] (spCell K))
    (DD : Def K mg "_law_draw" lDraw ["_law_cell", "_law_k", "_law_many"] g2 gd2) (GD : FnOk P w K mg base CX0 1 g2 gd2 ["_law_cell", "_law_k", "_law_many"] spDraw) : FnOk P w K mg base CX0 2 f fd ["_law_script", "_law_by", "_law_prime_here", "_law_many"] (spRests K) := by
  refine D.F.ok scRests (fun vs H Q E h => ?_) (fun cdv A outer s H vs Q E hr h => ?_)
  · obtain ⟨a, ns, b, p, m, rfl, _⟩ := h
    rfl
  obtain ⟨a, ns, b, p, m, rfl, h1, hl, hp, hm, q⟩ := h
  refine ⟨_, pss_one (ps_ret (pe_comp ["_law_k"] [0, 1, 2] rfl (pi_range1 rfl o.range (pa_cons (pv 3) pa_nil)) (fun cl C s₂ H₂ fp => pgn 0) (gk_name (by decide))
    (fun cl C s₂ H₂ fp => pcall DD GD hr (pa_cons (pcall DC GC hr (pa_cons (pv 1) (pa_cons (pv 0) pa_nil))) (pa_cons (pe_op op_add (pe_op op_mod (pv 0) pint) (pv 2)) (pa_cons (pv 3) pa_nil)))))), ?_⟩
  refine ⟨_, rfl, _, rfl, by omega, by omega, ?_⟩
  refine ⟨m, fun i ys H' => ∃ l : List Int, ys = l.map V.int ∧ l.length = i ∧ Rests p l ∧ Same H H', small (by omega), ⟨[], rfl, rfl, Rests.nil, Same.refl _⟩, fun i ys H' hi hl' wi => ⟨hi, fun x H2 y => ?_⟩, fun ys H' hl' wi => ⟨Nat.le_refl _, fun r hr' => ?_⟩⟩
  · obtain ⟨l, rfl, hl2, hR, sm⟩ := wi
    obtain ⟨e1, e2⟩ := y
    subst e1 e2
    refine ⟨_, rfl, _, rfl, a, ns, i, congrArg (fun z => [V.ref a, V.int z]) (Int.zero_add _), sm.seq h1, hl, ?_⟩
    refine ⟨_, rfl, _, _, rfl, rfl, (by show (0 : Int) < 5; decide), _, rfl, _, _, rfl, rfl, _, rfl, gt ns i, i % 5 + b, p, ?_, hp, fun v H3 h0 h2 sm3 => ?_⟩
    · exact congrArg (fun z => [V.int (gt ns i), V.int z, V.int p]) (by omega)
    · exact ⟨l ++ [v], by rw [List.map_append]; rfl, by rw [List.length_append, hl2]; rfl, hR.app (.one ⟨h0, h2⟩), sm.trans sm3⟩
  · obtain ⟨l, rfl, hl2, hR, sm⟩ := wi
    exact q r _ l (sm.trans (same_new hr' _)) (sm.free hr') (Ls.new rfl) hR hl2
theorem scDueL : FnScope ["_law_prime_here", "_law_rule", "_law_row_here", "_law_place"] ["_law_prime_here", "_law_rule", "_law_row_here", "_law_place"] (defScope lDue) := ⟨rfl, rfl, rfl, by decide +kernel, rfl, by decide +kernel, by decide +kernel⟩
theorem ok_dueL (D : Def K mg "_law_due" lDue ["_law_prime_here", "_law_rule", "_law_row_here", "_law_place"] f fd) (o : Own mg) : FnOk P w K mg base CX0 1 f fd ["_law_prime_here", "_law_rule", "_law_row_here", "_law_place"] spDue := by
  refine D.F.ok scDueL (fun vs H Q E h => ?_) (fun cdv A outer s H vs Q E hr h => ?_)
  · obtain ⟨p, a, b, rule, row, k, rfl, _⟩ := h
    rfl
  obtain ⟨p, a, b, rule, row, k, rfl, h1, h2, rr, hk, hk2, q⟩ := h
  have hp := rr.pr.pos
  have hp2 := rr.pr.2.1
  have l1 := rr.l1
  refine ⟨_, pss_one (ps_ret (pe_op op_mod (pe_callB (call_sum rfl) rfl o.sum boot_sumB (pa_cons (pe_comp ["_law_k", "_law_rest"] [2, 3] rfl (pi_enum rfl o.enumerate (pa_cons (pv 1) pa_nil)) (fun cl C s₂ H₂ fp => pgp) (gk_pair (by decide) (by decide))
    (fun cl C s₂ H₂ fp => pe_op op_mul (pv 1) (pe_ix (ixK (K := K) rfl) (pv 2) (pe_op op_sub (pe_op op_sub (pv 3) pint) (pv 0)) (fun _ _ => rfl)))) pa_nil)) (pv 0))), ?_⟩
  refine ⟨_, rfl, a, rfl, ⟨_, Rd.of h1⟩, ?_⟩
  refine comp_enum h1.sq (fun i => V.int (gt rule i * gt row (k - 1 - i))) (by rw [List.length_map]; exact small (by omega)) (fun i x H' hx sm => ?_) (fun H' sm r hr' => ?_)
  · obtain ⟨rfl, hi⟩ := at_int hx
    have b1 := rr.r1.at hp i
    exact ⟨_, rfl, _, rfl, _, rfl, _, _, rfl, rfl, _, rfl, _, _, rfl, rfl, b, _, _, _, rfl, rfl, (h2.same sm).sq, atI_int (k := k - 1 - i) (by omega) (by omega), _, _, rfl, rfl, .inl ⟨by omega, by omega⟩, snocF rfl, sm⟩
  · rw [List.length_map]
    refine ⟨r, (List.range rule.length).map (fun i => gt rule i * gt row (k - 1 - i)), rfl, ?_, _, rfl, _, _, rfl, rfl, hp, ?_⟩
    · rw [← mapInt]
      exact SqL.of upd_same
    · have ev : ((List.range rule.length).map (fun i => gt rule i * gt row (k - 1 - i))).sum % p = dueN p rule row k := by
        rw [sum_range]
        rfl
      show Q (.int (((List.range rule.length).map (fun i => gt rule i * gt row (k - 1 - i))).sum % p)) _
      rw [ev]
      exact q _ (sm.trans (same_new hr' _))
theorem scMade : FnScope ["_law_prime_here", "_law_rule", "_law_row_here"] ["_law_prime_here", "_law_rule", "_law_row_here"] (defScope lMade) := ⟨rfl, rfl, rfl, by decide +kernel, rfl, by decide +kernel, by decide +kernel⟩
theorem ok_made (D : Def K mg "_law_made" lMade ["_law_prime_here", "_law_rule", "_law_row_here"] f fd) (o : Own mg) (DD : Def K mg "_law_due" lDue ["_law_prime_here", "_law_rule", "_law_row_here", "_law_place"] g gd) (GD : FnOk P w K mg base CX0 1 g gd ["_law_prime_here", "_law_rule", "_law_row_here", "_law_place"] spDue) :
    FnOk P w K mg base CX0 2 f fd ["_law_prime_here", "_law_rule", "_law_row_here"] spMade := by
  refine D.F.ok scMade (fun vs H Q E h => ?_) (fun cdv A outer s H vs Q E hr h => ?_)
  · obtain ⟨p, a, b, rule, row, rfl, _⟩ := h
    rfl
  obtain ⟨p, a, b, rule, row, rfl, h1, h2, rr, q⟩ := h
  have l1 := rr.l1
  have l2 := rr.l2
  refine ⟨_, pss_one (ps_ret (pe_callB (call_all rfl) rfl o.all boot_allB (pa_cons (pe_comp ["_law_place"] [0, 1, 2] rfl (pi_range2 rfl o.range (pa_cons (plen o (pv 1)) (pa_cons (plen o (pv 2)) pa_nil))) (fun cl C s₂ H₂ fp => pgn 0) (gk_name (by decide))
    (fun cl C s₂ H₂ fp => pe_cmpR op_eq (pe_ix (ixK (K := K) rfl) (pv 3) (pv 0) (fun _ _ => rfl)) (pcall DD GD hr (pa_cons (pv 1) (pa_cons (pv 2) (pa_cons (pv 3) (pa_cons (pv 0) pa_nil))))) (nomark _))) pa_nil))), ?_⟩
  refine ⟨_, rfl, a, _, rfl, .inl h1.sq, _, rfl, b, _, rfl, .inl h2.sq, _, _, rfl, ?_⟩
  rw [List.length_map, List.length_map]
  have en : ((row.length : Int) - (rule.length : Int)).toNat = row.length - rule.length := by omega
  refine ⟨⟨by omega, by omega, by omega, by omega⟩, ?_⟩
  rw [en]
  refine comp_range (fun i => V.bl (gt row (rule.length + i) == dueN p rule row (rule.length + i))) (small (by omega)) (fun i H' hi sm => ?_) (fun H' sm r hr' => ?_)
  · have ei : (rule.length : Int) + (i : Int) = ((rule.length + i : Nat) : Int) := by omega
    refine ⟨_, rfl, _, rfl, b, _, _, _, rfl, rfl, (h2.same sm).sq, atI_int ei (by omega), ?_⟩
    refine ⟨_, rfl, _, rfl, _, rfl, _, rfl, p, a, b, rule, row, rule.length + i, congrArg (fun z => [V.int p, V.ref a, V.ref b, V.int z]) ei, h1.same sm, h2.same sm, rr, by omega, by omega, fun H2 sm2 => ⟨rfl, snocF ?_, sm.trans sm2⟩⟩
    show V.bl (decide (V.int _ = V.int _)) = V.bl _
    rw [dec_int]
  · refine ⟨r, (List.range (row.length - rule.length)).map (fun i => gt row (rule.length + i) == dueN p rule row (rule.length + i)), rfl, ?_, ?_⟩
    · rw [← mapBl]
      exact SqL.of upd_same
    · have e : ((List.range (row.length - rule.length)).map (fun i => gt row (rule.length + i) == dueN p rule row (rule.length + i))).all id = makesN p rule row := by
        unfold makesN
        rw [List.all_map]
        rfl
      show Q (.bl _) _
      rw [e]
      exact q _ (sm.trans (same_new hr' _))
theorem scRested : FnScope ["_law_prime_here", "_law_found"] ["_law_prime_here", "_law_found"] (defScope lRested) := ⟨rfl, rfl, rfl, by decide +kernel, rfl, by decide +kernel, by decide +kernel⟩
theorem any_false {n : Nat} : ((List.range n).map fun _ => false).any id = false := by
  rw [List.any_eq_false]
  intro x hx
  obtain ⟨_, _, rfl⟩ := List.mem_map.mp hx
  exact Bool.false_ne_true
end
end Rr

set_option Elab.async false
set_option linter.all false
set_option maxRecDepth 100000
namespace Rr
open PySem L2 RM
section
variable {P : Program} {w : World} {K : PySem.W.Frag} {mg : Str → Option Value} {base : Heap} {f g : Addr} {fd gd : FuncData}
theorem ok_restedB (D : Def K mg "_law_rested" lRested ["_law_prime_here", "_law_found"] f fd) (o : Own mg) : FnOk P w K mg base CX0 1 f fd ["_law_prime_here", "_law_found"] spRestedB := by
  refine D.F.ok scRested (fun vs H Q E h => ?_) (fun cdv A outer s H vs Q E hr h => ?_)
  · obtain ⟨p, a, ns, rfl, _⟩ := h
    rfl
  obtain ⟨p, a, ns, rfl, h1, hl, q⟩ := h
  refine ⟨_, pss_cons (ps_if (PW.pt (pw_or (pt_not (pt_val (pe_callB call_isi rfl o.isinstance boot_isi (pa_cons (pv 1) (pa_cons (pe_ty rfl o.list boot_listT) pa_nil)))))
      (pw_or1 (pt_val (pe_callB (call_any rfl) rfl o.any boot_anyB (pa_cons (pe_comp ["_law_one"] [] rfl (pi_list (pv 1)) (fun cl C s₂ H₂ fp => pgn 0) (gk_name (by decide))
        (fun cl C s₂ H₂ fp => pe_or (pe_callB (isiK (K := K) rfl) rfl o.isinstance boot_isi (pa_cons (pv 0) (pa_cons (pe_ty rfl o.bool boot_boolT) pa_nil)))
          (pe_one (pe_not (pe_callB (isiK (K := K) rfl) rfl o.isinstance boot_isi (pa_cons (pv 0) (pa_cons (pe_ty rfl o.int boot_intT) pa_nil))))))) pa_nil)))))) (pss_one (ps_ret pe_bl)) pss_nil)
    (pss_one (ps_ret (pe_callB (call_all rfl) rfl o.all boot_allB (pa_cons (pe_comp ["_law_one"] [0] rfl (pi_list (pv 1)) (fun cl C s₂ H₂ fp => pgn 0) (gk_name (by decide))
      (fun cl C s₂ H₂ fp => pe_chain op_le op_lt pint (pv 0) (pv 1))) pa_nil)))), ?_⟩
  refine ⟨_, rfl, _, _, _, _, rfl, TyOf.lst h1, kit_list_list _, true, rfl, iteF ?_⟩
  refine ⟨_, rfl, a, rfl, ⟨_, h1.sq⟩, ?_⟩
  refine comp_list h1.sq (fun _ => V.bl false) (by rw [List.length_map]; exact small (by omega)) (fun i x H' hx sm => ?_) (fun H' sm r hr' => ?_)
  · obtain ⟨rfl, hi⟩ := at_int hx
    refine ⟨_, rfl, _, _, _, _, rfl, TyOf.int _, kit_int_bool _, false, rfl, iteF ?_⟩
    exact ⟨_, rfl, _, _, _, _, rfl, TyOf.int _, kit_int_int _, true, rfl, snocF rfl, sm⟩
  refine ⟨r, (List.range (ns.map V.int).length).map (fun _ => false), rfl, ?_, ?_⟩
  · rw [← mapBl]
    exact SqL.of upd_same
  rw [any_false]
  refine ⟨false, rfl, iteF ?_⟩
  have sm1 := sm.trans (same_new hr' (.lst ((List.range (ns.map V.int).length).map fun _ => V.bl false)))
  refine ⟨_, rfl, a, rfl, ⟨_, (h1.same sm1).sq⟩, ?_⟩
  refine comp_list (h1.same sm1).sq (fun i => V.bl (decide (0 ≤ gt ns i) && decide (gt ns i < p))) (by rw [List.length_map]; exact small (by omega)) (fun i x H2 hx sm2 => ?_) (fun H2 sm2 r2 hr2 => ?_)
  · obtain ⟨rfl, hi⟩ := at_int hx
    refine ⟨_, rfl, _, _, rfl, rfl, _, rfl, ?_⟩
    by_cases h0 : 0 ≤ gt ns i
    · refine iteTd h0 ⟨_, rfl, _, _, rfl, rfl, snocF ?_, sm2⟩
      show V.bl (decide (gt ns i < p)) = V.bl _
      rw [decide_eq_true h0, Bool.true_and]
    · refine iteFd h0 ⟨snocF ?_, sm2⟩
      rw [decide_eq_false h0, Bool.false_and]
  refine ⟨r2, (List.range (ns.map V.int).length).map (fun i => decide (0 ≤ gt ns i) && decide (gt ns i < p)), rfl, ?_, ?_⟩
  · rw [← mapBl]
    exact SqL.of upd_same
  show Q (.bl _) _
  rw [List.length_map, restsB_all]
  exact q _ ((sm1.trans sm2).trans (same_new hr2 _))
end
end Rr

set_option Elab.async false
set_option linter.all false
set_option maxRecDepth 100000
set_option maxHeartbeats 800000
namespace Rr
open PySem L2 RM
section
variable {P : Program} {w : World} {K : PySem.W.Frag} {mg : Str → Option Value} {base : Heap} {f g g2 g3 g4 g5 g6 : Addr} {fd gd gd2 gd3 gd4 gd5 gd6 : FuncData}
theorem scDraw : FnScope ["_law_cell", "_law_k", "_law_many", "_law_primes"] ["_law_cell", "_law_k", "_law_many"] (defScope lDraw) := ⟨rfl, rfl, rfl, by decide +kernel, rfl, by decide +kernel, by decide +kernel⟩
def primes16 : List Int := [1000003, 1000033, 1000037, 1000039, 1000081, 1000099, 1000117, 1000121, 1000133, 1000151, 1000159, 1000171, 1000183, 1000187, 1000193, 1000199]
theorem primes16_pos : ∀ j : Nat, j < 16 → 0 < gt primes16 j := by decide +kernel
/-- the written items of the tuple in a statement -/
def tupOf : Stmt → List Expr
  | .Assign _ (.Tuple es _ _) _ => es
  | .Return (some (.Subscript (.Tuple es _ _) _ _)) _ => es
  | _ => []
theorem draw_body : ∃ p' k tp pos b, defBody lDraw = [.Assign [.Name "_law_primes" p'] (.Tuple (tupOf ((defBody lDraw).getD 0 (.Pass ⟨0, 0, 0, 0⟩))) k tp) pos, b] ∧ b = (defBody lDraw).getD 1 (.Pass ⟨0, 0, 0, 0⟩) := ⟨_, _, _, _, _, rfl, rfl⟩
theorem draw_all : ((tupOf ((defBody lDraw).getD 0 (.Pass ⟨0, 0, 0, 0⟩))).all fun e => (constI e).isSome) = true := by kernel_rfl
theorem draw_vals : (tupOf ((defBody lDraw).getD 0 (.Pass ⟨0, 0, 0, 0⟩))).filterMap constI = primes16 := by kernel_rfl
theorem ok_draw (D : Def K mg "_law_draw" lDraw ["_law_cell", "_law_k", "_law_many"] f fd) : FnOk P w K mg base CX0 1 f fd ["_law_cell", "_law_k", "_law_many"] spDraw := by
  refine D.F.ok scDraw (fun vs H Q E h => ?_) (fun cdv A outer s H vs Q E hr h => ?_)
  · obtain ⟨c, k, m, rfl, _⟩ := h
    rfl
  obtain ⟨c, k, m, rfl, hm, q⟩ := h
  obtain ⟨p', kk, tp, pos, b, eb, e2⟩ := draw_body
  have hall := draw_all
  have hval := draw_vals
  rw [eb]
  clear eb
  generalize tupOf ((defBody lDraw).getD 0 (.Pass ⟨0, 0, 0, 0⟩)) = es at hall hval ⊢
  subst e2
  refine ⟨_, pss_cons (ps_set (i := 3) scDraw.nd rfl (Or.inl rfl) (pe_tup (pa_consts hall)))
    (pss_one (ps_ret (pe_op op_mod (pe_op op_mod (pe_op op_add (pe_op op_mul (pv 0) pint) (pe_op op_mul (pv 1) pint)) (pe_ix ix_tup (pv 3) (pe_op op_mod (pv 1) pint) (fun _ _ => rfl))) (pv 2)))), ?_⟩
  rw [hval]
  refine ⟨(by show 16 ≤ sizeLine; decide), fun t ht => ?_⟩
  have hk : k % 16 < 16 := Nat.mod_lt _ (by decide)
  refine ⟨_, rfl, _, _, rfl, rfl, .inr ⟨by omega, by omega⟩, _, rfl, _, _, rfl, rfl, .inr ⟨by omega, by omega⟩, _, _, rfl, rfl, _, rfl, _, rfl, _, _, rfl, rfl, (by show (0 : Int) < 16; decide), ?_⟩
  refine ⟨t, primes16.map V.int, _, _, rfl, rfl, SqT.of upd_same, atI_int (k := k % 16) (by omega) hk, _, _, rfl, rfl, primes16_pos _ hk, _, rfl, _, _, rfl, rfl, hm, ?_⟩
  have r := mod_rest (a := (c * 48271 + (k : Int) * 69621) % gt primes16 (k % 16)) hm
  exact q _ _ r.1 r.2 (same_new ht _)
theorem scPrimeL : FnScope ["_law_script"] ["_law_script"] (defScope lPrime) := ⟨rfl, rfl, rfl, by decide +kernel, rfl, by decide +kernel, by decide +kernel⟩
def primes10 : List Int := [2, 3, 2, 5, 7, 2, 997, 11, 31, 3]
theorem primes10_of : ∀ j : Nat, j < 10 → gt primes10 j = 2 ∨ gt primes10 j = 3 ∨ gt primes10 j = 5 ∨ gt primes10 j = 7 ∨ gt primes10 j = 11 ∨ gt primes10 j = 31 ∨ gt primes10 j = 997 := by decide +kernel
theorem prime_body : ∃ k tp pos pos2 idx, defBody lPrime = [.Return (some (.Subscript (.Tuple (tupOf ((defBody lPrime).getD 0 (.Pass ⟨0, 0, 0, 0⟩))) k tp) idx pos)) pos2] := ⟨_, _, _, _, _, rfl⟩
theorem prime_all : ((tupOf ((defBody lPrime).getD 0 (.Pass ⟨0, 0, 0, 0⟩))).all fun e => (constI e).isSome) = true := by kernel_rfl
theorem prime_vals : (tupOf ((defBody lPrime).getD 0 (.Pass ⟨0, 0, 0, 0⟩))).filterMap constI = primes10 := by kernel_rfl
/-- what stands in the brackets -/
def ixOf : Stmt → Expr
  | .Return (some (.Subscript _ i _)) _ => i
  | _ => .Constant .none 0 ⟨0, 0, 0, 0⟩
theorem prime_ix {k : Nat} {tp pos pos2 : Pos} {idx : Expr} {es : List Expr} (h : defBody lPrime = [.Return (some (.Subscript (.Tuple es k tp) idx pos)) pos2]) : idx = ixOf ((defBody lPrime).getD 0 (.Pass ⟨0, 0, 0, 0⟩)) := by
  rw [h]
  rfl
theorem ok_primeL (D : Def K mg "_law_prime" lPrime ["_law_script"] f fd) (DC : Def K mg "_law_cell_at" lCell ["_law_script", "_law_k"] g gd) (GC : FnOk P w K mg base CX0 1 g gd ["_law_script", "_law_k"] (spCell K))
    (DD : Def K mg "_law_draw" lDraw ["_law_cell", "_law_k", "_law_many"] g2 gd2) (GD : FnOk P w K mg base CX0 1 g2 gd2 ["_law_cell", "_law_k", "_law_many"] spDraw) : FnOk P w K mg base CX0 2 f fd ["_law_script"] (spPrimeL K) := by
  refine D.F.ok scPrimeL (fun vs H Q E h => ?_) (fun cdv A outer s H vs Q E hr h => ?_)
  · obtain ⟨a, ns, rfl, _⟩ := h
    rfl
  obtain ⟨a, ns, rfl, h1, hl, q⟩ := h
  obtain ⟨kk, tp, pos, pos2, idx, eb⟩ := prime_body
  have hall := prime_all
  have hval := prime_vals
  have ei := prime_ix eb
  rw [eb]
  clear eb
  generalize tupOf ((defBody lPrime).getD 0 (.Pass ⟨0, 0, 0, 0⟩)) = es at hall hval ⊢
  subst ei
  refine ⟨_, pss_one (ps_ret (pe_ix ix_tup (pe_tup (pa_consts hall))
    (pcall DD GD hr (pa_cons (pcall DC GC hr (pa_cons (pv 0) (pa_cons pint pa_nil))) (pa_cons pint (pa_cons pint pa_nil)))) (fun _ _ => rfl))), ?_⟩
  rw [hval]
  refine ⟨(by show 10 ≤ sizeLine; decide), fun t ht => ?_⟩
  have sm1 := same_new ht (.tup [.int 2, .int 3, .int 2, .int 5, .int 7, .int 2, .int 997, .int 11, .int 31, .int 3])
  refine ⟨_, rfl, a, ns, 0, rfl, sm1.seq h1, hl, _, 6, 10, rfl, by decide, fun v H' h0 h2 sm => ?_⟩
  refine ⟨t, primes10.map V.int, _, _, rfl, rfl, SqT.of (sm _ _ upd_same), atI_int (k := v.toNat) (by omega) (by show v.toNat < 10; omega), ?_⟩
  exact q _ _ (primes10_of _ (by omega)) (sm1.trans sm)
end
end Rr

set_option Elab.async false
set_option linter.all false
set_option maxRecDepth 100000
set_option maxHeartbeats 800000
namespace Rr
open PySem L2 RM
theorem ixN_nat {n j : Nat} {k : Int} (hk : k = (j : Int)) (h : j < n) : ixN n k = some j := by
  subst hk
  unfold ixN
  rw [if_pos (by omega), if_pos (by omega)]
  simp
theorem map_set {l : List Int} {j : Nat} {x : Int} : (l.map V.int).set j (.int x) = (l.set j x).map V.int := by
  rw [List.map_set]
theorem Rests.set {p : Int} {l : List Int} {j : Nat} {x : Int} (h : RM.Rests p l) (hx : 0 ≤ x ∧ x < p) : RM.Rests p (l.set j x) := fun y hy => by
  rcases List.mem_or_eq_of_mem_set hy with z | z
  · exact h y z
  · rw [z]; exact hx
def four : List Int := [0, 0, 0, 2]
theorem four_le : ∀ j : Nat, j < 4 → 0 ≤ gt four j ∧ gt four j ≤ 2 := by decide +kernel
section
variable {P : Program} {w : World} {K : PySem.W.Frag} {mg : Str → Option Value} {base : Heap} {f g g2 g3 g4 g5 g6 : Addr} {fd gd gd2 gd3 gd4 gd5 gd6 : FuncData}
theorem scRow : FnScope ["_law_script", "_law_prime_here", "_law_kind", "_law_many", "_law_drawn", "_law_rule", "_law_place"] ["_law_script", "_law_prime_here"] (defScope lRow) := ⟨rfl, rfl, rfl, by decide +kernel, rfl, by decide +kernel, by decide +kernel⟩
theorem ok_row (D : Def K mg "_law_row" lRow ["_law_script", "_law_prime_here"] f fd) (o : Own mg) (DC : Def K mg "_law_cell_at" lCell ["_law_script", "_law_k"] g gd) (GC : FnOk P w K mg base CX0 1 g gd ["_law_script", "_law_k"] (spCell K))
    (DD : Def K mg "_law_draw" lDraw ["_law_cell", "_law_k", "_law_many"] g2 gd2) (GD : FnOk P w K mg base CX0 1 g2 gd2 ["_law_cell", "_law_k", "_law_many"] spDraw)
    (DR : Def K mg "_law_rests" lRests ["_law_script", "_law_by", "_law_prime_here", "_law_many"] g3 gd3) (GR : FnOk P w K mg base CX0 2 g3 gd3 ["_law_script", "_law_by", "_law_prime_here", "_law_many"] (spRests K))
    (DU : Def K mg "_law_due" lDue ["_law_prime_here", "_law_rule", "_law_row_here", "_law_place"] g4 gd4) (GU : FnOk P w K mg base CX0 1 g4 gd4 ["_law_prime_here", "_law_rule", "_law_row_here", "_law_place"] spDue) :
    FnOk P w K mg base CX0 3 f fd ["_law_script", "_law_prime_here"] (spRow K) := by
  refine D.F.ok scRow (fun vs H Q E h => ?_) (fun cdv A outer s H vs Q E hr h => ?_)
  · obtain ⟨a, ns, p, rfl, _⟩ := h
    rfl
  obtain ⟨a, ns, p, rfl, h1, hl, pr, q⟩ := h
  have hp := pr.pos
  refine ⟨_, pss_cons (ps_par (i := 2) (j := 3) rfl scRow.nd rfl rfl (by decide) rfl rfl (pa_cons (pcall DD GD hr (pa_cons (pcall DC GC hr (pa_cons (pv 0) (pa_cons pint pa_nil))) (pa_cons pint (pa_cons pint pa_nil)))) (pa_cons (plen o (pv 0)) pa_nil)) (by kernel_rfl))
    (pss_cons (ps_set (i := 4) scRow.nd rfl (Or.inl rfl) (pcall DR GR hr (pa_cons (pv 0) (pa_cons pint (pa_cons (pv 1) (pa_cons (pv 3) pa_nil))))))
    (pss_cons (ps_if (pt_cmpR op_eq (pv 2) pint (nomark _)) (pss_one (ps_ret (pe_comp ["_law_k", "_law_number"] [0] rfl (pi_enum rfl o.enumerate (pa_cons (pv 4) pa_nil)) (fun cl C s₂ H₂ fp => pgp) (gk_pair (by decide) (by decide))
        (fun cl C s₂ H₂ fp => pe_ifExp (pt_cmpR op_eq (pcall DD GD hr (pa_cons (pe_ix (ixK (K := K) rfl) (pv 2) (pv 0) (fun _ _ => rfl)) (pa_cons pint (pa_cons pint pa_nil)))) pint (nomark _)) (pv 1) pint)))) pss_nil)
    (pss_cons (ps_if (pt_cmpR op_lt (pv 2) pint (nomark _))
      (pss_cons (ps_set (i := 5) scRow.nd rfl (Or.inl rfl) (pcall DR GR hr (pa_cons (pe_slice sl_list (pv 0) (po_some pint) po_none) (pa_cons pint (pa_cons (pv 1) (pa_cons (pe_op op_add pint (pcall DD GD hr (pa_cons (pcall DC GC hr (pa_cons (pv 0) (pa_cons pint pa_nil))) (pa_cons pint (pa_cons pint pa_nil))))) pa_nil))))))
      (pss_one (ps_for PassesOwn.never rfl (pi_range2 rfl o.range (pa_cons (plen o (pv 5)) (pa_cons (pe_op op_sub (pv 3) (pe_ix ix_tup (pe_tup (pa_cons pint (pa_cons pint (pa_cons pint (pa_cons pint pa_nil))))) (pv 2) (fun _ _ => rfl))) pa_nil))) (pgn 6)
        (pss_one (ps_asg (pcall DU GU hr (pa_cons (pv 1) (pa_cons (pv 5) (pa_cons (pv 4) (pa_cons (pv 6) pa_nil))))) (pg_sub (pv 4) (pv 6) set_list))))))
      pss_nil)
    (pss_one (ps_ret (pv 4)))))), ?_⟩
  refine ⟨_, rfl, a, ns, 1, rfl, h1, hl, gt ns 1, 7, 5, rfl, by decide, fun kind H1 k0 k5 s1 => ?_⟩
  refine ⟨_, rfl, a, _, rfl, .inl (s1.seq h1), _, _, rfl, ?_⟩
  rw [List.length_map]
  refine ⟨_, rfl, _, rfl, _, rfl, a, ns, 1, p, ns.length, rfl, s1.seq h1, hl, hp, by omega, fun d H2 l s2 nd hd hR hL => ?_⟩
  have s12 := s1.trans s2
  refine ⟨_, rfl, rfl, _, rfl, ?_⟩
  by_cases hk0 : kind = 0
  · subst hk0
    refine iteTd rfl ?_
    refine ⟨_, rfl, d, rfl, ⟨_, Rd.of hd⟩, ?_⟩
    refine ⟨l.length, fun i ys H' => ∃ l' : List Int, ys = l'.map V.int ∧ l'.length = i ∧ Rests p l' ∧ Same H2 H', small (by omega), ⟨[], rfl, rfl, Rests.nil, Same.refl _⟩, fun i ys H' hi hl' wi => ?_, fun ys H' hl' wi => ?_⟩
    · obtain ⟨l', rfl, hl2, hR', sm⟩ := wi
      have hx : (l.map V.int)[i]? = some (.int (gt l i)) := by rw [List.getElem?_map, List.getElem?_eq_getElem hi, gt_lt hi]; rfl
      refine ⟨⟨_, _, (hd.same sm).sq, hx⟩, fun x H3 y => ?_⟩
      obtain ⟨t, nt, e1, e2⟩ := y
      have e3 := e2 _ _ (hd.same sm).sq hx
      subst e1 e3
      have s3 := sm.trans (same_new nt (.tup [.int i, .int (gt l i)]))
      refine pair_go upd_same ?_
      refine ⟨_, rfl, _, rfl, a, _, _, _, rfl, rfl, (s12.trans s3).seq h1, atI_int (k := i) rfl (by omega), gt ns i, 9, 5, rfl, by decide, fun v H4 v0 v5 s4 => ?_⟩
      refine ⟨rfl, _, rfl, ite2 (fun _ => ?_) (fun _ => ?_)⟩
      · exact ⟨_, rfl, l' ++ [gt l i], by rw [List.map_append]; rfl, by rw [List.length_append, hl2]; rfl, hR'.app (.one (hR.at hp i)), s3.trans s4⟩
      · exact ⟨l' ++ [0], by rw [List.map_append]; rfl, by rw [List.length_append, hl2]; rfl, hR'.app (.one ⟨by omega, hp⟩), s3.trans s4⟩
    · obtain ⟨l', rfl, hl2, hR', sm⟩ := wi
      refine ⟨⟨_, (hd.same sm).sq, by rw [List.length_map]; exact Nat.le_refl _⟩, fun r nr => ?_⟩
      exact q r _ l' ((s12.trans sm).trans (same_new nr _)) ((s12.trans sm).free nr) (Ls.new rfl) hR' (by omega)
  refine iteFd (fun z => hk0 (by injection z)) ?_
  refine ⟨_, rfl, _, _, rfl, rfl, _, rfl, ?_⟩
  by_cases hk4 : kind < 4
  · refine iteTd hk4 ?_
    refine ⟨_, rfl, _, rfl, a, _, rfl, s12.seq h1, fun c nc => ?_⟩
    rw [show cutV (ns.map V.int) (some 1) none = (ns.drop 1).map V.int from cut_fromA (lo := 1)]
    have s3 := same_new nc (.lst ((ns.drop 1).map V.int))
    refine ⟨_, rfl, _, rfl, a, ns, 2, rfl, (s12.trans s3).seq h1, hl, gt ns 2, 8, 6, rfl, by decide, fun v H4 v0 v6 s4 => ?_⟩
    refine ⟨_, _, rfl, rfl, c, ns.drop 1, 3, p, (1 + v).toNat, congrArg (fun z => [V.ref c, V.int 3, V.int p, V.int z]) (by omega), s4.seq (SqL.of upd_same), by rw [List.length_drop]; omega, hp, by omega, fun rl H5 rule s5 nrl hrl hRr hLr => ?_⟩
    have s25 := (s3.trans s4).trans s5
    have hd5 : Ls H5 d l := hd.same s25
    have nerl : rl ≠ d := fun z => by
      subst z
      have := (s3.trans s4) _ _ hd
      rw [nrl] at this
      cases this
    have hkn : kind.toNat < 4 := by omega
    refine ⟨_, rfl, rl, _, rfl, .inl hrl.sq, _, rfl, (by show 4 ≤ sizeLine; decide), fun t nt => ?_⟩
    have s6 := same_new nt (.tup [.int 0, .int 0, .int 0, .int 2])
    refine ⟨_, rfl, t, four.map V.int, _, _, rfl, rfl, SqT.of upd_same, atI_int (k := kind.toNat) (by omega) hkn, _, _, rfl, rfl, _, _, rfl, ?_⟩
    have f4 := four_le _ hkn
    rw [List.length_map]
    refine ⟨⟨by omega, by omega, by omega, by omega⟩, for_range (fun i σ Hw => ∃ lw x, σ = [some (.ref a), some (.int p), some (.int kind), some (.int ns.length), some (.ref d), some (.ref rl), x] ∧ Same H Hw ∧ Ls Hw d lw ∧ Ls Hw rl rule ∧ Rests p lw ∧ lw.length = ns.length)
      ⟨l, none, rfl, (s12.trans s25).trans s6, hd5.same s6, hrl.same s6, hR, hL⟩ ?_ ?_⟩
    · rintro i σ Hw hi ⟨lw, x, rfl, sw, hdw, hrw, hRw, hLw⟩
      have ei : (rule.length : Int) + (i : Int) = ((rule.length + i : Nat) : Int) := by omega
      have hin : rule.length + i < ns.length := by omega
      refine ⟨_, rfl, _, rfl, _, rfl, _, rfl, p, rl, d, rule, lw, rule.length + i, congrArg (fun z => [V.int p, V.ref rl, V.ref d, V.int z]) ei, hrw, hdw, ⟨pr, hRr, hRw, by omega, by omega⟩, by omega, by omega, fun H7 s7 => ?_⟩
      refine ⟨_, rfl, _, rfl, d, _, _, rule.length + i, rfl, rfl, hdw.same s7, ixN_nat ei (by rw [List.length_map]; omega), lw.set (rule.length + i) (dueN p rule lw (rule.length + i)), _, rfl, ?_, Ls.new map_set, ?_, Rests.set hRw (dueN_rest hp _ _ _), by rw [List.length_set]; exact hLw⟩
      · exact sput (sw.trans s7) (s1.free nd)
      · show upd H7 d _ rl = _
        rw [upd_ne nerl]
        exact hrw.same s7
    · rintro σ Hw ⟨lw, x, rfl, sw, hdw, hrw, hRw, hLw⟩
      exact ⟨_, rfl, q d Hw lw sw (s1.free nd) hdw hRw hLw⟩
  · refine iteFd hk4 ⟨_, rfl, q d H2 l s12 (s1.free nd) hd hR hL⟩
end
end Rr

set_option Elab.async false
set_option linter.all false
set_option maxRecDepth 100000
set_option maxHeartbeats 800000
namespace Rr
open PySem L2 RM
section
variable {P : Program} {w : World} {K : PySem.W.Frag} {mg : Str → Option Value} {base : Heap} {f g g2 g3 g4 g5 g6 : Addr} {fd gd gd2 gd3 gd4 gd5 gd6 : FuncData}
theorem scInv : FnScope ["prime", "rest", "told", "power", "left"] ["prime", "rest"] (defScope sInv) := ⟨rfl, rfl, rfl, by decide +kernel, rfl, by decide +kernel, by decide +kernel⟩
theorem ok_inv (D : Def K mg "inverse" sInv ["prime", "rest"] f fd) : FnOk P w K mg base CX0 1 f fd ["prime", "rest"] spInv := by
  refine D.F.ok scInv (fun vs H Q E h => ?_) (fun cdv A outer s H vs Q E hr h => ?_)
  · obtain ⟨p, x, rfl, _⟩ := h
    rfl
  obtain ⟨p, x, rfl, hpp, hx0, hx1, q⟩ := h
  have hpp' := hpp
  unfold Seven at hpp
  refine ⟨_, pss_cons (ps_set (i := 2) scInv.nd rfl (Or.inl rfl) pint) (pss_cons (ps_set (i := 3) scInv.nd rfl (Or.inl rfl) (pv 1)) (pss_cons (ps_set (i := 4) scInv.nd rfl (Or.inl rfl) (pe_op op_sub (pv 0) pint))
    (pss_cons (ps_while PassesOwn.never (pt_cmpR op_gt (pv 4) pint (nomark _))
      (pss_cons (ps_if (pt_cmpR op_eq (pe_op op_mod (pv 4) pint) pint (nomark _)) (pss_one (ps_set (i := 2) scInv.nd rfl (Or.inl rfl) (pe_op op_mod (pe_op op_mul (pv 2) (pv 3)) (pv 0)))) pss_nil)
      (pss_cons (ps_set (i := 3) scInv.nd rfl (Or.inl rfl) (pe_op op_mod (pe_op op_mul (pv 3) (pv 3)) (pv 0)))
      (pss_one (ps_set (i := 4) scInv.nd rfl (Or.inl rfl) (pe_op op_fdiv (pv 4) pint))))))
    (pss_one (ps_ret (pv 2)))))), ?_⟩
  have hp2 : 2 ≤ p ∧ p ≤ 997 := ⟨hpp'.ok.1, hpp'.ok.2.1⟩
  clear hpp'
  obtain ⟨n, rfl⟩ : ∃ n : Nat, p = (n : Int) := ⟨p.toNat, by omega⟩
  have hf := fermat (p := n) (by omega) hx0 hx1
  have hp : (0 : Int) < (n : Int) := by omega
  refine ⟨_, rfl, _, rfl, _, _, rfl, rfl, ?_⟩
  refine ⟨fun μ σ H' => H' = H ∧ ∃ (t y : Int) (l : Nat), σ = [some (.int n), some (.int x), some (.int t), some (.int y), some (.int l)] ∧ (0 ≤ t ∧ t < n) ∧ (0 ≤ y ∧ y < n) ∧ Cg n (t * y ^ l) (x ^ (n - 2)) ∧ μ = l,
    ⟨n - 2, rfl, 1, x, n - 2, ?_, by omega, by omega, (by rw [Int.one_mul]; exact Cg.refl _ _), rfl⟩, ?_⟩
  · show [some (V.int n), some (V.int x), some (V.int 1), some (V.int x), some (V.int ((n : Int) - 2))] = _
    rw [show (n : Int) - 2 = ((n - 2 : Nat) : Int) by omega]
  rintro l σ H' ⟨rfl, t, y, _, rfl, ht, hy, hc, rfl⟩
  refine ⟨_, rfl, _, _, rfl, rfl, _, rfl, ?_⟩
  by_cases hl : 0 < l
  · refine iteTd (by omega) ⟨_, fun σ' H' z => z, ?_⟩
    refine ⟨_, rfl, _, _, rfl, rfl, (by show (0 : Int) < 2; decide), rfl, _, rfl, ?_⟩
    have e2 : ((l : Int) / 2) = ((l / 2 : Nat) : Int) := by omega
    have step : ∀ t' : Int, (0 ≤ t' ∧ t' < n) → Cg n (t' * (y * y % n) ^ (l / 2)) (x ^ (n - 2)) → ∃ m', m' < l ∧ H' = H' ∧ ∃ (t : Int) (y' : Int) (l' : Nat), [some (V.int n), some (V.int x), some (V.int t'), some (V.int (y * y % n)), some (V.int ((l : Int) / 2))] = [some (V.int n), some (V.int x), some (V.int t), some (V.int y'), some (V.int l')] ∧ (0 ≤ t ∧ t < n) ∧ (0 ≤ y' ∧ y' < n) ∧ Cg n (t * y' ^ l') (x ^ (n - 2)) ∧ m' = l' :=
      fun t' h1 h2 => ⟨l / 2, by omega, rfl, t', y * y % n, l / 2, by rw [e2], h1, mod_rest hp, h2, rfl⟩
    have hpow : Cg n ((y * y % n) ^ (l / 2)) ((y * y) ^ (l / 2)) := (Cg.emod _ _).pow _
    by_cases hb : l % 2 = 1
    · refine iteTd (congrArg V.int (by omega)) ?_
      refine ⟨_, rfl, _, rfl, _, _, rfl, rfl, .inl ⟨by omega, by omega⟩, _, rfl, _, _, rfl, rfl, hp, ?_⟩
      refine ⟨_, rfl, _, rfl, _, _, rfl, rfl, .inl ⟨by omega, by omega⟩, _, rfl, _, _, rfl, rfl, hp, ?_⟩
      refine ⟨_, rfl, _, _, rfl, rfl, ⟨by decide, by decide⟩, ?_⟩
      refine step _ (mod_rest hp) ?_
      refine ((Cg.emod _ _).mul hpow).trans ?_
      refine (Cg.of_eq ?_).trans hc
      rw [pow_half y l, hb, Int.pow_succ, Int.pow_zero, Int.one_mul, Int.mul_assoc, Int.mul_comm y]
    · refine iteFd (fun z => ?_) ?_
      · have z' : V.int ((l : Int) % 2) = V.int 1 := z
        injection z' with z'
        omega
      refine ⟨_, rfl, _, rfl, _, _, rfl, rfl, .inl ⟨by omega, by omega⟩, _, rfl, _, _, rfl, rfl, hp, ?_⟩
      refine ⟨_, rfl, _, _, rfl, rfl, ⟨by decide, by decide⟩, ?_⟩
      refine step _ ht ?_
      refine ((Cg.refl _ _).mul hpow).trans ?_
      refine (Cg.of_eq ?_).trans hc
      rw [pow_half y l, show l % 2 = 0 by omega, Int.pow_zero, Int.mul_one]
  · refine iteFd (by omega) ⟨_, rfl, q t ht.1 ht.2 ?_⟩
    have : l = 0 := by omega
    subst this
    rw [Int.pow_zero, Int.mul_one] at hc
    exact ((Cg.refl _ x).mul hc).trans hf
end
end Rr

set_option Elab.async false
set_option linter.all false
set_option maxRecDepth 100000
set_option maxHeartbeats 800000
namespace Rr
open PySem L2 RM
theorem cut_to {ns : List Int} {hi : Nat} : cutV (ns.map V.int) none (some (hi : Int)) = (ns.take hi).map V.int := by
  unfold cutV
  rw [HT.sIx_nat, HT.sIx_none, List.length_map, Nat.sub_zero, List.drop_zero, ← List.map_take]
  congr 1
  rw [← List.take_eq_take_min]
section
variable {P : Program} {w : World} {K : PySem.W.Frag} {mg : Str → Option Value} {base : Heap} {f g g2 g3 g4 g5 g6 : Addr} {fd gd gd2 gd3 gd4 gd5 gd6 : FuncData}
theorem scFails : FnScope ["prime", "rule", "row", "place"] ["prime", "rule", "row", "place"] (defScope sFails) := ⟨rfl, rfl, rfl, by decide +kernel, rfl, by decide +kernel, by decide +kernel⟩
theorem ok_fails (D : Def K mg "fails_first_at" sFails ["prime", "rule", "row", "place"] f fd) (o : Own mg) (DD : Def K mg "due" sDue ["prime", "rule", "row", "place"] g gd) (GD : FnOk P w K mg base CX0 1 g gd ["prime", "rule", "row", "place"] spDue)
    (DM : Def K mg "makes" sMakes ["prime", "rule", "row"] g2 gd2) (GM : FnOk P w K mg base CX0 5 g2 gd2 ["prime", "rule", "row"] spMakes) : FnOk P w K mg base CX0 6 f fd ["prime", "rule", "row", "place"] spFails := by
  refine D.F.ok scFails (fun vs H Q E h => ?_) (fun cdv A outer s H vs Q E hr h => ?_)
  · obtain ⟨p, a, b, rule, row, pl, rfl, _⟩ := h
    rfl
  obtain ⟨p, a, b, rule, row, pl, rfl, h1, h2, rr, q⟩ := h
  refine ⟨_, pss_cons (ps_if (PW.pt (pw_or (pt_cmpR op_lt (pv 3) (plen o (pv 1)) (nomark _)) (pw_or1 (pt_cmpR op_ge (pv 3) (plen o (pv 2)) (nomark _))))) (pss_one (ps_ret pe_bl)) pss_nil)
    (pss_one (ps_ret (pe_and (pe_cmpR op_ne (pe_ix ix_list (pv 2) (pv 3) (fun _ _ => rfl)) (pcall DD GD hr (pa_cons (pv 0) (pa_cons (pv 1) (pa_cons (pv 2) (pa_cons (pv 3) pa_nil))))) (nomark _))
      (pe_one (pcall DM GM hr (pa_cons (pv 0) (pa_cons (pv 1) (pa_cons (pe_slice sl_list (pv 2) po_none (po_some (pv 3))) pa_nil)))))))), ?_⟩
  have l1 := rr.l1
  have l2 := rr.l2
  refine ⟨_, rfl, _, rfl, a, _, rfl, .inl h1.sq, _, _, rfl, rfl, _, rfl, ?_⟩
  rw [List.length_map]
  by_cases hlo : pl < (rule.length : Int)
  · refine iteTd hlo ?_
    have := q H (Same.refl _)
    rw [decide_eq_false (by omega : ¬ ((rule.length : Int) ≤ pl ∧ pl < row.length)), Bool.false_and] at this
    exact this
  refine iteFd hlo ?_
  refine ⟨_, rfl, _, rfl, b, _, rfl, .inl h2.sq, _, _, rfl, rfl, _, rfl, ?_⟩
  rw [List.length_map]
  by_cases hhi : pl ≥ (row.length : Int)
  · refine iteTd hhi ?_
    have := q H (Same.refl _)
    rw [decide_eq_false (by omega : ¬ ((rule.length : Int) ≤ pl ∧ pl < row.length)), Bool.false_and] at this
    exact this
  refine iteFd hhi ?_
  obtain ⟨n, rfl⟩ : ∃ n : Nat, pl = (n : Int) := ⟨pl.toNat, by omega⟩
  have q' : ∀ H', Same H H' → Q (.bl ((!(gt row n == dueN p rule row n)) && makesN p rule (row.take n))) H' := fun H' s => by
    have := q H' s
    rw [decide_eq_true (by omega : (rule.length : Int) ≤ (n : Int) ∧ (n : Int) < row.length), Bool.true_and] at this
    exact this
  refine ⟨_, rfl, _, rfl, b, _, _, _, rfl, rfl, h2.sq, atI_int rfl (by omega), ?_⟩
  refine ⟨_, rfl, _, rfl, _, rfl, _, rfl, p, a, b, rule, row, n, rfl, h1, h2, rr, by omega, by omega, fun H1 s1 => ?_⟩
  refine ⟨rfl, _, rfl, ?_⟩
  by_cases hc : gt row n = dueN p rule row n
  · refine iteNd (by rw [hc]) ?_
    have := q' H1 s1
    rw [hc, beq_self_eq_true] at this
    exact this
  refine iteYd (fun z => hc (by injection z)) ?_
  refine ⟨_, rfl, _, rfl, _, rfl, _, rfl, _, rfl, b, _, rfl, (h2.same s1).sq, fun c nc => ?_⟩
  rw [cut_to]
  have s2 := s1.trans (same_new nc (.lst ((row.take n).map V.int)))
  refine ⟨p, a, c, rule, row.take n, rfl, h1.same s2, upd_same, ⟨rr.pr, rr.r1, rr.r2.take _, rr.l1, by rw [List.length_take]; omega⟩, fun H3 s3 => ?_⟩
  have := q' H3 (s2.trans s3)
  rw [show (gt row n == dueN p rule row n) = false from beq_eq_false_iff_ne.mpr hc] at this
  exact this
theorem scIsLeast : FnScope ["prime", "row", "rule", "shorter", "place"] ["prime", "row", "rule", "shorter", "place"] (defScope sIsLeast) := ⟨rfl, rfl, rfl, by decide +kernel, rfl, by decide +kernel, by decide +kernel⟩
theorem ok_isLeast (D : Def K mg "is_least" sIsLeast ["prime", "row", "rule", "shorter", "place"] f fd) (o : Own mg) (DA : Def K mg "are_rests" sAre ["prime", "value"] g gd) (GA : FnOk P w K mg base CX0 3 g gd ["prime", "value"] spAreB)
    (DW : Def K mg "is_whole" sWhole ["value"] g2 gd2) (GW : FnOk P w K mg base CX0 1 g2 gd2 ["value"] spWhole) (DM : Def K mg "makes" sMakes ["prime", "rule", "row"] g3 gd3) (GM : FnOk P w K mg base CX0 5 g3 gd3 ["prime", "rule", "row"] spMakes)
    (DF : Def K mg "fails_first_at" sFails ["prime", "rule", "row", "place"] g4 gd4) (GF : FnOk P w K mg base CX0 6 g4 gd4 ["prime", "rule", "row", "place"] spFails) : FnOk P w K mg base CX0 7 f fd ["prime", "row", "rule", "shorter", "place"] spIsLeast := by
  refine D.F.ok scIsLeast (fun vs H Q E h => ?_) (fun cdv A outer s H vs Q E hr h => ?_)
  · obtain ⟨p, b, a, c, row, rule, shorter, pl, rfl, _⟩ := h
    rfl
  obtain ⟨p, b, a, c, row, rule, shorter, pl, rfl, hb, ha, hc, lr, q⟩ := h
  refine ⟨_, pss_cons (ps_if (PW.pt (pw_or (pt_not (pt_val (pcall DA GA hr (pa_cons (pv 0) (pa_cons (pv 2) pa_nil))))) (pw_or (pt_not (pt_val (pcall DA GA hr (pa_cons (pv 0) (pa_cons (pv 3) pa_nil))))) (pw_or1 (pt_not (pt_val (pcall DW GW hr (pa_cons (pv 4) pa_nil)))))))) (pss_one (ps_ret pe_bl)) pss_nil)
    (pss_cons (ps_if (pt_not (pt_val (pcall DM GM hr (pa_cons (pv 0) (pa_cons (pv 2) (pa_cons (pv 1) pa_nil)))))) (pss_one (ps_ret pe_bl)) pss_nil)
    (pss_cons (ps_if (pt_cmpR op_eq (plen o (pv 2)) pint (nomark _)) (pss_one (ps_ret (pe_and (pe_cmpR op_eq (plen o (pv 3)) pint (nomark _)) (pe_one (pe_cmpR op_eq (pv 4) (pe_un un_neg pint) (nomark _)))))) pss_nil)
    (pss_cons (ps_if (PW.pt (pw_or (pt_cmpR op_ge (plen o (pv 3)) (plen o (pv 2)) (nomark _)) (pw_or1 (pt_cmpR op_ne (pe_op op_add (plen o (pv 2)) (plen o (pv 3))) (pe_op op_add (pv 4) pint) (nomark _))))) (pss_one (ps_ret pe_bl)) pss_nil)
    (pss_one (ps_ret (pcall DF GF hr (pa_cons (pv 0) (pa_cons (pv 3) (pa_cons (pv 1) (pa_cons (pv 4) pa_nil)))))))))), ?_⟩
  have l1 := lr.l1
  have l2 := lr.l2
  have l3 := lr.l3
  refine ⟨_, rfl, _, rfl, p, a, rule, rfl, ha, _, rfl, ?_⟩
  cases e1 : restsB p rule with
  | false =>
    refine iteT ?_
    have := q H (Same.refl _)
    rw [leastB_r1 e1] at this
    exact this
  | true =>
  refine iteF ?_
  refine ⟨_, rfl, _, rfl, p, c, shorter, rfl, hc, _, rfl, ?_⟩
  cases e2 : restsB p shorter with
  | false =>
    refine iteT ?_
    have := q H (Same.refl _)
    rw [leastB_r2 e2] at this
    exact this
  | true =>
  refine iteF ?_
  refine ⟨_, rfl, pl, rfl, _, rfl, iteF ?_⟩
  refine ⟨_, rfl, _, rfl, _, rfl, p, a, b, rule, row, rfl, ha, hb, ⟨lr.pr, restsB_iff.mp e1, lr.r, lr.l2, lr.l1⟩, fun H1 s1 => ⟨_, rfl, ?_⟩⟩
  cases e3 : makesN p rule row with
  | false =>
    refine iteT ?_
    have := q H1 s1
    rw [leastB_mk e3] at this
    exact this
  | true =>
  refine iteF ?_
  have ha := ha.same s1
  have hb := hb.same s1
  have hc := hc.same s1
  refine ⟨_, rfl, a, _, rfl, .inl ha.sq, rfl, _, rfl, ?_⟩
  rw [List.length_map]
  by_cases hz : rule.length = 0
  · refine iteTd (by rw [hz]; rfl) ?_
    have q1 := q H1 s1
    rw [leastB_nil e1 e2 e3 hz] at q1
    refine ⟨_, rfl, c, _, rfl, .inl hc.sq, rfl, _, rfl, ?_⟩
    rw [List.length_map]
    by_cases hz2 : shorter.length = 0
    · refine iteTd (by rw [hz2]; rfl) ⟨_, rfl, _, rfl, rfl, ?_⟩
      rw [decide_eq_true hz2, Bool.true_and] at q1
      show Q (.bl (decide (V.int pl = V.int (-1)))) H1
      rw [dec_int]
      exact q1
    · refine iteFd (fun z => hz2 (by have z' : V.int (shorter.length : Int) = V.int 0 := z; injection z' with z'; omega)) ?_
      rw [decide_eq_false hz2, Bool.false_and] at q1
      exact q1
  refine iteFd (fun z => hz (by have z' : V.int (rule.length : Int) = V.int 0 := z; injection z' with z'; omega)) ?_
  refine ⟨_, rfl, c, _, rfl, .inl hc.sq, _, rfl, a, _, rfl, .inl ha.sq, _, _, rfl, rfl, _, rfl, ?_⟩
  rw [List.length_map, List.length_map]
  by_cases hge : (shorter.length : Int) ≥ (rule.length : Int)
  · refine iteTd hge ?_
    have := q H1 s1
    rw [leastB_ge hz (by omega)] at this
    exact this
  refine iteFd hge ?_
  refine ⟨_, rfl, a, _, rfl, .inl ha.sq, _, rfl, c, _, rfl, .inl hc.sq, _, _, rfl, rfl, _, rfl, _, _, rfl, rfl, rfl, _, rfl, ?_⟩
  rw [List.length_map, List.length_map]
  by_cases hs : (rule.length : Int) + shorter.length = pl + 1
  · refine iteNd (congrArg V.int hs) ?_
    refine ⟨_, rfl, _, rfl, _, rfl, _, rfl, p, c, b, shorter, row, pl, rfl, hc, hb, ⟨lr.pr, restsB_iff.mp e2, lr.r, lr.l3, lr.l1⟩, fun H2 s2 => ?_⟩
    have := q H2 (s1.trans s2)
    rw [leastB_last e1 e2 e3 hz (by omega) hs] at this
    exact this
  · refine iteYd (fun z => hs (by have z' : V.int ((rule.length : Int) + shorter.length) = V.int (pl + 1) := z; injection z')) ?_
    have := q H1 s1
    rw [least_not hs] at this
    exact this
theorem scSole : FnScope ["rule", "row"] ["rule", "row"] (defScope sSole) := ⟨rfl, rfl, rfl, by decide +kernel, rfl, by decide +kernel, by decide +kernel⟩
theorem ok_sole (D : Def K mg "is_sole" sSole ["rule", "row"] f fd) (o : Own mg) : FnOk P w K mg base CX0 1 f fd ["rule", "row"] spSole := by
  refine D.F.ok scSole (fun vs H Q E h => ?_) (fun cdv A outer s H vs Q E hr h => ?_)
  · obtain ⟨a, b, rule, row, rfl, _⟩ := h
    rfl
  obtain ⟨a, b, rule, row, rfl, ha, hb, l1, l2, q⟩ := h
  refine ⟨_, pss_one (ps_ret (pe_cmpR op_le (pe_op op_mul pint (plen o (pv 0))) (plen o (pv 1)) (nomark _))), ?_⟩
  refine ⟨_, rfl, a, _, rfl, .inl ha.sq, _, _, rfl, rfl, .inl ⟨by decide, by decide⟩, _, rfl, b, _, rfl, .inl hb.sq, _, _, rfl, rfl, ?_⟩
  rw [List.length_map, List.length_map]
  exact q
end
end Rr

set_option Elab.async false
set_option linter.all false
set_option maxRecDepth 100000
set_option maxHeartbeats 800000
namespace Rr
open PySem L2 RM
abbrev sInitL : Stmt := inClass cLeast 0
abbrev sShowsL : Stmt := inClass cLeast 1
section
variable {P : Program} {w : World} {K : PySem.W.Frag} {mg : Str → Option Value} {base : Heap} {f g g2 g3 C : Addr} {fd gd gd2 gd3 : FuncData}
theorem scInitL : FnScope ["self", "rule", "shorter", "place"] ["self", "rule", "shorter", "place"] (defScope sInitL) := ⟨rfl, rfl, rfl, by decide +kernel, rfl, by decide +kernel, by decide +kernel⟩
theorem ok_initL (F : Fun K "__init__" "Least.__init__" sInitL f fd) (o : Own mg) (c : Cl3 K C) : FnOk P w K mg base CX0 1 f fd ["self", "rule", "shorter", "place"] (spInit3 C) := by
  refine F.ok scInitL (fun vs H Q E h => ?_) (fun cdv A outer s H vs Q E hr h => ?_)
  · obtain ⟨x, a, d, pl, dx, rule, shorter, rfl, _⟩ := h
    rfl
  obtain ⟨x, a, d, pl, dx, rule, shorter, rfl, hx, h1, h2, q⟩ := h
  refine ⟨_, pss_cons (ps_fld (pv 0) (pe_callTy call_list_of rfl o.list boot_listT (pa_cons (pv 1) pa_nil)) rfl)
    (pss_cons (ps_fld (pv 0) (pe_callTy call_list_of rfl o.list boot_listT (pa_cons (pv 2) pa_nil)) rfl)
    (pss_one (ps_fld (pv 0) (pv 3) rfl))), ?_⟩
  refine ⟨_, rfl, a, _, rfl, .inl h1.sq, fun r nr => ?_⟩
  have nxr : x ≠ r := ne_of_none hx nr
  refine ⟨_, rfl, x, C, dx, _, rfl, (by rw [upd_ne nxr]; exact hx), c.cl, c.r, (by show 0 < 1000; decide), ?_⟩
  have ndx : d ≠ x := ne_of h2 hx (by intro z; cases z)
  have ndr : d ≠ r := ne_of_none h2 nr
  refine ⟨_, rfl, d, _, rfl, .inl (Ls.sq (ns := shorter) (by unfold Ls; rw [upd_ne ndx, upd_ne ndr]; exact h2)), fun t nt => ?_⟩
  have ntx : t ≠ x := fun z => by rw [z, upd_same] at nt; cases nt
  rw [upd_ne ntx] at nt
  have ntr : t ≠ r := fun z => by rw [z, upd_same] at nt; cases nt
  rw [upd_ne ntr] at nt
  refine ⟨_, rfl, x, C, dx, _, rfl, (by rw [upd_ne ntx.symm]; exact upd_same), c.cl, c.s, (by have := length_putF "rule" (.ref r) []; simp at this; omega), ?_⟩
  refine ⟨_, rfl, _, rfl, x, C, dx, _, rfl, upd_same, c.cl, c.p, (by have := length_putF "shorter" (.ref t) (putF "rule" (.ref r) []); have := length_putF "rule" (.ref r) []; simp at this; omega), ?_⟩
  refine q r t _ nr nt ⟨⟨dx, upd_same⟩, ?_, ?_, ntr.symm⟩ fun b u nb e => ?_
  · unfold Ls
    rw [upd_ne nxr.symm, upd_ne nxr.symm, upd_ne ntr.symm, upd_ne nxr.symm, upd_same]
  · unfold Ls
    rw [upd_ne ntx, upd_ne ntx, upd_same]
  · rw [upd_ne nb, upd_ne nb, upd_ne (ne_of_none e nt), upd_ne nb, upd_ne (ne_of_none e nr)]
    exact e
theorem scShowsL : FnScope ["self", "prime", "row"] ["self", "prime", "row"] (defScope sShowsL) := ⟨rfl, rfl, rfl, by decide +kernel, rfl, by decide +kernel, by decide +kernel⟩
theorem ok_showsL (F : Fun K "shows" "Least.shows" sShowsL f fd) (c : Cl3 K C) (DI : Def K mg "is_least" sIsLeast ["prime", "row", "rule", "shorter", "place"] g gd) (GI : FnOk P w K mg base CX0 7 g gd ["prime", "row", "rule", "shorter", "place"] spIsLeast) : FnOk P w K mg base CX0 8 f fd ["self", "prime", "row"] (spShows C) := by
  refine F.ok scShowsL (fun vs H Q E h => ?_) (fun cdv A outer s H vs Q E hr h => ?_)
  · obtain ⟨x, p, b, r, t, row, rule, shorter, pl, rfl, _⟩ := h
    rfl
  obtain ⟨x, p, b, r, t, row, rule, shorter, pl, rfl, ⟨⟨dx, hx⟩, h1, h2, _⟩, hb, lr, q⟩ := h
  refine ⟨_, pss_one (ps_ret (PE.tag (pcall DI GI hr (pa_cons (pv 1) (pa_cons (pv 2) (pa_cons (pe_fld (pv 0) rfl) (pa_cons (pe_fld (pv 0) rfl) (pa_cons (pe_fld (pv 0) rfl) pa_nil)))))))), ?_⟩
  exact call5 hx c.cl c.r c.s c.p flds3_r flds3_s flds3_p rfl rfl rfl hb h1 h2 lr q
end
/-! ### a new answer, as the caller sees it -/
theorem make_same {H : Hp} {x dx C : Addr} (nx : H x = none) (ndx : H dx = none) : Same H (upd (upd H dx (.own x)) x (.ins C dx [])) := fun b o e => by
  rw [upd_ne (ne_of_none e nx), upd_ne (ne_of_none e ndx)]
  exact e
theorem made_same {H H' : Hp} {x dx C : Addr} (nx : H x = none) (ndx : H dx = none) (h : ∀ b o, b ≠ x → (upd (upd H dx (.own x)) x (.ins C dx [])) b = some o → H' b = some o) : Same H H' := fun b o e =>
  h b o (ne_of_none e nx) (make_same nx ndx b o e)
theorem make_free {H : Hp} {x dx C r : Addr} (nx : H x = none) (ndx : H dx = none) (h : (upd (upd H dx (.own x)) x (.ins C dx [])) r = none) : H r = none := (make_same (C := C) nx ndx).free h
end Rr

set_option Elab.async false
set_option linter.all false
set_option maxRecDepth 100000
set_option maxHeartbeats 800000
namespace Rr
open PySem L2 RM
theorem tup_go {K : PySem.W.Frag} {H : Hp} {p : Addr} {a b : V} {σ : St} {i j : Nat} {Q : St → Hp → Prop} (h : H p = some (.tup [a, b])) (q : Q ((σ.set i (some a)).set j (some b)) H) : gTup K 2 (gCons (gName i) (gCons (gName j) gNil)) (.ref p) σ H Q :=
  ⟨p, [a, b], rfl, SqT.of h, rfl, a, [b], rfl, b, [], rfl, rfl, q⟩
theorem pgq {X : Cx} (i j : Nat) {x y : Str} {px py pos : Pos} {k : Nat} (hc : X.calm = true := by rfl) (hN : X.N.Nodup := by exact of_decide_eq_true (by kernel_rfl)) (h0 : X.N[i]? = some x := by rfl) (h1 : X.N[j]? = some y := by rfl) (hx : X.env.scope.names.lookup x = some .local := by rfl)
    (hy : X.env.scope.names.lookup y = some .local := by rfl) : PG X (.Tuple [.Name x px, .Name y py] k pos) (gTup X.K 2 (gCons (gName i) (gCons (gName j) gNil))) :=
  pg_tup hc (pgs_cons (pg_name hN h0 (.inl hx) (.inr hx)) (pgs_cons (pg_name hN h1 (.inl hy) (.inr hy)) pgs_nil))
theorem rep_zero (k : Nat) : (List.replicate k [V.int 0]).flatten = (List.replicate k (0 : Int)).map V.int := by
  induction k with
  | zero => rfl
  | succ k ih => rw [List.replicate_succ, List.flatten_cons, ih, List.replicate_succ]; rfl
section
variable {P : Program} {w : World} {K : PySem.W.Frag} {mg : Str → Option Value} {base : Heap} {f g g2 g3 : Addr} {fd gd gd2 gd3 : FuncData}
theorem scMixed : FnScope ["prime", "rule", "shorter", "shift", "share", "length", "told", "back", "rest"] ["prime", "rule", "shorter", "shift", "share"] (defScope sMixed) := ⟨rfl, rfl, rfl, by decide +kernel, rfl, by decide +kernel, by decide +kernel⟩
theorem ok_mixed (D : Def K mg "mixed" sMixed ["prime", "rule", "shorter", "shift", "share"] f fd) (o : Own mg) : FnOk P w K mg base CX0 1 f fd ["prime", "rule", "shorter", "shift", "share"] spMixed := by
  refine D.F.ok scMixed (fun vs H Q E h => ?_) (fun cdv A outer s H vs Q E hr h => ?_)
  · obtain ⟨p, a, c, rule, shorter, sh, share, rfl, _⟩ := h
    rfl
  obtain ⟨p, a, c, rule, shorter, sh, share, rfl, ha, hc, hp, hp2, r1, r2, s1, s2, t0, t1, l1, l2, q⟩ := h
  refine ⟨_, pss_cons (ps_set (i := 5) scMixed.nd rfl (Or.inl rfl) (pe_callB (call_max2 rfl) rfl o.max boot_maxB (pa_cons (plen o (pv 1)) (pa_cons (pe_op op_add (pv 3) (plen o (pv 2))) pa_nil))))
    (pss_cons (ps_set (i := 6) scMixed.nd rfl (Or.inl rfl) (pe_op op_cat (pv 1) (pe_op op_rep (pe_lst (pa_cons pint pa_nil)) (pe_op op_sub (pv 5) (plen o (pv 1))))))
    (pss_cons (ps_asg (pe_op op_mod (pe_op op_add (pe_ix ix_list (pv 6) (pe_op op_sub (pv 3) pint) (fun _ _ => rfl)) (pv 4)) (pv 0)) (pg_sub (pv 6) (pe_op op_sub (pv 3) pint) set_list))
    (pss_cons (ps_for PassesOwn.never rfl (pi_enumK rfl o.enumerate (pa_cons (pv 2) pa_nil) (pv 3)) (pgq 7 8)
      (pss_one (ps_asg (pe_op op_mod (pe_op op_sub (pe_ix ix_list (pv 6) (pv 7) (fun _ _ => rfl)) (pe_op op_mul (pv 4) (pv 8))) (pv 0)) (pg_sub (pv 6) (pv 7) set_list))))
    (pss_one (ps_ret (pv 6)))))), ?_⟩
  have eLen : (if (sh : Int) + ((shorter.map V.int).length : Int) > ((rule.map V.int).length : Int) then (sh : Int) + ((shorter.map V.int).length : Int) else ((rule.map V.int).length : Int)) = ((max rule.length (sh + shorter.length) : Nat) : Int) := by
    rw [List.length_map, List.length_map]
    split <;> omega
  refine ⟨_, rfl, a, _, rfl, .inl ha.sq, _, rfl, _, rfl, c, _, rfl, .inl hc.sq, _, _, rfl, rfl, _, _, rfl, ?_⟩
  rw [eLen]
  generalize hL : max rule.length (sh + shorter.length) = L
  refine ⟨_, rfl, (by show 1 ≤ sizeLine; decide), fun z nz => ?_⟩
  have u1 := same_new nz (.lst [.int 0])
  refine ⟨_, rfl, _, rfl, a, _, rfl, .inl (ha.same u1).sq, _, _, rfl, rfl, ?_⟩
  rw [List.length_map]
  refine ⟨z, _, _, rfl, rfl, upd_same, by omega, by omega, ?_, fun y ny => ?_⟩
  · show 1 * _ ≤ sizeLine
    rw [Nat.one_mul]
    exact small (by omega)
  have e0 : ((L : Int) - (rule.length : Int)).toNat = L - rule.length := by omega
  rw [e0, rep_zero]
  have u2 := u1.trans (same_new ny (.lst ((List.replicate (L - rule.length) (0 : Int)).map V.int)))
  refine ⟨a, y, _, _, rfl, rfl, ha.same u2, upd_same, ?_, fun r nr => ?_⟩
  · rw [List.length_map, List.length_map, List.length_replicate]
    exact small (by omega)
  have u3 := u2.trans (same_new nr (.lst (rule.map V.int ++ (List.replicate (L - rule.length) (0 : Int)).map V.int)))
  have nr0 : H r = none := u2.free nr
  have hr1 : Ls (upd (upd (upd H z (.lst [.int 0])) y (.lst ((List.replicate (L - rule.length) (0 : Int)).map V.int))) r (.lst (rule.map V.int ++ (List.replicate (L - rule.length) (0 : Int)).map V.int))) r (rule ++ List.replicate (L - rule.length) 0) := Ls.new (by rw [List.map_append])
  generalize upd (upd (upd H z (.lst [.int 0])) y (.lst ((List.replicate (L - rule.length) (0 : Int)).map V.int))) r (.lst (rule.map V.int ++ (List.replicate (L - rule.length) (0 : Int)).map V.int)) = H3 at u3 hr1 ⊢
  have lt : (rule ++ List.replicate (L - rule.length) (0 : Int)).length = L := by rw [List.length_append, List.length_replicate]; omega
  have es : (sh : Int) - 1 = ((sh - 1 : Nat) : Int) := by omega
  refine ⟨_, rfl, _, rfl, _, _, rfl, rfl, r, _, _, _, rfl, rfl, hr1.sq, atI_int es (by omega), _, rfl, _, _, rfl, rfl, _, rfl, _, _, rfl, rfl, hp, ?_⟩
  refine ⟨_, rfl, _, rfl, _, _, rfl, rfl, r, _, _, sh - 1, rfl, rfl, hr1, ixN_nat es (by rw [List.length_map]; omega), ?_⟩
  have m0 := mix_start (shorter := shorter) (shift := sh) (share := share) hp r1 s1
  rw [hL] at m0
  rw [map_set, m0]
  have u4 : Same H (upd H3 r (.lst ((mixK p rule shorter sh share 0).map V.int))) := sput u3 nr0
  refine ⟨_, rfl, _, rfl, c, sh, rfl, rfl, by omega, ⟨_, Rd.of (hc.same u4)⟩, for_enumK (xs := shorter.map V.int) (fun i σ Hw => ∃ x7 x8, σ = [some (.int p), some (.ref a), some (.ref c), some (.int sh), some (.int share), some (.int L), some (.ref r), x7, x8] ∧ Same H Hw ∧ Ls Hw r (mixK p rule shorter sh share i))
    ⟨none, none, rfl, u4, upd_same⟩ (fun i σ Hw _ hw => ?_) ?_ ?_⟩
  · obtain ⟨_, _, _, sw, _⟩ := hw
    exact (hc.same sw).sq
  · rintro i x σ Hw t hx ⟨x7, x8, rfl, sw, hm⟩ nt
    obtain ⟨rfl, hi⟩ := at_int hx
    have v1 := sw.trans (same_new nt (.tup [.int ((sh + i : Nat) : Int), .int (gt shorter i)]))
    have hm1 := hm.same (same_new nt (.tup [.int ((sh + i : Nat) : Int), .int (gt shorter i)]))
    refine tup_go upd_same ?_
    have hin : sh + i < (mixK p rule shorter sh share i).length := by rw [mixK_len]; omega
    refine ⟨_, rfl, _, rfl, r, _, _, _, rfl, rfl, hm1.sq, atI_int rfl hin, _, rfl, _, rfl, _, _, rfl, rfl, .inl ⟨by omega, by omega⟩, _, _, rfl, rfl, _, rfl, _, _, rfl, rfl, hp, ?_⟩
    refine ⟨_, rfl, _, rfl, r, _, _, sh + i, rfl, rfl, hm1, ixN_nat rfl (by rw [List.length_map]; exact hin), _, _, rfl, sput v1 nr0, Ls.new ?_⟩
    rw [map_set, mix_next hp hi]
  · rintro σ Hw ⟨x7, x8, rfl, sw, hm⟩
    refine ⟨_, rfl, q r Hw sw nr0 ?_⟩
    rw [List.length_map] at hm
    exact hm
end
end Rr

set_option Elab.async false
set_option linter.all false
set_option maxRecDepth 100000
set_option maxHeartbeats 800000
namespace Rr
open PySem L2 RM
section
variable {P : Program} {w : World} {K : PySem.W.Frag} {mg : Str → Option Value} {base : Heap} {f g g2 g3 g4 g5 g6 C : Addr} {fd gd gd2 gd3 gd4 gd5 gd6 : FuncData}
theorem scLeast : FnScope ["prime", "row", "rule", "shorter", "place", "miss", "here", "number", "lack", "share", "mended"] ["prime", "row"] (defScope sLeast) := ⟨rfl, rfl, rfl, by decide +kernel, rfl, by decide +kernel, by decide +kernel⟩
theorem ok_least (D : Def K mg "least" sLeast ["prime", "row"] f fd) (o : Own mg) (D1 : Def K mg "need_prime" sNeedPrime ["prime"] g gd) (G1 : FnOk P w K mg base CX0 3 g gd ["prime"] spNeedPrime) (D3 : Def K mg "need_row" sNeedRow ["prime", "row"] g2 gd2) (G3 : FnOk P w K mg base CX0 4 g2 gd2 ["prime", "row"] spNeed)
    (DD : Def K mg "due" sDue ["prime", "rule", "row", "place"] g3 gd3) (GD : FnOk P w K mg base CX0 1 g3 gd3 ["prime", "rule", "row", "place"] spDue) (DI : Def K mg "inverse" sInv ["prime", "rest"] g4 gd4) (GI : FnOk P w K mg base CX0 1 g4 gd4 ["prime", "rest"] spInv)
    (DX : Def K mg "mixed" sMixed ["prime", "rule", "shorter", "shift", "share"] g5 gd5) (GX : FnOk P w K mg base CX0 1 g5 gd5 ["prime", "rule", "shorter", "shift", "share"] spMixed)
    (M : Mk K C g6) (mC : mg "Least" = some (.ref C)) (GL : FnOk P w K mg base CX0 1 g6 gd6 ["self", "rule", "shorter", "place"] (spInit3 C)) (bL : Binds K gd6 ["self", "rule", "shorter", "place"] []) : FnOk P w K mg base CX0 6 f fd ["prime", "row"] (spLeast C) := by
  refine D.F.ok scLeast (fun vs H Q E h => ?_) (fun cdv A outer s H vs Q E hr h => ?_)
  · obtain ⟨p, b, row, rfl, _⟩ := h
    rfl
  obtain ⟨p, b, row, rfl, hb, h7, hR, hl, q⟩ := h
  refine ⟨_, pss_cons (ps_expr (pcall D1 G1 hr (pa_cons (pv 0) pa_nil)))
    (pss_cons (ps_expr (pcall D3 G3 hr (pa_cons (pv 0) (pa_cons (pv 1) pa_nil))))
    (pss_cons (ps_set (i := 2) scLeast.nd rfl (Or.inl rfl) (pe_lst pa_nil))
    (pss_cons (ps_set (i := 3) scLeast.nd rfl (Or.inl rfl) (pe_lst pa_nil))
    (pss_cons (ps_set (i := 4) scLeast.nd rfl (Or.inl rfl) (pe_un un_neg pint))
    (pss_cons (ps_set (i := 5) scLeast.nd rfl (Or.inl rfl) pint)
    (pss_cons (ps_for PassesOwn.never rfl (pi_enum rfl o.enumerate (pa_cons (pv 1) pa_nil)) (pgq 6 7)
      (pss_cons (ps_set (i := 8) scLeast.nd rfl (Or.inl rfl) (pe_op op_mod (pe_op op_sub (pv 7) (pcall DD GD hr (pa_cons (pv 0) (pa_cons (pv 2) (pa_cons (pv 1) (pa_cons (pv 6) pa_nil)))))) (pv 0)))
      (pss_cons (ps_if (pt_cmpR op_eq (pv 8) pint (nomark _)) (pss_one ps_continue) pss_nil)
      (pss_cons (ps_set (i := 9) scLeast.nd rfl (Or.inl rfl) (pe_op op_mod (pe_op op_mul (pv 8) (pcall DI GI hr (pa_cons (pv 0) (pa_cons (pv 5) pa_nil)))) (pv 0)))
      (pss_cons (ps_set (i := 10) scLeast.nd rfl (Or.inl rfl) (pcall DX GX hr (pa_cons (pv 0) (pa_cons (pv 2) (pa_cons (pv 3) (pa_cons (pe_op op_sub (pv 6) (pv 4)) (pa_cons (pv 9) pa_nil)))))))
      (pss_cons (ps_if (pt_cmpR op_gt (plen o (pv 10)) (plen o (pv 2)) (nomark _)) (pss_cons (ps_set (i := 3) scLeast.nd rfl (Or.inl rfl) (pv 2)) (pss_cons (ps_set (i := 4) scLeast.nd rfl (Or.inl rfl) (pv 6)) (pss_one (ps_set (i := 5) scLeast.nd rfl (Or.inl rfl) (pv 8))))) pss_nil)
      (pss_one (ps_set (i := 2) scLeast.nd rfl (Or.inl rfl) (pv 10)))))))))
    (pss_one (ps_ret (pe_make M GL (hr.mono (by decide)) rfl mC bL .nil pass0 (pa_cons (pv 2) (pa_cons (pv 3) (pa_cons (pv 4) pa_nil)))))))))))), ?_⟩
  have pok := h7.ok
  have hp := pok.pos
  have hp1 := h7.two
  have hp2 := pok.2.1
  refine ⟨_, rfl, p, rfl, pok, ?_⟩
  refine ⟨_, rfl, _, rfl, p, b, row, rfl, hb, hR, ?_⟩
  refine ⟨Nat.zero_le _, fun r0 n0 => ?_⟩
  have t0 := same_new n0 (.lst [])
  refine ⟨Nat.zero_le _, fun s0 m0 => ?_⟩
  have t1 := same_new m0 (.lst [])
  have hr0 : Ls (upd (upd H r0 (.lst [])) s0 (.lst [])) r0 [] := t1 _ _ upd_same
  have hs0 : Ls (upd (upd H r0 (.lst [])) s0 (.lst [])) s0 [] := upd_same
  have t2 := t0.trans t1
  generalize upd (upd H r0 (.lst [])) s0 (.lst []) = H1 at hr0 hs0 t2 ⊢
  refine ⟨_, rfl, ?_⟩
  refine ⟨_, rfl, b, rfl, ⟨_, Rd.of (hb.same t2)⟩, for_enum (xs := row.map V.int) (fun i σ Hw => ∃ ra sa rule shorter pl miss x6 x7 x8 x9 x10, σ = [some (.int p), some (.ref b), some (.ref ra), some (.ref sa), some (.int pl), some (.int miss), x6, x7, x8, x9, x10] ∧ Same H Hw ∧ Ls Hw ra rule ∧ Ls Hw sa shorter ∧ BM p row i rule shorter pl miss)
    ⟨r0, s0, [], [], -1, 1, none, none, none, none, none, rfl, t2, hr0, hs0, BM.start p row⟩ (fun i σ Hw _ hw => ?_) ?_ ?_⟩
  · obtain ⟨_, _, _, _, _, _, _, _, _, _, _, _, sw, _⟩ := hw
    exact (hb.same sw).sq
  · rintro i x σ Hw t hx ⟨ra, sa, rule, shorter, pl, miss, x6, x7, x8, x9, x10, rfl, sw, hra, hsa, bm⟩ nt
    obtain ⟨rfl, hi⟩ := at_int hx
    have v1 := same_new nt (.tup [.int (i : Int), .int (gt row i)])
    refine tup_go upd_same ?_
    have hra := hra.same v1
    have hsa := hsa.same v1
    have sw := sw.trans v1
    generalize upd Hw t (.tup [.int (i : Int), .int (gt row i)]) = Hv at hra hsa sw ⊢
    have bl := bm.len
    have bl2 := bm.len2
    have lo := bm.lo
    have ms := bm.missr hp1
    refine ⟨_, rfl, _, rfl, _, rfl, _, rfl, _, rfl, p, ra, b, rule, row, i, rfl, hra, hb.same sw, ⟨pok, bm.r1, hR, by omega, by omega⟩, bl, by omega, fun H2 s2 => ?_⟩
    refine ⟨_, _, rfl, rfl, _, rfl, _, _, rfl, rfl, hp, ?_⟩
    have lr := mod_rest (a := gt row i - dueN p rule row i) hp
    refine ⟨_, rfl, rfl, _, rfl, ?_⟩
    have sw2 := sw.trans s2
    by_cases hz : (gt row i - dueN p rule row i) % p = 0
    · refine iteTd (congrArg V.int hz) ?_
      exact ⟨ra, sa, rule, shorter, pl, miss, _, _, _, _, _, rfl, sw2, hra.same s2, hsa.same s2, bm.skip hp hR hz⟩
    refine iteFd (fun z => hz (by injection z)) ?_
    dsimp only
    generalize hlk : (gt row i - dueN p rule row i) % p = lack at hz lr ⊢
    refine ⟨_, rfl, _, rfl, _, rfl, p, miss, rfl, h7, ms.1, ms.2, fun u u0 u1 hc => ?_⟩
    refine ⟨_, _, rfl, rfl, .inl ⟨by omega, by omega⟩, _, rfl, _, _, rfl, rfl, hp, ?_⟩
    have sr := mod_rest (a := lack * u) hp
    have hs : Cg p (lack * u % p * miss) lack := by
      refine (Cg.mul (Cg.emod _ _) (Cg.refl _ _)).trans ?_
      have := Cg.mul (Cg.refl p lack) hc
      rw [Int.mul_one] at this
      refine (Cg.of_eq ?_).trans this
      rw [Int.mul_assoc, Int.mul_comm u miss]
    dsimp only
    generalize lack * u % p = share at sr hs ⊢
    refine ⟨_, rfl, _, rfl, _, rfl, _, rfl, _, rfl, _, _, rfl, rfl, _, rfl, p, ra, sa, rule, shorter, ((i : Int) - pl).toNat, share, congrArg (fun z => [V.int p, V.ref ra, V.ref sa, V.int z, V.int share]) (by omega), hra.same s2, hsa.same s2, hp, by omega, bm.r1, bm.r2, by omega, by omega, sr.1, sr.2, by omega, by omega, fun m H3 s3 nm hm => ?_⟩
    have hra3 := (hra.same s2).same s3
    have hsa3 := (hsa.same s2).same s3
    refine ⟨_, rfl, m, _, rfl, .inl hm.sq, _, rfl, ra, _, rfl, .inl hra3.sq, _, _, rfl, rfl, _, rfl, ?_⟩
    rw [List.length_map, List.length_map]
    by_cases hg : rule.length < (mixL p rule shorter ((i : Int) - pl).toNat share).length
    · refine iteTd (by omega) ?_
      exact ⟨_, rfl, _, rfl, _, rfl, _, rfl, m, ra, _, rule, i, lack, _, _, _, _, _, rfl, sw2.trans s3, hm, hra3, bm.longer hp hR hlk.symm hz hs hg⟩
    · refine iteFd (by omega) ?_
      exact ⟨_, rfl, m, sa, _, shorter, pl, miss, _, _, _, _, _, rfl, sw2.trans s3, hm, hsa3, bm.same hp hR hlk.symm hz hs hg⟩
  · rintro σ Hw ⟨ra, sa, rule, shorter, pl, miss, x6, x7, x8, x9, x10, rfl, sw, hra, hsa, bm⟩
    rw [List.length_map] at bm
    refine ⟨_, rfl, _, rfl, _, rfl, fun x dx nx ndx nex => ?_⟩
    refine ⟨x, ra, sa, pl, dx, rule, shorter, rfl, upd_same, hra.same (make_same nx ndx), hsa.same (make_same nx ndx), fun r t H' n1 n2 an kp => ⟨rfl, ?_⟩⟩
    exact q x r t H' rule shorter pl miss (sw.trans (made_same nx ndx kp)) (sw.free nx) (sw.free (make_free nx ndx n1)) (sw.free (make_free nx ndx n2)) an bm
end
end Rr

set_option Elab.async false
set_option linter.all false
set_option maxRecDepth 100000
set_option maxHeartbeats 800000
namespace Rr
open PySem L2 RM
section
variable {P : Program} {w : World} {K : PySem.W.Frag} {mg : Str → Option Value} {base : Heap} {f g g2 g3 g4 g5 g6 : Addr} {fd gd gd2 gd3 gd4 gd5 gd6 : FuncData}
theorem scLLeast : FnScope ["_law_prime_here", "_law_row_here", "_law_rule", "_law_shorter", "_law_place"] ["_law_prime_here", "_law_row_here", "_law_rule", "_law_shorter", "_law_place"] (defScope lLeast) := ⟨rfl, rfl, rfl, by decide +kernel, rfl, by decide +kernel, by decide +kernel⟩
theorem ok_lLeast (D : Def K mg "_law_least" lLeast ["_law_prime_here", "_law_row_here", "_law_rule", "_law_shorter", "_law_place"] f fd) (o : Own mg) (DR : Def K mg "_law_rested" lRested ["_law_prime_here", "_law_found"] g gd) (GR : FnOk P w K mg base CX0 1 g gd ["_law_prime_here", "_law_found"] spRestedB)
    (DM : Def K mg "_law_made" lMade ["_law_prime_here", "_law_rule", "_law_row_here"] g2 gd2) (GM : FnOk P w K mg base CX0 2 g2 gd2 ["_law_prime_here", "_law_rule", "_law_row_here"] spMade)
    (DD : Def K mg "_law_due" lDue ["_law_prime_here", "_law_rule", "_law_row_here", "_law_place"] g3 gd3) (GD : FnOk P w K mg base CX0 1 g3 gd3 ["_law_prime_here", "_law_rule", "_law_row_here", "_law_place"] spDue) :
    FnOk P w K mg base CX0 3 f fd ["_law_prime_here", "_law_row_here", "_law_rule", "_law_shorter", "_law_place"] spIsLeast := by
  refine D.F.ok scLLeast (fun vs H Q E h => ?_) (fun cdv A outer s H vs Q E hr h => ?_)
  · obtain ⟨p, b, a, c, row, rule, shorter, pl, rfl, _⟩ := h
    rfl
  obtain ⟨p, b, a, c, row, rule, shorter, pl, rfl, hb, ha, hc, lr, q⟩ := h
  have hu := hr.units
  refine ⟨_, pss_cons (ps_if (PW.pt (pw_or (pt_not (pt_val (pcall DR GR hr (pa_cons (pv 0) (pa_cons (pv 2) pa_nil))))) (pw_or (pt_not (pt_val (pcall DR GR hr (pa_cons (pv 0) (pa_cons (pv 3) pa_nil))))) (pw_or1 (pt_not (pt_val (pcall DM GM hr (pa_cons (pv 0) (pa_cons (pv 2) (pa_cons (pv 1) pa_nil)))))))))) (pss_one (ps_ret pe_bl)) pss_nil)
    (pss_cons (ps_if (pt_cmpR (op_eqL hu) (pv 2) (pe_lst pa_nil) (nomark _)) (pss_one (ps_ret (pe_and (pe_cmpR (op_eqL hu) (pv 3) (pe_lst pa_nil) (nomark _)) (pe_one (pe_cmpR op_eq (pv 4) (pe_un un_neg pint) (nomark _)))))) pss_nil)
    (pss_cons (ps_if (PW.pt (pw_or (pt_not (pt_chain op_le op_lt (plen o (pv 3)) (pv 4) (plen o (pv 1)))) (pw_or (pt_cmpR op_ne (pe_op op_add (plen o (pv 2)) (plen o (pv 3))) (pe_op op_add (pv 4) pint) (nomark _)) (pw_or1 (pt_cmpR op_ge (plen o (pv 3)) (plen o (pv 2)) (nomark _)))))) (pss_one (ps_ret pe_bl)) pss_nil)
    (pss_one (ps_ret (pe_and (pcall DM GM hr (pa_cons (pv 0) (pa_cons (pv 3) (pa_cons (pe_slice sl_list (pv 1) po_none (po_some (pv 4))) pa_nil)))) (pe_one (pe_cmpR op_ne (pe_ix ix_list (pv 1) (pv 4) (fun _ _ => rfl)) (pcall DD GD hr (pa_cons (pv 0) (pa_cons (pv 3) (pa_cons (pv 1) (pa_cons (pv 4) pa_nil))))) (nomark _)))))))), ?_⟩
  have l1 := lr.l1
  have l2 := lr.l2
  have l3 := lr.l3
  refine ⟨_, rfl, _, rfl, p, a, rule, rfl, ha, by omega, fun H1 s1 => ⟨_, rfl, ?_⟩⟩
  cases e1 : restsB p rule with
  | false =>
    refine iteT ?_
    have := q H1 s1
    rw [leastB_r1 e1] at this
    exact this
  | true =>
  refine iteF ?_
  refine ⟨_, rfl, _, rfl, p, c, shorter, rfl, hc.same s1, by omega, fun H2 s2 => ⟨_, rfl, ?_⟩⟩
  have t2 := s1.trans s2
  cases e2 : restsB p shorter with
  | false =>
    refine iteT ?_
    have := q H2 t2
    rw [leastB_r2 e2] at this
    exact this
  | true =>
  refine iteF ?_
  refine ⟨_, rfl, _, rfl, _, rfl, p, a, b, rule, row, rfl, ha.same t2, hb.same t2, ⟨lr.pr, restsB_iff.mp e1, lr.r, lr.l2, lr.l1⟩, fun H3 s3 => ⟨_, rfl, ?_⟩⟩
  have t3 := t2.trans s3
  cases e3 : makesN p rule row with
  | false =>
    refine iteT ?_
    have := q H3 t3
    rw [leastB_mk e3] at this
    exact this
  | true =>
  refine iteF ?_
  refine ⟨_, rfl, Nat.zero_le _, fun z nz => ?_⟩
  have t4 := t3.trans (same_new nz (.lst []))
  have hz0 : Ls (upd H3 z (.lst [])) z [] := upd_same
  generalize upd H3 z (.lst []) = H4 at t4 hz0 ⊢
  refine ⟨a, z, rule, [], rfl, rfl, (ha.same t4).sq, hz0.sq, _, rfl, ?_⟩
  by_cases hz : rule = []
  · refine iteTd hz ?_
    have hz' : rule.length = 0 := by rw [hz]; rfl
    refine ⟨_, rfl, Nat.zero_le _, fun y ny => ?_⟩
    have t5 := t4.trans (same_new ny (.lst []))
    have hy0 : Ls (upd H4 y (.lst [])) y [] := upd_same
    generalize upd H4 y (.lst []) = H5 at t5 hy0 ⊢
    have q1 := q H5 t5
    rw [leastB_nil e1 e2 e3 hz'] at q1
    refine ⟨c, y, shorter, [], rfl, rfl, (hc.same t5).sq, hy0.sq, _, rfl, ?_⟩
    by_cases hz2 : shorter = []
    · refine iteTd hz2 ⟨_, rfl, _, rfl, rfl, ?_⟩
      rw [decide_eq_true (by rw [hz2]; rfl : shorter.length = 0), Bool.true_and] at q1
      show Q (.bl (decide (V.int pl = V.int (-1)))) H5
      rw [dec_int]
      exact q1
    · refine iteFd hz2 ?_
      rw [decide_eq_false (fun z => hz2 (List.eq_nil_of_length_eq_zero z)), Bool.false_and] at q1
      exact q1
  refine iteFd hz ?_
  have hz' : rule.length ≠ 0 := fun z => hz (List.eq_nil_of_length_eq_zero z)
  have ha := ha.same t4
  have hb := hb.same t4
  have hc := hc.same t4
  refine ⟨_, rfl, c, _, rfl, .inl hc.sq, _, rfl, _, _, rfl, rfl, _, rfl, ?_⟩
  rw [List.length_map]
  by_cases hlo : (shorter.length : Int) ≤ pl
  · refine iteTd hlo ?_
    refine ⟨_, rfl, b, _, rfl, .inl hb.sq, _, _, rfl, rfl, _, rfl, ?_⟩
    rw [List.length_map]
    by_cases hhi : pl < (row.length : Int)
    · refine iteNd hhi ?_
      refine ⟨_, rfl, a, _, rfl, .inl ha.sq, _, rfl, c, _, rfl, .inl hc.sq, _, _, rfl, rfl, _, rfl, _, _, rfl, rfl, rfl, _, rfl, ?_⟩
      rw [List.length_map, List.length_map]
      by_cases hs : (rule.length : Int) + shorter.length = pl + 1
      · refine iteNd (congrArg V.int hs) ?_
        refine ⟨_, rfl, c, _, rfl, .inl hc.sq, _, rfl, a, _, rfl, .inl ha.sq, _, _, rfl, rfl, _, rfl, ?_⟩
        rw [List.length_map, List.length_map]
        by_cases hge : (shorter.length : Int) ≥ (rule.length : Int)
        · refine iteTd hge ?_
          have := q H4 t4
          rw [leastB_ge hz' (by omega)] at this
          exact this
        refine iteFd hge ?_
        obtain ⟨n, rfl⟩ : ∃ n : Nat, pl = (n : Int) := ⟨pl.toNat, by omega⟩
        have q' : ∀ H', Same H H' → Q (.bl ((!(gt row n == dueN p shorter row n)) && makesN p shorter (row.take n))) H' := fun H' s => by
          have := q H' s
          rw [leastB_last e1 e2 e3 hz' (by omega) hs, decide_eq_true (by omega : (shorter.length : Int) ≤ (n : Int) ∧ (n : Int) < row.length), Bool.true_and] at this
          exact this
        refine ⟨_, rfl, _, rfl, _, rfl, _, rfl, _, rfl, b, _, rfl, hb.sq, fun d nd => ?_⟩
        rw [cut_to]
        have t5 := same_new nd (.lst ((row.take n).map V.int))
        refine ⟨p, c, d, shorter, row.take n, rfl, hc.same t5, upd_same, ⟨lr.pr, restsB_iff.mp e2, lr.r.take _, lr.l3, by rw [List.length_take]; omega⟩, fun H6 s6 => ⟨_, rfl, ?_⟩⟩
        have t6 := t5.trans s6
        cases e4 : makesN p shorter (row.take n) with
        | false =>
          refine iteF ?_
          have := q' H6 (t4.trans t6)
          rw [e4, Bool.and_false] at this
          exact this
        | true =>
        refine iteT ?_
        refine ⟨_, rfl, _, rfl, b, _, _, _, rfl, rfl, (hb.same t6).sq, atI_int rfl (by omega), ?_⟩
        refine ⟨_, rfl, _, rfl, _, rfl, _, rfl, p, c, b, shorter, row, n, rfl, hc.same t6, hb.same t6, ⟨lr.pr, restsB_iff.mp e2, lr.r, lr.l3, lr.l1⟩, by omega, by omega, fun H7 s7 => ?_⟩
        refine ⟨rfl, ?_⟩
        have := q' H7 ((t4.trans t6).trans s7)
        rw [e4, Bool.and_true] at this
        show Q (.bl (!decide (V.int (gt row n) = V.int (dueN p shorter row n)))) H7
        rw [dec_int]
        exact this
      · refine iteYd (fun z => hs (by have z' : V.int ((rule.length : Int) + shorter.length) = V.int (pl + 1) := z; injection z')) ?_
        have := q H4 t4
        rw [least_not hs] at this
        exact this
    · refine iteYd hhi ?_
      have := q H4 t4
      rw [leastB_out hz' (by omega)] at this
      exact this
  · refine iteFd hlo ⟨_, rfl, iteT ?_⟩
    have := q H4 t4
    rw [leastB_out hz' (by omega)] at this
    exact this
end
end Rr

set_option Elab.async false
set_option linter.all false
set_option maxRecDepth 100000
set_option maxHeartbeats 800000
namespace Rr
open PySem L2 RM
abbrev sInitO : Stmt := inClass cOnly 0
abbrev sShowsO : Stmt := inClass cOnly 1
abbrev sInitN : Stmt := inClass cAnother 0
abbrev sShowsN : Stmt := inClass cAnother 1
theorem PE.or {X : Cx} {e : Expr} {t t' : TE} (h : PE X e t) (h' : PE X e t') : PE X e (fun σ H Q => t σ H Q ∨ t' σ H Q) := fun pins s σ H Q I q => q.elim (h pins s σ H Q I) (h' pins s σ H Q I)
section
variable {P : Program} {w : World} {K : PySem.W.Frag} {mg : Str → Option Value} {base : Heap} {f g g2 g3 g4 g5 C CO CA : Addr} {fd gd gd2 gd3 gd4 gd5 : FuncData}
theorem scInitO : FnScope ["self", "rule", "shorter", "place"] ["self", "rule", "shorter", "place"] (defScope sInitO) := ⟨rfl, rfl, rfl, by decide +kernel, rfl, by decide +kernel, by decide +kernel⟩
theorem ok_initO (F : Fun K "__init__" "Only.__init__" sInitO f fd) (o : Own mg) (c : Cl3 K C) : FnOk P w K mg base CX0 1 f fd ["self", "rule", "shorter", "place"] (spInit3 C) := by
  refine F.ok scInitO (fun vs H Q E h => ?_) (fun cdv A outer s H vs Q E hr h => ?_)
  · obtain ⟨x, a, d, pl, dx, rule, shorter, rfl, _⟩ := h
    rfl
  obtain ⟨x, a, d, pl, dx, rule, shorter, rfl, hx, h1, h2, q⟩ := h
  refine ⟨_, pss_cons (ps_fld (pv 0) (pe_callTy call_list_of rfl o.list boot_listT (pa_cons (pv 1) pa_nil)) rfl)
    (pss_cons (ps_fld (pv 0) (pe_callTy call_list_of rfl o.list boot_listT (pa_cons (pv 2) pa_nil)) rfl)
    (pss_one (ps_fld (pv 0) (pv 3) rfl))), ?_⟩
  refine ⟨_, rfl, a, _, rfl, .inl h1.sq, fun r nr => ?_⟩
  have nxr : x ≠ r := ne_of_none hx nr
  refine ⟨_, rfl, x, C, dx, _, rfl, (by rw [upd_ne nxr]; exact hx), c.cl, c.r, (by show 0 < 1000; decide), ?_⟩
  have ndx : d ≠ x := ne_of h2 hx (by intro z; cases z)
  have ndr : d ≠ r := ne_of_none h2 nr
  refine ⟨_, rfl, d, _, rfl, .inl (Ls.sq (ns := shorter) (by unfold Ls; rw [upd_ne ndx, upd_ne ndr]; exact h2)), fun t nt => ?_⟩
  have ntx : t ≠ x := fun z => by rw [z, upd_same] at nt; cases nt
  rw [upd_ne ntx] at nt
  have ntr : t ≠ r := fun z => by rw [z, upd_same] at nt; cases nt
  rw [upd_ne ntr] at nt
  refine ⟨_, rfl, x, C, dx, _, rfl, (by rw [upd_ne ntx.symm]; exact upd_same), c.cl, c.s, (by have := length_putF "rule" (.ref r) []; simp at this; omega), ?_⟩
  refine ⟨_, rfl, _, rfl, x, C, dx, _, rfl, upd_same, c.cl, c.p, (by have := length_putF "shorter" (.ref t) (putF "rule" (.ref r) []); have := length_putF "rule" (.ref r) []; simp at this; omega), ?_⟩
  refine q r t _ nr nt ⟨⟨dx, upd_same⟩, ?_, ?_, ntr.symm⟩ fun b u nb e => ?_
  · unfold Ls
    rw [upd_ne nxr.symm, upd_ne nxr.symm, upd_ne ntr.symm, upd_ne nxr.symm, upd_same]
  · unfold Ls
    rw [upd_ne ntx, upd_ne ntx, upd_same]
  · rw [upd_ne nb, upd_ne nb, upd_ne (ne_of_none e nt), upd_ne nb, upd_ne (ne_of_none e nr)]
    exact e
theorem scShowsO : FnScope ["self", "prime", "row"] ["self", "prime", "row"] (defScope sShowsO) := ⟨rfl, rfl, rfl, by decide +kernel, rfl, by decide +kernel, by decide +kernel⟩
theorem ok_showsO (F : Fun K "shows" "Only.shows" sShowsO f fd) (c : Cl3 K C) (DS : Def K mg "is_sole" sSole ["rule", "row"] g2 gd2) (GS : FnOk P w K mg base CX0 1 g2 gd2 ["rule", "row"] spSole) (DI : Def K mg "is_least" sIsLeast ["prime", "row", "rule", "shorter", "place"] g gd) (GI : FnOk P w K mg base CX0 7 g gd ["prime", "row", "rule", "shorter", "place"] spIsLeast) : FnOk P w K mg base CX0 8 f fd ["self", "prime", "row"] (spShowsO C) := by
  refine F.ok scShowsO (fun vs H Q E h => ?_) (fun cdv A outer s H vs Q E hr h => ?_)
  · obtain ⟨x, p, b, r, t, row, rule, shorter, pl, rfl, _⟩ := h
    rfl
  obtain ⟨x, p, b, r, t, row, rule, shorter, pl, rfl, ⟨⟨dx, hx⟩, h1, h2, _⟩, hb, lr, q⟩ := h
  have l1 := lr.l1
  have l2 := lr.l2
  refine ⟨_, pss_one (ps_ret (pe_and (pcall DS GS hr (pa_cons (pe_fld (pv 0) rfl) (pa_cons (pv 2) pa_nil))) (pe_one (PE.tag (pcall DI GI hr (pa_cons (pv 1) (pa_cons (pv 2) (pa_cons (pe_fld (pv 0) rfl) (pa_cons (pe_fld (pv 0) rfl) (pa_cons (pe_fld (pv 0) rfl) pa_nil)))))))))), ?_⟩
  refine ⟨_, rfl, x, C, dx, _, _, rfl, hx, c.cl, c.r, flds3_r, _, rfl, r, b, rule, row, rfl, h1, hb, by omega, by omega, _, rfl, ?_⟩
  cases e : soleB row rule with
  | false =>
    refine iteF ?_
    have := q H (Same.refl _)
    rw [e, Bool.false_and] at this
    exact this
  | true =>
  refine iteT ?_
  refine call5 hx c.cl c.r c.s c.p flds3_r flds3_s flds3_p rfl rfl rfl hb h1 h2 lr fun H' s' => ?_
  have := q H' s'
  rw [e, Bool.true_and] at this
  exact this
theorem scInitN : FnScope ["self", "one", "other", "shorter", "place"] ["self", "one", "other", "shorter", "place"] (defScope sInitN) := ⟨rfl, rfl, rfl, by decide +kernel, rfl, by decide +kernel, by decide +kernel⟩
theorem len_put (f : Str) (v : V) (fs : List (Str × V)) {n : Nat} (h : fs.length ≤ n) : (putF f v fs).length ≤ n + 1 := Nat.le_trans (length_putF f v fs) (by omega)
theorem ok_initN (F : Fun K "__init__" "Another.__init__" sInitN f fd) (o : Own mg) (c : Cl4 K C) : FnOk P w K mg base CX0 1 f fd ["self", "one", "other", "shorter", "place"] (spInit4 C) := by
  refine F.ok scInitN (fun vs H Q E h => ?_) (fun cdv A outer s H vs Q E hr h => ?_)
  · obtain ⟨x, a, b, d, pl, dx, one, other, shorter, rfl, _⟩ := h
    rfl
  obtain ⟨x, a, b, d, pl, dx, one, other, shorter, rfl, hx, h1, h2, h3, q⟩ := h
  refine ⟨_, pss_cons (ps_fld (pv 0) (pe_callTy call_list_of rfl o.list boot_listT (pa_cons (pv 1) pa_nil)) rfl)
    (pss_cons (ps_fld (pv 0) (pe_callTy call_list_of rfl o.list boot_listT (pa_cons (pv 2) pa_nil)) rfl)
    (pss_cons (ps_fld (pv 0) (pe_callTy call_list_of rfl o.list boot_listT (pa_cons (pv 3) pa_nil)) rfl)
    (pss_one (ps_fld (pv 0) (pv 4) rfl)))), ?_⟩
  have nbx : b ≠ x := ne_of h2 hx (by intro z; cases z)
  have ndx : d ≠ x := ne_of h3 hx (by intro z; cases z)
  refine ⟨_, rfl, a, _, rfl, .inl h1.sq, fun r nr => ?_⟩
  have nxr : x ≠ r := ne_of_none hx nr
  refine ⟨_, rfl, x, C, dx, _, rfl, (by rw [upd_ne nxr]; exact hx), c.cl, c.r, (by show 0 < 1000; decide), ?_⟩
  refine ⟨_, rfl, b, _, rfl, .inl (Ls.sq (ns := other) (by unfold Ls; rw [upd_ne nbx, upd_ne (ne_of_none h2 nr)]; exact h2)), fun t nt => ?_⟩
  have ntx : t ≠ x := fun z => by rw [z, upd_same] at nt; cases nt
  rw [upd_ne ntx] at nt
  have ntr : t ≠ r := fun z => by rw [z, upd_same] at nt; cases nt
  rw [upd_ne ntr] at nt
  have p1 := len_put "one" (.ref r) [] (Nat.le_refl 0)
  refine ⟨_, rfl, x, C, dx, _, rfl, (by rw [upd_ne ntx.symm]; exact upd_same), c.cl, c.t, by omega, ?_⟩
  refine ⟨_, rfl, d, _, rfl, .inl (Ls.sq (ns := shorter) (by unfold Ls; rw [upd_ne ndx, upd_ne (ne_of_none h3 nt), upd_ne ndx, upd_ne (ne_of_none h3 nr)]; exact h3)), fun u nu => ?_⟩
  have nux : u ≠ x := fun z => by rw [z, upd_same] at nu; cases nu
  rw [upd_ne nux] at nu
  have nut : u ≠ t := fun z => by rw [z, upd_same] at nu; cases nu
  rw [upd_ne nut, upd_ne nux] at nu
  have nur : u ≠ r := fun z => by rw [z, upd_same] at nu; cases nu
  rw [upd_ne nur] at nu
  have p2 := len_put "other" (.ref t) _ p1
  refine ⟨_, rfl, x, C, dx, _, rfl, (by rw [upd_ne nux.symm]; exact upd_same), c.cl, c.s, by omega, ?_⟩
  have p3 := len_put "shorter" (.ref u) _ p2
  refine ⟨_, rfl, _, rfl, x, C, dx, _, rfl, upd_same, c.cl, c.p, by omega, ?_⟩
  refine q r t u _ nr nt nu ⟨⟨dx, upd_same⟩, ?_, ?_, ?_, ntr.symm, nur.symm, nut.symm⟩ fun e v nb q' => ?_
  · unfold Ls
    rw [upd_ne nxr.symm, upd_ne nxr.symm, upd_ne nur.symm, upd_ne nxr.symm, upd_ne ntr.symm, upd_ne nxr.symm, upd_same]
  · unfold Ls
    rw [upd_ne ntx, upd_ne ntx, upd_ne nut.symm, upd_ne ntx, upd_same]
  · unfold Ls
    rw [upd_ne nux, upd_ne nux, upd_same]
  · rw [upd_ne nb, upd_ne nb, upd_ne (ne_of_none q' nu), upd_ne nb, upd_ne (ne_of_none q' nt), upd_ne nb, upd_ne (ne_of_none q' nr)]
    exact q'
theorem scShowsN : FnScope ["self", "prime", "row"] ["self", "prime", "row"] (defScope sShowsN) := ⟨rfl, rfl, rfl, by decide +kernel, rfl, by decide +kernel, by decide +kernel⟩
theorem ok_showsN (F : Fun K "shows" "Another.shows" sShowsN f fd) (o : Own mg) (c : Cl4 K C) (DI : Def K mg "is_least" sIsLeast ["prime", "row", "rule", "shorter", "place"] g gd) (GI : FnOk P w K mg base CX0 7 g gd ["prime", "row", "rule", "shorter", "place"] spIsLeast) : FnOk P w K mg base CX0 8 f fd ["self", "prime", "row"] (spShowsA C) := by
  refine F.ok scShowsN (fun vs H Q E h => ?_) (fun cdv A outer s H vs Q E hr h => ?_)
  · obtain ⟨x, p, b, r, t, u, row, one, other, shorter, pl, rfl, _⟩ := h
    rfl
  obtain ⟨x, p, b, r, t, u, row, one, other, shorter, pl, rfl, an, hb, lr, lo, q⟩ := h
  obtain ⟨dx, hx⟩ := an.ob
  have hu := hr.units
  refine ⟨_, pss_cons (ps_if (PW.pt (pw_or (pt_cmpR op_ne (plen o (pe_fld (pv 0) rfl)) (plen o (pe_fld (pv 0) rfl)) (nomark _)) (pw_or1 (pt_cmpR (op_eqL hu) (pe_fld (pv 0) rfl) (pe_fld (pv 0) rfl) (nomark _))))) (pss_one (ps_ret pe_bl)) pss_nil)
    (pss_cons (ps_if (pt_not (pt_val (PE.tag (pcall DI GI hr (pa_cons (pv 1) (pa_cons (pv 2) (pa_cons (pe_fld (pv 0) rfl) (pa_cons (pe_fld (pv 0) rfl) (pa_cons (pe_fld (pv 0) rfl) pa_nil))))))))) (pss_one (ps_ret pe_bl)) pss_nil)
    (pss_one (ps_ret (PE.tag (pcall DI GI hr (pa_cons (pv 1) (pa_cons (pv 2) (pa_cons (pe_fld (pv 0) rfl) (pa_cons (pe_fld (pv 0) rfl) (pa_cons (pe_fld (pv 0) rfl) pa_nil)))))))))), ?_⟩
  refine ⟨_, rfl, x, C, dx, _, _, rfl, hx, c.cl, c.r, flds4_r, r, _, rfl, .inl an.r.sq, _, rfl, x, C, dx, _, _, rfl, hx, c.cl, c.t, flds4_t, t, _, rfl, .inl an.t.sq, rfl, _, rfl, ?_⟩
  rw [List.length_map, List.length_map]
  by_cases hl : one.length = other.length
  · refine iteNd (by rw [hl]) ?_
    refine ⟨_, rfl, x, C, dx, _, _, rfl, hx, c.cl, c.r, flds4_r, _, rfl, x, C, dx, _, _, rfl, hx, c.cl, c.t, flds4_t, r, t, one, other, rfl, rfl, an.r.sq, an.t.sq, _, rfl, ?_⟩
    by_cases he : one = other
    · refine iteTd he ?_
      have := q H (Same.refl _)
      unfold anoB at this
      rw [decide_eq_true he, Bool.not_true, Bool.and_false] at this
      exact this
    refine iteFd he ?_
    refine call5 hx c.cl c.r c.s c.p flds4_r flds4_s flds4_p rfl rfl rfl hb an.r an.s lr fun H1 s1 => ?_
    refine ⟨_, rfl, ?_⟩
    cases e : leastB p row one shorter pl with
    | false =>
      refine iteT ?_
      have := q H1 s1
      unfold anoB at this
      rw [e, Bool.and_false] at this
      exact this
    | true =>
    refine iteF ?_
    have hx1 := s1 _ _ hx
    refine call5 hx1 c.cl c.t c.s c.p flds4_t flds4_s flds4_p rfl rfl rfl (hb.same s1) (an.t.same s1) (an.s.same s1) ⟨lr.pr, lr.r, lr.l1, lo, lr.l3⟩ fun H2 s2 => ?_
    have := q H2 (s1.trans s2)
    unfold anoB at this
    rw [e, decide_eq_true hl, decide_eq_false he] at this
    exact this
  · refine iteYd (fun z => hl (by injection z with z'; omega)) ?_
    have := q H (Same.refl _)
    unfold anoB at this
    rw [decide_eq_false hl] at this
    exact this
theorem scUnlike : FnScope ["prime", "row", "found", "shift", "other"] ["prime", "row"] (defScope sUnlike) := ⟨rfl, rfl, rfl, by decide +kernel, rfl, by decide +kernel, by decide +kernel⟩
theorem ok_unlike (D : Def K mg "unlike" sUnlike ["prime", "row"] f fd) (o : Own mg) (DL : Def K mg "least" sLeast ["prime", "row"] g gd) (GL : FnOk P w K mg base CX0 6 g gd ["prime", "row"] (spLeast C)) (DS : Def K mg "is_sole" sSole ["rule", "row"] g2 gd2) (GS : FnOk P w K mg base CX0 1 g2 gd2 ["rule", "row"] spSole)
    (DX : Def K mg "mixed" sMixed ["prime", "rule", "shorter", "shift", "share"] g3 gd3) (GX : FnOk P w K mg base CX0 1 g3 gd3 ["prime", "rule", "shorter", "shift", "share"] spMixed) (c : Cl3 K C)
    (MO : Mk K CO g4) (mO : mg "Only" = some (.ref CO)) (GO : FnOk P w K mg base CX0 1 g4 gd4 ["self", "rule", "shorter", "place"] (spInit3 CO)) (bO : Binds K gd4 ["self", "rule", "shorter", "place"] [])
    (MA : Mk K CA g5) (mA : mg "Another" = some (.ref CA)) (GA : FnOk P w K mg base CX0 1 g5 gd5 ["self", "one", "other", "shorter", "place"] (spInit4 CA)) (bA : Binds K gd5 ["self", "one", "other", "shorter", "place"] []) : FnOk P w K mg base CX0 7 f fd ["prime", "row"] (spUnlike CO CA) := by
  refine D.F.ok scUnlike (fun vs H Q E h => ?_) (fun cdv A outer s H vs Q E hr h => ?_)
  · obtain ⟨p, b, row, rfl, _⟩ := h
    rfl
  obtain ⟨p, b, row, rfl, hb, h7, hR, hl, q1, q2⟩ := h
  refine ⟨_, pss_cons (ps_set (i := 2) scUnlike.nd rfl (Or.inl rfl) (pcall DL GL hr (pa_cons (pv 0) (pa_cons (pv 1) pa_nil))))
    (pss_cons (ps_if (pt_val (pcall DS GS hr (pa_cons (pe_fld (pv 2) rfl) (pa_cons (pv 1) pa_nil)))) (pss_one (ps_ret (pe_make MO GO (hr.mono (by decide)) rfl mO bO .nil pass0 (pa_cons (pe_fld (pv 2) rfl) (pa_cons (pe_fld (pv 2) rfl) (pa_cons (pe_fld (pv 2) rfl) pa_nil)))))) pss_nil)
    (pss_cons (ps_set (i := 3) scUnlike.nd rfl (Or.inl rfl) (pe_op op_sub (plen o (pe_fld (pv 2) rfl)) (plen o (pe_fld (pv 2) rfl))))
    (pss_cons (ps_set (i := 4) scUnlike.nd rfl (Or.inl rfl) (pcall DX GX hr (pa_cons (pv 0) (pa_cons (pe_fld (pv 2) rfl) (pa_cons (pe_fld (pv 2) rfl) (pa_cons (pv 3) (pa_cons pint pa_nil)))))))
    (pss_one (ps_ret (pe_make MA GA (hr.mono (by decide)) rfl mA bA .nil pass0 (pa_cons (pe_fld (pv 2) rfl) (pa_cons (pv 4) (pa_cons (pe_fld (pv 2) rfl) (pa_cons (pe_fld (pv 2) rfl) pa_nil)))))))))), ?_⟩
  have pok := h7.ok
  have hp := pok.pos
  have hp1 := h7.two
  have hp2 := pok.2.1
  refine ⟨_, rfl, _, rfl, p, b, row, rfl, hb, h7, hR, hl, fun y r t H1 rule shorter pl miss s1 ny nr nt an bm => ?_⟩
  obtain ⟨dx, hy⟩ := an.ob
  have bl := bm.len
  have bl2 := bm.len2
  refine ⟨_, rfl, y, C, dx, _, _, rfl, hy, c.cl, c.r, flds3_r, _, rfl, r, b, rule, row, rfl, an.r, hb.same s1, by omega, by omega, _, rfl, ?_⟩
  cases e : soleB row rule with
  | true =>
    have e' : 2 * rule.length ≤ row.length := by
      have := of_decide_eq_true e
      omega
    refine iteT ?_
    refine ⟨_, rfl, y, C, dx, _, _, rfl, hy, c.cl, c.r, flds3_r, _, rfl, y, C, dx, _, _, rfl, hy, c.cl, c.s, flds3_s, _, rfl, y, C, dx, _, _, rfl, hy, c.cl, c.p, flds3_p, fun x dx2 nx ndx nex => ?_⟩
    refine ⟨x, r, t, pl, dx2, rule, shorter, rfl, upd_same, an.r.same (make_same nx ndx), an.s.same (make_same nx ndx), fun r2 t2 H' n1 n2 an2 kp => ⟨rfl, ?_⟩⟩
    exact q1 x r2 t2 H' rule shorter pl miss (s1.trans (made_same nx ndx kp)) (s1.free nx) (s1.free (make_free nx ndx n1)) (s1.free (make_free nx ndx n2)) an2 bm e'
  | false =>
    have e' : row.length < 2 * rule.length := by
      have := of_decide_eq_false e
      omega
    have hst : shorter.length < rule.length := by
      rcases bm.st with ⟨z, _⟩ | ⟨_, _, _, z, _⟩
      · rw [z] at e'
        exact absurd e' (by simp)
      · exact z
    refine iteF ?_
    refine ⟨_, rfl, y, C, dx, _, _, rfl, hy, c.cl, c.r, flds3_r, r, _, rfl, .inl an.r.sq, _, rfl, y, C, dx, _, _, rfl, hy, c.cl, c.s, flds3_s, t, _, rfl, .inl an.s.sq, _, _, rfl, rfl, ?_⟩
    rw [List.length_map, List.length_map]
    refine ⟨_, rfl, _, rfl, y, C, dx, _, _, rfl, hy, c.cl, c.r, flds3_r, _, rfl, y, C, dx, _, _, rfl, hy, c.cl, c.s, flds3_s, _, rfl, p, r, t, rule, shorter, rule.length - shorter.length, 1, congrArg (fun z => [V.int p, V.ref r, V.ref t, V.int z, V.int 1]) (by omega), an.r, an.s, hp, by omega, bm.r1, bm.r2, by omega, by omega, by omega, by omega, by omega, by omega, fun m H2 s2 nm hm => ?_⟩
    have hy2 := s2 _ _ hy
    have an2 := an.same s2
    have s12 := s1.trans s2
    refine ⟨_, rfl, y, C, dx, _, _, rfl, hy2, c.cl, c.r, flds3_r, _, rfl, _, rfl, y, C, dx, _, _, rfl, hy2, c.cl, c.s, flds3_s, _, rfl, y, C, dx, _, _, rfl, hy2, c.cl, c.p, flds3_p, fun x dx2 nx ndx nex => ?_⟩
    refine ⟨x, r, m, t, pl, dx2, rule, _, shorter, rfl, upd_same, an2.r.same (make_same nx ndx), hm.same (make_same nx ndx), an2.s.same (make_same nx ndx), fun r2 u2 t2 H' n1 n2 n3 an3 kp => ⟨rfl, ?_⟩⟩
    exact q2 x r2 u2 t2 H' rule _ shorter pl miss (s12.trans (made_same nx ndx kp)) (s12.free nx) (s12.free (make_free nx ndx n1)) (s12.free (make_free nx ndx n2)) (s12.free (make_free nx ndx n3)) an3 bm e' rfl
end
end Rr

set_option Elab.async false
set_option linter.all false
set_option maxRecDepth 100000
set_option maxHeartbeats 1600000
namespace Rr
open PySem L2 RM
theorem cut_last {ns : List Int} : cutV (ns.map V.int) none (some (-1)) = (ns.take (ns.length - 1)).map V.int := by
  have e : HT.sIx (ns.map V.int).length (ns.map V.int).length (some (-1)) = ns.length - 1 := by
    show (if (-1 : Int) < 0 then ((-1 : Int) + ((ns.map V.int).length : Int)).toNat else min (-1 : Int).toNat (ns.map V.int).length) = ns.length - 1
    rw [if_pos (by decide), List.length_map]
    omega
  unfold cutV
  rw [e, HT.sIx_none, Nat.sub_zero, List.drop_zero, List.map_take]
theorem sqt_same {K : PySem.W.Frag} {H H' : Hp} {a : Addr} {xs : List V} (e : Same H H') (h : SqT K H a xs) : SqT K H' a xs := by
  rcases h with (h | ⟨o, h⟩) | h
  · exact .inl (.inl (e _ _ h))
  · exact .inl (.inr ⟨o, e _ _ h⟩)
  · exact .inr h
def spSays : Sp := fun vs H Q _ => ∃ (x y : Bool), vs = [.bl x, .bl y] ∧ Q (.bl (decide (x = y))) H
def spBent : Sp := fun vs H Q _ => ∃ (a : Addr) (c : Int) (p : Int) (l : List Int), vs = [.ref a, .int c, .int p] ∧ Ls H a l ∧ l.length ≤ 90 ∧ 0 < p ∧ ∀ (r : Addr) (H' : Hp) (l' : List Int), Same H H' → H r = none → Ls H' r l' → l'.length ≤ l.length + 1 → Q (.ref r) H'
section
variable {P : Program} {w : World} {K : PySem.W.Frag} {mg : Str → Option Value} {base : Heap} {f g g2 g3 g4 : Addr} {fd gd gd2 gd3 gd4 : FuncData}
theorem scSays : FnScope ["_law_said", "_law_due_here"] ["_law_said", "_law_due_here"] (defScope lSays) := ⟨rfl, rfl, rfl, by decide +kernel, rfl, by decide +kernel, by decide +kernel⟩
theorem ok_says (D : Def K mg "_law_says" lSays ["_law_said", "_law_due_here"] f fd) (o : Own mg) : FnOk P w K mg base CX0 1 f fd ["_law_said", "_law_due_here"] spSays := by
  refine D.F.ok scSays (fun vs H Q E h => ?_) (fun cdv A outer s H vs Q E hr h => ?_)
  · obtain ⟨x, y, rfl, _⟩ := h
    rfl
  obtain ⟨x, y, rfl, q⟩ := h
  refine ⟨_, pss_one (ps_ret (pe_and (pe_callB call_isi rfl o.isinstance boot_isi (pa_cons (pv 0) (pa_cons (pe_ty rfl o.bool boot_boolT) pa_nil))) (pe_one (pe_cmpR op_eq (pv 0) (pv 1) (nomark _))))), ?_⟩
  refine ⟨_, rfl, _, _, _, _, rfl, TyOf.bl _, kit_bool_bool _, true, rfl, iteT ?_⟩
  refine ⟨_, rfl, _, rfl, rfl, ?_⟩
  show Q (.bl (decide (V.bl x = V.bl y))) H
  have e : decide (V.bl x = V.bl y) = decide (x = y) := by
    by_cases h : x = y
    · rw [decide_eq_true h, decide_eq_true (by rw [h])]
    · rw [decide_eq_false h, decide_eq_false (fun z => h (by injection z))]
  rw [e]
  exact q
theorem scBent : FnScope ["_law_some", "_law_cell", "_law_prime_here", "_law_kind", "_law_at"] ["_law_some", "_law_cell", "_law_prime_here"] (defScope lBent) := ⟨rfl, rfl, rfl, by decide +kernel, rfl, by decide +kernel, by decide +kernel⟩
theorem ok_bent (D : Def K mg "_law_bent" lBent ["_law_some", "_law_cell", "_law_prime_here"] f fd) (o : Own mg) (DD : Def K mg "_law_draw" lDraw ["_law_cell", "_law_k", "_law_many"] g gd) (GD : FnOk P w K mg base CX0 1 g gd ["_law_cell", "_law_k", "_law_many"] spDraw) :
    FnOk P w K mg base CX0 2 f fd ["_law_some", "_law_cell", "_law_prime_here"] spBent := by
  refine D.F.ok scBent (fun vs H Q E h => ?_) (fun cdv A outer s H vs Q E hr h => ?_)
  · obtain ⟨a, c, p, l, rfl, _⟩ := h
    rfl
  obtain ⟨a, c, p, l, rfl, ha, hl, hp, q⟩ := h
  have hu := hr.units
  refine ⟨_, pss_cons (ps_par (i := 3) (j := 4) rfl scBent.nd rfl rfl (by decide) rfl rfl (pa_cons (pcall DD GD hr (pa_cons (pv 1) (pa_cons pint (pa_cons pint pa_nil)))) (pa_cons (pcall DD GD hr (pa_cons (pv 1) (pa_cons pint (pa_cons (pe_callB (call_max2 rfl) rfl o.max boot_maxB (pa_cons pint (pa_cons (plen o (pv 0)) pa_nil))) pa_nil)))) pa_nil)) (by kernel_rfl))
    (pss_cons (ps_if (PW.pt (pw_and (pt_cmpR op_eq (pv 3) pint (nomark _)) (pw_and1 (pt_cmpR (op_neL hu) (pv 0) (pe_lst pa_nil) (nomark _))))) (pss_one (ps_ret (pe_op op_cat (pe_op op_cat (pe_slice sl_list (pv 0) po_none (po_some (pv 4))) (pe_lst (pa_cons (pe_op op_mod (pe_op op_add (pe_ix ix_list (pv 0) (pv 4) (fun _ _ => rfl)) pint) (pv 2)) pa_nil))) (pe_slice sl_list (pv 0) (po_some (pe_op op_add (pv 4) pint)) po_none)))) pss_nil)
    (pss_cons (ps_if (pt_cmpR op_eq (pv 3) pint (nomark _)) (pss_one (ps_ret (pe_op op_cat (pv 0) (pe_lst (pa_cons (pcall DD GD hr (pa_cons (pv 1) (pa_cons pint (pa_cons pint pa_nil)))) pa_nil))))) pss_nil)
    (pss_cons (ps_if (pt_cmpR op_eq (pv 3) pint (nomark _)) (pss_one (ps_ret (pe_slice sl_list (pv 0) po_none (po_some (pe_un un_neg pint))))) pss_nil)
    (pss_cons (ps_if (pt_cmpR op_eq (pv 3) pint (nomark _)) (pss_one (ps_ret (pe_sliceRev (pv 0) (pe_un un_neg pint)))) pss_nil)
    (pss_cons (ps_if (PW.pt (pw_and (pt_cmpR op_eq (pv 3) pint (nomark _)) (pw_and1 (pt_cmpR (op_neL hu) (pv 0) (pe_lst pa_nil) (nomark _))))) (pss_one (ps_ret (pe_op op_cat (pe_op op_cat (pe_slice sl_list (pv 0) po_none (po_some (pv 4))) (pe_lst (pa_cons (pe_op op_add (pe_ix ix_list (pv 0) (pv 4) (fun _ _ => rfl)) (pe_ix ix_tup (pe_tup (pa_cons (pv 2) (pa_cons (pe_un un_neg (pv 2)) pa_nil))) (pcall DD GD hr (pa_cons (pv 1) (pa_cons pint (pa_cons pint pa_nil)))) (fun _ _ => rfl))) pa_nil))) (pe_slice sl_list (pv 0) (po_some (pe_op op_add (pv 4) pint)) po_none)))) pss_nil)
    (pss_cons (ps_if (pt_cmpR op_eq (pv 3) pint (nomark _)) (pss_one (ps_ret (pe_lst pa_nil))) pss_nil)
    (pss_one (ps_ret (pe_callTy call_list_of rfl o.list boot_listT (pa_cons (pv 0) pa_nil)))))))))), ?_⟩
  refine ⟨_, rfl, c, 1, 9, rfl, by decide, fun kd H1 k0 k1 s1 => ?_⟩
  have ha1 := ha.same s1
  have eM : (if ((l.map V.int).length : Int) > 1 then ((l.map V.int).length : Int) else 1) = ((max 1 l.length : Nat) : Int) := by
    rw [List.length_map]
    split <;> omega
  refine ⟨_, rfl, _, rfl, a, _, rfl, .inl ha1.sq, _, _, rfl, ?_⟩
  rw [eM]
  refine ⟨c, 2, _, rfl, by omega, fun at' H2 a0 a1 s2 => ?_⟩
  obtain ⟨n, rfl⟩ : ∃ n : Nat, at' = (n : Int) := ⟨at'.toNat, by omega⟩
  have t2 := s1.trans s2
  have ha2 := ha.same t2
  clear ha1
  refine ⟨_, _, rfl, ?_⟩
  have ne : ∀ {m : Int}, kd ≠ m → ¬ (V.int kd = V.int m) := fun h z => h (by injection z)
  by_cases h1 : kd = 1
  · refine ⟨_, rfl, rfl, _, rfl, iteTd (congrArg V.int h1) ?_⟩
    refine ⟨_, rfl, Nat.zero_le _, fun z nz => ?_⟩
    have w0 := same_new nz (.lst [])
    have tX := t2.trans w0
    have hA := ha.same tX
    have hz0 : Ls (upd H2 z (.lst [])) z [] := upd_same
    generalize upd H2 z (.lst []) = HX at tX hA hz0 ⊢
    refine ⟨a, z, l, [], rfl, rfl, hA.sq, hz0.sq, _, rfl, ?_⟩
    by_cases h0 : l = []
    · refine iteNd h0 ?_
      refine ⟨_, rfl, rfl, _, rfl, iteFd (ne (by omega)) ?_⟩
      refine ⟨_, rfl, rfl, _, rfl, iteFd (ne (by omega)) ?_⟩
      refine ⟨_, rfl, rfl, _, rfl, iteFd (ne (by omega)) ?_⟩
      refine ⟨_, rfl, rfl, _, rfl, iteFd (ne (by omega)) (iteF ?_)⟩
      refine ⟨_, rfl, rfl, _, rfl, iteFd (ne (by omega)) ?_⟩
      refine ⟨_, rfl, a, _, rfl, .inl hA.sq, fun r nr => ?_⟩
      exact q r _ l (tX.trans (same_new nr _)) (tX.free nr) (Ls.new rfl) (by omega)
    · refine iteYd h0 ?_
      have hn : n < l.length := by have := List.length_pos_iff.mpr h0; omega
      refine ⟨_, rfl, _, rfl, _, rfl, a, _, rfl, hA.sq, fun c1 m1 => ?_⟩
      rw [cut_to]
      have w1 := same_new m1 (.lst ((l.take n).map V.int))
      have e1 : Ls (upd HX c1 (.lst ((l.take n).map V.int))) c1 (l.take n) := Ls.new rfl
      have hA1 := hA.same w1
      have tX1 := tX.trans w1
      generalize upd HX c1 (.lst ((l.take n).map V.int)) = HX1 at e1 hA1 tX1 ⊢
      refine ⟨_, rfl, _, rfl, a, _, _, _, rfl, rfl, hA1.sq, atI_int rfl hn, _, _, rfl, rfl, _, rfl, _, _, rfl, rfl, hp, (by show 1 ≤ sizeLine; decide), fun z1 mz => ?_⟩
      have hAV := hA1
      have tXV := tX1
      have w2 := same_new mz (.lst [.int ((gt l n + 1) % p)])
      refine ⟨c1, z1, _, _, rfl, rfl, e1.same w2, upd_same, (by rw [List.length_map, List.length_take]; exact small (by show min n l.length + 1 ≤ 10000; omega)), fun c2 m2 => ?_⟩
      have w3 := w2.trans (same_new m2 (.lst ((l.take n).map V.int ++ [.int ((gt l n + 1) % p)])))
      have e2 : Ls (upd (upd HX1 z1 (.lst [.int ((gt l n + 1) % p)])) c2 (.lst ((l.take n).map V.int ++ [.int ((gt l n + 1) % p)]))) c2 (l.take n ++ [(gt l n + 1) % p]) := Ls.new (by rw [List.map_append]; rfl)
      have hA3 := hAV.same w3
      have tX3 := tXV.trans w3
      generalize upd (upd HX1 z1 (.lst [.int ((gt l n + 1) % p)])) c2 (.lst ((l.take n).map V.int ++ [.int ((gt l n + 1) % p)])) = HX3 at e2 hA3 tX3 ⊢
      refine ⟨_, rfl, _, rfl, _, _, rfl, rfl, _, rfl, a, _, rfl, hA3.sq, fun c3 m3 => ?_⟩
      rw [show cutV (l.map V.int) (some ((n : Int) + 1)) none = (l.drop (n + 1)).map V.int from cut_fromA (lo := n + 1)]
      have w4 := same_new m3 (.lst ((l.drop (n + 1)).map V.int))
      refine ⟨c2, c3, _, _, rfl, rfl, e2.same w4, upd_same, (by rw [List.length_map, List.length_map, List.length_append, List.length_take, List.length_drop]; exact small (by show min n l.length + 1 + (l.length - (n + 1)) ≤ 10000; omega)), fun r nr => ?_⟩
      have tX5 := (tX3.trans w4).trans (same_new nr (.lst ((l.take n ++ [(gt l n + 1) % p]).map V.int ++ (l.drop (n + 1)).map V.int)))
      refine q r _ (l.take n ++ [(gt l n + 1) % p] ++ l.drop (n + 1)) tX5 ((tX3.trans w4).free nr) (Ls.new (by rw [List.map_append (l₁ := l.take n ++ [(gt l n + 1) % p])])) ?_
      rw [List.length_append, List.length_append, List.length_take, List.length_drop]
      show min n l.length + 1 + (l.length - (n + 1)) ≤ l.length + 1
      omega
  refine ⟨_, rfl, rfl, _, rfl, iteFd (ne h1) (iteF ?_)⟩
  by_cases h2 : kd = 2
  · refine ⟨_, rfl, rfl, _, rfl, iteTd (congrArg V.int h2) ?_⟩
    refine ⟨_, rfl, _, rfl, c, 3, 2, rfl, by decide, fun v HV v0 v2 sv => ⟨(by show 1 ≤ sizeLine; decide), fun z1 mz => ?_⟩⟩
    have w1 := sv.trans (same_new mz (.lst [.int v]))
    have tX := t2.trans w1
    refine ⟨a, z1, _, _, rfl, rfl, ha.same tX, upd_same, (by rw [List.length_map]; exact small (by show l.length + 1 ≤ 10000; omega)), fun r nr => ?_⟩
    exact q r _ (l ++ [v]) (tX.trans (same_new nr _)) (tX.free nr) (Ls.new (by rw [List.map_append]; rfl)) (by rw [List.length_append]; exact Nat.le_refl _)
  refine ⟨_, rfl, rfl, _, rfl, iteFd (ne h2) ?_⟩
  by_cases h3 : kd = 3
  · refine ⟨_, rfl, rfl, _, rfl, iteTd (congrArg V.int h3) ?_⟩
    refine ⟨_, rfl, _, rfl, _, rfl, a, _, rfl, ha2.sq, fun r nr => ?_⟩
    rw [cut_last]
    exact q r _ _ (t2.trans (same_new nr _)) (t2.free nr) (Ls.new rfl) (by rw [List.length_take]; omega)
  refine ⟨_, rfl, rfl, _, rfl, iteFd (ne h3) ?_⟩
  by_cases h4 : kd = 4
  · refine ⟨_, rfl, rfl, _, rfl, iteTd (congrArg V.int h4) ?_⟩
    refine ⟨_, rfl, _, rfl, rfl, a, _, rfl, ha2.sq, fun r nr => ?_⟩
    rw [← List.map_reverse]
    exact q r _ _ (t2.trans (same_new nr _)) (t2.free nr) (Ls.new rfl) (by rw [List.length_reverse]; omega)
  refine ⟨_, rfl, rfl, _, rfl, iteFd (ne h4) ?_⟩
  by_cases h5 : kd = 5
  · refine ⟨_, rfl, rfl, _, rfl, iteTd (congrArg V.int h5) ?_⟩
    refine ⟨_, rfl, Nat.zero_le _, fun z nz => ?_⟩
    have w0 := same_new nz (.lst [])
    have tX := t2.trans w0
    have hA := ha.same tX
    have hz0 : Ls (upd H2 z (.lst [])) z [] := upd_same
    generalize upd H2 z (.lst []) = HX at tX hA hz0 ⊢
    refine ⟨a, z, l, [], rfl, rfl, hA.sq, hz0.sq, _, rfl, ?_⟩
    by_cases h0 : l = []
    · refine iteNd h0 ?_
      refine ⟨_, rfl, rfl, _, rfl, iteFd (ne (by omega)) ?_⟩
      refine ⟨_, rfl, a, _, rfl, .inl hA.sq, fun r nr => ?_⟩
      exact q r _ l (tX.trans (same_new nr _)) (tX.free nr) (Ls.new rfl) (by omega)
    · refine iteYd h0 ?_
      have hn : n < l.length := by have := List.length_pos_iff.mpr h0; omega
      refine ⟨_, rfl, _, rfl, _, rfl, a, _, rfl, hA.sq, fun c1 m1 => ?_⟩
      rw [cut_to]
      have w1 := same_new m1 (.lst ((l.take n).map V.int))
      have e1 : Ls (upd HX c1 (.lst ((l.take n).map V.int))) c1 (l.take n) := Ls.new rfl
      have hA1 := hA.same w1
      have tX1 := tX.trans w1
      generalize upd HX c1 (.lst ((l.take n).map V.int)) = HX1 at e1 hA1 tX1 ⊢
      refine ⟨_, rfl, _, rfl, a, _, _, _, rfl, rfl, hA1.sq, atI_int rfl hn, _, rfl, _, rfl, _, rfl, (by show 2 ≤ sizeLine; decide), fun tt ntt => ?_⟩
      have w6 := same_new ntt (.tup [.int p, .int (-p)])
      have ett : SqT K (upd HX1 tt (.tup [.int p, .int (-p)])) tt ([p, -p].map V.int) := SqT.of upd_same
      have e1 := e1.same w6
      have hA6 := hA1.same w6
      have tX6 := tX1.trans w6
      generalize upd HX1 tt (.tup [.int p, .int (-p)]) = HX6 at e1 hA6 tX6 ett ⊢
      refine ⟨_, rfl, c, 4, 2, rfl, by decide, fun v HV v0 v2 sv => ?_⟩
      obtain ⟨m, rfl⟩ : ∃ m : Nat, v = (m : Int) := ⟨v.toNat, by omega⟩
      have e1 := e1.same sv
      have hAV := hA6.same sv
      have tXV := tX6.trans sv
      refine ⟨tt, _, _, _, rfl, rfl, sqt_same sv ett, atI_int rfl (by show m < 2; omega), _, _, rfl, rfl, (by show 1 ≤ sizeLine; decide), fun z1 mz => ?_⟩
      have w2 := same_new mz (.lst [.int (gt l n + gt [p, -p] m)])
      refine ⟨c1, z1, _, _, rfl, rfl, e1.same w2, upd_same, (by rw [List.length_map, List.length_take]; exact small (by show min n l.length + 1 ≤ 10000; omega)), fun c2 m2 => ?_⟩
      have w3 := w2.trans (same_new m2 (.lst ((l.take n).map V.int ++ [.int (gt l n + gt [p, -p] m)])))
      have e2 : Ls (upd (upd HV z1 (.lst [.int (gt l n + gt [p, -p] m)])) c2 (.lst ((l.take n).map V.int ++ [.int (gt l n + gt [p, -p] m)]))) c2 (l.take n ++ [gt l n + gt [p, -p] m]) := Ls.new (by rw [List.map_append]; rfl)
      have hA3 := hAV.same w3
      have tX3 := tXV.trans w3
      generalize upd (upd HV z1 (.lst [.int (gt l n + gt [p, -p] m)])) c2 (.lst ((l.take n).map V.int ++ [.int (gt l n + gt [p, -p] m)])) = HX3 at e2 hA3 tX3 ⊢
      refine ⟨_, rfl, _, rfl, _, _, rfl, rfl, _, rfl, a, _, rfl, hA3.sq, fun c3 m3 => ?_⟩
      rw [show cutV (l.map V.int) (some ((n : Int) + 1)) none = (l.drop (n + 1)).map V.int from cut_fromA (lo := n + 1)]
      have w4 := same_new m3 (.lst ((l.drop (n + 1)).map V.int))
      refine ⟨c2, c3, _, _, rfl, rfl, e2.same w4, upd_same, (by rw [List.length_map, List.length_map, List.length_append, List.length_take, List.length_drop]; exact small (by show min n l.length + 1 + (l.length - (n + 1)) ≤ 10000; omega)), fun r nr => ?_⟩
      have tX5 := (tX3.trans w4).trans (same_new nr (.lst ((l.take n ++ [gt l n + gt [p, -p] m]).map V.int ++ (l.drop (n + 1)).map V.int)))
      refine q r _ (l.take n ++ [gt l n + gt [p, -p] m] ++ l.drop (n + 1)) tX5 ((tX3.trans w4).free nr) (Ls.new (by rw [List.map_append (l₁ := l.take n ++ [gt l n + gt [p, -p] m])])) ?_
      rw [List.length_append, List.length_append, List.length_take, List.length_drop]
      show min n l.length + 1 + (l.length - (n + 1)) ≤ l.length + 1
      omega
  refine ⟨_, rfl, rfl, _, rfl, iteFd (ne h5) (iteF ?_)⟩
  have tX := t2
  have hA := ha2
  by_cases h6 : kd = 6
  · refine ⟨_, rfl, rfl, _, rfl, iteTd (congrArg V.int h6) ⟨Nat.zero_le _, fun r nr => ?_⟩⟩
    exact q r _ [] (t2.trans (same_new nr _)) (t2.free nr) upd_same (Nat.zero_le _)
  refine ⟨_, rfl, rfl, _, rfl, iteFd (ne h6) ?_⟩
  refine ⟨_, rfl, a, _, rfl, .inl hA.sq, fun r nr => ?_⟩
  exact q r _ l (tX.trans (same_new nr _)) (tX.free nr) (Ls.new rfl) (by omega)
end
end Rr

set_option Elab.async false
set_option linter.all false
set_option maxRecDepth 100000
set_option maxHeartbeats 3200000
namespace Rr
open PySem L2 RM
def spRight5 : Sp := fun vs H Q _ => ∃ (p : Int) (b : Addr) (a : Addr) (c : Addr) (row : List Int) (rule : List Int) (shorter : List Int) (pl : Int), vs = [.int p, .ref b, .ref a, .ref c, .int pl] ∧ Ls H b row ∧ Ls H a rule ∧ Ls H c shorter ∧ LR p row rule shorter ∧ ∀ H', Same H H' → Q (.bl true) H'
def spARight5 : Sp := fun vs H Q _ => ∃ (p : Int) (b : Addr) (a : Addr) (d : Addr) (c : Addr) (row : List Int) (one : List Int) (other : List Int) (shorter : List Int) (pl : Int), vs = [.int p, .ref b, .ref a, .ref d, .ref c, .int pl] ∧ Ls H b row ∧ Ls H a one ∧ Ls H d other ∧ Ls H c shorter ∧ LR p row one shorter ∧ other.length ≤ 100 ∧ ∀ H', Same H H' → Q (.bl true) H'
/-- the classes of answers, as they are made and asked -/
structure Make3 (P : Program) (w : World) (K : PySem.W.Frag) (mg : Str → Option Value) (base : Heap) (x : Str) (C fi fs : Addr) (di ds : FuncData) (sp : Sp) : Prop where
  c : Cl3 K C
  M : Mk K C fi
  m : mg x = some (.ref C)
  G : FnOk P w K mg base CX0 1 fi di ["self", "rule", "shorter", "place"] (spInit3 C)
  b : Binds K di ["self", "rule", "shorter", "place"] []
  mS : Meth K C "shows" fs
  GS : FnOk P w K mg base CX0 8 fs ds ["self", "prime", "row"] sp
  bS : Binds K ds ["self", "prime", "row"] []
structure Make4 (P : Program) (w : World) (K : PySem.W.Frag) (mg : Str → Option Value) (base : Heap) (x : Str) (C fi fs : Addr) (di ds : FuncData) (sp : Sp) : Prop where
  c : Cl4 K C
  M : Mk K C fi
  m : mg x = some (.ref C)
  G : FnOk P w K mg base CX0 1 fi di ["self", "one", "other", "shorter", "place"] (spInit4 C)
  b : Binds K di ["self", "one", "other", "shorter", "place"] []
  mS : Meth K C "shows" fs
  GS : FnOk P w K mg base CX0 8 fs ds ["self", "prime", "row"] sp
  bS : Binds K ds ["self", "prime", "row"] []
theorem Ls.keep {H : Hp} {a b : Addr} {ns : List Int} {o : HO} (h : Ls H a ns) (n : a ≠ b) : Ls (upd H b o) a ns := by
  unfold Ls
  rw [upd_ne n]
  exact h
theorem Ans3.keep {C : Addr} {H : Hp} {x r s b : Addr} {rule shorter : List Int} {pl : Int} {o : HO} (h : Ans3 C H x r s rule shorter pl) (n1 : x ≠ b) (n2 : r ≠ b) (n3 : s ≠ b) : Ans3 C (upd H b o) x r s rule shorter pl :=
  ⟨let ⟨dx, e⟩ := h.ob; ⟨dx, by rw [upd_ne n1]; exact e⟩, h.r.keep n2, h.s.keep n3, h.ne⟩
theorem Ans4.keep {C : Addr} {H : Hp} {x r t s b : Addr} {one other shorter : List Int} {pl : Int} {o : HO} (h : Ans4 C H x r t s one other shorter pl) (n1 : x ≠ b) (n2 : r ≠ b) (n3 : t ≠ b) (n4 : s ≠ b) : Ans4 C (upd H b o) x r t s one other shorter pl :=
  ⟨let ⟨dx, e⟩ := h.ob; ⟨dx, by rw [upd_ne n1]; exact e⟩, h.r.keep n2, h.t.keep n3, h.s.keep n4, h.n1, h.n2, h.n3⟩
theorem ne_ins {H : Hp} {x b C dx : Addr} {fs : List (Str × V)} {xs : List V} (h : H x = some (.ins C dx fs)) (h2 : H b = some (.lst xs)) : x ≠ b := ne_of h h2 (by intro z; cases z)
section
variable {P : Program} {w : World} {K : PySem.W.Frag} {mg : Str → Option Value} {base : Heap} {f g g2 C1 f1 f2 C2 f3 f4 : Addr} {fd gd gd2 d1 d2 d3 d4 : FuncData}
theorem scRight : FnScope ["_law_prime_here", "_law_row_here", "_law_rule", "_law_shorter", "_law_place", "_law_good", "_law_which", "_law_handed", "_law_answer"] ["_law_prime_here", "_law_row_here", "_law_rule", "_law_shorter", "_law_place"] (defScope lRight) := ⟨rfl, rfl, rfl, by decide +kernel, rfl, by decide +kernel, by decide +kernel⟩
theorem ok_right5 (D : Def K mg "_law_right" lRight ["_law_prime_here", "_law_row_here", "_law_rule", "_law_shorter", "_law_place"] f fd) (o : Own mg) (DL : Def K mg "_law_least" lLeast ["_law_prime_here", "_law_row_here", "_law_rule", "_law_shorter", "_law_place"] g gd)
    (GL : FnOk P w K mg base CX0 3 g gd ["_law_prime_here", "_law_row_here", "_law_rule", "_law_shorter", "_law_place"] spIsLeast) (DS : Def K mg "_law_says" lSays ["_law_said", "_law_due_here"] g2 gd2) (GS : FnOk P w K mg base CX0 1 g2 gd2 ["_law_said", "_law_due_here"] spSays)
    (L : Make3 P w K mg base "Least" C1 f1 f2 d1 d2 (spShows C1)) (O : Make3 P w K mg base "Only" C2 f3 f4 d3 d4 (spShowsO C2)) : FnOk P w K mg base CX0 9 f fd ["_law_prime_here", "_law_row_here", "_law_rule", "_law_shorter", "_law_place"] spRight5 := by
  refine D.F.ok scRight (fun vs H Q E h => ?_) (fun cdv A outer s H vs Q E hr h => ?_)
  · obtain ⟨p, b, a, c, row, rule, shorter, pl, rfl, _⟩ := h
    rfl
  obtain ⟨p, b, a, c, row, rule, shorter, pl, rfl, hb, ha, hc, lr, q⟩ := h
  have hu := hr.units
  refine ⟨_, pss_cons (ps_set (i := 5) scRight.nd rfl (Or.inl rfl) (pcall DL GL hr (pa_cons (pv 0) (pa_cons (pv 1) (pa_cons (pv 2) (pa_cons (pv 3) (pa_cons (pv 4) pa_nil)))))))
    (pss_cons (ps_for PassesOwn.never rfl (pi_tup (pe_tup (pa_cons pint (pa_cons pint pa_nil)))) (pgn 6)
      (pss_cons (ps_set (i := 7) scRight.nd rfl (Or.inl rfl) (pe_lst (pa_cons (pe_callTy call_list_of rfl o.list boot_listT (pa_cons (pv 2) pa_nil)) (pa_cons (pe_callTy call_list_of rfl o.list boot_listT (pa_cons (pv 3) pa_nil)) pa_nil))))
      (pss_cons (ps_set (i := 8) scRight.nd rfl (Or.inl rfl) (pe_ifExp (pt_cmpR op_eq (pv 6) pint (nomark _)) (pe_make L.M L.G (hr.mono (by decide)) rfl L.m L.b .nil pass0 (pa_cons (pe_ix ix_list (pv 7) pint (fun _ _ => rfl)) (pa_cons (pe_ix ix_list (pv 7) pint (fun _ _ => rfl)) (pa_cons (pv 4) pa_nil)))) (pe_make O.M O.G (hr.mono (by decide)) rfl O.m O.b .nil pass0 (pa_cons (pe_ix ix_list (pv 7) pint (fun _ _ => rfl)) (pa_cons (pe_ix ix_list (pv 7) pint (fun _ _ => rfl)) (pa_cons (pv 4) pa_nil))))))
      (pss_cons (ps_expr (pe_bm PySem.F.plainAttrs_list PySem.F.slot_list_append PySem.F.type_list_append mt_append (pe_ix ix_list (pv 7) pint (fun _ _ => rfl)) (pa_cons pint pa_nil)))
      (pss_cons (ps_expr (pe_bm PySem.F.plainAttrs_list PySem.F.slot_list_append PySem.F.type_list_append mt_append (pe_ix ix_list (pv 7) pint (fun _ _ => rfl)) (pa_cons pint pa_nil)))
      (pss_cons (ps_if (PW.pt (pw_or (pt_cmpR (op_neL hu) (pe_fld (pv 8) rfl) (pv 2) (nomark _)) (pw_or (pt_cmpR (op_neL hu) (pe_fld (pv 8) rfl) (pv 3) (nomark _)) (pw_or1 (pt_cmpR op_ne (pe_fld (pv 8) rfl) (pv 4) (nomark _)))))) (pss_one (ps_ret pe_bl)) pss_nil)
      (pss_one (ps_if (pt_not (pt_val (pcall DS GS hr (pa_cons (PE.or (pe_meth (pv 8) L.c.cl L.mS L.GS hr L.bS .nil pass0 (pa_cons (pv 0) (pa_cons (pv 1) pa_nil))) (pe_meth (pv 8) O.c.cl O.mS O.GS hr O.bS .nil pass0 (pa_cons (pv 0) (pa_cons (pv 1) pa_nil)))) (pa_cons (pe_and (pv 5) (pe_one (pe_or (pe_cmpR op_eq (pv 6) pint (nomark _)) (pe_one (pe_cmpR op_le (pe_op op_mul pint (plen o (pv 2))) (plen o (pv 1)) (nomark _)))))) pa_nil))))) (pss_one (ps_ret pe_bl)) pss_nil))))))))
    (pss_one (ps_ret pe_bl))), ?_⟩
  have l1 := lr.l1
  have l2 := lr.l2
  have l3 := lr.l3
  refine ⟨_, rfl, _, rfl, _, rfl, _, rfl, _, rfl, p, b, a, c, row, rule, shorter, pl, rfl, hb, ha, hc, lr, fun H0 s0 => ?_⟩
  have hb := hb.same s0
  have ha := ha.same s0
  have hc := hc.same s0
  refine ⟨(by show 2 ≤ sizeLine; decide), fun tt nt => ?_⟩
  have kt : (upd H0 tt (.tup [.int 0, .int 1])) tt = some (.tup [.int 0, .int 1]) := upd_same
  have w0 := same_new nt (.tup [.int 0, .int 1])
  have hb := hb.same w0
  have ha := ha.same w0
  have hc := hc.same w0
  have s0 := s0.trans w0
  generalize upd H0 tt (.tup [.int 0, .int 1]) = HB at kt hb ha hc s0 ⊢
  refine ⟨tt, rfl, ⟨_, SqT.of kt⟩, for_tup (xs := [V.int 0, V.int 1]) (fun _ σ Hw => ∃ x6 x7 x8, σ = [some (.int p), some (.ref b), some (.ref a), some (.ref c), some (.int pl), some (.bl (leastB p row rule shorter pl)), x6, x7, x8] ∧ Same HB Hw) ⟨none, none, none, rfl, Same.refl _⟩ (fun i σ Hw _ h => ?_) ?_ ?_⟩
  · obtain ⟨_, _, _, _, sw⟩ := h
    exact SqT.of (sw _ _ kt)
  · rintro i x σ Hw hx ⟨x6, x7, x8, rfl, sw⟩
    refine ⟨_, rfl, a, _, rfl, .inl (ha.same sw).sq, fun h0 n0 => ?_⟩
    have v0 := same_new n0 (.lst (rule.map V.int))
    refine ⟨_, rfl, c, _, rfl, .inl ((hc.same sw).same v0).sq, fun h1 n1 => ?_⟩
    have v1 := same_new n1 (.lst (shorter.map V.int))
    refine ⟨(by show 2 ≤ sizeLine; decide), fun hd nh => ?_⟩
    have v2 := same_new nh (.lst [.ref h0, .ref h1])
    have e0 : Ls (upd (upd (upd Hw h0 (.lst (rule.map V.int))) h1 (.lst (shorter.map V.int))) hd (.lst [.ref h0, .ref h1])) h0 rule := ((Ls.new rfl : Ls _ h0 rule).same v1).same v2
    have e1 : Ls (upd (upd (upd Hw h0 (.lst (rule.map V.int))) h1 (.lst (shorter.map V.int))) hd (.lst [.ref h0, .ref h1])) h1 shorter := (Ls.new rfl : Ls _ h1 shorter).same v2
    have eh : (upd (upd (upd Hw h0 (.lst (rule.map V.int))) h1 (.lst (shorter.map V.int))) hd (.lst [.ref h0, .ref h1])) hd = some (.lst [.ref h0, .ref h1]) := upd_same
    have sx := ((sw.trans v0).trans v1).trans v2
    have b0 : HB h0 = none := sw.free n0
    have b1 : HB h1 = none := (sw.trans v0).free n1
    have n01 : h0 ≠ h1 := ne_of_none (upd_same : (upd Hw h0 (.lst (rule.map V.int))) h0 = _) n1
    have nh0 : hd ≠ h0 := Ne.symm (ne_of_none (v1 _ _ (upd_same : (upd Hw h0 (.lst (rule.map V.int))) h0 = _)) nh)
    have nh1 : hd ≠ h1 := Ne.symm (ne_of_none (upd_same : (upd (upd Hw h0 (.lst (rule.map V.int))) h1 (.lst (shorter.map V.int))) h1 = _) nh)
    generalize upd (upd (upd Hw h0 (.lst (rule.map V.int))) h1 (.lst (shorter.map V.int))) hd (.lst [.ref h0, .ref h1]) = Hx at e0 e1 eh sx ⊢
    clear v0 v1 v2 n0 n1 nh sw
    have hxx : x = .int 0 ∨ x = .int 1 := by
      match i, hx with
      | 0, hx => exact .inl (Option.some.inj hx).symm
      | 1, hx => exact .inr (Option.some.inj hx).symm
    rcases hxx with rfl | rfl
    · refine ⟨_, rfl, rfl, _, rfl, iteTd rfl ?_⟩
      refine ⟨_, rfl, hd, _, _, _, rfl, rfl, SqL.of eh, rfl, _, rfl, hd, _, _, _, rfl, rfl, SqL.of eh, rfl, _, rfl, fun y dy ny ndy ney => ?_⟩
      refine ⟨y, h0, h1, pl, dy, rule, shorter, rfl, upd_same, e0.same (make_same ny ndy), e1.same (make_same ny ndy), fun r t H1 n1 n2 an kp => ⟨rfl, ?_⟩⟩
      have sy := made_same ny ndy kp
      have nr := make_free ny ndy n1
      have nt' := make_free ny ndy n2
      have nr0 : r ≠ h0 := Ne.symm (ne_of_none e0 nr)
      have nr1 : r ≠ h1 := Ne.symm (ne_of_none e1 nr)
      have nt0 : t ≠ h0 := Ne.symm (ne_of_none e0 nt')
      have nt1 : t ≠ h1 := Ne.symm (ne_of_none e1 nt')
      have e0 := e0.same sy
      have e1 := e1.same sy
      have eh := sy _ _ eh
      have sx := sx.trans sy
      clear sy nr nt' n1 n2 kp ny ndy
      obtain ⟨dx, hy⟩ := an.ob
      have ny0 : y ≠ h0 := ne_ins hy e0
      have ny1 : y ≠ h1 := ne_ins hy e1
      refine ⟨_, rfl, hd, _, _, _, rfl, rfl, SqL.of eh, rfl, .inl ⟨rfl, _, e0.sq⟩, h0, _, _, rfl, rfl, e0, (by rw [List.length_map]; exact small1000 (by omega)), ?_⟩
      have an := an.keep (o := .lst (rule.map V.int ++ [.int 0])) ny0 nr0 nt0
      have e1 := e1.keep (o := .lst (rule.map V.int ++ [.int 0])) (Ne.symm n01)
      have eh : (upd H1 h0 (.lst (rule.map V.int ++ [.int 0]))) hd = some (.lst [.ref h0, .ref h1]) := by rw [upd_ne nh0]; exact eh
      have sx := sput (o := .lst (rule.map V.int ++ [.int 0])) sx b0
      generalize upd H1 h0 (.lst (rule.map V.int ++ [.int 0])) = H2 at an e1 eh sx ⊢
      refine ⟨_, rfl, hd, _, _, _, rfl, rfl, SqL.of eh, rfl, .inl ⟨rfl, _, e1.sq⟩, h1, _, _, rfl, rfl, e1, (by rw [List.length_map]; exact small1000 (by omega)), ?_⟩
      have an := an.keep (o := .lst (shorter.map V.int ++ [.int 0])) ny1 nr1 nt1
      have sx := sput (o := .lst (shorter.map V.int ++ [.int 0])) sx b1
      generalize upd H2 h1 (.lst (shorter.map V.int ++ [.int 0])) = H3 at an sx ⊢
      obtain ⟨dx, hy⟩ := an.ob
      refine ⟨_, rfl, y, C1, dx, _, _, rfl, hy, L.c.cl, L.c.r, flds3_r, _, rfl, r, a, rule, rule, rfl, rfl, an.r.sq, (ha.same sx).sq, _, rfl, iteNd rfl ?_⟩
      refine ⟨_, rfl, y, C1, dx, _, _, rfl, hy, L.c.cl, L.c.s, flds3_s, _, rfl, t, c, shorter, shorter, rfl, rfl, an.s.sq, (hc.same sx).sq, _, rfl, iteNd rfl ?_⟩
      refine ⟨_, rfl, y, C1, dx, _, _, rfl, hy, L.c.cl, L.c.p, flds3_p, _, rfl, rfl, _, rfl, iteNd rfl ?_⟩
      refine .inl ⟨_, rfl, y, dx, _, rfl, hy, flds3_m, _, rfl, _, rfl, y, p, b, r, t, row, rule, shorter, pl, rfl, an, hb.same sx, lr, fun H4 s4 => ?_⟩
      have sx := sx.trans s4
      refine ⟨_, rfl, _, rfl, ?_⟩
      cases eg : leastB p row rule shorter pl with
      | false => exact iteF ⟨_, _, rfl, _, rfl, iteF ⟨_, _, _, rfl, sx⟩⟩
      | true => exact iteT ⟨_, rfl, rfl, _, rfl, iteT ⟨_, _, rfl, _, rfl, iteF ⟨_, _, _, rfl, sx⟩⟩⟩
    · refine ⟨_, rfl, rfl, _, rfl, iteFd (fun z => by injection z with z; cases z) ?_⟩
      refine ⟨_, rfl, hd, _, _, _, rfl, rfl, SqL.of eh, rfl, _, rfl, hd, _, _, _, rfl, rfl, SqL.of eh, rfl, _, rfl, fun y dy ny ndy ney => ?_⟩
      refine ⟨y, h0, h1, pl, dy, rule, shorter, rfl, upd_same, e0.same (make_same ny ndy), e1.same (make_same ny ndy), fun r t H1 n1 n2 an kp => ⟨rfl, ?_⟩⟩
      have sy := made_same ny ndy kp
      have nr := make_free ny ndy n1
      have nt' := make_free ny ndy n2
      have nr0 : r ≠ h0 := Ne.symm (ne_of_none e0 nr)
      have nr1 : r ≠ h1 := Ne.symm (ne_of_none e1 nr)
      have nt0 : t ≠ h0 := Ne.symm (ne_of_none e0 nt')
      have nt1 : t ≠ h1 := Ne.symm (ne_of_none e1 nt')
      have e0 := e0.same sy
      have e1 := e1.same sy
      have eh := sy _ _ eh
      have sx := sx.trans sy
      clear sy nr nt' n1 n2 kp ny ndy
      obtain ⟨dx, hy⟩ := an.ob
      have ny0 : y ≠ h0 := ne_ins hy e0
      have ny1 : y ≠ h1 := ne_ins hy e1
      refine ⟨_, rfl, hd, _, _, _, rfl, rfl, SqL.of eh, rfl, .inl ⟨rfl, _, e0.sq⟩, h0, _, _, rfl, rfl, e0, (by rw [List.length_map]; exact small1000 (by omega)), ?_⟩
      have an := an.keep (o := .lst (rule.map V.int ++ [.int 0])) ny0 nr0 nt0
      have e1 := e1.keep (o := .lst (rule.map V.int ++ [.int 0])) (Ne.symm n01)
      have eh : (upd H1 h0 (.lst (rule.map V.int ++ [.int 0]))) hd = some (.lst [.ref h0, .ref h1]) := by rw [upd_ne nh0]; exact eh
      have sx := sput (o := .lst (rule.map V.int ++ [.int 0])) sx b0
      generalize upd H1 h0 (.lst (rule.map V.int ++ [.int 0])) = H2 at an e1 eh sx ⊢
      refine ⟨_, rfl, hd, _, _, _, rfl, rfl, SqL.of eh, rfl, .inl ⟨rfl, _, e1.sq⟩, h1, _, _, rfl, rfl, e1, (by rw [List.length_map]; exact small1000 (by omega)), ?_⟩
      have an := an.keep (o := .lst (shorter.map V.int ++ [.int 0])) ny1 nr1 nt1
      have sx := sput (o := .lst (shorter.map V.int ++ [.int 0])) sx b1
      generalize upd H2 h1 (.lst (shorter.map V.int ++ [.int 0])) = H3 at an sx ⊢
      obtain ⟨dx, hy⟩ := an.ob
      refine ⟨_, rfl, y, C2, dx, _, _, rfl, hy, O.c.cl, O.c.r, flds3_r, _, rfl, r, a, rule, rule, rfl, rfl, an.r.sq, (ha.same sx).sq, _, rfl, iteNd rfl ?_⟩
      refine ⟨_, rfl, y, C2, dx, _, _, rfl, hy, O.c.cl, O.c.s, flds3_s, _, rfl, t, c, shorter, shorter, rfl, rfl, an.s.sq, (hc.same sx).sq, _, rfl, iteNd rfl ?_⟩
      refine ⟨_, rfl, y, C2, dx, _, _, rfl, hy, O.c.cl, O.c.p, flds3_p, _, rfl, rfl, _, rfl, iteNd rfl ?_⟩
      refine .inr ⟨_, rfl, y, dx, _, rfl, hy, flds3_m, _, rfl, _, rfl, y, p, b, r, t, row, rule, shorter, pl, rfl, an, hb.same sx, lr, fun H4 s4 => ?_⟩
      have sx := sx.trans s4
      refine ⟨_, rfl, _, rfl, ?_⟩
      cases eg : leastB p row rule shorter pl with
      | false =>
        rw [Bool.and_false]
        exact iteF ⟨_, _, rfl, _, rfl, iteF ⟨_, _, _, rfl, sx⟩⟩
      | true =>
        rw [Bool.and_true]
        refine iteT ⟨_, rfl, rfl, _, rfl, iteFd (fun z => by injection z with z; cases z) ⟨_, rfl, a, _, rfl, .inl (ha.same sx).sq, _, _, rfl, rfl, .inl ⟨by decide, by decide⟩, _, rfl, b, _, rfl, .inl (hb.same sx).sq, _, _, rfl, rfl, ?_⟩⟩
        rw [List.length_map, List.length_map]
        refine ⟨_, _, rfl, _, rfl, ?_⟩
        have e : decide (soleB row rule = decide (2 * (rule.length : Int) ≤ (row.length : Int))) = true := decide_eq_true rfl
        rw [e]
        exact iteF ⟨_, _, _, rfl, sx⟩
  · rintro σ Hw ⟨x6, x7, x8, rfl, sw⟩
    exact q _ (s0.trans sw)
theorem scARight : FnScope ["_law_prime_here", "_law_row_here", "_law_one", "_law_other", "_law_shorter", "_law_place", "_law_handed", "_law_answer", "_law_some", "_law_due_here"] ["_law_prime_here", "_law_row_here", "_law_one", "_law_other", "_law_shorter", "_law_place"] (defScope lARight) := ⟨rfl, rfl, rfl, by decide +kernel, rfl, by decide +kernel, by decide +kernel⟩
theorem ok_aright5 (D : Def K mg "_law_another_right" lARight ["_law_prime_here", "_law_row_here", "_law_one", "_law_other", "_law_shorter", "_law_place"] f fd) (o : Own mg) (DL : Def K mg "_law_least" lLeast ["_law_prime_here", "_law_row_here", "_law_rule", "_law_shorter", "_law_place"] g gd)
    (GL : FnOk P w K mg base CX0 3 g gd ["_law_prime_here", "_law_row_here", "_law_rule", "_law_shorter", "_law_place"] spIsLeast) (DS : Def K mg "_law_says" lSays ["_law_said", "_law_due_here"] g2 gd2) (GS : FnOk P w K mg base CX0 1 g2 gd2 ["_law_said", "_law_due_here"] spSays)
    (N : Make4 P w K mg base "Another" C1 f1 f2 d1 d2 (spShowsA C1)) : FnOk P w K mg base CX0 9 f fd ["_law_prime_here", "_law_row_here", "_law_one", "_law_other", "_law_shorter", "_law_place"] spARight5 := by
  refine D.F.ok scARight (fun vs H Q E h => ?_) (fun cdv A outer s H vs Q E hr h => ?_)
  · obtain ⟨p, b, a, d, c, row, one, other, shorter, pl, rfl, _⟩ := h
    rfl
  obtain ⟨p, b, a, d, c, row, one, other, shorter, pl, rfl, hb, ha, hd, hc, lr, lo, q⟩ := h
  have hu := hr.units
  refine ⟨_, pss_cons (ps_set (i := 6) scARight.nd rfl (Or.inl rfl) (pe_lst (pa_cons (pe_callTy call_list_of rfl o.list boot_listT (pa_cons (pv 2) pa_nil)) (pa_cons (pe_callTy call_list_of rfl o.list boot_listT (pa_cons (pv 3) pa_nil)) (pa_cons (pe_callTy call_list_of rfl o.list boot_listT (pa_cons (pv 4) pa_nil)) pa_nil)))))
    (pss_cons (ps_set (i := 7) scARight.nd rfl (Or.inl rfl) (pe_make N.M N.G (hr.mono (by decide)) rfl N.m N.b .nil pass0 (pa_cons (pe_ix ix_list (pv 6) pint (fun _ _ => rfl)) (pa_cons (pe_ix ix_list (pv 6) pint (fun _ _ => rfl)) (pa_cons (pe_ix ix_list (pv 6) pint (fun _ _ => rfl)) (pa_cons (pv 5) pa_nil))))))
    (pss_cons (ps_for PassesOwn.never rfl (pi_list (pv 6)) (pgn 8) (pss_one (ps_expr (pe_bm PySem.F.plainAttrs_list PySem.F.slot_list_append PySem.F.type_list_append mt_append (pv 8) (pa_cons pint pa_nil)))))
    (pss_cons (ps_if (PW.pt (pw_or (pt_cmpR (op_neL hu) (pe_fld (pv 7) rfl) (pv 2) (nomark _)) (pw_or (pt_cmpR (op_neL hu) (pe_fld (pv 7) rfl) (pv 3) (nomark _)) (pw_or (pt_cmpR (op_neL hu) (pe_fld (pv 7) rfl) (pv 4) (nomark _)) (pw_or1 (pt_cmpR op_ne (pe_fld (pv 7) rfl) (pv 5) (nomark _))))))) (pss_one (ps_ret pe_bl)) pss_nil)
    (pss_cons (ps_set (i := 9) scARight.nd rfl (Or.inl rfl) (pe_and (pe_cmpR op_eq (plen o (pv 2)) (plen o (pv 3)) (nomark _)) (pe_and (pe_cmpR (op_neL hu) (pv 2) (pv 3) (nomark _)) (pe_one (pcall DL GL hr (pa_cons (pv 0) (pa_cons (pv 1) (pa_cons (pv 2) (pa_cons (pv 4) (pa_cons (pv 5) pa_nil))))))))))
    (pss_cons (ps_set (i := 9) scARight.nd rfl (Or.inl rfl) (pe_and (pv 9) (pe_one (pcall DL GL hr (pa_cons (pv 0) (pa_cons (pv 1) (pa_cons (pv 3) (pa_cons (pv 4) (pa_cons (pv 5) pa_nil)))))))))
    (pss_one (ps_ret (pcall DS GS hr (pa_cons (pe_meth (pv 7) N.c.cl N.mS N.GS hr N.bS .nil pass0 (pa_cons (pv 0) (pa_cons (pv 1) pa_nil))) (pa_cons (pv 9) pa_nil)))))))))), ?_⟩
  have l1 := lr.l1
  have l2 := lr.l2
  have l3 := lr.l3
  refine ⟨_, rfl, a, _, rfl, .inl ha.sq, fun h0 n0 => ?_⟩
  have v0 := same_new n0 (.lst (one.map V.int))
  refine ⟨_, rfl, d, _, rfl, .inl (hd.same v0).sq, fun h1 n1 => ?_⟩
  have v1 := same_new n1 (.lst (other.map V.int))
  refine ⟨_, rfl, c, _, rfl, .inl ((hc.same v0).same v1).sq, fun h2 n2 => ?_⟩
  have v2 := same_new n2 (.lst (shorter.map V.int))
  refine ⟨(by show 3 ≤ sizeLine; decide), fun hn nh => ?_⟩
  have v3 := same_new nh (.lst [.ref h0, .ref h1, .ref h2])
  have k0 : (upd H h0 (.lst (one.map V.int))) h0 = some (.lst (one.map V.int)) := upd_same
  have k1 : (upd (upd H h0 (.lst (one.map V.int))) h1 (.lst (other.map V.int))) h1 = some (.lst (other.map V.int)) := upd_same
  have k2 : (upd (upd (upd H h0 (.lst (one.map V.int))) h1 (.lst (other.map V.int))) h2 (.lst (shorter.map V.int))) h2 = some (.lst (shorter.map V.int)) := upd_same
  have n01 : h0 ≠ h1 := ne_of_none k0 n1
  have n02 : h0 ≠ h2 := ne_of_none (v1 _ _ k0) n2
  have n12 : h1 ≠ h2 := ne_of_none k1 n2
  have nh0 : hn ≠ h0 := Ne.symm (ne_of_none (v2 _ _ (v1 _ _ k0)) nh)
  have nh1 : hn ≠ h1 := Ne.symm (ne_of_none (v2 _ _ k1) nh)
  have nh2 : hn ≠ h2 := Ne.symm (ne_of_none k2 nh)
  have e0 : Ls (upd (upd (upd (upd H h0 (.lst (one.map V.int))) h1 (.lst (other.map V.int))) h2 (.lst (shorter.map V.int))) hn (.lst [.ref h0, .ref h1, .ref h2])) h0 one := v3 _ _ (v2 _ _ (v1 _ _ k0))
  have e1 : Ls (upd (upd (upd (upd H h0 (.lst (one.map V.int))) h1 (.lst (other.map V.int))) h2 (.lst (shorter.map V.int))) hn (.lst [.ref h0, .ref h1, .ref h2])) h1 other := v3 _ _ (v2 _ _ k1)
  have e2 : Ls (upd (upd (upd (upd H h0 (.lst (one.map V.int))) h1 (.lst (other.map V.int))) h2 (.lst (shorter.map V.int))) hn (.lst [.ref h0, .ref h1, .ref h2])) h2 shorter := v3 _ _ k2
  have eh : (upd (upd (upd (upd H h0 (.lst (one.map V.int))) h1 (.lst (other.map V.int))) h2 (.lst (shorter.map V.int))) hn (.lst [.ref h0, .ref h1, .ref h2])) hn = some (.lst [.ref h0, .ref h1, .ref h2]) := upd_same
  have sx := ((v0.trans v1).trans v2).trans v3
  have b1 : H h1 = none := v0.free n1
  have b2 : H h2 = none := (v0.trans v1).free n2
  generalize upd (upd (upd (upd H h0 (.lst (one.map V.int))) h1 (.lst (other.map V.int))) h2 (.lst (shorter.map V.int))) hn (.lst [.ref h0, .ref h1, .ref h2]) = Hx at e0 e1 e2 eh sx ⊢
  clear v0 v1 v2 v3 n1 n2 nh k0 k1 k2
  refine ⟨_, rfl, hn, _, _, _, rfl, rfl, SqL.of eh, rfl, _, rfl, hn, _, _, _, rfl, rfl, SqL.of eh, rfl, _, rfl, hn, _, _, _, rfl, rfl, SqL.of eh, rfl, _, rfl, fun y dy ny ndy ney => ?_⟩
  refine ⟨y, h0, h1, h2, pl, dy, one, other, shorter, rfl, upd_same, e0.same (make_same ny ndy), e1.same (make_same ny ndy), e2.same (make_same ny ndy), fun r t u H1 m1 m2 m3 an kp => ⟨rfl, ?_⟩⟩
  have sy := made_same ny ndy kp
  have fr := make_free ny ndy m1
  have ft := make_free ny ndy m2
  have fu := make_free ny ndy m3
  have nr : ∀ h', h' = h0 ∨ h' = h1 ∨ h' = h2 → r ≠ h' ∧ t ≠ h' ∧ u ≠ h' := by
    rintro h' (rfl | rfl | rfl)
    · exact ⟨Ne.symm (ne_of_none e0 fr), Ne.symm (ne_of_none e0 ft), Ne.symm (ne_of_none e0 fu)⟩
    · exact ⟨Ne.symm (ne_of_none e1 fr), Ne.symm (ne_of_none e1 ft), Ne.symm (ne_of_none e1 fu)⟩
    · exact ⟨Ne.symm (ne_of_none e2 fr), Ne.symm (ne_of_none e2 ft), Ne.symm (ne_of_none e2 fu)⟩
  have e0 := e0.same sy
  have e1 := e1.same sy
  have e2 := e2.same sy
  have eh := sy _ _ eh
  have sx := sx.trans sy
  clear sy fr ft fu m1 m2 m3 kp ny ndy
  refine ⟨_, rfl, hn, rfl, ⟨_, SqL.of eh⟩, for_list (xs := [V.ref h0, V.ref h1, V.ref h2]) (fun i σ Hw => ∃ x8, σ = [some (.int p), some (.ref b), some (.ref a), some (.ref d), some (.ref c), some (.int pl), some (.ref hn), some (.ref y), x8, none] ∧ Same H Hw ∧ Hw hn = some (.lst [.ref h0, .ref h1, .ref h2]) ∧ Ans4 C1 Hw y r t u one other shorter pl ∧
    (∃ l0, Ls Hw h0 l0 ∧ l0.length ≤ 100 + i) ∧ (∃ l0, Ls Hw h1 l0 ∧ l0.length ≤ 100 + i) ∧ (∃ l0, Ls Hw h2 l0 ∧ l0.length ≤ 100 + i)) ⟨none, rfl, sx, eh, an, ⟨_, e0, by omega⟩, ⟨_, e1, by omega⟩, ⟨_, e2, by omega⟩⟩ (fun i σ Hw _ hw => ?_) ?_ ?_⟩
  · obtain ⟨_, _, _, eh, _⟩ := hw
    exact SqL.of eh
  · rintro i x σ Hw hx ⟨x8, rfl, sw, eh, an, ⟨p0, q0, r0⟩, ⟨p1, q1, r1⟩, ⟨p2, q2, r2⟩⟩
    obtain ⟨dx, hy⟩ := an.ob
    have hi : i < 3 := by
      have := (List.getElem?_eq_some_iff.mp hx).1
      exact this
    have hxx : (x = .ref h0) ∨ (x = .ref h1) ∨ (x = .ref h2) := by
      match i, hx with
      | 0, hx => exact .inl (Option.some.inj hx).symm
      | 1, hx => exact .inr (.inl (Option.some.inj hx).symm)
      | 2, hx => exact .inr (.inr (Option.some.inj hx).symm)
    rcases hxx with rfl | rfl | rfl
    · have nn := nr h0 (.inl rfl)
      have ap : ∀ l : List Int, l.map V.int ++ [V.int 0] = (l ++ [0]).map V.int := fun l => by rw [List.map_append]; rfl
      refine ⟨_, rfl, .inl ⟨rfl, _, q0.sq⟩, h0, _, _, rfl, rfl, q0, (by rw [List.length_map]; exact small1000 (by omega)), _, rfl, sput sw n0, (by rw [upd_ne nh0]; exact eh), an.keep (ne_ins hy q0) nn.1 nn.2.1 nn.2.2, ⟨_, Ls.new (ap p0), by rw [List.length_append]; show p0.length + 1 ≤ _; omega⟩, ⟨_, q1.keep n01.symm, by omega⟩, ⟨_, q2.keep n02.symm, by omega⟩⟩
    · have nn := nr h1 (.inr (.inl rfl))
      have ap : ∀ l : List Int, l.map V.int ++ [V.int 0] = (l ++ [0]).map V.int := fun l => by rw [List.map_append]; rfl
      refine ⟨_, rfl, .inl ⟨rfl, _, q1.sq⟩, h1, _, _, rfl, rfl, q1, (by rw [List.length_map]; exact small1000 (by omega)), _, rfl, sput sw b1, (by rw [upd_ne nh1]; exact eh), an.keep (ne_ins hy q1) nn.1 nn.2.1 nn.2.2, ⟨_, q0.keep n01, by omega⟩, ⟨_, Ls.new (ap p1), by rw [List.length_append]; show p1.length + 1 ≤ _; omega⟩, ⟨_, q2.keep n12.symm, by omega⟩⟩
    · have nn := nr h2 (.inr (.inr rfl))
      have ap : ∀ l : List Int, l.map V.int ++ [V.int 0] = (l ++ [0]).map V.int := fun l => by rw [List.map_append]; rfl
      refine ⟨_, rfl, .inl ⟨rfl, _, q2.sq⟩, h2, _, _, rfl, rfl, q2, (by rw [List.length_map]; exact small1000 (by omega)), _, rfl, sput sw b2, (by rw [upd_ne nh2]; exact eh), an.keep (ne_ins hy q2) nn.1 nn.2.1 nn.2.2, ⟨_, q0.keep n02, by omega⟩, ⟨_, q1.keep n12, by omega⟩, ⟨_, Ls.new (ap p2), by rw [List.length_append]; show p2.length + 1 ≤ _; omega⟩⟩
  rintro σ Hw ⟨x8, rfl, sw, _, an, _⟩
  obtain ⟨dx, hy⟩ := an.ob
  have ha := ha.same sw
  have hb := hb.same sw
  have hc := hc.same sw
  have hd := hd.same sw
  refine ⟨_, rfl, y, C1, dx, _, _, rfl, hy, N.c.cl, N.c.r, flds4_r, _, rfl, r, a, one, one, rfl, rfl, an.r.sq, ha.sq, _, rfl, iteNd rfl ?_⟩
  refine ⟨_, rfl, y, C1, dx, _, _, rfl, hy, N.c.cl, N.c.t, flds4_t, _, rfl, t, d, other, other, rfl, rfl, an.t.sq, hd.sq, _, rfl, iteNd rfl ?_⟩
  refine ⟨_, rfl, y, C1, dx, _, _, rfl, hy, N.c.cl, N.c.s, flds4_s, _, rfl, u, c, shorter, shorter, rfl, rfl, an.s.sq, hc.sq, _, rfl, iteNd rfl ?_⟩
  refine ⟨_, rfl, y, C1, dx, _, _, rfl, hy, N.c.cl, N.c.p, flds4_p, _, rfl, rfl, _, rfl, iteNd rfl ?_⟩
  have last : ∀ (v : Bool) (H2 : Hp), Same Hw H2 → v = anoB p row one other shorter pl → ∀ H3, Same H2 H3 → Q (.bl (decide (anoB p row one other shorter pl = v))) H3 := fun v H2 s2 e H3 s3 => by
    rw [decide_eq_true e.symm]
    exact q _ ((sw.trans s2).trans s3)
  have lr2 : LR p row other shorter := ⟨lr.pr, lr.r, lr.l1, lo, lr.l3⟩
  refine ⟨_, rfl, a, _, rfl, .inl ha.sq, _, rfl, d, _, rfl, .inl hd.sq, rfl, _, rfl, ?_⟩
  rw [List.length_map, List.length_map]
  by_cases el : one.length = other.length
  · refine iteTd (by rw [el]) ?_
    refine ⟨_, rfl, _, rfl, a, d, one, other, rfl, rfl, ha.sq, hd.sq, _, rfl, ?_⟩
    by_cases ee : one = other
    · refine iteNd ee ?_
      refine ⟨_, rfl, _, rfl, iteF ?_⟩
      refine ⟨_, rfl, y, dx, _, rfl, hy, flds4_m, _, rfl, _, rfl, y, p, b, r, t, u, row, one, other, shorter, pl, rfl, an, hb, lr, lo, fun H3 s3 => ?_⟩
      refine ⟨_, rfl, _, _, rfl, last false Hw (Same.refl _) ?_ H3 s3⟩
      unfold anoB
      rw [decide_eq_true ee, Bool.not_true, Bool.and_false]
      rfl
    refine iteYd ee ?_
    refine ⟨_, rfl, _, rfl, _, rfl, _, rfl, _, rfl, p, b, a, c, row, one, shorter, pl, rfl, hb, ha, hc, lr, fun H2 s2 => ?_⟩
    have hy2 := s2 _ _ hy
    refine ⟨_, rfl, _, rfl, ?_⟩
    cases e1 : leastB p row one shorter pl with
    | false =>
      refine iteF ?_
      refine ⟨_, rfl, y, dx, _, rfl, hy2, flds4_m, _, rfl, _, rfl, y, p, b, r, t, u, row, one, other, shorter, pl, rfl, an.same s2, hb.same s2, lr, lo, fun H3 s3 => ?_⟩
      refine ⟨_, rfl, _, _, rfl, last false H2 s2 ?_ H3 s3⟩
      unfold anoB
      rw [e1, Bool.and_false]
      rfl
    | true =>
      refine iteT ?_
      refine ⟨_, rfl, _, rfl, _, rfl, _, rfl, _, rfl, p, b, d, c, row, other, shorter, pl, rfl, hb.same s2, hd.same s2, hc.same s2, lr2, fun H4 s4 => ?_⟩
      have s24 := s2.trans s4
      refine ⟨_, rfl, y, dx, _, rfl, s4 _ _ hy2, flds4_m, _, rfl, _, rfl, y, p, b, r, t, u, row, one, other, shorter, pl, rfl, an.same s24, hb.same s24, lr, lo, fun H3 s3 => ?_⟩
      refine ⟨_, rfl, _, _, rfl, last _ H4 s24 ?_ H3 s3⟩
      unfold anoB
      rw [e1, decide_eq_true el, decide_eq_false ee]
      rfl
  · refine iteFd (fun z => el (by injection z with z'; omega)) ?_
    refine ⟨_, rfl, _, rfl, iteF ?_⟩
    refine ⟨_, rfl, y, dx, _, rfl, hy, flds4_m, _, rfl, _, rfl, y, p, b, r, t, u, row, one, other, shorter, pl, rfl, an, hb, lr, lo, fun H3 s3 => ?_⟩
    refine ⟨_, rfl, _, _, rfl, last false Hw (Same.refl _) ?_ H3 s3⟩
    unfold anoB
    rw [decide_eq_false el]
    rfl
end
end Rr

set_option Elab.async false
set_option linter.all false
set_option maxRecDepth 100000
set_option maxHeartbeats 0
namespace L2
open PySem PySem.Spec PySem.Calls PyProof.Rows
def tCut3 (a b c u : TS) : TS := fun D σ H => ∃ M : St → Hp → Prop, a { D with nx := fun σ1 H1 => b { D with nx := fun σ2 H2 => c { D with nx := M } σ2 H2 } σ1 H1 } σ H ∧ ∀ σ' H', M σ' H' → u D σ' H'
theorem pss_cut3 {X : Cx} {s1 s2 s3 : Stmt} {rest : List Stmt} {a b c u : TS} (h1 : PS X s1 a) (h2 : PS X s2 b) (h3 : PS X s3 c) (h4 : PSs X rest u) : PSs X (s1 :: s2 :: s3 :: rest) (tCut3 a b c u) := by
  intro pins s σ H D I h
  obtain ⟨M, hM, hu⟩ := h
  refine wpAny_execs_cons (thn (h1 pins s σ H _ I hM) fun f t1 q => ?_)
  cases f with
  | next =>
    obtain ⟨σ1, H1, I1, q⟩ := q
    refine wpAny_execs_cons (thn (h2 pins t1 σ1 H1 _ I1 q) fun f t2 q => ?_)
    cases f with
    | next =>
      obtain ⟨σ2, H2, I2, q⟩ := q
      refine wpAny_execs_cons (thn (h3 pins t2 σ2 H2 _ I2 q) fun f t3 q => ?_)
      cases f with
      | next =>
        obtain ⟨σ3, H3, I3, q⟩ := q
        exact h4 pins t3 σ3 H3 D I3 (hu σ3 H3 q)
      | ret v => exact q
      | brk => exact q
      | cont => exact q
    | ret v => exact q
    | brk => exact q
    | cont => exact q
  | ret v => exact q
  | brk => exact q
  | cont => exact q
end L2
namespace Rr
open PySem L2 RM
/-- one of the answers by hand that lie in the law's list -/
def Pk (H : Hp) (x : V) : Prop := ∃ (tt a b : Addr) (l s : List Int) (pl : Int) (d : Bool), x = .ref tt ∧ H tt = some (.tup [.ref a, .ref b, .int pl, .bl d]) ∧ Ls H a l ∧ Ls H b s ∧ l.length ≤ 100 ∧ s.length ≤ 100 ∧ leastB 5 [1, 1, 1, 1] l s pl = d
theorem Pk.same {H H' : Hp} {x : V} (h : Pk H x) (e : Same H H') : Pk H' x := by
  obtain ⟨tt, a, b, l, s, pl, d, h1, h2, h3, h4, h5⟩ := h
  exact ⟨tt, a, b, l, s, pl, d, h1, e _ _ h2, h3.same e, h4.same e, h5⟩
theorem pk_new {H : Hp} {a b t : Addr} {l s : List Int} {pl : Int} {d : Bool} {xs ys : List V} (ex : xs = l.map V.int) (ey : ys = s.map V.int) (n1 : H a = none) (n2 : (upd H a (.lst xs)) b = none) (n3 : (upd (upd H a (.lst xs)) b (.lst ys)) t = none)
    (h1 : l.length ≤ 100) (h2 : s.length ≤ 100) (h : leastB 5 [1, 1, 1, 1] l s pl = d) : Pk (upd (upd (upd H a (.lst xs)) b (.lst ys)) t (.tup [.ref a, .ref b, .int pl, .bl d])) (.ref t) ∧ Same H (upd (upd (upd H a (.lst xs)) b (.lst ys)) t (.tup [.ref a, .ref b, .int pl, .bl d])) := by
  have w1 := same_new n1 (.lst xs)
  have w2 := same_new n2 (.lst ys)
  have w3 := same_new n3 (.tup [.ref a, .ref b, .int pl, .bl d])
  exact ⟨⟨t, a, b, l, s, pl, d, rfl, upd_same, ((Ls.new ex : Ls _ a l).same w2).same w3, (Ls.new ey : Ls _ b s).same w3, h1, h2, h⟩, (w1.trans w2).trans w3⟩
theorem ok5 : PrimeOk 5 := ones_of (by omega)
theorem r5 {ns : List Int} (h : (ns.all fun n => decide (0 ≤ n) && decide (n < 5)) = true) : Rests 5 ns := fun x hx => by
  have := Bool.and_eq_true_iff.mp (List.all_eq_true.mp h x hx)
  exact ⟨of_decide_eq_true this.1, of_decide_eq_true this.2⟩
theorem quad_go {K : PySem.W.Frag} {H : Hp} {p : Addr} {a b c d : V} {σ : St} {i j k m : Nat} {Q : St → Hp → Prop} (h : H p = some (.tup [a, b, c, d])) (q : Q ((((σ.set i (some a)).set j (some b)).set k (some c)).set m (some d)) H) : gTup K 4 (gCons (gName i) (gCons (gName j) (gCons (gName k) (gCons (gName m) gNil)))) (.ref p) σ H Q :=
  ⟨p, [a, b, c, d], rfl, SqT.of h, rfl, a, [b, c, d], rfl, b, [c, d], rfl, c, [d], rfl, d, [], rfl, rfl, q⟩
theorem pgr {X : Cx} (i j k m : Nat) {x y z w : Str} {px py pz pw pos : Pos} {n : Nat} (hc : X.calm = true := by rfl) (hN : X.N.Nodup := by exact of_decide_eq_true (by kernel_rfl)) (h0 : X.N[i]? = some x := by rfl) (h1 : X.N[j]? = some y := by rfl) (h2 : X.N[k]? = some z := by rfl) (h3 : X.N[m]? = some w := by rfl) (hx : X.env.scope.names.lookup x = some .local := by rfl)
    (hy : X.env.scope.names.lookup y = some .local := by rfl) (hz : X.env.scope.names.lookup z = some .local := by rfl) (hw : X.env.scope.names.lookup w = some .local := by rfl) : PG X (.Tuple [.Name x px, .Name y py, .Name z pz, .Name w pw] n pos) (gTup X.K 4 (gCons (gName i) (gCons (gName j) (gCons (gName k) (gCons (gName m) gNil))))) :=
  pg_tup hc (pgs_cons (pg_name hN h0 (.inl hx) (.inr hx)) (pgs_cons (pg_name hN h1 (.inl hy) (.inr hy)) (pgs_cons (pg_name hN h2 (.inl hz) (.inr hz)) (pgs_cons (pg_name hN h3 (.inl hw) (.inr hw)) pgs_nil))))
structure Kit5 (P : Program) (w : World) (K : PySem.W.Frag) (mg : Str → Option Value) (base : Heap) (f : Nat → Addr) (d : Nat → FuncData) (C CO CA : Addr) : Prop where
  o : Own mg
  D1 : Def K mg "_law_prime" lPrime ["_law_script"] (f 1) (d 1)
  G1 : FnOk P w K mg base CX0 2 (f 1) (d 1) ["_law_script"] (spPrimeL K)
  D2 : Def K mg "_law_row" lRow ["_law_script", "_law_prime_here"] (f 2) (d 2)
  G2 : FnOk P w K mg base CX0 3 (f 2) (d 2) ["_law_script", "_law_prime_here"] (spRow K)
  D3 : Def K mg "least" sLeast ["prime", "row"] (f 3) (d 3)
  G3 : FnOk P w K mg base CX0 6 (f 3) (d 3) ["prime", "row"] (spLeast C)
  D4 : Def K mg "unlike" sUnlike ["prime", "row"] (f 4) (d 4)
  G4 : FnOk P w K mg base CX0 7 (f 4) (d 4) ["prime", "row"] (spUnlike CO CA)
  D5 : Def K mg "_law_right" lRight ["_law_prime_here", "_law_row_here", "_law_rule", "_law_shorter", "_law_place"] (f 5) (d 5)
  G5 : FnOk P w K mg base CX0 9 (f 5) (d 5) ["_law_prime_here", "_law_row_here", "_law_rule", "_law_shorter", "_law_place"] spRight5
  D6 : Def K mg "_law_draw" lDraw ["_law_cell", "_law_k", "_law_many"] (f 6) (d 6)
  G6 : FnOk P w K mg base CX0 1 (f 6) (d 6) ["_law_cell", "_law_k", "_law_many"] spDraw
  D7 : Def K mg "_law_cell_at" lCell ["_law_script", "_law_k"] (f 7) (d 7)
  G7 : FnOk P w K mg base CX0 1 (f 7) (d 7) ["_law_script", "_law_k"] (spCell K)
  D8 : Def K mg "_law_another_right" lARight ["_law_prime_here", "_law_row_here", "_law_one", "_law_other", "_law_shorter", "_law_place"] (f 8) (d 8)
  G8 : FnOk P w K mg base CX0 9 (f 8) (d 8) ["_law_prime_here", "_law_row_here", "_law_one", "_law_other", "_law_shorter", "_law_place"] spARight5
  D9 : Def K mg "_law_bent" lBent ["_law_some", "_law_cell", "_law_prime_here"] (f 9) (d 9)
  G9 : FnOk P w K mg base CX0 2 (f 9) (d 9) ["_law_some", "_law_cell", "_law_prime_here"] spBent
  D10 : Def K mg "_law_says" lSays ["_law_said", "_law_due_here"] (f 10) (d 10)
  G10 : FnOk P w K mg base CX0 1 (f 10) (d 10) ["_law_said", "_law_due_here"] spSays
  L : Make3 P w K mg base "Least" C (f 11) (f 12) (d 11) (d 12) (spShows C)
  O : Make3 P w K mg base "Only" CO (f 13) (f 14) (d 13) (d 14) (spShowsO CO)
  N : Make4 P w K mg base "Another" CA (f 15) (f 16) (d 15) (d 16) (spShowsA CA)
  tO : TyC K CO
  tN : TyC K CA
  oN : PySem.W.kitOne K (.ref CO) (.ref CA) = some false
  nN : PySem.W.kitOne K (.ref CA) (.ref CA) = some true
section
variable {P : Program} {w : World} {K : PySem.W.Frag} {mg : Str → Option Value} {base : Heap} {f : Nat → Addr} {d : Nat → FuncData} {e C CO CA : Addr} {ed : FuncData}
theorem scLaw : FnScope ["_law_script", "_law_prime_here", "_law_row_here", "_law_found", "_law_more", "_law_rule", "_law_shorter", "_law_place", "_law_other", "_law_k", "_law_cell", "_law_spot", "_law_mine", "_law_bent_here", "_law_theirs", "_law_some", "_law_rests_here", "_law_due_here"] ["_law_script"] (defScope lLaw) := ⟨rfl, rfl, rfl, by decide +kernel, rfl, by decide +kernel, by decide +kernel⟩
theorem ok_law (D : Def K mg "law" lLaw ["_law_script"] e ed) (Z : Kit5 P w K mg base f d C CO CA) : FnOk P w K mg base CX0 10 e ed ["_law_script"] (spLaw K) := by
  refine D.F.ok scLaw (fun vs H Q E h => ?_) (fun cdv A outer s H vs Q E hr h => ?_)
  · obtain ⟨a, ns, rfl, _⟩ := h
    rfl
  obtain ⟨a, ns, rfl, h1, hl, q⟩ := h
  have o := Z.o
  have hu := hr.units
  have hr8 : Room 8 _ := hr.mono (by decide)
  refine ⟨_, (@pss_cons _ _ _ _ _ (@ps_set _ _ 1 _ _ _ _ scLaw.nd rfl (Or.inl rfl) (pcallP Z.D1 Z.G1 hr Pl.N NS.nil (@pa_c _ _ _ _ _ Pl.N (pv 0) pa_nil)) (by rfl) (Or.inl rfl))
    (@pss_cons _ _ _ _ _ (@ps_set _ _ 2 _ _ _ _ scLaw.nd rfl (Or.inl rfl) (pcallP Z.D2 Z.G2 hr Pl.N (NS.cons Pl.N NS.nil) (@pa_c _ _ _ _ _ Pl.N (pv 0) (@pa_c _ _ _ _ _ Pl.N (pv 1) pa_nil))) (by rfl) (Or.inl rfl))
    (@pss_cut3 _ _ _ _ _ _ _ _ _ (ps_par (i := 3) (j := 4) rfl scLaw.nd rfl rfl (by decide) rfl rfl (@pa_c _ _ _ _ _ Pl.K (pcallP Z.D3 Z.G3 hr Pl.N (NS.cons Pl.N NS.nil) (@pa_c _ _ _ _ _ Pl.N (pv 1) (@pa_c _ _ _ _ _ Pl.N (pv 2) pa_nil))) (@pa_c _ _ _ _ _ Pl.K (pcallP Z.D4 Z.G4 hr Pl.N (NS.cons Pl.N NS.nil) (@pa_c _ _ _ _ _ Pl.N (pv 1) (@pa_c _ _ _ _ _ Pl.N (pv 2) pa_nil))) pa_nil)) (by kernel_rfl))
      (ps_par3 (i := 5) (j := 6) (k := 7) rfl scLaw.nd rfl rfl rfl (by decide) (by decide) (by decide) rfl rfl rfl (@pa_c _ _ _ _ _ Pl.A (pe_fld (pv 3) rfl) (@pa_c _ _ _ _ _ Pl.A (pe_fld (pv 3) rfl) (@pa_c _ _ _ _ _ Pl.A (pe_fld (pv 3) rfl) pa_nil))) (by kernel_rfl))
      (@ps_set _ _ 8 _ _ _ _ scLaw.nd rfl (Or.inl rfl) (pe_ifExp (pt_val (pe_callB call_isiO rfl o.isinstance boot_isi (@pa_c _ _ _ _ _ Pl.N (pv 4) (@pa_c _ _ _ _ _ Pl.N (pe_glob (v := .ref CA) (by rfl) Z.N.m rfl) pa_nil)))) (pe_fld (pv 4) rfl) (pv 5)) (by rfl) (Or.inl rfl))
    (@pss_cut _ _ _ _ _ (ps_for PassesOwn.never rfl (pi_range1 rfl o.range (@pa_c _ _ _ _ _ Pl.C pint pa_nil)) (pgn 9) (pss_cons (@ps_set _ _ 10 _ _ _ _ scLaw.nd rfl (Or.inl rfl) (pe_op op_add (pe_op op_add (pcallP Z.D7 Z.G7 hr Pl.N (NS.cons Pl.N NS.nil) (@pa_c _ _ _ _ _ Pl.N (pv 0) (@pa_c _ _ _ _ _ Pl.N (pv 9) pa_nil))) (pe_op op_mul pint (pv 9))) (pe_op op_mul pint (pcallP Z.D7 Z.G7 hr Pl.N (NS.cons Pl.B NS.nil) (@pa_c _ _ _ _ _ Pl.N (pv 0) (@pa_c _ _ _ _ _ Pl.B (pe_op op_add (pv 9) pint) pa_nil))))) (by rfl) (Or.inl rfl))
      (pss_cons (@ps_set _ _ 11 _ _ _ _ scLaw.nd rfl (Or.inl rfl) (pe_op op_add (pv 7) (pe_ix ix_tup (@pe_tup _ _ _ _ _ (@pa_c _ _ _ _ _ Pl.C pint (@pa_c _ _ _ _ _ Pl.C pint (@pa_c _ _ _ _ _ Pl.C pint (@pa_c _ _ _ _ _ Pl.C pint (@pa_c _ _ _ _ _ Pl.U (pe_un un_neg pint) pa_nil)))))) (pcallP Z.D6 Z.G6 hr Pl.N (NS.cons Pl.C (NS.cons Pl.C NS.nil)) (@pa_c _ _ _ _ _ Pl.N (pv 10) (@pa_c _ _ _ _ _ Pl.C pint (@pa_c _ _ _ _ _ Pl.C pint pa_nil)))) (fun _ _ => rfl))) (by rfl) (Or.inl rfl))
      (pss_cons (ps_par (i := 12) (j := 13) rfl scLaw.nd rfl rfl (by decide) rfl rfl (@pa_c _ _ _ _ _ Pl.K (pcallP Z.D9 Z.G9 hr Pl.N (NS.cons Pl.N (NS.cons Pl.N NS.nil)) (@pa_c _ _ _ _ _ Pl.N (pv 5) (@pa_c _ _ _ _ _ Pl.N (pv 10) (@pa_c _ _ _ _ _ Pl.N (pv 1) pa_nil)))) (@pa_c _ _ _ _ _ Pl.K (pcallP Z.D9 Z.G9 hr Pl.N (NS.cons Pl.B (NS.cons Pl.N NS.nil)) (@pa_c _ _ _ _ _ Pl.N (pv 6) (@pa_c _ _ _ _ _ Pl.B (pe_op op_fdiv (pv 10) pint) (@pa_c _ _ _ _ _ Pl.N (pv 1) pa_nil)))) pa_nil)) (by kernel_rfl))
      (pss_cons (ps_if (PW.pt (pw_or (pt_not (pt_val (pcallP Z.D5 Z.G5 hr Pl.N (NS.cons Pl.N (NS.cons Pl.N (NS.cons Pl.N (NS.cons Pl.N NS.nil)))) (@pa_c _ _ _ _ _ Pl.N (pv 1) (@pa_c _ _ _ _ _ Pl.N (pv 2) (@pa_c _ _ _ _ _ Pl.N (pv 12) (@pa_c _ _ _ _ _ Pl.N (pv 6) (@pa_c _ _ _ _ _ Pl.N (pv 11) pa_nil)))))))) (pw_or1 (pt_not (pt_val (pcallP Z.D5 Z.G5 hr Pl.N (NS.cons Pl.N (NS.cons Pl.N (NS.cons Pl.N (NS.cons Pl.N NS.nil)))) (@pa_c _ _ _ _ _ Pl.N (pv 1) (@pa_c _ _ _ _ _ Pl.N (pv 2) (@pa_c _ _ _ _ _ Pl.N (pv 5) (@pa_c _ _ _ _ _ Pl.N (pv 13) (@pa_c _ _ _ _ _ Pl.N (pv 11) pa_nil))))))))))) (pss_one (ps_ret pe_bl)) pss_nil)
      (pss_cons (@ps_set _ _ 14 _ _ _ _ scLaw.nd rfl (Or.inl rfl) (pcallP Z.D9 Z.G9 hr Pl.N (NS.cons Pl.B (NS.cons Pl.N NS.nil)) (@pa_c _ _ _ _ _ Pl.N (pv 8) (@pa_c _ _ _ _ _ Pl.B (pe_op op_fdiv (pv 10) pint) (@pa_c _ _ _ _ _ Pl.N (pv 1) pa_nil)))) (by rfl) (Or.inl rfl))
      (pss_cons (ps_if (pt_not (pt_val (pcallP Z.D8 Z.G8 hr Pl.N (NS.cons Pl.N (NS.cons Pl.N (NS.cons Pl.N (NS.cons Pl.N (NS.cons Pl.N NS.nil))))) (@pa_c _ _ _ _ _ Pl.N (pv 1) (@pa_c _ _ _ _ _ Pl.N (pv 2) (@pa_c _ _ _ _ _ Pl.N (pv 5) (@pa_c _ _ _ _ _ Pl.N (pv 14) (@pa_c _ _ _ _ _ Pl.N (pv 6) (@pa_c _ _ _ _ _ Pl.N (pv 11) pa_nil))))))))) (pss_one (ps_ret pe_bl)) pss_nil)
      (pss_one (ps_if (pt_not (pt_val (pcallP Z.D8 Z.G8 hr Pl.N (NS.cons Pl.N (NS.cons Pl.N (NS.cons Pl.N (NS.cons Pl.N (NS.cons Pl.N NS.nil))))) (@pa_c _ _ _ _ _ Pl.N (pv 1) (@pa_c _ _ _ _ _ Pl.N (pv 2) (@pa_c _ _ _ _ _ Pl.N (pv 12) (@pa_c _ _ _ _ _ Pl.N (pv 8) (@pa_c _ _ _ _ _ Pl.N (pv 6) (@pa_c _ _ _ _ _ Pl.N (pv 7) pa_nil))))))))) (pss_one (ps_ret pe_bl)) pss_nil)))))))))
    (@pss_cons _ _ _ _ _ (@ps_set _ _ 15 _ _ _ _ scLaw.nd rfl (Or.inl rfl) (@pe_lst _ _ _ _ (@pa_c _ _ _ _ _ Pl.T (@pe_tup _ _ _ _ _ (@pa_c _ _ _ _ _ Pl.L (@pe_lst _ _ _ _ (@pa_c _ _ _ _ _ Pl.C pint pa_nil)) (@pa_c _ _ _ _ _ Pl.L (@pe_lst _ _ _ _ pa_nil) (@pa_c _ _ _ _ _ Pl.C pint (@pa_c _ _ _ _ _ Pl.C pe_bl pa_nil))))) (@pa_c _ _ _ _ _ Pl.T (@pe_tup _ _ _ _ _ (@pa_c _ _ _ _ _ Pl.L (@pe_lst _ _ _ _ (@pa_c _ _ _ _ _ Pl.C pint pa_nil)) (@pa_c _ _ _ _ _ Pl.L (@pe_lst _ _ _ _ pa_nil) (@pa_c _ _ _ _ _ Pl.C pint (@pa_c _ _ _ _ _ Pl.C pe_bl pa_nil))))) (@pa_c _ _ _ _ _ Pl.T (@pe_tup _ _ _ _ _ (@pa_c _ _ _ _ _ Pl.L (@pe_lst _ _ _ _ (@pa_c _ _ _ _ _ Pl.C pint (@pa_c _ _ _ _ _ Pl.C pint pa_nil))) (@pa_c _ _ _ _ _ Pl.L (@pe_lst _ _ _ _ pa_nil) (@pa_c _ _ _ _ _ Pl.C pint (@pa_c _ _ _ _ _ Pl.C pe_bl pa_nil))))) (@pa_c _ _ _ _ _ Pl.T (@pe_tup _ _ _ _ _ (@pa_c _ _ _ _ _ Pl.L (@pe_lst _ _ _ _ (@pa_c _ _ _ _ _ Pl.C pint (@pa_c _ _ _ _ _ Pl.C pint pa_nil))) (@pa_c _ _ _ _ _ Pl.L (@pe_lst _ _ _ _ (@pa_c _ _ _ _ _ Pl.C pint pa_nil)) (@pa_c _ _ _ _ _ Pl.C pint (@pa_c _ _ _ _ _ Pl.C pe_bl pa_nil))))) pa_nil))))) (by rfl) (Or.inl rfl))
    (@pss_cons _ _ _ _ _ (ps_expr (pe_bm PySem.F.plainAttrs_list PySem.F.slot_list_append PySem.F.type_list_append mt_append (pv 15) (@pa_c _ _ _ _ _ Pl.T (@pe_tup _ _ _ _ _ (@pa_c _ _ _ _ _ Pl.L (@pe_lst _ _ _ _ pa_nil) (@pa_c _ _ _ _ _ Pl.L (@pe_lst _ _ _ _ pa_nil) (@pa_c _ _ _ _ _ Pl.U (pe_un un_neg pint) (@pa_c _ _ _ _ _ Pl.C pe_bl pa_nil))))) pa_nil)))
    (@pss_cut _ _ _ _ _ (ps_for PassesOwn.never rfl (pi_list (pv 15)) (pgr 16 13 11 17) (pss_one (ps_if (pt_not (pt_val (pcallP Z.D10 Z.G10 hr Pl.K (NS.cons Pl.N NS.nil) (@pa_c _ _ _ _ _ Pl.K (pe_meth (pe_make Z.L.M Z.L.G (hr.mono (by decide)) rfl Z.L.m Z.L.b .nil pass0 (@pa_c _ _ _ _ _ Pl.N (pv 16) (@pa_c _ _ _ _ _ Pl.N (pv 13) (@pa_c _ _ _ _ _ Pl.N (pv 11) pa_nil))) (by decide) (Pl.N _ _) ((NS.cons Pl.N (NS.cons Pl.N NS.nil)) _ _)) Z.L.c.cl Z.L.mS Z.L.GS hr8 Z.L.bS .nil pass0 (@pa_c _ _ _ _ _ Pl.C pint (@pa_c _ _ _ _ _ Pl.L (@pe_lst _ _ _ _ (@pa_c _ _ _ _ _ Pl.C pint (@pa_c _ _ _ _ _ Pl.C pint (@pa_c _ _ _ _ _ Pl.C pint (@pa_c _ _ _ _ _ Pl.C pint pa_nil))))) pa_nil)) (Pl.C _ _) ((NS.cons Pl.L NS.nil) _ _)) (@pa_c _ _ _ _ _ Pl.N (pv 17) pa_nil))))) (pss_one (ps_ret pe_bl)) pss_nil)))
    (@pss_cut _ _ _ _ _ (ps_if (PW.pt (pw_or (pt_not (pt_val (pcallP Z.D10 Z.G10 hr Pl.K (NS.cons Pl.C NS.nil) (@pa_c _ _ _ _ _ Pl.K (pe_meth (pe_make Z.O.M Z.O.G (hr.mono (by decide)) rfl Z.O.m Z.O.b .nil pass0 (@pa_c _ _ _ _ _ Pl.L (@pe_lst _ _ _ _ (@pa_c _ _ _ _ _ Pl.C pint pa_nil)) (@pa_c _ _ _ _ _ Pl.L (@pe_lst _ _ _ _ pa_nil) (@pa_c _ _ _ _ _ Pl.C pint pa_nil))) (by decide) (Pl.L _ _) ((NS.cons Pl.L (NS.cons Pl.C NS.nil)) _ _)) Z.O.c.cl Z.O.mS Z.O.GS hr8 Z.O.bS .nil pass0 (@pa_c _ _ _ _ _ Pl.C pint (@pa_c _ _ _ _ _ Pl.L (@pe_lst _ _ _ _ (@pa_c _ _ _ _ _ Pl.C pint pa_nil)) pa_nil)) (Pl.C _ _) ((NS.cons Pl.L NS.nil) _ _)) (@pa_c _ _ _ _ _ Pl.C pe_bl pa_nil))))) (pw_or1 (pt_not (pt_val (pcallP Z.D10 Z.G10 hr Pl.K (NS.cons Pl.C NS.nil) (@pa_c _ _ _ _ _ Pl.K (pe_meth (pe_make Z.O.M Z.O.G (hr.mono (by decide)) rfl Z.O.m Z.O.b .nil pass0 (@pa_c _ _ _ _ _ Pl.L (@pe_lst _ _ _ _ pa_nil) (@pa_c _ _ _ _ _ Pl.L (@pe_lst _ _ _ _ pa_nil) (@pa_c _ _ _ _ _ Pl.U (pe_un un_neg pint) pa_nil))) (by decide) (Pl.L _ _) ((NS.cons Pl.L (NS.cons Pl.U NS.nil)) _ _)) Z.O.c.cl Z.O.mS Z.O.GS hr8 Z.O.bS .nil pass0 (@pa_c _ _ _ _ _ Pl.C pint (@pa_c _ _ _ _ _ Pl.L (@pe_lst _ _ _ _ (@pa_c _ _ _ _ _ Pl.C pint pa_nil)) pa_nil)) (Pl.C _ _) ((NS.cons Pl.L NS.nil) _ _)) (@pa_c _ _ _ _ _ Pl.C pe_bl pa_nil)))))))) (pss_one (ps_ret pe_bl)) pss_nil)
    (@pss_cut _ _ _ _ _ (ps_if (pt_not (pt_val (pcallP Z.D10 Z.G10 hr Pl.K (NS.cons Pl.C NS.nil) (@pa_c _ _ _ _ _ Pl.K (pe_meth (pe_make Z.N.M Z.N.G (hr.mono (by decide)) rfl Z.N.m Z.N.b .nil pass0 (@pa_c _ _ _ _ _ Pl.L (@pe_lst _ _ _ _ (@pa_c _ _ _ _ _ Pl.C pint pa_nil)) (@pa_c _ _ _ _ _ Pl.L (@pe_lst _ _ _ _ (@pa_c _ _ _ _ _ Pl.C pint pa_nil)) (@pa_c _ _ _ _ _ Pl.L (@pe_lst _ _ _ _ pa_nil) (@pa_c _ _ _ _ _ Pl.C pint pa_nil)))) (by decide) (Pl.L _ _) ((NS.cons Pl.L (NS.cons Pl.L (NS.cons Pl.C NS.nil))) _ _)) Z.N.c.cl Z.N.mS Z.N.GS hr8 Z.N.bS .nil pass0 (@pa_c _ _ _ _ _ Pl.C pint (@pa_c _ _ _ _ _ Pl.L (@pe_lst _ _ _ _ (@pa_c _ _ _ _ _ Pl.C pint pa_nil)) pa_nil)) (Pl.C _ _) ((NS.cons Pl.L NS.nil) _ _)) (@pa_c _ _ _ _ _ Pl.C pe_bl pa_nil))))) (pss_one (ps_ret pe_bl)) pss_nil)
    (@pss_one _ _ _ (ps_ret (pcallP Z.D10 Z.G10 hr Pl.K (NS.cons Pl.C NS.nil) (@pa_c _ _ _ _ _ Pl.K (pe_meth (pe_make Z.N.M Z.N.G (hr.mono (by decide)) rfl Z.N.m Z.N.b .nil pass0 (@pa_c _ _ _ _ _ Pl.L (@pe_lst _ _ _ _ (@pa_c _ _ _ _ _ Pl.C pint pa_nil)) (@pa_c _ _ _ _ _ Pl.L (@pe_lst _ _ _ _ (@pa_c _ _ _ _ _ Pl.C pint pa_nil)) (@pa_c _ _ _ _ _ Pl.L (@pe_lst _ _ _ _ pa_nil) (@pa_c _ _ _ _ _ Pl.C pint pa_nil)))) (by decide) (Pl.L _ _) ((NS.cons Pl.L (NS.cons Pl.L (NS.cons Pl.C NS.nil))) _ _)) Z.N.c.cl Z.N.mS Z.N.GS hr8 Z.N.bS .nil pass0 (@pa_c _ _ _ _ _ Pl.C pint (@pa_c _ _ _ _ _ Pl.L (@pe_lst _ _ _ _ (@pa_c _ _ _ _ _ Pl.C pint pa_nil)) pa_nil)) (Pl.C _ _) ((NS.cons Pl.L NS.nil) _ _)) (@pa_c _ _ _ _ _ Pl.C pe_bl pa_nil)))))))))))))), ?_⟩
  refine ⟨_, rfl, a, ns, rfl, h1, by omega, fun p H1 h7 s1 => ?_⟩
  have h7 : Seven p := h7
  have pok := h7.ok
  have hp := pok.pos
  have hp2 := pok.2.1
  refine ⟨_, rfl, _, rfl, a, ns, p, rfl, s1.seq h1, by omega, pok, fun wa H2 row s2 nw hw hR hL => ?_⟩
  have a2 := s2.seq (s1.seq h1)
  have hrow : row.length ≤ 63 := by omega
  clear h1 s1 s2 nw
  refine ⟨fun σ Hw => ∃ (y y2 r t : Addr) (pl : Int) (oa : Addr) (rule shorter ol : List Int), σ = [some (.ref a), some (.int p), some (.ref wa), some (.ref y), some (.ref y2), some (.ref r), some (.ref t), some (.int pl), some (.ref oa), none, none, none, none, none, none, none, none, none] ∧
      SqL K Hw a (ns.map V.int) ∧ Ls Hw wa row ∧ Ls Hw r rule ∧ Ls Hw t shorter ∧ Ls Hw oa ol ∧ rule.length ≤ 64 ∧ shorter.length ≤ 64 ∧ ol.length ≤ 64, ?_, ?_⟩
  · refine ⟨_, rfl, _, rfl, p, wa, row, rfl, hw, h7, hR, by omega, fun y r t H3 rule shorter pl miss s3 ny nr nt an bm => ?_⟩
    have a3 := s3.seq a2
    have hw3 := hw.same s3
    have llr := bm.len
    have lls := bm.len2
    have l1 : rule.length ≤ 64 := by omega
    have l2 : shorter.length ≤ 64 := by omega
    clear ny nr nt a2 hw bm llr lls
    obtain ⟨dx, hy⟩ := an.ob
    refine ⟨_, rfl, _, rfl, p, wa, row, rfl, hw3, h7, hR, by omega, ?_, ?_⟩
    · intro y2 r2 t2 H4 rule2 shorter2 pl2 miss2 s4 ny2 nr2 nt2 an2 bm2 hs2
      have HBan := an.same s4
      have HBy := s4 _ _ hy
      obtain ⟨dx2, hy2⟩ := an2.ob
      refine ⟨_, _, rfl, ?_⟩
      refine ⟨_, rfl, y, C, dx, _, _, rfl, HBy, Z.L.c.cl, Z.L.c.r, flds3_r, _, rfl, y, C, dx, _, _, rfl, HBy, Z.L.c.cl, Z.L.c.s, flds3_s, _, rfl, y, C, dx, _, _, rfl, HBy, Z.L.c.cl, Z.L.c.p, flds3_p, _, _, _, rfl, ?_⟩
      refine ⟨_, rfl, _, _, _, _, _, rfl, .own _, Z.tO.of hy2 Z.O.c.cl, Z.oN, false, rfl, iteF ⟨_, rfl, ?_⟩⟩
      exact ⟨y, y2, r, t, pl, r, rule, shorter, rule, rfl, s4.seq a3, hw3.same s4, HBan.r, HBan.s, HBan.r, l1, l2, l1⟩
    · intro y2 r2 u2 t2 H4 rule2 other2 shorter2 pl2 miss2 s4 ny2 nr2 nu2 nt2 an2 bm2 hs2 ho2
      have HBan := an.same s4
      have HBy := s4 _ _ hy
      obtain ⟨dx2, hy2⟩ := an2.ob
      have lb := bm2.len
      have lo : other2.length ≤ 64 := by
        have := bm2.other h7.two hR hs2
        rw [ho2, this.1]
        omega
      refine ⟨_, _, rfl, ?_⟩
      refine ⟨_, rfl, y, C, dx, _, _, rfl, HBy, Z.L.c.cl, Z.L.c.r, flds3_r, _, rfl, y, C, dx, _, _, rfl, HBy, Z.L.c.cl, Z.L.c.s, flds3_s, _, rfl, y, C, dx, _, _, rfl, HBy, Z.L.c.cl, Z.L.c.p, flds3_p, _, _, _, rfl, ?_⟩
      refine ⟨_, rfl, _, _, _, _, _, rfl, .own _, Z.tN.of hy2 Z.N.c.cl, Z.nN, true, rfl, iteT ⟨_, rfl, y2, CA, dx2, _, _, rfl, hy2, Z.N.c.cl, Z.N.c.t, flds4_t, ?_⟩⟩
      exact ⟨y, y2, r, t, pl, u2, rule, shorter, other2, rfl, s4.seq a3, hw3.same s4, HBan.r, HBan.s, an2.t, l1, l2, lo⟩
  clear a2 hw
  rintro σ H4 ⟨y, y2, r, t, pl, oa, rule, shorter, ol, rfl, HBa, HBw, HBr, HBs, HBo, l1, l2, lo⟩
  refine ⟨fun σ _ => ∃ x0 x1 x2 x3 x4 x5 x6 x7 x8 x9 x10 x11 x12 x13 x14 x15 x16 x17 : Option V, σ = [x0, x1, x2, x3, x4, x5, x6, x7, x8, x9, x10, x11, x12, x13, x14, x15, x16, x17], ?_, ?_⟩
  · refine ⟨6, rfl, by decide, by decide, for_range (n := 6) (fun i σ Hw => ∃ x9 x10 x11 x12 x13 x14, σ = [some (.ref a), some (.int p), some (.ref wa), some (.ref y), some (.ref y2), some (.ref r), some (.ref t), some (.int pl), some (.ref oa), x9, x10, x11, x12, x13, x14, none, none, none] ∧ Same H4 Hw)
      ⟨none, none, none, none, none, none, rfl, Same.refl _⟩ ?_ ?_⟩
    · rintro i σ Hw hi ⟨x9, x10, x11, x12, x13, x14, rfl, sw⟩
      have aw := sw.seq HBa
      refine ⟨_, rfl, _, rfl, a, ns, i, congrArg (fun z => [V.ref a, V.int z]) (by omega), aw, by omega, _, rfl, _, _, rfl, rfl, .inl ⟨by decide, by decide⟩, _, _, rfl, rfl, _, rfl, _, rfl, _, _, rfl, rfl, a, ns, i + 1, congrArg (fun z => [V.ref a, V.int z]) (by omega), aw, by omega, _, _, rfl, rfl, .inl ⟨by decide, by decide⟩, _, _, rfl, rfl, ?_⟩
      dsimp only
      generalize gt ns i + 977 * (0 + (i : Int)) + 7 * gt ns (i + 1) = cell
      refine ⟨_, rfl, _, rfl, (by show 5 ≤ sizeLine; decide), fun tt ntt => ?_⟩
      have w1 := same_new ntt (.tup [.int 0, .int 0, .int 0, .int 1, .int (-1)])
      have ett : SqT K (upd Hw tt (.tup [.int 0, .int 0, .int 0, .int 1, .int (-1)])) tt (([0, 0, 0, 1, -1] : List Int).map V.int) := SqT.of upd_same
      have sw := sw.trans w1
      generalize upd Hw tt (.tup [.int 0, .int 0, .int 0, .int 1, .int (-1)]) = Ha at ett sw ⊢
      refine ⟨_, rfl, cell, 5, 5, rfl, by decide, fun v Hb v0 v5 sb => ?_⟩
      obtain ⟨m, rfl⟩ : ∃ m : Nat, v = (m : Int) := ⟨v.toNat, by omega⟩
      have sw := sw.trans sb
      refine ⟨tt, _, _, _, rfl, rfl, sqt_same sb ett, atI_int rfl (by show m < 5; omega), _, _, rfl, rfl, ?_⟩
      dsimp only
      generalize pl + gt [0, 0, 0, 1, -1] m = spot
      refine ⟨_, rfl, _, rfl, _, rfl, r, cell, p, rule, rfl, HBr.same sw, by omega, hp, fun mi Hc li sc nmi hmi lmi => ?_⟩
      have sw := sw.trans sc
      refine ⟨_, rfl, _, rfl, _, _, rfl, rfl, ⟨by decide, by decide⟩, _, rfl, t, cell / 3, p, shorter, rfl, HBs.same sw, by omega, hp, fun be Hd lb sd nbe hbe lbe => ?_⟩
      have sw := sw.trans sd
      have hmi := hmi.same sd
      refine ⟨_, _, rfl, ?_⟩
      refine ⟨_, rfl, _, rfl, _, rfl, _, rfl, _, rfl, p, wa, mi, t, row, li, shorter, spot, rfl, HBw.same sw, hmi, HBs.same sw, ⟨pok, hR, by omega, by omega, by omega⟩, fun He se => ⟨_, rfl, iteF ?_⟩⟩
      have sw := sw.trans se
      have hmi := hmi.same se
      have hbe := hbe.same se
      refine ⟨_, rfl, _, rfl, _, rfl, _, rfl, _, rfl, p, wa, r, be, row, rule, lb, spot, rfl, HBw.same sw, HBr.same sw, hbe, ⟨pok, hR, by omega, by omega, by omega⟩, fun Hf sf => ⟨_, rfl, iteF ?_⟩⟩
      have sw := sw.trans sf
      have hmi := hmi.same sf
      refine ⟨_, rfl, _, rfl, _, _, rfl, rfl, ⟨by decide, by decide⟩, _, rfl, oa, cell / 5, p, ol, rfl, HBo.same sw, by omega, hp, fun th Hg lt sg nth hth lth => ?_⟩
      have sw := sw.trans sg
      have hmi := hmi.same sg
      refine ⟨_, rfl, _, rfl, _, rfl, _, rfl, _, rfl, _, rfl, p, wa, r, th, t, row, rule, lt, shorter, spot, rfl, HBw.same sw, HBr.same sw, hth, HBs.same sw, ⟨pok, hR, by omega, by omega, by omega⟩, by omega, fun Hh sh => ⟨_, rfl, iteF ?_⟩⟩
      have sw := sw.trans sh
      have hmi := hmi.same sh
      refine ⟨_, rfl, _, rfl, _, rfl, _, rfl, _, rfl, _, rfl, p, wa, mi, oa, t, row, li, ol, shorter, pl, rfl, HBw.same sw, hmi, HBo.same sw, HBs.same sw, ⟨pok, hR, by omega, by omega, by omega⟩, by omega, fun Hi si => ⟨_, rfl, iteF ?_⟩⟩
      exact ⟨_, _, _, _, _, _, rfl, sw.trans si⟩
    rintro σ Hw ⟨x9, x10, x11, x12, x13, x14, rfl, sw⟩
    exact ⟨_, _, _, _, _, _, _, _, _, _, _, _, _, _, _, _, _, _, rfl⟩
  clear HBa HBw HBr HBs HBo l1 l2 lo
  rintro σ Hw ⟨x0, x1, x2, x3, x4, x5, x6, x7, x8, x9, x10, x11, x12, x13, x14, x15, x16, x17, rfl⟩
  refine ⟨(by show 1 ≤ sizeLine; decide), fun a0 n0 => ⟨Nat.zero_le _, fun b0 m0 => ⟨(by show 4 ≤ sizeLine; decide), fun t0 k0 => ?_⟩⟩⟩
  obtain ⟨P0, s0⟩ := pk_new (xs := [.int 1]) (ys := []) (l := [1]) (s := []) (pl := 0) (d := true) rfl rfl n0 m0 k0 (by decide) (by decide) (by decide +kernel)
  generalize upd (upd (upd Hw a0 (.lst [.int 1])) b0 (.lst [])) t0 (.tup [.ref a0, .ref b0, .int 0, .bl true]) = Ha at P0 ⊢
  clear n0 m0 k0 s0
  refine ⟨(by show 1 ≤ sizeLine; decide), fun a1 n1 => ⟨Nat.zero_le _, fun b1 m1 => ⟨(by show 4 ≤ sizeLine; decide), fun t1 k1 => ?_⟩⟩⟩
  obtain ⟨P1, s1'⟩ := pk_new (xs := [.int 2]) (ys := []) (l := [2]) (s := []) (pl := 0) (d := false) rfl rfl n1 m1 k1 (by decide) (by decide) (by decide +kernel)
  have P0 := P0.same s1'
  generalize upd (upd (upd Ha a1 (.lst [.int 2])) b1 (.lst [])) t1 (.tup [.ref a1, .ref b1, .int 0, .bl false]) = Hb at P0 P1 ⊢
  clear n1 m1 k1 s1'
  refine ⟨(by show 2 ≤ sizeLine; decide), fun a2 n2 => ⟨Nat.zero_le _, fun b2 m2 => ⟨(by show 4 ≤ sizeLine; decide), fun t2' k2 => ?_⟩⟩⟩
  obtain ⟨P2, s2'⟩ := pk_new (xs := [.int 1, .int 0]) (ys := []) (l := [1, 0]) (s := []) (pl := 0) (d := false) rfl rfl n2 m2 k2 (by decide) (by decide) (by decide +kernel)
  have P0 := P0.same s2'
  have P1 := P1.same s2'
  generalize upd (upd (upd Hb a2 (.lst [.int 1, .int 0])) b2 (.lst [])) t2' (.tup [.ref a2, .ref b2, .int 0, .bl false]) = Hc at P0 P1 P2 ⊢
  clear n2 m2 k2 s2'
  refine ⟨(by show 2 ≤ sizeLine; decide), fun a3 n3 => ⟨(by show 1 ≤ sizeLine; decide), fun b3 m3 => ⟨(by show 4 ≤ sizeLine; decide), fun t3 k3 => ?_⟩⟩⟩
  obtain ⟨P3, s3'⟩ := pk_new (xs := [.int 0, .int 1]) (ys := [.int 1]) (l := [0, 1]) (s := [1]) (pl := 2) (d := false) rfl rfl n3 m3 k3 (by decide) (by decide) (by decide +kernel)
  have P0 := P0.same s3'
  have P1 := P1.same s3'
  have P2 := P2.same s3'
  generalize upd (upd (upd Hc a3 (.lst [.int 0, .int 1])) b3 (.lst [.int 1])) t3 (.tup [.ref a3, .ref b3, .int 2, .bl false]) = Hd at P0 P1 P2 P3 ⊢
  clear n3 m3 k3 s3'
  refine ⟨(by show 4 ≤ sizeLine; decide), fun hs nhs => ?_⟩
  have w0 := same_new nhs (.lst [.ref t0, .ref t1, .ref t2', .ref t3])
  have P0 := P0.same w0
  have P1 := P1.same w0
  have P2 := P2.same w0
  have P3 := P3.same w0
  have eh : (upd Hd hs (.lst [.ref t0, .ref t1, .ref t2', .ref t3])) hs = some (.lst [.ref t0, .ref t1, .ref t2', .ref t3]) := upd_same
  generalize upd Hd hs (.lst [.ref t0, .ref t1, .ref t2', .ref t3]) = He at P0 P1 P2 P3 eh ⊢
  clear w0 nhs
  refine ⟨_, rfl, .inl ⟨rfl, _, SqL.of eh⟩, Nat.zero_le _, fun a4 n4 => ⟨Nat.zero_le _, fun b4 m4 => ⟨_, rfl, (by show 4 ≤ sizeLine; decide), fun t4 k4 => ?_⟩⟩⟩
  obtain ⟨P4, s4'⟩ := pk_new (xs := []) (ys := []) (l := []) (s := []) (pl := -1) (d := false) rfl rfl n4 m4 k4 (by decide) (by decide) (by decide +kernel)
  have P0 := P0.same s4'
  have P1 := P1.same s4'
  have P2 := P2.same s4'
  have P3 := P3.same s4'
  have eh := s4' _ _ eh
  generalize upd (upd (upd He a4 (.lst [])) b4 (.lst [])) t4 (.tup [.ref a4, .ref b4, .int (-1), .bl false]) = Hf at P0 P1 P2 P3 P4 eh ⊢
  clear n4 m4 k4 s4'
  refine ⟨hs, _, _, rfl, rfl, eh, (by show 4 < sizeLine; decide), ?_⟩
  have pk : ∀ {x : V}, Pk Hf x → Pk (upd Hf hs (.lst ([V.ref t0, .ref t1, .ref t2', .ref t3] ++ [.ref t4]))) x := fun {x} hx => by
    obtain ⟨tt, aa, bb, l, s', pl', d', e1, e2, e3, e4, e5, e6, e7⟩ := hx
    have nl : ∀ {b' : Addr} {xs : List V}, Hf b' = some (.lst xs) → xs ≠ [.ref t0, .ref t1, .ref t2', .ref t3] → b' ≠ hs := fun h1 h2 z => by
      rw [z, eh] at h1
      cases h1
      exact h2 rfl
    have ni : ∀ l : List Int, l.map V.int ≠ [.ref t0, .ref t1, .ref t2', .ref t3] := fun l z => by
      cases l with
      | nil => cases z
      | cons x r => cases z
    exact ⟨tt, aa, bb, l, s', pl', d', e1, by rw [upd_ne (ne_of e2 eh (by intro z; cases z))]; exact e2, e3.keep (nl e3 (ni _)), e4.keep (nl e4 (ni _)), e5, e6, e7⟩
  have P0 := pk P0
  have P1 := pk P1
  have P2 := pk P2
  have P3 := pk P3
  have P4 := pk P4
  have eh : (upd Hf hs (.lst ([V.ref t0, .ref t1, .ref t2', .ref t3] ++ [.ref t4]))) hs = some (.lst [.ref t0, .ref t1, .ref t2', .ref t3, .ref t4]) := upd_same
  generalize upd Hf hs (.lst ([V.ref t0, .ref t1, .ref t2', .ref t3] ++ [.ref t4])) = Hg at P0 P1 P2 P3 P4 eh ⊢
  clear pk
  have hP : ∀ (i : Nat) (x : V), [V.ref t0, V.ref t1, V.ref t2', V.ref t3, V.ref t4][i]? = some x → Pk Hg x := fun i x hx => by
    match i, hx with
    | 0, hx => exact (Option.some.inj hx) ▸ P0
    | 1, hx => exact (Option.some.inj hx) ▸ P1
    | 2, hx => exact (Option.some.inj hx) ▸ P2
    | 3, hx => exact (Option.some.inj hx) ▸ P3
    | 4, hx => exact (Option.some.inj hx) ▸ P4
  clear P0 P1 P2 P3 P4
  refine ⟨fun _ _ => True, ?_, fun _ _ _ => ?_⟩
  · refine ⟨_, rfl, hs, rfl, ⟨_, SqL.of eh⟩, for_list (xs := [V.ref t0, V.ref t1, V.ref t2', V.ref t3, V.ref t4]) (fun _ σ Hw => ∃ x11 x13 x16 x17, σ = [x0, x1, x2, x3, x4, x5, x6, x7, x8, x9, x10, x11, x12, x13, x14, some (.ref hs), x16, x17] ∧ Same Hg Hw)
      ⟨_, _, _, _, rfl, Same.refl _⟩ (fun i σ Hw _ hw => ?_) ?_ ?_⟩
    · obtain ⟨_, _, _, _, _, sw⟩ := hw
      exact SqL.of (sw _ _ eh)
    · rintro i x σ Hw hx ⟨x11', x13', x16', x17', rfl, sw⟩
      obtain ⟨tt, aa, bb, l, s', pl', d', rfl, e2, e3, e4, e5, e6, e7⟩ := (hP i x hx).same sw
      refine quad_go e2 ?_
      refine ⟨_, rfl, _, rfl, _, rfl, fun z dz nz ndz nez => ?_⟩
      refine ⟨z, aa, bb, pl', dz, l, s', rfl, upd_same, e3.same (make_same nz ndz), e4.same (make_same nz ndz), fun rr tr Hk nn1 nn2 ank kp => ⟨rfl, ?_⟩⟩
      have sk := sw.trans (made_same nz ndz kp)
      obtain ⟨dk, hk⟩ := ank.ob
      refine ⟨z, dk, _, rfl, hk, flds3_m, (by show 4 ≤ sizeLine; decide), fun rw' nrw => ?_⟩
      have w1 := same_new nrw (.lst [.int 1, .int 1, .int 1, .int 1])
      refine ⟨z, 5, rw', rr, tr, [1, 1, 1, 1], l, s', pl', rfl, ank.same w1, Ls.new rfl, ⟨ok5, r5 rfl, by decide, e5, e6⟩, fun Hl sl => ?_⟩
      refine ⟨_, rfl, _, _, rfl, _, rfl, ?_⟩
      rw [e7, decide_eq_true (rfl : d' = d')]
      exact iteF ⟨_, _, _, _, rfl, (sk.trans w1).trans sl⟩
    exact fun _ _ _ => trivial
  refine ⟨fun _ _ => True, ?_, fun _ _ _ => ?_⟩
  · refine ⟨(by show 1 ≤ sizeLine; decide), fun a0 n0 => ⟨Nat.zero_le _, fun b0 m0 => fun z dz nz ndz nez => ?_⟩⟩
    refine ⟨z, a0, b0, 0, dz, [1], [], rfl, upd_same, Ls.same (ns := [1]) ((same_new m0 _) _ _ upd_same) (make_same nz ndz), Ls.same (ns := []) upd_same (make_same nz ndz), fun rr tr Hk nn1 nn2 ank kp => ⟨rfl, ?_⟩⟩
    obtain ⟨dk, hk⟩ := ank.ob
    refine ⟨z, dk, _, rfl, hk, flds3_m, (by show 1 ≤ sizeLine; decide), fun rw' nrw => ?_⟩
    have w1 := same_new nrw (.lst [.int 1])
    refine ⟨z, 5, rw', rr, tr, [1], [1], [], 0, rfl, ank.same w1, Ls.new rfl, ⟨ok5, r5 rfl, by decide, by decide, by decide⟩, fun Hl sl => ?_⟩
    refine ⟨_, _, rfl, _, rfl, iteF ?_⟩
    clear w1 nrw hk ank kp nn1 nn2 nz ndz m0 n0 sl
    refine ⟨Nat.zero_le _, fun a0 n0 => ⟨Nat.zero_le _, fun b0 m0 => ⟨_, rfl, fun z dz nz ndz nez => ?_⟩⟩⟩
    refine ⟨z, a0, b0, -1, dz, [], [], rfl, upd_same, Ls.same (ns := []) ((same_new m0 _) _ _ upd_same) (make_same nz ndz), Ls.same (ns := []) upd_same (make_same nz ndz), fun rr tr Hk nn1 nn2 ank kp => ⟨rfl, ?_⟩⟩
    obtain ⟨dk, hk⟩ := ank.ob
    refine ⟨z, dk, _, rfl, hk, flds3_m, (by show 1 ≤ sizeLine; decide), fun rw' nrw => ?_⟩
    have w1 := same_new nrw (.lst [.int 0])
    refine ⟨z, 5, rw', rr, tr, [0], [], [], -1, rfl, ank.same w1, Ls.new rfl, ⟨ok5, r5 rfl, by decide, by decide, by decide⟩, fun Hl sl => ?_⟩
    have ev : (soleB [0] [] && leastB 5 [0] [] [] (-1)) = true := by decide +kernel
    rw [ev]
    exact ⟨_, _, rfl, _, rfl, iteF trivial⟩
  refine ⟨fun _ _ => True, ?_, fun _ _ _ => ?_⟩
  · refine ⟨(by show 1 ≤ sizeLine; decide), fun a0 n0 => ⟨(by show 1 ≤ sizeLine; decide), fun b0 m0 => ⟨Nat.zero_le _, fun c0 o0 => fun z dz nz ndz nez => ?_⟩⟩⟩
    refine ⟨z, a0, b0, c0, 0, dz, [1], [1], [], rfl, upd_same, Ls.same (ns := [1]) ((same_new o0 _) _ _ ((same_new m0 _) _ _ upd_same)) (make_same nz ndz), Ls.same (ns := [1]) ((same_new o0 _) _ _ upd_same) (make_same nz ndz), Ls.same (ns := []) upd_same (make_same nz ndz), fun rr ur tr Hk nn1 nn2 nn3 ank kp => ⟨rfl, ?_⟩⟩
    obtain ⟨dk, hk⟩ := ank.ob
    refine ⟨z, dk, _, rfl, hk, flds4_m, (by show 1 ≤ sizeLine; decide), fun rw' nrw => ?_⟩
    have w1 := same_new nrw (.lst [.int 1])
    refine ⟨z, 5, rw', rr, ur, tr, [1], [1], [1], [], 0, rfl, ank.same w1, Ls.new rfl, ⟨ok5, r5 rfl, by decide, by decide, by decide⟩, by decide, fun Hl sl => ?_⟩
    have ev : anoB 5 [1] [1] [1] [] 0 = false := by decide +kernel
    rw [ev]
    exact ⟨_, _, rfl, _, rfl, iteF trivial⟩
  refine ⟨(by show 1 ≤ sizeLine; decide), fun a0 n0 => ⟨(by show 1 ≤ sizeLine; decide), fun b0 m0 => ⟨Nat.zero_le _, fun c0 o0 => fun z dz nz ndz nez => ?_⟩⟩⟩
  refine ⟨z, a0, b0, c0, 0, dz, [1], [2], [], rfl, upd_same, Ls.same (ns := [1]) ((same_new o0 _) _ _ ((same_new m0 _) _ _ upd_same)) (make_same nz ndz), Ls.same (ns := [2]) ((same_new o0 _) _ _ upd_same) (make_same nz ndz), Ls.same (ns := []) upd_same (make_same nz ndz), fun rr ur tr Hk nn1 nn2 nn3 ank kp => ⟨rfl, ?_⟩⟩
  obtain ⟨dk, hk⟩ := ank.ob
  refine ⟨z, dk, _, rfl, hk, flds4_m, (by show 1 ≤ sizeLine; decide), fun rw' nrw => ?_⟩
  have w1 := same_new nrw (.lst [.int 1])
  refine ⟨z, 5, rw', rr, ur, tr, [1], [1], [2], [], 0, rfl, ank.same w1, Ls.new rfl, ⟨ok5, r5 rfl, by decide, by decide, by decide⟩, by decide, fun Hl sl => ?_⟩
  have ev : anoB 5 [1] [1] [2] [] 0 = true := by decide +kernel
  rw [ev]
  exact ⟨_, _, rfl, q _⟩
end
end Rr

set_option Elab.async false
set_option linter.all false
set_option maxRecDepth 100000
set_option maxHeartbeats 4000000
namespace Rr
open PySem L2 RM
theorem def_mk {K : PySem.W.Frag} {h : Heap} {mg : Str → Option Value} (X : K.In h) (G : h.Ns mainGlobals mg) {x : Str} {st : Stmt} {ps : List Str} {f : Addr} {oc : Value} {od an : Option Addr} {osl : Array (Option Value)} {kV doc pm cdv ct : Value} (a : PySem.W.nsIn K mainGlobals x = some (some (.ref f)))
    (l : K.lookup f = some ⟨oc, od, .func (PySem.W.fnOf x x (defArgs st) (defBody st) (defScope st) .none kV doc pm an cdv ct), osl⟩) (c : PySem.W.codeIn K cdv x = true) (k : PySem.W.keepIn K (.ref f) = true)
    (hb : ∀ (kV doc pm : Value) (an : Option Addr) (cdv ct : Value) (us : List Value), us.length = ps.length → bindArgs (PySem.W.fnOf x x (defArgs st) (defBody st) (defScope st) .none kV doc pm an cdv ct) ⟨us, []⟩ = pure (ps.zip us)) :
    Def K mg x st ps f (PySem.W.fnOf x x (defArgs st) (defBody st) (defScope st) .none kV doc pm an cdv ct) :=
  ⟨fun_mk (st := st) l c k, (fun_mk (st := st) l c k).binds hb, PySem.W.mg_of X G a⟩
theorem ex1 {us : List Value} (h : us.length = 1) : ∃ a, us = [a] := by
  match us, h with
  | [a], _ => exact ⟨a, rfl⟩
theorem exS {us : List Value} {n : Nat} (h : us.length = n + 1) : ∃ a r, us = a :: r ∧ r.length = n := by
  match us, h with
  | a :: r, h => exact ⟨a, r, rfl, Nat.succ.inj h⟩
theorem ex2 {us : List Value} (h : us.length = 2) : ∃ a b, us = [a, b] := by
  obtain ⟨a, r, rfl, h2⟩ := exS h
  obtain ⟨b, rfl⟩ := ex1 h2
  exact ⟨a, b, rfl⟩
theorem ex3 {us : List Value} (h : us.length = 3) : ∃ a b c, us = [a, b, c] := by
  obtain ⟨a, r, rfl, h2⟩ := exS h
  obtain ⟨b, c, rfl⟩ := ex2 h2
  exact ⟨a, b, c, rfl⟩
theorem ex4 {us : List Value} (h : us.length = 4) : ∃ a b c d, us = [a, b, c, d] := by
  obtain ⟨a, r, rfl, h2⟩ := exS h
  obtain ⟨b, c, d, rfl⟩ := ex3 h2
  exact ⟨a, b, c, d, rfl⟩
theorem ex5 {us : List Value} (h : us.length = 5) : ∃ a b c d e, us = [a, b, c, d, e] := by
  obtain ⟨a, r, rfl, h2⟩ := exS h
  obtain ⟨b, c, d, e, rfl⟩ := ex4 h2
  exact ⟨a, b, c, d, e, rfl⟩
theorem ex6 {us : List Value} (h : us.length = 6) : ∃ a b c d e f, us = [a, b, c, d, e, f] := by
  obtain ⟨a, r, rfl, h2⟩ := exS h
  obtain ⟨b, c, d, e, f, rfl⟩ := ex5 h2
  exact ⟨a, b, c, d, e, f, rfl⟩
def fdOf {K : PySem.W.Frag} {mg : Str → Option Value} {x : Str} {st : Stmt} {ps : List Str} {f : Addr} {fd : FuncData} (_ : Def K mg x st ps f fd) : FuncData := fd
def fdM {K : PySem.W.Frag} {x q : Str} {st : Stmt} {f : Addr} {fd : FuncData} (_ : Fun K x q st f fd) : FuncData := fd

theorem all_mk {l : PySem.W.OpenLaw} {w : World} {K : PySem.W.Frag} {h : Heap} {mg : Str → Option Value} {fa f1 f2 f3 f4 f5 f6 f7 f8 f9 f10 f11 f12 f13 f14 f15 f16 f17 f18 f19 f20 f21 f22 f23 f24 f25 f26 f27 f28 f29 f30 fiL fsL fiO fsO fiN fsN cA cL cO cN : Addr} (X : K.In h) (G : h.Ns mainGlobals mg) (hfa : mg "law" = some (.ref fa))
    {od1 an1 od2 an2 od3 an3 od4 an4 od5 an5 od6 an6 od7 an7 od8 an8 od9 an9 od10 an10 od11 an11 od12 an12 od13 an13 od14 an14 od15 an15 od16 an16 od17 an17 od18 an18 od19 an19 od20 an20 od21 an21 od22 an22 od23 an23 od24 an24 od25 an25 od26 an26 od27 an27 od28 an28 od29 an29 od30 an30 odiL aniL odsL ansL odiO aniO odsO ansO odiN aniN odsN ansN : Option Addr} {sl1 sl2 sl3 sl4 sl5 sl6 sl7 sl8 sl9 sl10 sl11 sl12 sl13 sl14 sl15 sl16 sl17 sl18 sl19 sl20 sl21 sl22 sl23 sl24 sl25 sl26 sl27 sl28 sl29 sl30 sliL slsL sliO slsO sliN slsN : Array (Option Value)} {oc1 kV1 dc1 pm1 cd1 ct1 oc2 kV2 dc2 pm2 cd2 ct2 oc3 kV3 dc3 pm3 cd3 ct3 oc4 kV4 dc4 pm4 cd4 ct4 oc5 kV5 dc5 pm5 cd5 ct5 oc6 kV6 dc6 pm6 cd6 ct6 oc7 kV7 dc7 pm7 cd7 ct7 oc8 kV8 dc8 pm8 cd8 ct8 oc9 kV9 dc9 pm9 cd9 ct9 oc10 kV10 dc10 pm10 cd10 ct10 oc11 kV11 dc11 pm11 cd11 ct11 oc12 kV12 dc12 pm12 cd12 ct12 oc13 kV13 dc13 pm13 cd13 ct13 oc14 kV14 dc14 pm14 cd14 ct14 oc15 kV15 dc15 pm15 cd15 ct15 oc16 kV16 dc16 pm16 cd16 ct16 oc17 kV17 dc17 pm17 cd17 ct17 oc18 kV18 dc18 pm18 cd18 ct18 oc19 kV19 dc19 pm19 cd19 ct19 oc20 kV20 dc20 pm20 cd20 ct20 oc21 kV21 dc21 pm21 cd21 ct21 oc22 kV22 dc22 pm22 cd22 ct22 oc23 kV23 dc23 pm23 cd23 ct23 oc24 kV24 dc24 pm24 cd24 ct24 oc25 kV25 dc25 pm25 cd25 ct25 oc26 kV26 dc26 pm26 cd26 ct26 oc27 kV27 dc27 pm27 cd27 ct27 oc28 kV28 dc28 pm28 cd28 ct28 oc29 kV29 dc29 pm29 cd29 ct29 oc30 kV30 dc30 pm30 cd30 ct30 ociL kViL dciL pmiL cdiL ctiL ocsL kVsL dcsL pmsL cdsL ctsL ociO kViO dciO pmiO cdiO ctiO ocsO kVsO dcsO pmsO cdsO ctsO ociN kViN dciN pmiN cdiN ctiN ocsN kVsN dcsN pmsN cdsN ctsN : Value} {t1 t2 : Tok}
    (a1 : PySem.W.nsIn K mainGlobals "is_whole" = some (some (.ref f1)))
    (l1 : K.lookup f1 = some ⟨oc1, od1, .func (PySem.W.fnOf "is_whole" "is_whole" (defArgs sWhole) (defBody sWhole) (defScope sWhole) .none kV1 dc1 pm1 an1 cd1 ct1), sl1⟩)
    (c1 : PySem.W.codeIn K cd1 "is_whole" = true)
    (k1 : PySem.W.keepIn K (.ref f1) = true)
    (a2 : PySem.W.nsIn K mainGlobals "is_prime" = some (some (.ref f2)))
    (l2 : K.lookup f2 = some ⟨oc2, od2, .func (PySem.W.fnOf "is_prime" "is_prime" (defArgs sPrime) (defBody sPrime) (defScope sPrime) .none kV2 dc2 pm2 an2 cd2 ct2), sl2⟩)
    (c2 : PySem.W.codeIn K cd2 "is_prime" = true)
    (k2 : PySem.W.keepIn K (.ref f2) = true)
    (a3 : PySem.W.nsIn K mainGlobals "is_rest" = some (some (.ref f3)))
    (l3 : K.lookup f3 = some ⟨oc3, od3, .func (PySem.W.fnOf "is_rest" "is_rest" (defArgs sRest) (defBody sRest) (defScope sRest) .none kV3 dc3 pm3 an3 cd3 ct3), sl3⟩)
    (c3 : PySem.W.codeIn K cd3 "is_rest" = true)
    (k3 : PySem.W.keepIn K (.ref f3) = true)
    (a4 : PySem.W.nsIn K mainGlobals "are_rests" = some (some (.ref f4)))
    (l4 : K.lookup f4 = some ⟨oc4, od4, .func (PySem.W.fnOf "are_rests" "are_rests" (defArgs sAre) (defBody sAre) (defScope sAre) .none kV4 dc4 pm4 an4 cd4 ct4), sl4⟩)
    (c4 : PySem.W.codeIn K cd4 "are_rests" = true)
    (k4 : PySem.W.keepIn K (.ref f4) = true)
    (a5 : PySem.W.nsIn K mainGlobals "need_prime" = some (some (.ref f5)))
    (l5 : K.lookup f5 = some ⟨oc5, od5, .func (PySem.W.fnOf "need_prime" "need_prime" (defArgs sNeedPrime) (defBody sNeedPrime) (defScope sNeedPrime) .none kV5 dc5 pm5 an5 cd5 ct5), sl5⟩)
    (c5 : PySem.W.codeIn K cd5 "need_prime" = true)
    (k5 : PySem.W.keepIn K (.ref f5) = true)
    (a6 : PySem.W.nsIn K mainGlobals "need_rule" = some (some (.ref f6)))
    (l6 : K.lookup f6 = some ⟨oc6, od6, .func (PySem.W.fnOf "need_rule" "need_rule" (defArgs sNeedRule) (defBody sNeedRule) (defScope sNeedRule) .none kV6 dc6 pm6 an6 cd6 ct6), sl6⟩)
    (c6 : PySem.W.codeIn K cd6 "need_rule" = true)
    (k6 : PySem.W.keepIn K (.ref f6) = true)
    (a7 : PySem.W.nsIn K mainGlobals "need_row" = some (some (.ref f7)))
    (l7 : K.lookup f7 = some ⟨oc7, od7, .func (PySem.W.fnOf "need_row" "need_row" (defArgs sNeedRow) (defBody sNeedRow) (defScope sNeedRow) .none kV7 dc7 pm7 an7 cd7 ct7), sl7⟩)
    (c7 : PySem.W.codeIn K cd7 "need_row" = true)
    (k7 : PySem.W.keepIn K (.ref f7) = true)
    (a8 : PySem.W.nsIn K mainGlobals "inverse" = some (some (.ref f8)))
    (l8 : K.lookup f8 = some ⟨oc8, od8, .func (PySem.W.fnOf "inverse" "inverse" (defArgs sInv) (defBody sInv) (defScope sInv) .none kV8 dc8 pm8 an8 cd8 ct8), sl8⟩)
    (c8 : PySem.W.codeIn K cd8 "inverse" = true)
    (k8 : PySem.W.keepIn K (.ref f8) = true)
    (a9 : PySem.W.nsIn K mainGlobals "makes" = some (some (.ref f9)))
    (l9 : K.lookup f9 = some ⟨oc9, od9, .func (PySem.W.fnOf "makes" "makes" (defArgs sMakes) (defBody sMakes) (defScope sMakes) .none kV9 dc9 pm9 an9 cd9 ct9), sl9⟩)
    (c9 : PySem.W.codeIn K cd9 "makes" = true)
    (k9 : PySem.W.keepIn K (.ref f9) = true)
    (a10 : PySem.W.nsIn K mainGlobals "due" = some (some (.ref f10)))
    (l10 : K.lookup f10 = some ⟨oc10, od10, .func (PySem.W.fnOf "due" "due" (defArgs sDue) (defBody sDue) (defScope sDue) .none kV10 dc10 pm10 an10 cd10 ct10), sl10⟩)
    (c10 : PySem.W.codeIn K cd10 "due" = true)
    (k10 : PySem.W.keepIn K (.ref f10) = true)
    (a11 : PySem.W.nsIn K mainGlobals "is_least" = some (some (.ref f11)))
    (l11 : K.lookup f11 = some ⟨oc11, od11, .func (PySem.W.fnOf "is_least" "is_least" (defArgs sIsLeast) (defBody sIsLeast) (defScope sIsLeast) .none kV11 dc11 pm11 an11 cd11 ct11), sl11⟩)
    (c11 : PySem.W.codeIn K cd11 "is_least" = true)
    (k11 : PySem.W.keepIn K (.ref f11) = true)
    (a12 : PySem.W.nsIn K mainGlobals "fails_first_at" = some (some (.ref f12)))
    (l12 : K.lookup f12 = some ⟨oc12, od12, .func (PySem.W.fnOf "fails_first_at" "fails_first_at" (defArgs sFails) (defBody sFails) (defScope sFails) .none kV12 dc12 pm12 an12 cd12 ct12), sl12⟩)
    (c12 : PySem.W.codeIn K cd12 "fails_first_at" = true)
    (k12 : PySem.W.keepIn K (.ref f12) = true)
    (a13 : PySem.W.nsIn K mainGlobals "least" = some (some (.ref f13)))
    (l13 : K.lookup f13 = some ⟨oc13, od13, .func (PySem.W.fnOf "least" "least" (defArgs sLeast) (defBody sLeast) (defScope sLeast) .none kV13 dc13 pm13 an13 cd13 ct13), sl13⟩)
    (c13 : PySem.W.codeIn K cd13 "least" = true)
    (k13 : PySem.W.keepIn K (.ref f13) = true)
    (a14 : PySem.W.nsIn K mainGlobals "mixed" = some (some (.ref f14)))
    (l14 : K.lookup f14 = some ⟨oc14, od14, .func (PySem.W.fnOf "mixed" "mixed" (defArgs sMixed) (defBody sMixed) (defScope sMixed) .none kV14 dc14 pm14 an14 cd14 ct14), sl14⟩)
    (c14 : PySem.W.codeIn K cd14 "mixed" = true)
    (k14 : PySem.W.keepIn K (.ref f14) = true)
    (a15 : PySem.W.nsIn K mainGlobals "_law_cell_at" = some (some (.ref f15)))
    (l15 : K.lookup f15 = some ⟨oc15, od15, .func (PySem.W.fnOf "_law_cell_at" "_law_cell_at" (defArgs lCell) (defBody lCell) (defScope lCell) .none kV15 dc15 pm15 an15 cd15 ct15), sl15⟩)
    (c15 : PySem.W.codeIn K cd15 "_law_cell_at" = true)
    (k15 : PySem.W.keepIn K (.ref f15) = true)
    (a16 : PySem.W.nsIn K mainGlobals "_law_draw" = some (some (.ref f16)))
    (l16 : K.lookup f16 = some ⟨oc16, od16, .func (PySem.W.fnOf "_law_draw" "_law_draw" (defArgs lDraw) (defBody lDraw) (defScope lDraw) .none kV16 dc16 pm16 an16 cd16 ct16), sl16⟩)
    (c16 : PySem.W.codeIn K cd16 "_law_draw" = true)
    (k16 : PySem.W.keepIn K (.ref f16) = true)
    (a17 : PySem.W.nsIn K mainGlobals "_law_prime" = some (some (.ref f17)))
    (l17 : K.lookup f17 = some ⟨oc17, od17, .func (PySem.W.fnOf "_law_prime" "_law_prime" (defArgs lPrime) (defBody lPrime) (defScope lPrime) .none kV17 dc17 pm17 an17 cd17 ct17), sl17⟩)
    (c17 : PySem.W.codeIn K cd17 "_law_prime" = true)
    (k17 : PySem.W.keepIn K (.ref f17) = true)
    (a18 : PySem.W.nsIn K mainGlobals "_law_rests" = some (some (.ref f18)))
    (l18 : K.lookup f18 = some ⟨oc18, od18, .func (PySem.W.fnOf "_law_rests" "_law_rests" (defArgs lRests) (defBody lRests) (defScope lRests) .none kV18 dc18 pm18 an18 cd18 ct18), sl18⟩)
    (c18 : PySem.W.codeIn K cd18 "_law_rests" = true)
    (k18 : PySem.W.keepIn K (.ref f18) = true)
    (a19 : PySem.W.nsIn K mainGlobals "_law_row" = some (some (.ref f19)))
    (l19 : K.lookup f19 = some ⟨oc19, od19, .func (PySem.W.fnOf "_law_row" "_law_row" (defArgs lRow) (defBody lRow) (defScope lRow) .none kV19 dc19 pm19 an19 cd19 ct19), sl19⟩)
    (c19 : PySem.W.codeIn K cd19 "_law_row" = true)
    (k19 : PySem.W.keepIn K (.ref f19) = true)
    (a20 : PySem.W.nsIn K mainGlobals "_law_due" = some (some (.ref f20)))
    (l20 : K.lookup f20 = some ⟨oc20, od20, .func (PySem.W.fnOf "_law_due" "_law_due" (defArgs lDue) (defBody lDue) (defScope lDue) .none kV20 dc20 pm20 an20 cd20 ct20), sl20⟩)
    (c20 : PySem.W.codeIn K cd20 "_law_due" = true)
    (k20 : PySem.W.keepIn K (.ref f20) = true)
    (a21 : PySem.W.nsIn K mainGlobals "_law_made" = some (some (.ref f21)))
    (l21 : K.lookup f21 = some ⟨oc21, od21, .func (PySem.W.fnOf "_law_made" "_law_made" (defArgs lMade) (defBody lMade) (defScope lMade) .none kV21 dc21 pm21 an21 cd21 ct21), sl21⟩)
    (c21 : PySem.W.codeIn K cd21 "_law_made" = true)
    (k21 : PySem.W.keepIn K (.ref f21) = true)
    (a22 : PySem.W.nsIn K mainGlobals "_law_rested" = some (some (.ref f22)))
    (l22 : K.lookup f22 = some ⟨oc22, od22, .func (PySem.W.fnOf "_law_rested" "_law_rested" (defArgs lRested) (defBody lRested) (defScope lRested) .none kV22 dc22 pm22 an22 cd22 ct22), sl22⟩)
    (c22 : PySem.W.codeIn K cd22 "_law_rested" = true)
    (k22 : PySem.W.keepIn K (.ref f22) = true)
    (a23 : PySem.W.nsIn K mainGlobals "_law_least" = some (some (.ref f23)))
    (l23 : K.lookup f23 = some ⟨oc23, od23, .func (PySem.W.fnOf "_law_least" "_law_least" (defArgs lLeast) (defBody lLeast) (defScope lLeast) .none kV23 dc23 pm23 an23 cd23 ct23), sl23⟩)
    (c23 : PySem.W.codeIn K cd23 "_law_least" = true)
    (k23 : PySem.W.keepIn K (.ref f23) = true)
    (a24 : PySem.W.nsIn K mainGlobals "is_sole" = some (some (.ref f24)))
    (l24 : K.lookup f24 = some ⟨oc24, od24, .func (PySem.W.fnOf "is_sole" "is_sole" (defArgs sSole) (defBody sSole) (defScope sSole) .none kV24 dc24 pm24 an24 cd24 ct24), sl24⟩)
    (c24 : PySem.W.codeIn K cd24 "is_sole" = true)
    (k24 : PySem.W.keepIn K (.ref f24) = true)
    (a25 : PySem.W.nsIn K mainGlobals "unlike" = some (some (.ref f25)))
    (l25 : K.lookup f25 = some ⟨oc25, od25, .func (PySem.W.fnOf "unlike" "unlike" (defArgs sUnlike) (defBody sUnlike) (defScope sUnlike) .none kV25 dc25 pm25 an25 cd25 ct25), sl25⟩)
    (c25 : PySem.W.codeIn K cd25 "unlike" = true)
    (k25 : PySem.W.keepIn K (.ref f25) = true)
    (a26 : PySem.W.nsIn K mainGlobals "_law_says" = some (some (.ref f26)))
    (l26 : K.lookup f26 = some ⟨oc26, od26, .func (PySem.W.fnOf "_law_says" "_law_says" (defArgs lSays) (defBody lSays) (defScope lSays) .none kV26 dc26 pm26 an26 cd26 ct26), sl26⟩)
    (c26 : PySem.W.codeIn K cd26 "_law_says" = true)
    (k26 : PySem.W.keepIn K (.ref f26) = true)
    (a27 : PySem.W.nsIn K mainGlobals "_law_bent" = some (some (.ref f27)))
    (l27 : K.lookup f27 = some ⟨oc27, od27, .func (PySem.W.fnOf "_law_bent" "_law_bent" (defArgs lBent) (defBody lBent) (defScope lBent) .none kV27 dc27 pm27 an27 cd27 ct27), sl27⟩)
    (c27 : PySem.W.codeIn K cd27 "_law_bent" = true)
    (k27 : PySem.W.keepIn K (.ref f27) = true)
    (a28 : PySem.W.nsIn K mainGlobals "_law_right" = some (some (.ref f28)))
    (l28 : K.lookup f28 = some ⟨oc28, od28, .func (PySem.W.fnOf "_law_right" "_law_right" (defArgs lRight) (defBody lRight) (defScope lRight) .none kV28 dc28 pm28 an28 cd28 ct28), sl28⟩)
    (c28 : PySem.W.codeIn K cd28 "_law_right" = true)
    (k28 : PySem.W.keepIn K (.ref f28) = true)
    (a29 : PySem.W.nsIn K mainGlobals "_law_another_right" = some (some (.ref f29)))
    (l29 : K.lookup f29 = some ⟨oc29, od29, .func (PySem.W.fnOf "_law_another_right" "_law_another_right" (defArgs lARight) (defBody lARight) (defScope lARight) .none kV29 dc29 pm29 an29 cd29 ct29), sl29⟩)
    (c29 : PySem.W.codeIn K cd29 "_law_another_right" = true)
    (k29 : PySem.W.keepIn K (.ref f29) = true)
    (a30 : PySem.W.nsIn K mainGlobals "law" = some (some (.ref f30)))
    (l30 : K.lookup f30 = some ⟨oc30, od30, .func (PySem.W.fnOf "law" "law" (defArgs lLaw) (defBody lLaw) (defScope lLaw) .none kV30 dc30 pm30 an30 cd30 ct30), sl30⟩)
    (c30 : PySem.W.codeIn K cd30 "law" = true)
    (k30 : PySem.W.keepIn K (.ref f30) = true)
    (mcA : PySem.W.nsIn K mainGlobals "Answer" = some (some (.ref cA)))
    (mcL : PySem.W.nsIn K mainGlobals "Least" = some (some (.ref cL)))
    (mcO : PySem.W.nsIn K mainGlobals "Only" = some (some (.ref cO)))
    (mcN : PySem.W.nsIn K mainGlobals "Another" = some (some (.ref cN)))
    (aiL : PySem.W.findIn K (.ref cL) "__init__" = some (some (.ref fiL)))
    (iiL : PySem.W.isFn K (.ref fiL) = true)
    (liL : K.lookup fiL = some ⟨ociL, odiL, .func (PySem.W.fnOf "__init__" "Least.__init__" (defArgs sInitL) (defBody sInitL) (defScope sInitL) .none kViL dciL pmiL aniL cdiL ctiL), sliL⟩)
    (ciL : PySem.W.codeIn K cdiL "Least.__init__" = true)
    (kiL : PySem.W.keepIn K (.ref fiL) = true)
    (asL : PySem.W.findIn K (.ref cL) "shows" = some (some (.ref fsL)))
    (isL : PySem.W.isFn K (.ref fsL) = true)
    (lsL : K.lookup fsL = some ⟨ocsL, odsL, .func (PySem.W.fnOf "shows" "Least.shows" (defArgs sShowsL) (defBody sShowsL) (defScope sShowsL) .none kVsL dcsL pmsL ansL cdsL ctsL), slsL⟩)
    (csL : PySem.W.codeIn K cdsL "Least.shows" = true)
    (ksL : PySem.W.keepIn K (.ref fsL) = true)
    (aiO : PySem.W.findIn K (.ref cO) "__init__" = some (some (.ref fiO)))
    (iiO : PySem.W.isFn K (.ref fiO) = true)
    (liO : K.lookup fiO = some ⟨ociO, odiO, .func (PySem.W.fnOf "__init__" "Only.__init__" (defArgs sInitO) (defBody sInitO) (defScope sInitO) .none kViO dciO pmiO aniO cdiO ctiO), sliO⟩)
    (ciO : PySem.W.codeIn K cdiO "Only.__init__" = true)
    (kiO : PySem.W.keepIn K (.ref fiO) = true)
    (asO : PySem.W.findIn K (.ref cO) "shows" = some (some (.ref fsO)))
    (isO : PySem.W.isFn K (.ref fsO) = true)
    (lsO : K.lookup fsO = some ⟨ocsO, odsO, .func (PySem.W.fnOf "shows" "Only.shows" (defArgs sShowsO) (defBody sShowsO) (defScope sShowsO) .none kVsO dcsO pmsO ansO cdsO ctsO), slsO⟩)
    (csO : PySem.W.codeIn K cdsO "Only.shows" = true)
    (ksO : PySem.W.keepIn K (.ref fsO) = true)
    (aiN : PySem.W.findIn K (.ref cN) "__init__" = some (some (.ref fiN)))
    (iiN : PySem.W.isFn K (.ref fiN) = true)
    (liN : K.lookup fiN = some ⟨ociN, odiN, .func (PySem.W.fnOf "__init__" "Another.__init__" (defArgs sInitN) (defBody sInitN) (defScope sInitN) .none kViN dciN pmiN aniN cdiN ctiN), sliN⟩)
    (ciN : PySem.W.codeIn K cdiN "Another.__init__" = true)
    (kiN : PySem.W.keepIn K (.ref fiN) = true)
    (asN : PySem.W.findIn K (.ref cN) "shows" = some (some (.ref fsN)))
    (isN : PySem.W.isFn K (.ref fsN) = true)
    (lsN : K.lookup fsN = some ⟨ocsN, odsN, .func (PySem.W.fnOf "shows" "Another.shows" (defArgs sShowsN) (defBody sShowsN) (defScope sShowsN) .none kVsN dcsN pmsN ansN cdsN ctsN), slsN⟩)
    (csN : PySem.W.codeIn K cdsN "Another.shows" = true)
    (ksN : PySem.W.keepIn K (.ref fsN) = true)
    (pgcL : PySem.W.plainGet K cL Str.empty = true)
    (hdcL : PySem.W.hasDictIn K cL = true)
    (pocL : PySem.W.plainOver K cL = true)
    (sacL : PySem.W.findIn K (.ref cL) "__setattr__" = some (some (.builtin "object.__setattr__")))
    (mkcL : PySem.W.makesIn K cL = true)
    (kccL : PySem.W.keepIn K (.ref cL) = true)
    (n0cL : PySem.W.findIn K (.ref cL) "rule" = some none)
    (n1cL : PySem.W.findIn K (.ref cL) "shorter" = some none)
    (n2cL : PySem.W.findIn K (.ref cL) "place" = some none)
    (pgcO : PySem.W.plainGet K cO Str.empty = true)
    (hdcO : PySem.W.hasDictIn K cO = true)
    (pocO : PySem.W.plainOver K cO = true)
    (sacO : PySem.W.findIn K (.ref cO) "__setattr__" = some (some (.builtin "object.__setattr__")))
    (mkcO : PySem.W.makesIn K cO = true)
    (kccO : PySem.W.keepIn K (.ref cO) = true)
    (n0cO : PySem.W.findIn K (.ref cO) "rule" = some none)
    (n1cO : PySem.W.findIn K (.ref cO) "shorter" = some none)
    (n2cO : PySem.W.findIn K (.ref cO) "place" = some none)
    (pgcN : PySem.W.plainGet K cN Str.empty = true)
    (hdcN : PySem.W.hasDictIn K cN = true)
    (pocN : PySem.W.plainOver K cN = true)
    (sacN : PySem.W.findIn K (.ref cN) "__setattr__" = some (some (.builtin "object.__setattr__")))
    (mkcN : PySem.W.makesIn K cN = true)
    (kccN : PySem.W.keepIn K (.ref cN) = true)
    (n0cN : PySem.W.findIn K (.ref cN) "one" = some none)
    (n1cN : PySem.W.findIn K (.ref cN) "other" = some none)
    (n2cN : PySem.W.findIn K (.ref cN) "shorter" = some none)
    (n3cN : PySem.W.findIn K (.ref cN) "place" = some none)
    (hacO : PySem.W.findIn K (.ref cO) "__class__" = some (some (.builtin "object.__class__")))
    (hmcO : PySem.W.mroIn K cO (.type "object") = some true)
    (qcOcN : PySem.W.kitOne K (.ref cO) (.ref cN) = some false)
    (hacN : PySem.W.findIn K (.ref cN) "__class__" = some (some (.builtin "object.__class__")))
    (hmcN : PySem.W.mroIn K cN (.type "object") = some true)
    (qcNcN : PySem.W.kitOne K (.ref cN) (.ref cN) = some true)
    (hn : PySem.W.specialIn K (.builtin "object.__class__") "__get__" = some (some (.builtin "getset_descriptor.__get__")))
    (ht : PySem.W.takesIn K (.builtin "object.__class__") = some true)
    (z1 : PySem.W.nsIn K mainGlobals "isinstance" = some none)
    (z2 : PySem.W.nsIn K mainGlobals "int" = some none)
    (z3 : PySem.W.nsIn K mainGlobals "bool" = some none)
    (z4 : PySem.W.nsIn K mainGlobals "list" = some none)
    (z5 : PySem.W.nsIn K mainGlobals "len" = some none)
    (z6 : PySem.W.nsIn K mainGlobals "range" = some none)
    (z7 : PySem.W.nsIn K mainGlobals "sum" = some none)
    (z8 : PySem.W.nsIn K mainGlobals "zip" = some none)
    (z9 : PySem.W.nsIn K mainGlobals "reversed" = some none)
    (z10 : PySem.W.nsIn K mainGlobals "enumerate" = some none)
    (z11 : PySem.W.nsIn K mainGlobals "max" = some none)
    (z12 : PySem.W.nsIn K mainGlobals "min" = some none)
    (z13 : PySem.W.nsIn K mainGlobals "all" = some none)
    (z14 : PySem.W.nsIn K mainGlobals "any" = some none)
    (z15 : PySem.W.nsIn K mainGlobals "abs" = some none)
    (y1 : PySem.W.nsIn K mainGlobals "LOWEST_PRIME" = some (some (.int 2 t1)))
    (y2 : PySem.W.nsIn K mainGlobals "HIGHEST_PRIME" = some (some (.int 997 t2))) :
    ∃ fd : FuncData, (∀ (s : Shared) (v : Value), BindsTo s fd ⟨[v], []⟩ [("_law_script", v)]) ∧ ∀ base : Heap, K.In base → base.Ns mainGlobals mg → FnOk l.prog w K mg base CX0 10 fa fd ["_law_script"] (spLaw K) := by
  have e := hfa.symm.trans (PySem.W.mg_of X G a30)
  cases e
  have D1 := def_mk (st := sWhole) (ps := ["value"]) X G a1 l1 c1 k1 fun _ _ _ _ _ _ us hl => by obtain ⟨a0, rfl⟩ := ex1 hl; rfl
  have D2 := def_mk (st := sPrime) (ps := ["value"]) X G a2 l2 c2 k2 fun _ _ _ _ _ _ us hl => by obtain ⟨a0, rfl⟩ := ex1 hl; rfl
  have D3 := def_mk (st := sRest) (ps := ["prime", "value"]) X G a3 l3 c3 k3 fun _ _ _ _ _ _ us hl => by obtain ⟨a0, a1, rfl⟩ := ex2 hl; rfl
  have D4 := def_mk (st := sAre) (ps := ["prime", "value"]) X G a4 l4 c4 k4 fun _ _ _ _ _ _ us hl => by obtain ⟨a0, a1, rfl⟩ := ex2 hl; rfl
  have D5 := def_mk (st := sNeedPrime) (ps := ["prime"]) X G a5 l5 c5 k5 fun _ _ _ _ _ _ us hl => by obtain ⟨a0, rfl⟩ := ex1 hl; rfl
  have D6 := def_mk (st := sNeedRule) (ps := ["prime", "rule"]) X G a6 l6 c6 k6 fun _ _ _ _ _ _ us hl => by obtain ⟨a0, a1, rfl⟩ := ex2 hl; rfl
  have D7 := def_mk (st := sNeedRow) (ps := ["prime", "row"]) X G a7 l7 c7 k7 fun _ _ _ _ _ _ us hl => by obtain ⟨a0, a1, rfl⟩ := ex2 hl; rfl
  have D8 := def_mk (st := sInv) (ps := ["prime", "rest"]) X G a8 l8 c8 k8 fun _ _ _ _ _ _ us hl => by obtain ⟨a0, a1, rfl⟩ := ex2 hl; rfl
  have D9 := def_mk (st := sMakes) (ps := ["prime", "rule", "row"]) X G a9 l9 c9 k9 fun _ _ _ _ _ _ us hl => by obtain ⟨a0, a1, a2, rfl⟩ := ex3 hl; rfl
  have D10 := def_mk (st := sDue) (ps := ["prime", "rule", "row", "place"]) X G a10 l10 c10 k10 fun _ _ _ _ _ _ us hl => by obtain ⟨a0, a1, a2, a3, rfl⟩ := ex4 hl; rfl
  have D11 := def_mk (st := sIsLeast) (ps := ["prime", "row", "rule", "shorter", "place"]) X G a11 l11 c11 k11 fun _ _ _ _ _ _ us hl => by obtain ⟨a0, a1, a2, a3, a4, rfl⟩ := ex5 hl; rfl
  have D12 := def_mk (st := sFails) (ps := ["prime", "rule", "row", "place"]) X G a12 l12 c12 k12 fun _ _ _ _ _ _ us hl => by obtain ⟨a0, a1, a2, a3, rfl⟩ := ex4 hl; rfl
  have D13 := def_mk (st := sLeast) (ps := ["prime", "row"]) X G a13 l13 c13 k13 fun _ _ _ _ _ _ us hl => by obtain ⟨a0, a1, rfl⟩ := ex2 hl; rfl
  have D14 := def_mk (st := sMixed) (ps := ["prime", "rule", "shorter", "shift", "share"]) X G a14 l14 c14 k14 fun _ _ _ _ _ _ us hl => by obtain ⟨a0, a1, a2, a3, a4, rfl⟩ := ex5 hl; rfl
  have D15 := def_mk (st := lCell) (ps := ["_law_script", "_law_k"]) X G a15 l15 c15 k15 fun _ _ _ _ _ _ us hl => by obtain ⟨a0, a1, rfl⟩ := ex2 hl; rfl
  have D16 := def_mk (st := lDraw) (ps := ["_law_cell", "_law_k", "_law_many"]) X G a16 l16 c16 k16 fun _ _ _ _ _ _ us hl => by obtain ⟨a0, a1, a2, rfl⟩ := ex3 hl; rfl
  have D17 := def_mk (st := lPrime) (ps := ["_law_script"]) X G a17 l17 c17 k17 fun _ _ _ _ _ _ us hl => by obtain ⟨a0, rfl⟩ := ex1 hl; rfl
  have D18 := def_mk (st := lRests) (ps := ["_law_script", "_law_by", "_law_prime_here", "_law_many"]) X G a18 l18 c18 k18 fun _ _ _ _ _ _ us hl => by obtain ⟨a0, a1, a2, a3, rfl⟩ := ex4 hl; rfl
  have D19 := def_mk (st := lRow) (ps := ["_law_script", "_law_prime_here"]) X G a19 l19 c19 k19 fun _ _ _ _ _ _ us hl => by obtain ⟨a0, a1, rfl⟩ := ex2 hl; rfl
  have D20 := def_mk (st := lDue) (ps := ["_law_prime_here", "_law_rule", "_law_row_here", "_law_place"]) X G a20 l20 c20 k20 fun _ _ _ _ _ _ us hl => by obtain ⟨a0, a1, a2, a3, rfl⟩ := ex4 hl; rfl
  have D21 := def_mk (st := lMade) (ps := ["_law_prime_here", "_law_rule", "_law_row_here"]) X G a21 l21 c21 k21 fun _ _ _ _ _ _ us hl => by obtain ⟨a0, a1, a2, rfl⟩ := ex3 hl; rfl
  have D22 := def_mk (st := lRested) (ps := ["_law_prime_here", "_law_found"]) X G a22 l22 c22 k22 fun _ _ _ _ _ _ us hl => by obtain ⟨a0, a1, rfl⟩ := ex2 hl; rfl
  have D23 := def_mk (st := lLeast) (ps := ["_law_prime_here", "_law_row_here", "_law_rule", "_law_shorter", "_law_place"]) X G a23 l23 c23 k23 fun _ _ _ _ _ _ us hl => by obtain ⟨a0, a1, a2, a3, a4, rfl⟩ := ex5 hl; rfl
  have D24 := def_mk (st := sSole) (ps := ["rule", "row"]) X G a24 l24 c24 k24 fun _ _ _ _ _ _ us hl => by obtain ⟨a0, a1, rfl⟩ := ex2 hl; rfl
  have D25 := def_mk (st := sUnlike) (ps := ["prime", "row"]) X G a25 l25 c25 k25 fun _ _ _ _ _ _ us hl => by obtain ⟨a0, a1, rfl⟩ := ex2 hl; rfl
  have D26 := def_mk (st := lSays) (ps := ["_law_said", "_law_due_here"]) X G a26 l26 c26 k26 fun _ _ _ _ _ _ us hl => by obtain ⟨a0, a1, rfl⟩ := ex2 hl; rfl
  have D27 := def_mk (st := lBent) (ps := ["_law_some", "_law_cell", "_law_prime_here"]) X G a27 l27 c27 k27 fun _ _ _ _ _ _ us hl => by obtain ⟨a0, a1, a2, rfl⟩ := ex3 hl; rfl
  have D28 := def_mk (st := lRight) (ps := ["_law_prime_here", "_law_row_here", "_law_rule", "_law_shorter", "_law_place"]) X G a28 l28 c28 k28 fun _ _ _ _ _ _ us hl => by obtain ⟨a0, a1, a2, a3, a4, rfl⟩ := ex5 hl; rfl
  have D29 := def_mk (st := lARight) (ps := ["_law_prime_here", "_law_row_here", "_law_one", "_law_other", "_law_shorter", "_law_place"]) X G a29 l29 c29 k29 fun _ _ _ _ _ _ us hl => by obtain ⟨a0, a1, a2, a3, a4, a5, rfl⟩ := ex6 hl; rfl
  have D30 := def_mk (st := lLaw) (ps := ["_law_script"]) X G a30 l30 c30 k30 fun _ _ _ _ _ _ us hl => by obtain ⟨a0, rfl⟩ := ex1 hl; rfl
  have FiL := fun_mk (st := sInitL) liL ciL kiL
  have biL := FiL.binds (ps := ["self", "rule", "shorter", "place"]) fun _ _ _ _ _ _ us hl => by obtain ⟨a0, a1, a2, a3, rfl⟩ := ex4 hl; rfl
  have FsL := fun_mk (st := sShowsL) lsL csL ksL
  have bsL := FsL.binds (ps := ["self", "prime", "row"]) fun _ _ _ _ _ _ us hl => by obtain ⟨a0, a1, a2, rfl⟩ := ex3 hl; rfl
  have FiO := fun_mk (st := sInitO) liO ciO kiO
  have biO := FiO.binds (ps := ["self", "rule", "shorter", "place"]) fun _ _ _ _ _ _ us hl => by obtain ⟨a0, a1, a2, a3, rfl⟩ := ex4 hl; rfl
  have FsO := fun_mk (st := sShowsO) lsO csO ksO
  have bsO := FsO.binds (ps := ["self", "prime", "row"]) fun _ _ _ _ _ _ us hl => by obtain ⟨a0, a1, a2, rfl⟩ := ex3 hl; rfl
  have FiN := fun_mk (st := sInitN) liN ciN kiN
  have biN := FiN.binds (ps := ["self", "one", "other", "shorter", "place"]) fun _ _ _ _ _ _ us hl => by obtain ⟨a0, a1, a2, a3, a4, rfl⟩ := ex5 hl; rfl
  have FsN := fun_mk (st := sShowsN) lsN csN ksN
  have bsN := FsN.binds (ps := ["self", "prime", "row"]) fun _ _ _ _ _ _ us hl => by obtain ⟨a0, a1, a2, rfl⟩ := ex3 hl; rfl
  have CcL : Cl3 K cL := ⟨⟨pgcL, hdcL, pocL, sacL⟩, n0cL, n1cL, n2cL⟩
  have CcO : Cl3 K cO := ⟨⟨pgcO, hdcO, pocO, sacO⟩, n0cO, n1cO, n2cO⟩
  have CcN : Cl4 K cN := ⟨⟨pgcN, hdcN, pocN, sacN⟩, n0cN, n1cN, n2cN, n3cN⟩
  have TcO : TyC K cO := ⟨hacO, hn, ht, hmcO⟩
  have TcN : TyC K cN := ⟨hacN, hn, ht, hmcN⟩
  have o : Own mg := ⟨PySem.W.mg_none_of X G z1, PySem.W.mg_none_of X G z2, PySem.W.mg_none_of X G z3, PySem.W.mg_none_of X G z4, PySem.W.mg_none_of X G z5, PySem.W.mg_none_of X G z6, PySem.W.mg_none_of X G z7, PySem.W.mg_none_of X G z8, PySem.W.mg_none_of X G z9, PySem.W.mg_none_of X G z10, PySem.W.mg_none_of X G z11, PySem.W.mg_none_of X G z12, PySem.W.mg_none_of X G z13, PySem.W.mg_none_of X G z14, PySem.W.mg_none_of X G z15⟩
  refine ⟨PySem.W.fnOf "law" "law" (defArgs lLaw) (defBody lLaw) (defScope lLaw) .none kV30 dc30 pm30 an30 cd30 ct30, fun s v => .of_eq rfl, fun base _ _ => ?_⟩
  have G1 := ok_whole (P := l.prog) (w := w) (base := base) D1 o
  have G2 := ok_prime (P := l.prog) (w := w) (base := base) D2 o D1 G1 (PySem.W.mg_of X G y1) (PySem.W.mg_of X G y2)
  have G3 := ok_restB (P := l.prog) (w := w) (base := base) D3 D1 G1
  have G4 := ok_areB (P := l.prog) (w := w) (base := base) D4 o D3 G3
  have GA := ok_are G4
  have G5 := ok_needPrime (P := l.prog) (w := w) (base := base) D5 D2 G2
  have G6 := ok_needRule (P := l.prog) (w := w) (base := base) D6 D4 GA
  have G7 := ok_needRow (P := l.prog) (w := w) (base := base) D7 D4 GA
  have G10 := ok_due (P := l.prog) (w := w) (base := base) D10 o
  have G9 := ok_makes (P := l.prog) (w := w) (base := base) D9 o ⟨D5, G5, D6, G6, D7, G7⟩ D10 G10
  have G8 := ok_inv (P := l.prog) (w := w) (base := base) D8 
  have G12 := ok_fails (P := l.prog) (w := w) (base := base) D12 o D10 G10 D9 G9
  have G11 := ok_isLeast (P := l.prog) (w := w) (base := base) D11 o D4 G4 D1 G1 D9 G9 D12 G12
  have G14 := ok_mixed (P := l.prog) (w := w) (base := base) D14 o
  have GiL := ok_initL (P := l.prog) (w := w) (base := base) FiL o CcL
  have GsL := ok_showsL (P := l.prog) (w := w) (base := base) FsL CcL D11 G11
  have G13 := ok_least (P := l.prog) (w := w) (base := base) D13 o D5 G5 D7 G7 D10 G10 D8 G8 D14 G14 ⟨mkcL, aiL, iiL, kccL⟩ (PySem.W.mg_of X G mcL) GiL biL
  have G15 := ok_cell (P := l.prog) (w := w) (base := base) D15 o
  have G16 := ok_draw (P := l.prog) (w := w) (base := base) D16 
  have G17 := ok_primeL (P := l.prog) (w := w) (base := base) D17 D15 G15 D16 G16
  have G18 := ok_rests (P := l.prog) (w := w) (base := base) D18 o D15 G15 D16 G16
  have G20 := ok_dueL (P := l.prog) (w := w) (base := base) D20 o
  have G19 := ok_row (P := l.prog) (w := w) (base := base) D19 o D15 G15 D16 G16 D18 G18 D20 G20
  have G21 := ok_made (P := l.prog) (w := w) (base := base) D21 o D20 G20
  have G22 := ok_restedB (P := l.prog) (w := w) (base := base) D22 o
  have G23 := ok_lLeast (P := l.prog) (w := w) (base := base) D23 o D22 G22 D21 G21 D20 G20
  have G24 := ok_sole (P := l.prog) (w := w) (base := base) D24 o
  have GiO := ok_initO (P := l.prog) (w := w) (base := base) FiO o CcO
  have GiN := ok_initN (P := l.prog) (w := w) (base := base) FiN o CcN
  have GsO := ok_showsO (P := l.prog) (w := w) (base := base) FsO CcO D24 G24 D11 G11
  have GsN := ok_showsN (P := l.prog) (w := w) (base := base) FsN o CcN D11 G11
  have G25 := ok_unlike (P := l.prog) (w := w) (base := base) D25 o D13 G13 D24 G24 D14 G14 CcL ⟨mkcO, aiO, iiO, kccO⟩ (PySem.W.mg_of X G mcO) GiO biO ⟨mkcN, aiN, iiN, kccN⟩ (PySem.W.mg_of X G mcN) GiN biN
  have ML : Make3 l.prog w K mg base "Least" cL fiL fsL (fdM FiL) (fdM FsL) (spShows cL) := ⟨CcL, ⟨mkcL, aiL, iiL, kccL⟩, (PySem.W.mg_of X G mcL), GiL, biL, ⟨asL, isL, ksL⟩, GsL, bsL⟩
  have MO : Make3 l.prog w K mg base "Only" cO fiO fsO (fdM FiO) (fdM FsO) (spShowsO cO) := ⟨CcO, ⟨mkcO, aiO, iiO, kccO⟩, (PySem.W.mg_of X G mcO), GiO, biO, ⟨asO, isO, ksO⟩, GsO, bsO⟩
  have MN : Make4 l.prog w K mg base "Another" cN fiN fsN (fdM FiN) (fdM FsN) (spShowsA cN) := ⟨CcN, ⟨mkcN, aiN, iiN, kccN⟩, (PySem.W.mg_of X G mcN), GiN, biN, ⟨asN, isN, ksN⟩, GsN, bsN⟩
  have G26 := ok_says (P := l.prog) (w := w) (base := base) D26 o
  have G27 := ok_bent (P := l.prog) (w := w) (base := base) D27 o D16 G16
  have G28 := ok_right5 (P := l.prog) (w := w) (base := base) D28 o D23 G23 D26 G26 ML MO
  have G29 := ok_aright5 (P := l.prog) (w := w) (base := base) D29 o D23 G23 D26 G26 MN
  have T : Kit5 l.prog w K mg base (fun i => [f1, f17, f19, f13, f25, f28, f16, f15, f29, f27, f26, fiL, fsL, fiO, fsO, fiN, fsN].getD i f1) (fun i => [fdOf D1, fdOf D17, fdOf D19, fdOf D13, fdOf D25, fdOf D28, fdOf D16, fdOf D15, fdOf D29, fdOf D27, fdOf D26, fdM FiL, fdM FsL, fdM FiO, fdM FsO, fdM FiN, fdM FsN].getD i (fdOf D1)) cL cO cN := ⟨o, D17, G17, D19, G19, D13, G13, D25, G25, D28, G28, D16, G16, D15, G15, D29, G29, D27, G27, D26, G26, ML, MO, MN, TcO, TcN, qcOcN, qcNcN⟩
  exact ok_law D30 T

theorem walk {l : PySem.W.OpenLaw} {q : Program} {loose : List Str} {XP : (Str → Option Value) → Heap → Prop} {YP : World → Heap → Prop} {d : DefRec} {K : Params → PySem.W.Frag} (hn : l.most = some 63) (hdf : d.params.defaults = [])
    (hY : ∀ (w : World) (h : Heap), YP w h → (K w.params).In h)
    (F : ∀ (w : World) (mg : Str → Option Value) (fa : Addr) (h : Heap), (K w.params).In h → h.Ns mainGlobals mg → mg d.name = some (.ref fa) →
      ∃ fd : FuncData, (∀ (s : Shared) (u : Value), BindsTo s fd ⟨[u], []⟩ [("_law_script", u)]) ∧ ∀ base : Heap, (K w.params).In base → base.Ns mainGlobals mg → FnOk l.prog w (K w.params) mg base CX0 10 fa fd ["_law_script"] (spLaw (K w.params))) :
    PySem.W.WalkO q loose XP YP l.row.toRowW d [] (fun f vs => PySem.call f vs) :=
  L2.walk_of (n := 63) (k := 10) (x := "_law_script") (CX := fun _ => CX0) (sp := fun w => spLaw (K w.params)) hn (by decide) hdf ⟨rfl, by decide, by decide⟩ hY F (fun _ _ a ns hl _ hS => ⟨a, ns, rfl, hS, hl, fun _ => rfl⟩) fun _ _ _ _ _ z => z
end Rr

set_option Elab.async false
set_option linter.all false
set_option maxRecDepth 100000
set_option maxHeartbeats 0
namespace Rr
open PySem PySem.W PySem.W.BT L2 PyProof.Rows PySem.Calls
noncomputable section
def o0 (P : Params) : Obj := Obj.mk (.type "tuple") none (.seq #[] 0) #[]
def o1 (P : Params) : Obj := Obj.mk .none none (.fields #[]) #[]
def o2 (P : Params) : Obj := Obj.mk (.type "code") none (.fields #[(.str (Str.ofString "<module>") 182), (.str (Str.ofString "<module>") 183), (.str (Str.ofString "/claim/cut.py") 184), (.int 1 0), (.int 0 0), (.int 0 0), (.int 0 0), (.int 0 0), (.ref 11), (.bool false), (.int 181 0), (.ref 12), .none, .none, .none, .none, (.int 185 0), (.int 1 0), (.str (Str.ofString "/claim/cut.py") 186)]) #[]
def o3 (P : Params) : Obj := Obj.mk (.type "frame") none .plain #[(some (.ref 13)), (some (.ref 3)), (some (.ref 3)), none, (some (.str (Str.ofString "__main__") 164)), none, (some (.ref 0))]
def o4 (P : Params) : Obj := Obj.mk (.type "dict") none (.dict #[⟨PyData.keyHash P (Str.ofString "__name__"), (.str (Str.ofString "__name__") 165), (.str (Str.ofString "rulerow.errors") 187)⟩, ⟨PyData.keyHash P (Str.ofString "__doc__"), (.str (Str.ofString "__doc__") 166), .none⟩, ⟨PyData.keyHash P (Str.ofString "__package__"), (.str (Str.ofString "__package__") 167), .none⟩, ⟨PyData.keyHash P (Str.ofString "__loader__"), (.str (Str.ofString "__loader__") 168), (.builtin "__main__.__loader__#opaque")⟩, ⟨PyData.keyHash P (Str.ofString "__spec__"), (.str (Str.ofString "__spec__") 169), .none⟩, ⟨PyData.keyHash P (Str.ofString "__annotations__"), (.str (Str.ofString "__annotations__") 170), (.ref 6)⟩, ⟨PyData.keyHash P (Str.ofString "__builtins__"), (.str (Str.ofString "__builtins__") 171), (.ref 4)⟩, ⟨PyData.keyHash P (Str.ofString "__file__"), (.str (Str.ofString "__file__") 173), (.str (Str.ofString "/claim/cut.py") 172)⟩, ⟨PyData.keyHash P (Str.ofString "__cached__"), (.str (Str.ofString "__cached__") 174), .none⟩, ⟨PyData.keyHash P (Str.ofString "RuleError"), (.str (Str.ofString "RuleError") 206), (.ref 24)⟩] 10) #[]
def o5 (P : Params) : Obj := Obj.mk .none none (.fields #[(.int 2 0), (.int 0 0), (.ref 20)]) #[]
def o6 (P : Params) : Obj := Obj.mk (.type "tuple") none (.seq #[(.type "ValueError")] 0) #[]
def o7 (P : Params) : Obj := Obj.mk (.type "builtin_function_or_method") none (.fields #[(.builtin "type.__prepare__"), (.type "type")]) #[]
def o8 (P : Params) : Obj := Obj.mk (.type "dict") none (.dict #[⟨PyData.keyHash P (Str.ofString "__module__"), (.str (Str.ofString "__module__") 196), (.str (Str.ofString "rulerow.errors") 187)⟩, ⟨PyData.keyHash P (Str.ofString "__qualname__"), (.str (Str.ofString "__qualname__") 198), (.str (Str.ofString "RuleError") 197)⟩, ⟨PyData.keyHash P (Str.ofString "__firstlineno__"), (.str (Str.ofString "__firstlineno__") 200), (.int 2 199)⟩, ⟨PyData.keyHash P (Str.ofString "__static_attributes__"), (.str (Str.ofString "__static_attributes__") 201), (.ref 22)⟩] 4) #[]
def o9 (P : Params) : Obj := Obj.mk (.type "tuple") none (.seq #[] 0) #[]
def o10 (P : Params) : Obj := Obj.mk .none none (.fields #[]) #[]
def o11 (P : Params) : Obj := Obj.mk (.type "code") none (.fields #[(.str (Str.ofString "RuleError") 191), (.str (Str.ofString "RuleError") 192), (.str (Str.ofString "/claim/cut.py") 193), (.int 2 0), (.int 0 0), (.int 0 0), (.int 0 0), (.int 0 0), (.ref 18), (.bool false), (.int 181 0), (.ref 19), .none, .none, .none, .none, (.int 194 0), (.int 2 0), (.str (Str.ofString "/claim/cut.py") 195)]) #[]
def o12 (P : Params) : Obj := Obj.mk (.type "frame") none .plain #[(some (.ref 20)), (some (.ref 3)), (some (.ref 17)), none, (some (.str (Str.ofString "rulerow.errors") 187)), none, (some (.ref 0))]
def o13 (P : Params) : Obj := Obj.mk (.type "tuple") none (.seq #[] 0) #[]
def o14 (P : Params) : Obj := Obj.mk (.type "dict") none (.dict #[⟨PyData.keyHash P (Str.ofString "__module__"), (.str (Str.ofString "__module__") 196), (.str (Str.ofString "rulerow.errors") 187)⟩, ⟨PyData.keyHash P (Str.ofString "__firstlineno__"), (.str (Str.ofString "__firstlineno__") 200), (.int 2 199)⟩, ⟨PyData.keyHash P (Str.ofString "__static_attributes__"), (.str (Str.ofString "__static_attributes__") 201), (.ref 22)⟩, ⟨PyData.keyHash P (Str.ofString "__weakref__"), (.str (Str.ofString "__weakref__") 203), (.ref 25)⟩, ⟨PyData.keyHash P (Str.ofString "__doc__"), (.str (Str.ofString "__doc__") 204), .none⟩] 3) #[]
def o15 (P : Params) : Obj := Obj.mk (.type "type") none (.cls (ClassData.mk (Str.ofString "RuleError") [(.type "ValueError")] [(.ref 24), (.type "ValueError"), (.type "Exception"), (.type "BaseException"), (.type "object")] 23 (Str.ofString "RuleError") true [] [] false none false)) #[(some (.ref 15)), none, (some (.str (Str.ofString "RuleError") 189)), (some (.str (Str.ofString "RuleError") 197)), (some (.builtin "ValueError.__new__")), (some (.bool true))]
def o16 (P : Params) : Obj := Obj.mk (.type "getset_descriptor") none (.fields #[(.str (Str.ofString "__weakref__") 202), (.ref 24), (.builtin "ExceptionGroup.__weakref__"), .none]) #[]
def o17 (P : Params) : Obj := Obj.mk (.type "super") none (.fields #[(.ref 24), (.ref 24), (.ref 24)]) #[]
def o18 (P : Params) : Obj := Obj.mk (.type "builtin_function_or_method") none (.fields #[(.builtin "object.__init_subclass__"), (.ref 24)]) #[]
def o19 (P : Params) : Obj := Obj.mk (.type "dict") none (.dict #[⟨PyData.keyHash P (Str.ofString "__name__"), (.str (Str.ofString "__name__") 165), (.str (Str.ofString "rulerow.errors") 187)⟩, ⟨PyData.keyHash P (Str.ofString "__doc__"), (.str (Str.ofString "__doc__") 166), .none⟩, ⟨PyData.keyHash P (Str.ofString "__package__"), (.str (Str.ofString "__package__") 167), .none⟩, ⟨PyData.keyHash P (Str.ofString "__loader__"), (.str (Str.ofString "__loader__") 168), (.builtin "__main__.__loader__#opaque")⟩, ⟨PyData.keyHash P (Str.ofString "__spec__"), (.str (Str.ofString "__spec__") 169), .none⟩, ⟨PyData.keyHash P (Str.ofString "__annotations__"), (.str (Str.ofString "__annotations__") 170), (.ref 6)⟩, ⟨PyData.keyHash P (Str.ofString "__builtins__"), (.str (Str.ofString "__builtins__") 171), (.ref 4)⟩, ⟨PyData.keyHash P (Str.ofString "__file__"), (.str (Str.ofString "__file__") 173), (.str (Str.ofString "/claim/cut.py") 172)⟩, ⟨PyData.keyHash P (Str.ofString "__cached__"), (.str (Str.ofString "__cached__") 174), .none⟩, ⟨PyData.keyHash P (Str.ofString "RuleError"), (.str (Str.ofString "RuleError") 206), (.ref 24)⟩, ⟨PyData.keyHash P (Str.ofString "BadPrime"), (.str (Str.ofString "BadPrime") 222), (.ref 37)⟩] 11) #[]
def o20 (P : Params) : Obj := Obj.mk .none none (.fields #[(.int 2 0), (.int 0 0), (.ref 20), (.int 4 0), (.int 0 0), (.ref 33)]) #[]
def o21 (P : Params) : Obj := Obj.mk (.type "type") none (.cls (ClassData.mk (Str.ofString "RuleError") [(.type "ValueError")] [(.ref 24), (.type "ValueError"), (.type "Exception"), (.type "BaseException"), (.type "object")] 23 (Str.ofString "RuleError") true [] [(.ref 37)] false none false)) #[(some (.ref 15)), none, (some (.str (Str.ofString "RuleError") 189)), (some (.str (Str.ofString "RuleError") 197)), (some (.builtin "ValueError.__new__")), (some (.bool true))]
def o22 (P : Params) : Obj := Obj.mk (.type "tuple") none (.seq #[(.ref 24)] 0) #[]
def o23 (P : Params) : Obj := Obj.mk (.type "builtin_function_or_method") none (.fields #[(.builtin "type.__prepare__"), (.type "type")]) #[]
def o24 (P : Params) : Obj := Obj.mk (.type "dict") none (.dict #[⟨PyData.keyHash P (Str.ofString "__module__"), (.str (Str.ofString "__module__") 214), (.str (Str.ofString "rulerow.errors") 187)⟩, ⟨PyData.keyHash P (Str.ofString "__qualname__"), (.str (Str.ofString "__qualname__") 216), (.str (Str.ofString "BadPrime") 215)⟩, ⟨PyData.keyHash P (Str.ofString "__firstlineno__"), (.str (Str.ofString "__firstlineno__") 218), (.int 4 217)⟩, ⟨PyData.keyHash P (Str.ofString "__static_attributes__"), (.str (Str.ofString "__static_attributes__") 219), (.ref 35)⟩] 4) #[]
def o25 (P : Params) : Obj := Obj.mk (.type "tuple") none (.seq #[] 0) #[]
def o26 (P : Params) : Obj := Obj.mk .none none (.fields #[]) #[]
def o27 (P : Params) : Obj := Obj.mk (.type "code") none (.fields #[(.str (Str.ofString "BadPrime") 209), (.str (Str.ofString "BadPrime") 210), (.str (Str.ofString "/claim/cut.py") 211), (.int 4 0), (.int 0 0), (.int 0 0), (.int 0 0), (.int 0 0), (.ref 31), (.bool false), (.int 181 0), (.ref 32), .none, .none, .none, .none, (.int 212 0), (.int 4 0), (.str (Str.ofString "/claim/cut.py") 213)]) #[]
def o28 (P : Params) : Obj := Obj.mk (.type "frame") none .plain #[(some (.ref 33)), (some (.ref 3)), (some (.ref 30)), none, (some (.str (Str.ofString "rulerow.errors") 187)), none, (some (.ref 0))]
def o29 (P : Params) : Obj := Obj.mk (.type "tuple") none (.seq #[] 0) #[]
def o30 (P : Params) : Obj := Obj.mk (.type "dict") none (.dict #[⟨PyData.keyHash P (Str.ofString "__module__"), (.str (Str.ofString "__module__") 214), (.str (Str.ofString "rulerow.errors") 187)⟩, ⟨PyData.keyHash P (Str.ofString "__firstlineno__"), (.str (Str.ofString "__firstlineno__") 218), (.int 4 217)⟩, ⟨PyData.keyHash P (Str.ofString "__static_attributes__"), (.str (Str.ofString "__static_attributes__") 219), (.ref 35)⟩, ⟨PyData.keyHash P (Str.ofString "__doc__"), (.str (Str.ofString "__doc__") 220), .none⟩] 2) #[]
def o31 (P : Params) : Obj := Obj.mk (.type "type") none (.cls (ClassData.mk (Str.ofString "BadPrime") [(.ref 24)] [(.ref 37), (.ref 24), (.type "ValueError"), (.type "Exception"), (.type "BaseException"), (.type "object")] 36 (Str.ofString "BadPrime") true [] [] false none false)) #[(some (.ref 28)), none, (some (.str (Str.ofString "BadPrime") 207)), (some (.str (Str.ofString "BadPrime") 215)), (some (.builtin "ValueError.__new__")), (some (.bool true))]
def o32 (P : Params) : Obj := Obj.mk (.type "super") none (.fields #[(.ref 37), (.ref 37), (.ref 37)]) #[]
def o33 (P : Params) : Obj := Obj.mk (.type "builtin_function_or_method") none (.fields #[(.builtin "object.__init_subclass__"), (.ref 37)]) #[]
def o34 (P : Params) : Obj := Obj.mk (.type "dict") none (.dict #[⟨PyData.keyHash P (Str.ofString "__name__"), (.str (Str.ofString "__name__") 165), (.str (Str.ofString "rulerow.errors") 187)⟩, ⟨PyData.keyHash P (Str.ofString "__doc__"), (.str (Str.ofString "__doc__") 166), .none⟩, ⟨PyData.keyHash P (Str.ofString "__package__"), (.str (Str.ofString "__package__") 167), .none⟩, ⟨PyData.keyHash P (Str.ofString "__loader__"), (.str (Str.ofString "__loader__") 168), (.builtin "__main__.__loader__#opaque")⟩, ⟨PyData.keyHash P (Str.ofString "__spec__"), (.str (Str.ofString "__spec__") 169), .none⟩, ⟨PyData.keyHash P (Str.ofString "__annotations__"), (.str (Str.ofString "__annotations__") 170), (.ref 6)⟩, ⟨PyData.keyHash P (Str.ofString "__builtins__"), (.str (Str.ofString "__builtins__") 171), (.ref 4)⟩, ⟨PyData.keyHash P (Str.ofString "__file__"), (.str (Str.ofString "__file__") 173), (.str (Str.ofString "/claim/cut.py") 172)⟩, ⟨PyData.keyHash P (Str.ofString "__cached__"), (.str (Str.ofString "__cached__") 174), .none⟩, ⟨PyData.keyHash P (Str.ofString "RuleError"), (.str (Str.ofString "RuleError") 206), (.ref 24)⟩, ⟨PyData.keyHash P (Str.ofString "BadPrime"), (.str (Str.ofString "BadPrime") 222), (.ref 37)⟩, ⟨PyData.keyHash P (Str.ofString "BadRow"), (.str (Str.ofString "BadRow") 238), (.ref 49)⟩] 12) #[]
def o35 (P : Params) : Obj := Obj.mk .none none (.fields #[(.int 2 0), (.int 0 0), (.ref 20), (.int 4 0), (.int 0 0), (.ref 33), (.int 6 0), (.int 0 0), (.ref 45)]) #[]
def o36 (P : Params) : Obj := Obj.mk (.type "type") none (.cls (ClassData.mk (Str.ofString "RuleError") [(.type "ValueError")] [(.ref 24), (.type "ValueError"), (.type "Exception"), (.type "BaseException"), (.type "object")] 23 (Str.ofString "RuleError") true [] [(.ref 37), (.ref 49)] false none false)) #[(some (.ref 15)), none, (some (.str (Str.ofString "RuleError") 189)), (some (.str (Str.ofString "RuleError") 197)), (some (.builtin "ValueError.__new__")), (some (.bool true))]
def o37 (P : Params) : Obj := Obj.mk (.type "tuple") none (.seq #[(.ref 24)] 0) #[]
def o38 (P : Params) : Obj := Obj.mk (.type "builtin_function_or_method") none (.fields #[(.builtin "type.__prepare__"), (.type "type")]) #[]
def o39 (P : Params) : Obj := Obj.mk (.type "dict") none (.dict #[⟨PyData.keyHash P (Str.ofString "__module__"), (.str (Str.ofString "__module__") 230), (.str (Str.ofString "rulerow.errors") 187)⟩, ⟨PyData.keyHash P (Str.ofString "__qualname__"), (.str (Str.ofString "__qualname__") 232), (.str (Str.ofString "BadRow") 231)⟩, ⟨PyData.keyHash P (Str.ofString "__firstlineno__"), (.str (Str.ofString "__firstlineno__") 234), (.int 6 233)⟩, ⟨PyData.keyHash P (Str.ofString "__static_attributes__"), (.str (Str.ofString "__static_attributes__") 235), (.ref 47)⟩] 4) #[]
def o40 (P : Params) : Obj := Obj.mk (.type "tuple") none (.seq #[] 0) #[]
def o41 (P : Params) : Obj := Obj.mk .none none (.fields #[]) #[]
def o42 (P : Params) : Obj := Obj.mk (.type "code") none (.fields #[(.str (Str.ofString "BadRow") 225), (.str (Str.ofString "BadRow") 226), (.str (Str.ofString "/claim/cut.py") 227), (.int 6 0), (.int 0 0), (.int 0 0), (.int 0 0), (.int 0 0), (.ref 43), (.bool false), (.int 181 0), (.ref 44), .none, .none, .none, .none, (.int 228 0), (.int 6 0), (.str (Str.ofString "/claim/cut.py") 229)]) #[]
def o43 (P : Params) : Obj := Obj.mk (.type "frame") none .plain #[(some (.ref 45)), (some (.ref 3)), (some (.ref 42)), none, (some (.str (Str.ofString "rulerow.errors") 187)), none, (some (.ref 0))]
def o44 (P : Params) : Obj := Obj.mk (.type "tuple") none (.seq #[] 0) #[]
def o45 (P : Params) : Obj := Obj.mk (.type "dict") none (.dict #[⟨PyData.keyHash P (Str.ofString "__module__"), (.str (Str.ofString "__module__") 230), (.str (Str.ofString "rulerow.errors") 187)⟩, ⟨PyData.keyHash P (Str.ofString "__firstlineno__"), (.str (Str.ofString "__firstlineno__") 234), (.int 6 233)⟩, ⟨PyData.keyHash P (Str.ofString "__static_attributes__"), (.str (Str.ofString "__static_attributes__") 235), (.ref 47)⟩, ⟨PyData.keyHash P (Str.ofString "__doc__"), (.str (Str.ofString "__doc__") 236), .none⟩] 2) #[]
def o46 (P : Params) : Obj := Obj.mk (.type "type") none (.cls (ClassData.mk (Str.ofString "BadRow") [(.ref 24)] [(.ref 49), (.ref 24), (.type "ValueError"), (.type "Exception"), (.type "BaseException"), (.type "object")] 48 (Str.ofString "BadRow") true [] [] false none false)) #[(some (.ref 40)), none, (some (.str (Str.ofString "BadRow") 223)), (some (.str (Str.ofString "BadRow") 231)), (some (.builtin "ValueError.__new__")), (some (.bool true))]
def o47 (P : Params) : Obj := Obj.mk (.type "super") none (.fields #[(.ref 49), (.ref 49), (.ref 49)]) #[]
def o48 (P : Params) : Obj := Obj.mk (.type "builtin_function_or_method") none (.fields #[(.builtin "object.__init_subclass__"), (.ref 49)]) #[]
def o49 (P : Params) : Obj := Obj.mk (.type "dict") none (.dict #[⟨PyData.keyHash P (Str.ofString "__name__"), (.str (Str.ofString "__name__") 165), (.str (Str.ofString "rulerow.rests") 255)⟩, ⟨PyData.keyHash P (Str.ofString "__doc__"), (.str (Str.ofString "__doc__") 166), .none⟩, ⟨PyData.keyHash P (Str.ofString "__package__"), (.str (Str.ofString "__package__") 167), .none⟩, ⟨PyData.keyHash P (Str.ofString "__loader__"), (.str (Str.ofString "__loader__") 168), (.builtin "__main__.__loader__#opaque")⟩, ⟨PyData.keyHash P (Str.ofString "__spec__"), (.str (Str.ofString "__spec__") 169), .none⟩, ⟨PyData.keyHash P (Str.ofString "__annotations__"), (.str (Str.ofString "__annotations__") 170), (.ref 6)⟩, ⟨PyData.keyHash P (Str.ofString "__builtins__"), (.str (Str.ofString "__builtins__") 171), (.ref 4)⟩, ⟨PyData.keyHash P (Str.ofString "__file__"), (.str (Str.ofString "__file__") 173), (.str (Str.ofString "/claim/cut.py") 172)⟩, ⟨PyData.keyHash P (Str.ofString "__cached__"), (.str (Str.ofString "__cached__") 174), .none⟩, ⟨PyData.keyHash P (Str.ofString "RuleError"), (.str (Str.ofString "RuleError") 206), (.ref 24)⟩, ⟨PyData.keyHash P (Str.ofString "BadPrime"), (.str (Str.ofString "BadPrime") 222), (.ref 37)⟩, ⟨PyData.keyHash P (Str.ofString "BadRow"), (.str (Str.ofString "BadRow") 238), (.ref 49)⟩, ⟨PyData.keyHash P (Str.ofString "BadRule"), (.str (Str.ofString "BadRule") 254), (.ref 61)⟩, ⟨PyData.keyHash P (Str.ofString "LOWEST_PRIME"), (.str (Str.ofString "LOWEST_PRIME") 258), (.int 2 257)⟩, ⟨PyData.keyHash P (Str.ofString "HIGHEST_PRIME"), (.str (Str.ofString "HIGHEST_PRIME") 260), (.int 997 259)⟩, ⟨PyData.keyHash P (Str.ofString "is_whole"), (.str (Str.ofString "is_whole") 267), (.ref 70)⟩, ⟨PyData.keyHash P (Str.ofString "is_prime"), (.str (Str.ofString "is_prime") 275), (.ref 77)⟩, ⟨PyData.keyHash P (Str.ofString "is_rest"), (.str (Str.ofString "is_rest") 283), (.ref 84)⟩, ⟨PyData.keyHash P (Str.ofString "are_rests"), (.str (Str.ofString "are_rests") 292), (.ref 91)⟩, ⟨PyData.keyHash P (Str.ofString "need_prime"), (.str (Str.ofString "need_prime") 299), (.ref 98)⟩] 20) #[]
def o50 (P : Params) : Obj := Obj.mk .none none (.fields #[(.int 2 0), (.int 0 0), (.ref 20), (.int 4 0), (.int 0 0), (.ref 33), (.int 6 0), (.int 0 0), (.ref 45), (.int 8 0), (.int 0 0), (.ref 57), (.int 13 0), (.int 0 0), (.ref 69), (.int 15 0), (.int 0 0), (.ref 76), (.int 24 0), (.int 0 0), (.ref 83), (.int 26 0), (.int 0 0), (.ref 90), (.int 33 0), (.int 0 0), (.ref 97)]) #[]
def o51 (P : Params) : Obj := Obj.mk (.type "type") none (.cls (ClassData.mk (Str.ofString "RuleError") [(.type "ValueError")] [(.ref 24), (.type "ValueError"), (.type "Exception"), (.type "BaseException"), (.type "object")] 23 (Str.ofString "RuleError") true [] [(.ref 37), (.ref 49), (.ref 61)] false none false)) #[(some (.ref 15)), none, (some (.str (Str.ofString "RuleError") 189)), (some (.str (Str.ofString "RuleError") 197)), (some (.builtin "ValueError.__new__")), (some (.bool true))]
def o52 (P : Params) : Obj := Obj.mk (.type "tuple") none (.seq #[(.ref 24)] 0) #[]
def o53 (P : Params) : Obj := Obj.mk (.type "builtin_function_or_method") none (.fields #[(.builtin "type.__prepare__"), (.type "type")]) #[]
def o54 (P : Params) : Obj := Obj.mk (.type "dict") none (.dict #[⟨PyData.keyHash P (Str.ofString "__module__"), (.str (Str.ofString "__module__") 246), (.str (Str.ofString "rulerow.errors") 187)⟩, ⟨PyData.keyHash P (Str.ofString "__qualname__"), (.str (Str.ofString "__qualname__") 248), (.str (Str.ofString "BadRule") 247)⟩, ⟨PyData.keyHash P (Str.ofString "__firstlineno__"), (.str (Str.ofString "__firstlineno__") 250), (.int 8 249)⟩, ⟨PyData.keyHash P (Str.ofString "__static_attributes__"), (.str (Str.ofString "__static_attributes__") 251), (.ref 59)⟩] 4) #[]
def o55 (P : Params) : Obj := Obj.mk (.type "tuple") none (.seq #[] 0) #[]
def o56 (P : Params) : Obj := Obj.mk .none none (.fields #[]) #[]
def o57 (P : Params) : Obj := Obj.mk (.type "code") none (.fields #[(.str (Str.ofString "BadRule") 241), (.str (Str.ofString "BadRule") 242), (.str (Str.ofString "/claim/cut.py") 243), (.int 8 0), (.int 0 0), (.int 0 0), (.int 0 0), (.int 0 0), (.ref 55), (.bool false), (.int 181 0), (.ref 56), .none, .none, .none, .none, (.int 244 0), (.int 8 0), (.str (Str.ofString "/claim/cut.py") 245)]) #[]
def o58 (P : Params) : Obj := Obj.mk (.type "frame") none .plain #[(some (.ref 57)), (some (.ref 3)), (some (.ref 54)), none, (some (.str (Str.ofString "rulerow.errors") 187)), none, (some (.ref 0))]
def o59 (P : Params) : Obj := Obj.mk (.type "tuple") none (.seq #[] 0) #[]
def o60 (P : Params) : Obj := Obj.mk (.type "dict") none (.dict #[⟨PyData.keyHash P (Str.ofString "__module__"), (.str (Str.ofString "__module__") 246), (.str (Str.ofString "rulerow.errors") 187)⟩, ⟨PyData.keyHash P (Str.ofString "__firstlineno__"), (.str (Str.ofString "__firstlineno__") 250), (.int 8 249)⟩, ⟨PyData.keyHash P (Str.ofString "__static_attributes__"), (.str (Str.ofString "__static_attributes__") 251), (.ref 59)⟩, ⟨PyData.keyHash P (Str.ofString "__doc__"), (.str (Str.ofString "__doc__") 252), .none⟩] 2) #[]
def o61 (P : Params) : Obj := Obj.mk (.type "type") none (.cls (ClassData.mk (Str.ofString "BadRule") [(.ref 24)] [(.ref 61), (.ref 24), (.type "ValueError"), (.type "Exception"), (.type "BaseException"), (.type "object")] 60 (Str.ofString "BadRule") true [] [] false none false)) #[(some (.ref 52)), none, (some (.str (Str.ofString "BadRule") 239)), (some (.str (Str.ofString "BadRule") 247)), (some (.builtin "ValueError.__new__")), (some (.bool true))]
def o62 (P : Params) : Obj := Obj.mk (.type "super") none (.fields #[(.ref 61), (.ref 61), (.ref 61)]) #[]
def o63 (P : Params) : Obj := Obj.mk (.type "builtin_function_or_method") none (.fields #[(.builtin "object.__init_subclass__"), (.ref 61)]) #[]
def o64 (P : Params) : Obj := Obj.mk (.type "tuple") none (.seq #[] 0) #[]
def o65 (P : Params) : Obj := Obj.mk .none none (.fields #[]) #[]
def o66 (P : Params) : Obj := Obj.mk (.type "tuple") none (.seq #[(.str (Str.ofString "value") 264)] 0) #[]
def o67 (P : Params) : Obj := Obj.mk (.type "tuple") none (.seq #[] 0) #[]
def o68 (P : Params) : Obj := Obj.mk .none none (.func (FuncData.mk (Str.ofString "is_whole") (Str.ofString "is_whole") (defArgs (top 8)) (.stmts (defBody (top 8))) (defScope (top 8)) 0 [] .none .none .none .none none .none .none 0)) #[]
def o69 (P : Params) : Obj := Obj.mk (.type "code") none (.fields #[(.str (Str.ofString "is_whole") 261), (.str (Str.ofString "is_whole") 262), (.str (Str.ofString "/claim/cut.py") 263), (.int 13 0), (.int 1 0), (.int 0 0), (.int 0 0), (.int 3 0), (.ref 64), (.bool true), (.int 181 0), (.ref 65), .none, (.ref 66), (.ref 67), (.ref 68), (.int 265 0), (.int 13 0), (.str (Str.ofString "/claim/cut.py") 266)]) #[]
def o70 (P : Params) : Obj := Obj.mk (.type "function") none (.func (fnOf (Str.ofString "is_whole") (Str.ofString "is_whole") (defArgs (top 8)) (defBody (top 8)) (defScope (top 8)) .none .none .none (.str (Str.ofString "rulerow.rests") 255) none (.ref 69) .none)) #[]
def o71 (P : Params) : Obj := Obj.mk (.type "tuple") none (.seq #[] 0) #[]
def o72 (P : Params) : Obj := Obj.mk .none none (.fields #[]) #[]
def o73 (P : Params) : Obj := Obj.mk (.type "tuple") none (.seq #[(.str (Str.ofString "value") 271), (.str (Str.ofString "divisor") 272)] 0) #[]
def o74 (P : Params) : Obj := Obj.mk (.type "tuple") none (.seq #[] 0) #[]
def o75 (P : Params) : Obj := Obj.mk .none none (.func (FuncData.mk (Str.ofString "is_prime") (Str.ofString "is_prime") (defArgs (top 9)) (.stmts (defBody (top 9))) (defScope (top 9)) 0 [] .none .none .none .none none .none .none 0)) #[]
def o76 (P : Params) : Obj := Obj.mk (.type "code") none (.fields #[(.str (Str.ofString "is_prime") 268), (.str (Str.ofString "is_prime") 269), (.str (Str.ofString "/claim/cut.py") 270), (.int 15 0), (.int 1 0), (.int 0 0), (.int 0 0), (.int 3 0), (.ref 71), (.bool true), (.int 181 0), (.ref 72), .none, (.ref 73), (.ref 74), (.ref 75), (.int 273 0), (.int 15 0), (.str (Str.ofString "/claim/cut.py") 274)]) #[]
def o77 (P : Params) : Obj := Obj.mk (.type "function") none (.func (fnOf (Str.ofString "is_prime") (Str.ofString "is_prime") (defArgs (top 9)) (defBody (top 9)) (defScope (top 9)) .none .none .none (.str (Str.ofString "rulerow.rests") 255) none (.ref 76) .none)) #[]
def o78 (P : Params) : Obj := Obj.mk (.type "tuple") none (.seq #[] 0) #[]
def o79 (P : Params) : Obj := Obj.mk .none none (.fields #[]) #[]
def o80 (P : Params) : Obj := Obj.mk (.type "tuple") none (.seq #[(.str (Str.ofString "prime") 279), (.str (Str.ofString "value") 280)] 0) #[]
def o81 (P : Params) : Obj := Obj.mk (.type "tuple") none (.seq #[] 0) #[]
def o82 (P : Params) : Obj := Obj.mk .none none (.func (FuncData.mk (Str.ofString "is_rest") (Str.ofString "is_rest") (defArgs (top 10)) (.stmts (defBody (top 10))) (defScope (top 10)) 0 [] .none .none .none .none none .none .none 0)) #[]
def o83 (P : Params) : Obj := Obj.mk (.type "code") none (.fields #[(.str (Str.ofString "is_rest") 276), (.str (Str.ofString "is_rest") 277), (.str (Str.ofString "/claim/cut.py") 278), (.int 24 0), (.int 2 0), (.int 0 0), (.int 0 0), (.int 3 0), (.ref 78), (.bool true), (.int 181 0), (.ref 79), .none, (.ref 80), (.ref 81), (.ref 82), (.int 281 0), (.int 24 0), (.str (Str.ofString "/claim/cut.py") 282)]) #[]
def o84 (P : Params) : Obj := Obj.mk (.type "function") none (.func (fnOf (Str.ofString "is_rest") (Str.ofString "is_rest") (defArgs (top 10)) (defBody (top 10)) (defScope (top 10)) .none .none .none (.str (Str.ofString "rulerow.rests") 255) none (.ref 83) .none)) #[]
def o85 (P : Params) : Obj := Obj.mk (.type "tuple") none (.seq #[] 0) #[]
def o86 (P : Params) : Obj := Obj.mk .none none (.fields #[]) #[]
def o87 (P : Params) : Obj := Obj.mk (.type "tuple") none (.seq #[(.str (Str.ofString "prime") 287), (.str (Str.ofString "value") 288), (.str (Str.ofString "number") 289)] 0) #[]
def o88 (P : Params) : Obj := Obj.mk (.type "tuple") none (.seq #[] 0) #[]
def o89 (P : Params) : Obj := Obj.mk .none none (.func (FuncData.mk (Str.ofString "are_rests") (Str.ofString "are_rests") (defArgs (top 11)) (.stmts (defBody (top 11))) (defScope (top 11)) 0 [] .none .none .none .none none .none .none 0)) #[]
def o90 (P : Params) : Obj := Obj.mk (.type "code") none (.fields #[(.str (Str.ofString "are_rests") 284), (.str (Str.ofString "are_rests") 285), (.str (Str.ofString "/claim/cut.py") 286), (.int 26 0), (.int 2 0), (.int 0 0), (.int 0 0), (.int 3 0), (.ref 85), (.bool true), (.int 181 0), (.ref 86), .none, (.ref 87), (.ref 88), (.ref 89), (.int 290 0), (.int 26 0), (.str (Str.ofString "/claim/cut.py") 291)]) #[]
def o91 (P : Params) : Obj := Obj.mk (.type "function") none (.func (fnOf (Str.ofString "are_rests") (Str.ofString "are_rests") (defArgs (top 11)) (defBody (top 11)) (defScope (top 11)) .none .none .none (.str (Str.ofString "rulerow.rests") 255) none (.ref 90) .none)) #[]
def o92 (P : Params) : Obj := Obj.mk (.type "tuple") none (.seq #[] 0) #[]
def o93 (P : Params) : Obj := Obj.mk .none none (.fields #[]) #[]
def o94 (P : Params) : Obj := Obj.mk (.type "tuple") none (.seq #[(.str (Str.ofString "prime") 296)] 0) #[]
def o95 (P : Params) : Obj := Obj.mk (.type "tuple") none (.seq #[] 0) #[]
def o96 (P : Params) : Obj := Obj.mk .none none (.func (FuncData.mk (Str.ofString "need_prime") (Str.ofString "need_prime") (defArgs (top 12)) (.stmts (defBody (top 12))) (defScope (top 12)) 0 [] .none .none .none .none none .none .none 0)) #[]
def o97 (P : Params) : Obj := Obj.mk (.type "code") none (.fields #[(.str (Str.ofString "need_prime") 293), (.str (Str.ofString "need_prime") 294), (.str (Str.ofString "/claim/cut.py") 295), (.int 33 0), (.int 1 0), (.int 0 0), (.int 0 0), (.int 3 0), (.ref 92), (.bool true), (.int 181 0), (.ref 93), .none, (.ref 94), (.ref 95), (.ref 96), (.int 297 0), (.int 33 0), (.str (Str.ofString "/claim/cut.py") 298)]) #[]
def o98 (P : Params) : Obj := Obj.mk (.type "function") none (.func (fnOf (Str.ofString "need_prime") (Str.ofString "need_prime") (defArgs (top 12)) (defBody (top 12)) (defScope (top 12)) .none .none .none (.str (Str.ofString "rulerow.rests") 255) none (.ref 97) .none)) #[]
def o99 (P : Params) : Obj := Obj.mk (.type "dict") none (.dict #[⟨PyData.keyHash P (Str.ofString "__name__"), (.str (Str.ofString "__name__") 165), (.str (Str.ofString "rulerow.answers") 345)⟩, ⟨PyData.keyHash P (Str.ofString "__doc__"), (.str (Str.ofString "__doc__") 166), .none⟩, ⟨PyData.keyHash P (Str.ofString "__package__"), (.str (Str.ofString "__package__") 167), .none⟩, ⟨PyData.keyHash P (Str.ofString "__loader__"), (.str (Str.ofString "__loader__") 168), (.builtin "__main__.__loader__#opaque")⟩, ⟨PyData.keyHash P (Str.ofString "__spec__"), (.str (Str.ofString "__spec__") 169), .none⟩, ⟨PyData.keyHash P (Str.ofString "__annotations__"), (.str (Str.ofString "__annotations__") 170), (.ref 6)⟩, ⟨PyData.keyHash P (Str.ofString "__builtins__"), (.str (Str.ofString "__builtins__") 171), (.ref 4)⟩, ⟨PyData.keyHash P (Str.ofString "__file__"), (.str (Str.ofString "__file__") 173), (.str (Str.ofString "/claim/cut.py") 172)⟩, ⟨PyData.keyHash P (Str.ofString "__cached__"), (.str (Str.ofString "__cached__") 174), .none⟩, ⟨PyData.keyHash P (Str.ofString "RuleError"), (.str (Str.ofString "RuleError") 206), (.ref 24)⟩, ⟨PyData.keyHash P (Str.ofString "BadPrime"), (.str (Str.ofString "BadPrime") 222), (.ref 37)⟩, ⟨PyData.keyHash P (Str.ofString "BadRow"), (.str (Str.ofString "BadRow") 238), (.ref 49)⟩, ⟨PyData.keyHash P (Str.ofString "BadRule"), (.str (Str.ofString "BadRule") 254), (.ref 61)⟩, ⟨PyData.keyHash P (Str.ofString "LOWEST_PRIME"), (.str (Str.ofString "LOWEST_PRIME") 258), (.int 2 257)⟩, ⟨PyData.keyHash P (Str.ofString "HIGHEST_PRIME"), (.str (Str.ofString "HIGHEST_PRIME") 260), (.int 997 259)⟩, ⟨PyData.keyHash P (Str.ofString "is_whole"), (.str (Str.ofString "is_whole") 267), (.ref 70)⟩, ⟨PyData.keyHash P (Str.ofString "is_prime"), (.str (Str.ofString "is_prime") 275), (.ref 77)⟩, ⟨PyData.keyHash P (Str.ofString "is_rest"), (.str (Str.ofString "is_rest") 283), (.ref 84)⟩, ⟨PyData.keyHash P (Str.ofString "are_rests"), (.str (Str.ofString "are_rests") 292), (.ref 91)⟩, ⟨PyData.keyHash P (Str.ofString "need_prime"), (.str (Str.ofString "need_prime") 299), (.ref 98)⟩, ⟨PyData.keyHash P (Str.ofString "need_rule"), (.str (Str.ofString "need_rule") 307), (.ref 105)⟩, ⟨PyData.keyHash P (Str.ofString "need_row"), (.str (Str.ofString "need_row") 315), (.ref 112)⟩, ⟨PyData.keyHash P (Str.ofString "inverse"), (.str (Str.ofString "inverse") 326), (.ref 119)⟩, ⟨PyData.keyHash P (Str.ofString "makes"), (.str (Str.ofString "makes") 338), (.ref 126)⟩, ⟨PyData.keyHash P (Str.ofString "due"), (.str (Str.ofString "due") 344), (.ref 131)⟩, ⟨PyData.keyHash P (Str.ofString "Answer"), (.str (Str.ofString "Answer") 366), (.ref 141)⟩] 26) #[]
def o100 (P : Params) : Obj := Obj.mk .none none (.fields #[(.int 2 0), (.int 0 0), (.ref 20), (.int 4 0), (.int 0 0), (.ref 33), (.int 6 0), (.int 0 0), (.ref 45), (.int 8 0), (.int 0 0), (.ref 57), (.int 13 0), (.int 0 0), (.ref 69), (.int 15 0), (.int 0 0), (.ref 76), (.int 24 0), (.int 0 0), (.ref 83), (.int 26 0), (.int 0 0), (.ref 90), (.int 33 0), (.int 0 0), (.ref 97), (.int 36 0), (.int 0 0), (.ref 104), (.int 39 0), (.int 0 0), (.ref 111), (.int 42 0), (.int 0 0), (.ref 118), (.int 53 0), (.int 0 0), (.ref 125), (.int 61 0), (.int 0 0), (.ref 130), (.int 65 0), (.int 0 0), (.ref 137)]) #[]
def o101 (P : Params) : Obj := Obj.mk (.type "tuple") none (.seq #[] 0) #[]
def o102 (P : Params) : Obj := Obj.mk .none none (.fields #[]) #[]
def o103 (P : Params) : Obj := Obj.mk (.type "tuple") none (.seq #[(.str (Str.ofString "prime") 303), (.str (Str.ofString "rule") 304)] 0) #[]
def o104 (P : Params) : Obj := Obj.mk (.type "tuple") none (.seq #[] 0) #[]
def o105 (P : Params) : Obj := Obj.mk .none none (.func (FuncData.mk (Str.ofString "need_rule") (Str.ofString "need_rule") (defArgs (top 13)) (.stmts (defBody (top 13))) (defScope (top 13)) 0 [] .none .none .none .none none .none .none 0)) #[]
def o106 (P : Params) : Obj := Obj.mk (.type "code") none (.fields #[(.str (Str.ofString "need_rule") 300), (.str (Str.ofString "need_rule") 301), (.str (Str.ofString "/claim/cut.py") 302), (.int 36 0), (.int 2 0), (.int 0 0), (.int 0 0), (.int 3 0), (.ref 99), (.bool true), (.int 181 0), (.ref 100), .none, (.ref 101), (.ref 102), (.ref 103), (.int 305 0), (.int 36 0), (.str (Str.ofString "/claim/cut.py") 306)]) #[]
def o107 (P : Params) : Obj := Obj.mk (.type "function") none (.func (fnOf (Str.ofString "need_rule") (Str.ofString "need_rule") (defArgs (top 13)) (defBody (top 13)) (defScope (top 13)) .none .none .none (.str (Str.ofString "rulerow.rests") 255) none (.ref 104) .none)) #[]
def o108 (P : Params) : Obj := Obj.mk (.type "tuple") none (.seq #[] 0) #[]
def o109 (P : Params) : Obj := Obj.mk .none none (.fields #[]) #[]
def o110 (P : Params) : Obj := Obj.mk (.type "tuple") none (.seq #[(.str (Str.ofString "prime") 311), (.str (Str.ofString "row") 312)] 0) #[]
def o111 (P : Params) : Obj := Obj.mk (.type "tuple") none (.seq #[] 0) #[]
def o112 (P : Params) : Obj := Obj.mk .none none (.func (FuncData.mk (Str.ofString "need_row") (Str.ofString "need_row") (defArgs (top 14)) (.stmts (defBody (top 14))) (defScope (top 14)) 0 [] .none .none .none .none none .none .none 0)) #[]
def o113 (P : Params) : Obj := Obj.mk (.type "code") none (.fields #[(.str (Str.ofString "need_row") 308), (.str (Str.ofString "need_row") 309), (.str (Str.ofString "/claim/cut.py") 310), (.int 39 0), (.int 2 0), (.int 0 0), (.int 0 0), (.int 3 0), (.ref 106), (.bool true), (.int 181 0), (.ref 107), .none, (.ref 108), (.ref 109), (.ref 110), (.int 313 0), (.int 39 0), (.str (Str.ofString "/claim/cut.py") 314)]) #[]
def o114 (P : Params) : Obj := Obj.mk (.type "function") none (.func (fnOf (Str.ofString "need_row") (Str.ofString "need_row") (defArgs (top 14)) (defBody (top 14)) (defScope (top 14)) .none .none .none (.str (Str.ofString "rulerow.rests") 255) none (.ref 111) .none)) #[]
def o115 (P : Params) : Obj := Obj.mk (.type "tuple") none (.seq #[] 0) #[]
def o116 (P : Params) : Obj := Obj.mk .none none (.fields #[]) #[]
def o117 (P : Params) : Obj := Obj.mk (.type "tuple") none (.seq #[(.str (Str.ofString "prime") 319), (.str (Str.ofString "rest") 320), (.str (Str.ofString "told") 321), (.str (Str.ofString "power") 322), (.str (Str.ofString "left") 323)] 0) #[]
def o118 (P : Params) : Obj := Obj.mk (.type "tuple") none (.seq #[] 0) #[]
def o119 (P : Params) : Obj := Obj.mk .none none (.func (FuncData.mk (Str.ofString "inverse") (Str.ofString "inverse") (defArgs (top 15)) (.stmts (defBody (top 15))) (defScope (top 15)) 0 [] .none .none .none .none none .none .none 0)) #[]
def o120 (P : Params) : Obj := Obj.mk (.type "code") none (.fields #[(.str (Str.ofString "inverse") 316), (.str (Str.ofString "inverse") 317), (.str (Str.ofString "/claim/cut.py") 318), (.int 42 0), (.int 2 0), (.int 0 0), (.int 0 0), (.int 3 0), (.ref 113), (.bool true), (.int 181 0), (.ref 114), .none, (.ref 115), (.ref 116), (.ref 117), (.int 324 0), (.int 42 0), (.str (Str.ofString "/claim/cut.py") 325)]) #[]
def o121 (P : Params) : Obj := Obj.mk (.type "function") none (.func (fnOf (Str.ofString "inverse") (Str.ofString "inverse") (defArgs (top 15)) (defBody (top 15)) (defScope (top 15)) .none .none .none (.str (Str.ofString "rulerow.rests") 255) none (.ref 118) .none)) #[]
def o122 (P : Params) : Obj := Obj.mk (.type "tuple") none (.seq #[] 0) #[]
def o123 (P : Params) : Obj := Obj.mk .none none (.fields #[]) #[]
def o124 (P : Params) : Obj := Obj.mk (.type "tuple") none (.seq #[(.str (Str.ofString "prime") 332), (.str (Str.ofString "rule") 333), (.str (Str.ofString "row") 334), (.str (Str.ofString "place") 335)] 0) #[]
def o125 (P : Params) : Obj := Obj.mk (.type "tuple") none (.seq #[] 0) #[]
def o126 (P : Params) : Obj := Obj.mk .none none (.func (FuncData.mk (Str.ofString "makes") (Str.ofString "makes") (defArgs (top 17)) (.stmts (defBody (top 17))) (defScope (top 17)) 0 [] .none .none .none .none none .none .none 0)) #[]
def o127 (P : Params) : Obj := Obj.mk (.type "code") none (.fields #[(.str (Str.ofString "makes") 329), (.str (Str.ofString "makes") 330), (.str (Str.ofString "/claim/cut.py") 331), (.int 53 0), (.int 3 0), (.int 0 0), (.int 0 0), (.int 3 0), (.ref 120), (.bool true), (.int 181 0), (.ref 121), .none, (.ref 122), (.ref 123), (.ref 124), (.int 336 0), (.int 53 0), (.str (Str.ofString "/claim/cut.py") 337)]) #[]
def o128 (P : Params) : Obj := Obj.mk (.type "function") none (.func (fnOf (Str.ofString "makes") (Str.ofString "makes") (defArgs (top 17)) (defBody (top 17)) (defScope (top 17)) .none .none .none (.str (Str.ofString "rulerow.rules") 327) none (.ref 125) .none)) #[]
def o129 (P : Params) : Obj := Obj.mk (.type "tuple") none (.seq #[] 0) #[]
def o130 (P : Params) : Obj := Obj.mk .none none (.fields #[]) #[]
def o131 (P : Params) : Obj := Obj.mk .none none (.func (FuncData.mk (Str.ofString "due") (Str.ofString "due") (defArgs (top 18)) (.stmts (defBody (top 18))) (defScope (top 18)) 0 [] .none .none .none .none none .none .none 0)) #[]
def o132 (P : Params) : Obj := Obj.mk (.type "code") none (.fields #[(.str (Str.ofString "due") 339), (.str (Str.ofString "due") 340), (.str (Str.ofString "/claim/cut.py") 341), (.int 61 0), (.int 4 0), (.int 0 0), (.int 0 0), (.int 3 0), (.ref 127), (.bool true), (.int 181 0), (.ref 128), .none, .none, .none, (.ref 129), (.int 342 0), (.int 61 0), (.str (Str.ofString "/claim/cut.py") 343)]) #[]
def o133 (P : Params) : Obj := Obj.mk (.type "function") none (.func (fnOf (Str.ofString "due") (Str.ofString "due") (defArgs (top 18)) (defBody (top 18)) (defScope (top 18)) .none .none .none (.str (Str.ofString "rulerow.rules") 327) none (.ref 130) .none)) #[]
def o134 (P : Params) : Obj := Obj.mk (.type "tuple") none (.seq #[] 0) #[]
def o135 (P : Params) : Obj := Obj.mk (.type "builtin_function_or_method") none (.fields #[(.builtin "type.__prepare__"), (.type "type")]) #[]
def o136 (P : Params) : Obj := Obj.mk (.type "dict") none (.dict #[⟨PyData.keyHash P (Str.ofString "__module__"), (.str (Str.ofString "__module__") 354), (.str (Str.ofString "rulerow.answers") 345)⟩, ⟨PyData.keyHash P (Str.ofString "__qualname__"), (.str (Str.ofString "__qualname__") 356), (.str (Str.ofString "Answer") 355)⟩, ⟨PyData.keyHash P (Str.ofString "__firstlineno__"), (.str (Str.ofString "__firstlineno__") 358), (.int 65 357)⟩, ⟨PyData.keyHash P (Str.ofString "__static_attributes__"), (.str (Str.ofString "__static_attributes__") 359), (.ref 139)⟩] 4) #[]
def o137 (P : Params) : Obj := Obj.mk (.type "tuple") none (.seq #[] 0) #[]
def o138 (P : Params) : Obj := Obj.mk .none none (.fields #[]) #[]
def o139 (P : Params) : Obj := Obj.mk (.type "code") none (.fields #[(.str (Str.ofString "Answer") 349), (.str (Str.ofString "Answer") 350), (.str (Str.ofString "/claim/cut.py") 351), (.int 65 0), (.int 0 0), (.int 0 0), (.int 0 0), (.int 0 0), (.ref 135), (.bool false), (.int 181 0), (.ref 136), .none, .none, .none, .none, (.int 352 0), (.int 65 0), (.str (Str.ofString "/claim/cut.py") 353)]) #[]
def o140 (P : Params) : Obj := Obj.mk (.type "frame") none .plain #[(some (.ref 137)), (some (.ref 3)), (some (.ref 134)), none, (some (.str (Str.ofString "rulerow.answers") 345)), none, (some (.ref 0))]
def o141 (P : Params) : Obj := Obj.mk (.type "tuple") none (.seq #[] 0) #[]
def o142 (P : Params) : Obj := Obj.mk (.type "dict") none (.dict #[⟨PyData.keyHash P (Str.ofString "__module__"), (.str (Str.ofString "__module__") 354), (.str (Str.ofString "rulerow.answers") 345)⟩, ⟨PyData.keyHash P (Str.ofString "__firstlineno__"), (.str (Str.ofString "__firstlineno__") 358), (.int 65 357)⟩, ⟨PyData.keyHash P (Str.ofString "__static_attributes__"), (.str (Str.ofString "__static_attributes__") 359), (.ref 139)⟩, ⟨PyData.keyHash P (Str.ofString "__dict__"), (.str (Str.ofString "__dict__") 361), (.ref 142)⟩, ⟨PyData.keyHash P (Str.ofString "__weakref__"), (.str (Str.ofString "__weakref__") 363), (.ref 143)⟩, ⟨PyData.keyHash P (Str.ofString "__doc__"), (.str (Str.ofString "__doc__") 364), .none⟩] 4) #[]
def o143 (P : Params) : Obj := Obj.mk (.type "type") none (.cls (ClassData.mk (Str.ofString "Answer") [(.type "object")] [(.ref 141), (.type "object")] 140 (Str.ofString "Answer") true [] [] false none false)) #[none, none, (some (.str (Str.ofString "Answer") 347)), (some (.str (Str.ofString "Answer") 355)), (some (.builtin "object.__new__")), (some (.bool true))]
def o144 (P : Params) : Obj := Obj.mk (.type "getset_descriptor") none (.fields #[(.str (Str.ofString "__dict__") 360), (.ref 141), (.builtin "function.__dict__"), (.builtin "function.__dict__#set")]) #[]
def o145 (P : Params) : Obj := Obj.mk (.type "getset_descriptor") none (.fields #[(.str (Str.ofString "__weakref__") 362), (.ref 141), (.builtin "ExceptionGroup.__weakref__"), .none]) #[]
def o146 (P : Params) : Obj := Obj.mk (.type "super") none (.fields #[(.ref 141), (.ref 141), (.ref 141)]) #[]
def o147 (P : Params) : Obj := Obj.mk (.type "builtin_function_or_method") none (.fields #[(.builtin "object.__init_subclass__"), (.ref 141)]) #[]
def o148 (P : Params) : Obj := Obj.mk (.type "dict") none (.dict #[⟨PyData.keyHash P (Str.ofString "__name__"), (.str (Str.ofString "__name__") 165), (.str (Str.ofString "rulerow.answers") 345)⟩, ⟨PyData.keyHash P (Str.ofString "__doc__"), (.str (Str.ofString "__doc__") 166), .none⟩, ⟨PyData.keyHash P (Str.ofString "__package__"), (.str (Str.ofString "__package__") 167), .none⟩, ⟨PyData.keyHash P (Str.ofString "__loader__"), (.str (Str.ofString "__loader__") 168), (.builtin "__main__.__loader__#opaque")⟩, ⟨PyData.keyHash P (Str.ofString "__spec__"), (.str (Str.ofString "__spec__") 169), .none⟩, ⟨PyData.keyHash P (Str.ofString "__annotations__"), (.str (Str.ofString "__annotations__") 170), (.ref 6)⟩, ⟨PyData.keyHash P (Str.ofString "__builtins__"), (.str (Str.ofString "__builtins__") 171), (.ref 4)⟩, ⟨PyData.keyHash P (Str.ofString "__file__"), (.str (Str.ofString "__file__") 173), (.str (Str.ofString "/claim/cut.py") 172)⟩, ⟨PyData.keyHash P (Str.ofString "__cached__"), (.str (Str.ofString "__cached__") 174), .none⟩, ⟨PyData.keyHash P (Str.ofString "RuleError"), (.str (Str.ofString "RuleError") 206), (.ref 24)⟩, ⟨PyData.keyHash P (Str.ofString "BadPrime"), (.str (Str.ofString "BadPrime") 222), (.ref 37)⟩, ⟨PyData.keyHash P (Str.ofString "BadRow"), (.str (Str.ofString "BadRow") 238), (.ref 49)⟩, ⟨PyData.keyHash P (Str.ofString "BadRule"), (.str (Str.ofString "BadRule") 254), (.ref 61)⟩, ⟨PyData.keyHash P (Str.ofString "LOWEST_PRIME"), (.str (Str.ofString "LOWEST_PRIME") 258), (.int 2 257)⟩, ⟨PyData.keyHash P (Str.ofString "HIGHEST_PRIME"), (.str (Str.ofString "HIGHEST_PRIME") 260), (.int 997 259)⟩, ⟨PyData.keyHash P (Str.ofString "is_whole"), (.str (Str.ofString "is_whole") 267), (.ref 70)⟩, ⟨PyData.keyHash P (Str.ofString "is_prime"), (.str (Str.ofString "is_prime") 275), (.ref 77)⟩, ⟨PyData.keyHash P (Str.ofString "is_rest"), (.str (Str.ofString "is_rest") 283), (.ref 84)⟩, ⟨PyData.keyHash P (Str.ofString "are_rests"), (.str (Str.ofString "are_rests") 292), (.ref 91)⟩, ⟨PyData.keyHash P (Str.ofString "need_prime"), (.str (Str.ofString "need_prime") 299), (.ref 98)⟩, ⟨PyData.keyHash P (Str.ofString "need_rule"), (.str (Str.ofString "need_rule") 307), (.ref 105)⟩, ⟨PyData.keyHash P (Str.ofString "need_row"), (.str (Str.ofString "need_row") 315), (.ref 112)⟩, ⟨PyData.keyHash P (Str.ofString "inverse"), (.str (Str.ofString "inverse") 326), (.ref 119)⟩, ⟨PyData.keyHash P (Str.ofString "makes"), (.str (Str.ofString "makes") 338), (.ref 126)⟩, ⟨PyData.keyHash P (Str.ofString "due"), (.str (Str.ofString "due") 344), (.ref 131)⟩, ⟨PyData.keyHash P (Str.ofString "Answer"), (.str (Str.ofString "Answer") 366), (.ref 141)⟩, ⟨PyData.keyHash P (Str.ofString "Least"), (.str (Str.ofString "Least") 404), (.ref 169)⟩] 27) #[]
def o149 (P : Params) : Obj := Obj.mk .none none (.fields #[(.int 2 0), (.int 0 0), (.ref 20), (.int 4 0), (.int 0 0), (.ref 33), (.int 6 0), (.int 0 0), (.ref 45), (.int 8 0), (.int 0 0), (.ref 57), (.int 13 0), (.int 0 0), (.ref 69), (.int 15 0), (.int 0 0), (.ref 76), (.int 24 0), (.int 0 0), (.ref 83), (.int 26 0), (.int 0 0), (.ref 90), (.int 33 0), (.int 0 0), (.ref 97), (.int 36 0), (.int 0 0), (.ref 104), (.int 39 0), (.int 0 0), (.ref 111), (.int 42 0), (.int 0 0), (.ref 118), (.int 53 0), (.int 0 0), (.ref 125), (.int 61 0), (.int 0 0), (.ref 130), (.int 65 0), (.int 0 0), (.ref 137), (.int 67 0), (.int 0 0), (.ref 151)]) #[]
def o150 (P : Params) : Obj := Obj.mk (.type "type") none (.cls (ClassData.mk (Str.ofString "Answer") [(.type "object")] [(.ref 141), (.type "object")] 140 (Str.ofString "Answer") true [] [(.ref 169)] false none false)) #[none, none, (some (.str (Str.ofString "Answer") 347)), (some (.str (Str.ofString "Answer") 355)), (some (.builtin "object.__new__")), (some (.bool true))]
def o151 (P : Params) : Obj := Obj.mk (.type "tuple") none (.seq #[(.ref 141)] 0) #[]
def o152 (P : Params) : Obj := Obj.mk (.type "builtin_function_or_method") none (.fields #[(.builtin "type.__prepare__"), (.type "type")]) #[]
def o153 (P : Params) : Obj := Obj.mk (.type "dict") none (.dict #[⟨PyData.keyHash P (Str.ofString "__module__"), (.str (Str.ofString "__module__") 374), (.str (Str.ofString "rulerow.answers") 345)⟩, ⟨PyData.keyHash P (Str.ofString "__qualname__"), (.str (Str.ofString "__qualname__") 376), (.str (Str.ofString "Least") 375)⟩, ⟨PyData.keyHash P (Str.ofString "__firstlineno__"), (.str (Str.ofString "__firstlineno__") 378), (.int 67 377)⟩, ⟨PyData.keyHash P (Str.ofString "__init__"), (.str (Str.ofString "__init__") 388), (.ref 159)⟩, ⟨PyData.keyHash P (Str.ofString "shows"), (.str (Str.ofString "shows") 397), (.ref 166)⟩, ⟨PyData.keyHash P (Str.ofString "__static_attributes__"), (.str (Str.ofString "__static_attributes__") 401), (.ref 167)⟩] 6) #[]
def o154 (P : Params) : Obj := Obj.mk (.type "tuple") none (.seq #[] 0) #[]
def o155 (P : Params) : Obj := Obj.mk .none none (.fields #[(.int 69 0), (.int 4 0), (.ref 158), (.int 74 0), (.int 4 0), (.ref 165)]) #[]
def o156 (P : Params) : Obj := Obj.mk (.type "code") none (.fields #[(.str (Str.ofString "Least") 369), (.str (Str.ofString "Least") 370), (.str (Str.ofString "/claim/cut.py") 371), (.int 67 0), (.int 0 0), (.int 0 0), (.int 0 0), (.int 0 0), (.ref 149), (.bool false), (.int 181 0), (.ref 150), .none, .none, .none, .none, (.int 372 0), (.int 67 0), (.str (Str.ofString "/claim/cut.py") 373)]) #[]
def o157 (P : Params) : Obj := Obj.mk (.type "frame") none .plain #[(some (.ref 151)), (some (.ref 3)), (some (.ref 148)), none, (some (.str (Str.ofString "rulerow.answers") 345)), none, (some (.ref 0))]
def o158 (P : Params) : Obj := Obj.mk (.type "tuple") none (.seq #[] 0) #[]
def o159 (P : Params) : Obj := Obj.mk .none none (.fields #[]) #[]
def o160 (P : Params) : Obj := Obj.mk (.type "tuple") none (.seq #[(.str (Str.ofString "self") 382), (.str (Str.ofString "rule") 383), (.str (Str.ofString "shorter") 384), (.str (Str.ofString "place") 385)] 0) #[]
def o161 (P : Params) : Obj := Obj.mk (.type "tuple") none (.seq #[] 0) #[]
def o162 (P : Params) : Obj := Obj.mk .none none (.func (FuncData.mk (Str.ofString "__init__") (Str.ofString "Least.__init__") (defArgs (inClass (top 21) 0)) (.stmts (defBody (inClass (top 21) 0))) (defScope (inClass (top 21) 0)) 0 [] .none .none .none .none none .none .none 0)) #[]
def o163 (P : Params) : Obj := Obj.mk (.type "code") none (.fields #[(.str (Str.ofString "__init__") 379), (.str (Str.ofString "Least.__init__") 380), (.str (Str.ofString "/claim/cut.py") 381), (.int 69 0), (.int 4 0), (.int 0 0), (.int 0 0), (.int 3 0), (.ref 153), (.bool true), (.int 181 0), (.ref 154), .none, (.ref 155), (.ref 156), (.ref 157), (.int 386 0), (.int 69 0), (.str (Str.ofString "/claim/cut.py") 387)]) #[]
def o164 (P : Params) : Obj := Obj.mk (.type "function") none (.func (fnOf (Str.ofString "__init__") (Str.ofString "Least.__init__") (defArgs (inClass (top 21) 0)) (defBody (inClass (top 21) 0)) (defScope (inClass (top 21) 0)) .none .none .none (.str (Str.ofString "rulerow.answers") 345) none (.ref 158) .none)) #[]
def o165 (P : Params) : Obj := Obj.mk (.type "tuple") none (.seq #[] 0) #[]
def o166 (P : Params) : Obj := Obj.mk .none none (.fields #[]) #[]
def o167 (P : Params) : Obj := Obj.mk (.type "tuple") none (.seq #[(.str (Str.ofString "self") 392), (.str (Str.ofString "prime") 393), (.str (Str.ofString "row") 394)] 0) #[]
def o168 (P : Params) : Obj := Obj.mk (.type "tuple") none (.seq #[] 0) #[]
def o169 (P : Params) : Obj := Obj.mk .none none (.func (FuncData.mk (Str.ofString "shows") (Str.ofString "Least.shows") (defArgs (inClass (top 21) 1)) (.stmts (defBody (inClass (top 21) 1))) (defScope (inClass (top 21) 1)) 0 [] .none .none .none .none none .none .none 0)) #[]
def o170 (P : Params) : Obj := Obj.mk (.type "code") none (.fields #[(.str (Str.ofString "shows") 389), (.str (Str.ofString "Least.shows") 390), (.str (Str.ofString "/claim/cut.py") 391), (.int 74 0), (.int 3 0), (.int 0 0), (.int 0 0), (.int 3 0), (.ref 160), (.bool true), (.int 181 0), (.ref 161), .none, (.ref 162), (.ref 163), (.ref 164), (.int 395 0), (.int 74 0), (.str (Str.ofString "/claim/cut.py") 396)]) #[]
def o171 (P : Params) : Obj := Obj.mk (.type "function") none (.func (fnOf (Str.ofString "shows") (Str.ofString "Least.shows") (defArgs (inClass (top 21) 1)) (defBody (inClass (top 21) 1)) (defScope (inClass (top 21) 1)) .none .none .none (.str (Str.ofString "rulerow.answers") 345) none (.ref 165) .none)) #[]
def o172 (P : Params) : Obj := Obj.mk (.type "tuple") none (.seq #[(.str (Str.ofString "place") 398), (.str (Str.ofString "rule") 399), (.str (Str.ofString "shorter") 400)] 0) #[]
def o173 (P : Params) : Obj := Obj.mk (.type "dict") none (.dict #[⟨PyData.keyHash P (Str.ofString "__module__"), (.str (Str.ofString "__module__") 374), (.str (Str.ofString "rulerow.answers") 345)⟩, ⟨PyData.keyHash P (Str.ofString "__firstlineno__"), (.str (Str.ofString "__firstlineno__") 378), (.int 67 377)⟩, ⟨PyData.keyHash P (Str.ofString "__init__"), (.str (Str.ofString "__init__") 388), (.ref 159)⟩, ⟨PyData.keyHash P (Str.ofString "shows"), (.str (Str.ofString "shows") 397), (.ref 166)⟩, ⟨PyData.keyHash P (Str.ofString "__static_attributes__"), (.str (Str.ofString "__static_attributes__") 401), (.ref 167)⟩, ⟨PyData.keyHash P (Str.ofString "__doc__"), (.str (Str.ofString "__doc__") 402), .none⟩] 2) #[]
def o174 (P : Params) : Obj := Obj.mk (.type "type") none (.cls (ClassData.mk (Str.ofString "Least") [(.ref 141)] [(.ref 169), (.ref 141), (.type "object")] 168 (Str.ofString "Least") true [] [] false none false)) #[(some (.ref 146)), none, (some (.str (Str.ofString "Least") 367)), (some (.str (Str.ofString "Least") 375)), (some (.builtin "object.__new__")), (some (.bool true))]
def o175 (P : Params) : Obj := Obj.mk (.type "super") none (.fields #[(.ref 169), (.ref 169), (.ref 169)]) #[]
def o176 (P : Params) : Obj := Obj.mk (.type "builtin_function_or_method") none (.fields #[(.builtin "object.__init_subclass__"), (.ref 169)]) #[]
def o177 (P : Params) : Obj := Obj.mk (.type "dict") none (.dict #[⟨PyData.keyHash P (Str.ofString "__name__"), (.str (Str.ofString "__name__") 165), (.str (Str.ofString "rulerow.answers") 345)⟩, ⟨PyData.keyHash P (Str.ofString "__doc__"), (.str (Str.ofString "__doc__") 166), .none⟩, ⟨PyData.keyHash P (Str.ofString "__package__"), (.str (Str.ofString "__package__") 167), .none⟩, ⟨PyData.keyHash P (Str.ofString "__loader__"), (.str (Str.ofString "__loader__") 168), (.builtin "__main__.__loader__#opaque")⟩, ⟨PyData.keyHash P (Str.ofString "__spec__"), (.str (Str.ofString "__spec__") 169), .none⟩, ⟨PyData.keyHash P (Str.ofString "__annotations__"), (.str (Str.ofString "__annotations__") 170), (.ref 6)⟩, ⟨PyData.keyHash P (Str.ofString "__builtins__"), (.str (Str.ofString "__builtins__") 171), (.ref 4)⟩, ⟨PyData.keyHash P (Str.ofString "__file__"), (.str (Str.ofString "__file__") 173), (.str (Str.ofString "/claim/cut.py") 172)⟩, ⟨PyData.keyHash P (Str.ofString "__cached__"), (.str (Str.ofString "__cached__") 174), .none⟩, ⟨PyData.keyHash P (Str.ofString "RuleError"), (.str (Str.ofString "RuleError") 206), (.ref 24)⟩, ⟨PyData.keyHash P (Str.ofString "BadPrime"), (.str (Str.ofString "BadPrime") 222), (.ref 37)⟩, ⟨PyData.keyHash P (Str.ofString "BadRow"), (.str (Str.ofString "BadRow") 238), (.ref 49)⟩, ⟨PyData.keyHash P (Str.ofString "BadRule"), (.str (Str.ofString "BadRule") 254), (.ref 61)⟩, ⟨PyData.keyHash P (Str.ofString "LOWEST_PRIME"), (.str (Str.ofString "LOWEST_PRIME") 258), (.int 2 257)⟩, ⟨PyData.keyHash P (Str.ofString "HIGHEST_PRIME"), (.str (Str.ofString "HIGHEST_PRIME") 260), (.int 997 259)⟩, ⟨PyData.keyHash P (Str.ofString "is_whole"), (.str (Str.ofString "is_whole") 267), (.ref 70)⟩, ⟨PyData.keyHash P (Str.ofString "is_prime"), (.str (Str.ofString "is_prime") 275), (.ref 77)⟩, ⟨PyData.keyHash P (Str.ofString "is_rest"), (.str (Str.ofString "is_rest") 283), (.ref 84)⟩, ⟨PyData.keyHash P (Str.ofString "are_rests"), (.str (Str.ofString "are_rests") 292), (.ref 91)⟩, ⟨PyData.keyHash P (Str.ofString "need_prime"), (.str (Str.ofString "need_prime") 299), (.ref 98)⟩, ⟨PyData.keyHash P (Str.ofString "need_rule"), (.str (Str.ofString "need_rule") 307), (.ref 105)⟩, ⟨PyData.keyHash P (Str.ofString "need_row"), (.str (Str.ofString "need_row") 315), (.ref 112)⟩, ⟨PyData.keyHash P (Str.ofString "inverse"), (.str (Str.ofString "inverse") 326), (.ref 119)⟩, ⟨PyData.keyHash P (Str.ofString "makes"), (.str (Str.ofString "makes") 338), (.ref 126)⟩, ⟨PyData.keyHash P (Str.ofString "due"), (.str (Str.ofString "due") 344), (.ref 131)⟩, ⟨PyData.keyHash P (Str.ofString "Answer"), (.str (Str.ofString "Answer") 366), (.ref 141)⟩, ⟨PyData.keyHash P (Str.ofString "Least"), (.str (Str.ofString "Least") 404), (.ref 169)⟩, ⟨PyData.keyHash P (Str.ofString "Only"), (.str (Str.ofString "Only") 442), (.ref 195)⟩] 28) #[]
def o178 (P : Params) : Obj := Obj.mk .none none (.fields #[(.int 2 0), (.int 0 0), (.ref 20), (.int 4 0), (.int 0 0), (.ref 33), (.int 6 0), (.int 0 0), (.ref 45), (.int 8 0), (.int 0 0), (.ref 57), (.int 13 0), (.int 0 0), (.ref 69), (.int 15 0), (.int 0 0), (.ref 76), (.int 24 0), (.int 0 0), (.ref 83), (.int 26 0), (.int 0 0), (.ref 90), (.int 33 0), (.int 0 0), (.ref 97), (.int 36 0), (.int 0 0), (.ref 104), (.int 39 0), (.int 0 0), (.ref 111), (.int 42 0), (.int 0 0), (.ref 118), (.int 53 0), (.int 0 0), (.ref 125), (.int 61 0), (.int 0 0), (.ref 130), (.int 65 0), (.int 0 0), (.ref 137), (.int 67 0), (.int 0 0), (.ref 151), (.int 76 0), (.int 0 0), (.ref 177)]) #[]
def o179 (P : Params) : Obj := Obj.mk (.type "type") none (.cls (ClassData.mk (Str.ofString "Answer") [(.type "object")] [(.ref 141), (.type "object")] 140 (Str.ofString "Answer") true [] [(.ref 169), (.ref 195)] false none false)) #[none, none, (some (.str (Str.ofString "Answer") 347)), (some (.str (Str.ofString "Answer") 355)), (some (.builtin "object.__new__")), (some (.bool true))]
def o180 (P : Params) : Obj := Obj.mk (.type "tuple") none (.seq #[(.ref 141)] 0) #[]
def o181 (P : Params) : Obj := Obj.mk (.type "builtin_function_or_method") none (.fields #[(.builtin "type.__prepare__"), (.type "type")]) #[]
def o182 (P : Params) : Obj := Obj.mk (.type "dict") none (.dict #[⟨PyData.keyHash P (Str.ofString "__module__"), (.str (Str.ofString "__module__") 412), (.str (Str.ofString "rulerow.answers") 345)⟩, ⟨PyData.keyHash P (Str.ofString "__qualname__"), (.str (Str.ofString "__qualname__") 414), (.str (Str.ofString "Only") 413)⟩, ⟨PyData.keyHash P (Str.ofString "__firstlineno__"), (.str (Str.ofString "__firstlineno__") 416), (.int 76 415)⟩, ⟨PyData.keyHash P (Str.ofString "__init__"), (.str (Str.ofString "__init__") 426), (.ref 185)⟩, ⟨PyData.keyHash P (Str.ofString "shows"), (.str (Str.ofString "shows") 435), (.ref 192)⟩, ⟨PyData.keyHash P (Str.ofString "__static_attributes__"), (.str (Str.ofString "__static_attributes__") 439), (.ref 193)⟩] 6) #[]
def o183 (P : Params) : Obj := Obj.mk (.type "tuple") none (.seq #[] 0) #[]
def o184 (P : Params) : Obj := Obj.mk .none none (.fields #[(.int 78 0), (.int 4 0), (.ref 184), (.int 83 0), (.int 4 0), (.ref 191)]) #[]
def o185 (P : Params) : Obj := Obj.mk (.type "code") none (.fields #[(.str (Str.ofString "Only") 407), (.str (Str.ofString "Only") 408), (.str (Str.ofString "/claim/cut.py") 409), (.int 76 0), (.int 0 0), (.int 0 0), (.int 0 0), (.int 0 0), (.ref 175), (.bool false), (.int 181 0), (.ref 176), .none, .none, .none, .none, (.int 410 0), (.int 76 0), (.str (Str.ofString "/claim/cut.py") 411)]) #[]
def o186 (P : Params) : Obj := Obj.mk (.type "frame") none .plain #[(some (.ref 177)), (some (.ref 3)), (some (.ref 174)), none, (some (.str (Str.ofString "rulerow.answers") 345)), none, (some (.ref 0))]
def o187 (P : Params) : Obj := Obj.mk (.type "tuple") none (.seq #[] 0) #[]
def o188 (P : Params) : Obj := Obj.mk .none none (.fields #[]) #[]
def o189 (P : Params) : Obj := Obj.mk (.type "tuple") none (.seq #[(.str (Str.ofString "self") 420), (.str (Str.ofString "rule") 421), (.str (Str.ofString "shorter") 422), (.str (Str.ofString "place") 423)] 0) #[]
def o190 (P : Params) : Obj := Obj.mk (.type "tuple") none (.seq #[] 0) #[]
def o191 (P : Params) : Obj := Obj.mk .none none (.func (FuncData.mk (Str.ofString "__init__") (Str.ofString "Only.__init__") (defArgs (inClass (top 22) 0)) (.stmts (defBody (inClass (top 22) 0))) (defScope (inClass (top 22) 0)) 0 [] .none .none .none .none none .none .none 0)) #[]
def o192 (P : Params) : Obj := Obj.mk (.type "code") none (.fields #[(.str (Str.ofString "__init__") 417), (.str (Str.ofString "Only.__init__") 418), (.str (Str.ofString "/claim/cut.py") 419), (.int 78 0), (.int 4 0), (.int 0 0), (.int 0 0), (.int 3 0), (.ref 179), (.bool true), (.int 181 0), (.ref 180), .none, (.ref 181), (.ref 182), (.ref 183), (.int 424 0), (.int 78 0), (.str (Str.ofString "/claim/cut.py") 425)]) #[]
def o193 (P : Params) : Obj := Obj.mk (.type "function") none (.func (fnOf (Str.ofString "__init__") (Str.ofString "Only.__init__") (defArgs (inClass (top 22) 0)) (defBody (inClass (top 22) 0)) (defScope (inClass (top 22) 0)) .none .none .none (.str (Str.ofString "rulerow.answers") 345) none (.ref 184) .none)) #[]
def o194 (P : Params) : Obj := Obj.mk (.type "tuple") none (.seq #[] 0) #[]
def o195 (P : Params) : Obj := Obj.mk .none none (.fields #[]) #[]
def o196 (P : Params) : Obj := Obj.mk (.type "tuple") none (.seq #[(.str (Str.ofString "self") 430), (.str (Str.ofString "prime") 431), (.str (Str.ofString "row") 432)] 0) #[]
def o197 (P : Params) : Obj := Obj.mk (.type "tuple") none (.seq #[] 0) #[]
def o198 (P : Params) : Obj := Obj.mk .none none (.func (FuncData.mk (Str.ofString "shows") (Str.ofString "Only.shows") (defArgs (inClass (top 22) 1)) (.stmts (defBody (inClass (top 22) 1))) (defScope (inClass (top 22) 1)) 0 [] .none .none .none .none none .none .none 0)) #[]
def o199 (P : Params) : Obj := Obj.mk (.type "code") none (.fields #[(.str (Str.ofString "shows") 427), (.str (Str.ofString "Only.shows") 428), (.str (Str.ofString "/claim/cut.py") 429), (.int 83 0), (.int 3 0), (.int 0 0), (.int 0 0), (.int 3 0), (.ref 186), (.bool true), (.int 181 0), (.ref 187), .none, (.ref 188), (.ref 189), (.ref 190), (.int 433 0), (.int 83 0), (.str (Str.ofString "/claim/cut.py") 434)]) #[]
def o200 (P : Params) : Obj := Obj.mk (.type "function") none (.func (fnOf (Str.ofString "shows") (Str.ofString "Only.shows") (defArgs (inClass (top 22) 1)) (defBody (inClass (top 22) 1)) (defScope (inClass (top 22) 1)) .none .none .none (.str (Str.ofString "rulerow.answers") 345) none (.ref 191) .none)) #[]
def o201 (P : Params) : Obj := Obj.mk (.type "tuple") none (.seq #[(.str (Str.ofString "place") 436), (.str (Str.ofString "rule") 437), (.str (Str.ofString "shorter") 438)] 0) #[]
def o202 (P : Params) : Obj := Obj.mk (.type "dict") none (.dict #[⟨PyData.keyHash P (Str.ofString "__module__"), (.str (Str.ofString "__module__") 412), (.str (Str.ofString "rulerow.answers") 345)⟩, ⟨PyData.keyHash P (Str.ofString "__firstlineno__"), (.str (Str.ofString "__firstlineno__") 416), (.int 76 415)⟩, ⟨PyData.keyHash P (Str.ofString "__init__"), (.str (Str.ofString "__init__") 426), (.ref 185)⟩, ⟨PyData.keyHash P (Str.ofString "shows"), (.str (Str.ofString "shows") 435), (.ref 192)⟩, ⟨PyData.keyHash P (Str.ofString "__static_attributes__"), (.str (Str.ofString "__static_attributes__") 439), (.ref 193)⟩, ⟨PyData.keyHash P (Str.ofString "__doc__"), (.str (Str.ofString "__doc__") 440), .none⟩] 2) #[]
def o203 (P : Params) : Obj := Obj.mk (.type "type") none (.cls (ClassData.mk (Str.ofString "Only") [(.ref 141)] [(.ref 195), (.ref 141), (.type "object")] 194 (Str.ofString "Only") true [] [] false none false)) #[(some (.ref 172)), none, (some (.str (Str.ofString "Only") 405)), (some (.str (Str.ofString "Only") 413)), (some (.builtin "object.__new__")), (some (.bool true))]
def o204 (P : Params) : Obj := Obj.mk (.type "super") none (.fields #[(.ref 195), (.ref 195), (.ref 195)]) #[]
def o205 (P : Params) : Obj := Obj.mk (.type "builtin_function_or_method") none (.fields #[(.builtin "object.__init_subclass__"), (.ref 195)]) #[]
def o206 (P : Params) : Obj := Obj.mk (.type "dict") none (.dict #[⟨PyData.keyHash P (Str.ofString "__name__"), (.str (Str.ofString "__name__") 165), (.str (Str.ofString "rulerow.least") 512)⟩, ⟨PyData.keyHash P (Str.ofString "__doc__"), (.str (Str.ofString "__doc__") 166), .none⟩, ⟨PyData.keyHash P (Str.ofString "__package__"), (.str (Str.ofString "__package__") 167), .none⟩, ⟨PyData.keyHash P (Str.ofString "__loader__"), (.str (Str.ofString "__loader__") 168), (.builtin "__main__.__loader__#opaque")⟩, ⟨PyData.keyHash P (Str.ofString "__spec__"), (.str (Str.ofString "__spec__") 169), .none⟩, ⟨PyData.keyHash P (Str.ofString "__annotations__"), (.str (Str.ofString "__annotations__") 170), (.ref 6)⟩, ⟨PyData.keyHash P (Str.ofString "__builtins__"), (.str (Str.ofString "__builtins__") 171), (.ref 4)⟩, ⟨PyData.keyHash P (Str.ofString "__file__"), (.str (Str.ofString "__file__") 173), (.str (Str.ofString "/claim/cut.py") 172)⟩, ⟨PyData.keyHash P (Str.ofString "__cached__"), (.str (Str.ofString "__cached__") 174), .none⟩, ⟨PyData.keyHash P (Str.ofString "RuleError"), (.str (Str.ofString "RuleError") 206), (.ref 24)⟩, ⟨PyData.keyHash P (Str.ofString "BadPrime"), (.str (Str.ofString "BadPrime") 222), (.ref 37)⟩, ⟨PyData.keyHash P (Str.ofString "BadRow"), (.str (Str.ofString "BadRow") 238), (.ref 49)⟩, ⟨PyData.keyHash P (Str.ofString "BadRule"), (.str (Str.ofString "BadRule") 254), (.ref 61)⟩, ⟨PyData.keyHash P (Str.ofString "LOWEST_PRIME"), (.str (Str.ofString "LOWEST_PRIME") 258), (.int 2 257)⟩, ⟨PyData.keyHash P (Str.ofString "HIGHEST_PRIME"), (.str (Str.ofString "HIGHEST_PRIME") 260), (.int 997 259)⟩, ⟨PyData.keyHash P (Str.ofString "is_whole"), (.str (Str.ofString "is_whole") 267), (.ref 70)⟩, ⟨PyData.keyHash P (Str.ofString "is_prime"), (.str (Str.ofString "is_prime") 275), (.ref 77)⟩, ⟨PyData.keyHash P (Str.ofString "is_rest"), (.str (Str.ofString "is_rest") 283), (.ref 84)⟩, ⟨PyData.keyHash P (Str.ofString "are_rests"), (.str (Str.ofString "are_rests") 292), (.ref 91)⟩, ⟨PyData.keyHash P (Str.ofString "need_prime"), (.str (Str.ofString "need_prime") 299), (.ref 98)⟩, ⟨PyData.keyHash P (Str.ofString "need_rule"), (.str (Str.ofString "need_rule") 307), (.ref 105)⟩, ⟨PyData.keyHash P (Str.ofString "need_row"), (.str (Str.ofString "need_row") 315), (.ref 112)⟩, ⟨PyData.keyHash P (Str.ofString "inverse"), (.str (Str.ofString "inverse") 326), (.ref 119)⟩, ⟨PyData.keyHash P (Str.ofString "makes"), (.str (Str.ofString "makes") 338), (.ref 126)⟩, ⟨PyData.keyHash P (Str.ofString "due"), (.str (Str.ofString "due") 344), (.ref 131)⟩, ⟨PyData.keyHash P (Str.ofString "Answer"), (.str (Str.ofString "Answer") 366), (.ref 141)⟩, ⟨PyData.keyHash P (Str.ofString "Least"), (.str (Str.ofString "Least") 404), (.ref 169)⟩, ⟨PyData.keyHash P (Str.ofString "Only"), (.str (Str.ofString "Only") 442), (.ref 195)⟩, ⟨PyData.keyHash P (Str.ofString "Another"), (.str (Str.ofString "Another") 482), (.ref 221)⟩, ⟨PyData.keyHash P (Str.ofString "is_sole"), (.str (Str.ofString "is_sole") 490), (.ref 230)⟩, ⟨PyData.keyHash P (Str.ofString "is_least"), (.str (Str.ofString "is_least") 501), (.ref 237)⟩, ⟨PyData.keyHash P (Str.ofString "fails_first_at"), (.str (Str.ofString "fails_first_at") 511), (.ref 244)⟩] 32) #[]
def o207 (P : Params) : Obj := Obj.mk .none none (.fields #[(.int 2 0), (.int 0 0), (.ref 20), (.int 4 0), (.int 0 0), (.ref 33), (.int 6 0), (.int 0 0), (.ref 45), (.int 8 0), (.int 0 0), (.ref 57), (.int 13 0), (.int 0 0), (.ref 69), (.int 15 0), (.int 0 0), (.ref 76), (.int 24 0), (.int 0 0), (.ref 83), (.int 26 0), (.int 0 0), (.ref 90), (.int 33 0), (.int 0 0), (.ref 97), (.int 36 0), (.int 0 0), (.ref 104), (.int 39 0), (.int 0 0), (.ref 111), (.int 42 0), (.int 0 0), (.ref 118), (.int 53 0), (.int 0 0), (.ref 125), (.int 61 0), (.int 0 0), (.ref 130), (.int 65 0), (.int 0 0), (.ref 137), (.int 67 0), (.int 0 0), (.ref 151), (.int 76 0), (.int 0 0), (.ref 177), (.int 85 0), (.int 0 0), (.ref 203), (.int 99 0), (.int 0 0), (.ref 229), (.int 101 0), (.int 0 0), (.ref 236), (.int 111 0), (.int 0 0), (.ref 243)]) #[]
def o208 (P : Params) : Obj := Obj.mk (.type "type") none (.cls (ClassData.mk (Str.ofString "Answer") [(.type "object")] [(.ref 141), (.type "object")] 140 (Str.ofString "Answer") true [] [(.ref 169), (.ref 195), (.ref 221)] false none false)) #[none, none, (some (.str (Str.ofString "Answer") 347)), (some (.str (Str.ofString "Answer") 355)), (some (.builtin "object.__new__")), (some (.bool true))]
def o209 (P : Params) : Obj := Obj.mk (.type "tuple") none (.seq #[(.ref 141)] 0) #[]
def o210 (P : Params) : Obj := Obj.mk (.type "builtin_function_or_method") none (.fields #[(.builtin "type.__prepare__"), (.type "type")]) #[]
def o211 (P : Params) : Obj := Obj.mk (.type "dict") none (.dict #[⟨PyData.keyHash P (Str.ofString "__module__"), (.str (Str.ofString "__module__") 450), (.str (Str.ofString "rulerow.answers") 345)⟩, ⟨PyData.keyHash P (Str.ofString "__qualname__"), (.str (Str.ofString "__qualname__") 452), (.str (Str.ofString "Another") 451)⟩, ⟨PyData.keyHash P (Str.ofString "__firstlineno__"), (.str (Str.ofString "__firstlineno__") 454), (.int 85 453)⟩, ⟨PyData.keyHash P (Str.ofString "__init__"), (.str (Str.ofString "__init__") 465), (.ref 211)⟩, ⟨PyData.keyHash P (Str.ofString "shows"), (.str (Str.ofString "shows") 474), (.ref 218)⟩, ⟨PyData.keyHash P (Str.ofString "__static_attributes__"), (.str (Str.ofString "__static_attributes__") 479), (.ref 219)⟩] 6) #[]
def o212 (P : Params) : Obj := Obj.mk (.type "tuple") none (.seq #[] 0) #[]
def o213 (P : Params) : Obj := Obj.mk .none none (.fields #[(.int 87 0), (.int 4 0), (.ref 210), (.int 93 0), (.int 4 0), (.ref 217)]) #[]
def o214 (P : Params) : Obj := Obj.mk (.type "code") none (.fields #[(.str (Str.ofString "Another") 445), (.str (Str.ofString "Another") 446), (.str (Str.ofString "/claim/cut.py") 447), (.int 85 0), (.int 0 0), (.int 0 0), (.int 0 0), (.int 0 0), (.ref 201), (.bool false), (.int 181 0), (.ref 202), .none, .none, .none, .none, (.int 448 0), (.int 85 0), (.str (Str.ofString "/claim/cut.py") 449)]) #[]
def o215 (P : Params) : Obj := Obj.mk (.type "frame") none .plain #[(some (.ref 203)), (some (.ref 3)), (some (.ref 200)), none, (some (.str (Str.ofString "rulerow.answers") 345)), none, (some (.ref 0))]
def o216 (P : Params) : Obj := Obj.mk (.type "tuple") none (.seq #[] 0) #[]
def o217 (P : Params) : Obj := Obj.mk .none none (.fields #[]) #[]
def o218 (P : Params) : Obj := Obj.mk (.type "tuple") none (.seq #[(.str (Str.ofString "self") 458), (.str (Str.ofString "one") 459), (.str (Str.ofString "other") 460), (.str (Str.ofString "shorter") 461), (.str (Str.ofString "place") 462)] 0) #[]
def o219 (P : Params) : Obj := Obj.mk (.type "tuple") none (.seq #[] 0) #[]
def o220 (P : Params) : Obj := Obj.mk .none none (.func (FuncData.mk (Str.ofString "__init__") (Str.ofString "Another.__init__") (defArgs (inClass (top 23) 0)) (.stmts (defBody (inClass (top 23) 0))) (defScope (inClass (top 23) 0)) 0 [] .none .none .none .none none .none .none 0)) #[]
def o221 (P : Params) : Obj := Obj.mk (.type "code") none (.fields #[(.str (Str.ofString "__init__") 455), (.str (Str.ofString "Another.__init__") 456), (.str (Str.ofString "/claim/cut.py") 457), (.int 87 0), (.int 5 0), (.int 0 0), (.int 0 0), (.int 3 0), (.ref 205), (.bool true), (.int 181 0), (.ref 206), .none, (.ref 207), (.ref 208), (.ref 209), (.int 463 0), (.int 87 0), (.str (Str.ofString "/claim/cut.py") 464)]) #[]
def o222 (P : Params) : Obj := Obj.mk (.type "function") none (.func (fnOf (Str.ofString "__init__") (Str.ofString "Another.__init__") (defArgs (inClass (top 23) 0)) (defBody (inClass (top 23) 0)) (defScope (inClass (top 23) 0)) .none .none .none (.str (Str.ofString "rulerow.answers") 345) none (.ref 210) .none)) #[]
def o223 (P : Params) : Obj := Obj.mk (.type "tuple") none (.seq #[] 0) #[]
def o224 (P : Params) : Obj := Obj.mk .none none (.fields #[]) #[]
def o225 (P : Params) : Obj := Obj.mk (.type "tuple") none (.seq #[(.str (Str.ofString "self") 469), (.str (Str.ofString "prime") 470), (.str (Str.ofString "row") 471)] 0) #[]
def o226 (P : Params) : Obj := Obj.mk (.type "tuple") none (.seq #[] 0) #[]
def o227 (P : Params) : Obj := Obj.mk .none none (.func (FuncData.mk (Str.ofString "shows") (Str.ofString "Another.shows") (defArgs (inClass (top 23) 1)) (.stmts (defBody (inClass (top 23) 1))) (defScope (inClass (top 23) 1)) 0 [] .none .none .none .none none .none .none 0)) #[]
def o228 (P : Params) : Obj := Obj.mk (.type "code") none (.fields #[(.str (Str.ofString "shows") 466), (.str (Str.ofString "Another.shows") 467), (.str (Str.ofString "/claim/cut.py") 468), (.int 93 0), (.int 3 0), (.int 0 0), (.int 0 0), (.int 3 0), (.ref 212), (.bool true), (.int 181 0), (.ref 213), .none, (.ref 214), (.ref 215), (.ref 216), (.int 472 0), (.int 93 0), (.str (Str.ofString "/claim/cut.py") 473)]) #[]
def o229 (P : Params) : Obj := Obj.mk (.type "function") none (.func (fnOf (Str.ofString "shows") (Str.ofString "Another.shows") (defArgs (inClass (top 23) 1)) (defBody (inClass (top 23) 1)) (defScope (inClass (top 23) 1)) .none .none .none (.str (Str.ofString "rulerow.answers") 345) none (.ref 217) .none)) #[]
def o230 (P : Params) : Obj := Obj.mk (.type "tuple") none (.seq #[(.str (Str.ofString "one") 475), (.str (Str.ofString "other") 476), (.str (Str.ofString "place") 477), (.str (Str.ofString "shorter") 478)] 0) #[]
def o231 (P : Params) : Obj := Obj.mk (.type "dict") none (.dict #[⟨PyData.keyHash P (Str.ofString "__module__"), (.str (Str.ofString "__module__") 450), (.str (Str.ofString "rulerow.answers") 345)⟩, ⟨PyData.keyHash P (Str.ofString "__firstlineno__"), (.str (Str.ofString "__firstlineno__") 454), (.int 85 453)⟩, ⟨PyData.keyHash P (Str.ofString "__init__"), (.str (Str.ofString "__init__") 465), (.ref 211)⟩, ⟨PyData.keyHash P (Str.ofString "shows"), (.str (Str.ofString "shows") 474), (.ref 218)⟩, ⟨PyData.keyHash P (Str.ofString "__static_attributes__"), (.str (Str.ofString "__static_attributes__") 479), (.ref 219)⟩, ⟨PyData.keyHash P (Str.ofString "__doc__"), (.str (Str.ofString "__doc__") 480), .none⟩] 2) #[]
def o232 (P : Params) : Obj := Obj.mk (.type "type") none (.cls (ClassData.mk (Str.ofString "Another") [(.ref 141)] [(.ref 221), (.ref 141), (.type "object")] 220 (Str.ofString "Another") true [] [] false none false)) #[(some (.ref 198)), none, (some (.str (Str.ofString "Another") 443)), (some (.str (Str.ofString "Another") 451)), (some (.builtin "object.__new__")), (some (.bool true))]
def o233 (P : Params) : Obj := Obj.mk (.type "super") none (.fields #[(.ref 221), (.ref 221), (.ref 221)]) #[]
def o234 (P : Params) : Obj := Obj.mk (.type "builtin_function_or_method") none (.fields #[(.builtin "object.__init_subclass__"), (.ref 221)]) #[]
def o235 (P : Params) : Obj := Obj.mk (.type "tuple") none (.seq #[] 0) #[]
def o236 (P : Params) : Obj := Obj.mk .none none (.fields #[]) #[]
def o237 (P : Params) : Obj := Obj.mk (.type "tuple") none (.seq #[(.str (Str.ofString "rule") 486), (.str (Str.ofString "row") 487)] 0) #[]
def o238 (P : Params) : Obj := Obj.mk (.type "tuple") none (.seq #[] 0) #[]
def o239 (P : Params) : Obj := Obj.mk .none none (.func (FuncData.mk (Str.ofString "is_sole") (Str.ofString "is_sole") (defArgs (top 24)) (.stmts (defBody (top 24))) (defScope (top 24)) 0 [] .none .none .none .none none .none .none 0)) #[]
def o240 (P : Params) : Obj := Obj.mk (.type "code") none (.fields #[(.str (Str.ofString "is_sole") 483), (.str (Str.ofString "is_sole") 484), (.str (Str.ofString "/claim/cut.py") 485), (.int 99 0), (.int 2 0), (.int 0 0), (.int 0 0), (.int 3 0), (.ref 224), (.bool true), (.int 181 0), (.ref 225), .none, (.ref 226), (.ref 227), (.ref 228), (.int 488 0), (.int 99 0), (.str (Str.ofString "/claim/cut.py") 489)]) #[]
def o241 (P : Params) : Obj := Obj.mk (.type "function") none (.func (fnOf (Str.ofString "is_sole") (Str.ofString "is_sole") (defArgs (top 24)) (defBody (top 24)) (defScope (top 24)) .none .none .none (.str (Str.ofString "rulerow.answers") 345) none (.ref 229) .none)) #[]
def o242 (P : Params) : Obj := Obj.mk (.type "tuple") none (.seq #[] 0) #[]
def o243 (P : Params) : Obj := Obj.mk .none none (.fields #[]) #[]
def o244 (P : Params) : Obj := Obj.mk (.type "tuple") none (.seq #[(.str (Str.ofString "prime") 494), (.str (Str.ofString "row") 495), (.str (Str.ofString "rule") 496), (.str (Str.ofString "shorter") 497), (.str (Str.ofString "place") 498)] 0) #[]
def o245 (P : Params) : Obj := Obj.mk (.type "tuple") none (.seq #[] 0) #[]
def o246 (P : Params) : Obj := Obj.mk .none none (.func (FuncData.mk (Str.ofString "is_least") (Str.ofString "is_least") (defArgs (top 25)) (.stmts (defBody (top 25))) (defScope (top 25)) 0 [] .none .none .none .none none .none .none 0)) #[]
def o247 (P : Params) : Obj := Obj.mk (.type "code") none (.fields #[(.str (Str.ofString "is_least") 491), (.str (Str.ofString "is_least") 492), (.str (Str.ofString "/claim/cut.py") 493), (.int 101 0), (.int 5 0), (.int 0 0), (.int 0 0), (.int 3 0), (.ref 231), (.bool true), (.int 181 0), (.ref 232), .none, (.ref 233), (.ref 234), (.ref 235), (.int 499 0), (.int 101 0), (.str (Str.ofString "/claim/cut.py") 500)]) #[]
def o248 (P : Params) : Obj := Obj.mk (.type "function") none (.func (fnOf (Str.ofString "is_least") (Str.ofString "is_least") (defArgs (top 25)) (defBody (top 25)) (defScope (top 25)) .none .none .none (.str (Str.ofString "rulerow.answers") 345) none (.ref 236) .none)) #[]
def o249 (P : Params) : Obj := Obj.mk (.type "tuple") none (.seq #[] 0) #[]
def o250 (P : Params) : Obj := Obj.mk .none none (.fields #[]) #[]
def o251 (P : Params) : Obj := Obj.mk (.type "tuple") none (.seq #[(.str (Str.ofString "prime") 505), (.str (Str.ofString "rule") 506), (.str (Str.ofString "row") 507), (.str (Str.ofString "place") 508)] 0) #[]
def o252 (P : Params) : Obj := Obj.mk (.type "tuple") none (.seq #[] 0) #[]
def o253 (P : Params) : Obj := Obj.mk .none none (.func (FuncData.mk (Str.ofString "fails_first_at") (Str.ofString "fails_first_at") (defArgs (top 26)) (.stmts (defBody (top 26))) (defScope (top 26)) 0 [] .none .none .none .none none .none .none 0)) #[]
def o254 (P : Params) : Obj := Obj.mk (.type "code") none (.fields #[(.str (Str.ofString "fails_first_at") 502), (.str (Str.ofString "fails_first_at") 503), (.str (Str.ofString "/claim/cut.py") 504), (.int 111 0), (.int 4 0), (.int 0 0), (.int 0 0), (.int 3 0), (.ref 238), (.bool true), (.int 181 0), (.ref 239), .none, (.ref 240), (.ref 241), (.ref 242), (.int 509 0), (.int 111 0), (.str (Str.ofString "/claim/cut.py") 510)]) #[]
def o255 (P : Params) : Obj := Obj.mk (.type "function") none (.func (fnOf (Str.ofString "fails_first_at") (Str.ofString "fails_first_at") (defArgs (top 26)) (defBody (top 26)) (defScope (top 26)) .none .none .none (.str (Str.ofString "rulerow.answers") 345) none (.ref 243) .none)) #[]
def o256 (P : Params) : Obj := Obj.mk (.type "dict") none (.dict #[⟨PyData.keyHash P (Str.ofString "__name__"), (.str (Str.ofString "__name__") 165), (.str (Str.ofString "law_rulerow_k05_answers_by_hand") 557)⟩, ⟨PyData.keyHash P (Str.ofString "__doc__"), (.str (Str.ofString "__doc__") 166), .none⟩, ⟨PyData.keyHash P (Str.ofString "__package__"), (.str (Str.ofString "__package__") 167), .none⟩, ⟨PyData.keyHash P (Str.ofString "__loader__"), (.str (Str.ofString "__loader__") 168), (.builtin "__main__.__loader__#opaque")⟩, ⟨PyData.keyHash P (Str.ofString "__spec__"), (.str (Str.ofString "__spec__") 169), .none⟩, ⟨PyData.keyHash P (Str.ofString "__annotations__"), (.str (Str.ofString "__annotations__") 170), (.ref 6)⟩, ⟨PyData.keyHash P (Str.ofString "__builtins__"), (.str (Str.ofString "__builtins__") 171), (.ref 4)⟩, ⟨PyData.keyHash P (Str.ofString "__file__"), (.str (Str.ofString "__file__") 173), (.str (Str.ofString "/claim/cut.py") 172)⟩, ⟨PyData.keyHash P (Str.ofString "__cached__"), (.str (Str.ofString "__cached__") 174), .none⟩, ⟨PyData.keyHash P (Str.ofString "RuleError"), (.str (Str.ofString "RuleError") 206), (.ref 24)⟩, ⟨PyData.keyHash P (Str.ofString "BadPrime"), (.str (Str.ofString "BadPrime") 222), (.ref 37)⟩, ⟨PyData.keyHash P (Str.ofString "BadRow"), (.str (Str.ofString "BadRow") 238), (.ref 49)⟩, ⟨PyData.keyHash P (Str.ofString "BadRule"), (.str (Str.ofString "BadRule") 254), (.ref 61)⟩, ⟨PyData.keyHash P (Str.ofString "LOWEST_PRIME"), (.str (Str.ofString "LOWEST_PRIME") 258), (.int 2 257)⟩, ⟨PyData.keyHash P (Str.ofString "HIGHEST_PRIME"), (.str (Str.ofString "HIGHEST_PRIME") 260), (.int 997 259)⟩, ⟨PyData.keyHash P (Str.ofString "is_whole"), (.str (Str.ofString "is_whole") 267), (.ref 70)⟩, ⟨PyData.keyHash P (Str.ofString "is_prime"), (.str (Str.ofString "is_prime") 275), (.ref 77)⟩, ⟨PyData.keyHash P (Str.ofString "is_rest"), (.str (Str.ofString "is_rest") 283), (.ref 84)⟩, ⟨PyData.keyHash P (Str.ofString "are_rests"), (.str (Str.ofString "are_rests") 292), (.ref 91)⟩, ⟨PyData.keyHash P (Str.ofString "need_prime"), (.str (Str.ofString "need_prime") 299), (.ref 98)⟩, ⟨PyData.keyHash P (Str.ofString "need_rule"), (.str (Str.ofString "need_rule") 307), (.ref 105)⟩, ⟨PyData.keyHash P (Str.ofString "need_row"), (.str (Str.ofString "need_row") 315), (.ref 112)⟩, ⟨PyData.keyHash P (Str.ofString "inverse"), (.str (Str.ofString "inverse") 326), (.ref 119)⟩, ⟨PyData.keyHash P (Str.ofString "makes"), (.str (Str.ofString "makes") 338), (.ref 126)⟩, ⟨PyData.keyHash P (Str.ofString "due"), (.str (Str.ofString "due") 344), (.ref 131)⟩, ⟨PyData.keyHash P (Str.ofString "Answer"), (.str (Str.ofString "Answer") 366), (.ref 141)⟩, ⟨PyData.keyHash P (Str.ofString "Least"), (.str (Str.ofString "Least") 404), (.ref 169)⟩, ⟨PyData.keyHash P (Str.ofString "Only"), (.str (Str.ofString "Only") 442), (.ref 195)⟩, ⟨PyData.keyHash P (Str.ofString "Another"), (.str (Str.ofString "Another") 482), (.ref 221)⟩, ⟨PyData.keyHash P (Str.ofString "is_sole"), (.str (Str.ofString "is_sole") 490), (.ref 230)⟩, ⟨PyData.keyHash P (Str.ofString "is_least"), (.str (Str.ofString "is_least") 501), (.ref 237)⟩, ⟨PyData.keyHash P (Str.ofString "fails_first_at"), (.str (Str.ofString "fails_first_at") 511), (.ref 244)⟩, ⟨PyData.keyHash P (Str.ofString "least"), (.str (Str.ofString "least") 530), (.ref 251)⟩, ⟨PyData.keyHash P (Str.ofString "unlike"), (.str (Str.ofString "unlike") 541), (.ref 258)⟩, ⟨PyData.keyHash P (Str.ofString "mixed"), (.str (Str.ofString "mixed") 556), (.ref 265)⟩, ⟨PyData.keyHash P (Str.ofString "_law_cell_at"), (.str (Str.ofString "_law_cell_at") 566), (.ref 272)⟩, ⟨PyData.keyHash P (Str.ofString "_law_draw"), (.str (Str.ofString "_law_draw") 576), (.ref 279)⟩, ⟨PyData.keyHash P (Str.ofString "_law_prime"), (.str (Str.ofString "_law_prime") 583), (.ref 286)⟩, ⟨PyData.keyHash P (Str.ofString "_law_rests"), (.str (Str.ofString "_law_rests") 589), (.ref 291)⟩, ⟨PyData.keyHash P (Str.ofString "_law_row"), (.str (Str.ofString "_law_row") 595), (.ref 296)⟩, ⟨PyData.keyHash P (Str.ofString "_law_due"), (.str (Str.ofString "_law_due") 601), (.ref 301)⟩, ⟨PyData.keyHash P (Str.ofString "_law_made"), (.str (Str.ofString "_law_made") 607), (.ref 306)⟩, ⟨PyData.keyHash P (Str.ofString "_law_rested"), (.str (Str.ofString "_law_rested") 613), (.ref 311)⟩, ⟨PyData.keyHash P (Str.ofString "_law_least"), (.str (Str.ofString "_law_least") 624), (.ref 318)⟩] 44) #[]
def o257 (P : Params) : Obj := Obj.mk .none none (.fields #[(.int 2 0), (.int 0 0), (.ref 20), (.int 4 0), (.int 0 0), (.ref 33), (.int 6 0), (.int 0 0), (.ref 45), (.int 8 0), (.int 0 0), (.ref 57), (.int 13 0), (.int 0 0), (.ref 69), (.int 15 0), (.int 0 0), (.ref 76), (.int 24 0), (.int 0 0), (.ref 83), (.int 26 0), (.int 0 0), (.ref 90), (.int 33 0), (.int 0 0), (.ref 97), (.int 36 0), (.int 0 0), (.ref 104), (.int 39 0), (.int 0 0), (.ref 111), (.int 42 0), (.int 0 0), (.ref 118), (.int 53 0), (.int 0 0), (.ref 125), (.int 61 0), (.int 0 0), (.ref 130), (.int 65 0), (.int 0 0), (.ref 137), (.int 67 0), (.int 0 0), (.ref 151), (.int 76 0), (.int 0 0), (.ref 177), (.int 85 0), (.int 0 0), (.ref 203), (.int 99 0), (.int 0 0), (.ref 229), (.int 101 0), (.int 0 0), (.ref 236), (.int 111 0), (.int 0 0), (.ref 243), (.int 116 0), (.int 0 0), (.ref 250), (.int 135 0), (.int 0 0), (.ref 257), (.int 142 0), (.int 0 0), (.ref 264), (.int 150 0), (.int 0 0), (.ref 271), (.int 154 0), (.int 0 0), (.ref 278), (.int 157 0), (.int 0 0), (.ref 285), (.int 159 0), (.int 0 0), (.ref 290), (.int 161 0), (.int 0 0), (.ref 295), (.int 171 0), (.int 0 0), (.ref 300), (.int 173 0), (.int 0 0), (.ref 305), (.int 175 0), (.int 0 0), (.ref 310), (.int 179 0), (.int 0 0), (.ref 317)]) #[]
def o258 (P : Params) : Obj := Obj.mk (.type "tuple") none (.seq #[] 0) #[]
def o259 (P : Params) : Obj := Obj.mk .none none (.fields #[]) #[]
def o260 (P : Params) : Obj := Obj.mk (.type "tuple") none (.seq #[(.str (Str.ofString "prime") 517), (.str (Str.ofString "row") 518), (.str (Str.ofString "rule") 519), (.str (Str.ofString "shorter") 520), (.str (Str.ofString "place") 521), (.str (Str.ofString "miss") 522), (.str (Str.ofString "here") 523), (.str (Str.ofString "number") 524), (.str (Str.ofString "lack") 525), (.str (Str.ofString "share") 526), (.str (Str.ofString "mended") 527)] 0) #[]
def o261 (P : Params) : Obj := Obj.mk (.type "tuple") none (.seq #[] 0) #[]
def o262 (P : Params) : Obj := Obj.mk .none none (.func (FuncData.mk (Str.ofString "least") (Str.ofString "least") (defArgs (top 28)) (.stmts (defBody (top 28))) (defScope (top 28)) 0 [] .none .none .none .none none .none .none 0)) #[]
def o263 (P : Params) : Obj := Obj.mk (.type "code") none (.fields #[(.str (Str.ofString "least") 514), (.str (Str.ofString "least") 515), (.str (Str.ofString "/claim/cut.py") 516), (.int 116 0), (.int 2 0), (.int 0 0), (.int 0 0), (.int 3 0), (.ref 245), (.bool true), (.int 181 0), (.ref 246), .none, (.ref 247), (.ref 248), (.ref 249), (.int 528 0), (.int 116 0), (.str (Str.ofString "/claim/cut.py") 529)]) #[]
def o264 (P : Params) : Obj := Obj.mk (.type "function") none (.func (fnOf (Str.ofString "least") (Str.ofString "least") (defArgs (top 28)) (defBody (top 28)) (defScope (top 28)) .none .none .none (.str (Str.ofString "rulerow.least") 512) none (.ref 250) .none)) #[]
def o265 (P : Params) : Obj := Obj.mk (.type "tuple") none (.seq #[] 0) #[]
def o266 (P : Params) : Obj := Obj.mk .none none (.fields #[]) #[]
def o267 (P : Params) : Obj := Obj.mk (.type "tuple") none (.seq #[(.str (Str.ofString "prime") 534), (.str (Str.ofString "row") 535), (.str (Str.ofString "found") 536), (.str (Str.ofString "shift") 537), (.str (Str.ofString "other") 538)] 0) #[]
def o268 (P : Params) : Obj := Obj.mk (.type "tuple") none (.seq #[] 0) #[]
def o269 (P : Params) : Obj := Obj.mk .none none (.func (FuncData.mk (Str.ofString "unlike") (Str.ofString "unlike") (defArgs (top 29)) (.stmts (defBody (top 29))) (defScope (top 29)) 0 [] .none .none .none .none none .none .none 0)) #[]
def o270 (P : Params) : Obj := Obj.mk (.type "code") none (.fields #[(.str (Str.ofString "unlike") 531), (.str (Str.ofString "unlike") 532), (.str (Str.ofString "/claim/cut.py") 533), (.int 135 0), (.int 2 0), (.int 0 0), (.int 0 0), (.int 3 0), (.ref 252), (.bool true), (.int 181 0), (.ref 253), .none, (.ref 254), (.ref 255), (.ref 256), (.int 539 0), (.int 135 0), (.str (Str.ofString "/claim/cut.py") 540)]) #[]
def o271 (P : Params) : Obj := Obj.mk (.type "function") none (.func (fnOf (Str.ofString "unlike") (Str.ofString "unlike") (defArgs (top 29)) (defBody (top 29)) (defScope (top 29)) .none .none .none (.str (Str.ofString "rulerow.least") 512) none (.ref 257) .none)) #[]
def o272 (P : Params) : Obj := Obj.mk (.type "tuple") none (.seq #[] 0) #[]
def o273 (P : Params) : Obj := Obj.mk .none none (.fields #[]) #[]
def o274 (P : Params) : Obj := Obj.mk (.type "tuple") none (.seq #[(.str (Str.ofString "prime") 545), (.str (Str.ofString "rule") 546), (.str (Str.ofString "shorter") 547), (.str (Str.ofString "shift") 548), (.str (Str.ofString "share") 549), (.str (Str.ofString "length") 550), (.str (Str.ofString "told") 551), (.str (Str.ofString "back") 552), (.str (Str.ofString "rest") 553)] 0) #[]
def o275 (P : Params) : Obj := Obj.mk (.type "tuple") none (.seq #[] 0) #[]
def o276 (P : Params) : Obj := Obj.mk .none none (.func (FuncData.mk (Str.ofString "mixed") (Str.ofString "mixed") (defArgs (top 30)) (.stmts (defBody (top 30))) (defScope (top 30)) 0 [] .none .none .none .none none .none .none 0)) #[]
def o277 (P : Params) : Obj := Obj.mk (.type "code") none (.fields #[(.str (Str.ofString "mixed") 542), (.str (Str.ofString "mixed") 543), (.str (Str.ofString "/claim/cut.py") 544), (.int 142 0), (.int 5 0), (.int 0 0), (.int 0 0), (.int 3 0), (.ref 259), (.bool true), (.int 181 0), (.ref 260), .none, (.ref 261), (.ref 262), (.ref 263), (.int 554 0), (.int 142 0), (.str (Str.ofString "/claim/cut.py") 555)]) #[]
def o278 (P : Params) : Obj := Obj.mk (.type "function") none (.func (fnOf (Str.ofString "mixed") (Str.ofString "mixed") (defArgs (top 30)) (defBody (top 30)) (defScope (top 30)) .none .none .none (.str (Str.ofString "rulerow.least") 512) none (.ref 264) .none)) #[]
def o279 (P : Params) : Obj := Obj.mk (.type "tuple") none (.seq #[] 0) #[]
def o280 (P : Params) : Obj := Obj.mk .none none (.fields #[]) #[]
def o281 (P : Params) : Obj := Obj.mk (.type "tuple") none (.seq #[(.str (Str.ofString "_law_script") 562), (.str (Str.ofString "_law_k") 563)] 0) #[]
def o282 (P : Params) : Obj := Obj.mk (.type "tuple") none (.seq #[] 0) #[]
def o283 (P : Params) : Obj := Obj.mk .none none (.func (FuncData.mk (Str.ofString "_law_cell_at") (Str.ofString "_law_cell_at") (defArgs (top 32)) (.stmts (defBody (top 32))) (defScope (top 32)) 0 [] .none .none .none .none none .none .none 0)) #[]
def o284 (P : Params) : Obj := Obj.mk (.type "code") none (.fields #[(.str (Str.ofString "_law_cell_at") 559), (.str (Str.ofString "_law_cell_at") 560), (.str (Str.ofString "/claim/cut.py") 561), (.int 150 0), (.int 2 0), (.int 0 0), (.int 0 0), (.int 3 0), (.ref 266), (.bool true), (.int 181 0), (.ref 267), .none, (.ref 268), (.ref 269), (.ref 270), (.int 564 0), (.int 150 0), (.str (Str.ofString "/claim/cut.py") 565)]) #[]
def o285 (P : Params) : Obj := Obj.mk (.type "function") none (.func (fnOf (Str.ofString "_law_cell_at") (Str.ofString "_law_cell_at") (defArgs (top 32)) (defBody (top 32)) (defScope (top 32)) .none .none .none (.str (Str.ofString "law_rulerow_k05_answers_by_hand") 557) none (.ref 271) .none)) #[]
def o286 (P : Params) : Obj := Obj.mk (.type "tuple") none (.seq #[] 0) #[]
def o287 (P : Params) : Obj := Obj.mk .none none (.fields #[]) #[]
def o288 (P : Params) : Obj := Obj.mk (.type "tuple") none (.seq #[(.str (Str.ofString "_law_cell") 570), (.str (Str.ofString "_law_k") 571), (.str (Str.ofString "_law_many") 572), (.str (Str.ofString "_law_primes") 573)] 0) #[]
def o289 (P : Params) : Obj := Obj.mk (.type "tuple") none (.seq #[] 0) #[]
def o290 (P : Params) : Obj := Obj.mk .none none (.func (FuncData.mk (Str.ofString "_law_draw") (Str.ofString "_law_draw") (defArgs (top 33)) (.stmts (defBody (top 33))) (defScope (top 33)) 0 [] .none .none .none .none none .none .none 0)) #[]
def o291 (P : Params) : Obj := Obj.mk (.type "code") none (.fields #[(.str (Str.ofString "_law_draw") 567), (.str (Str.ofString "_law_draw") 568), (.str (Str.ofString "/claim/cut.py") 569), (.int 154 0), (.int 3 0), (.int 0 0), (.int 0 0), (.int 3 0), (.ref 273), (.bool true), (.int 181 0), (.ref 274), .none, (.ref 275), (.ref 276), (.ref 277), (.int 574 0), (.int 154 0), (.str (Str.ofString "/claim/cut.py") 575)]) #[]
def o292 (P : Params) : Obj := Obj.mk (.type "function") none (.func (fnOf (Str.ofString "_law_draw") (Str.ofString "_law_draw") (defArgs (top 33)) (defBody (top 33)) (defScope (top 33)) .none .none .none (.str (Str.ofString "law_rulerow_k05_answers_by_hand") 557) none (.ref 278) .none)) #[]
def o293 (P : Params) : Obj := Obj.mk (.type "tuple") none (.seq #[] 0) #[]
def o294 (P : Params) : Obj := Obj.mk .none none (.fields #[]) #[]
def o295 (P : Params) : Obj := Obj.mk (.type "tuple") none (.seq #[(.str (Str.ofString "_law_script") 580)] 0) #[]
def o296 (P : Params) : Obj := Obj.mk (.type "tuple") none (.seq #[] 0) #[]
def o297 (P : Params) : Obj := Obj.mk .none none (.func (FuncData.mk (Str.ofString "_law_prime") (Str.ofString "_law_prime") (defArgs (top 34)) (.stmts (defBody (top 34))) (defScope (top 34)) 0 [] .none .none .none .none none .none .none 0)) #[]
def o298 (P : Params) : Obj := Obj.mk (.type "code") none (.fields #[(.str (Str.ofString "_law_prime") 577), (.str (Str.ofString "_law_prime") 578), (.str (Str.ofString "/claim/cut.py") 579), (.int 157 0), (.int 1 0), (.int 0 0), (.int 0 0), (.int 3 0), (.ref 280), (.bool true), (.int 181 0), (.ref 281), .none, (.ref 282), (.ref 283), (.ref 284), (.int 581 0), (.int 157 0), (.str (Str.ofString "/claim/cut.py") 582)]) #[]
def o299 (P : Params) : Obj := Obj.mk (.type "function") none (.func (fnOf (Str.ofString "_law_prime") (Str.ofString "_law_prime") (defArgs (top 34)) (defBody (top 34)) (defScope (top 34)) .none .none .none (.str (Str.ofString "law_rulerow_k05_answers_by_hand") 557) none (.ref 285) .none)) #[]
def o300 (P : Params) : Obj := Obj.mk (.type "tuple") none (.seq #[] 0) #[]
def o301 (P : Params) : Obj := Obj.mk .none none (.fields #[]) #[]
def o302 (P : Params) : Obj := Obj.mk .none none (.func (FuncData.mk (Str.ofString "_law_rests") (Str.ofString "_law_rests") (defArgs (top 35)) (.stmts (defBody (top 35))) (defScope (top 35)) 0 [] .none .none .none .none none .none .none 0)) #[]
def o303 (P : Params) : Obj := Obj.mk (.type "code") none (.fields #[(.str (Str.ofString "_law_rests") 584), (.str (Str.ofString "_law_rests") 585), (.str (Str.ofString "/claim/cut.py") 586), (.int 159 0), (.int 4 0), (.int 0 0), (.int 0 0), (.int 3 0), (.ref 287), (.bool true), (.int 181 0), (.ref 288), .none, .none, .none, (.ref 289), (.int 587 0), (.int 159 0), (.str (Str.ofString "/claim/cut.py") 588)]) #[]
def o304 (P : Params) : Obj := Obj.mk (.type "function") none (.func (fnOf (Str.ofString "_law_rests") (Str.ofString "_law_rests") (defArgs (top 35)) (defBody (top 35)) (defScope (top 35)) .none .none .none (.str (Str.ofString "law_rulerow_k05_answers_by_hand") 557) none (.ref 290) .none)) #[]
def o305 (P : Params) : Obj := Obj.mk (.type "tuple") none (.seq #[] 0) #[]
def o306 (P : Params) : Obj := Obj.mk .none none (.fields #[]) #[]
def o307 (P : Params) : Obj := Obj.mk .none none (.func (FuncData.mk (Str.ofString "_law_row") (Str.ofString "_law_row") (defArgs (top 36)) (.stmts (defBody (top 36))) (defScope (top 36)) 0 [] .none .none .none .none none .none .none 0)) #[]
def o308 (P : Params) : Obj := Obj.mk (.type "code") none (.fields #[(.str (Str.ofString "_law_row") 590), (.str (Str.ofString "_law_row") 591), (.str (Str.ofString "/claim/cut.py") 592), (.int 161 0), (.int 2 0), (.int 0 0), (.int 0 0), (.int 3 0), (.ref 292), (.bool true), (.int 181 0), (.ref 293), .none, .none, .none, (.ref 294), (.int 593 0), (.int 161 0), (.str (Str.ofString "/claim/cut.py") 594)]) #[]
def o309 (P : Params) : Obj := Obj.mk (.type "function") none (.func (fnOf (Str.ofString "_law_row") (Str.ofString "_law_row") (defArgs (top 36)) (defBody (top 36)) (defScope (top 36)) .none .none .none (.str (Str.ofString "law_rulerow_k05_answers_by_hand") 557) none (.ref 295) .none)) #[]
def o310 (P : Params) : Obj := Obj.mk (.type "tuple") none (.seq #[] 0) #[]
def o311 (P : Params) : Obj := Obj.mk .none none (.fields #[]) #[]
def o312 (P : Params) : Obj := Obj.mk .none none (.func (FuncData.mk (Str.ofString "_law_due") (Str.ofString "_law_due") (defArgs (top 37)) (.stmts (defBody (top 37))) (defScope (top 37)) 0 [] .none .none .none .none none .none .none 0)) #[]
def o313 (P : Params) : Obj := Obj.mk (.type "code") none (.fields #[(.str (Str.ofString "_law_due") 596), (.str (Str.ofString "_law_due") 597), (.str (Str.ofString "/claim/cut.py") 598), (.int 171 0), (.int 4 0), (.int 0 0), (.int 0 0), (.int 3 0), (.ref 297), (.bool true), (.int 181 0), (.ref 298), .none, .none, .none, (.ref 299), (.int 599 0), (.int 171 0), (.str (Str.ofString "/claim/cut.py") 600)]) #[]
def o314 (P : Params) : Obj := Obj.mk (.type "function") none (.func (fnOf (Str.ofString "_law_due") (Str.ofString "_law_due") (defArgs (top 37)) (defBody (top 37)) (defScope (top 37)) .none .none .none (.str (Str.ofString "law_rulerow_k05_answers_by_hand") 557) none (.ref 300) .none)) #[]
def o315 (P : Params) : Obj := Obj.mk (.type "tuple") none (.seq #[] 0) #[]
def o316 (P : Params) : Obj := Obj.mk .none none (.fields #[]) #[]
def o317 (P : Params) : Obj := Obj.mk .none none (.func (FuncData.mk (Str.ofString "_law_made") (Str.ofString "_law_made") (defArgs (top 38)) (.stmts (defBody (top 38))) (defScope (top 38)) 0 [] .none .none .none .none none .none .none 0)) #[]
def o318 (P : Params) : Obj := Obj.mk (.type "code") none (.fields #[(.str (Str.ofString "_law_made") 602), (.str (Str.ofString "_law_made") 603), (.str (Str.ofString "/claim/cut.py") 604), (.int 173 0), (.int 3 0), (.int 0 0), (.int 0 0), (.int 3 0), (.ref 302), (.bool true), (.int 181 0), (.ref 303), .none, .none, .none, (.ref 304), (.int 605 0), (.int 173 0), (.str (Str.ofString "/claim/cut.py") 606)]) #[]
def o319 (P : Params) : Obj := Obj.mk (.type "function") none (.func (fnOf (Str.ofString "_law_made") (Str.ofString "_law_made") (defArgs (top 38)) (defBody (top 38)) (defScope (top 38)) .none .none .none (.str (Str.ofString "law_rulerow_k05_answers_by_hand") 557) none (.ref 305) .none)) #[]
def o320 (P : Params) : Obj := Obj.mk (.type "tuple") none (.seq #[] 0) #[]
def o321 (P : Params) : Obj := Obj.mk .none none (.fields #[]) #[]
def o322 (P : Params) : Obj := Obj.mk .none none (.func (FuncData.mk (Str.ofString "_law_rested") (Str.ofString "_law_rested") (defArgs (top 39)) (.stmts (defBody (top 39))) (defScope (top 39)) 0 [] .none .none .none .none none .none .none 0)) #[]
def o323 (P : Params) : Obj := Obj.mk (.type "code") none (.fields #[(.str (Str.ofString "_law_rested") 608), (.str (Str.ofString "_law_rested") 609), (.str (Str.ofString "/claim/cut.py") 610), (.int 175 0), (.int 2 0), (.int 0 0), (.int 0 0), (.int 3 0), (.ref 307), (.bool true), (.int 181 0), (.ref 308), .none, .none, .none, (.ref 309), (.int 611 0), (.int 175 0), (.str (Str.ofString "/claim/cut.py") 612)]) #[]
def o324 (P : Params) : Obj := Obj.mk (.type "function") none (.func (fnOf (Str.ofString "_law_rested") (Str.ofString "_law_rested") (defArgs (top 39)) (defBody (top 39)) (defScope (top 39)) .none .none .none (.str (Str.ofString "law_rulerow_k05_answers_by_hand") 557) none (.ref 310) .none)) #[]
def o325 (P : Params) : Obj := Obj.mk (.type "tuple") none (.seq #[] 0) #[]
def o326 (P : Params) : Obj := Obj.mk .none none (.fields #[]) #[]
def o327 (P : Params) : Obj := Obj.mk (.type "tuple") none (.seq #[(.str (Str.ofString "_law_prime_here") 617), (.str (Str.ofString "_law_row_here") 618), (.str (Str.ofString "_law_rule") 619), (.str (Str.ofString "_law_shorter") 620), (.str (Str.ofString "_law_place") 621)] 0) #[]
def o328 (P : Params) : Obj := Obj.mk (.type "tuple") none (.seq #[] 0) #[]
def o329 (P : Params) : Obj := Obj.mk .none none (.func (FuncData.mk (Str.ofString "_law_least") (Str.ofString "_law_least") (defArgs (top 40)) (.stmts (defBody (top 40))) (defScope (top 40)) 0 [] .none .none .none .none none .none .none 0)) #[]
def o330 (P : Params) : Obj := Obj.mk (.type "code") none (.fields #[(.str (Str.ofString "_law_least") 614), (.str (Str.ofString "_law_least") 615), (.str (Str.ofString "/claim/cut.py") 616), (.int 179 0), (.int 5 0), (.int 0 0), (.int 0 0), (.int 3 0), (.ref 312), (.bool true), (.int 181 0), (.ref 313), .none, (.ref 314), (.ref 315), (.ref 316), (.int 622 0), (.int 179 0), (.str (Str.ofString "/claim/cut.py") 623)]) #[]
def o331 (P : Params) : Obj := Obj.mk (.type "function") none (.func (fnOf (Str.ofString "_law_least") (Str.ofString "_law_least") (defArgs (top 40)) (defBody (top 40)) (defScope (top 40)) .none .none .none (.str (Str.ofString "law_rulerow_k05_answers_by_hand") 557) none (.ref 317) .none)) #[]
def o332 (P : Params) : Obj := Obj.mk (.type "dict") none (.dict #[⟨PyData.keyHash P (Str.ofString "__name__"), (.str (Str.ofString "__name__") 165), (.str (Str.ofString "law_rulerow_k05_answers_by_hand") 557)⟩, ⟨PyData.keyHash P (Str.ofString "__doc__"), (.str (Str.ofString "__doc__") 166), .none⟩, ⟨PyData.keyHash P (Str.ofString "__package__"), (.str (Str.ofString "__package__") 167), .none⟩, ⟨PyData.keyHash P (Str.ofString "__loader__"), (.str (Str.ofString "__loader__") 168), (.builtin "__main__.__loader__#opaque")⟩, ⟨PyData.keyHash P (Str.ofString "__spec__"), (.str (Str.ofString "__spec__") 169), .none⟩, ⟨PyData.keyHash P (Str.ofString "__annotations__"), (.str (Str.ofString "__annotations__") 170), (.ref 6)⟩, ⟨PyData.keyHash P (Str.ofString "__builtins__"), (.str (Str.ofString "__builtins__") 171), (.ref 4)⟩, ⟨PyData.keyHash P (Str.ofString "__file__"), (.str (Str.ofString "__file__") 173), (.str (Str.ofString "/claim/cut.py") 172)⟩, ⟨PyData.keyHash P (Str.ofString "__cached__"), (.str (Str.ofString "__cached__") 174), .none⟩, ⟨PyData.keyHash P (Str.ofString "RuleError"), (.str (Str.ofString "RuleError") 206), (.ref 24)⟩, ⟨PyData.keyHash P (Str.ofString "BadPrime"), (.str (Str.ofString "BadPrime") 222), (.ref 37)⟩, ⟨PyData.keyHash P (Str.ofString "BadRow"), (.str (Str.ofString "BadRow") 238), (.ref 49)⟩, ⟨PyData.keyHash P (Str.ofString "BadRule"), (.str (Str.ofString "BadRule") 254), (.ref 61)⟩, ⟨PyData.keyHash P (Str.ofString "LOWEST_PRIME"), (.str (Str.ofString "LOWEST_PRIME") 258), (.int 2 257)⟩, ⟨PyData.keyHash P (Str.ofString "HIGHEST_PRIME"), (.str (Str.ofString "HIGHEST_PRIME") 260), (.int 997 259)⟩, ⟨PyData.keyHash P (Str.ofString "is_whole"), (.str (Str.ofString "is_whole") 267), (.ref 70)⟩, ⟨PyData.keyHash P (Str.ofString "is_prime"), (.str (Str.ofString "is_prime") 275), (.ref 77)⟩, ⟨PyData.keyHash P (Str.ofString "is_rest"), (.str (Str.ofString "is_rest") 283), (.ref 84)⟩, ⟨PyData.keyHash P (Str.ofString "are_rests"), (.str (Str.ofString "are_rests") 292), (.ref 91)⟩, ⟨PyData.keyHash P (Str.ofString "need_prime"), (.str (Str.ofString "need_prime") 299), (.ref 98)⟩, ⟨PyData.keyHash P (Str.ofString "need_rule"), (.str (Str.ofString "need_rule") 307), (.ref 105)⟩, ⟨PyData.keyHash P (Str.ofString "need_row"), (.str (Str.ofString "need_row") 315), (.ref 112)⟩, ⟨PyData.keyHash P (Str.ofString "inverse"), (.str (Str.ofString "inverse") 326), (.ref 119)⟩, ⟨PyData.keyHash P (Str.ofString "makes"), (.str (Str.ofString "makes") 338), (.ref 126)⟩, ⟨PyData.keyHash P (Str.ofString "due"), (.str (Str.ofString "due") 344), (.ref 131)⟩, ⟨PyData.keyHash P (Str.ofString "Answer"), (.str (Str.ofString "Answer") 366), (.ref 141)⟩, ⟨PyData.keyHash P (Str.ofString "Least"), (.str (Str.ofString "Least") 404), (.ref 169)⟩, ⟨PyData.keyHash P (Str.ofString "Only"), (.str (Str.ofString "Only") 442), (.ref 195)⟩, ⟨PyData.keyHash P (Str.ofString "Another"), (.str (Str.ofString "Another") 482), (.ref 221)⟩, ⟨PyData.keyHash P (Str.ofString "is_sole"), (.str (Str.ofString "is_sole") 490), (.ref 230)⟩, ⟨PyData.keyHash P (Str.ofString "is_least"), (.str (Str.ofString "is_least") 501), (.ref 237)⟩, ⟨PyData.keyHash P (Str.ofString "fails_first_at"), (.str (Str.ofString "fails_first_at") 511), (.ref 244)⟩, ⟨PyData.keyHash P (Str.ofString "least"), (.str (Str.ofString "least") 530), (.ref 251)⟩, ⟨PyData.keyHash P (Str.ofString "unlike"), (.str (Str.ofString "unlike") 541), (.ref 258)⟩, ⟨PyData.keyHash P (Str.ofString "mixed"), (.str (Str.ofString "mixed") 556), (.ref 265)⟩, ⟨PyData.keyHash P (Str.ofString "_law_cell_at"), (.str (Str.ofString "_law_cell_at") 566), (.ref 272)⟩, ⟨PyData.keyHash P (Str.ofString "_law_draw"), (.str (Str.ofString "_law_draw") 576), (.ref 279)⟩, ⟨PyData.keyHash P (Str.ofString "_law_prime"), (.str (Str.ofString "_law_prime") 583), (.ref 286)⟩, ⟨PyData.keyHash P (Str.ofString "_law_rests"), (.str (Str.ofString "_law_rests") 589), (.ref 291)⟩, ⟨PyData.keyHash P (Str.ofString "_law_row"), (.str (Str.ofString "_law_row") 595), (.ref 296)⟩, ⟨PyData.keyHash P (Str.ofString "_law_due"), (.str (Str.ofString "_law_due") 601), (.ref 301)⟩, ⟨PyData.keyHash P (Str.ofString "_law_made"), (.str (Str.ofString "_law_made") 607), (.ref 306)⟩, ⟨PyData.keyHash P (Str.ofString "_law_rested"), (.str (Str.ofString "_law_rested") 613), (.ref 311)⟩, ⟨PyData.keyHash P (Str.ofString "_law_least"), (.str (Str.ofString "_law_least") 624), (.ref 318)⟩, ⟨PyData.keyHash P (Str.ofString "_law_says"), (.str (Str.ofString "_law_says") 632), (.ref 325)⟩, ⟨PyData.keyHash P (Str.ofString "_law_bent"), (.str (Str.ofString "_law_bent") 643), (.ref 332)⟩, ⟨PyData.keyHash P (Str.ofString "_law_right"), (.str (Str.ofString "_law_right") 658), (.ref 339)⟩, ⟨PyData.keyHash P (Str.ofString "_law_another_right"), (.str (Str.ofString "_law_another_right") 674), (.ref 346)⟩, ⟨PyData.keyHash P (Str.ofString "law"), (.str (Str.ofString "law") 698), (.ref 353)⟩] 49) #[]
def o333 (P : Params) : Obj := Obj.mk .none none (.fields #[(.int 2 0), (.int 0 0), (.ref 20), (.int 4 0), (.int 0 0), (.ref 33), (.int 6 0), (.int 0 0), (.ref 45), (.int 8 0), (.int 0 0), (.ref 57), (.int 13 0), (.int 0 0), (.ref 69), (.int 15 0), (.int 0 0), (.ref 76), (.int 24 0), (.int 0 0), (.ref 83), (.int 26 0), (.int 0 0), (.ref 90), (.int 33 0), (.int 0 0), (.ref 97), (.int 36 0), (.int 0 0), (.ref 104), (.int 39 0), (.int 0 0), (.ref 111), (.int 42 0), (.int 0 0), (.ref 118), (.int 53 0), (.int 0 0), (.ref 125), (.int 61 0), (.int 0 0), (.ref 130), (.int 65 0), (.int 0 0), (.ref 137), (.int 67 0), (.int 0 0), (.ref 151), (.int 76 0), (.int 0 0), (.ref 177), (.int 85 0), (.int 0 0), (.ref 203), (.int 99 0), (.int 0 0), (.ref 229), (.int 101 0), (.int 0 0), (.ref 236), (.int 111 0), (.int 0 0), (.ref 243), (.int 116 0), (.int 0 0), (.ref 250), (.int 135 0), (.int 0 0), (.ref 257), (.int 142 0), (.int 0 0), (.ref 264), (.int 150 0), (.int 0 0), (.ref 271), (.int 154 0), (.int 0 0), (.ref 278), (.int 157 0), (.int 0 0), (.ref 285), (.int 159 0), (.int 0 0), (.ref 290), (.int 161 0), (.int 0 0), (.ref 295), (.int 171 0), (.int 0 0), (.ref 300), (.int 173 0), (.int 0 0), (.ref 305), (.int 175 0), (.int 0 0), (.ref 310), (.int 179 0), (.int 0 0), (.ref 317), (.int 187 0), (.int 0 0), (.ref 324), (.int 189 0), (.int 0 0), (.ref 331), (.int 204 0), (.int 0 0), (.ref 338), (.int 216 0), (.int 0 0), (.ref 345), (.int 226 0), (.int 0 0), (.ref 352)]) #[]
def o334 (P : Params) : Obj := Obj.mk (.type "tuple") none (.seq #[] 0) #[]
def o335 (P : Params) : Obj := Obj.mk .none none (.fields #[]) #[]
def o336 (P : Params) : Obj := Obj.mk (.type "tuple") none (.seq #[(.str (Str.ofString "_law_said") 628), (.str (Str.ofString "_law_due_here") 629)] 0) #[]
def o337 (P : Params) : Obj := Obj.mk (.type "tuple") none (.seq #[] 0) #[]
def o338 (P : Params) : Obj := Obj.mk .none none (.func (FuncData.mk (Str.ofString "_law_says") (Str.ofString "_law_says") (defArgs (top 41)) (.stmts (defBody (top 41))) (defScope (top 41)) 0 [] .none .none .none .none none .none .none 0)) #[]
def o339 (P : Params) : Obj := Obj.mk (.type "code") none (.fields #[(.str (Str.ofString "_law_says") 625), (.str (Str.ofString "_law_says") 626), (.str (Str.ofString "/claim/cut.py") 627), (.int 187 0), (.int 2 0), (.int 0 0), (.int 0 0), (.int 3 0), (.ref 319), (.bool true), (.int 181 0), (.ref 320), .none, (.ref 321), (.ref 322), (.ref 323), (.int 630 0), (.int 187 0), (.str (Str.ofString "/claim/cut.py") 631)]) #[]
def o340 (P : Params) : Obj := Obj.mk (.type "function") none (.func (fnOf (Str.ofString "_law_says") (Str.ofString "_law_says") (defArgs (top 41)) (defBody (top 41)) (defScope (top 41)) .none .none .none (.str (Str.ofString "law_rulerow_k05_answers_by_hand") 557) none (.ref 324) .none)) #[]
def o341 (P : Params) : Obj := Obj.mk (.type "tuple") none (.seq #[] 0) #[]
def o342 (P : Params) : Obj := Obj.mk .none none (.fields #[]) #[]
def o343 (P : Params) : Obj := Obj.mk (.type "tuple") none (.seq #[(.str (Str.ofString "_law_some") 636), (.str (Str.ofString "_law_cell") 637), (.str (Str.ofString "_law_prime_here") 638), (.str (Str.ofString "_law_kind") 639), (.str (Str.ofString "_law_at") 640)] 0) #[]
def o344 (P : Params) : Obj := Obj.mk (.type "tuple") none (.seq #[] 0) #[]
def o345 (P : Params) : Obj := Obj.mk .none none (.func (FuncData.mk (Str.ofString "_law_bent") (Str.ofString "_law_bent") (defArgs (top 42)) (.stmts (defBody (top 42))) (defScope (top 42)) 0 [] .none .none .none .none none .none .none 0)) #[]
def o346 (P : Params) : Obj := Obj.mk (.type "code") none (.fields #[(.str (Str.ofString "_law_bent") 633), (.str (Str.ofString "_law_bent") 634), (.str (Str.ofString "/claim/cut.py") 635), (.int 189 0), (.int 3 0), (.int 0 0), (.int 0 0), (.int 3 0), (.ref 326), (.bool true), (.int 181 0), (.ref 327), .none, (.ref 328), (.ref 329), (.ref 330), (.int 641 0), (.int 189 0), (.str (Str.ofString "/claim/cut.py") 642)]) #[]
def o347 (P : Params) : Obj := Obj.mk (.type "function") none (.func (fnOf (Str.ofString "_law_bent") (Str.ofString "_law_bent") (defArgs (top 42)) (defBody (top 42)) (defScope (top 42)) .none .none .none (.str (Str.ofString "law_rulerow_k05_answers_by_hand") 557) none (.ref 331) .none)) #[]
def o348 (P : Params) : Obj := Obj.mk (.type "tuple") none (.seq #[] 0) #[]
def o349 (P : Params) : Obj := Obj.mk .none none (.fields #[]) #[]
def o350 (P : Params) : Obj := Obj.mk (.type "tuple") none (.seq #[(.str (Str.ofString "_law_prime_here") 647), (.str (Str.ofString "_law_row_here") 648), (.str (Str.ofString "_law_rule") 649), (.str (Str.ofString "_law_shorter") 650), (.str (Str.ofString "_law_place") 651), (.str (Str.ofString "_law_good") 652), (.str (Str.ofString "_law_which") 653), (.str (Str.ofString "_law_handed") 654), (.str (Str.ofString "_law_answer") 655)] 0) #[]
def o351 (P : Params) : Obj := Obj.mk (.type "tuple") none (.seq #[] 0) #[]
def o352 (P : Params) : Obj := Obj.mk .none none (.func (FuncData.mk (Str.ofString "_law_right") (Str.ofString "_law_right") (defArgs (top 43)) (.stmts (defBody (top 43))) (defScope (top 43)) 0 [] .none .none .none .none none .none .none 0)) #[]
def o353 (P : Params) : Obj := Obj.mk (.type "code") none (.fields #[(.str (Str.ofString "_law_right") 644), (.str (Str.ofString "_law_right") 645), (.str (Str.ofString "/claim/cut.py") 646), (.int 204 0), (.int 5 0), (.int 0 0), (.int 0 0), (.int 3 0), (.ref 333), (.bool true), (.int 181 0), (.ref 334), .none, (.ref 335), (.ref 336), (.ref 337), (.int 656 0), (.int 204 0), (.str (Str.ofString "/claim/cut.py") 657)]) #[]
def o354 (P : Params) : Obj := Obj.mk (.type "function") none (.func (fnOf (Str.ofString "_law_right") (Str.ofString "_law_right") (defArgs (top 43)) (defBody (top 43)) (defScope (top 43)) .none .none .none (.str (Str.ofString "law_rulerow_k05_answers_by_hand") 557) none (.ref 338) .none)) #[]
def o355 (P : Params) : Obj := Obj.mk (.type "tuple") none (.seq #[] 0) #[]
def o356 (P : Params) : Obj := Obj.mk .none none (.fields #[]) #[]
def o357 (P : Params) : Obj := Obj.mk (.type "tuple") none (.seq #[(.str (Str.ofString "_law_prime_here") 662), (.str (Str.ofString "_law_row_here") 663), (.str (Str.ofString "_law_one") 664), (.str (Str.ofString "_law_other") 665), (.str (Str.ofString "_law_shorter") 666), (.str (Str.ofString "_law_place") 667), (.str (Str.ofString "_law_handed") 668), (.str (Str.ofString "_law_answer") 669), (.str (Str.ofString "_law_some") 670), (.str (Str.ofString "_law_due_here") 671)] 0) #[]
def o358 (P : Params) : Obj := Obj.mk (.type "tuple") none (.seq #[] 0) #[]
def o359 (P : Params) : Obj := Obj.mk .none none (.func (FuncData.mk (Str.ofString "_law_another_right") (Str.ofString "_law_another_right") (defArgs (top 44)) (.stmts (defBody (top 44))) (defScope (top 44)) 0 [] .none .none .none .none none .none .none 0)) #[]
def o360 (P : Params) : Obj := Obj.mk (.type "code") none (.fields #[(.str (Str.ofString "_law_another_right") 659), (.str (Str.ofString "_law_another_right") 660), (.str (Str.ofString "/claim/cut.py") 661), (.int 216 0), (.int 6 0), (.int 0 0), (.int 0 0), (.int 3 0), (.ref 340), (.bool true), (.int 181 0), (.ref 341), .none, (.ref 342), (.ref 343), (.ref 344), (.int 672 0), (.int 216 0), (.str (Str.ofString "/claim/cut.py") 673)]) #[]
def o361 (P : Params) : Obj := Obj.mk (.type "function") none (.func (fnOf (Str.ofString "_law_another_right") (Str.ofString "_law_another_right") (defArgs (top 44)) (defBody (top 44)) (defScope (top 44)) .none .none .none (.str (Str.ofString "law_rulerow_k05_answers_by_hand") 557) none (.ref 345) .none)) #[]
def o362 (P : Params) : Obj := Obj.mk (.type "tuple") none (.seq #[] 0) #[]
def o363 (P : Params) : Obj := Obj.mk .none none (.fields #[]) #[]
def o364 (P : Params) : Obj := Obj.mk (.type "tuple") none (.seq #[(.str (Str.ofString "_law_script") 678), (.str (Str.ofString "_law_prime_here") 679), (.str (Str.ofString "_law_row_here") 680), (.str (Str.ofString "_law_found") 681), (.str (Str.ofString "_law_more") 682), (.str (Str.ofString "_law_rule") 683), (.str (Str.ofString "_law_shorter") 684), (.str (Str.ofString "_law_place") 685), (.str (Str.ofString "_law_other") 686), (.str (Str.ofString "_law_k") 687), (.str (Str.ofString "_law_cell") 688), (.str (Str.ofString "_law_spot") 689), (.str (Str.ofString "_law_mine") 690), (.str (Str.ofString "_law_bent_here") 691), (.str (Str.ofString "_law_theirs") 692), (.str (Str.ofString "_law_some") 693), (.str (Str.ofString "_law_rests_here") 694), (.str (Str.ofString "_law_due_here") 695)] 0) #[]
def o365 (P : Params) : Obj := Obj.mk (.type "tuple") none (.seq #[] 0) #[]
def o366 (P : Params) : Obj := Obj.mk .none none (.func (FuncData.mk (Str.ofString "law") (Str.ofString "law") (defArgs (top 45)) (.stmts (defBody (top 45))) (defScope (top 45)) 0 [] .none .none .none .none none .none .none 0)) #[]
def o367 (P : Params) : Obj := Obj.mk (.type "code") none (.fields #[(.str (Str.ofString "law") 675), (.str (Str.ofString "law") 676), (.str (Str.ofString "/claim/cut.py") 677), (.int 226 0), (.int 1 0), (.int 0 0), (.int 0 0), (.int 3 0), (.ref 347), (.bool true), (.int 181 0), (.ref 348), .none, (.ref 349), (.ref 350), (.ref 351), (.int 696 0), (.int 226 0), (.str (Str.ofString "/claim/cut.py") 697)]) #[]
def o368 (P : Params) : Obj := Obj.mk (.type "function") none (.func (fnOf (Str.ofString "law") (Str.ofString "law") (defArgs (top 45)) (defBody (top 45)) (defScope (top 45)) .none .none .none (.str (Str.ofString "law_rulerow_k05_answers_by_hand") 557) none (.ref 352) .none)) #[]
def hPre (P : Params) : Heap := ⟨⟨[boot_o_0 P, boot_o_1 P, boot_o_2 P, boot_o_3 P, boot_o_4 P, boot_o_5 P, boot_o_6 P, boot_o_7 P, boot_o_8 P, boot_o_9 P, boot_o_10 P, o0 P, o1 P, o2 P, o3 P]⟩, {  }⟩
def t0 (P : Params) : BT := (node (boot_o_0 P) (node (boot_o_1 P) (node (boot_o_3 P) (node (boot_o_7 P) nil nil) (node (o0 P) nil nil)) (node (boot_o_5 P) (node (boot_o_9 P) nil nil) (node (o2 P) nil nil))) (node (boot_o_2 P) (node (boot_o_4 P) (node (boot_o_8 P) nil nil) (node (o1 P) nil nil)) (node (boot_o_6 P) (node (boot_o_10 P) nil nil) (node (o3 P) nil nil))))
def t1 (P : Params) : BT := (node (boot_o_0 P) (node (boot_o_1 P) (node (o4 P) (node (boot_o_7 P) (node (o6 P) nil nil) (node (o14 P) nil nil)) (node (o0 P) (node (o10 P) nil nil) (node (o18 P) nil nil))) (node (boot_o_5 P) (node (boot_o_9 P) (node (o8 P) nil nil) (node (o16 P) nil nil)) (node (o2 P) (node (o12 P) nil nil) nil))) (node (boot_o_2 P) (node (boot_o_4 P) (node (boot_o_8 P) (node (o7 P) nil nil) (node (o15 P) nil nil)) (node (o5 P) (node (o11 P) nil nil) nil)) (node (boot_o_6 P) (node (boot_o_10 P) (node (o9 P) nil nil) (node (o17 P) nil nil)) (node (o3 P) (node (o13 P) nil nil) nil))))
def t2 (P : Params) : BT := (node (boot_o_0 P) (node (boot_o_1 P) (node (o19 P) (node (boot_o_7 P) (node (o6 P) (node (o25 P) nil nil) nil) (node (o14 P) (node (o33 P) nil nil) nil)) (node (o0 P) (node (o10 P) (node (o29 P) nil nil) nil) (node (o18 P) nil nil))) (node (boot_o_5 P) (node (boot_o_9 P) (node (o8 P) (node (o27 P) nil nil) nil) (node (o16 P) nil nil)) (node (o2 P) (node (o12 P) (node (o31 P) nil nil) nil) (node (o23 P) nil nil)))) (node (boot_o_2 P) (node (boot_o_4 P) (node (boot_o_8 P) (node (o7 P) (node (o26 P) nil nil) nil) (node (o21 P) nil nil)) (node (o20 P) (node (o11 P) (node (o30 P) nil nil) nil) (node (o22 P) nil nil))) (node (boot_o_6 P) (node (boot_o_10 P) (node (o9 P) (node (o28 P) nil nil) nil) (node (o17 P) nil nil)) (node (o3 P) (node (o13 P) (node (o32 P) nil nil) nil) (node (o24 P) nil nil)))))
def t3 (P : Params) : BT := (node (boot_o_0 P) (node (boot_o_1 P) (node (o34 P) (node (boot_o_7 P) (node (o6 P) (node (o25 P) nil nil) (node (o44 P) nil nil)) (node (o14 P) (node (o33 P) nil nil) nil)) (node (o0 P) (node (o10 P) (node (o29 P) nil nil) (node (o48 P) nil nil)) (node (o18 P) (node (o40 P) nil nil) nil))) (node (boot_o_5 P) (node (boot_o_9 P) (node (o8 P) (node (o27 P) nil nil) (node (o46 P) nil nil)) (node (o16 P) (node (o38 P) nil nil) nil)) (node (o2 P) (node (o12 P) (node (o31 P) nil nil) nil) (node (o23 P) (node (o42 P) nil nil) nil)))) (node (boot_o_2 P) (node (boot_o_4 P) (node (boot_o_8 P) (node (o7 P) (node (o26 P) nil nil) (node (o45 P) nil nil)) (node (o36 P) (node (o37 P) nil nil) nil)) (node (o35 P) (node (o11 P) (node (o30 P) nil nil) nil) (node (o22 P) (node (o41 P) nil nil) nil))) (node (boot_o_6 P) (node (boot_o_10 P) (node (o9 P) (node (o28 P) nil nil) (node (o47 P) nil nil)) (node (o17 P) (node (o39 P) nil nil) nil)) (node (o3 P) (node (o13 P) (node (o32 P) nil nil) nil) (node (o24 P) (node (o43 P) nil nil) nil)))))
def t4 (P : Params) : BT := (node (boot_o_0 P) (node (boot_o_1 P) (node (o49 P) (node (boot_o_7 P) (node (o6 P) (node (o25 P) (node (o63 P) nil nil) (node (o95 P) nil nil)) (node (o44 P) (node (o79 P) nil nil) nil)) (node (o14 P) (node (o33 P) (node (o71 P) nil nil) nil) (node (o55 P) (node (o87 P) nil nil) nil))) (node (o0 P) (node (o10 P) (node (o29 P) (node (o67 P) nil nil) nil) (node (o48 P) (node (o83 P) nil nil) nil)) (node (o18 P) (node (o40 P) (node (o75 P) nil nil) nil) (node (o59 P) (node (o91 P) nil nil) nil)))) (node (boot_o_5 P) (node (boot_o_9 P) (node (o8 P) (node (o27 P) (node (o65 P) nil nil) (node (o97 P) nil nil)) (node (o46 P) (node (o81 P) nil nil) nil)) (node (o16 P) (node (o38 P) (node (o73 P) nil nil) nil) (node (o57 P) (node (o89 P) nil nil) nil))) (node (o2 P) (node (o12 P) (node (o31 P) (node (o69 P) nil nil) nil) (node (o53 P) (node (o85 P) nil nil) nil)) (node (o23 P) (node (o42 P) (node (o77 P) nil nil) nil) (node (o61 P) (node (o93 P) nil nil) nil))))) (node (boot_o_2 P) (node (boot_o_4 P) (node (boot_o_8 P) (node (o7 P) (node (o26 P) (node (o64 P) nil nil) (node (o96 P) nil nil)) (node (o45 P) (node (o80 P) nil nil) nil)) (node (o51 P) (node (o37 P) (node (o72 P) nil nil) nil) (node (o56 P) (node (o88 P) nil nil) nil))) (node (o50 P) (node (o11 P) (node (o30 P) (node (o68 P) nil nil) nil) (node (o52 P) (node (o84 P) nil nil) nil)) (node (o22 P) (node (o41 P) (node (o76 P) nil nil) nil) (node (o60 P) (node (o92 P) nil nil) nil)))) (node (boot_o_6 P) (node (boot_o_10 P) (node (o9 P) (node (o28 P) (node (o66 P) nil nil) (node (o98 P) nil nil)) (node (o47 P) (node (o82 P) nil nil) nil)) (node (o17 P) (node (o39 P) (node (o74 P) nil nil) nil) (node (o58 P) (node (o90 P) nil nil) nil))) (node (o3 P) (node (o13 P) (node (o32 P) (node (o70 P) nil nil) nil) (node (o54 P) (node (o86 P) nil nil) nil)) (node (o24 P) (node (o43 P) (node (o78 P) nil nil) nil) (node (o62 P) (node (o94 P) nil nil) nil))))))
def t5 (P : Params) : BT := (node (boot_o_0 P) (node (boot_o_1 P) (node (o99 P) (node (boot_o_7 P) (node (o6 P) (node (o25 P) (node (o63 P) (node (o129 P) nil nil) nil) (node (o95 P) nil nil)) (node (o44 P) (node (o79 P) (node (o145 P) nil nil) nil) (node (o113 P) nil nil))) (node (o14 P) (node (o33 P) (node (o71 P) (node (o137 P) nil nil) nil) (node (o105 P) nil nil)) (node (o55 P) (node (o87 P) nil nil) (node (o121 P) nil nil)))) (node (o0 P) (node (o10 P) (node (o29 P) (node (o67 P) (node (o133 P) nil nil) nil) (node (o101 P) nil nil)) (node (o48 P) (node (o83 P) nil nil) (node (o117 P) nil nil))) (node (o18 P) (node (o40 P) (node (o75 P) (node (o141 P) nil nil) nil) (node (o109 P) nil nil)) (node (o59 P) (node (o91 P) nil nil) (node (o125 P) nil nil))))) (node (boot_o_5 P) (node (boot_o_9 P) (node (o8 P) (node (o27 P) (node (o65 P) (node (o131 P) nil nil) nil) (node (o97 P) nil nil)) (node (o46 P) (node (o81 P) (node (o147 P) nil nil) nil) (node (o115 P) nil nil))) (node (o16 P) (node (o38 P) (node (o73 P) (node (o139 P) nil nil) nil) (node (o107 P) nil nil)) (node (o57 P) (node (o89 P) nil nil) (node (o123 P) nil nil)))) (node (o2 P) (node (o12 P) (node (o31 P) (node (o69 P) (node (o135 P) nil nil) nil) (node (o103 P) nil nil)) (node (o53 P) (node (o85 P) nil nil) (node (o119 P) nil nil))) (node (o23 P) (node (o42 P) (node (o77 P) (node (o143 P) nil nil) nil) (node (o111 P) nil nil)) (node (o61 P) (node (o93 P) nil nil) (node (o127 P) nil nil)))))) (node (boot_o_2 P) (node (boot_o_4 P) (node (boot_o_8 P) (node (o7 P) (node (o26 P) (node (o64 P) (node (o130 P) nil nil) nil) (node (o96 P) nil nil)) (node (o45 P) (node (o80 P) (node (o146 P) nil nil) nil) (node (o114 P) nil nil))) (node (o51 P) (node (o37 P) (node (o72 P) (node (o138 P) nil nil) nil) (node (o106 P) nil nil)) (node (o56 P) (node (o88 P) nil nil) (node (o122 P) nil nil)))) (node (o100 P) (node (o11 P) (node (o30 P) (node (o68 P) (node (o134 P) nil nil) nil) (node (o102 P) nil nil)) (node (o52 P) (node (o84 P) nil nil) (node (o118 P) nil nil))) (node (o22 P) (node (o41 P) (node (o76 P) (node (o142 P) nil nil) nil) (node (o110 P) nil nil)) (node (o60 P) (node (o92 P) nil nil) (node (o126 P) nil nil))))) (node (boot_o_6 P) (node (boot_o_10 P) (node (o9 P) (node (o28 P) (node (o66 P) (node (o132 P) nil nil) nil) (node (o98 P) nil nil)) (node (o47 P) (node (o82 P) nil nil) (node (o116 P) nil nil))) (node (o17 P) (node (o39 P) (node (o74 P) (node (o140 P) nil nil) nil) (node (o108 P) nil nil)) (node (o58 P) (node (o90 P) nil nil) (node (o124 P) nil nil)))) (node (o3 P) (node (o13 P) (node (o32 P) (node (o70 P) (node (o136 P) nil nil) nil) (node (o104 P) nil nil)) (node (o54 P) (node (o86 P) nil nil) (node (o120 P) nil nil))) (node (o24 P) (node (o43 P) (node (o78 P) (node (o144 P) nil nil) nil) (node (o112 P) nil nil)) (node (o62 P) (node (o94 P) nil nil) (node (o128 P) nil nil)))))))
def t6 (P : Params) : BT := (node (boot_o_0 P) (node (boot_o_1 P) (node (o148 P) (node (boot_o_7 P) (node (o6 P) (node (o25 P) (node (o63 P) (node (o129 P) nil nil) nil) (node (o95 P) (node (o164 P) nil nil) nil)) (node (o44 P) (node (o79 P) (node (o145 P) nil nil) nil) (node (o113 P) nil nil))) (node (o14 P) (node (o33 P) (node (o71 P) (node (o137 P) nil nil) nil) (node (o105 P) (node (o172 P) nil nil) nil)) (node (o55 P) (node (o87 P) (node (o156 P) nil nil) nil) (node (o121 P) nil nil)))) (node (o0 P) (node (o10 P) (node (o29 P) (node (o67 P) (node (o133 P) nil nil) nil) (node (o101 P) (node (o168 P) nil nil) nil)) (node (o48 P) (node (o83 P) (node (o152 P) nil nil) nil) (node (o117 P) nil nil))) (node (o18 P) (node (o40 P) (node (o75 P) (node (o141 P) nil nil) nil) (node (o109 P) (node (o176 P) nil nil) nil)) (node (o59 P) (node (o91 P) (node (o160 P) nil nil) nil) (node (o125 P) nil nil))))) (node (boot_o_5 P) (node (boot_o_9 P) (node (o8 P) (node (o27 P) (node (o65 P) (node (o131 P) nil nil) nil) (node (o97 P) (node (o166 P) nil nil) nil)) (node (o46 P) (node (o81 P) (node (o147 P) nil nil) nil) (node (o115 P) nil nil))) (node (o16 P) (node (o38 P) (node (o73 P) (node (o139 P) nil nil) nil) (node (o107 P) (node (o174 P) nil nil) nil)) (node (o57 P) (node (o89 P) (node (o158 P) nil nil) nil) (node (o123 P) nil nil)))) (node (o2 P) (node (o12 P) (node (o31 P) (node (o69 P) (node (o135 P) nil nil) nil) (node (o103 P) (node (o170 P) nil nil) nil)) (node (o53 P) (node (o85 P) (node (o154 P) nil nil) nil) (node (o119 P) nil nil))) (node (o23 P) (node (o42 P) (node (o77 P) (node (o150 P) nil nil) nil) (node (o111 P) nil nil)) (node (o61 P) (node (o93 P) (node (o162 P) nil nil) nil) (node (o127 P) nil nil)))))) (node (boot_o_2 P) (node (boot_o_4 P) (node (boot_o_8 P) (node (o7 P) (node (o26 P) (node (o64 P) (node (o130 P) nil nil) nil) (node (o96 P) (node (o165 P) nil nil) nil)) (node (o45 P) (node (o80 P) (node (o146 P) nil nil) nil) (node (o114 P) nil nil))) (node (o51 P) (node (o37 P) (node (o72 P) (node (o138 P) nil nil) nil) (node (o106 P) (node (o173 P) nil nil) nil)) (node (o56 P) (node (o88 P) (node (o157 P) nil nil) nil) (node (o122 P) nil nil)))) (node (o149 P) (node (o11 P) (node (o30 P) (node (o68 P) (node (o134 P) nil nil) nil) (node (o102 P) (node (o169 P) nil nil) nil)) (node (o52 P) (node (o84 P) (node (o153 P) nil nil) nil) (node (o118 P) nil nil))) (node (o22 P) (node (o41 P) (node (o76 P) (node (o142 P) nil nil) nil) (node (o110 P) nil nil)) (node (o60 P) (node (o92 P) (node (o161 P) nil nil) nil) (node (o126 P) nil nil))))) (node (boot_o_6 P) (node (boot_o_10 P) (node (o9 P) (node (o28 P) (node (o66 P) (node (o132 P) nil nil) nil) (node (o98 P) (node (o167 P) nil nil) nil)) (node (o47 P) (node (o82 P) (node (o151 P) nil nil) nil) (node (o116 P) nil nil))) (node (o17 P) (node (o39 P) (node (o74 P) (node (o140 P) nil nil) nil) (node (o108 P) (node (o175 P) nil nil) nil)) (node (o58 P) (node (o90 P) (node (o159 P) nil nil) nil) (node (o124 P) nil nil)))) (node (o3 P) (node (o13 P) (node (o32 P) (node (o70 P) (node (o136 P) nil nil) nil) (node (o104 P) (node (o171 P) nil nil) nil)) (node (o54 P) (node (o86 P) (node (o155 P) nil nil) nil) (node (o120 P) nil nil))) (node (o24 P) (node (o43 P) (node (o78 P) (node (o144 P) nil nil) nil) (node (o112 P) nil nil)) (node (o62 P) (node (o94 P) (node (o163 P) nil nil) nil) (node (o128 P) nil nil)))))))
def t7 (P : Params) : BT := (node (boot_o_0 P) (node (boot_o_1 P) (node (o177 P) (node (boot_o_7 P) (node (o6 P) (node (o25 P) (node (o63 P) (node (o129 P) nil nil) (node (o199 P) nil nil)) (node (o95 P) (node (o164 P) nil nil) nil)) (node (o44 P) (node (o79 P) (node (o145 P) nil nil) nil) (node (o113 P) (node (o183 P) nil nil) nil))) (node (o14 P) (node (o33 P) (node (o71 P) (node (o137 P) nil nil) nil) (node (o105 P) (node (o172 P) nil nil) nil)) (node (o55 P) (node (o87 P) (node (o156 P) nil nil) nil) (node (o121 P) (node (o191 P) nil nil) nil)))) (node (o0 P) (node (o10 P) (node (o29 P) (node (o67 P) (node (o133 P) nil nil) (node (o203 P) nil nil)) (node (o101 P) (node (o168 P) nil nil) nil)) (node (o48 P) (node (o83 P) (node (o152 P) nil nil) nil) (node (o117 P) (node (o187 P) nil nil) nil))) (node (o18 P) (node (o40 P) (node (o75 P) (node (o141 P) nil nil) nil) (node (o109 P) (node (o176 P) nil nil) nil)) (node (o59 P) (node (o91 P) (node (o160 P) nil nil) nil) (node (o125 P) (node (o195 P) nil nil) nil))))) (node (boot_o_5 P) (node (boot_o_9 P) (node (o8 P) (node (o27 P) (node (o65 P) (node (o131 P) nil nil) (node (o201 P) nil nil)) (node (o97 P) (node (o166 P) nil nil) nil)) (node (o46 P) (node (o81 P) (node (o147 P) nil nil) nil) (node (o115 P) (node (o185 P) nil nil) nil))) (node (o16 P) (node (o38 P) (node (o73 P) (node (o139 P) nil nil) nil) (node (o107 P) (node (o174 P) nil nil) nil)) (node (o57 P) (node (o89 P) (node (o158 P) nil nil) nil) (node (o123 P) (node (o193 P) nil nil) nil)))) (node (o2 P) (node (o12 P) (node (o31 P) (node (o69 P) (node (o135 P) nil nil) (node (o205 P) nil nil)) (node (o103 P) (node (o170 P) nil nil) nil)) (node (o53 P) (node (o85 P) (node (o154 P) nil nil) nil) (node (o119 P) (node (o189 P) nil nil) nil))) (node (o23 P) (node (o42 P) (node (o77 P) (node (o179 P) nil nil) nil) (node (o111 P) (node (o181 P) nil nil) nil)) (node (o61 P) (node (o93 P) (node (o162 P) nil nil) nil) (node (o127 P) (node (o197 P) nil nil) nil)))))) (node (boot_o_2 P) (node (boot_o_4 P) (node (boot_o_8 P) (node (o7 P) (node (o26 P) (node (o64 P) (node (o130 P) nil nil) (node (o200 P) nil nil)) (node (o96 P) (node (o165 P) nil nil) nil)) (node (o45 P) (node (o80 P) (node (o146 P) nil nil) nil) (node (o114 P) (node (o184 P) nil nil) nil))) (node (o51 P) (node (o37 P) (node (o72 P) (node (o138 P) nil nil) nil) (node (o106 P) (node (o173 P) nil nil) nil)) (node (o56 P) (node (o88 P) (node (o157 P) nil nil) nil) (node (o122 P) (node (o192 P) nil nil) nil)))) (node (o178 P) (node (o11 P) (node (o30 P) (node (o68 P) (node (o134 P) nil nil) (node (o204 P) nil nil)) (node (o102 P) (node (o169 P) nil nil) nil)) (node (o52 P) (node (o84 P) (node (o153 P) nil nil) nil) (node (o118 P) (node (o188 P) nil nil) nil))) (node (o22 P) (node (o41 P) (node (o76 P) (node (o142 P) nil nil) nil) (node (o110 P) (node (o180 P) nil nil) nil)) (node (o60 P) (node (o92 P) (node (o161 P) nil nil) nil) (node (o126 P) (node (o196 P) nil nil) nil))))) (node (boot_o_6 P) (node (boot_o_10 P) (node (o9 P) (node (o28 P) (node (o66 P) (node (o132 P) nil nil) (node (o202 P) nil nil)) (node (o98 P) (node (o167 P) nil nil) nil)) (node (o47 P) (node (o82 P) (node (o151 P) nil nil) nil) (node (o116 P) (node (o186 P) nil nil) nil))) (node (o17 P) (node (o39 P) (node (o74 P) (node (o140 P) nil nil) nil) (node (o108 P) (node (o175 P) nil nil) nil)) (node (o58 P) (node (o90 P) (node (o159 P) nil nil) nil) (node (o124 P) (node (o194 P) nil nil) nil)))) (node (o3 P) (node (o13 P) (node (o32 P) (node (o70 P) (node (o136 P) nil nil) nil) (node (o104 P) (node (o171 P) nil nil) nil)) (node (o54 P) (node (o86 P) (node (o155 P) nil nil) nil) (node (o120 P) (node (o190 P) nil nil) nil))) (node (o24 P) (node (o43 P) (node (o78 P) (node (o144 P) nil nil) nil) (node (o112 P) (node (o182 P) nil nil) nil)) (node (o62 P) (node (o94 P) (node (o163 P) nil nil) nil) (node (o128 P) (node (o198 P) nil nil) nil)))))))
def t8 (P : Params) : BT := (node (boot_o_0 P) (node (boot_o_1 P) (node (o206 P) (node (boot_o_7 P) (node (o6 P) (node (o25 P) (node (o63 P) (node (o129 P) nil nil) (node (o199 P) nil nil)) (node (o95 P) (node (o164 P) nil nil) (node (o234 P) nil nil))) (node (o44 P) (node (o79 P) (node (o145 P) nil nil) (node (o218 P) nil nil)) (node (o113 P) (node (o183 P) nil nil) (node (o250 P) nil nil)))) (node (o14 P) (node (o33 P) (node (o71 P) (node (o137 P) nil nil) (node (o210 P) nil nil)) (node (o105 P) (node (o172 P) nil nil) (node (o242 P) nil nil))) (node (o55 P) (node (o87 P) (node (o156 P) nil nil) (node (o226 P) nil nil)) (node (o121 P) (node (o191 P) nil nil) nil)))) (node (o0 P) (node (o10 P) (node (o29 P) (node (o67 P) (node (o133 P) nil nil) (node (o203 P) nil nil)) (node (o101 P) (node (o168 P) nil nil) (node (o238 P) nil nil))) (node (o48 P) (node (o83 P) (node (o152 P) nil nil) (node (o222 P) nil nil)) (node (o117 P) (node (o187 P) nil nil) (node (o254 P) nil nil)))) (node (o18 P) (node (o40 P) (node (o75 P) (node (o141 P) nil nil) (node (o214 P) nil nil)) (node (o109 P) (node (o176 P) nil nil) (node (o246 P) nil nil))) (node (o59 P) (node (o91 P) (node (o160 P) nil nil) (node (o230 P) nil nil)) (node (o125 P) (node (o195 P) nil nil) nil))))) (node (boot_o_5 P) (node (boot_o_9 P) (node (o8 P) (node (o27 P) (node (o65 P) (node (o131 P) nil nil) (node (o201 P) nil nil)) (node (o97 P) (node (o166 P) nil nil) (node (o236 P) nil nil))) (node (o46 P) (node (o81 P) (node (o147 P) nil nil) (node (o220 P) nil nil)) (node (o115 P) (node (o185 P) nil nil) (node (o252 P) nil nil)))) (node (o16 P) (node (o38 P) (node (o73 P) (node (o139 P) nil nil) (node (o212 P) nil nil)) (node (o107 P) (node (o174 P) nil nil) (node (o244 P) nil nil))) (node (o57 P) (node (o89 P) (node (o158 P) nil nil) (node (o228 P) nil nil)) (node (o123 P) (node (o193 P) nil nil) nil)))) (node (o2 P) (node (o12 P) (node (o31 P) (node (o69 P) (node (o135 P) nil nil) (node (o205 P) nil nil)) (node (o103 P) (node (o170 P) nil nil) (node (o240 P) nil nil))) (node (o53 P) (node (o85 P) (node (o154 P) nil nil) (node (o224 P) nil nil)) (node (o119 P) (node (o189 P) nil nil) nil))) (node (o23 P) (node (o42 P) (node (o77 P) (node (o208 P) nil nil) (node (o216 P) nil nil)) (node (o111 P) (node (o181 P) nil nil) (node (o248 P) nil nil))) (node (o61 P) (node (o93 P) (node (o162 P) nil nil) (node (o232 P) nil nil)) (node (o127 P) (node (o197 P) nil nil) nil)))))) (node (boot_o_2 P) (node (boot_o_4 P) (node (boot_o_8 P) (node (o7 P) (node (o26 P) (node (o64 P) (node (o130 P) nil nil) (node (o200 P) nil nil)) (node (o96 P) (node (o165 P) nil nil) (node (o235 P) nil nil))) (node (o45 P) (node (o80 P) (node (o146 P) nil nil) (node (o219 P) nil nil)) (node (o114 P) (node (o184 P) nil nil) (node (o251 P) nil nil)))) (node (o51 P) (node (o37 P) (node (o72 P) (node (o138 P) nil nil) (node (o211 P) nil nil)) (node (o106 P) (node (o173 P) nil nil) (node (o243 P) nil nil))) (node (o56 P) (node (o88 P) (node (o157 P) nil nil) (node (o227 P) nil nil)) (node (o122 P) (node (o192 P) nil nil) nil)))) (node (o207 P) (node (o11 P) (node (o30 P) (node (o68 P) (node (o134 P) nil nil) (node (o204 P) nil nil)) (node (o102 P) (node (o169 P) nil nil) (node (o239 P) nil nil))) (node (o52 P) (node (o84 P) (node (o153 P) nil nil) (node (o223 P) nil nil)) (node (o118 P) (node (o188 P) nil nil) (node (o255 P) nil nil)))) (node (o22 P) (node (o41 P) (node (o76 P) (node (o142 P) nil nil) (node (o215 P) nil nil)) (node (o110 P) (node (o180 P) nil nil) (node (o247 P) nil nil))) (node (o60 P) (node (o92 P) (node (o161 P) nil nil) (node (o231 P) nil nil)) (node (o126 P) (node (o196 P) nil nil) nil))))) (node (boot_o_6 P) (node (boot_o_10 P) (node (o9 P) (node (o28 P) (node (o66 P) (node (o132 P) nil nil) (node (o202 P) nil nil)) (node (o98 P) (node (o167 P) nil nil) (node (o237 P) nil nil))) (node (o47 P) (node (o82 P) (node (o151 P) nil nil) (node (o221 P) nil nil)) (node (o116 P) (node (o186 P) nil nil) (node (o253 P) nil nil)))) (node (o17 P) (node (o39 P) (node (o74 P) (node (o140 P) nil nil) (node (o213 P) nil nil)) (node (o108 P) (node (o175 P) nil nil) (node (o245 P) nil nil))) (node (o58 P) (node (o90 P) (node (o159 P) nil nil) (node (o229 P) nil nil)) (node (o124 P) (node (o194 P) nil nil) nil)))) (node (o3 P) (node (o13 P) (node (o32 P) (node (o70 P) (node (o136 P) nil nil) (node (o209 P) nil nil)) (node (o104 P) (node (o171 P) nil nil) (node (o241 P) nil nil))) (node (o54 P) (node (o86 P) (node (o155 P) nil nil) (node (o225 P) nil nil)) (node (o120 P) (node (o190 P) nil nil) nil))) (node (o24 P) (node (o43 P) (node (o78 P) (node (o144 P) nil nil) (node (o217 P) nil nil)) (node (o112 P) (node (o182 P) nil nil) (node (o249 P) nil nil))) (node (o62 P) (node (o94 P) (node (o163 P) nil nil) (node (o233 P) nil nil)) (node (o128 P) (node (o198 P) nil nil) nil)))))))
def t9 (P : Params) : BT := (node (boot_o_0 P) (node (boot_o_1 P) (node (o256 P) (node (boot_o_7 P) (node (o6 P) (node (o25 P) (node (o63 P) (node (o129 P) (node (o268 P) nil nil) nil) (node (o199 P) nil nil)) (node (o95 P) (node (o164 P) (node (o300 P) nil nil) nil) (node (o234 P) nil nil))) (node (o44 P) (node (o79 P) (node (o145 P) (node (o284 P) nil nil) nil) (node (o218 P) nil nil)) (node (o113 P) (node (o183 P) (node (o316 P) nil nil) nil) (node (o250 P) nil nil)))) (node (o14 P) (node (o33 P) (node (o71 P) (node (o137 P) (node (o276 P) nil nil) nil) (node (o210 P) nil nil)) (node (o105 P) (node (o172 P) (node (o308 P) nil nil) nil) (node (o242 P) nil nil))) (node (o55 P) (node (o87 P) (node (o156 P) (node (o292 P) nil nil) nil) (node (o226 P) nil nil)) (node (o121 P) (node (o191 P) (node (o324 P) nil nil) nil) (node (o260 P) nil nil))))) (node (o0 P) (node (o10 P) (node (o29 P) (node (o67 P) (node (o133 P) (node (o272 P) nil nil) nil) (node (o203 P) nil nil)) (node (o101 P) (node (o168 P) (node (o304 P) nil nil) nil) (node (o238 P) nil nil))) (node (o48 P) (node (o83 P) (node (o152 P) (node (o288 P) nil nil) nil) (node (o222 P) nil nil)) (node (o117 P) (node (o187 P) (node (o320 P) nil nil) nil) (node (o254 P) nil nil)))) (node (o18 P) (node (o40 P) (node (o75 P) (node (o141 P) (node (o280 P) nil nil) nil) (node (o214 P) nil nil)) (node (o109 P) (node (o176 P) (node (o312 P) nil nil) nil) (node (o246 P) nil nil))) (node (o59 P) (node (o91 P) (node (o160 P) (node (o296 P) nil nil) nil) (node (o230 P) nil nil)) (node (o125 P) (node (o195 P) (node (o328 P) nil nil) nil) (node (o264 P) nil nil)))))) (node (boot_o_5 P) (node (boot_o_9 P) (node (o8 P) (node (o27 P) (node (o65 P) (node (o131 P) (node (o270 P) nil nil) nil) (node (o201 P) nil nil)) (node (o97 P) (node (o166 P) (node (o302 P) nil nil) nil) (node (o236 P) nil nil))) (node (o46 P) (node (o81 P) (node (o147 P) (node (o286 P) nil nil) nil) (node (o220 P) nil nil)) (node (o115 P) (node (o185 P) (node (o318 P) nil nil) nil) (node (o252 P) nil nil)))) (node (o16 P) (node (o38 P) (node (o73 P) (node (o139 P) (node (o278 P) nil nil) nil) (node (o212 P) nil nil)) (node (o107 P) (node (o174 P) (node (o310 P) nil nil) nil) (node (o244 P) nil nil))) (node (o57 P) (node (o89 P) (node (o158 P) (node (o294 P) nil nil) nil) (node (o228 P) nil nil)) (node (o123 P) (node (o193 P) (node (o326 P) nil nil) nil) (node (o262 P) nil nil))))) (node (o2 P) (node (o12 P) (node (o31 P) (node (o69 P) (node (o135 P) (node (o274 P) nil nil) nil) (node (o205 P) nil nil)) (node (o103 P) (node (o170 P) (node (o306 P) nil nil) nil) (node (o240 P) nil nil))) (node (o53 P) (node (o85 P) (node (o154 P) (node (o290 P) nil nil) nil) (node (o224 P) nil nil)) (node (o119 P) (node (o189 P) (node (o322 P) nil nil) nil) (node (o258 P) nil nil)))) (node (o23 P) (node (o42 P) (node (o77 P) (node (o208 P) (node (o282 P) nil nil) nil) (node (o216 P) nil nil)) (node (o111 P) (node (o181 P) (node (o314 P) nil nil) nil) (node (o248 P) nil nil))) (node (o61 P) (node (o93 P) (node (o162 P) (node (o298 P) nil nil) nil) (node (o232 P) nil nil)) (node (o127 P) (node (o197 P) (node (o330 P) nil nil) nil) (node (o266 P) nil nil))))))) (node (boot_o_2 P) (node (boot_o_4 P) (node (boot_o_8 P) (node (o7 P) (node (o26 P) (node (o64 P) (node (o130 P) (node (o269 P) nil nil) nil) (node (o200 P) nil nil)) (node (o96 P) (node (o165 P) (node (o301 P) nil nil) nil) (node (o235 P) nil nil))) (node (o45 P) (node (o80 P) (node (o146 P) (node (o285 P) nil nil) nil) (node (o219 P) nil nil)) (node (o114 P) (node (o184 P) (node (o317 P) nil nil) nil) (node (o251 P) nil nil)))) (node (o51 P) (node (o37 P) (node (o72 P) (node (o138 P) (node (o277 P) nil nil) nil) (node (o211 P) nil nil)) (node (o106 P) (node (o173 P) (node (o309 P) nil nil) nil) (node (o243 P) nil nil))) (node (o56 P) (node (o88 P) (node (o157 P) (node (o293 P) nil nil) nil) (node (o227 P) nil nil)) (node (o122 P) (node (o192 P) (node (o325 P) nil nil) nil) (node (o261 P) nil nil))))) (node (o257 P) (node (o11 P) (node (o30 P) (node (o68 P) (node (o134 P) (node (o273 P) nil nil) nil) (node (o204 P) nil nil)) (node (o102 P) (node (o169 P) (node (o305 P) nil nil) nil) (node (o239 P) nil nil))) (node (o52 P) (node (o84 P) (node (o153 P) (node (o289 P) nil nil) nil) (node (o223 P) nil nil)) (node (o118 P) (node (o188 P) (node (o321 P) nil nil) nil) (node (o255 P) nil nil)))) (node (o22 P) (node (o41 P) (node (o76 P) (node (o142 P) (node (o281 P) nil nil) nil) (node (o215 P) nil nil)) (node (o110 P) (node (o180 P) (node (o313 P) nil nil) nil) (node (o247 P) nil nil))) (node (o60 P) (node (o92 P) (node (o161 P) (node (o297 P) nil nil) nil) (node (o231 P) nil nil)) (node (o126 P) (node (o196 P) (node (o329 P) nil nil) nil) (node (o265 P) nil nil)))))) (node (boot_o_6 P) (node (boot_o_10 P) (node (o9 P) (node (o28 P) (node (o66 P) (node (o132 P) (node (o271 P) nil nil) nil) (node (o202 P) nil nil)) (node (o98 P) (node (o167 P) (node (o303 P) nil nil) nil) (node (o237 P) nil nil))) (node (o47 P) (node (o82 P) (node (o151 P) (node (o287 P) nil nil) nil) (node (o221 P) nil nil)) (node (o116 P) (node (o186 P) (node (o319 P) nil nil) nil) (node (o253 P) nil nil)))) (node (o17 P) (node (o39 P) (node (o74 P) (node (o140 P) (node (o279 P) nil nil) nil) (node (o213 P) nil nil)) (node (o108 P) (node (o175 P) (node (o311 P) nil nil) nil) (node (o245 P) nil nil))) (node (o58 P) (node (o90 P) (node (o159 P) (node (o295 P) nil nil) nil) (node (o229 P) nil nil)) (node (o124 P) (node (o194 P) (node (o327 P) nil nil) nil) (node (o263 P) nil nil))))) (node (o3 P) (node (o13 P) (node (o32 P) (node (o70 P) (node (o136 P) (node (o275 P) nil nil) nil) (node (o209 P) nil nil)) (node (o104 P) (node (o171 P) (node (o307 P) nil nil) nil) (node (o241 P) nil nil))) (node (o54 P) (node (o86 P) (node (o155 P) (node (o291 P) nil nil) nil) (node (o225 P) nil nil)) (node (o120 P) (node (o190 P) (node (o323 P) nil nil) nil) (node (o259 P) nil nil)))) (node (o24 P) (node (o43 P) (node (o78 P) (node (o144 P) (node (o283 P) nil nil) nil) (node (o217 P) nil nil)) (node (o112 P) (node (o182 P) (node (o315 P) nil nil) nil) (node (o249 P) nil nil))) (node (o62 P) (node (o94 P) (node (o163 P) (node (o299 P) nil nil) nil) (node (o233 P) nil nil)) (node (o128 P) (node (o198 P) (node (o331 P) nil nil) nil) (node (o267 P) nil nil))))))))
def t10 (P : Params) : BT := (node (boot_o_0 P) (node (boot_o_1 P) (node (o332 P) (node (boot_o_7 P) (node (o6 P) (node (o25 P) (node (o63 P) (node (o129 P) (node (o268 P) nil nil) nil) (node (o199 P) (node (o334 P) nil nil) nil)) (node (o95 P) (node (o164 P) (node (o300 P) nil nil) nil) (node (o234 P) (node (o366 P) nil nil) nil))) (node (o44 P) (node (o79 P) (node (o145 P) (node (o284 P) nil nil) nil) (node (o218 P) (node (o350 P) nil nil) nil)) (node (o113 P) (node (o183 P) (node (o316 P) nil nil) nil) (node (o250 P) nil nil)))) (node (o14 P) (node (o33 P) (node (o71 P) (node (o137 P) (node (o276 P) nil nil) nil) (node (o210 P) (node (o342 P) nil nil) nil)) (node (o105 P) (node (o172 P) (node (o308 P) nil nil) nil) (node (o242 P) nil nil))) (node (o55 P) (node (o87 P) (node (o156 P) (node (o292 P) nil nil) nil) (node (o226 P) (node (o358 P) nil nil) nil)) (node (o121 P) (node (o191 P) (node (o324 P) nil nil) nil) (node (o260 P) nil nil))))) (node (o0 P) (node (o10 P) (node (o29 P) (node (o67 P) (node (o133 P) (node (o272 P) nil nil) nil) (node (o203 P) (node (o338 P) nil nil) nil)) (node (o101 P) (node (o168 P) (node (o304 P) nil nil) nil) (node (o238 P) nil nil))) (node (o48 P) (node (o83 P) (node (o152 P) (node (o288 P) nil nil) nil) (node (o222 P) (node (o354 P) nil nil) nil)) (node (o117 P) (node (o187 P) (node (o320 P) nil nil) nil) (node (o254 P) nil nil)))) (node (o18 P) (node (o40 P) (node (o75 P) (node (o141 P) (node (o280 P) nil nil) nil) (node (o214 P) (node (o346 P) nil nil) nil)) (node (o109 P) (node (o176 P) (node (o312 P) nil nil) nil) (node (o246 P) nil nil))) (node (o59 P) (node (o91 P) (node (o160 P) (node (o296 P) nil nil) nil) (node (o230 P) (node (o362 P) nil nil) nil)) (node (o125 P) (node (o195 P) (node (o328 P) nil nil) nil) (node (o264 P) nil nil)))))) (node (boot_o_5 P) (node (boot_o_9 P) (node (o8 P) (node (o27 P) (node (o65 P) (node (o131 P) (node (o270 P) nil nil) nil) (node (o201 P) (node (o336 P) nil nil) nil)) (node (o97 P) (node (o166 P) (node (o302 P) nil nil) nil) (node (o236 P) (node (o368 P) nil nil) nil))) (node (o46 P) (node (o81 P) (node (o147 P) (node (o286 P) nil nil) nil) (node (o220 P) (node (o352 P) nil nil) nil)) (node (o115 P) (node (o185 P) (node (o318 P) nil nil) nil) (node (o252 P) nil nil)))) (node (o16 P) (node (o38 P) (node (o73 P) (node (o139 P) (node (o278 P) nil nil) nil) (node (o212 P) (node (o344 P) nil nil) nil)) (node (o107 P) (node (o174 P) (node (o310 P) nil nil) nil) (node (o244 P) nil nil))) (node (o57 P) (node (o89 P) (node (o158 P) (node (o294 P) nil nil) nil) (node (o228 P) (node (o360 P) nil nil) nil)) (node (o123 P) (node (o193 P) (node (o326 P) nil nil) nil) (node (o262 P) nil nil))))) (node (o2 P) (node (o12 P) (node (o31 P) (node (o69 P) (node (o135 P) (node (o274 P) nil nil) nil) (node (o205 P) (node (o340 P) nil nil) nil)) (node (o103 P) (node (o170 P) (node (o306 P) nil nil) nil) (node (o240 P) nil nil))) (node (o53 P) (node (o85 P) (node (o154 P) (node (o290 P) nil nil) nil) (node (o224 P) (node (o356 P) nil nil) nil)) (node (o119 P) (node (o189 P) (node (o322 P) nil nil) nil) (node (o258 P) nil nil)))) (node (o23 P) (node (o42 P) (node (o77 P) (node (o208 P) (node (o282 P) nil nil) nil) (node (o216 P) (node (o348 P) nil nil) nil)) (node (o111 P) (node (o181 P) (node (o314 P) nil nil) nil) (node (o248 P) nil nil))) (node (o61 P) (node (o93 P) (node (o162 P) (node (o298 P) nil nil) nil) (node (o232 P) (node (o364 P) nil nil) nil)) (node (o127 P) (node (o197 P) (node (o330 P) nil nil) nil) (node (o266 P) nil nil))))))) (node (boot_o_2 P) (node (boot_o_4 P) (node (boot_o_8 P) (node (o7 P) (node (o26 P) (node (o64 P) (node (o130 P) (node (o269 P) nil nil) nil) (node (o200 P) (node (o335 P) nil nil) nil)) (node (o96 P) (node (o165 P) (node (o301 P) nil nil) nil) (node (o235 P) (node (o367 P) nil nil) nil))) (node (o45 P) (node (o80 P) (node (o146 P) (node (o285 P) nil nil) nil) (node (o219 P) (node (o351 P) nil nil) nil)) (node (o114 P) (node (o184 P) (node (o317 P) nil nil) nil) (node (o251 P) nil nil)))) (node (o51 P) (node (o37 P) (node (o72 P) (node (o138 P) (node (o277 P) nil nil) nil) (node (o211 P) (node (o343 P) nil nil) nil)) (node (o106 P) (node (o173 P) (node (o309 P) nil nil) nil) (node (o243 P) nil nil))) (node (o56 P) (node (o88 P) (node (o157 P) (node (o293 P) nil nil) nil) (node (o227 P) (node (o359 P) nil nil) nil)) (node (o122 P) (node (o192 P) (node (o325 P) nil nil) nil) (node (o261 P) nil nil))))) (node (o333 P) (node (o11 P) (node (o30 P) (node (o68 P) (node (o134 P) (node (o273 P) nil nil) nil) (node (o204 P) (node (o339 P) nil nil) nil)) (node (o102 P) (node (o169 P) (node (o305 P) nil nil) nil) (node (o239 P) nil nil))) (node (o52 P) (node (o84 P) (node (o153 P) (node (o289 P) nil nil) nil) (node (o223 P) (node (o355 P) nil nil) nil)) (node (o118 P) (node (o188 P) (node (o321 P) nil nil) nil) (node (o255 P) nil nil)))) (node (o22 P) (node (o41 P) (node (o76 P) (node (o142 P) (node (o281 P) nil nil) nil) (node (o215 P) (node (o347 P) nil nil) nil)) (node (o110 P) (node (o180 P) (node (o313 P) nil nil) nil) (node (o247 P) nil nil))) (node (o60 P) (node (o92 P) (node (o161 P) (node (o297 P) nil nil) nil) (node (o231 P) (node (o363 P) nil nil) nil)) (node (o126 P) (node (o196 P) (node (o329 P) nil nil) nil) (node (o265 P) nil nil)))))) (node (boot_o_6 P) (node (boot_o_10 P) (node (o9 P) (node (o28 P) (node (o66 P) (node (o132 P) (node (o271 P) nil nil) nil) (node (o202 P) (node (o337 P) nil nil) nil)) (node (o98 P) (node (o167 P) (node (o303 P) nil nil) nil) (node (o237 P) nil nil))) (node (o47 P) (node (o82 P) (node (o151 P) (node (o287 P) nil nil) nil) (node (o221 P) (node (o353 P) nil nil) nil)) (node (o116 P) (node (o186 P) (node (o319 P) nil nil) nil) (node (o253 P) nil nil)))) (node (o17 P) (node (o39 P) (node (o74 P) (node (o140 P) (node (o279 P) nil nil) nil) (node (o213 P) (node (o345 P) nil nil) nil)) (node (o108 P) (node (o175 P) (node (o311 P) nil nil) nil) (node (o245 P) nil nil))) (node (o58 P) (node (o90 P) (node (o159 P) (node (o295 P) nil nil) nil) (node (o229 P) (node (o361 P) nil nil) nil)) (node (o124 P) (node (o194 P) (node (o327 P) nil nil) nil) (node (o263 P) nil nil))))) (node (o3 P) (node (o13 P) (node (o32 P) (node (o70 P) (node (o136 P) (node (o275 P) nil nil) nil) (node (o209 P) (node (o341 P) nil nil) nil)) (node (o104 P) (node (o171 P) (node (o307 P) nil nil) nil) (node (o241 P) nil nil))) (node (o54 P) (node (o86 P) (node (o155 P) (node (o291 P) nil nil) nil) (node (o225 P) (node (o357 P) nil nil) nil)) (node (o120 P) (node (o190 P) (node (o323 P) nil nil) nil) (node (o259 P) nil nil)))) (node (o24 P) (node (o43 P) (node (o78 P) (node (o144 P) (node (o283 P) nil nil) nil) (node (o217 P) (node (o349 P) nil nil) nil)) (node (o112 P) (node (o182 P) (node (o315 P) nil nil) nil) (node (o249 P) nil nil))) (node (o62 P) (node (o94 P) (node (o163 P) (node (o299 P) nil nil) nil) (node (o233 P) (node (o365 P) nil nil) nil)) (node (o128 P) (node (o198 P) (node (o331 P) nil nil) nil) (node (o267 P) nil nil))))))))
def hFin (P : Params) : Heap := ⟨⟨[boot_o_0 P, boot_o_1 P, boot_o_2 P, o332 P, boot_o_4 P, boot_o_5 P, boot_o_6 P, boot_o_7 P, boot_o_8 P, boot_o_9 P, boot_o_10 P, o0 P, o333 P, o2 P, o3 P, o6 P, o7 P, o8 P, o9 P, o10 P, o11 P, o12 P, o13 P, o14 P, o51 P, o16 P, o17 P, o18 P, o22 P, o23 P, o24 P, o25 P, o26 P, o27 P, o28 P, o29 P, o30 P, o31 P, o32 P, o33 P, o37 P, o38 P, o39 P, o40 P, o41 P, o42 P, o43 P, o44 P, o45 P, o46 P, o47 P, o48 P, o52 P, o53 P, o54 P, o55 P, o56 P, o57 P, o58 P, o59 P, o60 P, o61 P, o62 P, o63 P, o64 P, o65 P, o66 P, o67 P, o68 P, o69 P, o70 P, o71 P, o72 P, o73 P, o74 P, o75 P, o76 P, o77 P, o78 P, o79 P, o80 P, o81 P, o82 P, o83 P, o84 P, o85 P, o86 P, o87 P, o88 P, o89 P, o90 P, o91 P, o92 P, o93 P, o94 P, o95 P, o96 P, o97 P, o98 P, o101 P, o102 P, o103 P, o104 P, o105 P, o106 P, o107 P, o108 P, o109 P, o110 P, o111 P, o112 P, o113 P, o114 P, o115 P, o116 P, o117 P, o118 P, o119 P, o120 P, o121 P, o122 P, o123 P, o124 P, o125 P, o126 P, o127 P, o128 P, o129 P, o130 P, o131 P, o132 P, o133 P, o134 P, o135 P, o136 P, o137 P, o138 P, o139 P, o140 P, o141 P, o142 P, o208 P, o144 P, o145 P, o146 P, o147 P, o151 P, o152 P, o153 P, o154 P, o155 P, o156 P, o157 P, o158 P, o159 P, o160 P, o161 P, o162 P, o163 P, o164 P, o165 P, o166 P, o167 P, o168 P, o169 P, o170 P, o171 P, o172 P, o173 P, o174 P, o175 P, o176 P, o180 P, o181 P, o182 P, o183 P, o184 P, o185 P, o186 P, o187 P, o188 P, o189 P, o190 P, o191 P, o192 P, o193 P, o194 P, o195 P, o196 P, o197 P, o198 P, o199 P, o200 P, o201 P, o202 P, o203 P, o204 P, o205 P, o209 P, o210 P, o211 P, o212 P, o213 P, o214 P, o215 P, o216 P, o217 P, o218 P, o219 P, o220 P, o221 P, o222 P, o223 P, o224 P, o225 P, o226 P, o227 P, o228 P, o229 P, o230 P, o231 P, o232 P, o233 P, o234 P, o235 P, o236 P, o237 P, o238 P, o239 P, o240 P, o241 P, o242 P, o243 P, o244 P, o245 P, o246 P, o247 P, o248 P, o249 P, o250 P, o251 P, o252 P, o253 P, o254 P, o255 P, o258 P, o259 P, o260 P, o261 P, o262 P, o263 P, o264 P, o265 P, o266 P, o267 P, o268 P, o269 P, o270 P, o271 P, o272 P, o273 P, o274 P, o275 P, o276 P, o277 P, o278 P, o279 P, o280 P, o281 P, o282 P, o283 P, o284 P, o285 P, o286 P, o287 P, o288 P, o289 P, o290 P, o291 P, o292 P, o293 P, o294 P, o295 P, o296 P, o297 P, o298 P, o299 P, o300 P, o301 P, o302 P, o303 P, o304 P, o305 P, o306 P, o307 P, o308 P, o309 P, o310 P, o311 P, o312 P, o313 P, o314 P, o315 P, o316 P, o317 P, o318 P, o319 P, o320 P, o321 P, o322 P, o323 P, o324 P, o325 P, o326 P, o327 P, o328 P, o329 P, o330 P, o331 P, o334 P, o335 P, o336 P, o337 P, o338 P, o339 P, o340 P, o341 P, o342 P, o343 P, o344 P, o345 P, o346 P, o347 P, o348 P, o349 P, o350 P, o351 P, o352 P, o353 P, o354 P, o355 P, o356 P, o357 P, o358 P, o359 P, o360 P, o361 P, o362 P, o363 P, o364 P, o365 P, o366 P, o367 P, o368 P]⟩, {  }⟩
def hK (P : Params) : Frag := (nat_lit 2, boot_o_2 P) :: (nat_lit 3, o332 P) :: (nat_lit 15, o6 P) :: (nat_lit 22, o13 P) :: (nat_lit 23, o14 P) :: (nat_lit 24, o51 P) :: (nat_lit 25, o16 P) :: (nat_lit 28, o22 P) :: (nat_lit 35, o29 P) :: (nat_lit 36, o30 P) :: (nat_lit 37, o31 P) :: (nat_lit 40, o37 P) :: (nat_lit 47, o44 P) :: (nat_lit 48, o45 P) :: (nat_lit 49, o46 P) :: (nat_lit 52, o52 P) :: (nat_lit 59, o59 P) :: (nat_lit 60, o60 P) :: (nat_lit 61, o61 P) :: (nat_lit 64, o64 P) :: (nat_lit 66, o66 P) :: (nat_lit 67, o67 P) :: (nat_lit 69, o69 P) :: (nat_lit 70, o70 P) :: (nat_lit 71, o71 P) :: (nat_lit 73, o73 P) :: (nat_lit 74, o74 P) :: (nat_lit 76, o76 P) :: (nat_lit 77, o77 P) :: (nat_lit 78, o78 P) :: (nat_lit 80, o80 P) :: (nat_lit 81, o81 P) :: (nat_lit 83, o83 P) :: (nat_lit 84, o84 P) :: (nat_lit 85, o85 P) :: (nat_lit 87, o87 P) :: (nat_lit 88, o88 P) :: (nat_lit 90, o90 P) :: (nat_lit 91, o91 P) :: (nat_lit 92, o92 P) :: (nat_lit 94, o94 P) :: (nat_lit 95, o95 P) :: (nat_lit 97, o97 P) :: (nat_lit 98, o98 P) :: (nat_lit 99, o101 P) :: (nat_lit 101, o103 P) :: (nat_lit 102, o104 P) :: (nat_lit 104, o106 P) :: (nat_lit 105, o107 P) :: (nat_lit 106, o108 P) :: (nat_lit 108, o110 P) :: (nat_lit 109, o111 P) :: (nat_lit 111, o113 P) :: (nat_lit 112, o114 P) :: (nat_lit 113, o115 P) :: (nat_lit 115, o117 P) :: (nat_lit 116, o118 P) :: (nat_lit 118, o120 P) :: (nat_lit 119, o121 P) :: (nat_lit 120, o122 P) :: (nat_lit 122, o124 P) :: (nat_lit 123, o125 P) :: (nat_lit 125, o127 P) :: (nat_lit 126, o128 P) :: (nat_lit 127, o129 P) :: (nat_lit 130, o132 P) :: (nat_lit 131, o133 P) :: (nat_lit 139, o141 P) :: (nat_lit 140, o142 P) :: (nat_lit 141, o208 P) :: (nat_lit 142, o144 P) :: (nat_lit 143, o145 P) :: (nat_lit 146, o151 P) :: (nat_lit 153, o158 P) :: (nat_lit 155, o160 P) :: (nat_lit 156, o161 P) :: (nat_lit 158, o163 P) :: (nat_lit 159, o164 P) :: (nat_lit 160, o165 P) :: (nat_lit 162, o167 P) :: (nat_lit 163, o168 P) :: (nat_lit 165, o170 P) :: (nat_lit 166, o171 P) :: (nat_lit 167, o172 P) :: (nat_lit 168, o173 P) :: (nat_lit 169, o174 P) :: (nat_lit 172, o180 P) :: (nat_lit 179, o187 P) :: (nat_lit 181, o189 P) :: (nat_lit 182, o190 P) :: (nat_lit 184, o192 P) :: (nat_lit 185, o193 P) :: (nat_lit 186, o194 P) :: (nat_lit 188, o196 P) :: (nat_lit 189, o197 P) :: (nat_lit 191, o199 P) :: (nat_lit 192, o200 P) :: (nat_lit 193, o201 P) :: (nat_lit 194, o202 P) :: (nat_lit 195, o203 P) :: (nat_lit 198, o209 P) :: (nat_lit 205, o216 P) :: (nat_lit 207, o218 P) :: (nat_lit 208, o219 P) :: (nat_lit 210, o221 P) :: (nat_lit 211, o222 P) :: (nat_lit 212, o223 P) :: (nat_lit 214, o225 P) :: (nat_lit 215, o226 P) :: (nat_lit 217, o228 P) :: (nat_lit 218, o229 P) :: (nat_lit 219, o230 P) :: (nat_lit 220, o231 P) :: (nat_lit 221, o232 P) :: (nat_lit 224, o235 P) :: (nat_lit 226, o237 P) :: (nat_lit 227, o238 P) :: (nat_lit 229, o240 P) :: (nat_lit 230, o241 P) :: (nat_lit 231, o242 P) :: (nat_lit 233, o244 P) :: (nat_lit 234, o245 P) :: (nat_lit 236, o247 P) :: (nat_lit 237, o248 P) :: (nat_lit 238, o249 P) :: (nat_lit 240, o251 P) :: (nat_lit 241, o252 P) :: (nat_lit 243, o254 P) :: (nat_lit 244, o255 P) :: (nat_lit 245, o258 P) :: (nat_lit 247, o260 P) :: (nat_lit 248, o261 P) :: (nat_lit 250, o263 P) :: (nat_lit 251, o264 P) :: (nat_lit 252, o265 P) :: (nat_lit 254, o267 P) :: (nat_lit 255, o268 P) :: (nat_lit 257, o270 P) :: (nat_lit 258, o271 P) :: (nat_lit 259, o272 P) :: (nat_lit 261, o274 P) :: (nat_lit 262, o275 P) :: (nat_lit 264, o277 P) :: (nat_lit 265, o278 P) :: (nat_lit 266, o279 P) :: (nat_lit 268, o281 P) :: (nat_lit 269, o282 P) :: (nat_lit 271, o284 P) :: (nat_lit 272, o285 P) :: (nat_lit 273, o286 P) :: (nat_lit 275, o288 P) :: (nat_lit 276, o289 P) :: (nat_lit 278, o291 P) :: (nat_lit 279, o292 P) :: (nat_lit 280, o293 P) :: (nat_lit 282, o295 P) :: (nat_lit 283, o296 P) :: (nat_lit 285, o298 P) :: (nat_lit 286, o299 P) :: (nat_lit 287, o300 P) :: (nat_lit 290, o303 P) :: (nat_lit 291, o304 P) :: (nat_lit 292, o305 P) :: (nat_lit 295, o308 P) :: (nat_lit 296, o309 P) :: (nat_lit 297, o310 P) :: (nat_lit 300, o313 P) :: (nat_lit 301, o314 P) :: (nat_lit 302, o315 P) :: (nat_lit 305, o318 P) :: (nat_lit 306, o319 P) :: (nat_lit 307, o320 P) :: (nat_lit 310, o323 P) :: (nat_lit 311, o324 P) :: (nat_lit 312, o325 P) :: (nat_lit 314, o327 P) :: (nat_lit 315, o328 P) :: (nat_lit 317, o330 P) :: (nat_lit 318, o331 P) :: (nat_lit 319, o334 P) :: (nat_lit 321, o336 P) :: (nat_lit 322, o337 P) :: (nat_lit 324, o339 P) :: (nat_lit 325, o340 P) :: (nat_lit 326, o341 P) :: (nat_lit 328, o343 P) :: (nat_lit 329, o344 P) :: (nat_lit 331, o346 P) :: (nat_lit 332, o347 P) :: (nat_lit 333, o348 P) :: (nat_lit 335, o350 P) :: (nat_lit 336, o351 P) :: (nat_lit 338, o353 P) :: (nat_lit 339, o354 P) :: (nat_lit 340, o355 P) :: (nat_lit 342, o357 P) :: (nat_lit 343, o358 P) :: (nat_lit 345, o360 P) :: (nat_lit 346, o361 P) :: (nat_lit 347, o362 P) :: (nat_lit 349, o364 P) :: (nat_lit 350, o365 P) :: (nat_lit 352, o367 P) :: (nat_lit 353, o368 P) :: []
def hAs : List Addr := nat_lit 2 :: nat_lit 3 :: nat_lit 15 :: nat_lit 22 :: nat_lit 23 :: nat_lit 24 :: nat_lit 25 :: nat_lit 28 :: nat_lit 35 :: nat_lit 36 :: nat_lit 37 :: nat_lit 40 :: nat_lit 47 :: nat_lit 48 :: nat_lit 49 :: nat_lit 52 :: nat_lit 59 :: nat_lit 60 :: nat_lit 61 :: nat_lit 64 :: nat_lit 66 :: nat_lit 67 :: nat_lit 69 :: nat_lit 70 :: nat_lit 71 :: nat_lit 73 :: nat_lit 74 :: nat_lit 76 :: nat_lit 77 :: nat_lit 78 :: nat_lit 80 :: nat_lit 81 :: nat_lit 83 :: nat_lit 84 :: nat_lit 85 :: nat_lit 87 :: nat_lit 88 :: nat_lit 90 :: nat_lit 91 :: nat_lit 92 :: nat_lit 94 :: nat_lit 95 :: nat_lit 97 :: nat_lit 98 :: nat_lit 99 :: nat_lit 101 :: nat_lit 102 :: nat_lit 104 :: nat_lit 105 :: nat_lit 106 :: nat_lit 108 :: nat_lit 109 :: nat_lit 111 :: nat_lit 112 :: nat_lit 113 :: nat_lit 115 :: nat_lit 116 :: nat_lit 118 :: nat_lit 119 :: nat_lit 120 :: nat_lit 122 :: nat_lit 123 :: nat_lit 125 :: nat_lit 126 :: nat_lit 127 :: nat_lit 130 :: nat_lit 131 :: nat_lit 139 :: nat_lit 140 :: nat_lit 141 :: nat_lit 142 :: nat_lit 143 :: nat_lit 146 :: nat_lit 153 :: nat_lit 155 :: nat_lit 156 :: nat_lit 158 :: nat_lit 159 :: nat_lit 160 :: nat_lit 162 :: nat_lit 163 :: nat_lit 165 :: nat_lit 166 :: nat_lit 167 :: nat_lit 168 :: nat_lit 169 :: nat_lit 172 :: nat_lit 179 :: nat_lit 181 :: nat_lit 182 :: nat_lit 184 :: nat_lit 185 :: nat_lit 186 :: nat_lit 188 :: nat_lit 189 :: nat_lit 191 :: nat_lit 192 :: nat_lit 193 :: nat_lit 194 :: nat_lit 195 :: nat_lit 198 :: nat_lit 205 :: nat_lit 207 :: nat_lit 208 :: nat_lit 210 :: nat_lit 211 :: nat_lit 212 :: nat_lit 214 :: nat_lit 215 :: nat_lit 217 :: nat_lit 218 :: nat_lit 219 :: nat_lit 220 :: nat_lit 221 :: nat_lit 224 :: nat_lit 226 :: nat_lit 227 :: nat_lit 229 :: nat_lit 230 :: nat_lit 231 :: nat_lit 233 :: nat_lit 234 :: nat_lit 236 :: nat_lit 237 :: nat_lit 238 :: nat_lit 240 :: nat_lit 241 :: nat_lit 243 :: nat_lit 244 :: nat_lit 245 :: nat_lit 247 :: nat_lit 248 :: nat_lit 250 :: nat_lit 251 :: nat_lit 252 :: nat_lit 254 :: nat_lit 255 :: nat_lit 257 :: nat_lit 258 :: nat_lit 259 :: nat_lit 261 :: nat_lit 262 :: nat_lit 264 :: nat_lit 265 :: nat_lit 266 :: nat_lit 268 :: nat_lit 269 :: nat_lit 271 :: nat_lit 272 :: nat_lit 273 :: nat_lit 275 :: nat_lit 276 :: nat_lit 278 :: nat_lit 279 :: nat_lit 280 :: nat_lit 282 :: nat_lit 283 :: nat_lit 285 :: nat_lit 286 :: nat_lit 287 :: nat_lit 290 :: nat_lit 291 :: nat_lit 292 :: nat_lit 295 :: nat_lit 296 :: nat_lit 297 :: nat_lit 300 :: nat_lit 301 :: nat_lit 302 :: nat_lit 305 :: nat_lit 306 :: nat_lit 307 :: nat_lit 310 :: nat_lit 311 :: nat_lit 312 :: nat_lit 314 :: nat_lit 315 :: nat_lit 317 :: nat_lit 318 :: nat_lit 319 :: nat_lit 321 :: nat_lit 322 :: nat_lit 324 :: nat_lit 325 :: nat_lit 326 :: nat_lit 328 :: nat_lit 329 :: nat_lit 331 :: nat_lit 332 :: nat_lit 333 :: nat_lit 335 :: nat_lit 336 :: nat_lit 338 :: nat_lit 339 :: nat_lit 340 :: nat_lit 342 :: nat_lit 343 :: nat_lit 345 :: nat_lit 346 :: nat_lit 347 :: nat_lit 349 :: nat_lit 350 :: nat_lit 352 :: nat_lit 353 :: []
def hEnv : Env := { scope := PySem.Challenge.pw_rulerow_k05_answers_by_hand.main.scope, locals := mainNs, globals := mainNs, cells := [], code := (.ref 13), frame := some 14 }
def hC : Code := .body (behindTheImports PySem.Challenge.pw_rulerow_k05_answers_by_hand) hEnv
end
section
variable {p : Program} {w : World} {m n b : Nat} {ann : Option Value} {t : Thread} {c : Code} {q q' : Pos} {B : List Frame} {r : Flow × Shared × Code × Pos}
theorem q_seg {s s' : SharedT} {f : Flow} (h : PySem.W.Fast.tw10110043849684766642 PySem.W.Fast.tw14364793385576792824 p w m ann b n s t = some (f, s', c, q)) : segRun treeTable p w m ann b n s.abs t = some (f, s'.abs, c, q) := segRun_of (by rw [PySem.W.Fast.te10110043849684766642, PySem.W.Fast.te14364793385576792824]; exact h)
theorem q_blk {s : Shared} (h : PySem.W.Fast.tw14374325043358763698 PySem.W.Fast.tw14364793385576792824 p w m ann b n s t = some r) : segRun treeTable p w m ann b n s t = some r := by rw [PySem.W.Fast.te14374325043358763698, PySem.W.Fast.te14364793385576792824]; exact h
theorem q_top {s s' : Shared} (h : PySem.W.Fast.tw14082659384304107361 PySem.W.Fast.tw14364793385576792824 p w m ann n s t = some s') : topRun treeTable p w m ann n s t = some s' := by rw [PySem.W.Fast.te14082659384304107361, PySem.W.Fast.te14364793385576792824]; exact h
theorem q_pre {s s' : Shared} (h : PySem.W.Fast.tw15667345088766844465 PySem.W.Fast.tw14364793385576792824 p w m ann n s t = some (s', ⟨PySem.W.Fast.tw11892475500146522536 PySem.W.Fast.tw14364793385576792824 c, c, q, B⟩)) : topGo treeTable p w m ann n s t = some (s', ⟨denote treeTable c, c, q, B⟩) := by rw [PySem.W.Fast.te15667345088766844465, PySem.W.Fast.te11892475500146522536, PySem.W.Fast.te14364793385576792824]; exact h
end
theorem h_pre (w : World) (os : OsState) : topGo treeTable PySem.Challenge.pw_rulerow_k05_answers_by_hand w 11 (some (.ref 6)) 12 ⟨boot_heap w.params, ⟨[]⟩, boot_drawn, boot_toks, os⟩ (topStub PySem.Challenge.pw_rulerow_k05_answers_by_hand) = some (⟨hPre w.params, ⟨[]⟩, ⟨0, 0, 0, 0⟩, 187, os⟩, ⟨denote treeTable hC, hC, ⟨0, 0, 0, 0⟩, [topFrame ⟨0, 0, 0, 0⟩]⟩) := q_pre (by kernel_rfl)
theorem h_blk (w : World) (os : OsState) : segRun treeTable PySem.Challenge.pw_rulerow_k05_answers_by_hand w 11 (some (.ref 6)) 1 1 ⟨hPre w.params, ⟨[]⟩, ⟨0, 0, 0, 0⟩, 187, os⟩ (blockOf (behindTheImports PySem.Challenge.pw_rulerow_k05_answers_by_hand) hEnv hC ⟨0, 0, 0, 0⟩ [topFrame ⟨0, 0, 0, 0⟩]) = some (.next, SharedT.abs ⟨t0 w.params, 15, {  }, ⟨[]⟩, ⟨0, 0, 0, 0⟩, 187, os⟩, hC, ⟨0, 0, 0, 0⟩) := q_blk (by kernel_rfl)
theorem pc0 (w : World) (os : OsState) : segRun treeTable PySem.Challenge.pw_rulerow_k05_answers_by_hand w 11 (some (.ref 6)) 1 196 (SharedT.abs ⟨t0 w.params, 15, {  }, ⟨[]⟩, ⟨0, 0, 0, 0⟩, 187, os⟩) (piecesOf [top 0, top 1] hEnv hC ⟨0, 0, 0, 0⟩ [topFrame ⟨0, 0, 0, 0⟩]) = some (.next, SharedT.abs ⟨t1 w.params, 28, {  }, ⟨[]⟩, ⟨0, 0, 0, 0⟩, 207, os⟩, hC, ⟨2, 0, 3, 8⟩) := q_seg (by kernel_rfl)
theorem pc1 (w : World) (os : OsState) : segRun treeTable PySem.Challenge.pw_rulerow_k05_answers_by_hand w 11 (some (.ref 6)) 1 214 (SharedT.abs ⟨t1 w.params, 28, {  }, ⟨[]⟩, ⟨0, 0, 0, 0⟩, 207, os⟩) (piecesOf [top 2] hEnv hC ⟨2, 0, 3, 8⟩ [topFrame ⟨0, 0, 0, 0⟩]) = some (.next, SharedT.abs ⟨t2 w.params, 40, {  }, ⟨[]⟩, ⟨0, 0, 0, 0⟩, 223, os⟩, hC, ⟨4, 0, 5, 8⟩) := q_seg (by kernel_rfl)
theorem pc2 (w : World) (os : OsState) : segRun treeTable PySem.Challenge.pw_rulerow_k05_answers_by_hand w 11 (some (.ref 6)) 1 214 (SharedT.abs ⟨t2 w.params, 40, {  }, ⟨[]⟩, ⟨0, 0, 0, 0⟩, 223, os⟩) (piecesOf [top 3] hEnv hC ⟨4, 0, 5, 8⟩ [topFrame ⟨0, 0, 0, 0⟩]) = some (.next, SharedT.abs ⟨t3 w.params, 52, {  }, ⟨[]⟩, ⟨0, 0, 0, 0⟩, 239, os⟩, hC, ⟨6, 0, 7, 8⟩) := q_seg (by kernel_rfl)
theorem pc3 (w : World) (os : OsState) : segRun treeTable PySem.Challenge.pw_rulerow_k05_answers_by_hand w 11 (some (.ref 6)) 1 390 (SharedT.abs ⟨t3 w.params, 52, {  }, ⟨[]⟩, ⟨0, 0, 0, 0⟩, 239, os⟩) (piecesOf [top 4, top 5, top 6, top 7, top 8, top 9, top 10, top 11, top 12] hEnv hC ⟨6, 0, 7, 8⟩ [topFrame ⟨0, 0, 0, 0⟩]) = some (.next, SharedT.abs ⟨t4 w.params, 99, {  }, ⟨[]⟩, ⟨0, 0, 0, 0⟩, 300, os⟩, hC, ⟨33, 0, 35, 51⟩) := q_seg (by kernel_rfl)
theorem pc4 (w : World) (os : OsState) : segRun treeTable PySem.Challenge.pw_rulerow_k05_answers_by_hand w 11 (some (.ref 6)) 1 360 (SharedT.abs ⟨t4 w.params, 99, {  }, ⟨[]⟩, ⟨0, 0, 0, 0⟩, 300, os⟩) (piecesOf [top 13, top 14, top 15, top 16, top 17, top 18, top 19, top 20] hEnv hC ⟨33, 0, 35, 51⟩ [topFrame ⟨0, 0, 0, 0⟩]) = some (.next, SharedT.abs ⟨t5 w.params, 146, {  }, ⟨[]⟩, ⟨0, 0, 0, 0⟩, 367, os⟩, hC, ⟨65, 0, 66, 8⟩) := q_seg (by kernel_rfl)
theorem pc5 (w : World) (os : OsState) : segRun treeTable PySem.Challenge.pw_rulerow_k05_answers_by_hand w 11 (some (.ref 6)) 1 283 (SharedT.abs ⟨t5 w.params, 146, {  }, ⟨[]⟩, ⟨0, 0, 0, 0⟩, 367, os⟩) (piecesOf [top 21] hEnv hC ⟨65, 0, 66, 8⟩ [topFrame ⟨0, 0, 0, 0⟩]) = some (.next, SharedT.abs ⟨t6 w.params, 172, {  }, ⟨[]⟩, ⟨0, 0, 0, 0⟩, 405, os⟩, hC, ⟨67, 0, 75, 72⟩) := q_seg (by kernel_rfl)
theorem pc6 (w : World) (os : OsState) : segRun treeTable PySem.Challenge.pw_rulerow_k05_answers_by_hand w 11 (some (.ref 6)) 1 283 (SharedT.abs ⟨t6 w.params, 172, {  }, ⟨[]⟩, ⟨0, 0, 0, 0⟩, 405, os⟩) (piecesOf [top 22] hEnv hC ⟨67, 0, 75, 72⟩ [topFrame ⟨0, 0, 0, 0⟩]) = some (.next, SharedT.abs ⟨t7 w.params, 198, {  }, ⟨[]⟩, ⟨0, 0, 0, 0⟩, 443, os⟩, hC, ⟨76, 0, 84, 100⟩) := q_seg (by kernel_rfl)
theorem pc7 (w : World) (os : OsState) : segRun treeTable PySem.Challenge.pw_rulerow_k05_answers_by_hand w 11 (some (.ref 6)) 1 389 (SharedT.abs ⟨t7 w.params, 198, {  }, ⟨[]⟩, ⟨0, 0, 0, 0⟩, 443, os⟩) (piecesOf [top 23, top 24, top 25, top 26, top 27] hEnv hC ⟨76, 0, 84, 100⟩ [topFrame ⟨0, 0, 0, 0⟩]) = some (.next, SharedT.abs ⟨t8 w.params, 245, {  }, ⟨[]⟩, ⟨0, 0, 0, 0⟩, 514, os⟩, hC, ⟨115, 0, 115, 8⟩) := q_seg (by kernel_rfl)
theorem pc8 (w : World) (os : OsState) : segRun treeTable PySem.Challenge.pw_rulerow_k05_answers_by_hand w 11 (some (.ref 6)) 1 373 (SharedT.abs ⟨t8 w.params, 245, {  }, ⟨[]⟩, ⟨0, 0, 0, 0⟩, 514, os⟩) (piecesOf [top 28, top 29, top 30, top 31, top 32, top 33, top 34, top 35, top 36, top 37, top 38, top 39, top 40] hEnv hC ⟨115, 0, 115, 8⟩ [topFrame ⟨0, 0, 0, 0⟩]) = some (.next, SharedT.abs ⟨t9 w.params, 319, {  }, ⟨[]⟩, ⟨0, 0, 0, 0⟩, 625, os⟩, hC, ⟨179, 0, 186, 179⟩) := q_seg (by kernel_rfl)
theorem pc9 (w : World) (os : OsState) : segRun treeTable PySem.Challenge.pw_rulerow_k05_answers_by_hand w 11 (some (.ref 6)) 1 185 (SharedT.abs ⟨t9 w.params, 319, {  }, ⟨[]⟩, ⟨0, 0, 0, 0⟩, 625, os⟩) (piecesOf [top 41, top 42, top 43, top 44, top 45] hEnv hC ⟨179, 0, 186, 179⟩ [topFrame ⟨0, 0, 0, 0⟩]) = some (.next, SharedT.abs ⟨t10 w.params, 354, {  }, ⟨[]⟩, ⟨0, 0, 0, 0⟩, 699, os⟩, hC, ⟨226, 0, 252, 66⟩) := q_seg (by kernel_rfl)
theorem h_fin (w : World) (os : OsState) : topRun treeTable PySem.Challenge.pw_rulerow_k05_answers_by_hand w 11 (some (.ref 6)) 2 (SharedT.abs ⟨t10 w.params, 354, {  }, ⟨[]⟩, ⟨0, 0, 0, 0⟩, 699, os⟩) ⟨doneF .next, hC, ⟨226, 0, 252, 66⟩, [topFrame ⟨0, 0, 0, 0⟩]⟩ = some ⟨hFin w.params, ⟨[]⟩, ⟨0, 0, 0, 0⟩, 699, os⟩ := q_top (by kernel_rfl)
theorem h_body : behindTheImports PySem.Challenge.pw_rulerow_k05_answers_by_hand = [top 0, top 1] ++ ([top 2] ++ ([top 3] ++ ([top 4, top 5, top 6, top 7, top 8, top 9, top 10, top 11, top 12] ++ ([top 13, top 14, top 15, top 16, top 17, top 18, top 19, top 20] ++ ([top 21] ++ ([top 22] ++ ([top 23, top 24, top 25, top 26, top 27] ++ ([top 28, top 29, top 30, top 31, top 32, top 33, top 34, top 35, top 36, top 37, top 38, top 39, top 40] ++ ([top 41, top 42, top 43, top 44, top 45] ++ ([])))))))))) := by kernel_rfl
theorem h_run (w : World) (os : OsState) : topRun treeTable PySem.Challenge.pw_rulerow_k05_answers_by_hand w 11 (some (.ref 6)) (12 + (1 + (196 + (214 + (214 + (390 + (360 + (283 + (283 + (389 + (373 + (185 + 2)))))))))))) ⟨boot_heap w.params, ⟨[]⟩, boot_drawn, boot_toks, os⟩ (topStub PySem.Challenge.pw_rulerow_k05_answers_by_hand) = some ⟨hFin w.params, ⟨[]⟩, ⟨0, 0, 0, 0⟩, 699, os⟩ :=
  go_top (h_pre w os) (piece_block (h_blk w os) ((congrArg (fun b => topRun treeTable PySem.Challenge.pw_rulerow_k05_answers_by_hand w 11 (some (.ref 6)) _ _ (restOf b hEnv hC ⟨0, 0, 0, 0⟩ [topFrame ⟨0, 0, 0, 0⟩])) h_body).trans
    (piece_app (pc0 w os) (piece_app (pc1 w os) (piece_app (pc2 w os) (piece_app (pc3 w os) (piece_app (pc4 w os) (piece_app (pc5 w os) (piece_app (pc6 w os) (piece_app (pc7 w os) (piece_app (pc8 w os) (piece_app (pc9 w os) (piece_nil (h_fin w os))))))))))))))
noncomputable def hQ : Program := { PySem.Challenge.pw_rulerow_k05_answers_by_hand with main := { PySem.Challenge.pw_rulerow_k05_answers_by_hand.main with body := [top 45] } }
noncomputable def hLoose : List Str := [(Str.ofString "RuleError"), (Str.ofString "BadPrime"), (Str.ofString "BadRow"), (Str.ofString "BadRule"), (Str.ofString "LOWEST_PRIME"), (Str.ofString "HIGHEST_PRIME"), (Str.ofString "is_whole"), (Str.ofString "is_prime"), (Str.ofString "is_rest"), (Str.ofString "are_rests"), (Str.ofString "need_prime"), (Str.ofString "need_rule"), (Str.ofString "need_row"), (Str.ofString "inverse"), (Str.ofString "makes"), (Str.ofString "due"), (Str.ofString "Answer"), (Str.ofString "Least"), (Str.ofString "Only"), (Str.ofString "Another"), (Str.ofString "is_sole"), (Str.ofString "is_least"), (Str.ofString "fails_first_at"), (Str.ofString "least"), (Str.ofString "unlike"), (Str.ofString "mixed"), (Str.ofString "_law_cell_at"), (Str.ofString "_law_draw"), (Str.ofString "_law_prime"), (Str.ofString "_law_rests"), (Str.ofString "_law_row"), (Str.ofString "_law_due"), (Str.ofString "_law_made"), (Str.ofString "_law_rested"), (Str.ofString "_law_least"), (Str.ofString "_law_says"), (Str.ofString "_law_bent"), (Str.ofString "_law_right"), (Str.ofString "_law_another_right")]
noncomputable def hXt (s : Shared) : Bool := xlAt hQ [] s && recOk (RowW.records (OpenRow.toRowW (OpenLaw.row PySem.Challenge.rw_rulerow_k05_answers_by_hand))) s
theorem h_as (P : Params) : hAs = (hK P).map (·.1) := by kernel_rfl
noncomputable abbrev hHook : Hook := kHook hK hAs h_as
theorem h_open (w : World) : (fencedOpening treeTable PySem.Challenge.pw_rulerow_k05_answers_by_hand w 5880).map (fun s => (s.heap, s.gens, s.drawn, s.toks)) = some (boot_heap w.params, Array.mk [], boot_drawn, boot_toks) :=
  boot_open (by kernel_rfl) (by decide) (fun s => by kernel_rfl) w
theorem h_size (w : World) : ((boot_heap w.params).isNs mainGlobals && (Array.mk [] : Array GenState).size == 0, (boot_heap w.params).objs.size, (boot_heap w.params).nsMap mainGlobals "__annotations__") = (true, 11, (some (.ref 6))) := by kernel_rfl
theorem h_lk1 (w : World) (os : OsState) : (staticsOk (importedModules PySem.Challenge.pw_rulerow_k05_answers_by_hand.main.body) (boot_heap w.params) (hFin w.params) && namesBound PySem.Challenge.pw_rulerow_k05_answers_by_hand (hFin w.params) && gensDone ⟨hFin w.params, ⟨[]⟩, ⟨0, 0, 0, 0⟩, 699, os⟩ && laidKept (boot_heap w.params) (hFin w.params)) = true := by rw [PySem.W.Fast.te5923862056798008813]; kernel_rfl
theorem h_lk2 (w : World) (os : OsState) : openSeen hQ hLoose (importedModules PySem.Challenge.pw_rulerow_k05_answers_by_hand.main.body) hXt true ⟨hFin w.params, ⟨[]⟩, ⟨0, 0, 0, 0⟩, 699, os⟩ = openGood hQ hLoose := by rw [PySem.W.Fast.te4187177175401517315, PySem.W.Fast.te5923862056798008813]; kernel_rfl
theorem h_lk3 (w : World) (os : OsState) : Hook.obs hHook ⟨hFin w.params, ⟨[]⟩, ⟨0, 0, 0, 0⟩, 699, os⟩ = Hook.val hHook w := by kernel_rfl
theorem h_left : LeftO PySem.Challenge.pw_rulerow_k05_answers_by_hand hQ hLoose hXt (Hook.obs hHook) (Hook.val hHook) 5880 :=
  LeftO.of_pieces h_open h_size h_run (by decide) fun w => funext fun os => looks_pair (h_lk1 w os) (looks_pair (h_lk2 w os) (h_lk3 w os))
theorem h_said : OpenLaw.wellSaid PySem.Challenge.rw_rulerow_k05_answers_by_hand = true := by rw [PySem.W.Fast.te9446332074065402090]; kernel_rfl
end Rr

set_option Elab.async false
set_option linter.all false
open PySem PySem.W PyProof.Rows
set_option maxRecDepth 100000 in
set_option maxHeartbeats 0 in
theorem PySem.Challenge.cw_rulerow_k05_answers_by_hand_holds : PySem.Challenge.rw_rulerow_k05_answers_by_hand.Holds := by
  w_on
  refine holds_law Rr.h_said fun said => ?_
  refine holds_open (q := Rr.hQ) (loose := Rr.hLoose) (Xt := Rr.hXt) (XP := XL Rr.hQ []) (Yf := Hook.obs (kHook Rr.hK Rr.hAs Rr.h_as)) (Ya := Hook.val (kHook Rr.hK Rr.hAs Rr.h_as)) (YP := Hook.says (kHook Rr.hK Rr.hAs Rr.h_as)) (N := 5880) Rr.h_left (Hook.of _) (Hook.keeps _) (fun s e => xl_of s (Bool.and_eq_true_iff.mp e).1) XL.keeps (by rfl) (by rfl) (by rfl) (fun s e => recFacts_of (Bool.and_eq_true_iff.mp e).2) (by rfl) said (by decide +kernel) ⟨rfl, rfl, rfl, rfl, rfl, by decide +kernel⟩ ?hw ?hc
  case hw => w_witness2
  k_fill
  refine Rr.walk (l := PySem.Challenge.rw_rulerow_k05_answers_by_hand) rfl rfl (fun w h Y => PySem.W.kIn_of Y) ?F
  case F =>
    intro w mg fa h KX G hmg
    refine' Rr.all_mk KX G hmg ?a1 ?l1 ?c1 ?k1 ?a2 ?l2 ?c2 ?k2 ?a3 ?l3 ?c3 ?k3 ?a4 ?l4 ?c4 ?k4 ?a5 ?l5 ?c5 ?k5 ?a6 ?l6 ?c6 ?k6 ?a7 ?l7 ?c7 ?k7 ?a8 ?l8 ?c8 ?k8 ?a9 ?l9 ?c9 ?k9 ?a10 ?l10 ?c10 ?k10 ?a11 ?l11 ?c11 ?k11 ?a12 ?l12 ?c12 ?k12 ?a13 ?l13 ?c13 ?k13 ?a14 ?l14 ?c14 ?k14 ?a15 ?l15 ?c15 ?k15 ?a16 ?l16 ?c16 ?k16 ?a17 ?l17 ?c17 ?k17 ?a18 ?l18 ?c18 ?k18 ?a19 ?l19 ?c19 ?k19 ?a20 ?l20 ?c20 ?k20 ?a21 ?l21 ?c21 ?k21 ?a22 ?l22 ?c22 ?k22 ?a23 ?l23 ?c23 ?k23 ?a24 ?l24 ?c24 ?k24 ?a25 ?l25 ?c25 ?k25 ?a26 ?l26 ?c26 ?k26 ?a27 ?l27 ?c27 ?k27 ?a28 ?l28 ?c28 ?k28 ?a29 ?l29 ?c29 ?k29 ?a30 ?l30 ?c30 ?k30 ?mcA ?mcL ?mcO ?mcN ?aiL ?iiL ?liL ?ciL ?kiL ?asL ?isL ?lsL ?csL ?ksL ?aiO ?iiO ?liO ?ciO ?kiO ?asO ?isO ?lsO ?csO ?ksO ?aiN ?iiN ?liN ?ciN ?kiN ?asN ?isN ?lsN ?csN ?ksN ?pgcL ?hdcL ?pocL ?sacL ?mkcL ?kccL ?n0cL ?n1cL ?n2cL ?pgcO ?hdcO ?pocO ?sacO ?mkcO ?kccO ?n0cO ?n1cO ?n2cO ?pgcN ?hdcN ?pocN ?sacN ?mkcN ?kccN ?n0cN ?n1cN ?n2cN ?n3cN ?hacO ?hmcO ?qcOcN ?hacN ?hmcN ?qcNcN ?hn ?ht ?z1 ?z2 ?z3 ?z4 ?z5 ?z6 ?z7 ?z8 ?z9 ?z10 ?z11 ?z12 ?z13 ?z14 ?z15 ?y1 ?y2
    (case a1 => k_is)
    (case l1 => k_is)
    (case c1 => k_is)
    (case k1 => k_is)
    (case a2 => k_is)
    (case l2 => k_is)
    (case c2 => k_is)
    (case k2 => k_is)
    (case a3 => k_is)
    (case l3 => k_is)
    (case c3 => k_is)
    (case k3 => k_is)
    (case a4 => k_is)
    (case l4 => k_is)
    (case c4 => k_is)
    (case k4 => k_is)
    (case a5 => k_is)
    (case l5 => k_is)
    (case c5 => k_is)
    (case k5 => k_is)
    (case a6 => k_is)
    (case l6 => k_is)
    (case c6 => k_is)
    (case k6 => k_is)
    (case a7 => k_is)
    (case l7 => k_is)
    (case c7 => k_is)
    (case k7 => k_is)
    (case a8 => k_is)
    (case l8 => k_is)
    (case c8 => k_is)
    (case k8 => k_is)
    (case a9 => k_is)
    (case l9 => k_is)
    (case c9 => k_is)
    (case k9 => k_is)
    (case a10 => k_is)
    (case l10 => k_is)
    (case c10 => k_is)
    (case k10 => k_is)
    (case a11 => k_is)
    (case l11 => k_is)
    (case c11 => k_is)
    (case k11 => k_is)
    (case a12 => k_is)
    (case l12 => k_is)
    (case c12 => k_is)
    (case k12 => k_is)
    (case a13 => k_is)
    (case l13 => k_is)
    (case c13 => k_is)
    (case k13 => k_is)
    (case a14 => k_is)
    (case l14 => k_is)
    (case c14 => k_is)
    (case k14 => k_is)
    (case a15 => k_is)
    (case l15 => k_is)
    (case c15 => k_is)
    (case k15 => k_is)
    (case a16 => k_is)
    (case l16 => k_is)
    (case c16 => k_is)
    (case k16 => k_is)
    (case a17 => k_is)
    (case l17 => k_is)
    (case c17 => k_is)
    (case k17 => k_is)
    (case a18 => k_is)
    (case l18 => k_is)
    (case c18 => k_is)
    (case k18 => k_is)
    (case a19 => k_is)
    (case l19 => k_is)
    (case c19 => k_is)
    (case k19 => k_is)
    (case a20 => k_is)
    (case l20 => k_is)
    (case c20 => k_is)
    (case k20 => k_is)
    (case a21 => k_is)
    (case l21 => k_is)
    (case c21 => k_is)
    (case k21 => k_is)
    (case a22 => k_is)
    (case l22 => k_is)
    (case c22 => k_is)
    (case k22 => k_is)
    (case a23 => k_is)
    (case l23 => k_is)
    (case c23 => k_is)
    (case k23 => k_is)
    (case a24 => k_is)
    (case l24 => k_is)
    (case c24 => k_is)
    (case k24 => k_is)
    (case a25 => k_is)
    (case l25 => k_is)
    (case c25 => k_is)
    (case k25 => k_is)
    (case a26 => k_is)
    (case l26 => k_is)
    (case c26 => k_is)
    (case k26 => k_is)
    (case a27 => k_is)
    (case l27 => k_is)
    (case c27 => k_is)
    (case k27 => k_is)
    (case a28 => k_is)
    (case l28 => k_is)
    (case c28 => k_is)
    (case k28 => k_is)
    (case a29 => k_is)
    (case l29 => k_is)
    (case c29 => k_is)
    (case k29 => k_is)
    (case a30 => k_is)
    (case l30 => k_is)
    (case c30 => k_is)
    (case k30 => k_is)
    (case mcA => k_is)
    (case mcL => k_is)
    (case mcO => k_is)
    (case mcN => k_is)
    (case aiL => k_is)
    (case iiL => k_is)
    (case liL => k_is)
    (case ciL => k_is)
    (case kiL => k_is)
    (case asL => k_is)
    (case isL => k_is)
    (case lsL => k_is)
    (case csL => k_is)
    (case ksL => k_is)
    (case aiO => k_is)
    (case iiO => k_is)
    (case liO => k_is)
    (case ciO => k_is)
    (case kiO => k_is)
    (case asO => k_is)
    (case isO => k_is)
    (case lsO => k_is)
    (case csO => k_is)
    (case ksO => k_is)
    (case aiN => k_is)
    (case iiN => k_is)
    (case liN => k_is)
    (case ciN => k_is)
    (case kiN => k_is)
    (case asN => k_is)
    (case isN => k_is)
    (case lsN => k_is)
    (case csN => k_is)
    (case ksN => k_is)
    (case pgcL => k_is)
    (case hdcL => k_is)
    (case pocL => k_is)
    (case sacL => k_is)
    (case mkcL => k_is)
    (case kccL => k_is)
    (case n0cL => k_is)
    (case n1cL => k_is)
    (case n2cL => k_is)
    (case pgcO => k_is)
    (case hdcO => k_is)
    (case pocO => k_is)
    (case sacO => k_is)
    (case mkcO => k_is)
    (case kccO => k_is)
    (case n0cO => k_is)
    (case n1cO => k_is)
    (case n2cO => k_is)
    (case pgcN => k_is)
    (case hdcN => k_is)
    (case pocN => k_is)
    (case sacN => k_is)
    (case mkcN => k_is)
    (case kccN => k_is)
    (case n0cN => k_is)
    (case n1cN => k_is)
    (case n2cN => k_is)
    (case n3cN => k_is)
    (case hacO => k_is)
    (case hmcO => k_is)
    (case qcOcN => kernel_rfl)
    (case hacN => k_is)
    (case hmcN => k_is)
    (case qcNcN => kernel_rfl)
    (case hn => k_is)
    (case ht => k_is)
    (case z1 => k_is)
    (case z2 => k_is)
    (case z3 => k_is)
    (case z4 => k_is)
    (case z5 => k_is)
    (case z6 => k_is)
    (case z7 => k_is)
    (case z8 => k_is)
    (case z9 => k_is)
    (case z10 => k_is)
    (case z11 => k_is)
    (case z12 => k_is)
    (case z13 => k_is)
    (case z14 => k_is)
    (case z15 => k_is)
    (case y1 => k_is)
    (case y2 => k_is)
