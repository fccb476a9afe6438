import PyProof.Rows.All
import Wide.All
import OpenK.AllK
import Wide.FinOn
import Lean
import PyProof.EqAt
import PyProof.EqKinds
import PyProof.TupleCall
import PyProof.Draws
import PyProof.Rows.CallKwBuiltin
import OpenK.KOwn
import KE.KTryMore
import PyProof.RulesAs
import PySem.Challenge.RW_rulerow_k07_refused
set_option Elab.async false
set_option linter.all false
set_option maxRecDepth 100000
/-! THE HAND LAYER, for ints, bools, texts, own classes, LISTS and tuples (index, slices, in, append, pop ..), calls, loops. Paste it whole ahead of your own text; what your proof does not reach may be deleted. -/
namespace L2
open PySem PySem.Spec PyProof.Rows

/-- a key: an int or a str -/
abbrev Key := Sum Int Str
def keyIs : Key → Value → Bool
  | .inl k, v => Value.isInt k v
  | .inr x, v => Value.isStrOf x v
def keyH (w : World) : Key → Int
  | .inl k => hashInt k
  | .inr x => hashStr w x
theorem keyIs_shape : ∀ {k : Key} {v : Value}, keyIs k v = true → (∃ i t, k = Sum.inl i ∧ v = Value.int i t) ∨ (∃ x t, k = Sum.inr x ∧ v = Value.str x t)
  | .inl i, v, h => by
    obtain ⟨t, e⟩ := Value.isInt_shape (k := i) (v := v) h
    exact .inl ⟨i, t, rfl, e⟩
  | .inr x, v, h => by
    obtain ⟨t, e⟩ := Value.isStrOf_shape (x := x) (v := v) h
    exact .inr ⟨x, t, rfl, e⟩
theorem key_ll (a b : Int) : decide ((Sum.inl a : Key) = Sum.inl b) = (a == b) := by
  by_cases e : a = b
  · subst e; simp
  · have h : ¬ (Sum.inl a : Key) = Sum.inl b := fun q => e (Sum.inl.inj q)
    rw [decide_eq_false h]
    exact (beq_eq_false_iff_ne.mpr e).symm
theorem key_rr (a b : Str) : decide ((Sum.inr a : Key) = Sum.inr b) = decide (a = b) := by
  by_cases e : a = b
  · subst e; simp
  · have h : ¬ (Sum.inr a : Key) = Sum.inr b := fun q => e (Sum.inr.inj q)
    rw [decide_eq_false h, decide_eq_false e]
theorem key_lr (a : Int) (b : Str) : decide ((Sum.inl a : Key) = Sum.inr b) = false := decide_eq_false (fun q => nomatch q)
theorem key_rl (a : Str) (b : Int) : decide ((Sum.inr a : Key) = Sum.inl b) = false := decide_eq_false (fun q => nomatch q)

def mixKind (prog : Program) (w : World) : PySem.KeyKind prog w Key where
  is := keyIs
  hash := keyH w
  inj := fun v a b ha hb => by
    rcases keyIs_shape ha with ⟨i, t, rfl, rfl⟩ | ⟨x, t, rfl, rfl⟩
    · rcases keyIs_shape hb with ⟨j, u, rfl, e⟩ | ⟨y, u, rfl, e⟩
      · injection e with e1 _; rw [e1]
      · exact nomatch e
    · rcases keyIs_shape hb with ⟨j, u, rfl, e⟩ | ⟨y, u, rfl, e⟩
      · exact nomatch e
      · injection e with e1 _; rw [e1]
  byValue := fun k v h => by
    rcases keyIs_shape h with ⟨i, t, rfl, rfl⟩ | ⟨x, t, rfl, rfl⟩ <;> rfl
  pyHash := fun hv h => by
    rcases keyIs_shape hv with ⟨i, t, rfl, rfl⟩ | ⟨x, t, rfl, rfl⟩
    · exact wpAny_pyHash_int h
    · exact wpAny_pyHash_str h
  eqBool := fun hu hv h => by
    rcases keyIs_shape hu with ⟨i, t, rfl, rfl⟩ | ⟨x, t, rfl, rfl⟩
    · rcases keyIs_shape hv with ⟨j, u, rfl, rfl⟩ | ⟨y, u, rfl, rfl⟩
      · rw [key_ll] at h; exact wpAny_eqBool_int h
      · rw [key_lr] at h; exact SeqAt.EqAt.int_str i t y u _ _ _ _ h
    · rcases keyIs_shape hv with ⟨j, u, rfl, rfl⟩ | ⟨y, u, rfl, rfl⟩
      · rw [key_rl] at h; exact SeqAt.EqAt.str_int x t j u _ _ _ _ h
      · rw [key_rr] at h; exact wpAny_eqBool_str h
  «strs» := fun k x t v h => by
    rcases keyIs_shape h with ⟨i, u, rfl, e⟩ | ⟨y, u, rfl, e⟩
    · exact nomatch e
    · injection e with e1 _
      subst e1
      cases v <;> rfl

end L2

namespace L2
open PySem PySem.Spec PyProof.Rows

/-- a value, without the heap -/
inductive V where
  | non | bl (b : Bool) | int (i : Int) | str (x : Str) | byt (b : Array UInt8) | flt (b : UInt64) | ref (a : Addr) | ty (n : String)
  deriving DecidableEq

def RelV : V → Value → Prop
  | .non, u => u = Value.none
  | .bl b, u => u = Value.bool b
  | .int i, u => ∃ t, u = Value.int i t
  | .str x, u => ∃ t, u = Value.str x t
  | .byt b, u => ∃ t, u = Value.bytes b t
  | .flt b, u => ∃ t, u = Value.float b t
  | .ref a, u => u = Value.ref a
  | .ty n, u => u = Value.type n

abbrev Vals : List V → List Value → Prop := Paired RelV
theorem Vals.length {xs : List V} {us : List Value} (r : Vals xs us) : xs.length = us.length := Paired.length r
theorem Vals.get : ∀ {xs : List V} {us : List Value} {i : Nat} {x : V}, Vals xs us → xs[i]? = some x → ∃ u, us[i]? = some u ∧ RelV x u
  | _, _, _, _, .nil, e => by simp at e
  | _, _, 0, _, .cons r _, e => by simp at e; subst e; exact ⟨_, rfl, r⟩
  | _, _, i + 1, x, .cons _ t, e => by
    obtain ⟨u, h1, h2⟩ := Vals.get (i := i) (x := x) t (by simpa using e)
    exact ⟨u, by simpa using h1, h2⟩
theorem Vals.set {x : V} {u : Value} (r : RelV x u) : ∀ {xs : List V} {us : List Value} (i : Nat), Vals xs us → Vals (xs.set i x) (us.set i u)
  | _, _, _, .nil => .nil
  | _, _, 0, .cons _ t => .cons r t
  | _, _, i + 1, .cons q t => .cons q (Vals.set r i t)
theorem Vals.append : ∀ {xs ys : List V} {us ws : List Value}, Vals xs us → Vals ys ws → Vals (xs ++ ys) (us ++ ws)
  | _, _, _, _, .nil, s => s
  | _, _, _, _, .cons r t, s => .cons r (Vals.append t s)
theorem Vals.take : ∀ {xs : List V} {us : List Value} (n : Nat), Vals xs us → Vals (xs.take n) (us.take n)
  | _, _, 0, _ => .nil
  | _, _, _ + 1, .nil => .nil
  | _, _, n + 1, .cons r t => .cons r (Vals.take n t)
theorem Vals.drop : ∀ {xs : List V} {us : List Value} (n : Nat), Vals xs us → Vals (xs.drop n) (us.drop n)
  | _, _, 0, r => r
  | _, _, _ + 1, .nil => .nil
  | _, _, n + 1, .cons _ t => Vals.drop n t
def RelO : Option V → Option Value → Prop
  | some v, some u => RelV v u
  | none, none => True
  | _, _ => False
def KV {κ : Type} : List (κ × V) → List (κ × Value) → Prop := Paired fun (p : κ × V) (q : κ × Value) => p.1 = q.1 ∧ RelV p.2 q.2

/-- a key of a dict (00_mix): an int or a text -/
def kV : Key → V
  | .inl i => .int i
  | .inr x => .str x

/-- what stands at a tracked address -/
inductive HO where
  /-- a list -/
  | lst (xs : List V)
  /-- a tuple (never changes) -/
  | tup (xs : List V)
  /-- a dict whose keys are ints and texts; one whose keys are tuples of ints and texts (the empty one is both) -/
  | dK (kvs : List (Key × V)) | dT (kvs : List (List Key × V))
  /-- a set of ints: its members, its size -/
  | set (S : Int → Bool) (n : Nat)
  /-- an instance of the class at C, its dict at dx, its attributes -/
  | ins (C dx : Addr) (fs : List (Str × V))
  /-- the dict of the instance at x -/
  | own (x : Addr)
  /-- the dict of an exception -/
  | xd (fs : List (Str × V))
  /-- a bound method, f of x -/
  | met (f x : Addr)
  /-- a range object lo, lo + 1, .. below hi -/
  | rng (lo hi : Int)
  /-- a thing that is known to the object (the script; a dict while a loop walks it): read, never written while it is so -/
  | frz (o : Obj) (u : HO)
  /-- a code object's table -/
  | tbl (ps : Array Value)
  /-- any other thing, by what is true of its one object (a def of one's own: SetO a S n := HO.ext fun h => ..) -/
  | ext (φ : Heap → Prop)

abbrev Hp := Addr → Option HO
def upd (H : Hp) (a : Addr) (o : HO) : Hp := fun b => if b = a then some o else H b
theorem upd_same {H : Hp} {a : Addr} {o : HO} : upd H a o a = some o := by unfold upd; rw [if_pos rfl]
theorem upd_ne {H : Hp} {a b : Addr} {o : HO} (h : b ≠ a) : upd H a o b = H b := by unfold upd; rw [if_neg h]
theorem ne_of_none {H : Hp} {a b : Addr} {o : HO} (h : H a = some o) (h' : H b = none) : a ≠ b := by
  intro e; subst e; rw [h] at h'; cases h'

section
variable (P : Program) (w : World)
def ObjOk (H : Hp) (h : Heap) (a : Addr) : HO → Prop
  | .lst xs => xs.length ≤ sizeLine ∧ ∃ (its : List Value) (n : Nat), Vals xs its ∧ h.get? a = some { cls := .type "list", data := .seq its.toArray n }
  | .tup xs => xs.length ≤ sizeLine ∧ ∃ its : List Value, Vals xs its ∧ IsTup h a its.toArray
  | .dK kvs => kvs.length ≤ sizeLine ∧ (a == sysModules) = false ∧ ∃ vs, KV kvs vs ∧ h.DictOf (mixKind P w) a vs
  | .dT kvs => kvs.length ≤ sizeLine ∧ (a == sysModules) = false ∧ ∃ xs : List (List Key × Addr × Value),
      Paired (fun (p : List Key × V) (q : List Key × Addr × Value) => p.1 = q.1 ∧ H q.2.1 = some (.tup (p.1.map kV)) ∧ RelV p.2 q.2.2) kvs xs ∧
      ∃ o es ep, h.get? a = some o ∧ o.ExactDict ∧ o.data = .dict es ep ∧ es.toList = xs.map (entryOfKey (tupleKind (mixKind P w))) ∧ (xs.map (·.1)).Nodup
  | .set S n => h.SetOf (intKind P w) a S n
  | .ins C dx fs => H dx = some (.own a) ∧ fs.length ≤ 1000 ∧ dx ≠ a ∧ h.get? a = some (PySem.W.instObj C dx) ∧
      ∃ mA, h.Ns1 dx mA ∧ (∀ f, RelO (fs.lookup f) (mA f)) ∧ PySem.Within mA (fs.map (·.1))
  | .own _ => ∃ o, h.get? a = some o
  | .xd fs => ∃ mA, h.Ns1 a mA ∧ ∀ f, RelO (fs.lookup f) (mA f)
  | .rng lo hi => ∃ t u v, h.get? a = some { cls := .type "range", data := .fields #[.int lo t, .int hi u, .int 1 v] }
  | .frz o u => h.get? a = some o ∧ ObjOk H h a u
  | .tbl ps => h.get? a = some { cls := .none, data := .fields ps }
  | .met f x => h.get? a = some (PySem.W.methodObj (.ref f) (.ref x))
  | .ext φ => φ h ∧ (∃ o, h.get? a = some o) ∧ ∀ h1 h2 : Heap, φ h1 → (∀ o, h1.get? a = some o → h2.get? a = some o) → φ h2
/-- the abstract heap is held -/
def HOk (H : Hp) (h : Heap) : Prop := ∀ a o, H a = some o → ObjOk P w H h a o
end

section
variable {P : Program} {w : World} {H H' : Hp} {h h' : Heap} {a : Addr} {o : HO}
theorem ObjOk.lt (x : ObjOk P w H h a o) : a < h.objs.size := by
  cases o with
  | lst xs => obtain ⟨_, _, _, _, e⟩ := x; exact Heap.lt_size e
  | tup xs => obtain ⟨_, _, _, p⟩ := x; exact p.lt
  | dK kvs => obtain ⟨_, _, _, _, o, _, _, e, _⟩ := x; exact Heap.lt_size e
  | dT kvs => obtain ⟨_, _, _, _, o, _, _, e, _⟩ := x; exact Heap.lt_size e
  | set S n => obtain ⟨o, _, _, _, e, _⟩ := x; exact Heap.lt_size e
  | ins C dx fs => obtain ⟨_, _, _, e, _⟩ := x; exact Heap.lt_size e
  | own y => obtain ⟨_, e⟩ := x; exact Heap.lt_size e
  | xd fs => obtain ⟨_, ⟨_, _, _, e, _⟩, _⟩ := x; exact Heap.lt_size e
  | rng lo hi => obtain ⟨_, _, _, e⟩ := x; exact Heap.lt_size e
  | frz ob u => obtain ⟨e, _⟩ := x; exact Heap.lt_size e
  | tbl ps => exact Heap.lt_size (show h.get? a = some _ from x)
  | met f y => exact Heap.lt_size (show h.get? a = some _ from x)
  | ext φ => obtain ⟨_, ⟨_, e⟩, _⟩ := x; exact Heap.lt_size e
theorem Paired.mapP {α β : Type} {F G : α → β → Prop} : ∀ {l₁ : List α} {l₂ : List β}, Paired F l₁ l₂ → (∀ a b, F a b → G a b) → Paired G l₁ l₂
  | _, _, .nil, _ => .nil
  | _, _, .cons r t, f => .cons (f _ _ r) (Paired.mapP t f)
/-- what an object's description leans on: its own object, its own dict, the tuples -/
theorem ObjOk.stay (x : ObjOk P w H h a o) (k : ∀ b u, (b = a ∨ H b = some (.own a)) → h.get? b = some u → h'.get? b = some u)
    (ho : ∀ b, H b = some (.own a) → H' b = some (.own a)) (ht : ∀ b xs, H b = some (.tup xs) → H' b = some (.tup xs)) : ObjOk P w H' h' a o := by
  induction o with
  | lst xs => obtain ⟨z, its, n, r, e⟩ := x; exact ⟨z, its, n, r, k _ _ (.inl rfl) e⟩
  | tup xs => obtain ⟨z, its, r, ob, e, c⟩ := x; exact ⟨z, its, r, ob, k _ _ (.inl rfl) e, c⟩
  | dK kvs => obtain ⟨z, y, vs, r, ob, es, ep, e, c⟩ := x; exact ⟨z, y, vs, r, ob, es, ep, k _ _ (.inl rfl) e, c⟩
  | dT kvs =>
    obtain ⟨z, y, xs, r, ob, es, ep, e, c⟩ := x
    exact ⟨z, y, xs, Paired.mapP r fun p q z => ⟨z.1, ht _ _ z.2.1, z.2.2⟩, ob, es, ep, k _ _ (.inl rfl) e, c⟩
  | set S n => obtain ⟨ob, es, ep, t, e, c⟩ := x; exact ⟨ob, es, ep, t, k _ _ (.inl rfl) e, c⟩
  | ins C dx fs =>
    obtain ⟨d, z, ne, e, mA, ⟨od, es, ep, e2, c⟩, r⟩ := x
    exact ⟨ho _ d, z, ne, k _ _ (.inl rfl) e, mA, ⟨od, es, ep, k _ _ (.inr d) e2, c⟩, r⟩
  | own y => obtain ⟨ob, e⟩ := x; exact ⟨ob, k _ _ (.inl rfl) e⟩
  | xd fs => obtain ⟨mA, ⟨od, es, ep, e, c⟩, r⟩ := x; exact ⟨mA, ⟨od, es, ep, k _ _ (.inl rfl) e, c⟩, r⟩
  | rng lo hi => obtain ⟨t, u, v, e⟩ := x; exact ⟨t, u, v, k _ _ (.inl rfl) e⟩
  | frz ob u ih => obtain ⟨e, q⟩ := x; exact ⟨k _ _ (.inl rfl) e, ih q⟩
  | tbl ps =>
    have e : h.get? a = some { cls := .none, data := .fields ps } := x
    show h'.get? a = some { cls := .none, data := .fields ps }
    exact k a _ (.inl rfl) e
  | met f y =>
    have e : h.get? a = some (PySem.W.methodObj (.ref f) (.ref y)) := x
    show h'.get? a = some (PySem.W.methodObj (.ref f) (.ref y))
    exact k a _ (.inl rfl) e
  | ext φ => obtain ⟨p, ⟨o, e⟩, st⟩ := x; exact ⟨st _ _ p fun o q => k _ _ (.inl rfl) q, ⟨o, k _ _ (.inl rfl) e⟩, st⟩
theorem HOk.lt (x : HOk P w H h) (e : H a = some o) : a < h.objs.size := (x a o e).lt
theorem HOk.fresh (x : HOk P w H h) (e : h.objs.size ≤ a) : H a = none := by
  cases q : H a with
  | none => rfl
  | some u => exact absurd (Nat.lt_of_lt_of_le (x.lt q) e) (Nat.lt_irrefl _)
/-- every object of the heap is kept -/
theorem HOk.kept (x : HOk P w H h) (k : ∀ b u, h.get? b = some u → h'.get? b = some u) : HOk P w H h' := fun a o e =>
  (x a o e).stay (fun b u _ q => k b u q) (fun _ q => q) fun _ _ q => q
/-- a new object is laid and tracked -/
theorem HOk.laid (x : HOk P w H h) (k : ∀ b u, h.get? b = some u → h'.get? b = some u) (hp : h.objs.size ≤ a) (new : ObjOk P w (upd H a o) h' a o) : HOk P w (upd H a o) h' := fun b u e => by
  have hn := x.fresh hp
  by_cases hb : b = a
  · subst hb; rw [upd_same] at e; cases e; exact new
  · rw [upd_ne hb] at e
    exact (x b u e).stay (fun c v _ q => k c v q) (fun c q => by rw [upd_ne (ne_of_none q hn)]; exact q) fun c xs q => by rw [upd_ne (ne_of_none q hn)]; exact q
end

/-- what may be read as u: it is u, or a known u -/
def Rd (H : Hp) (a : Addr) (u : HO) : Prop := H a = some u ∨ ∃ o, H a = some (.frz o u)
theorem Rd.of {H : Hp} {a : Addr} {u : HO} (h : H a = some u) : Rd H a u := .inl h
theorem Rd.ok {P : Program} {w : World} {H : Hp} {h : Heap} {a : Addr} {u : HO} (r : Rd H a u) (x : HOk P w H h) : ObjOk P w H h a u := by
  rcases r with r | ⟨o, r⟩
  · exact x a u r
  · obtain ⟨_, q⟩ := x a _ r
    exact q
/-- what may be written -/
def Mut : Option HO → Prop
  | some (.lst _) => True
  | some (.dK _) => True
  | some (.dT _) => True
  | some (.set _ _) => True
  | some (.ins _ _ _) => True
  | some (.ext _) => True
  | _ => False
section
variable {P : Program} {w : World} {H : Hp} {h h' : Heap} {x e : Addr} {o' : HO}
/-- the object at e is changed: x itself, or the dict of the instance x -/
theorem HOk.write (ok : HOk P w H h) (mu : Mut (H x)) (he : e = x ∨ H e = some (.own x)) (k : ∀ b u, b ≠ e → h.get? b = some u → h'.get? b = some u) (heo : ∃ u, h'.get? e = some u)
    (new : ObjOk P w (upd H x o') h' x o') : HOk P w (upd H x o') h' := fun b u q => by
  have nown : ∀ c y, H c = some (.own y) → c ≠ x := fun c y r z => by subst z; rw [r] at mu; exact mu
  have ntup : ∀ c xs, H c = some (.tup xs) → c ≠ x := fun c xs r z => by subst z; rw [r] at mu; exact mu
  by_cases hb : b = x
  · subst hb; rw [upd_same] at q; cases q; exact new
  · rw [upd_ne hb] at q
    by_cases hbe : b = e
    · have q' : H b = some (.own x) := by
        rcases he with z | z
        · exact absurd (hbe.trans z) hb
        · rw [hbe]; exact z
      rw [q] at q'; cases q'
      obtain ⟨v, hv⟩ := heo
      exact ⟨v, by rw [hbe]; exact hv⟩
    · refine (ok b u q).stay (fun c v hc r => k c v ?_ r) (fun c r => by rw [upd_ne (nown c b r)]; exact r) fun c xs r => by rw [upd_ne (ntup c xs r)]; exact r
      rcases hc with rfl | hc
      · exact hbe
      · rintro rfl
        rcases he with z | z
        · exact nown c b hc z
        · rw [hc] at z; cases z; exact hb rfl
end

/-! ### kept unless tracked; of the frames at fs (the callers') the slots may change (an exception that passes writes there); of the records at ex (iterators) nothing is said -/
structure Un (fs ex : List Addr) (H H' : Hp) (h h' : Heap) : Prop where
  keep : ∀ b o, h.get? b = some o → H b = none → b ∉ fs → b ∉ ex → h'.get? b = some o
  slot : ∀ b o, h.get? b = some o → H b = none → b ∈ fs → b ∉ ex → ∃ sl, h'.get? b = some { o with slots := sl }
  free : ∀ b o, h.get? b = some o → H b = none → b ∉ ex → H' b = none
  there : ∀ b o, h.get? b = some o → b ∉ ex → ∃ o', h'.get? b = some o'
  tups : ∀ b xs, H b = some (.tup xs) → H' b = some (.tup xs)
  frzs : ∀ b o u, H b = some (.frz o u) → H' b = some (.frz o u)
  tbls : ∀ b ps, H b = some (.tbl ps) → ∃ more, H' b = some (.tbl (ps ++ more))
section
variable {fs fs' ex ex' : List Addr} {H H1 H2 : Hp} {h h1 h2 h' : Heap} {a x e : Addr} {o : HO}
theorem Un.any (u : Un fs ex H H1 h h1) {b : Addr} {ob : Obj} (q : h.get? b = some ob) (n : H b = none) (hx : b ∉ ex) : ∃ sl, h1.get? b = some { ob with slots := sl } := by
  by_cases hb : b ∈ fs
  · exact u.slot b ob q n hb hx
  · exact ⟨ob.slots, u.keep b ob q n hb hx⟩
theorem Un.trans (a : Un fs ex H H1 h h1) (b : Un fs ex H1 H2 h1 h2) : Un fs ex H H2 h h2 where
  keep := fun c ob q n hc hx => b.keep c ob (a.keep c ob q n hc hx) (a.free c ob q n hx) hc hx
  slot := fun c ob q n hc hx => by
    obtain ⟨sl, e1⟩ := a.slot c ob q n hc hx
    obtain ⟨sl', e2⟩ := b.slot c _ e1 (a.free c ob q n hx) hc hx
    exact ⟨sl', e2⟩
  free := fun c ob q n hx => by
    obtain ⟨o', e1⟩ := a.there c ob q hx
    exact b.free c o' e1 (a.free c ob q n hx) hx
  there := fun c ob q hx => by
    obtain ⟨o', e1⟩ := a.there c ob q hx
    exact b.there c o' e1 hx
  tups := fun c xs q => b.tups c xs (a.tups c xs q)
  frzs := fun c ob xs q => b.frzs c ob xs (a.frzs c ob xs q)
  tbls := fun c ps q => by
    obtain ⟨m1, e1⟩ := a.tbls c ps q
    obtain ⟨m2, e2⟩ := b.tbls c _ e1
    exact ⟨m1 ++ m2, by rw [e2, Array.append_assoc]⟩
theorem Un.kept (k : ∀ b u, h.get? b = some u → h'.get? b = some u) : Un fs ex H H h h' :=
  ⟨fun b ob q _ _ _ => k b ob q, fun b ob q _ _ _ => ⟨ob.slots, k b ob q⟩, fun _ _ _ n _ => n, fun b ob q _ => ⟨ob, k b ob q⟩, fun _ _ q => q, fun _ _ _ q => q, fun _ ps q => ⟨#[], by rw [q]; simp⟩⟩
theorem Un.refl : Un fs ex H H h h := Un.kept fun _ _ q => q
theorem Un.laid (k : ∀ b u, h.get? b = some u → h'.get? b = some u) (hp : h.objs.size ≤ a) (hn : H a = none) : Un fs ex H (upd H a o) h h' where
  keep := fun b u q _ _ _ => k b u q
  slot := fun b u q _ _ _ => ⟨u.slots, k b u q⟩
  free := fun b u q n _ => by rw [upd_ne (Nat.ne_of_lt (Nat.lt_of_lt_of_le (Heap.lt_size q) hp))]; exact n
  there := fun b u q _ => ⟨u, k b u q⟩
  tups := fun b xs q => by rw [upd_ne (ne_of_none q hn)]; exact q
  frzs := fun b u xs q => by rw [upd_ne (ne_of_none q hn)]; exact q
  tbls := fun b ps q => ⟨#[], by rw [upd_ne (ne_of_none q hn), q]; simp⟩
theorem Un.write (mu : Mut (H x)) (he : e = x ∨ H e = some (.own x)) (k : ∀ b u, b ≠ e → h.get? b = some u → h'.get? b = some u) (heo : ∃ u, h'.get? e = some u) : Un fs ex H (upd H x o) h h' := by
  have hx : ∀ b, H b = none → b ≠ x := fun b n z => by subst z; rw [n] at mu; exact mu
  have hb : ∀ b, H b = none → b ≠ e := fun b n z => by
    subst z
    rcases he with r | r
    · exact hx b n r
    · rw [n] at r; cases r
  have hm : ∀ b u, H b = some u → ¬ Mut (some u) → b ≠ x := fun b u q nm z => by subst z; rw [q] at mu; exact nm mu
  refine ⟨fun b u q n _ _ => k b u (hb b n) q, fun b u q n _ _ => ⟨u.slots, k b u (hb b n) q⟩, fun b u q n _ => by rw [upd_ne (hx b n)]; exact n, fun b u q _ => ?_,
    fun b xs q => by rw [upd_ne (hm b _ q fun z => z)]; exact q, fun b u xs q => by rw [upd_ne (hm b _ q fun z => z)]; exact q, fun b ps q => ⟨#[], by rw [upd_ne (hm b _ q fun z => z), q]; simp⟩⟩
  by_cases hbe : b = e
  · subst hbe; exact heo
  · exact ⟨u, k b u hbe q⟩
theorem Un.mono (u : Un fs ex H H1 h h1) (hs : ∀ b ∈ fs, b ∈ fs') (hx : ∀ b ∈ ex, b ∈ ex') : Un fs' ex' H H1 h h1 :=
  ⟨fun b ob q n hb he => u.keep b ob q n (fun z => hb (hs b z)) fun z => he (hx b z), fun _ _ q n _ he => u.any q n fun z => he (hx _ z), fun b ob q n he => u.free b ob q n fun z => he (hx b z), fun b ob q he => u.there b ob q fun z => he (hx b z), u.tups, u.frzs, u.tbls⟩
end

/-! ### the heap without what is tracked -/
def trk (h : Heap) (H : Hp) : List Addr := (List.range h.objs.size).filter fun a => (H a).isSome
def hidT (h : Heap) (H : Hp) : Heap := PySem.W.hideAll h (trk h H)
theorem hidT_size (h : Heap) (H : Hp) : (hidT h H).objs.size = h.objs.size := PySem.W.hideAll_size _ _
theorem hidT_get {h : Heap} {H : Hp} {b : Addr} {o : Obj} (e : h.get? b = some o) (n : H b = none) : (hidT h H).get? b = some o :=
  PySem.W.hideAll_get _ e fun hm => by
    have q : (H b).isSome = true := (List.mem_filter.mp hm).2
    rw [n] at q; simp at q
theorem of_hidT {h : Heap} {H : Hp} {b : Addr} {o : Obj} (e : (hidT h H).get? b = some o) : h.get? b = some o ∧ H b = none := by
  have e' : h.get? b = some o := PySem.W.of_hideAll (trk h H) e
  refine ⟨e', ?_⟩
  cases q : H b with
  | none => rfl
  | some x =>
    have hm : b ∈ trk h H := List.mem_filter.mpr ⟨List.mem_range.mpr (Heap.lt_size e'), by simp [q]⟩
    have z : (hidT h H).get? b = none := PySem.W.hideAll_none (trk h H) hm
    rw [z] at e; cases e

/-! ### OpenK's ledger, filled with every new object but one -/
def allNews (g h : Heap) (L : Addr) : List (Addr × Obj) := (List.range h.objs.size).filterMap fun a => if a = L ∨ (g.get? a).isSome = true then none else (h.get? a).map fun o => (a, o)
def rest (g h : Heap) (L d : Addr) : List (Addr × Obj) := (allNews g h L).filter fun p => decide (p.1 ≠ d)
end L2

namespace L2
open PySem PySem.Spec PyProof.Rows

/-- the module's facts, over the base: the heap at the law's entry without what is tracked there -/
structure Mod (K : PySem.W.Frag) (mg : Str → Option Value) (base : Heap) : Prop where
  kin : K.In base
  glob : base.Ns mainGlobals mg
  blt : ∃ mb, base.Ns builtinsNs mb ∧ ∀ x : Str, x ≠ "__name__" → mb x = bootBuiltins x
  nolimit : base.NoLimit

/-- the context: a def's body (or a comprehension's block) running. base: fixed through the whole law; s₀, H₀: the entry; outer: the frames whose slots others may change (a def's callers); stack: all frames that run;
   ex: iterators that were made ahead of the entry and are walked here (a comprehension's); fn: the names whose cells were made at the entry (a def: all; a comprehension's block: its own); calm: not within an except suite; pn: pins that every state bears; xe: what is wanted of an exception that leaves the code -/
structure Cx where
  prog : Program
  w : World
  K : PySem.W.Frag
  mg : Str → Option Value
  base : Heap
  A : Around
  N : List Str
  s₀ : Shared
  H₀ : Hp
  env : Env
  outer : List Env
  stack : List Env
  ex : List Addr
  fn : Str → Bool
  calm : Bool
  pn : List (Addr × Obj)
  xe : Value → Shared → Prop
/-- the callers' frames -/
def frs (l : List Env) : List Addr := l.filterMap (·.frame)
abbrev Cx.fs (X : Cx) : List Addr := frs X.outer

def Vis (sc : Scope) (x : Str) : Prop := sc.names.lookup x = some .local ∨ sc.names.lookup x = some .cell ∨ sc.names.lookup x = some .free
def Loc (sc : Scope) (x : Str) : Prop := sc.names.lookup x = some .local ∨ sc.names.lookup x = some .cell
def Look (env : Env) (h : Heap) (m : Str → Option Value) (x : Str) (u : Value) : Prop :=
  (env.kindOf x = some .local ∧ m x = some u) ∨ ((env.kindOf x = some .cell ∨ env.kindOf x = some .free) ∧ ∃ c, env.cells.lookup x = some c ∧ h.IsCell c (some u))

structure Cx.Ok (X : Cx) : Prop where
  mod : Mod X.K X.mg X.base
  kind : X.env.scope.kind = .function
  glob : X.env.globals = mainGlobals
  blt : X.env.builtins = builtinsNs
  above : X.s₀.heap.objs.size ≤ X.env.locals
  inj : ∀ x y c, X.env.cells.lookup x = some c → X.env.cells.lookup y = some c → x = y
  has : ∀ x, (X.env.kindOf x = some .cell ∨ X.env.kindOf x = some .free) → ∃ c, X.env.cells.lookup x = some c
  cab : ∀ x c, X.fn x = true → X.env.cells.lookup x = some c → X.s₀.heap.objs.size ≤ c
  hd : X.calm = true → X.A.handled = none
  frames : X.A.frames = some X.stack
  stk : X.stack = X.outer ∨ (X.stack = X.env :: X.outer ∧ X.env.frame = some X.env.locals)
  exf : ∀ b ∈ X.ex, b ≠ X.env.locals ∧ ∀ x c, X.env.cells.lookup x = some c → c ≠ b
  bs : ∀ b o, X.base.get? b = some o → X.s₀.heap.get? b = some o ∧ X.H₀ b = none
  bsz : X.base.objs.size ≤ X.s₀.heap.objs.size
  noex : ∀ b o, X.base.get? b = some o → b ∉ X.ex
  exfs : ∀ b ∈ X.ex, b ∉ X.fs
  funs : X.s₀.heap.FunFrames X.base X.outer
  frf : ∀ b ∈ X.fs, X.H₀ b = none

structure Inv (X : Cx) (pins : List (Addr × Obj)) (σ : List (Option V)) (H : Hp) (s : Shared) : Prop where
  ok : X.Ok
  os : s.os = X.s₀.os
  bare : AllBare s.gens
  base : Un X.fs X.ex X.H₀ H X.s₀.heap s.heap
  loc : ∃ m, s.heap.Ns X.env.locals m ∧ ∀ (i : Nat) (x : Str) (v : V), X.N[i]? = some x → σ[i]? = some (some v) → Vis X.env.scope x → ∃ u, RelV v u ∧ Look X.env s.heap m x u
  cell : ∀ x c, X.env.cells.lookup x = some c → ∃ v, s.heap.IsCell c v
  free : H X.env.locals = none
  freeC : ∀ x c, X.env.cells.lookup x = some c → H c = none
  pin : ∀ p ∈ X.pn ++ pins, s.heap.get? p.1 = some p.2 ∧ H p.1 = none ∧ p.1 ≠ X.env.locals ∧ p.1 ∉ X.fs ∧ ∀ v, p.2.data ≠ .cell v
  hok : HOk X.prog X.w H s.heap
  len : σ.length = X.N.length

section
variable {X : Cx} {pins : List (Addr × Obj)} {σ : List (Option V)} {H H' : Hp} {s : Shared} {h' : Heap}

theorem Cx.Ok.nofr (ok : X.Ok) {b : Addr} {o : Obj} (e : X.base.get? b = some o) : b ∉ X.fs := fun hb => by
  have := (ok.funs.mem hb).1
  rw [e] at this; cases this
theorem Inv.bs (I : Inv X pins σ H s) : ∀ b o, X.base.get? b = some o → s.heap.get? b = some o ∧ H b = none := fun b o e =>
  ⟨I.base.keep b o (I.ok.bs b o e).1 (I.ok.bs b o e).2 (I.ok.nofr e) (I.ok.noex b o e), I.base.free b o (I.ok.bs b o e).1 (I.ok.bs b o e).2 (I.ok.noex b o e)⟩
theorem Inv.bk (I : Inv X pins σ H s) : ∀ b o, X.base.get? b = some o → s.heap.get? b = some o := fun b o e => (I.bs b o e).1
theorem Inv.mod (I : Inv X pins σ H s) : Mod X.K X.mg X.base := I.ok.mod
theorem Inv.kIn (I : Inv X pins σ H s) : X.K.In s.heap := I.ok.mod.kin.keeps I.bk
theorem Inv.nolimit (I : Inv X pins σ H s) : s.heap.NoLimit := I.ok.mod.nolimit.keeps I.bk
/-- the frame over the base: for OpenK's rules (K.In X.base is I.mod.kin) -/
theorem Inv.fr (I : Inv X pins σ H s) : ∃ m, Fr X.base X.env.locals s.heap m :=
  let ⟨m, hn, _⟩ := I.loc
  ⟨m, hn, I.bk, Nat.le_trans I.ok.bsz I.ok.above⟩
theorem Inv.lt (I : Inv X pins σ H s) : X.env.locals < s.heap.objs.size := let ⟨_, hn, _⟩ := I.loc; hn.lt
theorem Inv.sz (I : Inv X pins σ H s) : X.s₀.heap.objs.size ≤ s.heap.objs.size := Nat.le_trans I.ok.above (Nat.le_of_lt I.lt)
theorem Inv.nofs (I : Inv X pins σ H s) {a : Addr} (h : s.heap.objs.size ≤ a) : a ∉ X.fs := fun hb => by
  obtain ⟨_, o, ho, _⟩ := I.ok.funs.mem hb
  exact absurd (Nat.lt_of_lt_of_le (Heap.lt_size ho) (Nat.le_trans I.sz h)) (Nat.lt_irrefl _)
theorem Inv.cne (I : Inv X pins σ H s) : ∀ x c, X.env.cells.lookup x = some c → c ≠ X.env.locals := fun x c e z => by
  obtain ⟨v, o, ho, hd⟩ := I.cell x c e
  obtain ⟨m, ⟨o', es, ep, ho', hd', _⟩, _⟩ := I.loc
  rw [z, ho'] at ho; cases ho; rw [hd'] at hd; cases hd
theorem Inv.funs (I : Inv X pins σ H s) : s.heap.FunFrames X.base X.outer := by
  have all : ∀ (l : List Env), (∀ b ∈ frs l, b ∈ X.fs) → X.s₀.heap.FunFrames X.base l → s.heap.FunFrames X.base l := by
    intro l
    induction l with
    | nil => intro _ _; trivial
    | cons env r ih =>
      intro hs hl
      obtain ⟨hk, ⟨L, o, hf, hn, ho, hd⟩, hr⟩ := hl
      have hL : L ∈ X.fs := hs L (by unfold frs; rw [List.filterMap_cons, hf]; exact List.mem_cons_self)
      obtain ⟨sl, e⟩ := I.base.slot L o ho (I.ok.frf L hL) hL fun z => I.ok.exfs L z hL
      exact ⟨hk, ⟨L, _, hf, hn, e, hd⟩, ih (fun b hb => hs b (by unfold frs; rw [List.filterMap_cons, hf]; exact List.mem_cons_of_mem _ hb)) hr⟩
  exact all X.outer (fun _ hb => hb) I.ok.funs

/-- the frames that run, for a call -/
theorem Inv.stack (I : Inv X pins σ H s) : s.heap.FunFrames X.base X.stack := by
  rcases I.ok.stk with e | ⟨e, hf⟩
  · rw [e]; exact I.funs
  · rw [e]
    obtain ⟨m, hn, _⟩ := I.loc
    refine .cons (by rw [I.ok.kind]; decide) hf hn ?_ I.funs
    exact Heap.get?_none_of_le (Nat.le_trans I.ok.bsz I.ok.above)
theorem Inv.stkSub (I : Inv X pins σ H s) : ∀ b ∈ frs X.stack, b ∈ X.env.locals :: X.fs := fun b hb => by
  rcases I.ok.stk with e | ⟨e, hf⟩
  · rw [e] at hb; exact List.mem_cons_of_mem _ hb
  · rw [e] at hb
    unfold frs at hb
    rw [List.filterMap_cons, hf] at hb
    exact hb
theorem Inv.stkFree (I : Inv X pins σ H s) : ∀ b ∈ frs X.stack, H b = none := fun b hb => by
  rcases List.mem_cons.mp (I.stkSub b hb) with e | hb
  · rw [e]; exact I.free
  · obtain ⟨_, o, ho, _⟩ := I.ok.funs.mem hb
    exact I.base.free b o ho (I.ok.frf b hb) fun z => I.ok.exfs b z hb

/-- THE STEP: the untracked objects but the frame and the records at ch are kept (the callers' frames up to slots), the frame's map is kept, the new abstract heap is held -/
theorem Inv.step {g' : Array GenState} {t' : Nat} {d' : Drawn} {ch : List Addr} (I : Inv X pins σ H s)
    (hch : ∀ b ∈ ch, (b ∈ X.ex ∨ X.s₀.heap.objs.size ≤ b) ∧ b ≠ X.env.locals ∧ (∀ x c, X.env.cells.lookup x = some c → c ≠ b) ∧ ∀ p ∈ X.pn ++ pins, p.1 ≠ b)
    (keep : ∀ b o, b ≠ X.env.locals → b ∉ X.fs → b ∉ ch → s.heap.get? b = some o → H b = none → h'.get? b = some o)
    (slot : ∀ b o, b ≠ X.env.locals → b ∈ X.fs → b ∉ ch → s.heap.get? b = some o → H b = none → ∃ sl, h'.get? b = some { o with slots := sl }) (free : ∀ b o, b ∉ ch → s.heap.get? b = some o → H b = none → H' b = none)
    (there : ∀ b o, b ∉ ch → s.heap.get? b = some o → ∃ o', h'.get? b = some o')
    (tups : ∀ b xs, H b = some (.tup xs) → H' b = some (.tup xs)) (frzs : ∀ b o u, H b = some (.frz o u) → H' b = some (.frz o u)) (tbls : ∀ b ps, H b = some (.tbl ps) → ∃ more, H' b = some (.tbl (ps ++ more)))
    (ns : ∀ m, s.heap.Ns X.env.locals m → h'.Ns X.env.locals m) (hok : HOk X.prog X.w H' h') (hg : AllBare g') :
    Inv X pins σ H' { s with heap := h', gens := g', drawn := d', toks := t' } := by
  have neL : ∀ b o, X.s₀.heap.get? b = some o → b ≠ X.env.locals := fun b o e => Nat.ne_of_lt (Nat.lt_of_lt_of_le (Heap.lt_size e) I.ok.above)
  have neC : ∀ b o, X.s₀.heap.get? b = some o → b ∉ X.ex → b ∉ ch := fun b o e hx hb => by
    rcases (hch b hb).1 with z | z
    · exact hx z
    · exact absurd (Nat.lt_of_lt_of_le (Heap.lt_size e) z) (Nat.lt_irrefl _)
  have cellK : ∀ x c, X.env.cells.lookup x = some c → ∀ v, s.heap.IsCell c v → h'.IsCell c v := fun x c e v ⟨o, ho, hd⟩ => by
    have nch : c ∉ ch := fun z => (hch c z).2.2.1 x c e rfl
    by_cases hc : c ∈ X.fs
    · obtain ⟨sl, q⟩ := slot c o (I.cne x c e) hc nch ho (I.freeC x c e)
      exact ⟨_, q, hd⟩
    · exact ⟨o, keep c o (I.cne x c e) hc nch ho (I.freeC x c e), hd⟩
  refine ⟨I.ok, I.os, hg, ⟨fun b o e n hb hx => ?_, fun b o e n hb hx => ?_, fun b o e n hx => ?_, fun b o e hx => ?_, fun b xs e => tups b xs (I.base.tups b xs e), fun b o xs e => frzs b o xs (I.base.frzs b o xs e), fun b ps e => ?_⟩, ?_, fun x c e => ?_, ?_, fun x c e => ?_, fun p hp => ?_, hok, I.len⟩
  · exact keep b o (neL b o e) hb (neC b o e hx) (I.base.keep b o e n hb hx) (I.base.free b o e n hx)
  · obtain ⟨sl, e1⟩ := I.base.slot b o e n hb hx
    obtain ⟨sl', e2⟩ := slot b _ (neL b o e) hb (neC b o e hx) e1 (I.base.free b o e n hx)
    exact ⟨sl', e2⟩
  · obtain ⟨o', e1⟩ := I.base.there b o e hx
    exact free b o' (neC b o e hx) e1 (I.base.free b o e n hx)
  · obtain ⟨o', e1⟩ := I.base.there b o e hx
    exact there b o' (neC b o e hx) e1
  · obtain ⟨m1, e1⟩ := I.base.tbls b ps e
    obtain ⟨m2, e2⟩ := tbls b _ e1
    exact ⟨m1 ++ m2, by rw [e2, Array.append_assoc]⟩
  · obtain ⟨m, hn, hl⟩ := I.loc
    refine ⟨m, ns m hn, fun i x v e1 e2 e3 => ?_⟩
    obtain ⟨u, r, l⟩ := hl i x v e1 e2 e3
    refine ⟨u, r, ?_⟩
    rcases l with l | ⟨k, c, e, z⟩
    · exact .inl l
    · exact .inr ⟨k, c, e, cellK x c e _ z⟩
  · obtain ⟨v, z⟩ := I.cell x c e
    exact ⟨v, cellK x c e v z⟩
  · obtain ⟨m, ⟨o, _, _, ho, _⟩, _⟩ := I.loc
    exact free _ o (fun z => (hch _ z).2.1 rfl) ho I.free
  · obtain ⟨v, o, ho, hd⟩ := I.cell x c e
    exact free c o (fun z => (hch c z).2.2.1 x c e rfl) ho (I.freeC x c e)
  · obtain ⟨e, n, ne, nf, d⟩ := I.pin p hp
    have nch : p.1 ∉ ch := fun z => (hch p.1 z).2.2.2 p hp rfl
    exact ⟨keep p.1 p.2 ne nf nch e n, free p.1 p.2 nch e n, ne, nf, d⟩
/-- .. where the frame's own object is kept too -/
theorem Inv.un {t' : Nat} (I : Inv X pins σ H s) (u : Un X.fs [] H H' s.heap h') (hok : HOk X.prog X.w H' h') : Inv X pins σ H' { s with heap := h', toks := t' } := by
  obtain ⟨m, ⟨o, es, ep, ho, r⟩, _⟩ := id I.loc
  obtain ⟨sl, hL⟩ := u.any ho I.free (by simp)
  exact I.step (g' := s.gens) (d' := s.drawn) (ch := []) (fun _ z => nomatch z) (fun b o _ hb _ e n => u.keep b o e n hb (by simp)) (fun b o _ hb _ e n => u.slot b o e n hb (by simp)) (fun b o _ e n => u.free b o e n (by simp)) (fun b o _ e => u.there b o e (by simp)) u.tups u.frzs u.tbls (fun m' hm => by
    obtain ⟨o', es', ep', ho', r'⟩ := hm
    rw [ho] at ho'; cases ho'
    exact ⟨_, es', ep', hL, r'⟩) hok I.bare
/-- behind a call (or a comprehension's block): the slots of this frame may have changed too, the records at ch may have turned -/
theorem Inv.call {g' : Array GenState} {t' : Nat} {d' : Drawn} {ch : List Addr} (I : Inv X pins σ H s) (u : Un (frs X.stack) ch H H' s.heap h') (hok : HOk X.prog X.w H' h') (hg : AllBare g')
    (hch : ∀ b ∈ ch, (b ∈ X.ex ∨ X.s₀.heap.objs.size ≤ b) ∧ b ≠ X.env.locals ∧ (∀ x c, X.env.cells.lookup x = some c → c ≠ b) ∧ ∀ p ∈ X.pn ++ pins, p.1 ≠ b) :
    Inv X pins σ H' { s with heap := h', gens := g', drawn := d', toks := t' } := by
  obtain ⟨m, ⟨o, es, ep, ho, r⟩, _⟩ := id I.loc
  obtain ⟨sl, hL⟩ := u.any ho I.free fun z => (hch _ z).2.1 rfl
  exact I.step (ch := ch) hch (fun b o hL hb hc e n => u.keep b o e n (fun z => (List.mem_cons.mp (I.stkSub b z)).elim hL hb) hc) (fun b o _ _ hc e n => u.any e n hc) (fun b o hc e n => u.free b o e n hc) (fun b o hc e => u.there b o e hc) u.tups u.frzs u.tbls (fun m' hm => by
    obtain ⟨o', es', ep', ho', r'⟩ := hm
    rw [ho] at ho'; cases ho'
    exact ⟨_, es', ep', hL, r'⟩) hok hg
/-- an untracked record of ours (an iterator) has turned -/
theorem Inv.turned {t' : Nat} {it : Addr} (I : Inv X pins σ H s) (k : ∀ b o, b ≠ it → s.heap.get? b = some o → h'.get? b = some o) (hn : H it = none) (hL : it ≠ X.env.locals)
    (h1 : it ∈ X.ex ∨ X.s₀.heap.objs.size ≤ it) (h2 : ∀ x c, X.env.cells.lookup x = some c → c ≠ it) (h3 : ∀ p ∈ X.pn ++ pins, p.1 ≠ it) : Inv X pins σ H { s with heap := h', toks := t' } := by
  have nit : ∀ b u, H b = some u → b ≠ it := fun b u e z => by rw [z, hn] at e; cases e
  refine I.step (g' := s.gens) (d' := s.drawn) (ch := [it]) (fun b hb => ?_) (fun b o _ _ hc e _ => k b o (fun z => hc (by simp [z])) e) (fun b o _ _ hc e _ => ⟨o.slots, k b o (fun z => hc (by simp [z])) e⟩) (fun _ _ _ _ n => n)
    (fun b o hc e => ⟨o, k b o (fun z => hc (by simp [z])) e⟩) (fun _ _ e => e) (fun _ _ _ e => e) (fun b ps e => ⟨#[], by rw [e]; simp⟩) (fun m hm => ?_) (fun b u e => ?_) I.bare
  · have e : b = it := by simpa using hb
    subst e
    exact ⟨h1, hL, h2, h3⟩
  · obtain ⟨o, es, ep, ho, r⟩ := hm
    exact ⟨o, es, ep, k _ o (Ne.symm hL) ho, r⟩
  · refine (I.hok b u e).stay (fun c v hc q => k c v ?_ q) (fun _ q => q) fun _ _ q => q
    rcases hc with z | z
    · rw [z]; exact nit b u e
    · exact nit c _ z
theorem Inv.tok (I : Inv X pins σ H s) (t : Nat) : Inv X pins σ H { s with toks := t } := I.un (h' := s.heap) (t' := t) Un.refl I.hok
/-- all objects kept -/
theorem Inv.kept {t' : Nat} (I : Inv X pins σ H s) (k : ∀ b u, s.heap.get? b = some u → h'.get? b = some u) : Inv X pins σ H { s with heap := h', toks := t' } := I.un (Un.kept k) (I.hok.kept k)
/-- a new object laid and tracked -/
theorem Inv.laid {a : Addr} {o : HO} {t' : Nat} (I : Inv X pins σ H s) (k : ∀ b u, s.heap.get? b = some u → h'.get? b = some u) (hp : s.heap.objs.size ≤ a) (new : ObjOk X.prog X.w (upd H a o) h' a o) :
    Inv X pins σ (upd H a o) { s with heap := h', toks := t' } := I.un (Un.laid k hp (I.hok.fresh hp)) (I.hok.laid k hp new)
/-- an object written -/
theorem Inv.write {x e : Addr} {o : HO} {t' : Nat} (I : Inv X pins σ H s) (mu : Mut (H x)) (he : e = x ∨ H e = some (.own x)) (k : ∀ b u, b ≠ e → s.heap.get? b = some u → h'.get? b = some u) (heo : ∃ u, h'.get? e = some u)
    (new : ObjOk X.prog X.w (upd H x o) h' x o) : Inv X pins σ (upd H x o) { s with heap := h', toks := t' } := I.un (Un.write mu he k heo) (I.hok.write mu he k heo new)
/-- forgetting slots, pins -/
theorem Inv.weak {σ' : List (Option V)} (I : Inv X pins σ H s) (hl : σ'.length = σ.length) (w : ∀ (i : Nat) v, σ'[i]? = some (some v) → σ[i]? = some (some v)) : Inv X pins σ' H s :=
  ⟨I.ok, I.os, I.bare, I.base, let ⟨m, hn, hl'⟩ := I.loc; ⟨m, hn, fun i x v e1 e2 e3 => hl' i x v e1 (w i v e2) e3⟩, I.cell, I.free, I.freeC, I.pin, I.hok, hl.trans I.len⟩
theorem Inv.pins_of {pins' : List (Addr × Obj)} (I : Inv X pins σ H s) (h : ∀ p ∈ pins', s.heap.get? p.1 = some p.2 ∧ H p.1 = none ∧ p.1 ≠ X.env.locals ∧ p.1 ∉ X.fs ∧ ∀ v, p.2.data ≠ .cell v) : Inv X pins' σ H s :=
  ⟨I.ok, I.os, I.bare, I.base, I.loc, I.cell, I.free, I.freeC, fun p hp => (List.mem_append.mp hp).elim (fun z => I.pin p (List.mem_append_left _ z)) (h p), I.hok, I.len⟩

theorem nodup_ix {N : List Str} (hN : N.Nodup) {i j : Nat} {x : Str} (a : N[i]? = some x) (b : N[j]? = some x) : i = j := by
  obtain ⟨h1, e1⟩ := List.getElem?_eq_some_iff.mp a
  obtain ⟨h2, e2⟩ := List.getElem?_eq_some_iff.mp b
  exact (List.getElem_inj hN).mp (e1.trans e2.symm)

/-- a name is stored; what changed -/
theorem store_ok2 {M : Model} {A : Around} {E : Value → Shared → Prop} {i : Nat} {x : Str} {v : V} {u : Value} {Q : Unit → Shared → Prop} (I : Inv X pins σ H s) (hN : X.N.Nodup) (hi : X.N[i]? = some x) (hx : Loc X.env.scope x) (r : RelV v u)
    (h : ∀ s', Inv X pins (σ.set i (some v)) H s' → (∃ a, Heap.SameBut a s.heap s'.heap ∧ (a = X.env.locals ∨ X.env.cells.lookup x = some a)) → Q () s') (hf : X.fn x = true ∨ X.env.scope.names.lookup x = some .local := by first | exact .inl rfl | exact .inr rfl | assumption) : wpAny M A (storeName X.env x u) Q E s := by
  obtain ⟨m, hn, hl⟩ := id I.loc
  have hcls : (X.env.scope.kind == .class || (X.env.scope.kind == .module && X.env.locals != X.env.globals)) = false := by rw [I.ok.kind]; rfl
  have hiσ : i < σ.length := by rw [I.len]; exact (List.getElem?_eq_some_iff.mp hi).1
  have cne := I.cne
  have tracked : ∀ {a : Addr} {h' : Heap}, (∃ o, s.heap.get? a = some o ∧ H a = none) → Heap.SameBut a s.heap h' → HOk X.prog X.w H h' := fun {a h'} ha hs b ob e => by
    obtain ⟨_, _, hfree⟩ := ha
    refine (I.hok b ob e).stay (fun c w' hc q => (hs.2 c ?_).trans q) (fun _ q => q) fun _ _ q => q
    rintro rfl
    rcases hc with rfl | hc
    · rw [hfree] at e; cases e
    · rw [hfree] at hc; cases hc
  rcases hx with hk | hk
  · refine wpAny_storeName_local hk hn (fun h' hn' hs => ?_) hcls
    obtain ⟨oL, _, _, hoL, _⟩ := id hn
    refine h _ ⟨I.ok, I.os, I.bare, ⟨fun b o e n hb hx => ?_, fun b o e n hb hx => ?_, I.base.free, fun b o e hx => ?_, I.base.tups, I.base.frzs, I.base.tbls⟩, ⟨_, hn', fun j y v' e1 e2 e3 => ?_⟩, fun y c e => ?_, I.free, I.freeC, fun p hp => ?_, tracked ⟨oL, hoL, I.free⟩ hs, by simpa using I.len⟩ ⟨_, hs, .inl rfl⟩
    · exact (hs.2 b (Nat.ne_of_lt (Nat.lt_of_lt_of_le (Heap.lt_size e) I.ok.above))).trans (I.base.keep b o e n hb hx)
    · obtain ⟨sl, e1⟩ := I.base.slot b o e n hb hx
      exact ⟨sl, (hs.2 b (Nat.ne_of_lt (Nat.lt_of_lt_of_le (Heap.lt_size e) I.ok.above))).trans e1⟩
    · obtain ⟨o', e1⟩ := I.base.there b o e hx
      exact ⟨o', (hs.2 b (Nat.ne_of_lt (Nat.lt_of_lt_of_le (Heap.lt_size e) I.ok.above))).trans e1⟩
    · by_cases hj : j = i
      · subst hj
        rw [hi] at e1; cases e1
        rw [List.getElem?_set_self hiσ] at e2
        cases e2
        exact ⟨u, r, .inl ⟨hk, by simp⟩⟩
      · rw [List.getElem?_set_ne (Ne.symm hj)] at e2
        obtain ⟨u', r', q⟩ := hl j y v' e1 e2 e3
        refine ⟨u', r', ?_⟩
        rcases q with ⟨k, e⟩ | ⟨k, c, e, z⟩
        · refine .inl ⟨k, ?_⟩
          have : y ≠ x := fun e => hj (nodup_ix hN e1 (e ▸ hi))
          simp [this, e]
        · exact .inr ⟨k, c, e, z.sameBut hs (cne y c e)⟩
    · obtain ⟨w', z⟩ := I.cell y c e
      exact ⟨w', z.sameBut hs (cne y c e)⟩
    · obtain ⟨e, n, ne, nf, d⟩ := I.pin p hp
      exact ⟨(hs.2 p.1 ne).trans e, n, ne, nf, d⟩
  · have hfn : X.fn x = true := by
      rcases hf with z | z
      · exact z
      · rw [z] at hk; cases hk
    obtain ⟨c, hc⟩ := I.ok.has x (.inl hk)
    obtain ⟨w', z⟩ := I.cell x c hc
    refine wpAny_storeName_cell I.ok.kind hk hc z (fun h' hc' hs => ?_)
    obtain ⟨oc, hoc, hocd⟩ := id z
    refine h { s with heap := h' } ⟨I.ok, I.os, I.bare, ⟨fun b o e n hb hx => ?_, fun b o e n hb hx => ?_, I.base.free, fun b o e hx => ?_, I.base.tups, I.base.frzs, I.base.tbls⟩, ⟨m, hn.sameBut hs (Ne.symm (cne x c hc)), fun j y v' e1 e2 e3 => ?_⟩, fun y c' e => ?_, I.free, I.freeC, fun p hp => ?_, tracked ⟨oc, hoc, I.freeC x c hc⟩ hs, by simpa using I.len⟩ ⟨c, hs, .inr hc⟩
    · exact (hs.2 b (Nat.ne_of_lt (Nat.lt_of_lt_of_le (Heap.lt_size e) (I.ok.cab x c hfn hc)))).trans (I.base.keep b o e n hb hx)
    · obtain ⟨sl, e1⟩ := I.base.slot b o e n hb hx
      exact ⟨sl, (hs.2 b (Nat.ne_of_lt (Nat.lt_of_lt_of_le (Heap.lt_size e) (I.ok.cab x c hfn hc)))).trans e1⟩
    · obtain ⟨o', e1⟩ := I.base.there b o e hx
      exact ⟨o', (hs.2 b (Nat.ne_of_lt (Nat.lt_of_lt_of_le (Heap.lt_size e) (I.ok.cab x c hfn hc)))).trans e1⟩
    · by_cases hj : j = i
      · subst hj
        rw [hi] at e1; cases e1
        rw [List.getElem?_set_self hiσ] at e2
        cases e2
        exact ⟨u, r, .inr ⟨.inl hk, c, hc, hc'⟩⟩
      · rw [List.getElem?_set_ne (Ne.symm hj)] at e2
        obtain ⟨u', r', q⟩ := hl j y v' e1 e2 e3
        refine ⟨u', r', ?_⟩
        rcases q with q | ⟨k, c', e, z'⟩
        · exact .inl q
        · refine .inr ⟨k, c', e, z'.sameBut hs ?_⟩
          rintro rfl
          exact hj (nodup_ix hN e1 (I.ok.inj _ _ _ e hc ▸ hi))
    · by_cases hcc : c' = c
      · subst hcc; exact ⟨_, hc'⟩
      · obtain ⟨w2, z2⟩ := I.cell y c' e
        exact ⟨w2, z2.sameBut hs hcc⟩
    · obtain ⟨e, n, ne, nf, d⟩ := I.pin p hp
      refine ⟨(hs.2 p.1 ?_).trans e, n, ne, nf, d⟩
      intro q
      rw [q, hoc] at e
      have q' : oc = p.2 := Option.some.inj e
      exact d w' (by rw [← q']; exact hocd)
theorem store_ok {M : Model} {A : Around} {E : Value → Shared → Prop} {i : Nat} {x : Str} {v : V} {u : Value} {Q : Unit → Shared → Prop} (I : Inv X pins σ H s) (hN : X.N.Nodup) (hi : X.N[i]? = some x) (hx : Loc X.env.scope x) (r : RelV v u)
    (h : ∀ s', Inv X pins (σ.set i (some v)) H s' → Q () s') (hf : X.fn x = true ∨ X.env.scope.names.lookup x = some .local := by first | exact .inl rfl | exact .inr rfl | assumption) : wpAny M A (storeName X.env x u) Q E s :=
  store_ok2 I hN hi hx r (fun s' I' _ => h s' I') hf
/-- behind a call or a block, the state as it is -/
theorem Inv.call' {s' : Shared} {ch : List Addr} (I : Inv X pins σ H s) (ho : s'.os = s.os) (u : Un (frs X.stack) ch H H' s.heap s'.heap) (hok : HOk X.prog X.w H' s'.heap) (hg : AllBare s'.gens)
    (hch : ∀ b ∈ ch, (b ∈ X.ex ∨ X.s₀.heap.objs.size ≤ b) ∧ b ≠ X.env.locals ∧ (∀ x c, X.env.cells.lookup x = some c → c ≠ b) ∧ ∀ p ∈ X.pn ++ pins, p.1 ≠ b) : Inv X pins σ H' s' := by
  obtain ⟨h', g', d', t', o'⟩ := s'
  have e : o' = s.os := ho
  subst e
  exact I.call (g' := g') (t' := t') (d' := d') u hok hg hch
end

/-! ### the judgements -/
/-- an exception: its class, its own dict's address (where it has one), the abstract heap behind it -/
abbrev XK := Value → Option Addr → Hp → Prop
abbrev St := List (Option V)
abbrev VK := V → Hp → Prop
/-- an expression's reading; a test's; an argument list's -/
abbrev TE := St → Hp → VK → Prop
abbrev TT := St → Hp → (Bool → Hp → Prop) → Prop
abbrev TA := St → Hp → (List V → Hp → Prop) → Prop
/-- what is wanted behind a statement -/
structure Ends where
  nx : St → Hp → Prop
  rt : VK
  bk : St → Hp → Prop := fun _ _ => False
  ct : St → Hp → Prop := fun _ _ => False
abbrev TS := Ends → St → Hp → Prop

def EP (X : Cx) (pins : List (Addr × Obj)) (σ : St) (Q : VK) (u : Value) (s' : Shared) : Prop := ∃ v H', Inv X pins σ H' s' ∧ RelV v u ∧ Q v H'
def TP (X : Cx) (pins : List (Addr × Obj)) (σ : St) (Q : Bool → Hp → Prop) (b : Bool) (s' : Shared) : Prop := ∃ H', Inv X pins σ H' s' ∧ Q b H'
def AP (X : Cx) (pins : List (Addr × Obj)) (σ : St) (Q : List V → Hp → Prop) (us : List Value) (s' : Shared) : Prop := ∃ vs H', Inv X pins σ H' s' ∧ Vals vs us ∧ Q vs H'
def SP (X : Cx) (pins : List (Addr × Obj)) (D : Ends) (f : Flow) (s' : Shared) : Prop :=
  match f with
  | .next => ∃ σ' H', Inv X pins σ' H' s' ∧ D.nx σ' H'
  | .brk => ∃ σ' H', Inv X pins σ' H' s' ∧ D.bk σ' H'
  | .cont => ∃ σ' H', Inv X pins σ' H' s' ∧ D.ct σ' H'
  | .ret u => ∃ v σ' H', Inv X pins σ' H' s' ∧ RelV v u ∧ D.rt v H'

def PE (X : Cx) (e : Expr) (t : TE) : Prop :=
  ∀ (pins : List (Addr × Obj)) (s : Shared) (σ : St) (H : Hp) (Q : VK), Inv X pins σ H s → t σ H Q → wpAny (model X.prog X.w) X.A (eval e X.env) (EP X pins σ Q) X.xe s
def PT (X : Cx) (e : Expr) (t : TT) : Prop :=
  ∀ (pins : List (Addr × Obj)) (s : Shared) (σ : St) (H : Hp) (Q : Bool → Hp → Prop), Inv X pins σ H s → t σ H Q → wpAny (model X.prog X.w) X.A (isTrue e X.env (eval e X.env)) (TP X pins σ Q) X.xe s
/-- a test whatever its 'whole' is (and, or) -/
def PW (X : Cx) (e : Expr) (t : TT) : Prop :=
  ∀ (whole : Sem Value) (pins : List (Addr × Obj)) (s : Shared) (σ : St) (H : Hp) (Q : Bool → Hp → Prop), Inv X pins σ H s → t σ H Q → wpAny (model X.prog X.w) X.A (isTrue e X.env whole) (TP X pins σ Q) X.xe s
theorem PW.pt {X : Cx} {e : Expr} {t : TT} (h : PW X e t) : PT X e t := h _
/-- an argument list (no star), from the left -/
def PA (X : Cx) (es : List Expr) (t : TA) : Prop :=
  ∀ (pos : Pos) (pins : List (Addr × Obj)) (s : Shared) (σ : St) (H : Hp) (Q : List V → Hp → Prop), Inv X pins σ H s → t σ H Q → wpAny (model X.prog X.w) X.A (spliced (backTo pos (starEach es X.env))) (AP X pins σ Q) X.xe s
def PS (X : Cx) (st : Stmt) (t : TS) : Prop :=
  ∀ (pins : List (Addr × Obj)) (s : Shared) (σ : St) (H : Hp) (D : Ends), Inv X pins σ H s → t D σ H → wpAny (model X.prog X.w) X.A (exec st X.env) (SP X pins D) X.xe s
def PSs (X : Cx) (st : List Stmt) (t : TS) : Prop :=
  ∀ (pins : List (Addr × Obj)) (s : Shared) (σ : St) (H : Hp) (D : Ends), Inv X pins σ H s → t D σ H → wpAny (model X.prog X.w) X.A (execs st X.env) (SP X pins D) X.xe s
/-- weaken the end -/
theorem thn {α : Type} {t : Sem α} {Q Q' : α → Shared → Prop} {M : Model} {A : Around} {E : Value → Shared → Prop} {s : Shared} (h : wpAny M A t Q E s) (hQ : ∀ a s, Q a s → Q' a s) : wpAny M A t Q' E s := wpAny_mono h hQ fun _ _ x => x
end L2

namespace L2
open PySem PySem.Spec PyProof.Rows
section
variable {X : Cx}

/-! ### names and constants -/
def tVar (i : Nat) : TE := fun σ H Q => ∃ v, σ[i]? = some (some v) ∧ Q v H
def tC (v : V) : TE := fun _ H Q => Q v H
theorem pe_var {i : Nat} {x : Str} {pos : Pos} (hN : X.N[i]? = some x) (hv : Vis X.env.scope x) (hd : (x == ("__debug__" : Str)) = false := by decide) (hcd : (x == ("__classdict__" : Str)) = false := by decide) : PE X (.Name x pos) (tVar i) := by
  intro pins s σ H Q I h
  obtain ⟨v, e, h⟩ := h
  obtain ⟨m, hn, hl⟩ := I.loc
  obtain ⟨u, r, l⟩ := hl i x v hN e hv
  have fin : EP X pins σ Q u s := ⟨v, H, I, r, h⟩
  rcases l with ⟨hk, hm⟩ | ⟨hk, c, hc, hcell⟩
  · exact wpAny_Name (wpAny_loadName_local I.ok.kind hk hn hm fin) hd
  · rcases hk with hk | hk
    · exact wpAny_Name (wpAny_loadName_cell I.ok.kind hk hc hcell fin) hd
    · exact wpAny_Name (wpAny_loadName_free I.ok.kind hk hc hcell fin hcd) hd
theorem pe_int {i j pos} : PE X (.Constant (.int i) j pos) (tC (.int i)) := fun _ _ _ H _ I h => wpAny_Constant_int ⟨.int i, H, I.tok _, ⟨_, rfl⟩, h⟩
theorem pe_bl {b j pos} : PE X (.Constant (.bool b) j pos) (tC (.bl b)) := fun _ _ _ H _ I h => Constant_bool ⟨.bl b, H, I, rfl, h⟩
theorem pe_non {j pos} : PE X (.Constant .none j pos) (tC .non) := fun _ _ _ H _ I h => Constant_none ⟨.non, H, I, rfl, h⟩
theorem pe_str {x j pos} : PE X (.Constant (.str x) j pos) (tC (.str x)) := fun _ _ _ H _ I h => Calls.Constant_str ⟨.str x, H, I.tok _, ⟨_, rfl⟩, h⟩

/-- a global name of the def -/
def Gl (X : Cx) (x : Str) : Prop := X.env.kindOf x = some .globalImplicit
theorem ld_glob {E : Value → Shared → Prop} {pins : List (Addr × Obj)} {s : Shared} {σ : St} {H : Hp} {x : Str} {u : Value} {pos : Pos} {Q : Value → Shared → Prop} (I : Inv X pins σ H s) (hg : Gl X x) (hm : X.mg x = some u) (h : Q u s)
    (hd : (x == ("__debug__" : Str)) = false := by decide) : wpAny (model X.prog X.w) X.A (eval (.Name x pos) X.env) Q E s :=
  Calls.Name_function_global I.ok.kind hg (Calls.loadGlobal_global (by rw [I.ok.glob]; exact I.mod.glob.keeps I.bk) hm h) hd
theorem ld_blt {E : Value → Shared → Prop} {pins : List (Addr × Obj)} {s : Shared} {σ : St} {H : Hp} {x : Str} {u : Value} {pos : Pos} {Q : Value → Shared → Prop} (I : Inv X pins σ H s) (hg : Gl X x) (hm : X.mg x = none) (hv : bootBuiltins x = some u) (h : Q u s)
    (hn : x ≠ "__name__" := by decide) (hd : (x == ("__debug__" : Str)) = false := by decide) : wpAny (model X.prog X.w) X.A (eval (.Name x pos) X.env) Q E s := by
  obtain ⟨mb, h1, h2⟩ := I.mod.blt
  exact Calls.Name_function_global I.ok.kind hg (Calls.loadGlobal_builtin (by rw [I.ok.glob]; exact I.mod.glob.keeps I.bk) hm (by rw [I.ok.blt]; exact h1.keeps I.bk) ((h2 x hn).trans hv) h) hd
/-- a module's constant, a class, a function, as a value -/
theorem pe_glob {x : Str} {v : V} {u : Value} {pos : Pos} (hg : Gl X x) (hm : X.mg x = some u) (r : RelV v u) (hd : (x == ("__debug__" : Str)) = false := by decide) : PE X (.Name x pos) (tC v) :=
  fun _ _ _ H _ I h => ld_glob I hg hm ⟨v, H, I, r, h⟩ hd
theorem pe_bltn {x : Str} {v : V} {u : Value} {pos : Pos} (hg : Gl X x) (hm : X.mg x = none) (hv : bootBuiltins x = some u) (r : RelV v u) (hn : x ≠ "__name__" := by decide) (hd : (x == ("__debug__" : Str)) = false := by decide) : PE X (.Name x pos) (tC v) :=
  fun _ _ _ H _ I h => ld_blt I hg hm hv ⟨v, H, I, r, h⟩ hn hd

/-! ### arithmetic -/
variable {a b : Expr} {ta tb : TE} {pos : Pos}
/-! ### comparisons -/
/-- a comparison as a value, as a test -/
def tB (t : TE) : TT := fun σ H Q => t σ H fun x H1 => ∃ c, x = .bl c ∧ Q c H1
/-- an expression whose value is a bool, as a test -/
theorem pt_val {e : Expr} {t : TE} (h : PE X e t) (he : ∀ whole, isTrue e X.env whole = (do let v ← whole; standAt e.pos; holding [v] (truthy v)) := by intro _; rfl) : PT X e (tB t) := by
  intro pins s σ H Q I hw
  refine isTrue_plain (thn (h pins s σ H _ I hw) fun v s1 ⟨x, H1, I1, r1, q1⟩ => ?_) (he _)
  obtain ⟨d, rfl, q⟩ := q1
  cases r1
  exact wpAny_truthy_bool ⟨H1, I1, q⟩

/-! ### and, or, not -/
variable {tA tB' : TT} {rest : List Expr}
def tOr (t u : TT) : TT := fun σ H Q => t σ H fun c H1 => if c = true then Q true H1 else u σ H1 Q
def tNot (t : TT) : TT := fun σ H Q => t σ H fun c H1 => Q (!c) H1
theorem pw_or1 (ha : PT X a tA) : PW X (.BoolOp .Or [a] pos) tA := by
  intro wh pins s σ H Q I h
  refine isTrue_or (thn (ha pins s σ H Q I h) fun c s1 e => ?_)
  cases c with
  | false => exact isTrue_or_nil e
  | true => exact e
theorem pw_or (ha : PT X a tA) (hb : PW X (.BoolOp .Or (b :: rest) pos) tB') : PW X (.BoolOp .Or (a :: b :: rest) pos) (tOr tA tB') := by
  intro wh pins s σ H Q I h
  refine isTrue_or (thn (ha pins s σ H _ I h) fun c s1 ⟨H1, I1, q1⟩ => ?_)
  cases c with
  | true => exact ⟨H1, I1, q1⟩
  | false => exact hb wh pins s1 σ H1 Q I1 q1
theorem pt_not (ha : PT X a tA) : PT X (.UnaryOp .Not a pos) (tNot tA) := by
  intro pins s σ H Q I h
  exact isTrue_not (ha pins s σ H (fun c H1 => Q (!c) H1) I h)
/-- .. as values (bools) -/
def tAndV (ta tb : TE) : TE := fun σ H Q => ta σ H fun x H1 => ∃ c, x = .bl c ∧ if c = true then tb σ H1 Q else Q (.bl false) H1
def tNotV (ta : TE) : TE := fun σ H Q => ta σ H fun x H1 => ∃ c, x = .bl c ∧ Q (.bl (!c)) H1
theorem pe_one {op} {t : TE} (h : PE X a t) : PE X (.BoolOp op [a] pos) t := fun pins s σ H Q I hw => BoolOp_one (h pins s σ H Q I hw)
theorem pe_and (ha : PE X a ta) (hb : PE X (.BoolOp .And (b :: rest) pos) tb) : PE X (.BoolOp .And (a :: b :: rest) pos) (tAndV ta tb) := by
  intro pins s σ H Q I h
  refine BoolOp_and (thn (ha pins s σ H _ I h) fun v s1 ⟨x, H1, I1, r1, q1⟩ => ?_)
  obtain ⟨c, rfl, q1⟩ := q1
  cases r1
  refine wpAny_truthy_bool ?_
  cases c with
  | true => exact hb pins s1 σ H1 Q I1 q1
  | false => exact ⟨.bl false, H1, I1, rfl, q1⟩
theorem pe_not (ha : PE X a ta) : PE X (.UnaryOp .Not a pos) (tNotV ta) := by
  intro pins s σ H Q I h
  refine UnaryOp_ (thn (ha pins s σ H _ I h) fun v s1 ⟨x, H1, I1, r1, q1⟩ => ?_)
  obtain ⟨c, rfl, q1⟩ := q1
  cases r1
  exact not_of (wpAny_truthy_bool ⟨.bl (!c), H1, I1, rfl, q1⟩)
/-- a if t else b -/
def tIf (t : TT) (ta tb : TE) : TE := fun σ H Q => t σ H fun c H1 => if c = true then ta σ H1 Q else tb σ H1 Q
theorem pe_ifExp {c : Expr} (hc : PT X c tA) (ha : PE X a ta) (hb : PE X b tb) : PE X (.IfExp c a b pos) (tIf tA ta tb) := by
  intro pins s σ H Q I h
  refine wpAny_IfExp (thn (hc pins s σ H _ I h) fun d s1 ⟨H1, I1, q1⟩ => ?_)
  cases d with
  | true => exact ha pins s1 σ H1 Q I1 q1
  | false => exact hb pins s1 σ H1 Q I1 q1
end
end L2

namespace L2
open PySem PySem.Spec PyProof.Rows

/-! ### a list, a tuple that is read: tracked, frozen, or an object of the module -/
def SqL (K : PySem.W.Frag) (H : Hp) (a : Addr) (xs : List V) : Prop :=
  Rd H a (.lst xs) ∨
    ∃ (o : Obj) (its : Array Value) (n : Nat), K.lookup a = some o ∧ o.cls = .type "list" ∧ o.dict = none ∧ o.data = .seq its n ∧ its.size ≤ sizeLine ∧ Vals xs its.toList
def SqT (K : PySem.W.Frag) (H : Hp) (a : Addr) (xs : List V) : Prop :=
  Rd H a (.tup xs) ∨
    ∃ (o : Obj) (its : Array Value) (n : Nat), K.lookup a = some o ∧ o.cls = .type "tuple" ∧ o.data = .seq its n ∧ its.size ≤ sizeLine ∧ Vals xs its.toList
def absV : Value → Option V
  | .none => some .non
  | .bool b => some (.bl b)
  | .int i _ => some (.int i)
  | .str x _ => some (.str x)
  | .bytes b _ => some (.byt b)
  | .float b _ => some (.flt b)
  | .ref a => some (.ref a)
  | .type n => some (.ty n)
  | _ => none
theorem RelV.abs {x : V} {u : Value} (r : RelV x u) : absV u = some x := by
  cases x with
  | non => cases r; rfl
  | bl _ => cases r; rfl
  | int _ => obtain ⟨t, rfl⟩ := r; rfl
  | str _ => obtain ⟨t, rfl⟩ := r; rfl
  | byt _ => obtain ⟨t, rfl⟩ := r; rfl
  | flt _ => obtain ⟨t, rfl⟩ := r; rfl
  | ref _ => cases r; rfl
  | ty _ => cases r; rfl
theorem RelV.inj {x y : V} {u : Value} (r : RelV x u) (q : RelV y u) : x = y := Option.some.inj (r.abs.symm.trans q.abs)
theorem Vals.inj : ∀ {xs ys : List V} {us : List Value}, Vals xs us → Vals ys us → xs = ys
  | _, _, _, .nil, .nil => rfl
  | _, _, _, .cons r t, .cons r' t' => by rw [r.inj r', Vals.inj t t']
section
variable {X : Cx} {pins : List (Addr × Obj)} {σ : St} {H : Hp} {s : Shared} {a : Addr} {xs ys : List V}
theorem SqL.of {K : PySem.W.Frag} (h : H a = some (.lst xs)) : SqL K H a xs := .inl (.inl h)
theorem SqT.of {K : PySem.W.Frag} (h : H a = some (.tup xs)) : SqT K H a xs := .inl (.inl h)
theorem Inv.list (I : Inv X pins σ H s) (h : SqL X.K H a xs) : ∃ its : List Value, Vals xs its ∧ PlainL s.heap a its.toArray ∧ xs.length ≤ sizeLine := by
  rcases h with h | ⟨o, its, n, hk, hc, hd, hs, hz, r⟩
  · obtain ⟨z, its, n, r, e⟩ := h.ok I.hok
    exact ⟨its, r, ⟨_, n, e, rfl, rfl, rfl⟩, z⟩
  · refine ⟨its.toList, r, ⟨o, n, I.kIn a o hk, hc, hd, by simpa using hs⟩, ?_⟩
    have e := r.length
    simp only [Array.length_toList] at e
    omega
theorem Inv.tuple (I : Inv X pins σ H s) (h : SqT X.K H a xs) : ∃ its : List Value, Vals xs its ∧ IsTup s.heap a its.toArray ∧ xs.length ≤ sizeLine := by
  rcases h with h | ⟨o, its, n, hk, hc, hs, hz, r⟩
  · obtain ⟨z, its, r, p⟩ := h.ok I.hok
    exact ⟨its, r, p, z⟩
  · refine ⟨its.toList, r, ⟨o, I.kIn a o hk, hc, n, by simpa using hs⟩, ?_⟩
    have e := r.length
    simp only [Array.length_toList] at e
    omega
theorem Inv.list_inj (I : Inv X pins σ H s) (h : SqL X.K H a xs) (h' : SqL X.K H a ys) : xs = ys := by
  obtain ⟨its, r, ⟨o, n, e, _, _, d⟩, _⟩ := I.list h
  obtain ⟨its', r', ⟨o', n', e', _, _, d'⟩, _⟩ := I.list h'
  rw [e] at e'; cases e'
  rw [d] at d'
  injection d' with d1 _
  have : its = its' := by simpa using congrArg Array.toList d1
  subst this
  exact r.inj r'
theorem Inv.tuple_inj (I : Inv X pins σ H s) (h : SqT X.K H a xs) (h' : SqT X.K H a ys) : xs = ys := by
  obtain ⟨its, r, ⟨o, e, _, n, d⟩, _⟩ := I.tuple h
  obtain ⟨its', r', ⟨o', e', _, n', d'⟩, _⟩ := I.tuple h'
  rw [e] at e'; cases e'
  rw [d] at d'
  injection d' with d1 _
  have : its = its' := by simpa using congrArg Array.toList d1
  subst this
  exact r.inj r'
end

/-! ### another wish about exceptions -/
abbrev Cx.wish (X : Cx) (E : Value → Shared → Prop) : Cx := { X with xe := E }
/-- no exception leaves -/
abbrev Cx.nox (X : Cx) : Cx := X.wish fun _ _ => False
theorem Cx.Ok.wish {X : Cx} (ok : X.Ok) (E : Value → Shared → Prop) : (X.wish E).Ok :=
  ⟨ok.mod, ok.kind, ok.glob, ok.blt, ok.above, ok.inj, ok.has, ok.cab, ok.hd, ok.frames, ok.stk, ok.exf, ok.bs, ok.bsz, ok.noex, ok.exfs, ok.funs, ok.frf⟩
theorem Cx.Ok.unwish {X : Cx} {E : Value → Shared → Prop} (ok : (X.wish E).Ok) : X.Ok :=
  ⟨ok.mod, ok.kind, ok.glob, ok.blt, ok.above, ok.inj, ok.has, ok.cab, ok.hd, ok.frames, ok.stk, ok.exf, ok.bs, ok.bsz, ok.noex, ok.exfs, ok.funs, ok.frf⟩
section
variable {X : Cx} {pins : List (Addr × Obj)} {σ : St} {H : Hp} {s : Shared} {E : Value → Shared → Prop}
theorem Inv.wish (I : Inv X pins σ H s) (E : Value → Shared → Prop) : Inv (X.wish E) pins σ H s := ⟨I.ok.wish E, I.os, I.bare, I.base, I.loc, I.cell, I.free, I.freeC, I.pin, I.hok, I.len⟩
theorem Inv.unwish (I : Inv (X.wish E) pins σ H s) : Inv X pins σ H s := ⟨I.ok.unwish, I.os, I.bare, I.base, I.loc, I.cell, I.free, I.freeC, I.pin, I.hok, I.len⟩
theorem SP.unwish {D : Ends} {f : Flow} {s' : Shared} (h : SP (X.wish E) pins D f s') : SP X pins D f s' := by
  cases f with
  | next => obtain ⟨σ', H', I, q⟩ := h; exact ⟨σ', H', I.unwish, q⟩
  | brk => obtain ⟨σ', H', I, q⟩ := h; exact ⟨σ', H', I.unwish, q⟩
  | cont => obtain ⟨σ', H', I, q⟩ := h; exact ⟨σ', H', I.unwish, q⟩
  | ret u => obtain ⟨v, σ', H', I, r, q⟩ := h; exact ⟨v, σ', H', I.unwish, r, q⟩
theorem PE.nox {e : Expr} {t : TE} (h : PE X.nox e t) : PE X e t := fun pins s σ H Q I hw =>
  wpAny_mono (h pins s σ H Q (I.wish _) hw) (fun _ _ ⟨v, H', I', r, q⟩ => ⟨v, H', I'.unwish, r, q⟩) fun _ _ z => False.elim z
theorem PT.nox {e : Expr} {t : TT} (h : PT X.nox e t) : PT X e t := fun pins s σ H Q I hw =>
  wpAny_mono (h pins s σ H Q (I.wish _) hw) (fun _ _ ⟨H', I', q⟩ => ⟨H', I'.unwish, q⟩) fun _ _ z => False.elim z
theorem PSs.nox {st : List Stmt} {t : TS} (h : PSs X.nox st t) : PSs X st t := fun pins s σ H D I hw =>
  wpAny_mono (h pins s σ H D (I.wish _) hw) (fun _ _ q => q.unwish) fun _ _ z => False.elim z
end

/-! ### blocks and small statements -/
section
variable {X : Cx} {st : Stmt} {rest : List Stmt} {t u : TS} {e : Expr} {te : TE} {pos : Pos}
def tNext : TS := fun D σ H => D.nx σ H
def tSeq (t u : TS) : TS := fun D σ H => t { D with nx := u D } σ H
theorem pss_nil : PSs X [] tNext := fun _ _ σ H _ I h => wpAny_execs_nil ⟨σ, H, I, h⟩
theorem pss_cons (h1 : PS X st t) (h2 : PSs X rest u) : PSs X (st :: rest) (tSeq t u) := by
  intro pins s σ H D I h
  refine wpAny_execs_cons (thn (h1 pins s σ H { D with nx := u D } I h) fun f s1 q => ?_)
  cases f with
  | next =>
    obtain ⟨σ', H', I', q⟩ := q
    exact h2 pins s1 σ' H' D I' q
  | ret v => exact q
  | brk => exact q
  | cont => exact q
theorem pss_one (h1 : PS X st t) : PSs X [st] t := by
  intro pins s σ H D I h
  refine wpAny_execs_cons (thn (h1 pins s σ H D I h) fun f s1 q => ?_)
  cases f with
  | next => exact wpAny_execs_nil q
  | ret v => exact q
  | brk => exact q
  | cont => exact q
/-- in a def's body nothing is shown -/
theorem Inv.quiet {pins : List (Addr × Obj)} {σ : St} {H : Hp} {s : Shared} (I : Inv X pins σ H s) : interactive X.env = false := by simp [interactive, I.ok.kind]
/-- an expression whose value is dropped -/
def tDrop (te : TE) : TS := fun D σ H => te σ H fun _ H1 => D.nx σ H1
theorem ps_expr (he : PE X e te) (hs : swapsWith e none pos.line X.env = pure false := by rfl) : PS X (.Expr e pos) (tDrop te) := by
  intro pins s σ H D I h
  exact wpAny_Expr_any (thn (he pins s σ H _ I h) fun v s1 ⟨x, H1, I1, r1, q1⟩ => ⟨σ, H1, I1, q1⟩) I.quiet hs
def tRet (te : TE) : TS := fun D σ H => te σ H D.rt
theorem ps_ret (he : PE X e te) : PS X (.Return (some e) pos) (tRet te) := by
  intro pins s σ H D I h
  exact wpAny_Return_some (thn (he pins s σ H _ I h) fun v s1 ⟨x, H1, I1, r1, q1⟩ => ⟨x, σ, H1, I1, r1, q1⟩)
def tIfS (c : TT) (t u : TS) : TS := fun D σ H => c σ H fun b H1 => if b = true then t D σ H1 else u D σ H1
theorem ps_if {c : Expr} {a b : List Stmt} {tc : TT} (hc : PT X c tc) (ha : PSs X a t) (hb : PSs X b u) : PS X (.If c a b pos) (tIfS tc t u) := by
  intro pins s σ H D I h
  refine wpAny_If (thn (hc pins s σ H _ I h) fun d s1 ⟨H1, I1, q1⟩ => ?_)
  cases d with
  | true => exact ha pins s1 σ H1 D I1 q1
  | false => exact hb pins s1 σ H1 D I1 q1
/-- code that the proof never comes to -/
def tNever : TS := fun _ _ _ => False
theorem pss_never {sts : List Stmt} : PSs X sts tNever := fun _ _ _ _ _ _ h => h.elim
end

/-! ### targets -/
abbrev TG := V → St → Hp → (St → Hp → Prop) → Prop
abbrev TGs := List V → St → Hp → (St → Hp → Prop) → Prop
def PG (X : Cx) (target : Expr) (t : TG) : Prop :=
  ∀ (pins : List (Addr × Obj)) (s : Shared) (σ : St) (H : Hp) (v : V) (u : Value) (Q : St → Hp → Prop), Inv X pins σ H s → RelV v u → t v σ H Q →
    wpAny (model X.prog X.w) X.A (assign target X.env u) (fun _ s' => ∃ σ' H', Inv X pins σ' H' s' ∧ Q σ' H') X.xe s
/-- several targets, one after another -/
def PGs (X : Cx) (ts : List Expr) (t : TGs) : Prop :=
  ∀ (pins : List (Addr × Obj)) (s : Shared) (σ : St) (H : Hp) (vs : List V) (us : List Value) (Q : St → Hp → Prop), Inv X pins σ H s → Vals vs us → t vs σ H Q →
    wpAny (model X.prog X.w) X.A (assignInOrder ((assignEach ts X.env).map (·.2)) us) (fun _ s' => ∃ σ' H', Inv X pins σ' H' s' ∧ Q σ' H') X.xe s
/-- o[i] = v, by values -/
abbrev TSet := V → V → V → Hp → (Hp → Prop) → Prop
def PSet (X : Cx) (t : TSet) : Prop :=
  ∀ (pins : List (Addr × Obj)) (s : Shared) (σ : St) (H : Hp) (o i v : V) (ov iv u : Value) (Q : Hp → Prop), Inv X pins σ H s → RelV o ov → RelV i iv → RelV v u → t o i v H Q →
    wpAny (model X.prog X.w) X.A (setItem ov iv u) (fun _ s' => ∃ H', Inv X pins σ H' s' ∧ Q H') X.xe s
/-- a op= b, by values -/
abbrev TIp := V → V → Hp → VK → Prop
def PIp (X : Cx) (op : Operator) (t : TIp) : Prop :=
  ∀ (pins : List (Addr × Obj)) (s : Shared) (σ : St) (H : Hp) (x y : V) (v u : Value) (Q : VK), Inv X pins σ H s → RelV x v → RelV y u → t x y H Q →
    wpAny (model X.prog X.w) X.A (inplaceOp op v u) (EP X pins σ Q) X.xe s
section
variable {X : Cx} {pos : Pos}
def gName (i : Nat) : TG := fun v σ H Q => Q (σ.set i (some v)) H
theorem pg_name {i : Nat} {x : Str} (hN : X.N.Nodup) (hi : X.N[i]? = some x) (hx : Loc X.env.scope x) (hf : X.fn x = true ∨ X.env.scope.names.lookup x = some .local := by first | exact .inl rfl | exact .inr rfl | assumption) : PG X (.Name x pos) (gName i) := by
  intro pins s σ H v u Q I r h
  exact wpAny_assign_Name (store_ok I hN hi hx r (fun s' I' => ⟨_, H, I', h⟩) hf)
def gNil : TGs := fun vs σ H Q => vs = [] ∧ Q σ H
def gCons (t : TG) (u : TGs) : TGs := fun vs σ H Q => ∃ v r, vs = v :: r ∧ t v σ H fun σ' H' => u r σ' H' Q
theorem pgs_nil : PGs X [] gNil := by
  intro pins s σ H vs us Q I r h
  obtain ⟨e, h⟩ := h
  subst e
  cases r
  exact assignInOrder_nil ⟨σ, H, I, h⟩
theorem pgs_cons {e : Expr} {es : List Expr} {t : TG} {u : TGs} (h1 : PG X e t) (h2 : PGs X es u)
    (hs : (assignEach (e :: es) X.env).map (·.2) = assign e X.env :: (assignEach es X.env).map (·.2) := by rfl) : PGs X (e :: es) (gCons t u) := by
  intro pins s σ H vs us Q I r h
  obtain ⟨v, vr, e1, h⟩ := h
  subst e1
  cases r with
  | cons r rr =>
    rw [hs]
    refine assignInOrder_cons (thn (h1 pins s σ H _ _ _ I r h) fun _ s1 ⟨σ1, H1, I1, q1⟩ => ?_)
    exact h2 pins s1 σ1 H1 _ _ Q I1 rr q1
/-- (a, b, ..) = a tuple of that length -/
def gTup (K : PySem.W.Frag) (n : Nat) (t : TGs) : TG := fun v σ H Q => ∃ a xs, v = .ref a ∧ SqT K H a xs ∧ xs.length = n ∧ t xs σ H Q
theorem pg_tup {es : List Expr} {k : Nat} {t : TGs} {n : Nat} (hc : X.calm = true) (h : PGs X es t)
    (hn : (assignEach es X.env).length = n := by rfl) (hst : (assignEach es X.env).findIdx? (·.1) = none := by rfl) : PG X (.Tuple es k pos) (gTup X.K n t) := by
  intro pins s σ H v u Q I r hw
  obtain ⟨a, xs, e1, hq, hl, hw⟩ := hw
  subst e1
  cases r
  obtain ⟨its, rv, ht, hz⟩ := I.tuple hq
  refine assign_Tuple_tuple (I.ok.hd hc) ht (by simp [hn, ← hl, rv.length]) hst fun h' hx => ?_
  have I1 : Inv X pins σ H { s with heap := h' } := I.kept (t' := s.toks) fun b o e => hx b o (Nat.ne_of_lt (Heap.lt_size e)) e
  exact h pins _ σ H xs _ Q I1 (by simpa using rv) hw
/-- o[i] = .. -/
def gSub (to ti : TE) (t : TSet) : TG := fun v σ H Q => to σ H fun o H1 => ti σ H1 fun i H2 => t o i v H2 fun H3 => Q σ H3
theorem pg_sub {o i : Expr} {to ti : TE} {t : TSet} (ho : PE X o to) (hi : PE X i ti) (hs : PSet X t)
    (ha : ∀ v, assign (.Subscript o i pos) X.env v = (do
      let ov ← holding [v] (eval o X.env)
      let iv ← holding [v, ov] (eval i X.env)
      standAt pos
      holding [v, ov, iv] (setItem ov iv v)
      release [v, ov, iv] []) := by intro _; rfl) : PG X (.Subscript o i pos) (gSub to ti t) := by
  intro pins s σ H v u Q I r h
  rw [ha]
  refine wpAny_bind (wpAny_holding (thn (ho pins s σ H _ I h) fun ov s1 ⟨x, H1, I1, r1, q1⟩ => ?_))
  refine wpAny_bind (wpAny_holding (thn (hi pins s1 σ H1 _ I1 q1) fun iv s2 ⟨y, H2, I2, r2, q2⟩ => ?_))
  refine wpAny_bind (wpAny_standAt (wpAny_bind (wpAny_holding (thn (hs pins s2 σ H2 x y v ov iv u _ I2 r1 r2 r q2) fun _ s3 ⟨H3, I3, q3⟩ => ?_))))
  exact wpAny_release ⟨σ, H3, I3, q3⟩
/-- target = value -/
def tAsg (te : TE) (g : TG) : TS := fun D σ H => te σ H fun x H1 => g x σ H1 D.nx
theorem ps_asg {tg e : Expr} {te : TE} {g : TG} (he : PE X e te) (hg : PG X tg g) (hs : swapsWithSole [tg] e pos.line X.env = pure false := by rfl) (hw : swappedStores [tg] e X.env = pure none := by rfl)
    (h1 : (assignEach [tg] X.env).map (·.2) = [assign tg X.env] := by rfl) : PS X (.Assign [tg] e pos) (tAsg te g) := by
  intro pins s σ H D I h
  refine wpAny_Assign_stores (thn (he pins s σ H _ I h) fun v s1 ⟨x, H1, I1, r1, q1⟩ => ?_) hs hw
  rw [h1]
  exact thn (hg pins s1 σ H1 x v _ I1 r1 q1) fun _ s2 q => q
/-- name = value -/
theorem ps_set {i : Nat} {x : Str} {e : Expr} {te : TE} {pos' : Pos} (hN : X.N.Nodup) (hi : X.N[i]? = some x) (hx : Loc X.env.scope x) (he : PE X e te) (hs : swapsWith e (some (.Name x pos')) pos.line X.env = pure false := by rfl) (hf : X.fn x = true ∨ X.env.scope.names.lookup x = some .local := by first | exact .inl rfl | exact .inr rfl | assumption) :
    PS X (.Assign [.Name x pos'] e pos) (tAsg te (gName i)) := by
  intro pins s σ H D I h
  refine wpAny_Assign_Name (thn (he pins s σ H _ I h) fun v s1 ⟨y, H1, I1, r1, q1⟩ => ?_) hs
  exact store_ok I1 hN hi hx r1 (fun s2 I2 => ⟨_, H1, I2, q1⟩) hf
/-- a, b = x, y with plain local names: stored from the right; the pair itself is not tracked (the opening rows as in PyProof/Rows/TupAssign.lean:23) -/
def tPar (i j : Nat) (ta : TA) : TS := fun D σ H => ta σ H fun vs H1 => ∃ v w, vs = [v, w] ∧ D.nx ((σ.set i (some v)).set j (some w)) H1
theorem ps_par {i j : Nat} {x y : Str} {a b : Expr} {ta : TA} {px py pt : Pos} {kt k2 pt2} (hc : X.calm = true) (hN : X.N.Nodup) (hi : X.N[i]? = some x) (hj : X.N[j]? = some y) (hij : i ≠ j)
    (hx : X.env.scope.names.lookup x = some .local) (hy : X.env.scope.names.lookup y = some .local) (ha : PA X [a, b] ta)
    (hw : swappedStores [.Tuple [.Name x px, .Name y py] kt pt] (.Tuple [a, b] k2 pt2) X.env = pure (some [x, y]))
    (hs : swapsWithSole [.Tuple [.Name x px, .Name y py] kt pt] (.Tuple [a, b] k2 pt2) pos.line X.env = pure false := by rfl) :
    PS X (.Assign [.Tuple [.Name x px, .Name y py] kt pt] (.Tuple [a, b] k2 pt2) pos) (tPar i j ta) := by
  intro pins s σ H D I h
  rw [exec_Assign_arm]
  refine wpAny_bind (wpAny_standAt ?_)
  rw [hs]
  refine wpAny_bind (wpAny_pure ?_)
  rw [if_neg (by decide)]
  refine wpAny_bind (Tuple_ (thn (ha _ pins s σ H _ I h) fun us s1 ⟨vs, H1, I1, r1, q1⟩ => ?_))
  obtain ⟨v, w, e1, q1⟩ := q1
  subst e1
  obtain ⟨u1, u2, rfl, rv, rw'⟩ : ∃ u1 u2, us = [u1, u2] ∧ RelV v u1 ∧ RelV w u2 := by
    cases r1 with
    | cons p q =>
      cases q with
      | cons p' q' =>
        cases q'
        exact ⟨_, _, rfl, p, p'⟩
  refine wpAny_newObj_type ?_ (by show 2 ≤ sizeLine; decide)
  have I2 : Inv X pins σ H1 { s1 with heap := s1.heap.push { cls := .type "tuple", data := .seq [u1, u2].toArray } } := I1.kept (t' := s1.toks) fun b o e => Heap.get?_push_of_some _ e
  rw [hw]
  refine wpAny_bind (wpAny_pure ?_)
  show wpAny (model X.prog X.w) X.A (do rule "assign.swapped-stores"; let items ← unpackItems (.ref s1.heap.objs.size) 2 none; assignInOrder [fun v => bindName X.env y v, fun v => bindName X.env x v] items.reverse; pure Flow.next) _ _ _
  refine wpAny_bind (wpAny_rule (wpAny_bind (unpackItems_tuple (items := #[u1, u2]) (I.ok.hd hc) (IsTup.new s1.heap _) fun h' hx' => ?_)))
  have I3 := I2.kept (h' := h') (t' := s1.toks) fun b o e => hx' b o (Nat.ne_of_lt (Heap.lt_size e)) e
  show wpAny _ _ (assignInOrder [fun v => bindName X.env y v, fun v => bindName X.env x v] [u2, u1] >>= fun _ => pure Flow.next) _ _ _
  refine wpAny_bind (assignInOrder_cons (wpAny_bindName (store_ok I3 hN hj (.inl hy) rw' (fun s2 I4 => ?_) (.inr hy))))
  refine assignInOrder_cons (wpAny_bindName (store_ok I4 hN hi (.inl hx) rv (fun s3 I5 => assignInOrder_nil (wpAny_pure ?_)) (.inr hx)))
  rw [List.set_comm _ _ (Ne.symm hij)] at I5
  exact ⟨_, H1, I5, q1⟩
/-- name op= e -/
def tAug (i : Nat) (te : TE) (ti : TIp) : TS := fun D σ H => ∃ x, σ[i]? = some (some x) ∧ te σ H fun y H1 => ti x y H1 fun z H2 => D.nx (σ.set i (some z)) H2
theorem ps_aug {i : Nat} {x : Str} {e : Expr} {te : TE} {op : Operator} {ti : TIp} {pos' : Pos} (hN : X.N.Nodup) (hi : X.N[i]? = some x) (hx : Loc X.env.scope x) (he : PE X e te) (ho : PIp X op ti) (hf : X.fn x = true ∨ X.env.scope.names.lookup x = some .local := by first | exact .inl rfl | exact .inr rfl | assumption) :
    PS X (.AugAssign (.Name x pos') op e pos) (tAug i te ti) := by
  intro pins s σ H D I h
  obtain ⟨v, e1, h⟩ := h
  obtain ⟨m, hn, hl⟩ := I.loc
  have vis : Vis X.env.scope x := by rcases hx with k | k; exact .inl k; exact .inr (.inl k)
  obtain ⟨u, r, l⟩ := hl i x v hi e1 vis
  refine wpAny_AugAssign_Name ?_
  have go : wpAny (model X.prog X.w) X.A (eval e X.env) (fun w s₂ => wpAny (model X.prog X.w) X.A (inplaceOp op u w) (fun r s₃ => wpAny (model X.prog X.w) X.A (storeName X.env x r) (fun _ => SP X pins D .next) X.xe s₃) X.xe s₂) X.xe s := by
    refine thn (he pins s σ H _ I h) fun w s1 ⟨y, H1, I1, r1, q1⟩ => ?_
    refine thn (ho pins s1 σ H1 v y u w _ I1 r r1 q1) fun z s2 ⟨zv, H2, I2, r2, q2⟩ => ?_
    exact store_ok I2 hN hi hx r2 (fun s3 I3 => ⟨_, H2, I3, q2⟩) hf
  rcases l with ⟨hk, hm⟩ | ⟨hk, c, hc, hcell⟩
  · exact wpAny_loadName_local I.ok.kind hk hn hm go
  · rcases hk with hk | hk
    · exact wpAny_loadName_cell I.ok.kind hk hc hcell go
    · rcases hx with k | k
      · have : X.env.scope.names.lookup x = some .free := hk
        rw [k] at this; cases this
      · have : X.env.scope.names.lookup x = some .free := hk
        rw [k] at this; cases this
/-- ints -/
def ipI (f : Int → Int → Int) : TIp := fun x y H Q => ∃ i j, x = .int i ∧ y = .int j ∧ Q (.int (f i j)) H
theorem ip_add : PIp X .Add (ipI fun i j => i + j) := by
  intro pins s σ H x y v u Q I r1 r2 h
  obtain ⟨i, j, e1, e2, q⟩ := h
  subst e1; subst e2
  obtain ⟨t, rfl⟩ := r1
  obtain ⟨t', rfl⟩ := r2
  exact iadd_int ⟨.int _, H, I.tok _, ⟨_, rfl⟩, q⟩
end

/-! ### while -/
section
variable {X : Cx} {pos : Pos}
/-- the invariant W with its measure -/
def tWhile (c : TT) (tb : TS) : TS := fun D σ H => ∃ W : Nat → St → Hp → Prop, (∃ m, W m σ H) ∧ ∀ m σ H, W m σ H →
  c σ H fun b H1 => if b = true then ∃ N : St → Hp → Prop, (∀ σ' H', N σ' H' → ∃ m', m' < m ∧ W m' σ' H') ∧ tb { D with nx := N, ct := N, bk := D.nx } σ H1 else D.nx σ H1
theorem ps_while {c : Expr} {body : List Stmt} {tc : TT} {tb : TS} (hp : PassesOwn (model X.prog X.w) X.A X.env X.xe) (hc : PT X c tc) (hb : PSs X body tb) : PS X (.While c body [] pos) (tWhile tc tb) := by
  intro pins s σ H D I h
  obtain ⟨W, ⟨m0, w0⟩, turn⟩ := h
  refine wpAny_While (codeAny_whileLoop (fun n s' => ∃ σ' H', Inv X pins σ' H' s' ∧ W n σ' H') ?_ m0 ⟨σ, H, I, w0⟩)
  rintro n s1 ⟨σ1, H1, I1, w1⟩
  refine wpAny_passesOwn hp (thn (hc pins s1 σ1 H1 _ I1 (turn n σ1 H1 w1)) fun b s2 ⟨H2, I2, q2⟩ => ?_)
  cases b with
  | true =>
    obtain ⟨N, hN, q2⟩ := q2
    rw [if_pos rfl]
    refine wpAny_passesOwn hp (thn (hb pins s2 σ1 H2 _ I2 q2) fun f s3 q3 => ?_)
    cases f with
    | next =>
      obtain ⟨σ3, H3, I3, n3⟩ := q3
      obtain ⟨m', hm, w3⟩ := hN σ3 H3 n3
      exact ⟨m', hm, σ3, H3, I3, w3⟩
    | cont =>
      obtain ⟨σ3, H3, I3, n3⟩ := q3
      obtain ⟨m', hm, w3⟩ := hN σ3 H3 n3
      exact ⟨m', hm, σ3, H3, I3, w3⟩
    | brk => exact q3
    | ret v => exact q3
  | false =>
    rw [if_neg Bool.false_ne_true]
    exact wpAny_execs_nil ⟨σ1, H2, I2, q2⟩
end

/-! ### what a loop or a comprehension walks -/
/-- at turn i: it yields x (the heap may grow), or it stops -/
structure It where
  go : Nat → Hp → Prop
  yld : Nat → Hp → V → Hp → Prop
  stop : Nat → Hp → Prop
/-- the iterator's own objects may turn: they are not the frame's, not pinned, younger than the entry (or a comprehension's own) -/
def FpOk (X : Cx) (pins : List (Addr × Obj)) (H : Hp) (b : Addr) : Prop :=
  H b = none ∧ b ≠ X.env.locals ∧ b ∉ X.fs ∧ (b ∈ X.ex ∨ X.s₀.heap.objs.size ≤ b) ∧ (∀ x c, X.env.cells.lookup x = some c → c ≠ b) ∧ ∀ p ∈ X.pn ++ pins, p.1 ≠ b
theorem Inv.fpOk {X : Cx} {pins : List (Addr × Obj)} {σ : St} {H H' : Hp} {s : Shared} {b : Addr} (I : Inv X pins σ H s) (hb : s.heap.objs.size ≤ b) (hn : H' b = none) : FpOk X pins H' b := by
  refine ⟨hn, Nat.ne_of_gt (Nat.lt_of_lt_of_le I.lt hb), I.nofs hb, .inr (Nat.le_trans I.sz hb), fun x c e z => ?_, fun p hp z => ?_⟩
  · obtain ⟨v, q⟩ := I.cell x c e
    exact absurd (Nat.lt_of_lt_of_le q.lt (by rw [z]; exact hb)) (Nat.lt_irrefl _)
  · exact absurd (Nat.lt_of_lt_of_le (Heap.lt_size (I.pin p hp).1) (by rw [z]; exact hb)) (Nat.lt_irrefl _)
structure Turn (P : Program) (w : World) (K : PySem.W.Frag) (tg : Expr) (J : It) (fp : List Addr) (it : Addr) (tn : Nat → Heap → Prop) : Prop where
  mem : it ∈ fp
  obj : ∀ i h, tn i h → ∀ b ∈ fp, ∃ o, h.get? b = some o ∧ ∀ v, o.data ≠ .cell v
  keep : ∀ i h h', tn i h → (∀ b ∈ fp, ∀ o, h.get? b = some o → h'.get? b = some o) → tn i h'
  item : ∀ (X : Cx), X.prog = P → X.w = w → X.K = K → X.calm = true → ∀ (i : Nat) (pins : List (Addr × Obj)) (s : Shared) (σ : St) (H : Hp) (E : Value → Shared → Prop), Inv X pins σ H s → (∀ b ∈ fp, FpOk X pins H b) → tn i s.heap → J.go i H →
    wpAny (model P w) X.A (pyNext (.ref it)) (fun r s1 => ∃ u, r = some u ∧
      wpAny (model P w) X.A (letOwnedTupleGo tg (.ref it) u) (fun _ s2 => ∃ x H', Inv X pins σ H' s2 ∧ RelV x u ∧ J.yld i H x H' ∧ tn (i + 1) s2.heap ∧ ∀ b ∈ fp, H' b = none) E s1) E s
  done : ∀ (X : Cx), X.prog = P → X.w = w → X.K = K → X.calm = true → ∀ (i : Nat) (pins : List (Addr × Obj)) (s : Shared) (σ : St) (H : Hp) (E : Value → Shared → Prop), Inv X pins σ H s → (∀ b ∈ fp, FpOk X pins H b) → tn i s.heap → J.stop i H →
    wpAny (model P w) X.A (pyNext (.ref it)) (fun r s1 => r = none ∧ Inv X pins σ H s1) E s
  self : ∀ (A : Around) (i : Nat) (s : Shared) (Q : Value → Shared → Prop) (E : Value → Shared → Prop), tn i s.heap → Q (.ref it) s → wpAny (model P w) A (pyIter (.ref it)) Q E s
abbrev TI := St → Hp → (It → Hp → Prop) → Prop
/-- an iterator has come -/
def PIE (X : Cx) (pins : List (Addr × Obj)) (σ : St) (tg : Expr) (R : It → Hp → Prop) (itv : Value) (s2 : Shared) : Prop :=
  ∃ (it : Addr) (fp : List Addr) (tn : Nat → Heap → Prop) (J : It) (H' : Hp), itv = .ref it ∧ Inv X pins σ H' s2 ∧ Turn X.prog X.w X.K tg J fp it tn ∧ tn 0 s2.heap ∧ (∀ b ∈ fp, FpOk X pins H' b) ∧ R J H'
def PI (X : Cx) (tg iter : Expr) (wi : TI) : Prop :=
  ∀ (pins : List (Addr × Obj)) (s : Shared) (σ : St) (H : Hp) (R : It → Hp → Prop), Inv X pins σ H s → wi σ H R →
    wpAny (model X.prog X.w) X.A (eval iter X.env) (fun v s1 => wpAny (model X.prog X.w) X.A (pyIter v) (PIE X pins σ tg R) X.xe s1) X.xe s

/-- the step ahead of the store is nothing for an iterator that keeps no tuple -/
theorem go_of {M : Model} {A : Around} {E : Value → Shared → Prop} {s : Shared} {tg : Expr} {it : Addr} {u : Value} {o : Obj} {n : String} {vs : Array Value} {Q : Unit → Shared → Prop} (ho : s.heap.get? it = some o) (hc : o.cls = .type n) (hd : o.data = .fields vs)
    (hn : ["enumerate", "zip", "dict_itemiterator", "dict_reverseitemiterator", "odict_iterator", "itertools.zip_longest", "itertools.pairwise"].contains n = false) (hQ : Q () s) : wpAny M A (letOwnedTupleGo tg (.ref it) u) Q E s := by
  unfold letOwnedTupleGo
  cases tg <;> first
    | exact wpAny_pure hQ
    | (cases u <;> first
        | exact wpAny_pure hQ
        | (refine wpAny_bind (wpAny_load ho ?_)
           rw [hc, hd]
           show wpAny M A (if (["enumerate", "zip", "dict_itemiterator", "dict_reverseitemiterator", "odict_iterator", "itertools.zip_longest", "itertools.pairwise"].contains n && vs[0]? == some (rawInt _)) = true then _ else _) Q E s
           rw [if_neg (by intro h; rw [hn, Bool.false_and] at h; cases h)]
           exact wpAny_pure hQ))

/-- the list at a, as it stands at each turn (a loop may append to it) -/
def Itl (K : PySem.W.Frag) (a : Addr) : It :=
  ⟨fun i H => ∃ xs x, SqL K H a xs ∧ xs[i]? = some x, fun i H x H' => H' = H ∧ ∀ xs, SqL K H a xs → xs[i]? = some x, fun i H => ∃ xs, SqL K H a xs ∧ xs.length ≤ i⟩
def Itt (K : PySem.W.Frag) (a : Addr) : It :=
  ⟨fun i H => ∃ xs x, SqT K H a xs ∧ xs[i]? = some x, fun i H x H' => H' = H ∧ ∀ xs, SqT K H a xs → xs[i]? = some x, fun i H => ∃ xs, SqT K H a xs ∧ xs.length ≤ i⟩
/-- lo, lo + 1, .. (n of them) -/
def Itr (lo : Int) (n : Nat) : It := ⟨fun i _ => i < n, fun i H x H' => H' = H ∧ x = .int (lo + i), fun i _ => n ≤ i⟩
theorem turn_list {P : Program} {w : World} {K : PySem.W.Frag} {tg : Expr} (a it : Addr) : Turn P w K tg (Itl K a) [it] it (fun i h => h.IsListIter it a i) where
  mem := by simp
  obj := fun i h st b hb => by
    have e : b = it := by simpa using hb
    subst e
    obtain ⟨o, e, c, d⟩ := st
    exact ⟨o, e, fun v z => by rw [d] at z; cases z⟩
  keep := fun i h h' st k => st.at fun o e => k it (by simp) o e
  item := by
    intro X hP hw hK hc i pins s σ H E I hf st hg
    subst hP hw hK
    obtain ⟨xs, x, hq, hx⟩ := hg
    obtain ⟨its, rv, p, hz⟩ := I.list hq
    obtain ⟨u, hu, ru⟩ := rv.get hx
    obtain ⟨f0, f1, f2, f3, f4, f5⟩ := hf it (by simp)
    refine wpAny_pyNext_list_item st p.isList (x := u) (by simpa using hu) fun h' st' sb => ?_
    have I1 : Inv X pins σ H { s with heap := h' } := I.turned (t' := s.toks) (fun b o hb e => (sb.2 b hb).trans e) f0 f1 f3 f4 f5
    obtain ⟨o, e, c, d⟩ := id st'
    exact ⟨u, rfl, go_of (s := { s with heap := h' }) e c d (by decide) ⟨x, H, I1, ru, ⟨rfl, fun ys hy => by rw [I.list_inj hy hq]; exact hx⟩, st', fun b hb => (hf b hb).1⟩⟩
  done := by
    intro X hP hw hK hc i pins s σ H E I hf st hg
    subst hP hw hK
    obtain ⟨xs, hq, hx⟩ := hg
    obtain ⟨its, rv, p, hz⟩ := I.list hq
    obtain ⟨f0, f1, f2, f3, f4, f5⟩ := hf it (by simp)
    have hl := rv.length
    exact wpAny_pyNext_list_end (I.ok.hd hc) st p.isList (by simp; omega) fun h' eb => ⟨rfl, I.turned (t' := s.toks) (fun b o hb e => eb b o hb e) f0 f1 f3 f4 f5⟩
  self := fun _ _ _ _ _ st h => wpAny_pyIter_listiter st h
theorem turn_tuple {P : Program} {w : World} {K : PySem.W.Frag} {tg : Expr} (a it : Addr) : Turn P w K tg (Itt K a) [it] it (fun i h => h.IsTupleIter it a i) where
  mem := by simp
  obj := fun i h st b hb => by
    have e : b = it := by simpa using hb
    subst e
    obtain ⟨o, e, c, d⟩ := st
    exact ⟨o, e, fun v z => by rw [d] at z; cases z⟩
  keep := fun i h h' st k => st.at fun o e => k it (by simp) o e
  item := by
    intro X hP hw hK hc i pins s σ H E I hf st hg
    subst hP hw hK
    obtain ⟨xs, x, hq, hx⟩ := hg
    obtain ⟨its, rv, p, hz⟩ := I.tuple hq
    obtain ⟨u, hu, ru⟩ := rv.get hx
    obtain ⟨f0, f1, f2, f3, f4, f5⟩ := hf it (by simp)
    refine wpAny_pyNext_tuple_item st (show s.heap.IsTuple a its.toArray from p) (x := u) (by simpa using hu) fun h' st' sb => ?_
    have I1 : Inv X pins σ H { s with heap := h' } := I.turned (t' := s.toks) (fun b o hb e => (sb.2 b hb).trans e) f0 f1 f3 f4 f5
    obtain ⟨o, e, c, d⟩ := id st'
    exact ⟨u, rfl, go_of (s := { s with heap := h' }) e c d (by decide) ⟨x, H, I1, ru, ⟨rfl, fun ys hy => by rw [I.tuple_inj hy hq]; exact hx⟩, st', fun b hb => (hf b hb).1⟩⟩
  done := by
    intro X hP hw hK hc i pins s σ H E I hf st hg
    subst hP hw hK
    obtain ⟨xs, hq, hx⟩ := hg
    obtain ⟨its, rv, p, hz⟩ := I.tuple hq
    obtain ⟨f0, f1, f2, f3, f4, f5⟩ := hf it (by simp)
    have hl := rv.length
    exact wpAny_pyNext_tuple_end (I.ok.hd hc) st (show s.heap.IsTuple a its.toArray from p) (by simp; omega) fun h' eb => ⟨rfl, I.turned (t' := s.toks) (fun b o hb e => eb b o hb e) f0 f1 f3 f4 f5⟩
  self := fun _ _ _ _ _ st h => wpAny_pyIter_tupleiter st h
theorem turn_range {P : Program} {w : World} {K : PySem.W.Frag} {tg : Expr} (it : Addr) (lo : Int) (n : Nat) : Turn P w K tg (Itr lo n) [it] it (fun i h => IsRangeIter h it (lo + (i : Nat) * 1) ((n : Int) - (i : Nat)) 1) where
  mem := by simp
  obj := fun i h st b hb => by
    have e : b = it := by simpa using hb
    subst e
    exact ⟨_, st, fun v z => by
      have z' : Data.fields _ = Data.cell v := z
      cases z'⟩
  keep := fun i h h' st k => k it (by simp) _ st
  item := by
    intro X hP hw hK hc i pins s σ H E I hf st hg
    subst hP hw hK
    obtain ⟨f0, f1, f2, f3, f4, f5⟩ := hf it (by simp)
    have W := Walks.range (prog := X.prog) (w := X.w) (I.ok.hd hc) it lo 1 n
    refine W.item i s _ _ hg st fun v h' tk hv st' kk => ?_
    obtain ⟨t, rfl⟩ := hv
    have I1 : Inv X pins σ H { s with heap := h', toks := tk } := I.turned (fun b o hb e => kk b o (by simpa using hb) e) f0 f1 f3 f4 f5
    refine ⟨_, rfl, go_of (s := { s with heap := h', toks := tk }) (n := "range_iterator") st' rfl rfl (by decide) ⟨.int (lo + i), H, I1, ⟨t, ?_⟩, ⟨rfl, rfl⟩, st', fun b hb => (hf b hb).1⟩⟩
    rw [Int.mul_one]
  done := by
    intro X hP hw hK hc i pins s σ H E I hf st hg
    subst hP hw hK
    obtain ⟨f0, f1, f2, f3, f4, f5⟩ := hf it (by simp)
    exact wpAny_pyNext_range_end (I.ok.hd hc) st (by have : n ≤ i := hg; omega) fun h' eb => ⟨rfl, I.turned (t' := s.toks) (fun b o hb e => eb b o hb e) f0 f1 f3 f4 f5⟩
  self := fun _ _ _ _ _ st h => wpAny_pyIter_rangeiter st h
end L2

namespace L2
open PySem PySem.Spec PyProof.Rows
section
variable {X : Cx} {tg : Expr}
def iList (K : PySem.W.Frag) (tl : TE) : TI := fun σ H R => tl σ H fun x H1 => ∃ a, x = .ref a ∧ (∃ xs, SqL K H1 a xs) ∧ R (Itl K a) H1
def iTup (K : PySem.W.Frag) (tl : TE) : TI := fun σ H R => tl σ H fun x H1 => ∃ a, x = .ref a ∧ (∃ xs, SqT K H1 a xs) ∧ R (Itt K a) H1
theorem pi_list {l : Expr} {tl : TE} (hl : PE X l tl) : PI X tg l (iList X.K tl) := by
  intro pins s σ H R I h
  refine thn (hl pins s σ H _ I h) fun v s1 ⟨x, H1, I1, r1, q1⟩ => ?_
  obtain ⟨a, e, ⟨xs, hq⟩, q⟩ := q1
  subst e
  cases r1
  obtain ⟨its, rv, p, hz⟩ := I1.list hq
  refine wpAny_pyIter_list p.isList ?_
  refine ⟨s1.heap.objs.size, [s1.heap.objs.size], _, _, H1, rfl, I1.kept (t' := s1.toks) fun b o e => Heap.get?_push_of_some _ e, turn_list a _, ⟨_, Heap.get?_push_size _ rfl, rfl, rfl⟩, fun b hb => ?_, q⟩
  have e : b = s1.heap.objs.size := by simpa using hb
  subst e
  exact I1.fpOk (Nat.le_refl _) (I1.hok.fresh (Nat.le_refl _))
theorem pi_tup {l : Expr} {tl : TE} (hl : PE X l tl) : PI X tg l (iTup X.K tl) := by
  intro pins s σ H R I h
  refine thn (hl pins s σ H _ I h) fun v s1 ⟨x, H1, I1, r1, q1⟩ => ?_
  obtain ⟨a, e, ⟨xs, hq⟩, q⟩ := q1
  subst e
  cases r1
  obtain ⟨its, rv, p, hz⟩ := I1.tuple hq
  refine wpAny_pyIter_tuple (show s1.heap.IsTuple a its.toArray from p) ?_
  refine ⟨s1.heap.objs.size, [s1.heap.objs.size], _, _, H1, rfl, I1.kept (t' := s1.toks) fun b o e => Heap.get?_push_of_some _ e, turn_tuple a _, ⟨_, Heap.get?_push_size _ rfl, rfl, rfl⟩, fun b hb => ?_, q⟩
  have e : b = s1.heap.objs.size := by simpa using hb
  subst e
  exact I1.fpOk (Nat.le_refl _) (I1.hok.fresh (Nat.le_refl _))
/-- a range object just made, walked -/
theorem range_it {pins : List (Addr × Obj)} {σ : St} {H : Hp} {s : Shared} {R : It → Hp → Prop} {E : Value → Shared → Prop} {lo hi : Int} {t u v : Tok} {tk : Nat} (I : Inv X pins σ H s) (h1 : -(2 ^ 62) ≤ lo) (h2 : lo < 2 ^ 62) (h3 : -(2 ^ 62) ≤ hi) (h4 : hi < 2 ^ 62)
    (q : R (Itr lo (hi - lo).toNat) H) : wpAny (model X.prog X.w) X.A (pyIter (.ref s.heap.objs.size)) (PIE X pins σ tg R) E { s with heap := s.heap.push { cls := .type "range", data := .fields #[.int lo t, .int hi u, .int 1 v] }, toks := tk } := by
  refine wpAny_pyIter_range (IsRange.new ..) (small_one h1 h2 h3 h4) ?_
  have I1 : Inv X pins σ H { s with heap := s.heap.push { cls := .type "range", data := .fields #[.int lo t, .int hi u, .int 1 v] }, toks := tk } := I.kept fun b o e => Heap.get?_push_of_some _ e
  refine ⟨(s.heap.push { cls := .type "range", data := .fields #[.int lo t, .int hi u, .int 1 v] }).objs.size, [(s.heap.push { cls := .type "range", data := .fields #[.int lo t, .int hi u, .int 1 v] }).objs.size], _, _, H, rfl,
    I1.kept (t' := tk) fun b o e => Heap.get?_push_of_some _ e, turn_range _ lo (hi - lo).toNat, ?_, fun b hb => ?_, q⟩
  · have e1 : lo + ((0 : Nat) : Int) * 1 = lo := by simp
    have e2 : (((hi - lo).toNat : Nat) : Int) - ((0 : Nat) : Int) = Builtin.Range.rangeSize lo hi 1 := by rw [rangeSize_one]; split <;> omega
    show IsRangeIter _ _ (lo + ((0 : Nat) : Int) * 1) ((((hi - lo).toNat : Nat) : Int) - ((0 : Nat) : Int)) 1
    rw [e1, e2]
    exact Heap.get?_push_size _ rfl
  · have e : b = (s.heap.push { cls := .type "range", data := .fields #[.int lo t, .int hi u, .int 1 v] }).objs.size := by simpa using hb
    subst e
    exact I1.fpOk (Nat.le_refl _) (I1.hok.fresh (Nat.le_refl _))
def iRng1 (ta : TA) : TI := fun σ H R => ta σ H fun vs H1 => ∃ j : Int, vs = [.int j] ∧ -(2 ^ 62) ≤ j ∧ j < 2 ^ 62 ∧ R (Itr 0 j.toNat) H1
def iRng2 (ta : TA) : TI := fun σ H R => ta σ H fun vs H1 => ∃ i j : Int, vs = [.int i, .int j] ∧ (-(2 ^ 62) ≤ i ∧ i < 2 ^ 62 ∧ -(2 ^ 62) ≤ j ∧ j < 2 ^ 62) ∧ R (Itr i (j - i).toNat) H1
theorem pi_range1 {a : Expr} {ta : TA} {p pos : Pos} (hg : Gl X "range") (hm : X.mg "range" = none) (ha : PA X [a] ta) (hs : starEach [a] X.env = [(false, eval a X.env)] := by rfl) : PI X tg (.Call (.Name "range" p) [a] [] pos) (iRng1 ta) := by
  intro pins s σ H R I h
  refine Call_ (ld_blt I hg hm boot_range (PyProof.Rows.callWith_type1 (thn (ha pos pins s σ H _ I h) fun us s1 ⟨vs, H1, I1, r1, q1⟩ => ?_) hs rfl))
  obtain ⟨j, e, q1, q2, q⟩ := q1
  subst e
  cases r1 with
  | cons r rr =>
    cases rr
    obtain ⟨t, rfl⟩ := r
    exact call_range_1 (range_it I1 (by omega) (by omega) q1 q2 (by simpa using q))
theorem pi_range2 {a b : Expr} {ta : TA} {p pos : Pos} (hg : Gl X "range") (hm : X.mg "range" = none) (ha : PA X [a, b] ta) (hs : starEach [a, b] X.env = [(false, eval a X.env), (false, eval b X.env)] := by rfl) (hs2 : starEach [b] X.env = [(false, eval b X.env)] := by rfl) :
    PI X tg (.Call (.Name "range" p) [a, b] [] pos) (iRng2 ta) := by
  intro pins s σ H R I h
  refine Call_ (ld_blt I hg hm boot_range (PyProof.Rows.callWith_type1 (thn (ha pos pins s σ H _ I h) fun us s1 ⟨vs, H1, I1, r1, q1⟩ => ?_) (by rw [hs, hs2]) (by rw [hs2]; rfl)))
  obtain ⟨i, j, e, ⟨q1, q2, q3, q4⟩, q⟩ := q1
  subst e
  cases r1 with
  | cons r rr =>
    cases rr with
    | cons r' rr =>
      cases rr
      obtain ⟨t, rfl⟩ := r
      obtain ⟨t', rfl⟩ := r'
      exact call_range_2 (range_it I1 q1 q2 q3 q4 q)

/-! ### for -/
/-- W: the invariant by the turn and a measure; N: what the body is to reach -/
def tFor (wi : TI) (g : TG) (tb : TS) : TS := fun D σ H => wi σ H fun J H1 => ∃ W : Nat → Nat → St → Hp → Prop, (∃ m, W 0 m σ H1) ∧ ∀ i m σ H, W i m σ H →
  (J.stop i H ∧ D.nx σ H) ∨ (J.go i H ∧ ∃ N : St → Hp → Prop, (∀ σ' H', N σ' H' → ∃ m', m' < m ∧ W (i + 1) m' σ' H') ∧ ∀ x H', J.yld i H x H' → g x σ H' fun σ2 H2 => tb { D with nx := N, ct := N, bk := D.nx } σ2 H2)
/-- the records at fp as they stand -/
def pinsAt (fp : List Addr) (h : Heap) : List (Addr × Obj) := fp.filterMap fun b => (h.get? b).map fun o => (b, o)
theorem mem_pinsAt {fp : List Addr} {h : Heap} {b : Addr} {o : Obj} (hb : b ∈ fp) (e : h.get? b = some o) : (b, o) ∈ pinsAt fp h := List.mem_filterMap.mpr ⟨b, hb, by rw [e]; rfl⟩
theorem of_pinsAt {fp : List Addr} {h : Heap} {p : Addr × Obj} (hp : p ∈ pinsAt fp h) : p.1 ∈ fp ∧ h.get? p.1 = some p.2 := by
  obtain ⟨b, hb, e⟩ := List.mem_filterMap.mp hp
  cases q : h.get? b with
  | none => rw [q] at e; cases e
  | some o =>
    rw [q] at e
    have e' : (b, o) = p := Option.some.inj e
    subst e'
    exact ⟨hb, q⟩
theorem Inv.pinned {pins : List (Addr × Obj)} {σ : St} {H : Hp} {s : Shared} {fp : List Addr} (I : Inv X pins σ H s) (hf : ∀ b ∈ fp, FpOk X pins H b) (ho : ∀ b ∈ fp, ∃ o, s.heap.get? b = some o ∧ ∀ v, o.data ≠ .cell v) : Inv X (pins ++ pinsAt fp s.heap) σ H s :=
  I.pins_of fun p hp => (List.mem_append.mp hp).elim (fun z => I.pin p (List.mem_append_right _ z)) fun z => by
    obtain ⟨hb, e⟩ := of_pinsAt z
    obtain ⟨f0, f1, f2, _⟩ := hf p.1 hb
    obtain ⟨o, e', d⟩ := ho p.1 hb
    rw [e] at e'; cases e'
    exact ⟨e, f0, f1, f2, d⟩
theorem Inv.unpinned {pins pl : List (Addr × Obj)} {σ : St} {H : Hp} {s : Shared} (I : Inv X (pins ++ pl) σ H s) : Inv X pins σ H s := I.pins_of fun p hp => I.pin p (List.mem_append_right _ (List.mem_append_left _ hp))
theorem ps_for {iter : Expr} {body : List Stmt} {wi : TI} {g : TG} {tb : TS} {pos : Pos} (hp : PassesOwn (model X.prog X.w) X.A X.env X.xe) (hc : X.calm = true) (hi : PI X tg iter wi) (hg : PG X tg g) (hb : PSs X body tb)
    (hs : ∀ x, foldedSetIterable iter X.env x = pure x := by intro _; rfl) : PS X (.For tg iter body [] pos) (tFor wi g tb) := by
  intro pins s σ H D I h
  refine wpAny_For (thn (hi pins s σ H _ I h) fun v s1 h1 => thn h1 fun itv s2 h2 => ?_) hs
  obtain ⟨it, fp, tn, J, H2, e, I2, T, st2, f2, W, ⟨m0, w0⟩, turn⟩ := h2
  subst e
  -- what stays true of the iterator's objects through the loop
  have stat : ∀ {H' : Hp}, (∀ b ∈ fp, H' b = none) → ∀ b ∈ fp, FpOk X pins H' b := fun hn b hb => ⟨hn b hb, (f2 b hb).2⟩
  refine codeAny_forLoop_any (fun n s' => ∃ i σ' H', Inv X pins σ' H' s' ∧ tn i s'.heap ∧ (∀ b ∈ fp, H' b = none) ∧ W i n σ' H') ?_ m0 ⟨0, σ, H2, I2, st2, fun b hb => (f2 b hb).1, w0⟩
  rintro n s3 ⟨i, σ3, H3, I3, st3, fr3, w3⟩
  rcases turn i n σ3 H3 w3 with ⟨stop, qn⟩ | ⟨go, N, hN, step⟩
  · refine wpAny_passesOwn hp (thn (T.done X rfl rfl rfl hc i pins s3 σ3 H3 X.xe I3 (stat fr3) st3 stop) fun r s4 ⟨hr, I4⟩ => ?_)
    subst hr
    exact wpAny_execs_nil ⟨σ3, H3, I4, qn⟩
  · refine wpAny_passesOwn hp (thn (T.item X rfl rfl rfl hc i pins s3 σ3 H3 X.xe I3 (stat fr3) st3 go) fun r s4 ⟨u, hr, h4⟩ => ?_)
    subst hr
    refine wpAny_passesOwn hp (thn h4 fun _ s5 ⟨x, H5, I5, r5, y5, st5, fr5⟩ => ?_)
    have I5' := I5.pinned (stat fr5) (T.obj _ _ st5)
    refine wpAny_passesOwn hp (thn (hg _ s5 σ3 H5 x u _ I5' r5 (step x H5 y5)) fun _ s6 ⟨σ6, H6, I6, q6⟩ => ?_)
    refine wpAny_passesOwn hp (thn (hb _ s6 σ6 H6 _ I6 q6) fun f s7 q7 => ?_)
    have again : ∀ {σ7 : St} {H7 : Hp}, Inv X (pins ++ pinsAt fp s5.heap) σ7 H7 s7 → N σ7 H7 → ∃ m, m < n ∧ ∃ i σ' H', Inv X pins σ' H' s7 ∧ tn i s7.heap ∧ (∀ b ∈ fp, H' b = none) ∧ W i m σ' H' := fun {σ7 H7} I7 n7 => by
      obtain ⟨m', hm, w7⟩ := hN σ7 H7 n7
      refine ⟨m', hm, i + 1, σ7, H7, I7.unpinned, T.keep _ _ _ st5 fun b hb o e => (I7.pin (b, o) (List.mem_append_right _ (List.mem_append_right _ (mem_pinsAt hb e)))).1, fun b hb => ?_, w7⟩
      obtain ⟨o, e, d⟩ := T.obj _ _ st5 b hb
      exact (I7.pin (b, o) (List.mem_append_right _ (List.mem_append_right _ (mem_pinsAt hb e)))).2.1
    cases f with
    | next => obtain ⟨σ7, H7, I7, n7⟩ := q7; exact again I7 n7
    | cont => obtain ⟨σ7, H7, I7, n7⟩ := q7; exact again I7 n7
    | brk => obtain ⟨σ7, H7, I7, q7⟩ := q7; exact ⟨σ7, H7, I7.unpinned, q7⟩
    | ret v => obtain ⟨x7, σ7, H7, I7, r7, q7⟩ := q7; exact ⟨x7, σ7, H7, I7.unpinned, r7, q7⟩
end

/-! ### the forms one uses -/
/-- over a list that the body leaves as it is -/
theorem for_list {K : PySem.W.Frag} {a : Addr} {xs : List V} {g : TG} {tb : TS} {D : Ends} {σ : St} {H : Hp} (Pv : Nat → St → Hp → Prop) (h0 : Pv 0 σ H) (hl : ∀ i σ H, i ≤ xs.length → Pv i σ H → SqL K H a xs)
    (hs : ∀ i x σ H, xs[i]? = some x → Pv i σ H → g x σ H fun σ2 H2 => tb { D with nx := Pv (i + 1), ct := Pv (i + 1), bk := D.nx } σ2 H2) (hd : ∀ σ H, Pv xs.length σ H → D.nx σ H) :
    ∃ W : Nat → Nat → St → Hp → Prop, (∃ m, W 0 m σ H) ∧ ∀ i m σ H, W i m σ H →
      ((Itl K a).stop i H ∧ D.nx σ H) ∨ ((Itl K a).go i H ∧ ∃ N : St → Hp → Prop, (∀ σ' H', N σ' H' → ∃ m', m' < m ∧ W (i + 1) m' σ' H') ∧ ∀ x H', (Itl K a).yld i H x H' → g x σ H' fun σ2 H2 => tb { D with nx := N, ct := N, bk := D.nx } σ2 H2) := by
  refine ⟨fun i m σ H => m = xs.length - i ∧ i ≤ xs.length ∧ Pv i σ H, ⟨xs.length, by simp, Nat.zero_le _, h0⟩, ?_⟩
  rintro i m σ H ⟨rfl, hi, p⟩
  have q := hl i σ H hi p
  by_cases hlt : i < xs.length
  · refine .inr ⟨⟨xs, xs[i], q, by simp [hlt]⟩, Pv (i + 1), fun σ' H' p' => ⟨xs.length - (i + 1), by omega, rfl, hlt, p'⟩, fun x H' y => ?_⟩
    obtain ⟨e, y⟩ := y
    subst e
    exact hs i x σ _ (y xs q) p
  · have e : i = xs.length := by omega
    subst e
    exact .inl ⟨⟨xs, q, Nat.le_refl _⟩, hd σ H p⟩
theorem for_tup {K : PySem.W.Frag} {a : Addr} {xs : List V} {g : TG} {tb : TS} {D : Ends} {σ : St} {H : Hp} (Pv : Nat → St → Hp → Prop) (h0 : Pv 0 σ H) (hl : ∀ i σ H, i ≤ xs.length → Pv i σ H → SqT K H a xs)
    (hs : ∀ i x σ H, xs[i]? = some x → Pv i σ H → g x σ H fun σ2 H2 => tb { D with nx := Pv (i + 1), ct := Pv (i + 1), bk := D.nx } σ2 H2) (hd : ∀ σ H, Pv xs.length σ H → D.nx σ H) :
    ∃ W : Nat → Nat → St → Hp → Prop, (∃ m, W 0 m σ H) ∧ ∀ i m σ H, W i m σ H →
      ((Itt K a).stop i H ∧ D.nx σ H) ∨ ((Itt K a).go i H ∧ ∃ N : St → Hp → Prop, (∀ σ' H', N σ' H' → ∃ m', m' < m ∧ W (i + 1) m' σ' H') ∧ ∀ x H', (Itt K a).yld i H x H' → g x σ H' fun σ2 H2 => tb { D with nx := N, ct := N, bk := D.nx } σ2 H2) := by
  refine ⟨fun i m σ H => m = xs.length - i ∧ i ≤ xs.length ∧ Pv i σ H, ⟨xs.length, by simp, Nat.zero_le _, h0⟩, ?_⟩
  rintro i m σ H ⟨rfl, hi, p⟩
  have q := hl i σ H hi p
  by_cases hlt : i < xs.length
  · refine .inr ⟨⟨xs, xs[i], q, by simp [hlt]⟩, Pv (i + 1), fun σ' H' p' => ⟨xs.length - (i + 1), by omega, rfl, hlt, p'⟩, fun x H' y => ?_⟩
    obtain ⟨e, y⟩ := y
    subst e
    exact hs i x σ _ (y xs q) p
  · have e : i = xs.length := by omega
    subst e
    exact .inl ⟨⟨xs, q, Nat.le_refl _⟩, hd σ H p⟩
theorem for_range {lo : Int} {n : Nat} {g : TG} {tb : TS} {D : Ends} {σ : St} {H : Hp} (Pv : Nat → St → Hp → Prop) (h0 : Pv 0 σ H)
    (hs : ∀ i σ H, i < n → Pv i σ H → g (.int (lo + i)) σ H fun σ2 H2 => tb { D with nx := Pv (i + 1), ct := Pv (i + 1), bk := D.nx } σ2 H2) (hd : ∀ σ H, Pv n σ H → D.nx σ H) :
    ∃ W : Nat → Nat → St → Hp → Prop, (∃ m, W 0 m σ H) ∧ ∀ i m σ H, W i m σ H →
      ((Itr lo n).stop i H ∧ D.nx σ H) ∨ ((Itr lo n).go i H ∧ ∃ N : St → Hp → Prop, (∀ σ' H', N σ' H' → ∃ m', m' < m ∧ W (i + 1) m' σ' H') ∧ ∀ x H', (Itr lo n).yld i H x H' → g x σ H' fun σ2 H2 => tb { D with nx := N, ct := N, bk := D.nx } σ2 H2) := by
  refine ⟨fun i m σ H => m = n - i ∧ i ≤ n ∧ Pv i σ H, ⟨n, by simp, Nat.zero_le _, h0⟩, ?_⟩
  rintro i m σ H ⟨rfl, hi, p⟩
  by_cases hlt : i < n
  · refine .inr ⟨hlt, Pv (i + 1), fun σ' H' p' => ⟨n - (i + 1), by omega, rfl, hlt, p'⟩, fun x H' y => ?_⟩
    obtain ⟨e, y⟩ := y
    subst e y
    exact hs i σ _ hlt p
  · have e : i = n := by omega
    subst e
    exact .inl ⟨Nat.le_refl _, hd σ H p⟩
end L2

namespace L2
open PySem PySem.Spec PyProof.Rows

abbrev R2 := V → V → Hp → VK → Prop
/-- a two-place operation on values: f is binaryOp op, inplaceOp op or compareOp op -/
def OpR (X : Cx) (f : Value → Value → Sem Value) (r : R2) : Prop :=
  ∀ (pins : List (Addr × Obj)) (s : Shared) (σ : St) (H : Hp) (x y : V) (v u : Value) (Q : VK), Inv X pins σ H s → RelV x v → RelV y u → r x y H Q →
    wpAny (model X.prog X.w) X.A (f v u) (EP X pins σ Q) X.xe s
/-- a one-place operation -/
def UnR (X : Cx) (f : Value → Sem Value) (r : V → Hp → VK → Prop) : Prop :=
  ∀ (pins : List (Addr × Obj)) (s : Shared) (σ : St) (H : Hp) (x : V) (v : Value) (Q : VK), Inv X pins σ H s → RelV x v → r x H Q →
    wpAny (model X.prog X.w) X.A (f v) (EP X pins σ Q) X.xe s
/-- a call of a value that is known (a builtin, a type) with values -/
def CallR (X : Cx) (f : Value) (r : List V → Hp → VK → Prop) : Prop :=
  ∀ (pins : List (Addr × Obj)) (s : Shared) (σ : St) (H : Hp) (xs : List V) (us : List Value) (Q : VK), Inv X pins σ H s → Vals xs us → r xs H Q →
    wpAny (model X.prog X.w) X.A (call f us) (EP X pins σ Q) X.xe s
def tOp (r : R2) (ta tb : TE) : TE := fun σ H Q => ta σ H fun x H1 => tb σ H1 fun y H2 => r x y H2 Q
def tUn (r : V → Hp → VK → Prop) (ta : TE) : TE := fun σ H Q => ta σ H fun x H1 => r x H1 Q
/-- ints in, under C, and a value out -/
def rI (C : Int → Int → Prop) (g : Int → Int → V) : R2 := fun x y H Q => ∃ i j, x = .int i ∧ y = .int j ∧ C i j ∧ Q (g i j) H
def rI0 (g : Int → Int → V) : R2 := fun x y H Q => ∃ i j, x = .int i ∧ y = .int j ∧ Q (g i j) H
def rU (g : Int → V) : V → Hp → VK → Prop := fun x H Q => ∃ i, x = .int i ∧ Q (g i) H

section
variable {X : Cx} {a b c : Expr} {ta tb tc : TE} {pos : Pos}

theorem binT (ha : PE X a ta) (hb : PE X b tb) {pins : List (Addr × Obj)} {s : Shared} {σ : St} {H : Hp} {R : V → V → Hp → Prop} (I : Inv X pins σ H s)
    (h : ta σ H fun x H1 => tb σ H1 fun y H2 => R x y H2) {Q : Value → Shared → Prop} {f : Value → Value → Sem Value}
    (hf : ∀ v u s2 x y H2, Inv X pins σ H2 s2 → RelV x v → RelV y u → R x y H2 → wpAny (model X.prog X.w) X.A (f v u) Q X.xe s2) :
    wpAny (model X.prog X.w) X.A (eval a X.env) (fun v s₁ => wpAny (model X.prog X.w) X.A (eval b X.env) (fun u s₂ => wpAny (model X.prog X.w) X.A (f v u) Q X.xe s₂) X.xe s₁) X.xe s := by
  refine thn (ha pins s σ H _ I h) fun v s1 ⟨x, H1, I1, r1, q1⟩ => ?_
  refine thn (hb pins s1 σ H1 _ I1 q1) fun u s2 ⟨y, H2, I2, r2, q2⟩ => ?_
  exact hf v u s2 x y H2 I2 r1 r2 q2

theorem pe_op {op : Operator} {r : R2} (ho : OpR X (binaryOp op) r) (ha : PE X a ta) (hb : PE X b tb) : PE X (.BinOp a op b pos) (tOp r ta tb) := by
  intro pins s σ H Q I h
  exact wpAny_BinOp (binT ha hb I h fun v u s2 x y H2 I2 rx ry q => ho pins s2 σ H2 x y v u Q I2 rx ry q)
theorem pe_un {op : UnaryOp} {r : V → Hp → VK → Prop} (ho : UnR X (unaryOp op) r) (ha : PE X a ta) : PE X (.UnaryOp op a pos) (tUn r ta) := by
  intro pins s σ H Q I h
  exact UnaryOp_ (thn (ha pins s σ H _ I h) fun v s1 ⟨x, H1, I1, r1, q1⟩ => ho pins s1 σ H1 x v Q I1 r1 q1)
/-! ### ints -/
theorem opI {f : Value → Value → Sem Value} {C : Int → Int → Prop} {g : Int → Int → Int}
    (rule : ∀ (i j : Int) (t u : Tok) (s : Shared) (Q : Value → Shared → Prop) (E : Value → Shared → Prop), C i j → Q (.int (g i j) s.toks) { s with toks := s.toks + 1 } → wpAny (model X.prog X.w) X.A (f (.int i t) (.int j u)) Q E s) :
    OpR X f (rI C fun i j => .int (g i j)) := by
  intro pins s σ H x y v u Q I rx ry h
  obtain ⟨i, j, rfl, rfl, hc, q⟩ := h
  obtain ⟨t, rfl⟩ := rx
  obtain ⟨t', rfl⟩ := ry
  exact rule i j t t' s _ _ hc ⟨.int (g i j), H, I.tok _, ⟨_, rfl⟩, q⟩
theorem opI0 {f : Value → Value → Sem Value} {g : Int → Int → Int}
    (rule : ∀ (i j : Int) (t u : Tok) (s : Shared) (Q : Value → Shared → Prop) (E : Value → Shared → Prop), Q (.int (g i j) s.toks) { s with toks := s.toks + 1 } → wpAny (model X.prog X.w) X.A (f (.int i t) (.int j u)) Q E s) :
    OpR X f (rI0 fun i j => .int (g i j)) := by
  intro pins s σ H x y v u Q I rx ry h
  obtain ⟨i, j, rfl, rfl, q⟩ := h
  obtain ⟨t, rfl⟩ := rx
  obtain ⟨t', rfl⟩ := ry
  exact rule i j t t' s _ _ ⟨.int (g i j), H, I.tok _, ⟨_, rfl⟩, q⟩
theorem opB0 {f : Value → Value → Sem Value} {g : Int → Int → Bool}
    (rule : ∀ (i j : Int) (t u : Tok) (s : Shared) (Q : Value → Shared → Prop) (E : Value → Shared → Prop), Q (.bool (g i j)) s → wpAny (model X.prog X.w) X.A (f (.int i t) (.int j u)) Q E s) :
    OpR X f (rI0 fun i j => .bl (g i j)) := by
  intro pins s σ H x y v u Q I rx ry h
  obtain ⟨i, j, rfl, rfl, q⟩ := h
  obtain ⟨t, rfl⟩ := rx
  obtain ⟨t', rfl⟩ := ry
  exact rule i j t t' s _ _ ⟨.bl (g i j), H, I, rfl, q⟩

def CDiv (i j : Int) : Prop := 0 < j ∧ j < 1073741824
def CPow (i j : Int) : Prop := 0 ≤ j ∧ j ≤ 1000000 ∧ i.natAbs < 2 ^ 64
def CMul (i j : Int) : Prop := (-(2 ^ 64) < i ∧ i < 2 ^ 64) ∨ (-(2 ^ 64) < j ∧ j < 2 ^ 64)
theorem CMul.ok {i j : Int} (h : CMul i j) : IntMulOk i j := by
  rcases h with ⟨h1, h2⟩ | ⟨h1, h2⟩
  · exact .of_left (intBits_le_64 h1 h2)
  · exact .of_right (intBits_le_64 h1 h2)
theorem op_add : OpR X (binaryOp .Add) (rI0 fun i j => .int (i + j)) := opI0 fun _ _ _ _ _ _ _ q => add_int q
theorem op_sub : OpR X (binaryOp .Sub) (rI0 fun i j => .int (i - j)) := opI0 fun _ _ _ _ _ _ _ q => sub_int q
theorem op_mul : OpR X (binaryOp .Mult) (rI CMul fun i j => .int (i * j)) := opI fun _ _ _ _ _ _ _ hc q => mul_int q hc.ok
/-- // by a positive divisor -/
theorem op_fdiv : OpR X (binaryOp .FloorDiv) (rI CDiv fun i j => .int (i / j)) := opI fun i j _ _ _ _ _ hc q => by
  have h1 : (0 : Int) < j := hc.1
  have h2 : j < 1073741824 := hc.2
  exact floordiv_int (by omega) (by rw [Int.fdiv_eq_ediv_of_nonneg i (by omega)]; exact q) (.inl (PyProof.noPylong_small (by omega)))
/-- % by a positive divisor of any size -/
theorem op_mod : OpR X (binaryOp .Mod) (rI (fun _ j => 0 < j) fun i j => .int (i % j)) := opI fun i j _ _ _ _ _ hc q => by
  have h1 : (0 : Int) < j := hc
  exact mod_int' (by omega) (by rw [Int.fmod_eq_emod_of_nonneg i (by omega)]; exact q)
theorem op_pow : OpR X (binaryOp .Pow) (rI CPow fun i j => .int (i ^ j.toNat)) := opI fun _ _ _ _ _ _ _ hc q => pow_int_small hc.1 hc.2.1 hc.2.2 q
theorem unI {f : Value → Sem Value} {g : Int → Int}
    (rule : ∀ (i : Int) (t : Tok) (s : Shared) (Q : Value → Shared → Prop) (E : Value → Shared → Prop), Q (.int (g i) s.toks) { s with toks := s.toks + 1 } → wpAny (model X.prog X.w) X.A (f (.int i t)) Q E s) :
    UnR X f (rU fun i => .int (g i)) := by
  intro pins s σ H x v Q I rx h
  obtain ⟨i, rfl, q⟩ := h
  obtain ⟨t, rfl⟩ := rx
  exact rule i t s _ _ ⟨.int (g i), H, I.tok _, ⟨_, rfl⟩, q⟩
theorem un_neg : UnR X (unaryOp .USub) (rU fun i => .int (-i)) := unI fun _ _ _ _ _ q => neg_int q
/-! ### bools among ints: n += (a < b) -/
end

/-! ### comparisons -/
/-- the scalars that == tells apart as data does -/
def scal : V → V → Bool
  | .non, .non => true | .non, .int _ => true | .int _, .non => true | .non, .bl _ => true | .bl _, .non => true | .non, .str _ => true | .str _, .non => true
  | .int _, .int _ => true | .bl _, .bl _ => true | .str _, .str _ => true | .byt _, .byt _ => true
  | .int _, .str _ => true | .str _, .int _ => true | .bl _, .str _ => true | .str _, .bl _ => true
  | _, _ => false
def rEq : R2 := fun x y H Q => scal x y = true ∧ Q (.bl (decide (x = y))) H
theorem dec_int {i j : Int} : decide (V.int i = V.int j) = (i == j) := by
  rw [Bool.eq_iff_iff]
  simp
theorem dec_bl {i j : Bool} : decide (V.bl i = V.bl j) = (i == j) := by
  rw [Bool.eq_iff_iff]
  simp
theorem dec_str {i j : Str} : decide (V.str i = V.str j) = (i == j) := by
  rw [Bool.eq_iff_iff]
  simp
theorem dec_byt {i j : Array UInt8} : decide (V.byt i = V.byt j) = (i.toList == j.toList) := by
  rw [Bool.eq_iff_iff]
  cases i
  cases j
  simp

section
variable {X : Cx} {a b c : Expr} {ta tb tc : TE} {pos : Pos}
theorem fin_bl {pins : List (Addr × Obj)} {σ : St} {H : Hp} {s : Shared} {Q : VK} {k k' : Bool} (I : Inv X pins σ H s) (q : Q (.bl k) H) (e : k = k') : EP X pins σ Q (.bool k') s := by
  subst e
  exact ⟨.bl k, H, I, rfl, q⟩
theorem op_eq : OpR X (compareOp .Eq) rEq := by
  intro pins s σ H x y v u Q I rx ry h
  obtain ⟨hs, q⟩ := h
  cases x with
  | non =>
    cases rx
    cases y with
    | non => cases ry; exact PySem.EqNone.eq_none_none (fin_bl I q (by simp))
    | bl j => cases ry; exact PySem.EqNone.eq_none_bool (fin_bl I q (by simp))
    | int j => obtain ⟨t', rfl⟩ := ry; exact PySem.EqNone.eq_none_int (fin_bl I q (by simp))
    | str j => obtain ⟨t', rfl⟩ := ry; exact PySem.EqNone.eq_none_str (fin_bl I q (by simp))
    | _ => exact absurd (show false = true from hs) Bool.false_ne_true
  | bl i =>
    cases rx
    cases y with
    | non => cases ry; exact PySem.EqNone.eq_bool_none (fin_bl I q (by simp))
    | bl j => cases ry; exact eq_bool (fin_bl I q dec_bl)
    | str j => obtain ⟨t', rfl⟩ := ry; exact PySem.EqMixed.eq_bool_str (fin_bl I q (by simp))
    | _ => exact absurd (show false = true from hs) Bool.false_ne_true
  | int i =>
    obtain ⟨t, rfl⟩ := rx
    cases y with
    | non => cases ry; exact PySem.EqNone.eq_int_none (fin_bl I q (by simp))
    | int j => obtain ⟨t', rfl⟩ := ry; exact eq_int (fin_bl I q dec_int)
    | str j => obtain ⟨t', rfl⟩ := ry; exact PySem.EqMixed.eq_int_str (fin_bl I q (by simp))
    | _ => exact absurd (show false = true from hs) Bool.false_ne_true
  | str i =>
    obtain ⟨t, rfl⟩ := rx
    cases y with
    | non => cases ry; exact PySem.EqNone.eq_str_none (fin_bl I q (by simp))
    | bl j => cases ry; exact PySem.EqMixed.eq_str_bool (fin_bl I q (by simp))
    | int j => obtain ⟨t', rfl⟩ := ry; exact PySem.EqMixed.eq_str_int (fin_bl I q (by simp))
    | str j => obtain ⟨t', rfl⟩ := ry; exact eq_str (fin_bl I q dec_str)
    | _ => exact absurd (show false = true from hs) Bool.false_ne_true
  | byt i =>
    obtain ⟨t, rfl⟩ := rx
    cases y with
    | byt j => obtain ⟨t', rfl⟩ := ry; exact PySem.W.eq_bytes (fin_bl I q dec_byt)
    | _ => exact absurd (show false = true from hs) Bool.false_ne_true
  | _ => cases y <;> exact absurd (show false = true from hs) Bool.false_ne_true
theorem op_lt : OpR X (compareOp .Lt) (rI0 fun i j => .bl (decide (i < j))) := opB0 fun _ _ _ _ _ _ _ q => lt_int q
theorem op_le : OpR X (compareOp .LtE) (rI0 fun i j => .bl (decide (i ≤ j))) := opB0 fun _ _ _ _ _ _ _ q => le_int q
theorem op_gt : OpR X (compareOp .Gt) (rI0 fun i j => .bl (decide (j < i))) := opB0 fun _ _ _ _ _ _ _ q => gt_int q
theorem op_ge : OpR X (compareOp .GtE) (rI0 fun i j => .bl (decide (j ≤ i))) := opB0 fun _ _ _ _ _ _ _ q => ge_int q
/-- two rules for one operation: by cases -/
theorem OpR.or {f : Value → Value → Sem Value} {r r' : R2} (h : OpR X f r) (h' : OpR X f r') : OpR X f (fun x y H Q => r x y H Q ∨ r' x y H Q) := by
  intro pins s σ H x y v u Q I rx ry q
  rcases q with q | q
  · exact h pins s σ H x y v u Q I rx ry q
  · exact h' pins s σ H x y v u Q I rx ry q

theorem nomark (b : Expr) {op : CmpOp} (h : op ≠ .In := by decide) (h2 : op ≠ .NotIn := by decide) : behindInMarks op b = false := by
  have e1 : (op == CmpOp.In) = false := by cases op <;> first | rfl | exact absurd rfl h
  have e2 : (op == CmpOp.NotIn) = false := by cases op <;> first | rfl | exact absurd rfl h2
  cases b <;> simp [behindInMarks, e1, e2]
/-- a comparison as a value; hm: nomark b, or (for in, not in) by with_unfolding_all rfl -/
theorem pe_cmpR {op : CmpOp} {r : R2} (ho : OpR X (compareOp op) r) (ha : PE X a ta) (hb : PE X b tb) (hm : behindInMarks op b = false) : PE X (.Compare a [op] [b] pos) (tOp r ta tb) := by
  intro pins s σ H Q I h
  exact wpAny_Compare1 (binT ha hb I h fun v u s2 x y H2 I2 rx ry q => ho pins s2 σ H2 x y v u Q I2 rx ry q) hm
/-- a reading of a value as a test -/
def tTest (t : TE) : TT := fun σ H Q => t σ H fun x H' => ∃ k, x = .bl k ∧ Q k H'
theorem pt_cmpR {op : CmpOp} {r : R2} (ho : OpR X (compareOp op) r) (ha : PE X a ta) (hb : PE X b tb) (hm : behindInMarks op b = false) : PT X (.Compare a [op] [b] pos) (tTest (tOp r ta tb)) := by
  intro pins s σ H Q I h
  refine wpAny_isTrue_Compare1 (thn (ha pins s σ H _ I h) fun v s1 ⟨x, H1, I1, r1, q1⟩ => thn (hb pins s1 σ H1 _ I1 q1) fun u s2 ⟨y, H2, I2, r2, q2⟩ =>
    thn (ho pins s2 σ H2 x y v u _ I2 r1 r2 q2) fun c s3 ⟨z, H3, I3, r3, k, e, q3⟩ => ?_) hm
  subst e
  cases r3
  exact wpAny_truthy_bool ⟨H3, I3, q3⟩
/-! ### truth -/
theorem line63 : (sizeLine : Nat) < 2 ^ 63 := by rw [sizeLine_eq]; decide
/-! ### strs and bytes -/
/-! ### scalar builtins, by CallR -/
theorem vals1 {x : V} {us : List Value} (r : Vals [x] us) : ∃ u, us = [u] ∧ RelV x u := by
  cases r with
  | cons r1 r2 => cases r2; exact ⟨_, rfl, r1⟩
theorem vals2 {x y : V} {us : List Value} (r : Vals [x, y] us) : ∃ u w', us = [u, w'] ∧ RelV x u ∧ RelV y w' := by
  cases r with
  | cons r1 r2 =>
    cases r2 with
    | cons r3 r4 => cases r4; exact ⟨_, _, rfl, r1, r3⟩
end
end L2

namespace L2
open PySem PySem.Spec PyProof.Rows

/-! ### an instance, its attributes a map -/
structure ObjM (h : Heap) (x dx C : Addr) (mA : Str → Option Value) : Prop where
  obj : h.get? x = some (PySem.W.instObj C dx)
  ns : h.Ns1 dx mA
  ne : dx ≠ x

theorem lookIn_ns {h : Heap} {dx : Addr} {mA : Str → Option Value} (n : h.Ns1 dx mA) : ∃ od, h.get? dx = some od ∧ ∀ name, PySem.W.lookIn name od = some (mA name) := by
  obtain ⟨o, es, ep, ho, hd, hk, _, hm⟩ := n
  refine ⟨o, ho, fun name => ?_⟩
  have e := hm name
  unfold nsFind findBy at e
  rw [← Array.find?_toList] at e
  unfold PySem.W.lookIn
  rw [hd]
  dsimp only
  split
  · rename_i y q
    rw [q] at e
    exact congrArg some e
  · rename_i q
    rw [q] at e
    have a : es.toList.any (·.refKey) = false := by
      rw [List.any_eq_false]
      intro y hy
      obtain ⟨z, t, hkey⟩ := hk y (Array.mem_toList_iff.mp hy)
      simp [DictEntry.refKey, hkey]
    have a' : ¬ es.toList.any (·.refKey) = true := by rw [a]; exact Bool.false_ne_true
    rw [if_neg a']
    exact congrArg some e

theorem ObjM.look {h : Heap} {x dx C : Addr} {mA : Str → Option Value} (I : ObjM h x dx C mA) : ∃ od, PySem.W.InstAt h x (PySem.W.instObj C dx) C (some od) ∧ ∀ name, PySem.W.lookIn name od = some (mA name) :=
  let ⟨od, ho, hl⟩ := lookIn_ns I.ns
  ⟨od, ⟨I.obj, rfl, rfl, ho⟩, hl⟩

section
variable {prog : Program} {w : World} {A : Around} {E : Value → Shared → Prop} {s : Shared} {K : PySem.W.Frag} {x dx C f : Addr} {mA : Str → Option Value} {name : Str} {v : Value}

end

/-! ### the attributes as a list of pairs -/
section
variable {P : Program} {w : World} {H H' : Hp} {h h' : Heap} {a C dx : Addr} {fs fs' : List (Str × V)}
theorem ins_get (hok : HOk P w H h) (e : H a = some (.ins C dx fs)) : ∃ mA, ObjM h a dx C mA ∧ (∀ f, RelO (fs.lookup f) (mA f)) ∧ PySem.Within mA (fs.map (·.1)) ∧ fs.length ≤ 1000 ∧ H dx = some (.own a) := by
  obtain ⟨d, z, ne, ob, mA, n, r, q⟩ := (show ObjOk P w H h a (.ins C dx fs) from hok a _ e)
  exact ⟨mA, ⟨ob, n, ne⟩, r, q, z, d⟩
end

/-! ### what of the text a class must have -/
structure Cls (K : PySem.W.Frag) (C : Addr) : Prop where
  pg : PySem.W.plainGet K C Str.empty = true
  hd : PySem.W.hasDictIn K C = true
  po : PySem.W.plainOver K C = true
  sa : PySem.W.findIn K (.ref C) "__setattr__" = some (some (.builtin "object.__setattr__"))
theorem Cls.get {K : PySem.W.Frag} {C : Addr} (c : Cls K C) (f : Str) : PySem.W.plainGet K C f = true := c.pg
/-- a constant of the class -/
structure Con (K : PySem.W.Frag) (C : Addr) (f : Str) (v : V) (u : Value) : Prop where
  at_ : PySem.W.findIn K (.ref C) f = some (some u)
  rel : RelV v u
  get : PySem.W.specialIn K u "__get__" = some none
  cp : PySem.W.copiedNames.contains f = false
/-- a method: a plain def of the class or of one above it -/
structure Meth (K : PySem.W.Frag) (C : Addr) (m : Str) (f : Addr) : Prop where
  at_ : PySem.W.findIn K (.ref C) m = some (some (.ref f))
  fn : PySem.W.isFn K (.ref f) = true
  kp : PySem.W.keepIn K (.ref f) = true

section
variable {X : Cx} {pins : List (Addr × Obj)} {σ : St} {H : Hp} {s : Shared} {a C dx : Addr} {fs : List (Str × V)} {f : Str} {v : V} {A : Around} {E : Value → Shared → Prop}

/-- a new instance, tracked, without attributes -/
theorem Inv.made (I : Inv X pins σ H s) : Inv X pins σ (upd (upd H s.heap.objs.size (.own (s.heap.objs.size + 1))) (s.heap.objs.size + 1) (.ins C s.heap.objs.size []))
    { s with heap := (s.heap.push PySem.W.emptyDict).push (PySem.W.instObj C s.heap.objs.size) } := by
  have e1 : (s.heap.push PySem.W.emptyDict).get? s.heap.objs.size = some PySem.W.emptyDict := Heap.get?_push_size s.heap rfl
  have e2 : ((s.heap.push PySem.W.emptyDict).push (PySem.W.instObj C s.heap.objs.size)).get? (s.heap.objs.size + 1) = some (PySem.W.instObj C s.heap.objs.size) := by
    have := Heap.get?_push_size (s.heap.push PySem.W.emptyDict) (o := PySem.W.instObj C s.heap.objs.size) rfl
    rwa [Heap.size_push] at this
  have e3 : (s.heap.push PySem.W.emptyDict).Ns s.heap.objs.size (fun _ => none) := ⟨PySem.W.emptyDict, #[], _, e1, rfl, (fun e he => absurd he (by simp)), fun _ => rfl⟩
  have I1 := I.laid (a := s.heap.objs.size) (o := .own (s.heap.objs.size + 1)) (h' := s.heap.push PySem.W.emptyDict) (t' := s.toks) (fun b u q => Heap.get?_push_of_some _ q) (Nat.le_refl _) ⟨_, e1⟩
  refine I1.laid (a := s.heap.objs.size + 1) (o := .ins C s.heap.objs.size []) (t' := s.toks) (fun b u q => Heap.get?_push_of_some _ q) (Nat.le_of_eq (Heap.size_push _ _)) ?_
  have ne : s.heap.objs.size ≠ s.heap.objs.size + 1 := Nat.ne_of_lt (Nat.lt_succ_self _)
  refine ⟨by rw [upd_ne ne, upd_same], Nat.zero_le _, ne, e2, fun _ => none, (Heap.Ns1.of_empty e3).at fun o q => Heap.get?_push_of_some _ q, fun _ => True.intro, fun y hy => absurd rfl hy⟩

end

/-! ### readings and rules -/
section
variable {X : Cx} {o e value : Expr} {f : Str} {pos pos' tpos : Pos} {ta tv : TE}
end

/-! ### isinstance -/
section
variable {X : Cx} {pins : List (Addr × Obj)} {σ : St} {H : Hp} {s : Shared} {A : Around} {E : Value → Shared → Prop} {Q : Value → Shared → Prop} {c : Value} {b : Bool}
/-- the type of a value, as the fragment's deciders take it; for an instance its class -/
inductive TyOf (K : PySem.W.Frag) (H : Hp) : V → Value → Prop where
  | non : TyOf K H .non (.type "NoneType")
  | bl (x : Bool) : TyOf K H (.bl x) (.type "bool")
  | int (i : Int) : TyOf K H (.int i) (.type "int")
  | str (x : Str) : TyOf K H (.str x) (.type "str")
  | flt (x : UInt64) : TyOf K H (.flt x) (.type "float")
  | lst {a : Addr} {xs : List V} (e : H a = some (.lst xs)) : TyOf K H (.ref a) (.type "list")
  | frz {a : Addr} {o : Obj} {xs : List V} (e : H a = some (.frz o (.lst xs))) : TyOf K H (.ref a) (.type "list")
  | tup {a : Addr} {xs : List V} (e : H a = some (.tup xs)) : TyOf K H (.ref a) (.type "tuple")
  | dK {a : Addr} {kvs : List (Key × V)} (e : H a = some (.dK kvs)) : TyOf K H (.ref a) (.type "dict")
  | dT {a : Addr} {kvs : List (List Key × V)} (e : H a = some (.dT kvs)) : TyOf K H (.ref a) (.type "dict")
  | ins {a C dx : Addr} {fs : List (Str × V)} (e : H a = some (.ins C dx fs)) (cl : Cls K C) (ha : PySem.W.findIn K (.ref C) "__class__" = some (some (.builtin "object.__class__")))
      (hn : PySem.W.specialIn K (.builtin "object.__class__") "__get__" = some (some (.builtin "getset_descriptor.__get__"))) (htk : PySem.W.takesIn K (.builtin "object.__class__") = some true)
      (hm : PySem.W.mroIn K C (.type "object") = some true) : TyOf K H (.ref a) (.ref C)
/-- isinstance(x, c) for one class c, a built-in or an own one: kitOne's answer -/
theorem isinst_ok {x : V} {u t : Value} (I : Inv X pins σ H s) (rx : RelV x u) (ty : TyOf X.K H x t) (e : PySem.W.kitOne X.K t c = some b) (h : ∀ tk, Q (.bool b) { s with toks := tk }) :
    wpAny (model X.prog X.w) A (call (.builtin "isinstance") [u, c]) Q E s := by
  cases ty with
  | non => cases (show u = Value.none from rx); exact PySem.W.kia_one PySem.W.kitx_none I.kIn True.intro e (fun z => nomatch z) h
  | bl y => cases (show u = Value.bool y from rx); exact PySem.W.kia_one PySem.W.kitx_bool I.kIn True.intro e (fun z => nomatch z) h
  | int i => obtain ⟨t, q⟩ := (show ∃ t, u = Value.int i t from rx); cases q; exact PySem.W.kia_one PySem.W.kitx_int I.kIn True.intro e (fun z => nomatch z) h
  | str y => obtain ⟨t, q⟩ := (show ∃ t, u = Value.str y t from rx); cases q; exact PySem.W.kia_one PySem.W.kitx_str I.kIn True.intro e (fun z => nomatch z) h
  | flt y => obtain ⟨t, q⟩ := (show ∃ t, u = Value.float y t from rx); cases q; exact PySem.W.kia_one PySem.W.kitx_float I.kIn True.intro e (fun z => nomatch z) h
  | @lst a xs ea =>
    cases (show u = Value.ref a from rx)
    obtain ⟨_, _, n, _, h1⟩ := (show ObjOk X.prog X.w H s.heap a (.lst xs) from I.hok a _ ea)
    exact PySem.W.kia_one PySem.W.kitx_list I.kIn ⟨_, h1, rfl⟩ e (fun z => nomatch z) h
  | @frz a ob xs ea =>
    cases (show u = Value.ref a from rx)
    obtain ⟨_, _, _, n, _, h1⟩ := (show ObjOk X.prog X.w H s.heap a (.frz ob (.lst xs)) from I.hok a _ ea)
    exact PySem.W.kia_one PySem.W.kitx_list I.kIn ⟨_, h1, rfl⟩ e (fun z => nomatch z) h
  | @tup a xs ea =>
    cases (show u = Value.ref a from rx)
    obtain ⟨_, _, _, p⟩ := (show ObjOk X.prog X.w H s.heap a (.tup xs) from I.hok a _ ea)
    obtain ⟨o, h1, h2, _⟩ := p
    exact PySem.W.kia_one PySem.W.kitx_tuple I.kIn ⟨o, h1, h2⟩ e (fun z => nomatch z) h
  | @dK a kvs ea =>
    cases (show u = Value.ref a from rx)
    obtain ⟨_, _, vs, _, p⟩ := (show ObjOk X.prog X.w H s.heap a (.dK kvs) from I.hok a _ ea)
    obtain ⟨o, es, ep, h1, h2, _⟩ := p
    exact PySem.W.kia_one PySem.W.kitx_dict I.kIn ⟨o, h1, h2.1⟩ e (fun z => nomatch z) h
  | @dT a kvs ea =>
    cases (show u = Value.ref a from rx)
    obtain ⟨_, _, xs, _, o, es, ep, h1, h2, _⟩ := (show ObjOk X.prog X.w H s.heap a (.dT kvs) from I.hok a _ ea)
    exact PySem.W.kia_one PySem.W.kitx_dict I.kIn ⟨o, h1, h2.1⟩ e (fun z => nomatch z) h
  | @ins a C dx fs ea cl ha hn htk hm =>
    cases (show u = Value.ref a from rx)
    obtain ⟨mA, O, _⟩ := ins_get I.hok ea
    obtain ⟨od, J, _⟩ := O.look
    exact PySem.W.kia_one (PySem.W.kitx_own (cl.get _) cl.hd ha hn htk hm) I.kIn J e (fun z => nomatch z) h
end
end L2

namespace L2
open PySem PySem.Spec PyProof.Rows

/-! ### room -/
structure Room (k : Nat) (A : Around) : Prop where
  hd : A.handled = none
  dp : A.depth + 3 * k + 5 < recursionLimit
  un : A.units + 16 * k + 200 < cLine
theorem Room.mono {j k : Nat} {A : Around} (r : Room k A) (h : j ≤ k) : Room j A := ⟨r.hd, by have := r.dp; omega, by have := r.un; omega⟩
theorem Room.deeper {k : Nat} {A : Around} (r : Room (k + 1) A) (env : Env) : Room k (A.deeper env) :=
  ⟨r.hd, by have := r.dp; show A.depth + 1 + 3 * k + 5 < _; omega, by have := r.un; show A.units + 3 + 16 * k + 200 < _; omega⟩
theorem Room.in1 {k : Nat} {A : Around} (r : Room (k + 1) A) : Room k A.in1 :=
  ⟨r.hd, by have := r.dp; show A.depth + 3 * k + 5 < _; omega, by have := r.un; show A.units + 1 + 16 * k + 200 < _; omega⟩
theorem Room.depth {k : Nat} {A : Around} (r : Room k A) : A.depth < recursionLimit := by have := r.dp; omega
theorem Room.units {k : Nat} {A : Around} (r : Room k A) : A.units + 64 < cLine := by have := r.un; omega
/-! ### argument lists and displays -/
def tNil : TA := fun _ H Q => Q [] H
def tCons (ta : TE) (tr : TA) : TA := fun σ H Q => ta σ H fun x H1 => tr σ H1 fun xs H2 => Q (x :: xs) H2
section
variable {X : Cx} {e : Expr} {es : List Expr} {te : TE} {t : TA} {pos : Pos}
theorem pa_nil : PA X [] tNil := fun _ _ _ _ H Q I h => Calls.spliced_nil ⟨[], H, I, .nil, h⟩
theorem pa_cons (ha : PE X e te) (hr : PA X es t) (hs : starEach (e :: es) X.env = (false, eval e X.env) :: starEach es X.env := by rfl) : PA X (e :: es) (tCons te t) := by
  intro pos pins s σ H Q I h
  rw [hs]
  show wpAny _ _ (spliced ((false, eval e X.env) :: backTo pos (starEach es X.env))) _ _ s
  refine Calls.spliced_cons (thn (ha pins s σ H _ I h) fun u s1 ⟨x, H1, I1, r1, q1⟩ => ?_)
  exact thn (hr pos pins s1 σ H1 _ I1 q1) fun us s2 ⟨xs, H2, I2, r2, q2⟩ => ⟨x :: xs, H2, I2, .cons r1 r2, q2⟩

/-- a tuple, a list of written items -/
def tTup (t : TA) : TE := fun σ H Q => t σ H fun xs H1 => xs.length ≤ sizeLine ∧ ∀ p, H1 p = none → Q (.ref p) (upd H1 p (.tup xs))
def tLst (t : TA) : TE := fun σ H Q => t σ H fun xs H1 => xs.length ≤ sizeLine ∧ ∀ p, H1 p = none → Q (.ref p) (upd H1 p (.lst xs))
theorem pe_tup {x1} (h : PA X es t) : PE X (.Tuple es x1 pos) (tTup t) := by
  intro pins s σ H Q I hq
  refine wpAny_Tuple_spliced (thn (h pos pins s σ H _ I hq) fun us s1 ⟨xs, H1, I1, r, z, q⟩ => ⟨by rw [← r.length]; exact z, ?_⟩)
  have hf : H1 s1.heap.objs.size = none := I1.hok.fresh (Nat.le_refl _)
  refine ⟨.ref s1.heap.objs.size, upd H1 s1.heap.objs.size (.tup xs), I1.laid (t' := s1.toks) (fun b u e => Heap.get?_push_of_some _ e) (Nat.le_refl _) ?_, rfl, q _ hf⟩
  exact ⟨z, us, r, ⟨_, Heap.get?_push_size _ rfl, rfl, _, rfl⟩⟩
theorem pe_lst (h : PA X es t) : PE X (.List es pos) (tLst t) := by
  intro pins s σ H Q I hq
  refine wpAny_List_spliced (thn (h pos pins s σ H _ I hq) fun us s1 ⟨xs, H1, I1, r, z, q⟩ => ⟨by rw [← r.length]; exact z, ?_⟩)
  have hf : H1 s1.heap.objs.size = none := I1.hok.fresh (Nat.le_refl _)
  refine ⟨.ref s1.heap.objs.size, upd H1 s1.heap.objs.size (.lst xs), I1.laid (t' := s1.toks) (fun b u e => Heap.get?_push_of_some _ e) (Nat.le_refl _) ?_, rfl, q _ hf⟩
  exact ⟨z, us, 0, r, Heap.get?_push_size _ rfl⟩
end

/-! ### what a def promises -/
/-- a def's promise: the bound arguments in the parameters' order, the heap, the wanted end, the wanted exception -/
abbrev Sp := List V → Hp → VK → XK → Prop
/-- how an exception lies behind a call (file 08 gives it): the callers' frames, abstract heap and state ahead of the call, the wish, the exception, the state -/
abbrev CXT := List Env → Hp → Shared → XK → Value → Shared → Prop

/-- the state at a call -/
structure Env0 (P : Program) (w : World) (K : PySem.W.Frag) (mg : Str → Option Value) (base : Heap) (A : Around) (outer : List Env) (s : Shared) (H : Hp) : Prop where
  frames : A.frames = some outer
  mod : Mod K mg base
  bs : ∀ b o, base.get? b = some o → s.heap.get? b = some o ∧ H b = none
  bsz : base.objs.size ≤ s.heap.objs.size
  funs : s.heap.FunFrames base outer
  frf : ∀ b ∈ frs outer, H b = none
  hok : HOk P w H s.heap
  bare : AllBare s.gens
/-- a call's end -/
def CE (outer : List Env) (P : Program) (w : World) (H : Hp) (s : Shared) (Q : VK) (u : Value) (s' : Shared) : Prop :=
  ∃ v H', s'.os = s.os ∧ AllBare s'.gens ∧ Un (frs outer) [] H H' s.heap s'.heap ∧ HOk P w H' s'.heap ∧ RelV v u ∧ Q v H'
def CR (CX : CXT) (outer : List Env) (P : Program) (w : World) (H : Hp) (s : Shared) (Q : VK) (E : XK) (r : Result) (s' : Shared) : Prop :=
  match r with
  | .ok (.ret u) => CE outer P w H s Q u s'
  | .ok _ => False
  | .error e => CX outer H s E e s'
structure FnOk (P : Program) (w : World) (K : PySem.W.Frag) (mg : Str → Option Value) (base : Heap) (CX : CXT) (k : Nat) (f : Addr) (fd : FuncData) (ps : List Str) (sp : Sp) : Prop where
  len : ∀ vs H Q E, sp vs H Q E → vs.length = ps.length
  run : ∀ (A : Around) (outer : List Env) (s : Shared) (H : Hp) (args : Args) (us : List Value) (vs : List V) (Q : VK) (E : XK), Room k A → Env0 P w K mg base A outer s H → BindsTo s fd args (ps.zip us) → Vals vs us → sp vs H Q E →
    codeAny (model P w) A (.call (.ref f) args) (CR CX outer P w H s Q E) s
theorem FnOk.mono {P : Program} {w : World} {K : PySem.W.Frag} {mg : Str → Option Value} {base : Heap} {CX : CXT} {j k : Nat} {f : Addr} {fd : FuncData} {ps : List Str} {sp : Sp} (F : FnOk P w K mg base CX j f fd ps sp) (h : j ≤ k) :
    FnOk P w K mg base CX k f fd ps sp := ⟨F.len, fun A outer s H args us vs Q E hr => F.run A outer s H args us vs Q E (hr.mono h)⟩
/-- a weaker promise -/
theorem FnOk.imp {P : Program} {w : World} {K : PySem.W.Frag} {mg : Str → Option Value} {base : Heap} {CX : CXT} {k : Nat} {f : Addr} {fd : FuncData} {ps : List Str} {sp sp' : Sp} (F : FnOk P w K mg base CX k f fd ps sp)
    (h : ∀ vs H Q E, sp' vs H Q E → sp vs H Q E) : FnOk P w K mg base CX k f fd ps sp' :=
  ⟨fun vs H Q E q => F.len vs H Q E (h _ _ _ _ q), fun A outer s H args us vs Q E hr he hb hv hs => F.run A outer s H args us vs Q E hr he hb hv (h _ _ _ _ hs)⟩

theorem Env0.in1 {P : Program} {w : World} {K : PySem.W.Frag} {mg : Str → Option Value} {base : Heap} {A : Around} {outer : List Env} {s : Shared} {H : Hp} (e : Env0 P w K mg base A outer s H) :
    Env0 P w K mg base A.in1 outer s H := ⟨e.frames, e.mod, e.bs, e.bsz, e.funs, e.frf, e.hok, e.bare⟩

section
variable {X : Cx} {pins : List (Addr × Obj)} {σ : St} {H : Hp} {s s' : Shared}
/-- from a body: what a callee wants -/
theorem Inv.env0 (I : Inv X pins σ H s) : Env0 X.prog X.w X.K X.mg X.base X.A X.stack s H :=
  ⟨I.ok.frames, I.ok.mod, I.bs, Nat.le_trans I.ok.bsz I.sz, I.stack, I.stkFree, I.hok, I.bare⟩
/-- behind a call -/
theorem Inv.after {Q : VK} {u : Value} (I : Inv X pins σ H s) (h : CE X.stack X.prog X.w H s Q u s') : EP X pins σ Q u s' := by
  obtain ⟨v, H', os, bare, un, hok, r, q⟩ := h
  obtain ⟨hh, g, d, t, os'⟩ := s'
  obtain rfl : os' = s.os := os
  exact ⟨v, H', I.call (h' := hh) (g' := g) (d' := d) (t' := t) (ch := []) un hok bare (fun b z => absurd z (by simp)), r, q⟩
end

/-! ### calls -/
/-- f(..): the written arguments, then the defaults dvs; E: what is wanted of an exception -/
def tCall (sp : Sp) (dvs : List V) (E : XK) (t : TA) : TE := fun σ H Q => t σ H fun vs H1 => sp (vs ++ dvs) H1 Q E
/-- how the parameters are bound: us the positional arguments, kw the keywords' values by name, ds the defaults that fill up -/
def Binds (K : PySem.W.Frag) (fd : FuncData) (ps : List Str) (ds : List Value) : Prop :=
  ∀ (s : Shared) (us : List Value), K.In s.heap → (us ++ ds).length = ps.length → BindsTo s fd ⟨us, []⟩ (ps.zip (us ++ ds))
/-- every parameter is given -/
theorem Binds.all {K : PySem.W.Frag} {fd : FuncData} {ps : List Str} (h : ∀ us : List Value, us.length = ps.length → bindArgs fd ⟨us, []⟩ = pure (ps.zip us)) : Binds K fd ps [] := fun s us _ hl => by
  rw [List.append_nil] at hl ⊢
  exact .of_eq (h us hl)

/-- an exception of a callee reaches what this body wants of exceptions -/
def Passes (CX : CXT) (X : Cx) (E : XK) : Prop := ∀ (pins : List (Addr × Obj)) (σ : St) (H : Hp) (s : Shared) (e : Value) (s' : Shared), Inv X pins σ H s → CX X.stack H s E e s' → X.xe e s'

section
variable {X : Cx} {CX : CXT} {k : Nat} {f C : Addr} {fd : FuncData} {ps : List Str} {sp : Sp} {dvs : List V} {ds : List Value} {E : XK} {x m : Str} {p pos apos : Pos} {e o : Expr} {es : List Expr} {ta : TE} {t : TA}

/-- the callee runs -/
theorem run_fn {pins : List (Addr × Obj)} {σ : St} {H : Hp} {s : Shared} {Q : VK} {us : List Value} {vs : List V} (F : FnOk X.prog X.w X.K X.mg X.base CX k f fd ps sp) (hr : Room k X.A) (hb : Binds X.K fd ps ds) (hd : Vals dvs ds) (hx : Passes CX X E)
    (I : Inv X pins σ H s) (r : Vals vs us) (h : sp (vs ++ dvs) H Q E) : wpAny (model X.prog X.w) X.A (call (.ref f) us) (EP X pins σ Q) X.xe s := by
  have r2 : Vals (vs ++ dvs) (us ++ ds) := r.append hd
  have hl : (us ++ ds).length = ps.length := by rw [← r2.length]; exact F.len _ _ _ _ h
  refine wpAny_call (codeAny_mono (F.run X.A X.stack s H ⟨us, []⟩ (us ++ ds) (vs ++ dvs) Q E hr I.env0 (hb s us I.kIn hl) r2 h) fun r s' hq => ?_)
  cases r with
  | error e => exact hx pins σ H s e s' I hq
  | ok fl =>
    cases fl with
    | ret u => exact I.after hq
    | next => exact False.elim hq
    | brk => exact False.elim hq
    | cont => exact False.elim hq

theorem pe_call (F : FnOk X.prog X.w X.K X.mg X.base CX k f fd ps sp) (hr : Room k X.A) (hg : Gl X x) (hm : X.mg x = some (.ref f)) (hk : PySem.W.keepIn X.K (.ref f) = true) (hb : Binds X.K fd ps ds) (hd : Vals dvs ds) (hx : Passes CX X E)
    (ha : PA X (e :: es) t) (hdb : (x == ("__debug__" : Str)) = false := by decide) (he : starEach (e :: es) X.env = (false, eval e X.env) :: starEach es X.env := by rfl) (hpl : (backTo pos (starEach es X.env)).any (·.1) = false := by rfl) :
    PE X (.Call (.Name x p) (e :: es) [] pos) (tCall sp dvs E t) := by
  intro pins s σ H Q I h
  refine wpAny_Call_Name_kw (ld_glob I hg hm ?_ hdb)
  refine PySem.W.callWith_K (h₀ := X.base) I.ok.mod.kin hk (thn (ha pos pins s σ H _ I h) fun us s1 ⟨vs, H1, I1, r, q⟩ => ⟨I1.kIn, ?_⟩) he hpl
  exact run_fn F hr hb hd hx I1 r q
/-- what a class must have to be made -/
structure Mk (K : PySem.W.Frag) (C f : Addr) : Prop where
  makes : PySem.W.makesIn K C = true
  init : PySem.W.findIn K (.ref C) "__init__" = some (some (.ref f))
  fn : PySem.W.isFn K (.ref f) = true
  kp : PySem.W.keepIn K (.ref C) = true

end

/-! ### keywords -/
section
variable {X : Cx} {CX : CXT} {k : Nat} {f C : Addr} {fd : FuncData} {ps ks : List Str} {sp : Sp} {E : XK} {x m : Str} {p pos apos kpos : Pos} {e o : Expr} {es : List Expr} {kws : List Keyword} {te ta : TE} {t tk : TA} {nm : Option Str}
/-- how a call with keywords binds: g puts the positional values us and the keywords' values ws (names ks) in the parameters' order, defaults among them -/
structure KBinds (K : PySem.W.Frag) (fd : FuncData) (ps ks : List Str) (g : List Value → List Value → List Value) (gV : List V → List V → List V) : Prop where
  to : ∀ (s : Shared) (us ws : List Value), K.In s.heap → (g us ws).length = ps.length → BindsTo s fd ⟨us, ks.zip ws⟩ (ps.zip (g us ws))
  rel : ∀ {vs : List V} {us : List Value} {zs : List V} {ws : List Value}, Vals vs us → Vals zs ws → Vals (gV vs zs) (g us ws)
variable {g : List Value → List Value → List Value} {gV : List V → List V → List V}
end

/-! ### a def's body keeps its promise -/
/-- names: the parameters first -/
structure FnScope (N P : List Str) (sc : Scope) : Prop where
  kind : sc.kind = .function
  co : sc.isCoroutine = false
  gen : sc.isGenerator = false
  nd : N.Nodup
  pre : N.take P.length = P
  par : ∀ x ∈ P, sc.names.lookup x = some .local ∨ sc.names.lookup x = some .cell
  nofree : ∀ y ∈ sc.names, y.2 ≠ .free

theorem bindL_out {kindOf : Str → Option NameKind} {x : Str} : ∀ {binds : List (Str × Value)} {m : Str → Option Value}, (∀ v, (x, v) ∉ binds) → bindL kindOf binds m x = m x
  | [], _, _ => rfl
  | (n, v) :: r, m, h => by
    unfold bindL
    rw [bindL_out fun w hw => h w (List.mem_cons_of_mem _ hw)]
    split
    · have : x ≠ n := by rintro rfl; exact h v List.mem_cons_self
      simp [this]
    · rfl
theorem bindC_out {kindOf : Str → Option NameKind} {x : Str} : ∀ {binds : List (Str × Value)} {m : Str → Option Value}, (∀ v, (x, v) ∉ binds) → bindC kindOf binds m x = m x
  | [], _, _ => rfl
  | (n, v) :: r, m, h => by
    unfold bindC
    rw [bindC_out fun w hw => h w (List.mem_cons_of_mem _ hw)]
    split
    · rfl
    · have : x ≠ n := by rintro rfl; exact h v List.mem_cons_self
      simp [this]
theorem bindL_get {kindOf : Str → Option NameKind} {x : Str} {v : Value} : ∀ {P : List Str} {vs : List Value} {i : Nat} {m : Str → Option Value}, P.Nodup → P[i]? = some x → vs[i]? = some v → kindOf x = some .local →
    bindL kindOf (P.zip vs) m x = some v
  | [], _, _, _, _, h, _, _ => by simp at h
  | _ :: _, [], _, _, _, _, h, _ => by simp at h
  | p :: P, w :: vs, 0, m, nd, h1, h2, hk => by
    simp at h1 h2; subst h1; subst h2
    show bindL kindOf ((p, w) :: P.zip vs) m p = _
    unfold bindL
    rw [bindL_out fun v hv => (List.nodup_cons.mp nd).1 (List.of_mem_zip hv).1, if_pos hk]
    simp
  | p :: P, w :: vs, i + 1, m, nd, h1, h2, hk => by
    show bindL kindOf ((p, w) :: P.zip vs) m x = _
    unfold bindL
    exact bindL_get (i := i) (List.nodup_cons.mp nd).2 (by simpa using h1) (by simpa using h2) hk
theorem bindC_get {kindOf : Str → Option NameKind} {x : Str} {v : Value} : ∀ {P : List Str} {vs : List Value} {i : Nat} {m : Str → Option Value}, P.Nodup → P[i]? = some x → vs[i]? = some v → kindOf x ≠ some .local →
    bindC kindOf (P.zip vs) m x = some v
  | [], _, _, _, _, h, _, _ => by simp at h
  | _ :: _, [], _, _, _, _, h, _ => by simp at h
  | p :: P, w :: vs, 0, m, nd, h1, h2, hk => by
    simp at h1 h2; subst h1; subst h2
    show bindC kindOf ((p, w) :: P.zip vs) m p = _
    unfold bindC
    rw [bindC_out fun v hv => (List.nodup_cons.mp nd).1 (List.of_mem_zip hv).1, if_neg hk]
    simp
  | p :: P, w :: vs, i + 1, m, nd, h1, h2, hk => by
    show bindC kindOf ((p, w) :: P.zip vs) m x = _
    unfold bindC
    exact bindC_get (i := i) (List.nodup_cons.mp nd).2 (by simpa using h1) (by simpa using h2) hk

/-- the names' values at the entry -/
def start (N : List Str) (vs : List V) : St := vs.map some ++ List.replicate (N.length - vs.length) none

/-- the context of a def's body, at its entry; an exception leaves the frame, then lies as CX says -/
def cxOf (CX : CXT) (P : Program) (w : World) (K : PySem.W.Frag) (mg : Str → Option Value) (base : Heap) (N : List Str) (qual : Str) (scope : Scope) (f : Addr) (cd : Value) (A : Around) (outer : List Env) (s : Shared) (H : Hp) (E : XK) : Cx where
  prog := P
  w := w
  K := K
  mg := mg
  base := base
  A := A.deeper (envOfC qual scope s.heap.objs.size f cd)
  N := N
  s₀ := s
  H₀ := H
  env := envOfC qual scope s.heap.objs.size f cd
  outer := outer
  stack := envOfC qual scope s.heap.objs.size f cd :: outer
  ex := []
  calm := true
  fn := fun _ => true
  pn := []
  xe := fun e s' => wpAny (model P w) (A.deeper (envOfC qual scope s.heap.objs.size f cd)) (leaving (envOfC qual scope s.heap.objs.size f cd) e) (fun _ s'' => CX outer H s E e s'') (fun e' s'' => CX outer H s E e' s'') s'

theorem cell_has {sc : Scope} {n : Nat} {x : Str} (h : sc.names.lookup x = some .cell) : ∃ c, (cellsFrom n sc.names []).lookup x = some c := by
  have q := PySem.W.cellsFrom_some sc.names n [] (.inl h)
  exact Option.isSome_iff_exists.mp q

theorem inv_start {CX : CXT} {P : Program} {w : World} {K : PySem.W.Frag} {mg : Str → Option Value} {base : Heap} {N ps : List Str} {qual : Str} {scope : Scope} {f : Addr} {cd : Value} {A : Around} {outer : List Env} {s s1 : Shared} {H : Hp} {E : XK} {us : List Value} {vs : List V}
    (S : FnScope N ps scope) (hd : A.handled = none) (e0 : Env0 P w K mg base A outer s H) (hl : vs.length = ps.length) (r : Vals vs us)
    (x : InCallC s s.heap.objs.size (bindL (envOfC qual scope s.heap.objs.size f cd).kindOf (ps.zip us) fun _ => none) (cellsFrom (s.heap.objs.size + 1) scope.names []) (bindC (envOfC qual scope s.heap.objs.size f cd).kindOf (ps.zip us) fun _ => none) s1) :
    Inv (cxOf CX P w K mg base N qual scope f cd A outer s H E) [] (start N vs) H s1 := by
  have hpl : ps.length ≤ N.length := by have := congrArg List.length S.pre; rw [List.length_take] at this; omega
  obtain ⟨h1, tk, rfl, hk⟩ := x.done
  have noA : ∀ b : Addr, b ∉ (cxOf CX P w K mg base N qual scope f cd A outer s H E).ex := fun b z => absurd (show b ∈ ([] : List Addr) from z) (by simp)
  refine ⟨⟨e0.mod, S.kind, rfl, rfl, Nat.le_refl _, fun y z c h1 h2 => ?_, fun y hy => ?_, fun y c _ h => ?_, fun _ => hd, Around.frames_deeper e0.frames, .inr ⟨rfl, rfl⟩, fun b z => absurd z (noA b), e0.bs, e0.bsz, fun b _ _ => noA b, fun b z => absurd z (noA b), e0.funs, e0.frf⟩,
    rfl, e0.bare, Un.kept hk, ⟨_, x.toInCall.ns, fun i y v h1 h2 h3 => ?_⟩, fun y c h => ⟨_, x.cell y c h⟩, e0.hok.fresh (Nat.le_refl _), fun y c h => ?_, fun p hp => absurd (show p ∈ ([] : List (Addr × Obj)) from hp) (by simp), e0.hok.kept hk, ?_⟩
  · exact name_of_addr x.apart (PySem.mem_of_lookup h1) (PySem.mem_of_lookup h2)
  · have hy : scope.names.lookup y = some .cell ∨ scope.names.lookup y = some .free := hy
    rcases hy with hy | hy
    · exact cell_has hy
    · exact absurd rfl (S.nofree _ (PySem.mem_of_lookup hy))
  · exact Nat.le_of_lt (x.above y c (PySem.mem_of_lookup h))
  · have hi : i < vs.length := by
      unfold start at h2
      by_cases hi : i < vs.length
      · exact hi
      · rw [List.getElem?_append_right (by simpa using hi)] at h2
        rw [List.getElem?_replicate] at h2
        split at h2 <;> cases h2
    have ha : vs[i]? = some v := by
      unfold start at h2
      rw [List.getElem?_append_left (by simpa using hi), List.getElem?_map] at h2
      cases e : vs[i]? with
      | none => rw [e] at h2; cases h2
      | some a => rw [e] at h2; cases h2; rfl
    obtain ⟨u, hu, rv⟩ := r.get ha
    have hp : ps[i]? = some y := by
      rw [← S.pre, List.getElem?_take_of_lt (by omega)]; exact h1
    have ndP : ps.Nodup := by rw [← S.pre]; exact S.nd.sublist (List.take_sublist _ _)
    refine ⟨u, rv, ?_⟩
    rcases S.par y (List.mem_of_getElem? hp) with k | k
    · exact .inl ⟨k, bindL_get ndP hp hu k⟩
    · obtain ⟨c, e⟩ := cell_has (n := s.heap.objs.size + 1) k
      refine .inr ⟨.inl k, c, e, ?_⟩
      have q := x.cell y c e
      rw [bindC_get ndP hp hu (by show scope.names.lookup y ≠ _; rw [k]; decide)] at q
      exact q
  · exact e0.hok.fresh (Nat.le_of_lt (x.above y c (PySem.mem_of_lookup h)))
  · unfold start
    show _ = N.length
    rw [List.length_append, List.length_map, List.length_replicate]
    omega

/-- THE RULE: a def (or a method) of the text, by its body. The body's reading t is chosen for each entry; it is run at the parameters' values -/
theorem fn_of {CX : CXT} {P : Program} {w : World} {K : PySem.W.Frag} {mg : Str → Option Value} {base : Heap} {k : Nat} {f : Addr} {name qual : Str} {params : Arguments} {body : List Stmt} {scope : Scope} {dV kV doc pm cdv ct oc : Value} {an od : Option Addr}
    {osl : Array (Option Value)} {N ps : List Str} {sp : Sp} (lk : K.lookup f = some ⟨oc, od, .func (PySem.W.fnOf name qual params body scope dV kV doc pm an cdv ct), osl⟩) (hcd : PySem.W.codeIn K cdv qual = true) (S : FnScope N ps scope)
    (len : ∀ vs H Q E, sp vs H Q E → vs.length = ps.length)
    (hbody : ∀ (A : Around) (outer : List Env) (s : Shared) (H : Hp) (vs : List V) (Q : VK) (E : XK), Room k (A.deeper (envOfC qual scope s.heap.objs.size f cdv)) → sp vs H Q E →
      ∃ t, PSs (cxOf CX P w K mg base N qual scope f cdv A outer s H E) body t ∧ t { nx := fun _ H' => Q .non H', rt := Q } (start N vs) H) :
    FnOk P w K mg base CX (k + 1) f (PySem.W.fnOf name qual params body scope dV kV doc pm an cdv ct) ps sp := by
  refine ⟨len, fun A outer s H args us vs Q E hr e0 hb r hsp => ?_⟩
  have hl := len _ _ _ _ hsp
  have KX : K.In s.heap := e0.mod.kin.keeps fun b o e => (e0.bs b o e).1
  have lim : s.heap.NoLimit := e0.mod.nolimit.keeps fun b o e => (e0.bs b o e).1
  have hkind : ∀ y ∈ ps.zip us, scope.names.lookup y.1 = some .local ∨ (scope.names.lookup y.1 = some .cell ∧ ((cellsFrom (s.heap.objs.size + 1) scope.names []).lookup y.1).isSome = true) := fun ⟨n, v⟩ hy => by
    rcases S.par n (List.of_mem_zip hy).1 with q | q
    · exact .inl q
    · exact .inr ⟨q, PySem.W.cellsFrom_some _ _ _ (.inl q)⟩
  refine codeAny_call_function hr.depth (KX _ _ lk) rfl S.co S.gen rfl (PySem.W.codeRec_of KX hcd) (hb _ _ _ _ ?_)
  refine wpAny_newFunctionEnv_cells S.kind hkind fun env he s1 x => ?_
  subst he
  refine ⟨lim.keeps x.toInCall.keep, codeAny_func ?_⟩
  obtain ⟨t, ht, hq⟩ := hbody A outer s H vs Q E (hr.deeper _) hsp
  have I : Inv (cxOf CX P w K mg base N qual scope f cdv A outer s H E) [] (start N vs) H s1 := inv_start S hr.hd e0 hl r x
  refine wpAny_mono (ht [] s1 (start N vs) H _ I hq) (fun fl s' hs => ?_) fun e s' hs => hs
  have fin : ∀ {σ' : St} {H' : Hp} {v : V} {u : Value}, Inv (cxOf CX P w K mg base N qual scope f cdv A outer s H E) [] σ' H' s' → RelV v u → Q v H' → CE outer P w H s Q u s' :=
    fun {σ' H' v u} J rv q => ⟨v, H', J.os, J.bare, J.base, J.hok, rv, q⟩
  cases fl with
  | ret u =>
    obtain ⟨v, σ', H', J, rv, q⟩ := hs
    exact fin J rv q
  | next =>
    obtain ⟨σ', H', J, q⟩ := hs
    exact fin (v := V.non) (u := Value.none) J rfl q
  | brk =>
    obtain ⟨_, _, _, q⟩ := hs
    exact False.elim q
  | cont =>
    obtain ⟨_, _, _, q⟩ := hs
    exact False.elim q
end L2

namespace L2
open PySem PySem.Spec PyProof.Rows
section
variable {X : Cx} {x : Str} {p pos : Pos} {e : Expr} {es : List Expr} {t : TA} {id T : String} {r : List V → Hp → VK → Prop}

def tCB (r : List V → Hp → VK → Prop) (t : TA) : TE := fun σ H Q => t σ H fun vs H1 => r vs H1 Q
/-- f(e, ..), f a built-in function -/
theorem pe_callB (hc : CallR X (.builtin id) r) (hg : Gl X x) (hm : X.mg x = none) (hv : bootBuiltins x = some (.builtin id)) (ha : PA X (e :: es) t) (hn : x ≠ "__name__" := by decide) (hdb : (x == ("__debug__" : Str)) = false := by decide)
    (he : starEach (e :: es) X.env = (false, eval e X.env) :: starEach es X.env := by rfl) (hpl : (backTo pos (starEach es X.env)).any (·.1) = false := by rfl) : PE X (.Call (.Name x p) (e :: es) [] pos) (tCB r t) := by
  intro pins s σ H Q I h
  refine wpAny_Call_Name_kw (ld_blt I hg hm hv ?_ hn hdb)
  exact PyProof.Rows.callWith_builtin1 (thn (ha pos pins s σ H _ I h) fun us s1 ⟨vs, H1, I1, r1, q1⟩ => hc pins s1 σ H1 vs us Q I1 r1 q1) he hpl
/-- T(e, ..), T a built-in type -/
theorem pe_callTy (hc : CallR X (.type T) r) (hg : Gl X x) (hm : X.mg x = none) (hv : bootBuiltins x = some (.type T)) (ha : PA X (e :: es) t) (hn : x ≠ "__name__" := by decide) (hdb : (x == ("__debug__" : Str)) = false := by decide)
    (he : starEach (e :: es) X.env = (false, eval e X.env) :: starEach es X.env := by rfl) (hpl : (backTo pos (starEach es X.env)).any (·.1) = false := by rfl) : PE X (.Call (.Name x p) (e :: es) [] pos) (tCB r t) := by
  intro pins s σ H Q I h
  refine wpAny_Call_Name_kw (ld_blt I hg hm hv ?_ hn hdb)
  exact PyProof.Rows.callWith_type1 (thn (ha pos pins s σ H _ I h) fun us s1 ⟨vs, H1, I1, r1, q1⟩ => hc pins s1 σ H1 vs us Q I1 r1 q1) he hpl
end
end L2

namespace HT
open PySem PyProof.Rows

section
open PySem.SeqAt
open PySem.AutoSeq1 (wpAny_loadPart')
open PySem.MeetsSeq PySem.MeetsSeq2 PySem.MeetsSeq3

end

section
variable {prog : Program} {w : World} {A : Around} {E : Value → Shared → Prop} {s : Shared}

/-! ### t[a:b], not the whole -/
/-- a slice's bound as a place among n (d where it is left out) -/
def sIx (n d : Nat) : Option Int → Nat
  | none => d
  | some v => if v < 0 then (v + (n : Int)).toNat else min v.toNat n
theorem sIx_none (n d : Nat) : sIx n d none = d := rfl
theorem sIx_nat (n d k : Nat) : sIx n d (some (k : Int)) = min k n := by
  show (if (k : Int) < 0 then ((k : Int) + (n : Int)).toNat else min (k : Int).toNat n) = min k n
  rw [if_neg (by omega), Int.toNat_natCast]
end
end HT

namespace L2
open PySem PySem.Spec PyProof.Rows

/-! ### the parts of a slice -/
abbrev TO := St → Hp → (Option Int → Hp → Prop) → Prop
/-- a slice's part (left out, or an int) -/
def PO (X : Cx) (e : Option Expr) (t : TO) : Prop :=
  ∀ (pins : List (Addr × Obj)) (s : Shared) (σ : St) (H : Hp) (Q : Option Int → Hp → Prop), Inv X pins σ H s → t σ H Q →
    wpAny (model X.prog X.w) X.A (evalPart e X.env) (fun u s' => ∃ o H', Inv X pins σ H' s' ∧ IsPart u o ∧ Q o H') X.xe s
def tNoPart : TO := fun _ H Q => Q none H
def tPart (t : TE) : TO := fun σ H Q => t σ H fun x H1 => ∃ i, x = .int i ∧ Q (some i) H1

theorem intsAre_of {ns : List Int} : ∀ {us : List Value}, Vals (ns.map V.int) us → IntsAre us ns := by
  induction ns with
  | nil => intro us r; rw [List.map_nil] at r; cases r; exact .nil
  | cons n ns ih =>
    intro us r
    rw [List.map_cons] at r
    cases r with
    | cons r1 r2 =>
      obtain ⟨t, e⟩ := r1
      subst e
      exact .cons n t (ih r2)

section
variable {X : Cx} {e : Expr} {te : TE} {lo hi : Option Expr} {tl th : TO} {pos p2 : Pos}

theorem po_none : PO X none tNoPart := by
  intro pins s σ H Q I h
  rw [evalPart_none]
  exact wpAny_pure ⟨none, H, I, .none, h⟩
theorem po_some (h : PE X e te) : PO X (some e) (tPart te) := by
  intro pins s σ H Q I hw
  rw [evalPart_some]
  refine thn (h pins s σ H _ I hw) fun u s1 ⟨x, H1, I1, r1, q1⟩ => ?_
  obtain ⟨i, rfl, q⟩ := q1
  obtain ⟨t, rfl⟩ := r1
  exact ⟨some i, H1, I1, .int i t, q⟩

/-- what a slice of a value is, by values: the slice object stands at sl -/
def SlR (X : Cx) (r : V → Option Int → Option Int → Hp → VK → Prop) : Prop :=
  ∀ (pins : List (Addr × Obj)) (s : Shared) (σ : St) (H : Hp) (x : V) (v vl vu : Value) (lo hi : Option Int) (sl : Addr) (Q : VK), Inv X pins σ H s → RelV x v → s.heap.IsSliceOf sl vl vu .none → IsPart vl lo → IsPart vu hi → r x lo hi H Q →
    ∃ T id, typeLookup (.type T) "__getitem__" = pure (some (.builtin id)) ∧ s.TypeIs v T ∧ wpAny (model X.prog X.w) X.A (getItem v (.ref sl)) (EP X pins σ Q) X.xe s
theorem SlR.or {r r' : V → Option Int → Option Int → Hp → VK → Prop} (h : SlR X r) (h' : SlR X r') : SlR X (fun x lo hi H Q => r x lo hi H Q ∨ r' x lo hi H Q) := by
  intro pins s σ H x v vl vu lo hi sl Q I rx hs pl pu q
  rcases q with q | q
  · exact h pins s σ H x v vl vu lo hi sl Q I rx hs pl pu q
  · exact h' pins s σ H x v vl vu lo hi sl Q I rx hs pl pu q
def tSl (r : V → Option Int → Option Int → Hp → VK → Prop) (te : TE) (tl th : TO) : TE := fun σ H Q => te σ H fun x H1 => tl σ H1 fun l H2 => th σ H2 fun u H3 => r x l u H3 Q
/-- a[lo:hi], any a -/
theorem pe_slice {r : V → Option Int → Option Int → Hp → VK → Prop} (hr : SlR X r) (he : PE X e te) (hl : PO X lo tl) (hu : PO X hi th) : PE X (.Subscript e (.Slice lo hi none p2) pos) (tSl r te tl th) := by
  intro pins s σ H Q I h
  refine Subscript_ (thn (he pins s σ H _ I h) fun v s1 ⟨x, H1, I1, r1, q1⟩ => ?_)
  refine wpAny_Slice (thn (hl pins s1 σ H1 _ I1 q1) fun vl s2 ⟨l, H2, I2, pl, q2⟩ => thn (hu pins s2 σ H2 _ I2 q2) fun vu s3 ⟨u, H3, I3, pu, q3⟩ => ?_)
  rw [evalPart_none]
  refine wpAny_pure ?_
  have I4 : Inv X pins σ H3 { s3 with heap := s3.heap.push { cls := .type "slice", data := .fields #[vl, vu, .none] } } := I3.kept (t' := s3.toks) fun b ob q => Heap.get?_push_of_some _ q
  obtain ⟨T, id, hT, ht, hg⟩ := hr pins { s3 with heap := s3.heap.push { cls := .type "slice", data := .fields #[vl, vu, .none] } } σ H3 x v vl vu l u s3.heap.objs.size Q I4 r1 (Heap.IsSliceOf.new ..) pl pu q3
  show wpAny (model X.prog X.w) X.A (subscriptTail e (.Slice lo hi none p2) v (.ref s3.heap.objs.size)) (EP X pins σ Q) X.xe { s3 with heap := s3.heap.push { cls := .type "slice", data := .fields #[vl, vu, .none] } }
  exact tail_any (ops := [.ref s3.heap.objs.size, v]) ht hT hg (by with_unfolding_all rfl)

/-- the items of xs[lo:hi] -/
def cutV (xs : List V) (lo hi : Option Int) : List V := (xs.drop (HT.sIx xs.length 0 lo)).take (HT.sIx xs.length xs.length hi - HT.sIx xs.length 0 lo)
theorem cutV_length (xs : List V) (lo hi : Option Int) : (cutV xs lo hi).length ≤ xs.length := by
  unfold cutV
  rw [List.length_take, List.length_drop]
  omega
/-! ### t < u, t + u -/
end
end L2

namespace L2
open PySem PySem.Spec PyProof.Rows

/-! ### places -/
/-- the place that an index of any sign means -/
def ixN (n : Nat) (i : Int) : Option Nat := if 0 ≤ i then (if i < n then some i.toNat else none) else if -(n : Int) ≤ i then some (i + n).toNat else none
def atI {α : Type} (xs : List α) (i : Int) : Option α := (ixN xs.length i).bind fun j => xs[j]?
theorem ixN_seq {n : Nat} {i : Int} {j : Nat} (h : ixN n i = some j) : seqIndex? i n = some j ∧ j < n ∧ -(n : Int) ≤ i ∧ i < n := by
  unfold ixN at h
  by_cases h0 : 0 ≤ i
  · rw [if_pos h0] at h
    by_cases h1 : i < n
    · rw [if_pos h1] at h
      have e : i.toNat = j := Option.some.inj h
      exact ⟨by rw [seqIndex_of h0 h1, e], by omega, by omega, h1⟩
    · rw [if_neg h1] at h; cases h
  · rw [if_neg h0] at h
    by_cases h1 : -(n : Int) ≤ i
    · rw [if_pos h1] at h
      have e : (i + n).toNat = j := Option.some.inj h
      exact ⟨by rw [seqIndex_neg (by omega) h1, e], by omega, h1, by omega⟩
    · rw [if_neg h1] at h; cases h
theorem atI_get {α : Type} {xs : List α} {i : Int} {v : α} (h : atI xs i = some v) : ∃ j, seqIndex? i xs.length = some j ∧ xs[j]? = some v ∧ j < xs.length ∧ -(xs.length : Int) ≤ i ∧ i < xs.length := by
  unfold atI at h
  cases e : ixN xs.length i with
  | none => rw [e] at h; cases h
  | some j =>
    rw [e] at h
    obtain ⟨h1, h2, h3, h4⟩ := ixN_seq e
    exact ⟨j, h1, h, h2, h3, h4⟩
theorem atI_nat {α : Type} {xs : List α} {j : Nat} {v : α} (h : xs[j]? = some v) : atI xs (j : Int) = some v := by
  have hj : j < xs.length := (List.getElem?_eq_some_iff.mp h).1
  have e : ixN xs.length (j : Int) = some j := by
    unfold ixN
    rw [if_pos (by omega), if_pos (by omega)]; simp
  unfold atI; rw [e]; exact h
theorem atI_last {α : Type} (xs : List α) (v : α) : atI (xs ++ [v]) (-1) = some v := by
  have hl : (xs ++ [v]).length = xs.length + 1 := by simp
  have e : ixN (xs ++ [v]).length (-1) = some xs.length := by
    unfold ixN
    rw [hl, if_neg (by decide), if_pos (by omega)]
    congr 1
    omega
  unfold atI
  rw [e]
  show (xs ++ [v])[xs.length]? = some v
  simp

/-! ### what may be subscripted -/
/-- what stands as an index of a plain subscript -/
def PlainIx (b : Expr) : Prop := ∀ o i, subscripted b false o i = operate [o, i] (getItem o i)
/-- a subscript by values -/
def IxR (X : Cx) (r : R2) : Prop :=
  ∀ (value slice : Expr) (pins : List (Addr × Obj)) (s : Shared) (σ : St) (H : Hp) (x y : V) (v u : Value) (Q : VK), Inv X pins σ H s → RelV x v → RelV y u → r x y H Q →
    subscripted slice false v u = operate [v, u] (getItem v u) → wpAny (model X.prog X.w) X.A (subscriptTail value slice v u) (EP X pins σ Q) X.xe s
/-- a call of a builtin's method by values: the receiver, the arguments -/
def MtR (X : Cx) (id : String) (r : V → List V → Hp → VK → Prop) : Prop :=
  ∀ (pins : List (Addr × Obj)) (s : Shared) (σ : St) (H : Hp) (x : V) (xs : List V) (v : Value) (us : List Value) (Q : VK), Inv X pins σ H s → RelV x v → Vals xs us → r x xs H Q →
    wpAny (model X.prog X.w) X.A (call (.builtin id) (v :: us)) (EP X pins σ Q) X.xe s
section
variable {X : Cx} {a b : Expr} {ta tb : TE} {pos : Pos}
theorem IxR.or {r r' : R2} (h : IxR X r) (h' : IxR X r') : IxR X (fun x y H Q => r x y H Q ∨ r' x y H Q) := by
  intro value slice pins s σ H x y v u Q I rx ry q hs
  rcases q with q | q
  · exact h value slice pins s σ H x y v u Q I rx ry q hs
  · exact h' value slice pins s σ H x y v u Q I rx ry q hs
theorem MtR.or {id : String} {r r' : V → List V → Hp → VK → Prop} (h : MtR X id r) (h' : MtR X id r') : MtR X id (fun x xs H Q => r x xs H Q ∨ r' x xs H Q) := by
  intro pins s σ H x xs v us Q I rx rs q
  rcases q with q | q
  · exact h pins s σ H x xs v us Q I rx rs q
  · exact h' pins s σ H x xs v us Q I rx rs q
/-- a[b] -/
theorem pe_ix {r : R2} (hr : IxR X r) (ha : PE X a ta) (hb : PE X b tb) (hs : PlainIx b) : PE X (.Subscript a b pos) (tOp r ta tb) := by
  intro pins s σ H Q I h
  exact Subscript_ (binT ha hb I h fun v u s2 x y H2 I2 rx ry q => hr a b pins s2 σ H2 x y v u Q I2 rx ry q (hs _ _))

def rIxL (K : PySem.W.Frag) : R2 := fun x y H Q => ∃ p xs i v, x = .ref p ∧ y = .int i ∧ SqL K H p xs ∧ atI xs i = some v ∧ Q v H
def rIxT (K : PySem.W.Frag) : R2 := fun x y H Q => ∃ p xs i v, x = .ref p ∧ y = .int i ∧ SqT K H p xs ∧ atI xs i = some v ∧ Q v H
theorem ix_list : IxR X (rIxL X.K) := by
  intro value slice pins s σ H x y v u Q I rx ry h hs
  obtain ⟨p, xs, i, z, rfl, rfl, hq, he, q⟩ := h
  cases rx
  obtain ⟨t, rfl⟩ := ry
  obtain ⟨its, r, pl, hz⟩ := I.list hq
  obtain ⟨j, h1, h2, h3, h4, h5⟩ := atI_get he
  obtain ⟨w, ew, rw'⟩ := r.get h2
  have hl := r.length
  have hn := line63
  have fin : EP X pins σ Q w s := ⟨z, H, I, rw', q⟩
  by_cases h0 : 0 ≤ i
  · have hj : i.toNat = j := by
      rw [seqIndex_of h0 h5] at h1
      exact Option.some.inj h1
    exact item_listR pl.isList h0 (by omega) (by rw [hj]; simpa using ew) fin hs
  · have hj : (i + (its.toArray.size : Int)).toNat = j := by
      rw [seqIndex_neg (by omega) h4] at h1
      rw [List.size_toArray, ← hl]
      exact Option.some.inj h1
    exact subscriptTail_builtinR (x := w) pl.isList.typeIs slot_list_getitem.lookup
      (wpAny_getItem_list_neg (Q := fun r s' => r = w ∧ EP X pins σ Q r s') pl.isList (by omega) (by rw [List.size_toArray] <;> omega) (by omega) (by rw [hj]; simpa using ew) ⟨rfl, fin⟩) hs
theorem ix_tup : IxR X (rIxT X.K) := by
  intro value slice pins s σ H x y v u Q I rx ry h hs
  obtain ⟨p, xs, i, z, rfl, rfl, hq, he, q⟩ := h
  cases rx
  obtain ⟨t, rfl⟩ := ry
  obtain ⟨its, r, pl, hz⟩ := I.tuple hq
  obtain ⟨j, h1, h2, h3, h4, h5⟩ := atI_get he
  obtain ⟨w, ew, rw'⟩ := r.get h2
  have hl := r.length
  have hn := line63
  have fin : EP X pins σ Q w s := ⟨z, H, I, rw', q⟩
  exact subscriptTail_builtinR (x := w) pl.typeIs slot_tuple_getitem.lookup
    (getItem_tuple (j := j) (Q := fun r s' => r = w ∧ EP X pins σ Q r s') pl (by omega) (by omega) (by rw [List.size_toArray, ← hl]; exact h1) (by simpa using ew) ⟨rfl, fin⟩) hs
/-! ### xs[i] = v, any sign -/
/-- the list's object behind a store -/
theorem mapSeq_set (its : List Value) (n j : Nat) (u : Value) : Obj.mapSeq (·.setIfInBounds j u) { cls := .type "list", data := .seq its.toArray n } = { cls := .type "list", data := .seq (its.set j u).toArray n } := by
  simp [Obj.mapSeq]
theorem Inv.lst {pins : List (Addr × Obj)} {σ : St} {H : Hp} {s : Shared} {p : Addr} {xs : List V} (I : Inv X pins σ H s) (h : H p = some (.lst xs)) :
    ∃ (its : List Value) (n : Nat), Vals xs its ∧ s.heap.get? p = some { cls := .type "list", data := .seq its.toArray n } ∧ xs.length ≤ sizeLine := by
  obtain ⟨z, its, n, r, e⟩ := I.hok p _ h
  exact ⟨its, n, r, e, z⟩
/-- the list at p is written by an update of its object -/
theorem Inv.lstUpd {pins : List (Addr × Obj)} {σ : St} {H : Hp} {s : Shared} {p : Addr} {xs ys : List V} {its its' : List Value} {n n' : Nat} {f : Obj → Obj} (I : Inv X pins σ H s) (h : H p = some (.lst xs))
    (ho : s.heap.get? p = some { cls := .type "list", data := .seq its.toArray n }) (hf : f { cls := .type "list", data := .seq its.toArray n } = { cls := .type "list", data := .seq its'.toArray n' }) (r : Vals ys its') (hz : ys.length ≤ sizeLine) (t : Nat) :
    Inv X pins σ (upd H p (.lst ys)) { s with heap := s.heap.update p f, toks := t } := by
  have e : (s.heap.update p f).get? p = some { cls := .type "list", data := .seq its'.toArray n' } := by
    rw [Heap.get?_update_self f ho (by rw [hf] <;> rfl), hf]
  refine I.write (x := p) (e := p) (by rw [h]; trivial) (.inl rfl) (fun b u hb q => (Heap.get?_update_other _ _ (Ne.symm hb)).trans q) ⟨_, e⟩ ?_
  exact ⟨hz, its', n', r, e⟩
def rSetL : V → V → V → Hp → (Hp → Prop) → Prop := fun o i v H Q => ∃ p xs k j, o = .ref p ∧ i = .int k ∧ H p = some (.lst xs) ∧ ixN xs.length k = some j ∧ Q (upd H p (.lst (xs.set j v)))
theorem set_list : PSet X rSetL := by
  intro pins s σ H o i v ov iv u Q I ro ri rv h
  obtain ⟨p, xs, k, j, rfl, rfl, hp, hj, q⟩ := h
  cases ro
  obtain ⟨t, rfl⟩ := ri
  obtain ⟨its, n, r, ho, hz⟩ := I.lst hp
  obtain ⟨h1, h2, h3, h4⟩ := ixN_seq hj
  have hl := r.length
  have hn := line63
  have I' : Inv X pins σ (upd H p (.lst (xs.set j v))) { s with heap := s.heap.update p (Obj.mapSeq (·.setIfInBounds j u)) } :=
    I.lstUpd hp ho (mapSeq_set its n j u) (r.set rv j) (by rw [List.length_set]; exact hz) s.toks
  by_cases h0 : 0 ≤ k
  · have hk : k.toNat = j := by
      rw [seqIndex_of h0 h4] at h1
      exact Option.some.inj h1
    exact PySem.W.ki_setAt ho h0 (by omega) (by rw [List.size_toArray, ← hl]; exact h4) (by rw [hk]; exact ⟨_, I', q⟩)
  · have hk : (k + (its.toArray.size : Int)).toNat = j := by
      rw [seqIndex_neg (by omega) h3] at h1
      rw [List.size_toArray, ← hl]
      exact Option.some.inj h1
    exact PySem.W.ki_setBack ho (by omega) (by rw [List.size_toArray, ← hl]; exact h3) (by omega) (by rw [hk]; exact ⟨_, I', q⟩)

/-! ### slices -/
theorem slice_bounds (lo hi : Option Int) (n : Nat) : (sliceBounds lo hi none n).1 = ((HT.sIx n 0 lo : Nat) : Int) ∧ (sliceBounds lo hi none n).2.1 = ((HT.sIx n n hi : Nat) : Int) ∧ (sliceBounds lo hi none n).2.2 = 1 := by
  refine ⟨?_, ?_, rfl⟩
  · cases lo with
    | none => simp [sliceBounds, HT.sIx]
    | some i =>
      simp only [sliceBounds, HT.sIx, Option.getD_none, show (1 : Int) > 0 by decide, if_true]
      by_cases h : i < 0
      · simp only [h, if_true] <;> omega
      · simp only [h, if_false] <;> omega
  · cases hi with
    | none => simp [sliceBounds, HT.sIx]
    | some i =>
      simp only [sliceBounds, HT.sIx, Option.getD_none, show (1 : Int) > 0 by decide, if_true]
      by_cases h : i < 0
      · simp only [h, if_true] <;> omega
      · simp only [h, if_false] <;> omega
theorem slicePick_cut (its : List Value) (lo hi : Option Int) : slicePick its.toArray lo hi none = ((its.drop (HT.sIx its.length 0 lo)).take (HT.sIx its.length its.length hi - HT.sIx its.length 0 lo)).toArray := by
  obtain ⟨h1, h2, h3⟩ := slice_bounds lo hi its.toArray.size
  unfold slicePick
  rw [h1, h2, h3]
  simp only [sliceRange_one, pick_run, List.size_toArray] <;> rfl
/-- xs[lo:hi] of a list: a new list -/
def rSlL (K : PySem.W.Frag) : V → Option Int → Option Int → Hp → VK → Prop := fun x lo hi H Q => ∃ a xs, x = .ref a ∧ SqL K H a xs ∧ ∀ p, H p = none → Q (.ref p) (upd H p (.lst (cutV xs lo hi)))
theorem sl_list : SlR X (rSlL X.K) := by
  intro pins s σ H x v vl vu lo hi sl Q I rx hs pl pu h
  obtain ⟨a, xs, rfl, hx, q⟩ := h
  cases rx
  obtain ⟨its, r, ht, hz⟩ := I.list hx
  have hlen := r.length
  refine ⟨"list", _, slot_list_getitem.lookup, ht.isList.typeIs, ?_⟩
  refine wpAny_getItem_list_slice ht.isList hs pl pu .none (by simp) ?_ (by rw [List.size_toArray] <;> omega)
  rw [slicePick_cut, ← hlen]
  refine ⟨.ref s.heap.objs.size, _, I.laid (t' := s.toks) (o := .lst (cutV xs lo hi)) (fun b ob q => Heap.get?_push_of_some _ q) (Nat.le_refl _) ?_, rfl, q _ (I.hok.fresh (Nat.le_refl _))⟩
  exact ⟨Nat.le_trans (cutV_length xs lo hi) hz, _, 0, (r.drop (HT.sIx xs.length 0 lo)).take (HT.sIx xs.length xs.length hi - HT.sIx xs.length 0 lo), Heap.get?_push_size _ rfl⟩

/-! ### in, not in: flat items -/
/-! ### len, list(x), tuple(x) of any list or tuple that is read -/
theorem call_len_seq : CallR X (.builtin "len") (fun xs H Q => ∃ p ys, xs = [.ref p] ∧ (SqL X.K H p ys ∨ SqT X.K H p ys) ∧ Q (.int ys.length) H) := by
  intro pins s σ H xs us Q I r h
  obtain ⟨p, ys, rfl, hq, q⟩ := h
  obtain ⟨u, rfl, rx⟩ := vals1 r
  cases rx
  have hn := line63
  rcases hq with hq | hq
  · obtain ⟨its, r', pl, hz⟩ := I.list hq
    have hlen := r'.length
    exact Calls.call_len_list pl.isList (by simp only [List.size_toArray] <;> omega) ⟨.int ys.length, H, I.tok _, ⟨s.toks + 1, by rw [List.size_toArray, hlen]⟩, q⟩
  · obtain ⟨its, r', pl, hz⟩ := I.tuple hq
    have hlen := r'.length
    exact len_tuple pl (by simp only [List.size_toArray] <;> omega) ⟨.int ys.length, H, I.tok _, ⟨s.toks + 1, by rw [List.size_toArray, hlen]⟩, q⟩
theorem CallR.or {f : Value} {r r' : List V → Hp → VK → Prop} (h : CallR X f r) (h' : CallR X f r') : CallR X f (fun xs H Q => r xs H Q ∨ r' xs H Q) := by
  intro pins s σ H xs us Q I rs q
  rcases q with q | q
  · exact h pins s σ H xs us Q I rs q
  · exact h' pins s σ H xs us Q I rs q
theorem call_list_of : CallR X (.type "list") (fun xs H Q => ∃ p ys, xs = [.ref p] ∧ (SqL X.K H p ys ∨ SqT X.K H p ys) ∧ ∀ l, H l = none → Q (.ref l) (upd H l (.lst ys))) := by
  intro pins s σ H xs us Q I r h
  obtain ⟨p, ys, rfl, hq, q⟩ := h
  obtain ⟨u, rfl, rx⟩ := vals1 r
  cases rx
  have fin : ∀ (its : List Value), Vals ys its → ys.length ≤ sizeLine → ∀ (h' : Heap) (c' : Nat), (∀ b o', s.heap.get? b = some o' → h'.get? b = some o') →
      h'.get? s.heap.objs.size = some { cls := .type "list", dict := none, data := .seq its.toArray c', slots := #[] } → EP X pins σ Q (.ref s.heap.objs.size) { s with heap := h' } := fun its r' hz h' c' kp e =>
    ⟨.ref s.heap.objs.size, _, I.laid (t' := s.toks) kp (Nat.le_refl _) (show ObjOk X.prog X.w _ h' _ (.lst ys) from ⟨hz, its, c', r', e⟩), rfl, q _ (I.hok.fresh (Nat.le_refl _))⟩
  rcases hq with hq | hq
  · obtain ⟨its, r', pl, hz⟩ := I.list hq
    have hlen := r'.length
    obtain ⟨o, ho, hc, n, hd⟩ := pl.isList
    exact call_list_seq p (.inl rfl) ho hc hd (fun h' c' kp e => fin its r' hz h' c' kp e) (by simp only [List.size_toArray] <;> omega)
  · obtain ⟨its, r', pl, hz⟩ := I.tuple hq
    have hlen := r'.length
    obtain ⟨o, ho, hc, n, hd⟩ := pl
    exact call_list_seq p (.inr rfl) ho hc hd (fun h' c' kp e => fin its r' hz h' c' kp e) (by simp only [List.size_toArray] <;> omega)
/-! ### the call of a builtin's method: o.m(..) -/
/-- the value is of that builtin type -/
def tyV (K : PySem.W.Frag) (T : String) (x : V) (H : Hp) : Prop := match x with
  | .str _ => T = "str"
  | .int _ => T = "int"
  | .ref p => (T = "list" ∧ ∃ xs, SqL K H p xs) ∨ (T = "tuple" ∧ ∃ o, K.lookup p = some o ∧ o.cls = .type "tuple" ∧ o.dict = none) ∨
      (T = "dict" ∧ ((∃ kvs, H p = some (.dK kvs)) ∨ ∃ kvs, H p = some (.dT kvs))) ∨ (T = "set" ∧ ∃ S n, H p = some (.set S n))
  | _ => False
theorem tyV_is {pins : List (Addr × Obj)} {σ : St} {H : Hp} {s : Shared} {T : String} {x : V} {v : Value} (I : Inv X pins σ H s) (r : RelV x v) (ty : tyV X.K T x H) :
    s.TypeIs v T ∧ ∀ a, v = .ref a → ∃ ob, s.heap.get? a = some ob ∧ ob.dict = none := by
  cases x with
  | str z =>
    obtain ⟨t, rfl⟩ := r
    cases (show T = "str" from ty)
    exact ⟨typeIs_str s z t, fun _ e => nomatch e⟩
  | int i =>
    obtain ⟨t, rfl⟩ := r
    cases (show T = "int" from ty)
    exact ⟨typeIs_int s i t, fun _ e => nomatch e⟩
  | ref p =>
    cases r
    rcases ty with ⟨rfl, xs, hq⟩ | ⟨rfl, o, hk, hc, hd⟩ | ⟨rfl, hk⟩ | ⟨rfl, S, n, hk⟩
    · obtain ⟨its, _, pl, _⟩ := I.list hq
      refine ⟨pl.isList.typeIs, fun a e => ?_⟩
      cases e
      obtain ⟨o, n, e, c, hd, _⟩ := pl
      exact ⟨o, e, hd⟩
    · refine ⟨⟨o, I.kIn p o hk, hc⟩, fun a e => ?_⟩
      cases e
      exact ⟨o, I.kIn _ o hk, hd⟩
    · have z : ∃ o, s.heap.get? p = some o ∧ o.ExactDict := by
        rcases hk with ⟨kvs, hk⟩ | ⟨kvs, hk⟩
        · obtain ⟨_, _, _, _, o, _, _, e, ex, _⟩ := I.hok p _ hk
          exact ⟨o, e, ex⟩
        · obtain ⟨_, _, _, _, o, _, _, e, ex, _⟩ := I.hok p _ hk
          exact ⟨o, e, ex⟩
      obtain ⟨o, e, ex⟩ := z
      refine ⟨⟨o, e, ex.1⟩, fun a e2 => ?_⟩
      cases e2
      exact ⟨o, e, ex.2.1⟩
    · obtain ⟨o, _, _, _, e, ex, _⟩ := I.hok p _ hk
      refine ⟨⟨o, e, ex.1⟩, fun a e2 => ?_⟩
      cases e2
      exact ⟨o, e, ex.2.1⟩
  | _ => exact False.elim ty
def tBM (K : PySem.W.Frag) (T : String) (r : V → List V → Hp → VK → Prop) (to : TE) (t : TA) : TE := fun σ H Q => to σ H fun x H1 => tyV K T x H1 ∧ t σ H1 fun xs H2 => r x xs H2 Q
variable {o e : Expr} {es : List Expr} {to : TE} {t : TA} {name : Str} {apos cpos : Pos} {T id : String} {r : V → List V → Hp → VK → Prop}
theorem pe_bm (pa : PlainAttrs T) (slot : Slot T name id) (hty : typeOf (.builtin id) = pure (.type "method_descriptor")) (hm : MtR X id r) (ho : PE X o to) (ha : PA X (e :: es) t)
    (hbase : attributeBase o name X.env (eval o X.env) = eval o X.env := by rfl)
    (hfew : ((backTo cpos (starEach (e :: es) X.env)).all (fun x => !x.1) && (backToKw cpos (keywordEach [] X.env)).all (fun x => x.1.isSome)
      && decide ((e :: es).length + ([] : List Keyword).length + (if ([] : List Keyword).isEmpty then 0 else 1) < 30)) = true := by rfl)
    (hline : (apos.endLine == cpos.line) = true := by rfl) (hs : starEach (e :: es) X.env = (false, eval e X.env) :: starEach es X.env := by rfl) (hplain : (backTo cpos (starEach es X.env)).any (·.1) = false := by rfl) :
    PE X (.Call (.Attribute o name apos) (e :: es) [] cpos) (tBM X.K T r to t) := by
  intro pins s σ H Q I h
  refine wpAny_Call_method_late hbase hfew hline rfl (thn (ho pins s σ H _ I h) fun v s1 ⟨x, H1, I1, r1, ty, q1⟩ => ?_)
  obtain ⟨h1, h2⟩ := tyV_is I1 r1 ty
  refine ⟨T, id, pa, slot, hty, h1, h2, ?_⟩
  have hA := ha cpos pins s1 σ H1 _ I1 q1
  rw [hs] at hA ⊢
  refine Calls.callWith_builtin (by show (false || (backTo cpos (starEach es X.env)).any (·.1)) = false; rw [hplain] <;> rfl) (Calls.evalArgs_plain ?_)
  exact thn hA fun us s2 ⟨vs, H2, I2, r2, q2⟩ => hm pins s2 σ H2 x vs v us Q I2 r1 r2 q2
/- xs.append(e), list.index on a module's tuple .. are MtR facts of 06m -/
end
end L2

namespace L2
open PySem PySem.Spec PyProof.Rows

def MtM (X : Cx) (id : String) (r : V → List V → Hp → VK → Prop) : Prop :=
  ∀ (pins : List (Addr × Obj)) (s : Shared) (σ : St) (H : Hp) (x : V) (xs : List V) (v : Value) (us : List Value) (Q : VK), Inv X pins σ H s → RelV x v → Vals xs us → r x xs H Q →
    wpAny (model X.prog X.w) X.A (call (.builtin id) (v :: us)) (EP X pins σ Q) X.xe s

/-! ### lists of values -/
theorem Vals.one : ∀ {x : V} {us : List Value}, Vals [x] us → ∃ u, us = [u] ∧ RelV x u
  | _, _, .cons r .nil => ⟨_, rfl, r⟩
theorem Vals.two : ∀ {x y : V} {us : List Value}, Vals [x, y] us → ∃ u v, us = [u, v] ∧ RelV x u ∧ RelV y v
  | _, _, _, .cons r (.cons q .nil) => ⟨_, _, rfl, r, q⟩
theorem Vals.zero : ∀ {us : List Value}, Vals [] us → us = []
  | _, .nil => rfl
theorem Vals.reverse {xs : List V} {us : List Value} (h : Vals xs us) : Vals xs.reverse us.reverse := by
  induction h with
  | nil => exact .nil
  | cons r t ih => rw [List.reverse_cons, List.reverse_cons]; exact Vals.append ih (.cons r .nil)
section
variable {X : Cx} {pins : List (Addr × Obj)} {σ : St} {H : Hp} {s : Shared} {l b : Addr} {xs ys zs : List V}

/-! ### the two steps: a tracked list is rewritten, a new list is laid -/
theorem Inv.lset {its its' : List Value} {n : Nat} {f : Array Value → Array Value} {t' : Nat} (I : Inv X pins σ H s) (hH : H l = some (.lst xs))
    (e : s.heap.get? l = some { cls := .type "list", data := .seq its.toArray n }) (hf : f its.toArray = its'.toArray) (hv : Vals ys its') (hz : ys.length ≤ sizeLine) :
    Inv X pins σ (upd H l (.lst ys)) { s with heap := s.heap.update l (Obj.mapSeq f), toks := t' } := by
  have q := PySem.IsL.update e f
  rw [hf] at q
  refine I.write (x := l) (e := l) (by rw [hH]; exact trivial) (.inl rfl) (fun b' u hb hu => (Heap.get?_update_other s.heap (Obj.mapSeq f) (Ne.symm hb)).trans hu) ⟨_, q⟩ ?_
  exact ⟨hz, its', _, hv, q⟩
theorem Inv.lnew {its : List Value} {t' : Nat} (I : Inv X pins σ H s) (hv : Vals ys its) (hz : ys.length ≤ sizeLine) :
    Inv X pins σ (upd H s.heap.objs.size (.lst ys)) { s with heap := s.heap.push { cls := .type "list", data := .seq its.toArray }, toks := t' } :=
  I.laid (fun _ _ q => Heap.get?_push_of_some _ q) (Nat.le_refl _) ⟨hz, its, 0, hv, Heap.get?_push_size _ rfl⟩
theorem Inv.fresh (I : Inv X pins σ H s) : H s.heap.objs.size = none := I.hok.fresh (Nat.le_refl _)
theorem Inv.lstM (I : Inv X pins σ H s) (hH : H l = some (.lst xs)) : xs.length ≤ sizeLine ∧ ∃ (its : List Value) (n : Nat), Vals xs its ∧ xs.length = its.length ∧ s.heap.get? l = some { cls := .type "list", data := .seq its.toArray n } := by
  obtain ⟨z, its, n, r, e⟩ := I.hok l _ hH
  exact ⟨z, its, n, r, r.length, e⟩

end

section
variable {X : Cx}

/-! ### methods -/
def rAppend : V → List V → Hp → VK → Prop := fun x vs H Q => ∃ l xs y, x = .ref l ∧ vs = [y] ∧ H l = some (.lst xs) ∧ xs.length < sizeLine ∧ Q .non (upd H l (.lst (xs ++ [y])))
theorem mt_append : MtM X "list.append" rAppend := by
  intro pins s σ H x vs v us Q I rx rv h
  obtain ⟨l, xs, y, rfl, rfl, hH, hz, q⟩ := h
  cases rx
  obtain ⟨u, rfl, ru⟩ := rv.one
  obtain ⟨z, its, n, r, hl, e⟩ := I.lstM hH
  refine call_meets F.slot_list_append ⟨_, e, rfl⟩ F.entry_list_append (F.args_list_append_2 _ _) (PySem.list_append l its.toArray n u (by rw [List.size_toArray]; omega)) ⟨e, ?_⟩
  refine ⟨.non, _, I.lset (its' := its ++ [u]) hH e (by simp) (r.append (.cons ru .nil)) ?_, rfl, q⟩
  rw [List.length_append, List.length_singleton]
  omega

/-! ### list + list, list += list, list * int -/
def rCat : R2 := fun x y H Q => ∃ l b xs zs, x = .ref l ∧ y = .ref b ∧ H l = some (.lst xs) ∧ H b = some (.lst zs) ∧ xs.length + zs.length ≤ sizeLine ∧ ∀ p, H p = none → Q (.ref p) (upd H p (.lst (xs ++ zs)))
theorem op_cat : OpR X (binaryOp .Add) rCat := by
  intro pins s σ H x y v u Q I rx ry h
  obtain ⟨l, b, xs, zs, rfl, rfl, hH, hB, hz, q⟩ := h
  cases rx
  cases ry
  obtain ⟨z, its, n, r, hl, e⟩ := I.lstM hH
  obtain ⟨z2, its2, n2, r2, hl2, e2⟩ := I.lstM hB
  refine PySem.P.add_list e e2 ?_ (by rw [List.size_toArray, List.size_toArray]; omega)
  have ea : its.toArray ++ its2.toArray = (its ++ its2).toArray := by simp
  rw [ea]
  exact ⟨.ref _, _, I.lnew (t' := s.toks) (r.append r2) (by rw [List.length_append]; omega), rfl, q _ I.fresh⟩
/-! ### del xs[i] -/
end

/-! ### xs[a:b] = ys -/
section
variable {prog : Program} {w : World} {A : Around} {E : Value → Shared → Prop} {s : Shared}
end

section
variable {X : Cx}
end
end L2

namespace Att
open PySem PySem.W PySem.Calls PyProof.Rows

/-! ### the script -/
theorem ints_of_wellAll {P : Params} {h : Heap} : ∀ (ns : List Int) (vs : List Value), WellAll P h vs (ns.map WData.int) → IntsAre vs ns := by
  intro ns
  induction ns with
  | nil =>
    intro vs w
    rw [List.map_nil] at w
    cases w
    exact .nil
  | cons n ns ih =>
    intro vs w
    rw [List.map_cons] at w
    cases w with
    | cons a b =>
      cases a
      exact .cons _ _ (ih _ b)

theorem script_of {l : OpenLaw} {n : Nat} (hn : l.most = some n) {P : Params} {h : Heap} {args : List WData} {vals : List Value}
    (hpre : l.row.toRowW.claim.pre args = true) (hwl : WellAll P h vals args) :
    ∃ a vs ns, vals = [Value.ref a] ∧ args = [WData.list (ns.map WData.int)] ∧ h.get? a = some { cls := .type "list", data := .seq vs.toArray } ∧ IntsAre vs ns ∧ ns.length ≤ n := by
  have hsh : WShape.hasAll [] args [.list .int] = true := (pre_splitW hpre).1
  have hc : l.pre.holds [] { args := args } = true := (pre_splitW hpre).2
  obtain ⟨d, r, rfl, h1, h2⟩ := hasAllW_cons hsh
  obtain rfl := hasAllW_nil h2
  obtain ⟨xs, rfl, h3⟩ := hasW_list h1
  obtain ⟨ns, rfl⟩ := items_int h3
  have hlen : ns.length ≤ n := by
    unfold OpenLaw.pre at hc
    have h4 : (WTm.not (.lt (.lit (.int (n : Int))) (.len (.arg 0)))).holds [] { args := [.list (ns.map .int)] } = true := by
      have h4 := (holds_andW hc).1
      rw [hn] at h4
      exact h4
    have h5 := condW_of h4 (w_not (w_lt w_lit (w_len_list (w_arg rfl))))
    rw [List.length_map] at h5
    refine Nat.le_of_not_lt fun q => ?_
    have q' : (n : Int) < ((ns.length : Nat) : Int) := by omega
    first
      | (rw [decide_eq_true q'] at h5; exact absurd h5 (by decide))
      | (simp at h5; omega)
  cases hwl with
  | cons w1 w2 =>
    cases w2
    cases w1 with
    | list ho hall => exact ⟨_, _, ns, rfl, rfl, ho, ints_of_wellAll ns _ hall, hlen⟩

theorem post_true (l : OpenLaw) (args : List WData) : l.row.toRowW.claim.post args (.bool true) args = true :=
  postW_of (r := l.row.toRowW) (X := (true == true))
    (show WShape.has [] (.bool true) .bool = true by first | rfl | decide | simp [WShape.has, WShape.arms, WShape.armsAll])
    (show (WTm.eq .res (.lit (.bool true))).value [] { args := args, res := some (.bool true), after := args } = some (.bool (true == true)) from w_eq_bool (w_res rfl) w_lit) rfl

/-! ### the attachment: holds_open's last premise (the goal 'hc' behind k_head) from a wpAny of the law's body -/
/-- the same from a codeAny of the CALL (for a layer whose function contracts speak of calls) -/
theorem attach_call {l : OpenLaw} {n : Nat} {q : Program} {loose : List Str} {XP : (Str → Option Value) → Heap → Prop} {YP : World → Heap → Prop} {d : DefRec}
    (hn : l.most = some n) (hdf : d.params.defaults = [])
    (call : ∀ (w : World) (s₀ s₁ : Shared) (mg mb : Str → Option Value) (fa : Addr) (o : Obj) (pm cd doc : Value) (a : Addr) (vs : List Value) (ns : List Int),
      Ground q loose [] XP w s₀ mg mb s₁.heap → YP w s₁.heap →
      s₁.heap.get? fa = some o → o.data = .func (docDef d.name d.params d.body d.scope pm cd doc) → s₁.heap.CodeRec cd d.name → mg d.name = some (.ref fa) →
      s₁.heap.get? a = some { cls := .type "list", data := .seq vs.toArray } → IntsAre vs ns → ns.length ≤ n → s₁.gens = #[] →
      codeAny (model l.prog w) callerA (.call (.ref fa) ⟨[.ref a], []⟩) (fun r s' => r = .ok (.ret (.bool true)) ∧ OldK s₁.heap s'.heap ∧ s'.os = s₁.os ∧ AllBare s'.gens) s₁) :
    WalkO q loose XP YP l.row.toRowW d [] (fun f vs => PySem.call f vs) := by
  intro w s₀ s₁ mg mb G Y fa o pm cd doc dV kV ho hd hcd hD hmg hg args vals as hpre hlay hrd hwl hlo
  obtain rfl : dV = .none := Dflts.none hD hdf
  obtain rfl : kV = .none := Dflts.noKw hD
  obtain ⟨a, vs, ns, rfl, rfl, hobj, hints, hlen⟩ := script_of hn hpre hwl
  refine enter_call (codeAny_mono (call w s₀ s₁ mg mb fa o pm cd doc a vs ns G Y ho (fd_plain hd) hcd hmg hobj hints hlen hg) fun r s' hq => ?_)
  obtain ⟨rfl, h2, h3, h4⟩ := hq
  exact ⟨.inl ⟨.bool true, .bool true, [], rfl, fun _ => rfl, .bool true, post_true l _, fun _ => ⟨List.Pairwise.nil, fun _ hm => (nomatch hm)⟩⟩, h2, h3, h4⟩

/-! ### rules over ANY heap (no ledger) from facts about the written part K: the library's own take a ledger (News) for what they write -/
section
variable {prog : Program} {w : World} {A : Around} {E : Value → Shared → Prop} {s : Shared} {K : Frag}

/-! the whole heap as the ledger: makes every rule that writes through a ledger a rule over any heap -/
def ledger (h : Heap) (L d : Addr) : List (Addr × Obj) := (List.range h.objs.size).filterMap fun a => if a = L ∨ a = d then none else (h.get? a).map fun o => (a, o)
end
end Att

namespace L2
open PySem PySem.Spec PyProof.Rows

theorem vals_ints : ∀ {vs : List Value} {ns : List Int}, IntsAre vs ns → Vals (ns.map V.int) vs
  | _, _, .nil => .nil
  | _, _, .cons n t h => .cons ⟨t, rfl⟩ (vals_ints h)

/-- nothing is tracked but the script, known to the object (or it is an object of the module) -/
def Only (H : Hp) : Prop := ∀ b, H b = none ∨ ∃ o xs, H b = some (.frz o (.lst xs))

/-- THE HEAD: the law's promise, at the heap behind the top. F, the promise of the law's def, may use that base is part of the heap (so K.In base, base.Ns mainGlobals mg stand in Mod) -/
theorem law_call {P : Program} {w : World} {K : PySem.W.Frag} {mg mb : Str → Option Value} {CX : CXT} {k : Nat} {fa a : Addr} {fd : FuncData} {x : Str} {sp : Sp} {s₁ : Shared} {vs : List Value} {ns : List Int}
    (KX : K.In s₁.heap) (hns : s₁.heap.Ns mainGlobals mg) (hb : s₁.heap.Ns builtinsNs mb) (hbb : ∀ x : Str, x ≠ "__name__" → mb x = bootBuiltins x) (hlim : s₁.heap.NoLimit) (hg : s₁.gens = #[])
    (ha : s₁.heap.get? a = some { cls := .type "list", data := .seq vs.toArray }) (hi : IntsAre vs ns) (hl : ns.length ≤ sizeLine) (hr : Room k callerA)
    (F : ∀ base : Heap, K.In base → base.Ns mainGlobals mg → FnOk P w K mg base CX k fa fd [x] sp) (hbind : ∀ (s : Shared) (u : Value), BindsTo s fd ⟨[u], []⟩ [(x, u)])
    (hsp : ∀ H : Hp, Only H → SqL K H a (ns.map V.int) → sp [.ref a] H (fun v _ => v = .bl true) fun _ _ _ => False)
    (hCX : ∀ H e s', CX [] H s₁ (fun _ _ _ => False) e s' → False) :
    codeAny (model P w) callerA (.call (.ref fa) ⟨[.ref a], []⟩) (fun r s' => r = .ok (.ret (.bool true)) ∧ OldK s₁.heap s'.heap ∧ s'.os = s₁.os ∧ AllBare s'.gens) s₁ := by
  have rv := vals_ints hi
  have lenV := hi.length
  -- from an abstract heap in which nothing but the script may be tracked
  have core : ∀ H : Hp, Only H → SqL K H a (ns.map V.int) → HOk P w H s₁.heap → (∀ b, H b ≠ none → b = a) → (H a ≠ none → K.lookup a = none) →
      codeAny (model P w) callerA (.call (.ref fa) ⟨[.ref a], []⟩) (fun r s' => r = .ok (.ret (.bool true)) ∧ OldK s₁.heap s'.heap ∧ s'.os = s₁.os ∧ AllBare s'.gens) s₁ := by
    intro H hO hS hok hA hK
    have base_of : ∀ {b : Addr} {o : Obj}, s₁.heap.get? b = some o → H b = none → (hidT s₁.heap H).get? b = some o := fun e n => hidT_get e n
    have noA : ∀ {b : Addr} {o : Obj} {es : Array DictEntry} {ep : Nat}, s₁.heap.get? b = some o → o.data = .dict es ep → H b = none := fun {b o es ep} e d => by
      cases q : H b with
      | none => rfl
      | some u =>
        have e' : b = a := hA b (by rw [q]; simp)
        subst e'
        rw [ha] at e; cases e
        have d' : Data.seq vs.toArray _ = Data.dict es ep := d
        cases d'
    have nsK : ∀ {b : Addr} {m : Str → Option Value}, s₁.heap.Ns b m → (hidT s₁.heap H).Ns b m := fun {b m} ⟨o, es, ep, e, d, r⟩ => ⟨o, es, ep, base_of e (noA e d), d, r⟩
    have hKb : K.In (hidT s₁.heap H) := fun b o e => base_of (KX b o e) (by
      cases q : H b with
      | none => rfl
      | some u =>
        have e' : b = a := hA b (by rw [q]; simp)
        subst e'
        rw [hK (by rw [q]; simp)] at e; cases e)
    have hM : Mod K mg (hidT s₁.heap H) := ⟨hKb, nsK hns, ⟨mb, nsK hb, hbb⟩, let ⟨mc, h1, h2⟩ := hlim; ⟨mc, nsK h1, h2⟩⟩
    have e0 : Env0 P w K mg (hidT s₁.heap H) callerA [] s₁ H := ⟨rfl, hM, fun b o e => of_hidT e, Nat.le_of_eq (hidT_size _ _), trivial, fun b hb => absurd (show b ∈ ([] : List Addr) from hb) (by simp), hok, .of_eq hg⟩
    refine codeAny_mono ((F _ hKb (nsK hns)).run callerA [] s₁ H ⟨[.ref a], []⟩ [.ref a] [.ref a] _ _ hr e0 (hbind s₁ (.ref a)) (.cons rfl .nil) (hsp H hO hS)) fun r s' h => ?_
    cases r with
    | error e => exact (hCX H e s' h).elim
    | ok fl =>
      cases fl with
      | next => exact False.elim h
      | brk => exact False.elim h
      | cont => exact False.elim h
      | ret u =>
        obtain ⟨v, H', os, bare, un, hok', r', q⟩ := h
        have q' : v = .bl true := q
        subst q'
        obtain rfl : u = Value.bool true := r'
        refine ⟨rfl, OldK.of_keep fun b o e => ?_, os, bare⟩
        cases q : H b with
        | none => exact un.keep b o e q (by intro z; exact absurd (show b ∈ ([] : List Addr) from z) (by simp)) (by simp)
        | some u =>
          rcases hO b with z | ⟨ob, xs, z⟩
          · rw [q] at z; cases z
          · have z2 := un.frzs b ob _ z
            obtain ⟨e1, _⟩ := hok b _ z
            obtain ⟨e2, _⟩ := hok' b _ z2
            rw [e] at e1; cases e1
            exact e2
  cases hk : K.lookup a with
  | some o =>
    -- the script is one of the module's own objects
    have e := KX a o hk
    rw [ha] at e
    cases e
    refine core (fun _ => none) (fun _ => .inl rfl) (.inr ⟨_, vs.toArray, _, hk, rfl, rfl, rfl, by rw [List.size_toArray, lenV]; exact hl, by simpa using rv⟩) (fun b u z => by have z' : (none : Option HO) = some u := z; cases z') (fun b z => absurd rfl z) fun z => absurd rfl z
  | none =>
    refine core (fun b => if b = a then some (.frz { cls := .type "list", data := .seq vs.toArray } (.lst (ns.map V.int))) else none) (fun b => ?_) (.inl (.inr ⟨{ cls := .type "list", data := .seq vs.toArray }, if_pos rfl⟩)) (fun b u z => ?_) (fun b z => ?_) fun _ => hk
    · by_cases hb : b = a
      · exact .inr ⟨_, _, if_pos hb⟩
      · exact .inl (if_neg hb)
    · by_cases hb : b = a
      · have z' := (if_pos hb).symm.trans z
        cases z'
        subst hb
        exact ⟨ha, by rw [List.length_map]; exact hl, vs, _, rv, ha⟩
      · have z' := (if_neg hb).symm.trans z
        cases z'
    · by_cases hb : b = a
      · exact hb
      · exact absurd (if_neg hb) z
end L2

namespace L2
open PySem PySem.Spec PyProof.Rows

abbrev KOf {K : PySem.W.Frag} {h : Heap} (_ : K.In h) : PySem.W.Frag := K

/-- the goal that k_head leaves (case hc), from the law's promise. F gives the function object fd (K's own) once, then the promise over every base -/
theorem walk_of {l : PySem.W.OpenLaw} {n k : Nat} {q : Program} {loose : List Str} {XP : (Str → Option Value) → Heap → Prop} {YP : World → Heap → Prop} {d : DefRec} {K : Params → PySem.W.Frag} {CX : World → CXT} {sp : World → Sp} {x : Str}
    (hn : l.most = some n) (hn2 : n ≤ sizeLine) (hdf : d.params.defaults = []) (hr : Room k callerA)
    (hY : ∀ (w : World) (h : Heap), YP w h → (K w.params).In h)
    (F : ∀ (w : World) (mg : Str → Option Value) (fa : Addr) (h : Heap), (K w.params).In h → h.Ns mainGlobals mg → mg d.name = some (.ref fa) →
      ∃ fd : FuncData, (∀ (s : Shared) (u : Value), BindsTo s fd ⟨[u], []⟩ [(x, u)]) ∧
        ∀ base : Heap, (K w.params).In base → base.Ns mainGlobals mg → FnOk l.prog w (K w.params) mg base (CX w) k fa fd [x] (sp w))
    (hsp : ∀ (w : World) (H : Hp) (a : Addr) (ns : List Int), ns.length ≤ n → Only H → SqL (K w.params) H a (ns.map V.int) → sp w [.ref a] H (fun v _ => v = .bl true) fun _ _ _ => False)
    (hCX : ∀ (w : World) (H : Hp) (s : Shared) (e : Value) (s' : Shared), CX w [] H s (fun _ _ _ => False) e s' → False) :
    PySem.W.WalkO q loose XP YP l.row.toRowW d [] (fun f vs => PySem.call f vs) := by
  refine Att.attach_call hn hdf fun w s₀ s₁ mg mb fa o pm cd doc a vs ns G Y ho hd hcd hmg hobj hints hlen hg => ?_
  have KX := hY w _ Y
  obtain ⟨fd, hb, hF⟩ := F w mg fa _ KX G.T.g hmg
  exact law_call KX G.T.g G.T.b G.T.builtins G.T.nolimit hg hobj hints (Nat.le_trans hlen hn2) hr hF hb (fun H hO hS => hsp w H a ns hlen hO hS) fun H e s' => hCX w H s₁ e s'
end L2

/- THE LAST THEOREM (shape; LID, My.* are yours):
   My.Adr: a structure of the addresses that your layer names (classes, functions); My.Txt K t: a structure (Prop) of the equations over K;
   My.txt_mk : {K} {implicit addresses ..} (e1 : nsIn K mainGlobals "law" = some (some (.ref f))) (e2 : K.lookup f = some ⟨oc, od, .func (fnOf "law" "law" params body scope dV kV doc pm an cdv ct), sl⟩) (e3 : codeIn K cdv "law" = true) .. : ∃ t, My.Txt K t

set_option maxRecDepth 100000 in
set_option maxHeartbeats 0 in
theorem PySem.Challenge.cw_LID_holds : PySem.Challenge.rw_LID.Holds := by
  w_on; o_law; k_head; (case hw => w_witness2)
  k_fill
  refine L2.walk_of (l := PySem.Challenge.rw_LID) (n := 63) (k := 40) (x := "script") (CX := fun w => ..) (sp := fun _ => My.sp_law) rfl (by decide) rfl ⟨rfl, by decide, by decide⟩ (fun w h Y => PySem.W.kIn_of Y) ?F ?S ?C
  case F =>
    intro w mg fa h KX G hmg
    have T : ∃ t, My.Txt (L2.KOf KX) t := by
      dsimp only [L2.KOf]                          -- K must stand as «<heap const> w.params» for k_is
      refine' My.txt_mk ?e1 ?e2 ?e3 ..
      (case e1 => PySem.W.k_is)                    -- in the order: a name -> its address -> its object -> its parts
      (case e2 => PySem.W.k_is)
      ..
    obtain ⟨t, T⟩ := T
    have e0 := hmg.symm.trans (PySem.W.mg_of KX G T.law)
    cases e0                                       -- fa is the law's own address
    exact ⟨_, fun s u => .of_eq rfl, fun base kb nb => My.law_fn T kb nb⟩     -- if «.of_eq rfl» comes too early: refine' ⟨_, ?b, fun base kb nb => My.law_fn T kb nb⟩; exact fun s u => .of_eq rfl
  case S => exact fun w H a ns hl hO hS => ..
  case C => exact ..
(the tactic k_is has no namespace: write k_is) -/

/-! SHORT WORDS over the layer: a def of the text, its body, what a loop and a test want. -/
namespace L2
open PySem PySem.Spec PyProof.Rows

/-! ### the text by places -/
/-- the j-th statement of a class's body -/
def inClass (s : Stmt) (j : Nat) : Stmt := match s with
  | .ClassDef _ _ _ body _ _ _ _ _ _ _ => body.getD j (.Pass ⟨0, 0, 0, 0⟩)
  | _ => .Pass ⟨0, 0, 0, 0⟩
def defArgs (s : Stmt) : Arguments := match s with
  | .FunctionDef _ a _ _ _ _ _ _ _ _ => a
  | _ => { posonlyargs := [], args := [], vararg := none, kwonlyargs := [], kw_defaults := [], kwarg := none, defaults := [] }
def defBody (s : Stmt) : List Stmt := match s with
  | .FunctionDef _ _ b _ _ _ _ _ _ _ => b
  | _ => []
def defScope (s : Stmt) : Scope := match s with
  | .FunctionDef _ _ _ _ _ _ sc _ _ _ => sc
  | _ => { kind := .function, names := [], isGenerator := false, isCoroutine := false }

/-! ### no exception leaves a def -/
abbrev CX0 : CXT := fun _ _ _ _ _ _ => False
abbrev E0 : XK := fun _ _ _ => False
theorem pass0 {X : Cx} : Passes CX0 X E0 := fun _ _ _ _ _ _ _ h => h.elim

/-! ### a def (or method) of the text as it stands behind the top -/
structure Fun (K : PySem.W.Frag) (x qual : Str) (st : Stmt) (f : Addr) (fd : FuncData) : Prop where
  ex : ∃ (oc : Value) (od : Option Addr) (kV doc pm : Value) (an : Option Addr) (cdv ct : Value) (osl : Array (Option Value)),
    fd = PySem.W.fnOf x qual (defArgs st) (defBody st) (defScope st) .none kV doc pm an cdv ct ∧ K.lookup f = some ⟨oc, od, .func fd, osl⟩ ∧ PySem.W.codeIn K cdv qual = true
  kp : PySem.W.keepIn K (.ref f) = true
section
variable {P : Program} {w : World} {K : PySem.W.Frag} {mg : Str → Option Value} {base : Heap}
/-- THE RULE for a def: its body as a term of rules, and the reading of that term -/
theorem Fun.ok {x qual : Str} {st : Stmt} {f : Addr} {fd : FuncData} {N ps : List Str} {k : Nat} {sp : Sp} (F : Fun K x qual st f fd) (S : FnScope N ps (defScope st)) (len : ∀ vs H Q E, sp vs H Q E → vs.length = ps.length)
    (hbody : ∀ (cdv : Value) (A : Around) (outer : List Env) (s : Shared) (H : Hp) (vs : List V) (Q : VK) (E : XK), Room k (A.deeper (envOfC qual (defScope st) s.heap.objs.size f cdv)) → sp vs H Q E →
      ∃ t, PSs (cxOf CX0 P w K mg base N qual (defScope st) f cdv A outer s H E).nox (defBody st) t ∧ t { nx := fun _ H' => Q .non H', rt := Q } (start N vs) H) : FnOk P w K mg base CX0 (k + 1) f fd ps sp := by
  obtain ⟨oc, od, kV, doc, pm, an, cdv, ct, osl, rfl, lk, hcd⟩ := F.ex
  refine fn_of lk hcd S len fun A outer s H vs Q E hr hsp => ?_
  obtain ⟨t, h, q⟩ := hbody cdv A outer s H vs Q E hr hsp
  exact ⟨t, h.nox, q⟩
/-- how its arguments bind (no defaults): h is «fun _ _ _ _ _ _ us hl => match us, hl with | [_, _], _ => rfl», one _ a parameter -/
theorem Fun.binds {x qual : Str} {st : Stmt} {f : Addr} {fd : FuncData} {ps : List Str} (F : Fun K x qual st f fd)
    (h : ∀ (kV doc pm : Value) (an : Option Addr) (cdv ct : Value) (us : List Value), us.length = ps.length → bindArgs (PySem.W.fnOf x qual (defArgs st) (defBody st) (defScope st) .none kV doc pm an cdv ct) ⟨us, []⟩ = pure (ps.zip us)) : Binds K fd ps [] := by
  obtain ⟨oc, od, kV, doc, pm, an, cdv, ct, osl, rfl, lk, hcd⟩ := F.ex
  exact .all (h kV doc pm an cdv ct)
theorem fun_mk {x qual : Str} {st : Stmt} {f : Addr} {oc : Value} {od an : Option Addr} {osl : Array (Option Value)} {kV doc pm cdv ct : Value} (l : K.lookup f = some ⟨oc, od, .func (PySem.W.fnOf x qual (defArgs st) (defBody st) (defScope st) .none kV doc pm an cdv ct), osl⟩)
    (c : PySem.W.codeIn K cdv qual = true) (k : PySem.W.keepIn K (.ref f) = true) : Fun K x qual st f (PySem.W.fnOf x qual (defArgs st) (defBody st) (defScope st) .none kV doc pm an cdv ct) := ⟨⟨oc, od, kV, doc, pm, an, cdv, ct, osl, rfl, l, c⟩, k⟩
end
theorem small1000 {n : Nat} (h : n ≤ 1000) : n < sizeLine := Nat.lt_of_le_of_lt h (by decide)

/-! ### expressions in short: the name that stands in the i-th slot -/
section
variable {X : Cx}
theorem pv (i : Nat) {x : Str} {pos : Pos} (hN : X.N[i]? = some x := by rfl) (hv : Vis X.env.scope x := by first | exact Or.inl rfl | exact Or.inr (Or.inl rfl) | exact Or.inr (Or.inr rfl)) (hd : (x == ("__debug__" : Str)) = false := by decide)
    (hcd : (x == ("__classdict__" : Str)) = false := by decide) : PE X (.Name x pos) (tVar i) := pe_var hN hv hd hcd
end

/-! ### tests -/
theorem iteF {A B : Prop} (h : B) : if false = true then A else B := by
  rw [if_neg Bool.false_ne_true]
  exact h
theorem iteT {A B : Prop} (h : A) : if true = true then A else B := by
  rw [if_pos rfl]
  exact h
theorem ite2 {c A B : Prop} [Decidable c] (h1 : c → A) (h2 : ¬ c → B) : if c then A else B := by
  by_cases h : c
  · rw [if_pos h]
    exact h1 h
  · rw [if_neg h]
    exact h2 h
/-! ### heaps -/
/-- all that was tracked is as it was -/
def Same (H H' : Hp) : Prop := ∀ b o, H b = some o → H' b = some o
theorem Same.refl (H : Hp) : Same H H := fun _ _ h => h
theorem Same.trans {H H1 H2 : Hp} (a : Same H H1) (b : Same H1 H2) : Same H H2 := fun c o h => b c o (a c o h)
theorem Same.free {H H' : Hp} (e : Same H H') {l : Addr} (h : H' l = Option.none) : H l = Option.none := by
  cases q : H l with
  | none => rfl
  | some o =>
    rw [e l o q] at h
    cases h
theorem Same.seq {K : PySem.W.Frag} {H H' : Hp} {a : Addr} {xs : List V} (e : Same H H') (h : SqL K H a xs) : SqL K H' a xs := by
  rcases h with (h | ⟨o, h⟩) | h
  · exact .inl (.inl (e _ _ h))
  · exact .inl (.inr ⟨o, e _ _ h⟩)
  · exact .inr h

end L2

set_option Elab.async false
set_option linter.all false
set_option maxRecDepth 100000
/-! The layer, grown: comprehensions, pairs, more iterators, more calls. -/
namespace L2
open PySem PySem.Spec PyProof.Rows

/-! ### untracked records turn; an object that stands there is tracked from now on -/
section
variable {X : Cx} {pins : List (Addr × Obj)} {σ : St} {H H' : Hp} {s : Shared} {h' : Heap}
theorem Inv.turnedL {t' : Nat} {ch : List Addr} (I : Inv X pins σ H s) (k : ∀ b o, b ∉ ch → s.heap.get? b = some o → h'.get? b = some o) (hf : ∀ b ∈ ch, FpOk X pins H b) :
    Inv X pins σ H { s with heap := h', toks := t' } := by
  have nch : ∀ b u, H b = some u → b ∉ ch := fun b u e z => by
    have q := (hf b z).1
    rw [q] at e
    cases e
  refine I.step (g' := s.gens) (d' := s.drawn) (ch := ch) (fun b hb => ?_) (fun b o _ _ hc e _ => k b o hc e) (fun b o _ _ hc e _ => ⟨o.slots, k b o hc e⟩) (fun _ _ _ _ n => n)
    (fun b o hc e => ⟨o, k b o hc e⟩) (fun _ _ e => e) (fun _ _ _ e => e) (fun b ps e => ⟨#[], by rw [e]; simp⟩) (fun m hm => ?_) (fun b u e => ?_) I.bare
  · obtain ⟨_, f1, _, f3, f4, f5⟩ := hf b hb
    exact ⟨f3, f1, f4, f5⟩
  · obtain ⟨o, es, ep, ho, r⟩ := hm
    exact ⟨o, es, ep, k _ o (fun z => (hf _ z).2.1 rfl) ho, r⟩
  · refine (I.hok b u e).stay (fun c v hc q => k c v ?_ q) (fun _ q => q) fun _ _ q => q
    rcases hc with z | z
    · rw [z]
      exact nch b u e
    · exact nch c _ z
theorem Inv.track {a : Addr} {o : HO} (I : Inv X pins σ H s) (f : FpOk X pins H a) (new : ObjOk X.prog X.w (upd H a o) s.heap a o) : Inv X pins σ (upd H a o) s := by
  have hn := f.1
  obtain ⟨hh, g, d, t, os⟩ := s
  refine I.step (h' := hh) (g' := g) (d' := d) (t' := t) (ch := [a]) (fun b hb => ?_) (fun b ob _ _ _ e _ => e) (fun b ob _ _ _ e _ => ⟨ob.slots, e⟩) (fun b ob hc e n => ?_)
    (fun b ob _ e => ⟨ob, e⟩) (fun b xs e => ?_) (fun b ob u e => ?_) (fun b ps e => ⟨#[], ?_⟩) (fun m hm => hm) (fun b u e => ?_) I.bare
  · obtain rfl : b = a := by simpa using hb
    obtain ⟨_, f1, _, f3, f4, f5⟩ := f
    exact ⟨f3, f1, f4, f5⟩
  · rw [upd_ne (fun z => hc (by simp [z]))]
    exact n
  · rw [upd_ne (ne_of_none e hn)]
    exact e
  · rw [upd_ne (ne_of_none e hn)]
    exact e
  · rw [upd_ne (ne_of_none e hn), e]
    simp
  · by_cases hb : b = a
    · subst hb
      rw [upd_same] at e
      cases e
      exact new
    · rw [upd_ne hb] at e
      exact (I.hok b u e).stay (fun c v _ q => q) (fun c q => by rw [upd_ne (ne_of_none q hn)]; exact q) fun c xs q => by rw [upd_ne (ne_of_none q hn)]; exact q
end

/-! ### captured names -/
def isCap : Option NameKind → Bool
  | some .cell => true
  | some .free => true
  | _ => false
def capB (N : List Str) (osc rsc : Scope) (js : List Nat) : Bool := js.all fun j => match N[j]? with
  | some x => isCap (osc.names.lookup x) && isCap (rsc.names.lookup x)
  | none => false
def selN (own : List Str) (js : List Nat) (N : List Str) : List Str := own ++ js.filterMap fun j => N[j]?
def selS (k : Nat) (js : List Nat) (σ : St) : St := List.replicate k none ++ js.map fun j => (σ[j]?).join
theorem isCap_or {o : Option NameKind} (h : isCap o = true) : o = some .cell ∨ o = some .free := by
  cases o with
  | none => exact absurd h Bool.false_ne_true
  | some k => cases k <;> first | exact .inl rfl | exact .inr rfl | exact absurd h Bool.false_ne_true
theorem capB_cons {N : List Str} {osc rsc : Scope} {j : Nat} {js : List Nat} (h : capB N osc rsc (j :: js) = true) :
    (∃ x, N[j]? = some x ∧ isCap (osc.names.lookup x) = true ∧ isCap (rsc.names.lookup x) = true) ∧ capB N osc rsc js = true := by
  unfold capB at h
  rw [List.all_cons, Bool.and_eq_true] at h
  refine ⟨?_, h.2⟩
  have h1 := h.1
  cases e : N[j]? with
  | none => rw [e] at h1; exact absurd h1 Bool.false_ne_true
  | some x =>
    rw [e] at h1
    have h2 := (Bool.and_eq_true _ _).mp h1
    exact ⟨x, rfl, h2.1, h2.2⟩
theorem capB_len {N : List Str} {osc rsc : Scope} : ∀ {js : List Nat}, capB N osc rsc js = true → (js.filterMap fun j => N[j]?).length = js.length
  | [], _ => rfl
  | j :: js, h => by
    obtain ⟨⟨x, e, _⟩, h2⟩ := capB_cons h
    rw [List.filterMap_cons, e]
    show (js.filterMap fun j => N[j]?).length + 1 = js.length + 1
    rw [capB_len h2]
theorem capB_at {N : List Str} {osc rsc : Scope} : ∀ {js : List Nat} {i : Nat} {x : Str}, capB N osc rsc js = true → (js.filterMap fun j => N[j]?)[i]? = some x →
    ∃ j, js[i]? = some j ∧ N[j]? = some x ∧ isCap (osc.names.lookup x) = true ∧ isCap (rsc.names.lookup x) = true
  | [], _, _, _, h => by simp at h
  | j :: js, i, x, h, hi => by
    obtain ⟨⟨y, e, c1, c2⟩, h2⟩ := capB_cons h
    rw [List.filterMap_cons, e] at hi
    cases i with
    | zero =>
      have z : y = x := by simpa using hi
      subst z
      exact ⟨j, rfl, e, c1, c2⟩
    | succ i =>
      have hi' : (js.filterMap fun j => N[j]?)[i]? = some x := by simpa using hi
      obtain ⟨j', e1, e2⟩ := capB_at (i := i) h2 hi'
      exact ⟨j', by simpa using e1, e2⟩
theorem selS_own {k : Nat} {js : List Nat} {σ : St} {i : Nat} (h : i < k) : (selS k js σ)[i]? = some none := by
  unfold selS
  rw [List.getElem?_append_left (by simpa using h), List.getElem?_replicate, if_pos h]
theorem selS_cap {k : Nat} {js : List Nat} {σ : St} {i : Nat} {v : V} (h : (selS k js σ)[i]? = some (some v)) : ∃ j, k ≤ i ∧ js[i - k]? = some j ∧ σ[j]? = some (some v) := by
  by_cases hi : i < k
  · rw [selS_own hi] at h
    cases h
  · unfold selS at h
    rw [List.getElem?_append_right (by simpa using hi), List.length_replicate, List.getElem?_map] at h
    cases e : js[i - k]? with
    | none => rw [e] at h; cases h
    | some j =>
      rw [e] at h
      refine ⟨j, by omega, rfl, ?_⟩
      have h2 : (σ[j]?).join = some v := by simpa using h
      cases e2 : σ[j]? with
      | none => rw [e2] at h2; cases h2
      | some o =>
        rw [e2] at h2
        have h3 : o = some v := by simpa using h2
        rw [h3]
theorem selS_len {k : Nat} {js : List Nat} {σ : St} : (selS k js σ).length = k + js.length := by
  unfold selS
  rw [List.length_append, List.length_replicate, List.length_map]

/-- the cells that a comprehension's block takes along -/
theorem closure_go (env : Env) : ∀ (names : List (Str × NameKind)) (cs : List (Str × Addr)), (∀ x, (x, NameKind.free) ∈ names → ∃ c, env.cells.lookup x = some c) →
    (∀ x c, cs.lookup x = some c → env.cells.lookup x = some c) →
    ∃ cl, (forIn names cs (fun (p : Str × NameKind) (r : List (Str × Addr)) => match p with
      | (name, kind) => if (kind == NameKind.free) = true then (do let a ← cellOf env name; pure (ForInStep.yield ((name, a) :: r))) else pure (ForInStep.yield r)) : Sem (List (Str × Addr))) = pure cl ∧
      (∀ x c, cl.lookup x = some c → env.cells.lookup x = some c) ∧ (∀ x, (x, NameKind.free) ∈ names → ∃ c, cl.lookup x = some c) ∧ ∀ x, (∃ c, cs.lookup x = some c) → ∃ c, cl.lookup x = some c
  | [], cs, _, hc => ⟨cs, by simp only [List.forIn_nil], hc, (fun _ h => (nomatch h)), fun _ h => h⟩
  | (n, k) :: r, cs, h, hc => by
    by_cases hk : k = NameKind.free
    · subst hk
      obtain ⟨c, e⟩ := h n List.mem_cons_self
      have hc' : ∀ x d, ((n, c) :: cs).lookup x = some d → env.cells.lookup x = some d := fun x d q => by
        rw [List.lookup_cons] at q
        cases z : x == n with
        | true =>
          rw [z] at q
          have q' : c = d := by simpa using q
          have zx : x = n := by simpa using z
          rw [zx, e, q']
        | false =>
          rw [z] at q
          exact hc x d (by simpa using q)
      obtain ⟨cl, h1, h2, h3, h4⟩ := closure_go env r ((n, c) :: cs) (fun x hx => h x (List.mem_cons_of_mem _ hx)) hc'
      have head : ∃ d, ((n, c) :: cs).lookup n = some d := ⟨c, by simp [List.lookup_cons]⟩
      refine ⟨cl, ?_, h2, fun x hx => ?_, fun x ⟨d, hd⟩ => h4 x ?_⟩
      · rw [List.forIn_cons]
        have ec : cellOf env n = pure c := by unfold cellOf; rw [e]
        simp only [beq_self_eq_true, if_true, ec, pure_bind]
        exact h1
      · rcases List.mem_cons.mp hx with z | z
        · obtain ⟨rfl, _⟩ := Prod.mk.inj z
          exact h4 _ head
        · exact h3 x z
      · rw [List.lookup_cons]
        cases z : x == n with
        | true => exact ⟨c, rfl⟩
        | false => exact ⟨d, hd⟩
    · have hb : (k == NameKind.free) = false := by simpa using hk
      obtain ⟨cl, h1, h2, h3, h4⟩ := closure_go env r cs (fun x hx => h x (List.mem_cons_of_mem _ hx)) hc
      refine ⟨cl, ?_, h2, fun x hx => ?_, h4⟩
      · rw [List.forIn_cons]
        simp only [hb, Bool.false_eq_true, if_false, pure_bind]
        exact h1
      · rcases List.mem_cons.mp hx with z | z
        · exact absurd (Prod.mk.inj z).2.symm hk
        · exact h3 x z
theorem closure_of {env : Env} {scope : Scope} (h : ∀ x, (x, NameKind.free) ∈ scope.names → ∃ c, env.cells.lookup x = some c) :
    ∃ cl, closureFor scope env = pure cl ∧ (∀ x c, cl.lookup x = some c → env.cells.lookup x = some c) ∧ ∀ x, (x, NameKind.free) ∈ scope.names → ∃ c, cl.lookup x = some c := by
  obtain ⟨cl, h1, h2, h3, _⟩ := closure_go env scope.names [] h (fun x c q => by simp at q)
  refine ⟨cl, ?_, h2, h3⟩
  unfold closureFor
  first
    | exact h1
    | (simp only [bind_pure]; exact h1)
    | (simp only [bind_pure_comp, map_pure, id_map']; exact h1)
    | (rw [← h1]; rfl)
end L2

set_option Elab.async false
set_option linter.all false
set_option maxRecDepth 100000
namespace L2
open PySem PySem.Spec PyProof.Rows

/-! ### the block of a comprehension as a context -/
abbrev cxC (X : Cx) (own : List Str) (js : List Nat) (scope : Scope) (cl : List (Str × Addr)) (C : Addr) (s₂ : Shared) (H₂ : Hp) (fp : List Addr) : Cx :=
  { X with N := selN own js X.N, s₀ := s₂, H₀ := H₂, env := compEnvC scope cl C X.env, outer := X.stack, stack := X.stack, ex := fp, fn := fun _ => false, pn := [], xe := fun _ _ => False }

theorem relabel_lookup {env : Env} {x : Str} {scope : Scope} (hc : ∀ y ∈ scope.names, y.2 ≠ .cell) (h : (relabel scope env).names.lookup x = some .cell ∨ (relabel scope env).names.lookup x = some .free) : (x, NameKind.free) ∈ scope.names := by
  have key : ∀ k, (relabel scope env).names.lookup x = some k → k = .cell ∨ k = .free → (x, NameKind.free) ∈ scope.names := fun k e hk => by
    have hm : (x, k) ∈ scope.names.map fun (n, k) => if (k == .free && env.scope.kind == .function && env.kindOf n == some .cell) then (n, .cell) else (n, k) := PySem.mem_of_lookup e
    obtain ⟨⟨n, k'⟩, hp, hq⟩ := List.mem_map.mp hm
    by_cases hz : (k' == NameKind.free && env.scope.kind == .function && env.kindOf n == some .cell) = true
    · have hkf : k' = .free := by
        have := (Bool.and_eq_true _ _).mp ((Bool.and_eq_true _ _).mp hz).1
        simpa using this.1
      have q : (n, NameKind.cell) = (x, k) := by
        have hq' : (if (k' == NameKind.free && env.scope.kind == .function && env.kindOf n == some .cell) = true then (n, NameKind.cell) else (n, k')) = (x, k) := hq
        rw [if_pos hz] at hq'
        exact hq'
      obtain ⟨rfl, _⟩ := Prod.mk.inj q
      rw [hkf] at hp
      exact hp
    · have q : (n, k') = (x, k) := by
        have hq' : (if (k' == NameKind.free && env.scope.kind == .function && env.kindOf n == some .cell) = true then (n, NameKind.cell) else (n, k')) = (x, k) := hq
        rw [if_neg hz] at hq'
        exact hq'
      obtain ⟨rfl, rfl⟩ := Prod.mk.inj q
      rcases hk with rfl | rfl
      · exact absurd rfl (hc _ hp)
      · exact hp
  rcases h with h | h
  · exact key _ h (.inl rfl)
  · exact key _ h (.inr rfl)

section
variable {X : Cx} {pins : List (Addr × Obj)} {σ : St} {H : Hp} {s2 s5 : Shared} {own : List Str} {js : List Nat} {scope : Scope} {cl : List (Str × Addr)} {C D : Addr} {fp : List Addr} {oD : Obj}
theorem inv_comp (I : Inv X pins σ H s2) (hcap : capB X.N X.env.scope (relabel scope X.env) js = true) (hkind : scope.kind = .function)
    (hclL : ∀ x c, cl.lookup x = some c → X.env.cells.lookup x = some c)
    (hclR : ∀ x, ((relabel scope X.env).names.lookup x = some .cell ∨ (relabel scope X.env).names.lookup x = some .free) → ∃ c, cl.lookup x = some c)
    (hfp : ∀ b ∈ fp, FpOk X pins H b) (hfo : ∀ b ∈ fp, ∃ o, s2.heap.get? b = some o) (hC : s2.heap.objs.size ≤ C) (hk : ∀ b o, s2.heap.get? b = some o → s5.heap.get? b = some o)
    (hns : ∃ m, s5.heap.Ns C m) (hos : s5.os = s2.os) (hg : s5.gens = s2.gens) (hD : s5.heap.get? D = some oD) (hDs : s2.heap.objs.size ≤ D) (hDC : D ≠ C) (hDd : ∀ v, oD.data ≠ .cell v) :
    Inv (cxC X own js scope cl C s2 H fp) [(D, oD)] (selS own.length js σ) H s5 := by
  have lt2 : ∀ {b : Addr} {o : Obj}, s2.heap.get? b = some o → b < s2.heap.objs.size := fun e => Heap.lt_size e
  have hfs : ∀ b ∈ fp, b ∉ frs X.stack := fun b hb z => by
    obtain ⟨_, f1, f2, _⟩ := hfp b hb
    rcases List.mem_cons.mp (I.stkSub b z) with q | q
    · exact f1 q
    · exact f2 q
  have ok : (cxC X own js scope cl C s2 H fp).Ok := by
    refine ⟨I.ok.mod, hkind, I.ok.glob, I.ok.blt, hC, fun x y c h1 h2 => I.ok.inj x y c (hclL x c h1) (hclL y c h2), fun x hx => hclR x hx, fun x c hf _ => absurd (show false = true from hf) Bool.false_ne_true, I.ok.hd, I.ok.frames, .inl rfl,
      fun b hb => ⟨?_, fun x c e => ?_⟩, I.bs, Nat.le_trans I.ok.bsz I.sz, fun b o e hb => ?_, hfs, I.stack, I.stkFree⟩
    · obtain ⟨o, e⟩ := hfo b hb
      exact Nat.ne_of_lt (Nat.lt_of_lt_of_le (lt2 e) hC)
    · exact (hfp b hb).2.2.2.2.1 x c (hclL x c e)
    · rcases (hfp b hb).2.2.2.1 with q | q
      · exact I.ok.noex b o e q
      · exact absurd (Nat.lt_of_lt_of_le (Heap.lt_size e) (Nat.le_trans I.ok.bsz q)) (Nat.lt_irrefl _)
  have hlen : (js.filterMap fun j => X.N[j]?).length = js.length := capB_len hcap
  refine ⟨ok, hos, by rw [hg]; exact I.bare, Un.kept hk, ?_, fun x c e => ?_, I.hok.fresh hC, fun x c e => I.freeC x c (hclL x c e), fun p hp => ?_, I.hok.kept hk, ?_⟩
  · obtain ⟨m, hm⟩ := hns
    refine ⟨m, hm, fun i x v h1 h2 h3 => ?_⟩
    obtain ⟨j, hik, hj, hv⟩ := selS_cap h2
    have h1' : (js.filterMap fun j => X.N[j]?)[i - own.length]? = some x := by
      have q : (own ++ js.filterMap fun j => X.N[j]?)[i]? = some x := h1
      rw [List.getElem?_append_right hik] at q
      exact q
    obtain ⟨j', e1, e2, c1, c2⟩ := capB_at hcap h1'
    rw [hj] at e1
    cases e1
    obtain ⟨m0, hm0, hl⟩ := I.loc
    have vis : Vis X.env.scope x := by
      rcases isCap_or c1 with q | q
      · exact .inr (.inl q)
      · exact .inr (.inr q)
    obtain ⟨u, ru, l⟩ := hl j x v e2 hv vis
    refine ⟨u, ru, ?_⟩
    rcases l with ⟨hloc, _⟩ | ⟨_, c, hc, hcell⟩
    · have q : X.env.scope.names.lookup x = some .local := hloc
      rw [q] at c1
      exact absurd c1 Bool.false_ne_true
    · have kd : (relabel scope X.env).names.lookup x = some .cell ∨ (relabel scope X.env).names.lookup x = some .free := isCap_or c2
      obtain ⟨c', hc'⟩ := hclR x kd
      have e := hclL x c' hc'
      rw [hc] at e
      cases e
      obtain ⟨o, ho, hd⟩ := hcell
      exact .inr ⟨kd, c, hc', o, hk c o ho, hd⟩
  · obtain ⟨v, o, ho, hd⟩ := I.cell x c (hclL x c e)
    exact ⟨v, o, hk c o ho, hd⟩
  · have e : p = (D, oD) := by simpa using hp
    subst e
    refine ⟨hD, I.hok.fresh hDs, hDC, fun z => ?_, hDd⟩
    obtain ⟨_, o, ho, _⟩ := I.stack.mem z
    exact absurd (Nat.lt_of_lt_of_le (lt2 ho) hDs) (Nat.lt_irrefl _)
  · show (selS own.length js σ).length = (own ++ js.filterMap fun j => X.N[j]?).length
    rw [selS_len, List.length_append, hlen]
end

/-- a target leaves the captured slots -/
def GKeep (k : Nat) (g : TG) : Prop := ∀ (x : V) (σ0 : St) (H : Hp) (Q : St → Hp → Prop), g x σ0 H Q →
  g x σ0 H (fun σ2 H2 => (σ2.length = σ0.length ∧ ∀ (i : Nat) (v : V), k ≤ i → σ0[i]? = some (some v) → σ2[i]? = some (some v)) ∧ Q σ2 H2)
theorem gk_name {k i : Nat} (h : i < k) : GKeep k (gName i) := fun x σ0 H Q q =>
  ⟨⟨List.length_set, fun j v hj e => by rw [List.getElem?_set_ne (by omega)]; exact e⟩, q⟩
theorem gk_pair {K : PySem.W.Frag} {k i j : Nat} (hi : i < k) (hj : j < k) : GKeep k (gTup K 2 (gCons (gName i) (gCons (gName j) gNil))) := fun x σ0 H Q q => by
  obtain ⟨a, xs, e1, hq, hl, v, r, e2, v2, r2, e3, e4, q⟩ := q
  refine ⟨a, xs, e1, hq, hl, v, r, e2, v2, r2, e3, e4, ⟨by rw [List.length_set, List.length_set], fun m w hm e => ?_⟩, q⟩
  rw [List.getElem?_set_ne (by omega), List.getElem?_set_ne (by omega)]
  exact e

/-- the reading of [elt for target in iter] -/
def CompR (J : It) (σ0 : St) (g : TG) (te : TE) (H1 : Hp) (R : List V → Hp → Prop) : Prop :=
  ∃ (n : Nat) (W : Nat → List V → Hp → Prop), n ≤ sizeLine ∧ W 0 [] H1 ∧
    (∀ i ys H, i < n → ys.length = i → W i ys H → J.go i H ∧ ∀ x H', J.yld i H x H' → g x σ0 H' fun σ2 H2 => te σ2 H2 fun y H3 => W (i + 1) (ys ++ [y]) H3) ∧
    ∀ ys H, ys.length = n → W n ys H → J.stop n H ∧ R ys H
def tComp (wi : TI) (k : Nat) (js : List Nat) (g : TG) (te : TE) : TE := fun σ H Q => wi σ H fun J H1 =>
  CompR J (selS k js σ) g te H1 fun ys H2 => ∀ p, H2 p = none → Q (.ref p) (upd H2 p (.lst ys))

theorem app_plain {prog : Program} {w : World} {A : Around} {E : Value → Shared → Prop} {s : Shared} {l : Addr} {its : List Value} {n : Nat} {u : Value} {Q : Value → Shared → Prop}
    (e : s.heap.get? l = some { cls := .type "list", data := .seq its.toArray n }) (hz : its.length ≤ sizeLine)
    (h : ∀ h' n', h'.get? l = some { cls := .type "list", data := .seq (its ++ [u]).toArray n' } → (∀ b o, b ≠ l → s.heap.get? b = some o → h'.get? b = some o) → Q .none { s with heap := h' }) :
    wpAny (model prog w) A (call (.builtin "list.append") [.ref l, u]) Q E s := by
  refine call_meets F.slot_list_append ⟨_, e, rfl⟩ F.entry_list_append (F.args_list_append_2 _ _) (PySem.list_append l its.toArray n u (by rw [List.size_toArray]; omega)) ⟨e, ?_⟩
  have q := PySem.IsL.update e (·.push u)
  have q2 : its.toArray.push u = (its ++ [u]).toArray := by simp
  rw [q2] at q
  exact h _ _ q fun b o hb hu => (Heap.get?_update_other s.heap (Obj.mapSeq (·.push u)) (Ne.symm hb)).trans hu

section
variable {X : Cx} {own : List Str} {js : List Nat} {scope : Scope} {elt tg iter : Expr} {g : TG} {te : TE} {pos : Pos}
/-- the block runs: a new list, a new frame, the turns -/
theorem comp_run {pins : List (Addr × Obj)} {σ : St} {H1 : Hp} {s2 : Shared} {it : Addr} {fp : List Addr} {tn : Nat → Heap → Prop} {J : It} {cl : List (Str × Addr)} {R : List V → Hp → Prop} {RR : Value → Addr → Result → Shared → Prop}
    {E : Value → Shared → Prop} (hc : X.calm = true) (I : Inv X pins σ H1 s2) (T : Turn X.prog X.w X.K tg J fp it tn) (st : tn 0 s2.heap) (hfp : ∀ b ∈ fp, FpOk X pins H1 b)
    (hcap : capB X.N X.env.scope (relabel scope X.env) js = true) (hkind : scope.kind = .function) (hcell : ∀ y ∈ scope.names, y.2 ≠ .cell)
    (hclL : ∀ x c, cl.lookup x = some c → X.env.cells.lookup x = some c)
    (hclR : ∀ x, (x, NameKind.free) ∈ scope.names → ∃ c, cl.lookup x = some c)
    (hg : ∀ C s₂ H₂ fp, PG (cxC X own js scope cl C s₂ H₂ fp) tg g) (hgk : GKeep own.length g) (he : ∀ C s₂ H₂ fp, PE (cxC X own js scope cl C s₂ H₂ fp) elt te)
    (hR : CompR J (selS own.length js σ) g te H1 R)
    (hRR : ∀ D C ys H' s' m, Inv X pins σ (upd H' D (.lst ys)) s' → FpOk X pins (upd H' D (.lst ys)) C → s'.heap.Ns C m → H' D = none → R ys H' → RR (.ref D) C (.ok .next) s') :
    wpAny (model X.prog X.w) X.A (newList []) (fun acc s₃ => wpAny (model X.prog X.w) X.A (newFunctionEnv scope X.env.globals cl [] X.env.qual none .none (some X.env)) (fun cenv s₄ =>
      codeAny (model X.prog X.w) X.A (.compStart (.ListComp elt [⟨tg, iter, [], 0⟩] scope pos) 0 (.ref it) acc { cenv with scope := relabel scope X.env }) (RR acc cenv.locals) s₄) E s₃) E s2 := by
  obtain ⟨n, W, hz, w0, turn, fin⟩ := hR
  refine wpAny_newObj_type (wpAny_newFunctionEnv hcell (by intro y hy; simp at hy) (fun h₁ hns₁ hsb₁ => ?_) hkind)
  dsimp only at hns₁ hsb₁ ⊢
  generalize hH2 : s2.heap.push { cls := .type "list", dict := none, data := .seq ([] : List Value).toArray } = G2 at hns₁ hsb₁ ⊢
  have hC : G2.objs.size = s2.heap.objs.size + 1 := by rw [← hH2, Heap.size_push]
  have hDC : s2.heap.objs.size ≠ G2.objs.size := by rw [hC]; exact Nat.ne_of_lt (Nat.lt_succ_self _)
  have hCle : s2.heap.objs.size ≤ G2.objs.size := by rw [hC]; exact Nat.le_succ _
  have old : ∀ b o, s2.heap.get? b = some o → h₁.get? b = some o := fun b o e =>
    hsb₁.extBut b o (by rw [hC]; exact Nat.ne_of_lt (Nat.lt_succ_of_lt (Heap.lt_size e))) (Heap.get?_push_of_some _ (hH2 ▸ Heap.get?_push_of_some _ e))
  have hacc : h₁.get? s2.heap.objs.size = some { cls := .type "list", dict := none, data := .seq ([] : List Value).toArray } := hsb₁.extBut _ _ hDC (Heap.get?_push_of_some _ (hH2 ▸ Heap.get?_push_size _ rfl))
  have hrel : ∀ x, ((relabel scope X.env).names.lookup x = some .cell ∨ (relabel scope X.env).names.lookup x = some .free) → ∃ c, cl.lookup x = some c := fun x h => hclR x (relabel_lookup hcell h)
  have I0 : Inv (cxC X own js scope cl G2.objs.size s2 H1 fp) [(s2.heap.objs.size, { cls := .type "list", dict := none, data := .seq ([] : List Value).toArray })] (selS own.length js σ) H1
      { s2 with heap := h₁, toks := s2.toks + ([] : List (Str × Value)).length } :=
    inv_comp (s5 := { s2 with heap := h₁, toks := s2.toks + ([] : List (Str × Value)).length }) I hcap hkind hclL hrel hfp (fun b hb => let ⟨o, e, _⟩ := T.obj 0 _ st b hb; ⟨o, e⟩) hCle old ⟨_, hns₁⟩ rfl rfl hacc (Nat.le_refl _) hDC
      (fun v z => by cases (show Data.seq _ _ = Data.cell v from z))
  generalize hXe : cxC X own js scope cl G2.objs.size s2 H1 fp = X' at I0
  have hXP : X'.prog = X.prog := by rw [← hXe]
  have hXw : X'.w = X.w := by rw [← hXe]
  have hXK : X'.K = X.K := by rw [← hXe]
  have hXA : X'.A = X.A := by rw [← hXe]
  have hXc : X'.calm = true := by rw [← hXe]; exact hc
  have hXenv : X'.env = compEnvC scope cl G2.objs.size X.env := by rw [← hXe]
  have hXs : X'.s₀ = s2 := by rw [← hXe]
  have hXex : X'.ex = fp := by rw [← hXe]
  have hXfs : X'.fs = frs X.stack := by rw [← hXe]
  have hXpn : X'.pn = [] := by rw [← hXe]
  have hXe0 : X'.xe = fun _ _ => False := by rw [← hXe]
  have hXcl : X'.env.cells = cl := by rw [hXenv]; rfl
  have hXl : X'.env.locals = G2.objs.size := by rw [hXenv]; rfl
  have ltD : ∀ b ∈ fp, b ≠ s2.heap.objs.size := fun b hb => let ⟨o, e, _⟩ := T.obj 0 _ st b hb; Nat.ne_of_lt (Heap.lt_size e)
  -- what stays true of the iterator's records in the block
  have fpX : ∀ {pl : List (Addr × Obj)} {H' : Hp}, (∀ p ∈ pl, p.1 = s2.heap.objs.size) → (∀ b ∈ fp, H' b = none) → ∀ b ∈ fp, FpOk X' pl H' b := fun {pl H'} hpl hn b hb => by
    refine ⟨hn b hb, ?_, ?_, .inl (by rw [hXex]; exact hb), fun x c e => ?_, fun p hp => ?_⟩
    · obtain ⟨o, e, _⟩ := T.obj 0 _ st b hb
      rw [hXl]
      exact Nat.ne_of_lt (Nat.lt_of_lt_of_le (Heap.lt_size e) hCle)
    · rw [hXfs]
      intro z
      obtain ⟨_, f1, f2, _⟩ := hfp b hb
      exact (List.mem_cons.mp (I.stkSub b z)).elim f1 f2
    · rw [hXcl] at e
      exact (hfp b hb).2.2.2.2.1 x c (hclL x c e)
    · rw [hXpn] at hp
      rw [hpl p (by simpa using hp)]
      exact (ltD b hb).symm
  have dX : ∀ {pl : List (Addr × Obj)} {H' : Hp}, (∀ p ∈ pl, p.1 ∈ fp) → H' s2.heap.objs.size = none → FpOk X' pl H' s2.heap.objs.size := fun {pl H'} hpl hn => by
    refine ⟨hn, by rw [hXl]; exact hDC, ?_, .inr (by rw [hXs]; exact Nat.le_refl _), fun x c e => ?_, fun p hp => ?_⟩
    · rw [hXfs]
      exact fun z => by
        obtain ⟨_, o, ho, _⟩ := I.stack.mem z
        exact absurd (Heap.lt_size ho) (Nat.lt_irrefl _)
    · rw [hXcl] at e
      obtain ⟨v, o, ho, _⟩ := I.cell x c (hclL x c e)
      exact Nat.ne_of_lt (Heap.lt_size ho)
    · rw [hXpn] at hp
      exact ltD p.1 (hpl p (by simpa using hp))
  let obD : List Value → Nat → Obj := fun its k => { cls := .type "list", dict := none, data := .seq its.toArray k }
  have loop : codeAny (model X.prog X.w) X.A (.compLoop (.ListComp elt [⟨tg, iter, [], 0⟩] scope pos) 0 (.ref it) (.ref s2.heap.objs.size) (compEnvC scope cl G2.objs.size X.env))
      (RR (.ref s2.heap.objs.size) G2.objs.size) { s2 with heap := h₁, toks := s2.toks + ([] : List (Str × Value)).length } := by
    refine PySem.W.kcp_loop (fun k s => ∃ i ys its c H, k = n + 1 - i ∧ i ≤ n ∧ ys.length = i ∧ Vals ys its ∧ Inv X' [(s2.heap.objs.size, obD its c)] (selS own.length js σ) H s ∧ tn i s.heap ∧ (∀ b ∈ fp, H b = none) ∧ W i ys H) ?_ (n + 1)
      ⟨0, [], [], 0, H1, rfl, Nat.zero_le _, rfl, .nil, I0, T.keep _ _ _ st (fun b _ o e => old b o e), fun b hb => (hfp b hb).1, w0⟩
    rintro k s ⟨i, ys, its, c, H, rfl, hi, hl, rv, I1, st1, fr1, w1⟩
    have pl1 : ∀ p ∈ [(s2.heap.objs.size, obD its c)], p.1 = s2.heap.objs.size := fun p hp => by rw [show p = _ by simpa using hp]
    by_cases hlt : i < n
    · obtain ⟨go, step⟩ := turn i ys H hlt hl w1
      rw [← hXA]
      refine thn (T.item X' hXP hXw hXK hXc i _ s _ H _ I1 (fpX pl1 fr1) st1 go) fun r s3 ⟨u, hr, h3⟩ => ?_
      subst hr
      refine thn h3 fun _ s4 ⟨x, H4, I4, r4, y4, st4, fr4⟩ => ?_
      have I4' := I4.pinned (fpX pl1 fr4) (T.obj _ _ st4)
      have hgX : PG X' tg g := by rw [← hXe]; exact hg _ _ _ _
      have heX : PE X' elt te := by rw [← hXe]; exact he _ _ _ _
      rw [← hXP, ← hXw, ← hXenv]
      have up : ∀ {α : Type} {t : Sem α} {Q : α → Shared → Prop} {E' : Value → Shared → Prop} {s : Shared}, wpAny (model X'.prog X'.w) X'.A t Q X'.xe s → wpAny (model X'.prog X'.w) X'.A t Q E' s := fun h =>
        wpAny_mono h (fun _ _ q => q) fun _ _ q => by rw [hXe0] at q; exact q.elim
      refine thn (up (hgX _ s4 _ H4 x u _ I4' r4 (hgk _ _ _ _ (step x H4 y4)))) fun _ s5 ⟨σ5, H5, I5, ⟨hl5, hk5⟩, q5⟩ => ?_
      refine thn (up (heX _ s5 σ5 H5 _ I5 q5)) fun y s6 ⟨yv, H6, I6, r6, q6⟩ => ?_
      have eD := I6.pin (s2.heap.objs.size, obD its c) (List.mem_append_right _ (List.mem_append_left _ (List.mem_singleton.mpr rfl)))
      have efp : ∀ b ∈ fp, ∀ o, s4.heap.get? b = some o → s6.heap.get? b = some o ∧ H6 b = none := fun b hb o e =>
        let q := I6.pin (b, o) (List.mem_append_right _ (List.mem_append_right _ (mem_pinsAt hb e)))
        ⟨q.1, q.2.1⟩
      have fr6 : ∀ b ∈ fp, H6 b = none := fun b hb => let ⟨o, e, _⟩ := T.obj _ _ st4 b hb; (efp b hb o e).2
      have st6 : tn (i + 1) s6.heap := T.keep _ _ _ st4 fun b hb o e => (efp b hb o e).1
      have hlen := rv.length
      refine app_plain (n := c) eD.1 (by omega) fun h' n' e' k' => ?_
      have I7 : Inv X' [] σ5 H6 s6 := I6.pins_of fun p hp => nomatch hp
      have I8 : Inv X' [] σ5 H6 { s6 with heap := h' } := by
        obtain ⟨f0, f1, _, f3, f4, f5⟩ := dX (pl := []) (H' := H6) (fun p hp => nomatch hp) eD.2.1
        exact I7.turned (t' := s6.toks) k' f0 f1 f3 f4 f5
      have I9 : Inv X' [(s2.heap.objs.size, obD (its ++ [y]) n')] (selS own.length js σ) H6 { s6 with heap := h' } := by
        refine (I8.weak (σ' := selS own.length js σ) hl5.symm fun j v e => ?_).pins_of fun p hp => ?_
        · obtain ⟨_, hj, _⟩ := selS_cap e
          exact hk5 j v hj e
        · have ep : p = (s2.heap.objs.size, obD (its ++ [y]) n') := by simpa using hp
          subst ep
          obtain ⟨f0, f1, f2, _⟩ := dX (pl := []) (H' := H6) (fun p hp => nomatch hp) eD.2.1
          exact ⟨e', f0, f1, f2, fun v z => by cases (show Data.seq _ _ = Data.cell v from z)⟩
      refine ⟨n + 1 - (i + 1), by omega, i + 1, ys ++ [yv], its ++ [y], n', H6, rfl, hlt, by rw [List.length_append, hl]; rfl, rv.append (.cons r6 .nil), I9, ?_, fr6, q6⟩
      exact T.keep _ _ _ st6 fun b hb o e => k' b o (ltD b hb) e
    · have hin : i = n := by omega
      subst hin
      obtain ⟨stop, q⟩ := fin ys H hl w1
      rw [← hXA]
      refine thn (T.done X' hXP hXw hXK hXc i _ s _ H _ I1 (fpX pl1 fr1) st1 stop) fun r s3 ⟨hr, I3⟩ => ?_
      subst hr
      have eD := I3.pin (s2.heap.objs.size, obD its c) (List.mem_append_right _ (List.mem_singleton.mpr rfl))
      have un : Un (frs X.stack) fp H1 H s2.heap s3.heap := by
        have b := I3.base
        rw [hXfs, hXex, hXs] at b
        rw [← hXe] at b
        exact b
      have hok : HOk X.prog X.w H s3.heap := by
        have b := I3.hok
        rw [hXP, hXw] at b
        exact b
      have os : s3.os = s2.os := by rw [I3.os, hXs]
      have IX : Inv X pins σ H s3 := I.call' (ch := fp) os un hok I3.bare fun b hb => by
        obtain ⟨_, f1, _, f3, f4, f5⟩ := hfp b hb
        exact ⟨f3, f1, f4, f5⟩
      have lens := rv.length
      have nD := eD.2.1
      have nC : H G2.objs.size = none := by
        have q := I3.free
        rw [hXl] at q
        exact q
      have fD : FpOk X pins H s2.heap.objs.size := I.fpOk (Nat.le_refl _) nD
      have I4 : Inv X pins σ (upd H s2.heap.objs.size (.lst ys)) s3 := IX.track fD ⟨by omega, its, c, rv, eD.1⟩
      have fC : FpOk X pins (upd H s2.heap.objs.size (.lst ys)) G2.objs.size := I.fpOk hCle (by rw [upd_ne (Ne.symm hDC)]; exact nC)
      obtain ⟨m, hm, _⟩ := I3.loc
      rw [hXl] at hm
      exact hRR _ _ ys H s3 m I4 fC hm nD q
  exact codeAny_compStart_list loop (T.self _ 0 _ _ _ (T.keep _ _ _ st fun b _ o e => old b o e) loop)
end

section
variable {X : Cx} {own : List Str} {js : List Nat} {scope : Scope} {elt tg iter : Expr} {g : TG} {te : TE} {pos : Pos} {wi : TI}
theorem hasFree {pins : List (Addr × Obj)} {σ : St} {H : Hp} {s : Shared} (I : Inv X pins σ H s) (hfree : (scope.names.all fun p => !(p.2 == NameKind.free) || isCap (X.env.scope.names.lookup p.1)) = true) :
    ∀ x, (x, NameKind.free) ∈ scope.names → ∃ c, X.env.cells.lookup x = some c := fun x hx => by
  have q := List.all_eq_true.mp hfree (x, .free) hx
  have q2 : isCap (X.env.scope.names.lookup x) = true := by simpa using q
  exact I.ok.has x (isCap_or q2)
/-- [elt for target in iter] as a value -/
theorem pe_comp (own : List Str) (js : List Nat) (hc : X.calm = true) (hi : PI X tg iter wi) (hg : ∀ cl C s₂ H₂ fp, PG (cxC X own js scope cl C s₂ H₂ fp) tg g) (hgk : GKeep own.length g) (he : ∀ cl C s₂ H₂ fp, PE (cxC X own js scope cl C s₂ H₂ fp) elt te)
    (hcap : capB X.N X.env.scope (relabel scope X.env) js = true := by kernel_rfl) (hfree : (scope.names.all fun p => !(p.2 == NameKind.free) || isCap (X.env.scope.names.lookup p.1)) = true := by kernel_rfl)
    (hkind : scope.kind = .function := by rfl) (hcell : ∀ y ∈ scope.names, y.2 ≠ .cell := by decide +kernel) (hnames : ∀ x ∈ scope.names, x.2 = .local → scope.names.lookup x.1 = some .local := by decide +kernel)
    (hs : ∀ x, foldedSetIterable iter X.env x = pure x := by intro _; rfl) :
    PE X (.ListComp elt [⟨tg, iter, [], 0⟩] scope pos) (tComp wi own.length js g te) := by
  intro pins s σ H Q I h
  obtain ⟨cl, h1, h2, h3⟩ := closure_of (env := X.env) (scope := scope) (hasFree I hfree)
  rw [eval_ListComp]
  refine wpAny_comprehension_free (use := none) rfl hs h1 hkind hnames (thn (hi pins s σ H _ I h) fun v s1 q1 => thn q1 fun itv s2 q2 => ?_)
  obtain ⟨it, fp, tn, J, H1, rfl, I2, T, st, hfp, hR⟩ := q2
  refine comp_run (own := own) (js := js) (RR := fun acc C => compPost (model X.prog X.w) X.A X.xe none (EP X pins σ Q) acc C) hc I2 T st hfp hcap hkind hcell h2 h3 (hg cl) hgk (he cl) hR ?_
  intro D C ys H' s' m I' fC hm hD q
  obtain ⟨f0, f1, _, f3, f4, f5⟩ := fC
  exact ⟨m, hm, fun h' hs' => ⟨.ref D, _, I'.turned (t' := s'.toks) (fun b o hb e => hs'.extBut b o hb e) f0 f1 f3 f4 f5, rfl, q D hD⟩⟩
/-- name = [elt for target in iter], where the name is stored ahead of the block's end -/
theorem ps_setC {i : Nat} {y : Str} {py spos : Pos} (own : List Str) (js : List Nat) (hc : X.calm = true) (hN : X.N.Nodup) (hiy : X.N[i]? = some y) (hy : X.env.scope.names.lookup y = some .local)
    (hi : PI X tg iter wi) (hg : ∀ cl C s₂ H₂ fp, PG (cxC X own js scope cl C s₂ H₂ fp) tg g) (hgk : GKeep own.length g) (he : ∀ cl C s₂ H₂ fp, PE (cxC X own js scope cl C s₂ H₂ fp) elt te)
    (hsw : swapsWith (.ListComp elt [⟨tg, iter, [], 0⟩] scope pos) (some (.Name y py)) spos.line X.env = pure true := by kernel_rfl)
    (hcap : capB X.N X.env.scope (relabel scope X.env) js = true := by kernel_rfl) (hfree : (scope.names.all fun p => !(p.2 == NameKind.free) || isCap (X.env.scope.names.lookup p.1)) = true := by kernel_rfl)
    (hkind : scope.kind = .function := by rfl) (hcell : ∀ y ∈ scope.names, y.2 ≠ .cell := by decide +kernel) (hnames : ∀ x ∈ scope.names, x.2 = .local → scope.names.lookup x.1 = some .local := by decide +kernel)
    (hs : ∀ x, foldedSetIterable iter X.env x = pure x := by intro _; rfl) :
    PS X (.Assign [.Name y py] (.ListComp elt [⟨tg, iter, [], 0⟩] scope pos) spos) (tAsg (tComp wi own.length js g te) (gName i)) := by
  intro pins s σ H D I h
  obtain ⟨cl, h1, h2, h3⟩ := closure_of (env := X.env) (scope := scope) (hasFree I hfree)
  rw [exec_Assign_Name_used _ _ _ _ hsw]
  refine wpAny_bind (wpAny_standAt (wpAny_bind ?_))
  show wpAny _ _ (do let _ ← comprehension (.ListComp elt [⟨tg, iter, [], 0⟩] scope pos) scope X.env _ (newList []) false (eval iter X.env) (some (assign (.Name y py) X.env))) _ _ s
  refine wpAny_bind (wpAny_mono (wpAny_comprehension_free (use := some (assign (.Name y py) X.env)) (Q := fun _ s' => SP X pins D .next s') rfl hs h1 hkind hnames
    (thn (hi pins s σ H _ I h) fun v s1 q1 => thn q1 fun itv s2 q2 => ?_)) (fun _ s' hq => wpAny_pure (wpAny_pure hq)) fun _ _ e => e)
  obtain ⟨it, fp, tn, J, H1, rfl, I2, T, st, hfp, hR⟩ := q2
  refine comp_run (own := own) (js := js) (RR := fun acc C => compPost (model X.prog X.w) X.A X.xe (some (assign (.Name y py) X.env)) (fun _ s' => SP X pins D .next s') acc C) hc I2 T st hfp hcap hkind hcell h2 h3 (hg cl) hgk (he cl) hR ?_
  intro A C ys H' s' m I' fC hm hA q
  obtain ⟨f0, f1, _, f3, f4, f5⟩ := fC
  show wpAny _ _ (assign (.Name y py) X.env (.ref A)) _ _ s'
  refine wpAny_assign_Name (store_ok2 I' hN hiy (.inl hy) (v := .ref A) rfl (fun s'' I'' hsb => ?_) (.inr hy))
  obtain ⟨a, sb, ha⟩ := hsb
  have hCa : C ≠ a := by
    rcases ha with z | z
    · rw [z]; exact f1
    · exact (f4 _ _ z).symm
  exact ⟨m, hm.sameBut sb hCa, fun h' hs' => ⟨_, _, I''.turned (t' := s''.toks) (fun b o hb e => hs'.extBut b o hb e) f0 f1 f3 f4 f5, q A hA⟩⟩
end

/-! ### the form one uses: all that is tracked stays, the i-th item is f i -/
theorem snocF {f : Nat → V} {i : Nat} {y : V} (h : y = f i) : (List.range i).map f ++ [y] = (List.range (i + 1)).map f := by
  rw [List.range_succ, List.map_append, h]
  rfl
theorem comp_by {J : It} {σ0 : St} {g : TG} {te : TE} {H1 : Hp} {R : List V → Hp → Prop} (n : Nat) (f : Nat → V) (hz : n ≤ sizeLine)
    (hgo : ∀ i H, i < n → Same H1 H → J.go i H) (hst : ∀ H, Same H1 H → J.stop n H)
    (ht : ∀ i H x H', i < n → Same H1 H → J.yld i H x H' → g x σ0 H' fun σ2 H2 => te σ2 H2 fun y H3 => (List.range i).map f ++ [y] = (List.range (i + 1)).map f ∧ Same H1 H3)
    (hR : ∀ H, Same H1 H → R ((List.range n).map f) H) : CompR J σ0 g te H1 R := by
  refine ⟨n, fun i ys H => ys = (List.range i).map f ∧ Same H1 H, hz, ⟨rfl, Same.refl _⟩, fun i ys H hi hl w => ⟨hgo i H hi w.2, fun x H' y => ?_⟩, fun ys H hl w => ⟨hst H w.2, ?_⟩⟩
  · obtain ⟨rfl, sm⟩ := w
    exact ht i H x H' hi sm y
  · obtain ⟨rfl, sm⟩ := w
    exact hR H sm
/-- over a list -/
theorem comp_list {K : PySem.W.Frag} {a : Addr} {xs : List V} {σ0 : St} {te : TE} {H1 : Hp} {R : List V → Hp → Prop} (hq : SqL K H1 a xs) (f : Nat → V) (hz : xs.length ≤ sizeLine)
    (ht : ∀ i x H, xs[i]? = some x → Same H1 H → te (σ0.set 0 (some x)) H fun y H3 => (List.range i).map f ++ [y] = (List.range (i + 1)).map f ∧ Same H1 H3)
    (hR : ∀ H, Same H1 H → R ((List.range xs.length).map f) H) : CompR (Itl K a) σ0 (gName 0) te H1 R :=
  comp_by xs.length f hz (fun i H hi sm => ⟨xs, xs[i], sm.seq hq, by simp [hi]⟩) (fun H sm => ⟨xs, sm.seq hq, Nat.le_refl _⟩) (fun i H x H' hi sm y => by
    obtain ⟨e1, e2⟩ := y
    subst e1
    exact ht i x _ (e2 xs (sm.seq hq)) sm) hR
end L2

set_option Elab.async false
set_option linter.all false
set_option maxRecDepth 100000
namespace L2
open PySem PySem.Spec PyProof.Rows

theorem same_new {H : Hp} {p : Addr} (h : H p = none) (o : HO) : Same H (upd H p o) := fun b u q => by
  rw [upd_ne (ne_of_none q h)]
  exact q
abbrev gPair (K : PySem.W.Frag) : TG := gTup K 2 (gCons (gName 0) (gCons (gName 1) gNil))
theorem pair_go {K : PySem.W.Frag} {H : Hp} {p : Addr} {a b : V} {σ : St} {Q : St → Hp → Prop} (h : H p = some (.tup [a, b])) (q : Q ((σ.set 0 (some a)).set 1 (some b)) H) : gPair K (.ref p) σ H Q :=
  ⟨p, [a, b], rfl, SqT.of h, rfl, a, [b], rfl, b, [], rfl, rfl, q⟩

section
variable {X : Cx} {pins : List (Addr × Obj)} {σ : St} {H : Hp} {s : Shared}
/-- a pair that was just laid, untracked yet -/
theorem Inv.pairAt {T : Addr} {a b : V} {u v : Value} (I : Inv X pins σ H s) (f : FpOk X pins H T) (h : s.heap.get? T = some { cls := .type "tuple", data := .seq #[u, v] }) (ra : RelV a u) (rb : RelV b v) :
    Inv X pins σ (upd H T (.tup [a, b])) s :=
  I.track f ⟨by show 2 ≤ sizeLine; decide, [u, v], .cons ra (.cons rb .nil), ⟨_, h, rfl, _, rfl⟩⟩
end

/-! ### enumerate(a list) -/
def Ite (K : PySem.W.Frag) (a : Addr) : It :=
  ⟨fun i H => ∃ xs x, SqL K H a xs ∧ xs[i]? = some x, fun i H v H' => ∃ p, H p = none ∧ v = .ref p ∧ ∀ xs x, SqL K H a xs → xs[i]? = some x → H' = upd H p (.tup [.int i, x]), fun i H => ∃ xs, SqL K H a xs ∧ xs.length ≤ i⟩
theorem turn_enum {P : Program} {w : World} {K : PySem.W.Frag} {elts : List Expr} {k : Nat} {tp : Pos} (a e it : Addr) (hne : e ≠ it) :
    Turn P w K (.Tuple elts k tp) (Ite K a) [e, it] e (fun i h => (∃ old, IsEnum h e it (i : Nat) old) ∧ h.IsListIter it a i) where
  mem := by simp
  obj := fun i h st b hb => by
    obtain ⟨⟨old, h1⟩, o, h2, _, h3⟩ := st
    rcases List.mem_cons.mp hb with q | q
    · subst q
      exact ⟨_, h1, fun v z => by cases (show Data.fields _ = Data.cell v from z)⟩
    · have q' : b = it := by simpa using q
      subst q'
      exact ⟨o, h2, fun v z => by rw [h3] at z; cases z⟩
  keep := fun i h h' st kk => by
    obtain ⟨⟨old, h1⟩, h2⟩ := st
    exact ⟨⟨old, kk e (by simp) _ h1⟩, h2.at fun o q => kk it (by simp) o q⟩
  item := by
    intro X hP hw hK hc i pins s σ H E I hf st hg
    subst hP hw hK
    obtain ⟨⟨old, h1⟩, h2⟩ := st
    obtain ⟨xs, x, hq, hx⟩ := hg
    obtain ⟨its, rv, p, hz⟩ := I.list hq
    obtain ⟨u, hu, ru⟩ := rv.get hx
    have elt : e < s.heap.objs.size := Heap.lt_size h1
    have ilt : it < s.heap.objs.size := by obtain ⟨_, q, _⟩ := h2; exact Heap.lt_size q
    refine wpAny_pyNext_enum_item h1 h2 p.isList (x := u) (by simpa using hu) hne fun h' ho hit hT hsz kk => ⟨_, rfl, ?_⟩
    have I1 : Inv X pins σ H { s with heap := h', toks := s.toks + 1 } := I.turnedL (ch := [e, it]) (fun b o hb q => kk b o (fun z => hb (by simp [z])) (fun z => hb (by simp [z])) q) hf
    refine wpAny_letOwnedTupleGo_enum ho fun h2' he' hs' => ?_
    have I2 := I1.turnedL (h' := h2') (t' := s.toks + 1) (ch := [e]) (fun b o hb q => hs'.extBut b o (fun z => hb (by simp [z])) q) fun b hb => hf b (by
      rcases List.mem_singleton.mp hb with rfl
      simp)
    have nT : H s.heap.objs.size = none := I.hok.fresh (Nat.le_refl _)
    have I3 := I2.pairAt (T := s.heap.objs.size) (a := .int i) (b := x) (I.fpOk (Nat.le_refl _) nT) (hs'.extBut _ _ (Nat.ne_of_gt elt) hT) ⟨_, rfl⟩ ru
    refine ⟨.ref s.heap.objs.size, _, I3, rfl, ⟨_, nT, rfl, fun ys y hy hyi => ?_⟩, ⟨⟨u, ?_⟩, ?_⟩, fun b hb => ?_⟩
    · have e1 := I.list_inj hy hq
      subst e1
      rw [hx] at hyi
      cases hyi
      rfl
    · have ec : ((i + 1 : Nat) : Int) = (i : Int) + 1 := by omega
      rw [ec]
      exact he'
    · exact hit.at fun o q => hs'.extBut it o (Ne.symm hne) q
    · rw [upd_ne ?_]
      · exact (hf b hb).1
      · rcases List.mem_cons.mp hb with q | q
        · rw [q]
          exact Nat.ne_of_lt elt
        · rw [show b = it by simpa using q]
          exact Nat.ne_of_lt ilt
  done := by
    intro X hP hw hK hc i pins s σ H E I hf st hg
    subst hP hw hK
    obtain ⟨⟨old, h1⟩, h2⟩ := st
    obtain ⟨xs, hq, hx⟩ := hg
    obtain ⟨its, rv, p, hz⟩ := I.list hq
    have hl := rv.length
    refine wpAny_pyNext_enum_end (I.ok.hd hc) h1 h2 p.isList (by simp; omega) fun h' eb => ⟨rfl, ?_⟩
    exact I.turnedL (t' := s.toks) (ch := [e, it]) (fun b o hb q => eb b o (fun z => hb (by simp [z])) q) hf
  self := fun _ _ _ _ _ st h => by
    obtain ⟨⟨old, h1⟩, _⟩ := st
    exact wpAny_pyIter_enum h1 h

section
variable {X : Cx} {elts : List Expr} {k : Nat} {tp : Pos}
/-- enumerate(l), l tracked or the script -/
def iEnum (K : PySem.W.Frag) (ta : TA) : TI := fun σ H R => ta σ H fun vs H1 => ∃ a, vs = [.ref a] ∧ (∃ xs, Rd H1 a (.lst xs)) ∧ R (Ite K a) H1
theorem pi_enum {e : Expr} {ta : TA} {p pos : Pos} (hg : Gl X "enumerate") (hm : X.mg "enumerate" = none) (ha : PA X [e] ta) (hs : starEach [e] X.env = [(false, eval e X.env)] := by rfl) :
    PI X (.Tuple elts k tp) (.Call (.Name "enumerate" p) [e] [] pos) (iEnum X.K ta) := by
  intro pins s σ H R I h
  refine Call_ (ld_blt I hg hm (by decide +kernel : bootBuiltins "enumerate" = some (.type "enumerate")) (PyProof.Rows.callWith_type1 (thn (ha pos pins s σ H _ I h) fun us s1 ⟨vs, H1, I1, r1, q1⟩ => ?_) hs rfl))
  obtain ⟨a, e1, ⟨xs, hr⟩, q⟩ := q1
  subst e1
  obtain ⟨u, rfl, ru⟩ := vals1 r1
  cases ru
  obtain ⟨z, its, n, rv, ho⟩ := hr.ok I1.hok
  refine call_enumerate_1 ho fun h' he hit hsz kk => ?_
  refine wpAny_pyIter_enum he ?_
  have I2 : Inv X pins σ H1 { s1 with heap := h' } := I1.kept (t' := s1.toks) kk
  refine ⟨s1.heap.objs.size + 1, [s1.heap.objs.size + 1, s1.heap.objs.size], _, _, H1, rfl, I2, turn_enum a _ _ (Nat.ne_of_gt (Nat.lt_succ_self _)), ⟨⟨.none, he⟩, hit⟩, fun b hb => ?_, q⟩
  rcases List.mem_cons.mp hb with z1 | z1
  · rw [z1]
    exact I1.fpOk (Nat.le_succ _) (I1.hok.fresh (Nat.le_succ _))
  · rw [show b = s1.heap.objs.size by simpa using z1]
    exact I1.fpOk (Nat.le_refl _) (I1.hok.fresh (Nat.le_refl _))
end
theorem comp_enum {K : PySem.W.Frag} {a : Addr} {xs : List V} {σ0 : St} {te : TE} {H1 : Hp} {R : List V → Hp → Prop} (hq : SqL K H1 a xs) (f : Nat → V) (hz : xs.length ≤ sizeLine)
    (ht : ∀ (i : Nat) x H, xs[i]? = some x → Same H1 H → te ((σ0.set 0 (some (.int (i : Int)))).set 1 (some x)) H fun y H3 => (List.range i).map f ++ [y] = (List.range (i + 1)).map f ∧ Same H1 H3)
    (hR : ∀ H, Same H1 H → R ((List.range xs.length).map f) H) : CompR (Ite K a) σ0 (gPair K) te H1 R :=
  comp_by xs.length f hz (fun i H hi sm => ⟨xs, xs[i], sm.seq hq, by simp [hi]⟩) (fun H sm => ⟨xs, sm.seq hq, Nat.le_refl _⟩) (fun i H x H' hi sm y => by
    obtain ⟨p, hp, e1, e2⟩ := y
    have hx : xs[i]? = some xs[i] := by simp [hi]
    have e3 := e2 xs _ (sm.seq hq) hx
    subst e1 e3
    exact pair_go upd_same (ht i _ _ hx (sm.trans (same_new hp _)))) hR
/-! ### reversed(a list) -/
def Itv (K : PySem.W.Frag) (a : Addr) (n : Nat) : It :=
  ⟨fun i H => ∃ xs x, SqL K H a xs ∧ xs.length = n ∧ xs.reverse[i]? = some x, fun i H x H' => H' = H ∧ ∀ xs, SqL K H a xs → xs.reverse[i]? = some x, fun i H => ∃ xs, SqL K H a xs ∧ xs.length = n ∧ i = n⟩
theorem rev_get {α : Type} {xs : List α} {i : Nat} {x : α} (h : xs.reverse[i]? = some x) : i < xs.length ∧ xs[xs.length - 1 - i]? = some x := by
  have hi : i < xs.reverse.length := (List.getElem?_eq_some_iff.mp h).1
  rw [List.length_reverse] at hi
  refine ⟨hi, ?_⟩
  rw [List.getElem?_reverse hi] at h
  exact h
theorem turn_rev {P : Program} {w : World} {K : PySem.W.Frag} {x : Str} {xp : Pos} (a it : Addr) (n : Nat) :
    Turn P w K (.Name x xp) (Itv K a n) [it] it (fun i h => i ≤ n ∧ h.IsRevIter it a ((n : Int) - 1 - (i : Nat))) where
  mem := by simp
  obj := fun i h st b hb => by
    obtain ⟨_, o, h2, _, h3⟩ := st
    rw [show b = it by simpa using hb]
    exact ⟨o, h2, fun v z => by rw [h3] at z; cases z⟩
  keep := fun i h h' st kk => ⟨st.1, st.2.at fun o q => kk it (by simp) o q⟩
  item := by
    intro X hP hw hK hc i pins s σ H E I hf st hg
    subst hP hw hK
    obtain ⟨xs, x, hq, hn, hx⟩ := hg
    obtain ⟨its, rv, p, hz⟩ := I.list hq
    obtain ⟨hi, hx'⟩ := rev_get hx
    obtain ⟨u, hu, ru⟩ := rv.get hx'
    obtain ⟨f0, f1, f2, f3, f4, f5⟩ := hf it (by simp)
    have hit := st.2
    have e : (n : Int) - 1 - (i : Nat) = ((xs.length - 1 - i : Nat) : Int) := by omega
    rw [e] at hit
    refine wpAny_pyNext_rev_item hit p.isList (x := u) (by simpa using hu) fun h' hit' hs' => ?_
    have e2 : ((xs.length - 1 - i : Nat) : Int) - 1 = (n : Int) - 1 - ((i + 1 : Nat) : Int) := by omega
    rw [e2] at hit'
    have I1 : Inv X pins σ H { s with heap := h' } := I.turned (t' := s.toks) (fun b o hb q => hs'.extBut b o hb q) f0 f1 f3 f4 f5
    refine ⟨u, rfl, wpAny_pure ⟨x, H, I1, ru, ⟨rfl, fun ys hy => by rw [I.list_inj hy hq]; exact hx⟩, ⟨by omega, hit'⟩, fun b hb => (hf b hb).1⟩⟩
  done := by
    intro X hP hw hK hc i pins s σ H E I hf st hg
    subst hP hw hK
    obtain ⟨xs, hq, hn, hi⟩ := hg
    obtain ⟨f0, f1, f2, f3, f4, f5⟩ := hf it (by simp)
    have hit := st.2
    have e : (n : Int) - 1 - (i : Nat) = -1 := by omega
    rw [e] at hit
    exact wpAny_pyNext_rev_end (I.ok.hd hc) hit fun h' eb => ⟨rfl, I.turned (t' := s.toks) (fun b o hb q => eb b o hb q) f0 f1 f3 f4 f5⟩
  self := fun _ _ _ _ _ st h => wpAny_pyIter_revIter st.2 h
section
variable {X : Cx} {x : Str} {xp : Pos}
def iRev (K : PySem.W.Frag) (ta : TA) : TI := fun σ H R => ta σ H fun vs H1 => ∃ a xs, vs = [.ref a] ∧ SqL K H1 a xs ∧ R (Itv K a xs.length) H1
theorem pi_rev {e : Expr} {ta : TA} {p pos : Pos} (hg : Gl X "reversed") (hm : X.mg "reversed" = none) (ha : PA X [e] ta) (hs : starEach [e] X.env = [(false, eval e X.env)] := by rfl) :
    PI X (.Name x xp) (.Call (.Name "reversed" p) [e] [] pos) (iRev X.K ta) := by
  intro pins s σ H R I h
  refine Call_ (ld_blt I hg hm (by decide +kernel : bootBuiltins "reversed" = some (.type "reversed")) (PyProof.Rows.callWith_type1 (thn (ha pos pins s σ H _ I h) fun us s1 ⟨vs, H1, I1, r1, q1⟩ => ?_) hs rfl))
  obtain ⟨a, xs, e1, hq, q⟩ := q1
  subst e1
  obtain ⟨u, rfl, ru⟩ := vals1 r1
  cases ru
  obtain ⟨its, rv, pl, hz⟩ := I1.list hq
  have hlen := rv.length
  refine call_reversed_list pl.isList ?_
  have eR : ∀ h : Heap, (h.push (revObj a ((its.toArray.size : Int) - 1))).IsRevIter h.objs.size a ((xs.length : Int) - 1 - ((0 : Nat) : Int)) := fun h => by
    have e0 : (its.toArray.size : Int) - 1 = (xs.length : Int) - 1 - ((0 : Nat) : Int) := by rw [List.size_toArray]; omega
    rw [e0]
    exact ⟨_, Heap.get?_push_size _ rfl, rfl, rfl⟩
  refine wpAny_pyIter_revIter (eR s1.heap) ?_
  have I2 : Inv X pins σ H1 { s1 with heap := s1.heap.push (revObj a ((its.toArray.size : Int) - 1)) } := I1.kept (t' := s1.toks) fun b o q => Heap.get?_push_of_some _ q
  refine ⟨s1.heap.objs.size, [s1.heap.objs.size], _, _, H1, rfl, I2, turn_rev a _ xs.length, ⟨Nat.zero_le _, eR s1.heap⟩, fun b hb => ?_, q⟩
  rw [show b = s1.heap.objs.size by simpa using hb]
  exact I1.fpOk (Nat.le_refl _) (I1.hok.fresh (Nat.le_refl _))
end
theorem comp_rev {K : PySem.W.Frag} {a : Addr} {xs : List V} {σ0 : St} {te : TE} {H1 : Hp} {R : List V → Hp → Prop} (hq : SqL K H1 a xs) (f : Nat → V) (hz : xs.length ≤ sizeLine)
    (ht : ∀ i x H, xs.reverse[i]? = some x → Same H1 H → te (σ0.set 0 (some x)) H fun y H3 => (List.range i).map f ++ [y] = (List.range (i + 1)).map f ∧ Same H1 H3)
    (hR : ∀ H, Same H1 H → R ((List.range xs.length).map f) H) : CompR (Itv K a xs.length) σ0 (gName 0) te H1 R :=
  comp_by xs.length f hz (fun i H hi sm => ⟨xs, xs.reverse[i]'(by simpa using hi), sm.seq hq, rfl, by simp [hi]⟩) (fun H sm => ⟨xs, sm.seq hq, rfl, rfl⟩) (fun i H x H' hi sm y => by
    obtain ⟨e1, e2⟩ := y
    subst e1
    exact ht i x _ (e2 xs (sm.seq hq)) sm) hR

/-! ### range(a, b, c), c > 0, and reversed(range(n)) -/
def Its (lo c : Int) (n : Nat) : It := ⟨fun i _ => i < n, fun i H x H' => H' = H ∧ x = .int (lo + i * c), fun i _ => n ≤ i⟩
theorem turn_rangeS {P : Program} {w : World} {K : PySem.W.Frag} {tg : Expr} (it : Addr) (lo c : Int) (n : Nat) : Turn P w K tg (Its lo c n) [it] it (fun i h => IsRangeIter h it (lo + (i : Nat) * c) ((n : Int) - (i : Nat)) c) where
  mem := by simp
  obj := fun i h st b hb => by
    rw [show b = it by simpa using hb]
    exact ⟨_, st, fun v z => by cases (show Data.fields _ = Data.cell v from z)⟩
  keep := fun i h h' st kk => kk it (by simp) _ st
  item := by
    intro X hP hw hK hc i pins s σ H E I hf st hg
    subst hP hw hK
    obtain ⟨f0, f1, f2, f3, f4, f5⟩ := hf it (by simp)
    refine (Walks.range (prog := X.prog) (w := X.w) (I.ok.hd hc) it lo c n).item i s _ _ hg st fun v h' tk hv st' kk => ?_
    obtain ⟨t, rfl⟩ := hv
    have I1 : Inv X pins σ H { s with heap := h', toks := tk } := I.turned (fun b o hb q => kk b o (by simpa using hb) q) f0 f1 f3 f4 f5
    exact ⟨_, rfl, go_of (s := { s with heap := h', toks := tk }) (n := "range_iterator") st' rfl rfl (by decide) ⟨.int (lo + i * c), H, I1, ⟨t, rfl⟩, ⟨rfl, rfl⟩, st', fun b hb => (hf b hb).1⟩⟩
  done := by
    intro X hP hw hK hc i pins s σ H E I hf st hg
    subst hP hw hK
    obtain ⟨f0, f1, f2, f3, f4, f5⟩ := hf it (by simp)
    exact wpAny_pyNext_range_end (I.ok.hd hc) st (by have q : n ≤ i := hg; omega) fun h' eb => ⟨rfl, I.turned (t' := s.toks) (fun b o hb q => eb b o hb q) f0 f1 f3 f4 f5⟩
  self := fun _ _ _ _ _ st h => wpAny_pyIter_rangeiter st h
theorem for_rangeS {lo c : Int} {n : Nat} {g : TG} {tb : TS} {D : Ends} {σ : St} {H : Hp} (Pv : Nat → St → Hp → Prop) (h0 : Pv 0 σ H)
    (hs : ∀ i σ H, i < n → Pv i σ H → g (.int (lo + i * c)) σ H fun σ2 H2 => tb { D with nx := Pv (i + 1), ct := Pv (i + 1), bk := D.nx } σ2 H2) (hd : ∀ σ H, Pv n σ H → D.nx σ H) :
    ∃ W : Nat → Nat → St → Hp → Prop, (∃ m, W 0 m σ H) ∧ ∀ i m σ H, W i m σ H →
      ((Its lo c n).stop i H ∧ D.nx σ H) ∨ ((Its lo c n).go i H ∧ ∃ N : St → Hp → Prop, (∀ σ' H', N σ' H' → ∃ m', m' < m ∧ W (i + 1) m' σ' H') ∧ ∀ x H', (Its lo c n).yld i H x H' → g x σ H' fun σ2 H2 => tb { D with nx := N, ct := N, bk := D.nx } σ2 H2) := by
  refine ⟨fun i m σ H => m = n - i ∧ i ≤ n ∧ Pv i σ H, ⟨n, by simp, Nat.zero_le _, h0⟩, ?_⟩
  rintro i m σ H ⟨rfl, hi, p⟩
  by_cases hlt : i < n
  · refine .inr ⟨hlt, Pv (i + 1), fun σ' H' p' => ⟨n - (i + 1), by omega, rfl, hlt, p'⟩, fun x H' y => ?_⟩
    obtain ⟨e1, e2⟩ := y
    subst e1 e2
    exact hs i σ _ hlt p
  · have e : i = n := by omega
    subst e
    exact .inl ⟨Nat.le_refl _, hd σ H p⟩
end L2

set_option Elab.async false
set_option linter.all false
set_option maxRecDepth 100000
namespace L2
open PySem PySem.Spec PyProof.Rows

/-! ### sum, all, any of a list -/
section
variable {X : Cx}
theorem call_sum (hc : X.calm = true) : CallR X (.builtin "sum") (fun xs H Q => ∃ (p : Addr) (ns : List Int), xs = [.ref p] ∧ SqL X.K H p (ns.map V.int) ∧ Q (.int (List.sum ns)) H) := by
  intro pins s σ H xs us Q I r h
  obtain ⟨p, ns, rfl, hq, q⟩ := h
  obtain ⟨u, rfl, rx⟩ := vals1 r
  cases rx
  obtain ⟨its, rv, pl, hz⟩ := I.list hq
  have hi : IntsAre its ns := intsAre_of rv
  obtain ⟨ys, hx⟩ := hi.allInts.items
  have hl' : s.heap.IsList p (intItems ys) := hx ▸ pl.isList
  refine sum_intListG (I.ok.hd hc) hl' fun h' tk t' hk => ⟨.int ns.sum, H, I.kept hk, ⟨t', ?_⟩, q⟩
  have e1 : ns = ys.toList.map (·.1) := by
    rw [← nums_intItems, ← hx]
    exact (show numsOf its.toArray.toList = ns from hi.numsOf).symm
  rw [preSum_eq, List.take_of_length_le (by simp), e1]
theorem bools_of {bs : List Bool} : ∀ {us : List Value}, Vals (bs.map V.bl) us → LSm.BoolsAre us bs := by
  induction bs with
  | nil => intro us r; rw [List.map_nil] at r; cases r; exact .nil
  | cons b bs ih =>
    intro us r
    rw [List.map_cons] at r
    cases r with
    | cons r1 r2 =>
      cases (show _ = Value.bool b from r1)
      exact .cons b (ih r2)
theorem call_all (hc : X.calm = true) : CallR X (.builtin "all") (fun xs H Q => ∃ (p : Addr) (bs : List Bool), xs = [.ref p] ∧ SqL X.K H p (bs.map V.bl) ∧ Q (.bl (bs.all id)) H) := by
  intro pins s σ H xs us Q I r h
  obtain ⟨p, bs, rfl, hq, q⟩ := h
  obtain ⟨u, rfl, rx⟩ := vals1 r
  cases rx
  obtain ⟨its, rv, pl, hz⟩ := I.list hq
  have hb := bools_of rv
  have hl := pl.isList
  have hlt : p < s.heap.objs.size := by obtain ⟨_, e, _⟩ := hl; exact Heap.lt_size e
  refine call_all_walk (wpAny_pyIter_list hl ⟨s.heap.objs.size, [s.heap.objs.size, p], [s.heap.objs.size], its.toArray.size, _, _, fun i => (bs[i]?).getD true, rfl,
    Walks.list (A := X.A.in1) (I.ok.hd hc) _ p (Nat.ne_of_lt hlt) its.toArray, ⟨⟨_, Heap.get?_push_size _ rfl, rfl, rfl⟩, hl.push _⟩, fun i v s' Q' E' hP hQ => ?_, fun h' tk hk => ?_⟩)
  · obtain ⟨b, e, rfl⟩ := hb.get i v (by simpa using hP)
    simp only [e, Option.getD_some] at hQ
    exact wpAny_truthy_bool hQ
  · refine ⟨.bl (bs.all id), H, I.kept (LSm.kept_iter hk), ?_, q⟩
    show Value.bool _ = Value.bool _
    rw [List.size_toArray, hb.length, LSm.range_all]
/-! ### isinstance -/
theorem call_isi : CallR X (.builtin "isinstance") (fun xs H Q => ∃ x T t b, xs = [x, .ty T] ∧ TyOf X.K H x t ∧ PySem.W.kitOne X.K t (.type T) = some b ∧ Q (.bl b) H) := by
  intro pins s σ H xs us Q I r h
  obtain ⟨x, T, t, b, rfl, ty, e, q⟩ := h
  obtain ⟨u, w', rfl, rx, ry⟩ := vals2 r
  cases (show w' = Value.type T from ry)
  exact isinst_ok I rx ty e fun tk => ⟨.bl b, H, I.tok tk, rfl, q⟩
/-- a built-in type's name as a value -/
theorem pe_ty {x : Str} {T : String} {pos : Pos} (hg : Gl X x) (hm : X.mg x = none) (hv : bootBuiltins x = some (.type T)) (hn : x ≠ "__name__" := by decide) (hd : (x == ("__debug__" : Str)) = false := by decide) :
    PE X (.Name x pos) (tC (.ty T)) := pe_bltn hg hm hv rfl hn hd

/-! ### is True, is not True -/
/-! ### lists of ints compared; lists of two such -/
theorem op_eqL (hu : X.A.units + 64 < cLine) : OpR X (compareOp .Eq) (fun x y H Q => ∃ (a b : Addr) (ns ms : List Int), x = .ref a ∧ y = .ref b ∧ SqL X.K H a (ns.map V.int) ∧ SqL X.K H b (ms.map V.int) ∧ Q (.bl (decide (ns = ms))) H) := by
  intro pins s σ H x y v u Q I rx ry h
  obtain ⟨a, b, ns, ms, rfl, rfl, ha, hb, q⟩ := h
  cases rx
  cases ry
  obtain ⟨its, r1, p1, _⟩ := I.list ha
  obtain ⟨its2, r2, p2, _⟩ := I.list hb
  exact PySem.W.ke_eq_ints p1.isList p2.isList (intsAre_of r1) (intsAre_of r2) hu ⟨.bl _, H, I, rfl, q⟩
/-! ### xs[::-1] -/
/-! ### range(a, b, c) with c > 0; reversed(range(n)) -/
def rngN (a b c : Int) : Nat := if a < b then ((b - a - 1) / c + 1).toNat else 0
theorem rngN_eq {a b c : Int} (hc : 0 < c) : ((rngN a b c : Nat) : Int) = Builtin.Range.rangeSize a b c := by
  unfold rngN Builtin.Range.rangeSize
  rw [if_pos hc]
  by_cases h : a < b
  · rw [if_pos h, if_pos h]
    have q : 0 ≤ (b - a - 1) / c := Int.ediv_nonneg (by omega) (by omega)
    omega
  · rw [if_neg h, if_neg h]
    rfl
theorem small_pos {a b c : Int} (h1 : -(2 ^ 60) ≤ a) (h2 : a < 2 ^ 60) (h3 : -(2 ^ 60) ≤ b) (h4 : b < 2 ^ 60) (hc : 0 < c) (hc2 : c < 2 ^ 30) : Builtin.Range.small a b c = true := by
  have q : Builtin.Range.rangeSize a b c ≤ 2 ^ 62 ∧ 0 ≤ Builtin.Range.rangeSize a b c := by
    unfold Builtin.Range.rangeSize
    rw [if_pos hc]
    by_cases h : a < b
    · rw [if_pos h]
      have q1 : 0 ≤ (b - a - 1) / c := Int.ediv_nonneg (by omega) (by omega)
      have q2 : (b - a - 1) / c ≤ b - a - 1 := Int.ediv_le_self _ (by omega)
      omega
    · rw [if_neg h]
      omega
  unfold Builtin.Range.small Builtin.Range.rangeFitsLong
  have hc' : c > 0 := hc
  simp only [hc', if_true, Bool.and_eq_true, Bool.or_eq_true, decide_eq_true_eq]
  omega
variable {tg : Expr}
def iRng3 (ta : TA) : TI := fun σ H R => ta σ H fun vs H1 => ∃ i j c : Int, vs = [.int i, .int j, .int c] ∧ (-(2 ^ 60) ≤ i ∧ i < 2 ^ 60 ∧ -(2 ^ 60) ≤ j ∧ j < 2 ^ 60 ∧ 0 < c ∧ c < 2 ^ 30) ∧ R (Its i c (rngN i j c)) H1
theorem vals3 {x y z : V} {us : List Value} (r : Vals [x, y, z] us) : ∃ u v w', us = [u, v, w'] ∧ RelV x u ∧ RelV y v ∧ RelV z w' := by
  cases r with
  | cons r1 r2 =>
    obtain ⟨v, w', rfl, h1, h2⟩ := vals2 r2
    exact ⟨_, _, _, rfl, r1, h1, h2⟩
theorem pi_range3 {a b c : Expr} {ta : TA} {p pos : Pos} (hg : Gl X "range") (hm : X.mg "range" = none) (ha : PA X [a, b, c] ta) (hs : starEach [a, b, c] X.env = (false, eval a X.env) :: starEach [b, c] X.env := by rfl)
    (hpl : (backTo pos (starEach [b, c] X.env)).any (·.1) = false := by rfl) : PI X tg (.Call (.Name "range" p) [a, b, c] [] pos) (iRng3 ta) := by
  intro pins s σ H R I h
  refine Call_ (ld_blt I hg hm boot_range (PyProof.Rows.callWith_type1 (thn (ha pos pins s σ H _ I h) fun us s1 ⟨vs, H1, I1, r1, q1⟩ => ?_) hs hpl))
  obtain ⟨i, j, k, e, ⟨q1, q2, q3, q4, q5, q6⟩, q⟩ := q1
  subst e
  obtain ⟨u, v, w', rfl, ⟨t1, rfl⟩, ⟨t2, rfl⟩, ⟨t3, rfl⟩⟩ := vals3 r1
  refine call_range_3 (by omega) ?_ (.inl (PyProof.noPylong_small (by omega)))
  refine wpAny_pyIter_range (IsRange.new ..) (small_pos q1 q2 q3 q4 q5 q6) ?_
  have I2 : Inv X pins σ H1 { s1 with heap := s1.heap.push { cls := .type "range", data := .fields #[.int i t1, .int j t2, .int k t3] }, toks := s1.toks } := I1.kept fun b o e => Heap.get?_push_of_some _ e
  refine ⟨(s1.heap.push { cls := .type "range", data := .fields #[.int i t1, .int j t2, .int k t3] }).objs.size, [(s1.heap.push { cls := .type "range", data := .fields #[.int i t1, .int j t2, .int k t3] }).objs.size], _, _, H1, rfl,
    I2.kept (t' := s1.toks) fun b o e => Heap.get?_push_of_some _ e, turn_rangeS _ i k (rngN i j k), ?_, fun b hb => ?_, q⟩
  · have e1 : i + ((0 : Nat) : Int) * k = i := by simp
    have e2 : ((rngN i j k : Nat) : Int) - ((0 : Nat) : Int) = Builtin.Range.rangeSize i j k := by rw [rngN_eq q5]; simp
    show IsRangeIter _ _ (i + ((0 : Nat) : Int) * k) (((rngN i j k : Nat) : Int) - ((0 : Nat) : Int)) k
    rw [e1, e2]
    exact Heap.get?_push_size _ rfl
  · have eb : b = (s1.heap.push { cls := .type "range", data := .fields #[.int i t1, .int j t2, .int k t3] }).objs.size := by simpa using hb
    rw [eb]
    exact I2.fpOk (Nat.le_refl _) (I2.hok.fresh (Nat.le_refl _))
end
end L2

set_option Elab.async false
set_option linter.all false
set_option maxRecDepth 100000
namespace L2
open PySem PySem.Spec PyProof.Rows

/-! ### the next item of a reversed list, as zip asks for it -/
section
variable {prog : Program} {w : World} {A : Around} {E : Value → Shared → Prop} {s : Shared}
theorem nextOf_rev {it l : Addr} {i : Nat} {items : Array Value} {x : Value} {Q : Value → Shared → Prop} (hit : s.heap.IsRevIter it l (i : Int)) (hl : s.heap.IsList l items) (hx : items[i]? = some x)
    (hQ : ∀ h', h'.IsRevIter it l ((i : Int) - 1) → Heap.SameBut it s.heap h' → Q x { s with heap := h' }) : wpAny (model prog w) A (Builtin.SmallTypes.nextOf (.ref it)) Q E s := by
  obtain ⟨ob, hob, hcl, hda⟩ := id hit
  obtain ⟨ol, hol, _, nl, hdl⟩ := hl
  unfold Builtin.SmallTypes.nextOf
  refine wpAny_bind (wpAny_callSpecial?_slot (name := Str.ofString "__next__") hit.typeIs F.slot_lri_next (wpAny_call_entry F.slot_lri_next hit.typeIs F.entry_lri_next ?_ (F.args_lri_next_1 _)))
  unfold Builtin.«list_reverseiterator.__next__»
  refine wpAny_bind (wpAny_of_eq (a := (Value.ref it, [])) rfl ?_)
  try dsimp only
  refine wpAny_bind (wpAny_field hob hda (x := rawInt (i : Int)) rfl ?_)
  show wpAny _ _ (if (i : Int) < 0 then _ else _) _ _ s
  rw [if_neg (by omega)]
  show wpAny _ _ (field (.ref it) 0 >>= _) _ _ s
  refine wpAny_bind (wpAny_field hob hda (x := .ref l) rfl ?_)
  show wpAny _ _ (seqItems? (.ref l) >>= _) _ _ s
  refine wpAny_bind (wpAny_seqItems hol hdl ?_)
  simp only [Int.toNat_natCast, hx]
  refine wpAny_bind (wpAny_setField hob hda (by simp) ?_)
  first
  | refine wpAny_pure ⟨x, rfl, wpAny_pure (hQ _ ?_ (Heap.SameBut.update ..))⟩
  | refine wpAny_bind (wpAny_pure (wpAny_pure ⟨x, rfl, wpAny_pure (hQ _ ?_ (Heap.SameBut.update ..))⟩))
  exact ⟨_, Heap.get?_update_self _ hob (Obj.isFreed_of_fields (Obj.data_mapFields hda _)), (Obj.cls_mapFields ..).trans hcl, by rw [Obj.data_mapFields hda]; simp⟩
theorem nextOf_rev_end {it l : Addr} {Q : Value → Shared → Prop} (hh : A.handled = none) (hit : s.heap.IsRevIter it l (-1))
    (hE : ∀ h' e, Heap.ExtBut it s.heap h' → (∃ o, h'.get? e = some o ∧ o.cls = .type "StopIteration") → E (.ref e) { s with heap := h' }) : wpAny (model prog w) A (Builtin.SmallTypes.nextOf (.ref it)) Q E s := by
  obtain ⟨ob, hob, hcl, hda⟩ := id hit
  unfold Builtin.SmallTypes.nextOf
  refine wpAny_bind (wpAny_callSpecial?_slot (name := Str.ofString "__next__") hit.typeIs F.slot_lri_next (wpAny_call_entry F.slot_lri_next hit.typeIs F.entry_lri_next ?_ (F.args_lri_next_1 _)))
  unfold Builtin.«list_reverseiterator.__next__»
  refine wpAny_bind (wpAny_of_eq (a := (Value.ref it, [])) rfl ?_)
  try dsimp only
  refine wpAny_bind (wpAny_field hob hda (x := rawInt (-1)) rfl ?_)
  show wpAny _ _ (if (-1 : Int) < 0 then _ else _) _ _ s
  rw [if_pos (by decide)]
  refine wpAny_bind (wpAny_rule ?_)
  first
  | show wpAny _ _ (newExc (.type "StopIteration") [] >>= _) _ _ _
  | (refine wpAny_bind ?_; show wpAny _ _ (newExc (.type "StopIteration") [] >>= _) _ _ _)
  refine wpAny_bind ?_
  simp only [newExc, newTuple]
  refine wpAny_bind (wpAny_newObj_type ?_ (by size_fits))
  refine wpAny_bind (m := firstArgMember _ _) (wpAny_of_eq (a := Value.none) (by first | rfl | (simp only [firstArgMember]; rfl)) ?_)
  refine wpAny_newObj_type ?_ (by size_fits)
  simp only [raiseNew]
  refine wpAny_bind (wpAny_handled ?_)
  first | rw [show A.in1.handled = none from hh] | rw [hh]
  refine wpAny_bind (wpAny_pure (wpAny_throw ?_))
  exact hE _ _ (((Heap.ExtBut.refl _ _).push _).push _) ⟨_, Heap.get?_push_size _ rfl, rfl⟩
end

/-! ### zip(a reversed list's iterator, a list) -/
structure ZA (z TI TO i1 i2 : Addr) : Prop where
  TIz : TI ≠ z
  TOz : TO ≠ z
  i1z : i1 ≠ z
  i2z : i2 ≠ z
  TITO : TI ≠ TO
  TIi1 : TI ≠ i1
  TIi2 : TI ≠ i2
  TOi1 : TO ≠ i1
  TOi2 : TO ≠ i2
  i12 : i1 ≠ i2
structure ZL (z TO i1 i2 l : Addr) : Prop where
  z : l ≠ z
  TO : l ≠ TO
  i1 : l ≠ i1
  i2 : l ≠ i2
section
variable {prog : Program} {w : World} {A : Around} {E : Value → Shared → Prop} {s : Shared}
theorem zr_item {z TI TO i1 i2 l1 l2 : Addr} {k1 k2 : Nat} {xs ys : Array Value} {x y a b : Value} {Q : Option Value → Shared → Prop} (D : ZA z TI TO i1 i2) (L1 : ZL z TO i1 i2 l1) (L2 : ZL z TO i1 i2 l2)
    (hz : IsZip s.heap z TI TO .none) (hTI : IsPair s.heap TI (.ref i1) (.ref i2)) (hTO : IsPair s.heap TO a b)
    (h1 : s.heap.IsRevIter i1 l1 (k1 : Int)) (h2 : s.heap.IsListIter i2 l2 k2) (hl1 : s.heap.IsList l1 xs) (hl2 : s.heap.IsList l2 ys) (hx : xs[k1]? = some x) (hy : ys[k2]? = some y)
    (hQ : ∀ h', IsZip h' z TI TO (rawInt s.heap.objs.size) → IsPair h' TO x y → h'.IsRevIter i1 l1 ((k1 : Int) - 1) → h'.IsListIter i2 l2 (k2 + 1) → IsPair h' s.heap.objs.size x y → h'.objs.size = s.heap.objs.size + 1 →
      (∀ c o, c ≠ z → c ≠ TO → c ≠ i1 → c ≠ i2 → s.heap.get? c = some o → h'.get? c = some o) → Q (some (.ref s.heap.objs.size)) { s with heap := h' }) :
    wpAny (model prog w) A (pyNext (.ref z)) Q E s := by
  have hT : s.TypeIs (.ref z) "zip" := ⟨_, hz, rfl⟩
  unfold pyNext
  refine wpAny_bind (wpAny_attempt (wpAny_callSpecial?_slot (name := Str.ofString "__next__") hT F.slot_zip_next (wpAny_call_entry F.slot_zip_next hT F.entry_zip_next ?_ (F.args_zip_next_1 _))))
  show wpAny _ _ (field (.ref z) 2 >>= _) _ _ _
  refine wpAny_bind (wpAny_field hz rfl (x := .bool false) rfl ?_)
  show wpAny _ _ (field (.ref z) 3 >>= _) _ _ _
  refine wpAny_bind (wpAny_field hz rfl (x := .ref TI) rfl ?_)
  refine wpAny_bind (wpAny_seqItems hTI rfl ?_)
  show wpAny _ _ (Builtin.SmallTypes.ownedTupleIsFree (.ref z) >>= _) _ _ _
  refine wpAny_bind ?_
  unfold Builtin.SmallTypes.ownedTupleIsFree
  refine wpAny_bind (wpAny_field hz rfl (x := .none) rfl (wpAny_pure ?_))
  simp only [if_true]
  refine wpAny_bind (wpAny_rule ?_)
  refine wpAny_bind (wpAny_field hz rfl (x := .ref TO) rfl ?_)
  refine wpAny_bind (wpAny_setField_rec hz (by simp) fun g1 hz1 sb1 => ?_)
  replace hz1 : IsZip g1 z TI TO .ellipsis := hz1
  refine wpAny_bind ?_
  simp only [List.zipIdx_cons, List.zipIdx_nil, List.forIn_cons, List.forIn_nil]
  refine wpAny_bind (wpAny_bind (wpAny_onRaise ?_))
  show wpAny _ _ (Builtin.SmallTypes.nextOf (.ref i1) >>= _) _ _ _
  refine wpAny_bind (nextOf_rev (h1.at fun o e => sb1.extBut _ o D.i1z e) (hl1.extBut sb1.extBut L1.z) hx fun g2 r2 sb2 => wpAny_pure ?_)
  have to2 : IsPair g2 TO a b := sb2.extBut _ _ D.TOi1 (sb1.extBut _ _ D.TOz hTO)
  refine wpAny_bind (wpAny_seqItems to2 rfl ?_)
  refine wpAny_bind (wpAny_updateSeq_pair to2 fun g3 to3 sb3 => ?_)
  replace to3 : IsPair g3 TO x b := to3
  refine wpAny_bind (wpAny_letGo (wpAny_pure ?_))
  refine wpAny_bind (wpAny_bind (wpAny_onRaise ?_))
  show wpAny _ _ (Builtin.SmallTypes.nextOf (.ref i2) >>= _) _ _ _
  refine wpAny_bind (wpAny_nextOf_list_item (((h2.extBut sb1.extBut D.i2z).extBut sb2.extBut D.i12.symm).extBut sb3.extBut D.TOi2.symm)
    (((hl2.extBut sb1.extBut L2.z).extBut sb2.extBut L2.i1).extBut sb3.extBut L2.TO) hy fun g4 r4 sb4 => wpAny_pure ?_)
  have to4 : IsPair g4 TO x b := sb4.extBut _ _ D.TOi2 to3
  refine wpAny_bind (wpAny_seqItems to4 rfl ?_)
  refine wpAny_bind (wpAny_updateSeq_pair to4 fun g5 to5 sb5 => ?_)
  replace to5 : IsPair g5 TO x y := to5
  refine wpAny_bind (wpAny_letGo (wpAny_pure (wpAny_pure ?_)))
  refine wpAny_bind (wpAny_seqItems to5 rfl ?_)
  refine wpAny_bind (wpAny_newTuple ?_)
  have hsz : g5.objs.size = s.heap.objs.size := by rw [sb5.1, sb4.1, sb3.1, sb2.1, sb1.1]
  have z5 : IsZip g5 z TI TO .ellipsis := sb5.extBut _ _ D.TOz.symm (sb4.extBut _ _ D.i2z.symm (sb3.extBut _ _ D.TOz.symm (sb2.extBut _ _ D.i1z.symm hz1)))
  have k5 : ∀ c o, c ≠ z → c ≠ TO → c ≠ i1 → c ≠ i2 → s.heap.get? c = some o → g5.get? c = some o := fun c o c1 c2 c3 c4 e =>
    sb5.extBut _ _ c2 (sb4.extBut _ _ c4 (sb3.extBut _ _ c2 (sb2.extBut _ _ c3 (sb1.extBut _ _ c1 e))))
  have r5 : g5.IsRevIter i1 l1 ((k1 : Int) - 1) := r2.at fun o e => sb5.extBut _ o D.TOi1.symm (sb4.extBut _ o D.i12 (sb3.extBut _ o D.TOi1.symm e))
  have q5 : g5.IsListIter i2 l2 (k2 + 1) := r4.extBut sb5.extBut D.TOi2.symm
  have hzlt : z < g5.objs.size := Heap.lt_size z5
  show wpAny _ _ (Builtin.SmallTypes.ownedTupleHandOut (.ref z) (.ref g5.objs.size) >>= _) _ _ _
  refine wpAny_bind ?_
  unfold Builtin.SmallTypes.ownedTupleHandOut
  have z6 : IsZip (g5.push { cls := .type "tuple", data := .seq #[x, y] }) z TI TO .ellipsis := Heap.get?_push_of_some _ z5
  refine wpAny_bind (wpAny_setField_rec z6 (by simp) fun g7 z7 sb7 => ?_)
  replace z7 : IsZip g7 z TI TO (rawInt g5.objs.size) := z7
  refine wpAny_setField_rec z7 (by simp) fun g8 z8 sb8 => ?_
  replace z8 : IsZip g8 z TI TO (rawInt g5.objs.size) := z8
  have up : ∀ c o, c ≠ z → g5.get? c = some o → g8.get? c = some o := fun c o c1 e => sb8.extBut _ _ c1 (sb7.extBut _ _ c1 (Heap.get?_push_of_some _ e))
  have t8 : IsPair g8 g5.objs.size x y := sb8.extBut _ _ (Nat.ne_of_gt hzlt) (sb7.extBut _ _ (Nat.ne_of_gt hzlt) (Heap.get?_push_size _ rfl))
  have n8 : g8.objs.size = g5.objs.size + 1 := by rw [sb8.1, sb7.1, Heap.size_push]
  rw [hsz] at z8 t8 n8
  refine wpAny_pure ⟨_, rfl, ?_⟩
  refine wpAny_pure ?_
  show Q (some (.ref g5.objs.size)) _
  rw [hsz]
  exact hQ g8 z8 (up _ _ D.TOz to5) (r5.at fun o e => up _ o D.i1z e) (q5.at fun o e => up _ o D.i2z e) t8 n8 fun c o c1 c2 c3 c4 e => up c o c1 (k5 c o c1 c2 c3 c4 e)
theorem zr_end {z TI TO i1 i2 l1 l2 : Addr} {k1 : Int} {k2 : Nat} {xs ys : Array Value} {a b : Value} {Q : Option Value → Shared → Prop} (hh : A.handled = none) (D : ZA z TI TO i1 i2) (L1 : ZL z TO i1 i2 l1) (L2 : ZL z TO i1 i2 l2)
    (hz : IsZip s.heap z TI TO .none) (hTI : IsPair s.heap TI (.ref i1) (.ref i2)) (hTO : IsPair s.heap TO a b)
    (h1 : s.heap.IsRevIter i1 l1 k1) (h2 : s.heap.IsListIter i2 l2 k2) (hl1 : s.heap.IsList l1 xs) (hl2 : s.heap.IsList l2 ys) (hend : k1 = -1 ∨ (∃ (j : Nat) (x : Value), k1 = (j : Int) ∧ xs[j]? = some x) ∧ ys[k2]? = none)
    (hQ : ∀ h', (∀ c o, c ≠ z → c ≠ TO → c ≠ i1 → c ≠ i2 → s.heap.get? c = some o → h'.get? c = some o) → Q none { s with heap := h' }) :
    wpAny (model prog w) A (pyNext (.ref z)) Q E s := by
  have hT : s.TypeIs (.ref z) "zip" := ⟨_, hz, rfl⟩
  have stop : ∀ (h' : Heap) (e : Addr), (∀ c o, c ≠ z → c ≠ TO → c ≠ i1 → c ≠ i2 → s.heap.get? c = some o → h'.get? c = some o) → (∃ o, h'.get? e = some o ∧ o.cls = .type "StopIteration") →
      wpAny (model prog w) A (do let c ← isInstance (.ref e) (.type "StopIteration"); if c = true then pure none else throw (.ref e) : Sem (Option Value)) Q E { s with heap := h' } := fun h' e hk he => by
    obtain ⟨o, ho, hc⟩ := he
    refine wpAny_bind (wpAny_isInstance (T := "StopIteration") (b := true) ⟨o, ho, hc⟩ isSubtype_stop ?_)
    exact wpAny_pure (hQ _ hk)
  unfold pyNext
  refine wpAny_bind (wpAny_attempt (wpAny_callSpecial?_slot (name := Str.ofString "__next__") hT F.slot_zip_next (wpAny_call_entry F.slot_zip_next hT F.entry_zip_next ?_ (F.args_zip_next_1 _))))
  show wpAny _ _ (field (.ref z) 2 >>= _) _ _ _
  refine wpAny_bind (wpAny_field hz rfl (x := .bool false) rfl ?_)
  show wpAny _ _ (field (.ref z) 3 >>= _) _ _ _
  refine wpAny_bind (wpAny_field hz rfl (x := .ref TI) rfl ?_)
  refine wpAny_bind (wpAny_seqItems hTI rfl ?_)
  show wpAny _ _ (Builtin.SmallTypes.ownedTupleIsFree (.ref z) >>= _) _ _ _
  refine wpAny_bind ?_
  unfold Builtin.SmallTypes.ownedTupleIsFree
  refine wpAny_bind (wpAny_field hz rfl (x := .none) rfl (wpAny_pure ?_))
  simp only [if_true]
  refine wpAny_bind (wpAny_rule ?_)
  refine wpAny_bind (wpAny_field hz rfl (x := .ref TO) rfl ?_)
  refine wpAny_bind (wpAny_setField_rec hz (by simp) fun g1 hz1 sb1 => ?_)
  replace hz1 : IsZip g1 z TI TO .ellipsis := hz1
  refine wpAny_bind ?_
  simp only [List.zipIdx_cons, List.zipIdx_nil, List.forIn_cons, List.forIn_nil]
  refine wpAny_bind (wpAny_bind (wpAny_onRaise ?_))
  show wpAny _ _ (Builtin.SmallTypes.nextOf (.ref i1) >>= _) _ _ _
  rcases hend with rfl | ⟨⟨j, x, rfl, hx⟩, hy⟩
  · refine wpAny_bind (nextOf_rev_end hh (h1.at fun o e => sb1.extBut _ o D.i1z e) fun g2 e sb2 he => ?_)
    obtain ⟨oe, hoe, hce⟩ := he
    have z2 : IsZip g2 z TI TO .ellipsis := sb2 _ _ D.i1z.symm hz1
    have hez : e ≠ z := fun q => by subst q; rw [z2] at hoe; cases hoe; simp at hce
    refine wpAny_setField_rec z2 (by simp) fun g3 _ sb3 => stop g3 e (fun c o c1 _ c3 _ q => sb3.extBut _ _ c1 (sb2 _ _ c3 (sb1.extBut _ _ c1 q))) ⟨oe, sb3.extBut _ _ hez hoe, hce⟩
  · refine wpAny_bind (nextOf_rev (h1.at fun o e => sb1.extBut _ o D.i1z e) (hl1.extBut sb1.extBut L1.z) hx fun g2 r2 sb2 => wpAny_pure ?_)
    have to2 : IsPair g2 TO a b := sb2.extBut _ _ D.TOi1 (sb1.extBut _ _ D.TOz hTO)
    refine wpAny_bind (wpAny_seqItems to2 rfl ?_)
    refine wpAny_bind (wpAny_updateSeq_pair to2 fun g3 to3 sb3 => ?_)
    refine wpAny_bind (wpAny_letGo (wpAny_pure ?_))
    refine wpAny_bind (wpAny_bind (wpAny_onRaise ?_))
    show wpAny _ _ (Builtin.SmallTypes.nextOf (.ref i2) >>= _) _ _ _
    refine wpAny_bind (wpAny_nextOf_list_end hh (((h2.extBut sb1.extBut D.i2z).extBut sb2.extBut D.i12.symm).extBut sb3.extBut D.TOi2.symm)
      (((hl2.extBut sb1.extBut L2.z).extBut sb2.extBut L2.i1).extBut sb3.extBut L2.TO) hy fun g4 e sb4 he => ?_)
    obtain ⟨oe, hoe, hce⟩ := he
    have z4 : IsZip g4 z TI TO .ellipsis := sb4 _ _ D.i2z.symm (sb3.extBut _ _ D.TOz.symm (sb2.extBut _ _ D.i1z.symm hz1))
    have hez : e ≠ z := fun q => by subst q; rw [z4] at hoe; cases hoe; simp at hce
    refine wpAny_setField_rec z4 (by simp) fun g5 _ sb5 => stop g5 e (fun c o c1 c2 c3 c4 q => sb5.extBut _ _ c1 (sb4 _ _ c4 (sb3.extBut _ _ c2 (sb2.extBut _ _ c3 (sb1.extBut _ _ c1 q))))) ⟨oe, sb5.extBut _ _ hez hoe, hce⟩
end
end L2

set_option Elab.async false
set_option linter.all false
set_option maxRecDepth 100000
namespace L2
open PySem PySem.Spec PyProof.Rows

abbrev zrA (h : Heap) (l2 : Addr) : Heap := h.push { cls := .type "list_iterator", data := .fields #[.ref l2, .int 0 0] }
abbrev zrB (h : Heap) (r l2 : Addr) : Heap := (zrA h l2).push { cls := .type "tuple", data := .seq #[.ref r, .ref h.objs.size] }
abbrev zrC (h : Heap) (r l2 : Addr) : Heap := (zrB h r l2).push { cls := .type "tuple", data := .seq #[.none, .none] }
abbrev zrD (h : Heap) (r l2 : Addr) : Heap := (zrC h r l2).push { cls := .type "zip", data := .fields #[.none, .bool false, .bool false, .ref (zrA h l2).objs.size, .ref (zrB h r l2).objs.size] }
theorem meets_zip_rev (r l1 l2 : Addr) (k : Int) (ys : Array Value) :
    Meets (Builtin.«zip.__new__» ⟨[.type "zip", .ref r, .ref l2], []⟩) (fun _ R s => s.heap.IsRevIter r l1 k ∧ s.heap.IsList l2 ys ∧ R (.ok (.ret (.ref (zrC s.heap r l2).objs.size))) { s with heap := zrD s.heap r l2 }) :=
  .of_wp fun prog w A R s h => by
    obtain ⟨hp, g, d, tk, os⟩ := s
    obtain ⟨hr, hl2, h⟩ := h
    have hsub := sub_zip
    have hR : Heap.IsRevIter (Shared.heap ⟨hp, g, d, tk, os⟩) r l1 k := hr
    have hL2 : Heap.IsList (Shared.heap ⟨hp, g, d, tk, os⟩) l2 ys := hl2
    wp_walk using wpAny_pyIter_revIter hR, wpAny_pyIter_list hL2
    exact ⟨_, rfl, h⟩
section
variable {prog : Program} {w : World} {A : Around} {E : Value → Shared → Prop} {s : Shared}
theorem call_zip_rev {r l1 l2 : Addr} {k : Int} {ys : Array Value} {Q : Value → Shared → Prop} (hr : s.heap.IsRevIter r l1 k) (hl2 : s.heap.IsList l2 ys)
    (h : ∀ h', IsZip h' (s.heap.objs.size + 3) (s.heap.objs.size + 1) (s.heap.objs.size + 2) .none → IsPair h' (s.heap.objs.size + 1) (.ref r) (.ref s.heap.objs.size) →
      IsPair h' (s.heap.objs.size + 2) .none .none → h'.IsListIter s.heap.objs.size l2 0 → (∀ c o, s.heap.get? c = some o → h'.get? c = some o) → Q (.ref (s.heap.objs.size + 3)) { s with heap := h' }) :
    wpAny (model prog w) A (call (.type "zip") [.ref r, .ref l2]) Q E s := by
  refine callType_new F.called_zip (by decide) (F.typeCall_zip_2 _ _) (F.newCall_zip_2 _ _) (fun obj => F.args_object_init_3 obj _ _) F.entry_zip_new (meets_zip_rev r l1 l2 k ys) ⟨hr, hl2, ?_⟩
  have z1 : (zrA s.heap l2).objs.size = s.heap.objs.size + 1 := Heap.size_push ..
  have z2 : (zrB s.heap r l2).objs.size = s.heap.objs.size + 2 := by rw [Heap.size_push, z1]
  have z3 : (zrC s.heap r l2).objs.size = s.heap.objs.size + 3 := by rw [Heap.size_push, z2]
  have g4 : (zrD s.heap r l2).get? (zrC s.heap r l2).objs.size = some _ := Heap.get?_push_size _ rfl
  have g3 : (zrD s.heap r l2).get? (zrB s.heap r l2).objs.size = some _ := Heap.get?_push_of_some _ (Heap.get?_push_size _ rfl)
  have g2 : (zrD s.heap r l2).get? (zrA s.heap l2).objs.size = some _ := Heap.get?_push_of_some _ (Heap.get?_push_of_some _ (Heap.get?_push_size _ rfl))
  have g1 : (zrD s.heap r l2).get? s.heap.objs.size = some _ := Heap.get?_push_of_some _ (Heap.get?_push_of_some _ (Heap.get?_push_of_some _ (Heap.get?_push_size _ rfl)))
  show _ ∧ _
  rw [z1, z2, z3] at g4
  rw [z2] at g3
  rw [z1] at g2
  rw [z3]
  exact ⟨⟨_, g4, rfl⟩, h _ g4 g2 g3 ⟨_, g1, rfl, rfl⟩ fun c o x => Heap.get?_push_of_some _ (Heap.get?_push_of_some _ (Heap.get?_push_of_some _ (Heap.get?_push_of_some _ x)))⟩
end

/-- the turns of zip(reversed(l1), l2); n is the length of l1 -/
def Itz (K : PySem.W.Frag) (l1 l2 : Addr) (n : Nat) : It :=
  ⟨fun i H => ∃ xs ys x y, SqL K H l1 xs ∧ SqL K H l2 ys ∧ xs.length = n ∧ xs.reverse[i]? = some x ∧ ys[i]? = some y,
   fun i H v H' => ∃ p, H p = none ∧ v = .ref p ∧ ∀ xs ys x y, SqL K H l1 xs → SqL K H l2 ys → xs.reverse[i]? = some x → ys[i]? = some y → H' = upd H p (.tup [x, y]),
   fun i H => ∃ xs ys, SqL K H l1 xs ∧ SqL K H l2 ys ∧ xs.length = n ∧ i ≤ n ∧ (i = n ∨ ys.length ≤ i)⟩
theorem zl_of {z TI TO i1 i2 l : Addr} {X : Cx} {pins : List (Addr × Obj)} {σ : St} {H : Hp} {s : Shared} {xs : List V} (I : Inv X pins σ H s) (hq : SqL X.K H l xs) (hf : ∀ b ∈ [z, TI, TO, i1, i2], FpOk X pins H b)
    (ho : ∀ b ∈ [z, TI, TO, i1, i2], ∃ o, s.heap.get? b = some o ∧ o.cls ≠ .type "list") : ZL z TO i1 i2 l := by
  have ne : ∀ b ∈ [z, TI, TO, i1, i2], l ≠ b := fun b hb q => by
    obtain ⟨o, e, c⟩ := ho b hb
    obtain ⟨its, _, ⟨o', n, e', c', _⟩, _⟩ := I.list hq
    rw [q, e] at e'
    cases e'
    exact c c'
  exact ⟨ne z (by simp), ne TO (by simp), ne i1 (by simp), ne i2 (by simp)⟩
theorem turn_zip {P : Program} {w : World} {K : PySem.W.Frag} {elts : List Expr} {k : Nat} {tp : Pos} (z TI TO i1 i2 l1 l2 : Addr) (n : Nat) (D : ZA z TI TO i1 i2) :
    Turn P w K (.Tuple elts k tp) (Itz K l1 l2 n) [z, TI, TO, i1, i2] z (fun i h => IsZip h z TI TO .none ∧ IsPair h TI (.ref i1) (.ref i2) ∧ (∃ a b, IsPair h TO a b) ∧ h.IsRevIter i1 l1 ((n : Int) - 1 - (i : Nat)) ∧ h.IsListIter i2 l2 i) := by
  have cls : ∀ {i : Nat} {h : Heap}, (IsZip h z TI TO .none ∧ IsPair h TI (.ref i1) (.ref i2) ∧ (∃ a b, IsPair h TO a b) ∧ h.IsRevIter i1 l1 ((n : Int) - 1 - (i : Nat)) ∧ h.IsListIter i2 l2 i) →
      ∀ b ∈ [z, TI, TO, i1, i2], ∃ o, h.get? b = some o ∧ o.cls ≠ .type "list" ∧ ∀ v, o.data ≠ .cell v := fun {i h} st b hb => by
    obtain ⟨h1, h2, ⟨a, c, h3⟩, ⟨o4, h4, c4, d4⟩, ⟨o5, h5, c5, d5⟩⟩ := st
    simp only [List.mem_cons, List.not_mem_nil, or_false] at hb
    rcases hb with rfl | rfl | rfl | rfl | rfl
    · exact ⟨_, h1, (by show Value.type "zip" ≠ Value.type "list"; decide +kernel), fun v q => by cases (show Data.fields _ = Data.cell v from q)⟩
    · exact ⟨_, h2, (by show Value.type "tuple" ≠ Value.type "list"; decide +kernel), fun v q => by cases (show Data.seq _ _ = Data.cell v from q)⟩
    · exact ⟨_, h3, (by show Value.type "tuple" ≠ Value.type "list"; decide +kernel), fun v q => by cases (show Data.seq _ _ = Data.cell v from q)⟩
    · exact ⟨o4, h4, by rw [c4]; decide +kernel, fun v q => by rw [d4] at q; cases q⟩
    · exact ⟨o5, h5, by rw [c5]; decide +kernel, fun v q => by rw [d5] at q; cases q⟩
  refine ⟨by simp, fun i h st b hb => ?_, fun i h h' st kk => ?_, ?_, ?_, fun _ _ _ _ _ st h => wpAny_pyIter_zip st.1 h⟩
  · obtain ⟨o, e, _, d⟩ := cls st b hb
    exact ⟨o, e, d⟩
  · obtain ⟨h1, h2, ⟨a, c, h3⟩, h4, h5⟩ := st
    exact ⟨kk z (by simp) _ h1, kk TI (by simp) _ h2, ⟨a, c, kk TO (by simp) _ h3⟩, h4.at fun o q => kk i1 (by simp) o q, h5.at fun o q => kk i2 (by simp) o q⟩
  · intro X hP hw hK hc i pins s σ H E I hf st hg
    subst hP hw hK
    obtain ⟨xs, ys, x, y, hq1, hq2, hn, hx, hy⟩ := hg
    have L1 := zl_of I hq1 hf fun b hb => let ⟨o, e, c, _⟩ := cls st b hb; ⟨o, e, c⟩
    have L2 := zl_of I hq2 hf fun b hb => let ⟨o, e, c, _⟩ := cls st b hb; ⟨o, e, c⟩
    have lt : ∀ b ∈ [z, TI, TO, i1, i2], b < s.heap.objs.size := fun b hb => let ⟨o, e, _⟩ := cls st b hb; Heap.lt_size e
    obtain ⟨h1, h2, ⟨a, c, h3⟩, h4, h5⟩ := st
    obtain ⟨its, rv, p, hz⟩ := I.list hq1
    obtain ⟨its2, rv2, p2, hz2⟩ := I.list hq2
    obtain ⟨hi, hx'⟩ := rev_get hx
    obtain ⟨u, hu, ru⟩ := rv.get hx'
    obtain ⟨v, hv, rv'⟩ := rv2.get hy
    have e : (n : Int) - 1 - (i : Nat) = ((xs.length - 1 - i : Nat) : Int) := by omega
    rw [e] at h4
    refine zr_item D L1 L2 h1 h2 h3 h4 h5 p.isList p2.isList (x := u) (y := v) (by simpa using hu) (by simpa using hv) fun h' a1 a2 a3 a4 a5 a6 kk => ⟨_, rfl, ?_⟩
    have I1 : Inv X pins σ H { s with heap := h' } := I.turnedL (t' := s.toks) (ch := [z, TI, TO, i1, i2]) (fun b o hb q => kk b o (fun r => hb (by simp [r])) (fun r => hb (by simp [r])) (fun r => hb (by simp [r])) (fun r => hb (by simp [r])) q) hf
    refine wpAny_letOwnedTupleGo_zip a1 fun h2' he' hs' => ?_
    have I2 := I1.turnedL (h' := h2') (t' := s.toks) (ch := [z]) (fun b o hb q => hs'.extBut b o (fun r => hb (by simp [r])) q) fun b hb => hf b (by
      rcases List.mem_singleton.mp hb with rfl
      simp)
    have nT : H s.heap.objs.size = none := I.hok.fresh (Nat.le_refl _)
    have zT : s.heap.objs.size ≠ z := Nat.ne_of_gt (lt z (by simp))
    have I3 := I2.pairAt (T := s.heap.objs.size) (a := x) (b := y) (I.fpOk (Nat.le_refl _) nT) (hs'.extBut _ _ zT a5) ru rv'
    refine ⟨.ref s.heap.objs.size, _, I3, rfl, ⟨_, nT, rfl, fun xs' ys' x' y' q1 q2 q3 q4 => ?_⟩, ⟨he', ?_, ⟨_, _, hs'.extBut _ _ D.TOz a2⟩, ?_, a4.extBut hs'.extBut D.i2z⟩, fun b hb => ?_⟩
    · have e1 := I.list_inj q1 hq1
      have e2 := I.list_inj q2 hq2
      subst e1 e2
      rw [hx] at q3
      rw [hy] at q4
      cases q3
      cases q4
      rfl
    · exact hs'.extBut _ _ D.TIz (kk _ _ D.TIz D.TITO D.TIi1 D.TIi2 h2)
    · have e2 : ((xs.length - 1 - i : Nat) : Int) - 1 = (n : Int) - 1 - ((i + 1 : Nat) : Int) := by omega
      rw [e2] at a3
      exact a3.at fun o q => hs'.extBut _ o D.i1z q
    · rw [upd_ne (Nat.ne_of_lt (lt b hb))]
      exact (hf b hb).1
  · intro X hP hw hK hc i pins s σ H E I hf st hg
    subst hP hw hK
    obtain ⟨xs, ys, hq1, hq2, hn, hin, hend⟩ := hg
    have L1 := zl_of I hq1 hf fun b hb => let ⟨o, e, c, _⟩ := cls st b hb; ⟨o, e, c⟩
    have L2 := zl_of I hq2 hf fun b hb => let ⟨o, e, c, _⟩ := cls st b hb; ⟨o, e, c⟩
    obtain ⟨h1, h2, ⟨a, c, h3⟩, h4, h5⟩ := st
    obtain ⟨its, rv, p, hz⟩ := I.list hq1
    obtain ⟨its2, rv2, p2, hz2⟩ := I.list hq2
    have hl := rv.length
    have hl2 := rv2.length
    refine zr_end (I.ok.hd hc) D L1 L2 h1 h2 h3 h4 h5 p.isList p2.isList ?_ fun h' kk => ⟨rfl, ?_⟩
    · by_cases hi : i = n
      · exact .inl (by omega)
      · refine .inr ⟨⟨n - 1 - i, its[n - 1 - i]'(by omega), by omega, by rw [List.getElem?_toArray, List.getElem?_eq_getElem (by omega)]⟩, ?_⟩
        have q : ys.length ≤ i := by rcases hend with q | q; exact absurd q hi; exact q
        simp
        omega
    · exact I.turnedL (t' := s.toks) (ch := [z, TI, TO, i1, i2]) (fun b o hb q => kk b o (fun r => hb (by simp [r])) (fun r => hb (by simp [r])) (fun r => hb (by simp [r])) (fun r => hb (by simp [r])) q) hf

section
variable {X : Cx} {elts : List Expr} {k : Nat} {tp : Pos}
/-- zip(reversed(a), b) -/
def iZipR (K : PySem.W.Frag) (ta tb : TE) : TI := fun σ H R => ta σ H fun x H1 => ∃ a xs, x = .ref a ∧ SqL K H1 a xs ∧ tb σ H1 fun y H2 => ∃ b ys, y = .ref b ∧ SqL K H2 a xs ∧ SqL K H2 b ys ∧ R (Itz K a b xs.length) H2
theorem pi_zipR {a b : Expr} {ta tb : TE} {p p2 pos pos2 : Pos} (hg : Gl X "zip") (hm : X.mg "zip" = none) (hg2 : Gl X "reversed") (hm2 : X.mg "reversed" = none) (ha : PE X a ta) (hb : PE X b tb)
    (hs : starEach [.Call (.Name "reversed" p2) [a] [] pos2, b] X.env = (false, eval (.Call (.Name "reversed" p2) [a] [] pos2) X.env) :: starEach [b] X.env := by rfl)
    (hs2 : starEach [b] X.env = [(false, eval b X.env)] := by rfl) (hs3 : starEach [a] X.env = [(false, eval a X.env)] := by rfl) :
    PI X (.Tuple elts k tp) (.Call (.Name "zip" p) [.Call (.Name "reversed" p2) [a] [] pos2, b] [] pos) (iZipR X.K ta tb) := by
  intro pins s σ H R I h
  have hA : PA X [a] (tCons ta tNil) := pa_cons ha pa_nil hs3
  have hB : PA X [b] (tCons tb tNil) := pa_cons hb pa_nil hs2
  refine Call_ (ld_blt I hg hm boot_zip (PyProof.Rows.callWith_type1 (Q := fun v s1 => wpAny (model X.prog X.w) X.A (pyIter v) (PIE X pins σ (.Tuple elts k tp) R) X.xe s1) ?_ hs (by rw [hs2]; rfl)))
  rw [hs]
  show wpAny _ _ (spliced ((false, eval (.Call (.Name "reversed" p2) [a] [] pos2) X.env) :: backTo pos (starEach [b] X.env))) _ _ s
  refine Calls.spliced_cons ?_
  refine Call_ (ld_blt I hg2 hm2 (by decide +kernel : bootBuiltins "reversed" = some (.type "reversed")) (PyProof.Rows.callWith_type1 (thn (hA pos2 pins s σ H (fun vs H1 => match vs with
      | [x] => ∃ a xs, x = .ref a ∧ SqL X.K H1 a xs ∧ tb σ H1 fun y H2 => ∃ b ys, y = .ref b ∧ SqL X.K H2 a xs ∧ SqL X.K H2 b ys ∧ R (Itz X.K a b xs.length) H2
      | _ => False) I h) fun us s1 ⟨vs, H1, I1, r1, q1⟩ => ?_) hs3 rfl))
  match vs, q1 with
  | [x], q1 =>
    obtain ⟨l1, xs, e2, hq, q⟩ := q1
    subst e2
    obtain ⟨u, rfl, ru⟩ := vals1 r1
    cases ru
    obtain ⟨its, rv, pl, hz⟩ := I1.list hq
    have hlen := rv.length
    refine call_reversed_list pl.isList ?_
    have eR : (s1.heap.push (revObj l1 ((its.toArray.size : Int) - 1))).get? s1.heap.objs.size = some (revObj l1 ((xs.length : Int) - 1)) := by
      rw [Heap.get?_push_size _ rfl, List.size_toArray, hlen]
    have n1 : H1 s1.heap.objs.size = none := I1.hok.fresh (Nat.le_refl _)
    have f1 : FpOk X pins H1 s1.heap.objs.size := I1.fpOk (Nat.le_refl _) n1
    have I2 : Inv X (pins ++ [(s1.heap.objs.size, revObj l1 ((xs.length : Int) - 1))]) σ H1 { s1 with heap := s1.heap.push (revObj l1 ((its.toArray.size : Int) - 1)) } := by
      refine (I1.kept (h' := s1.heap.push (revObj l1 ((its.toArray.size : Int) - 1))) (t' := s1.toks) fun b o q => Heap.get?_push_of_some _ q).pins_of fun pp hp => ?_
      rcases List.mem_append.mp hp with z | z
      · obtain ⟨w1, w2⟩ := I1.pin pp (List.mem_append_right _ z)
        exact ⟨Heap.get?_push_of_some _ w1, w2⟩
      · have ep : pp = (s1.heap.objs.size, revObj l1 ((xs.length : Int) - 1)) := by simpa using z
        rw [ep]
        exact ⟨eR, n1, f1.2.1, f1.2.2.1, fun v q => by cases (show Data.fields _ = Data.cell v from q)⟩
    refine thn (hB pos _ _ σ H1 (fun vs H2 => match vs with
      | [y] => ∃ b ys, y = .ref b ∧ SqL X.K H2 l1 xs ∧ SqL X.K H2 b ys ∧ R (Itz X.K l1 b xs.length) H2
      | _ => False) I2 q) fun us2 s3 ⟨vs2, H3, I3, r3, q3⟩ => ?_
    match vs2, q3 with
    | [y], q3 =>
      obtain ⟨l2, ys, e3, hq1, hq2, qR⟩ := q3
      subst e3
      obtain ⟨u2, rfl, ru2⟩ := vals1 r3
      cases ru2
      have pn := I3.pin (s1.heap.objs.size, revObj l1 ((xs.length : Int) - 1)) (List.mem_append_right _ (List.mem_append_right _ (List.mem_singleton.mpr rfl)))
      have I4 : Inv X pins σ H3 s3 := I3.unpinned
      have hr : s3.heap.IsRevIter s1.heap.objs.size l1 ((xs.length : Int) - 1 - ((0 : Nat) : Int)) := by
        have e0 : (xs.length : Int) - 1 - ((0 : Nat) : Int) = (xs.length : Int) - 1 := by simp
        rw [e0]
        exact ⟨_, pn.1, rfl, rfl⟩
      obtain ⟨its2, rv2, pl2, hz2⟩ := I4.list hq2
      have rlt : s1.heap.objs.size < s3.heap.objs.size := Heap.lt_size pn.1
      refine call_zip_rev hr pl2.isList fun h' a1 a2 a3 a4 kk => ?_
      refine wpAny_pyIter_zip a1 ?_
      have I5 : Inv X pins σ H3 { s3 with heap := h' } := I4.kept (t' := s3.toks) kk
      have ne : ∀ {x y : Nat}, x < y → x ≠ y := fun h => Nat.ne_of_lt h
      have D : ZA (s3.heap.objs.size + 3) (s3.heap.objs.size + 1) (s3.heap.objs.size + 2) s1.heap.objs.size s3.heap.objs.size :=
        ⟨ne (by omega), ne (by omega), ne (by omega), ne (by omega), ne (by omega), (ne (by omega)).symm, (ne (by omega)).symm, (ne (by omega)).symm, (ne (by omega)).symm, ne rlt⟩
      refine ⟨s3.heap.objs.size + 3, [s3.heap.objs.size + 3, s3.heap.objs.size + 1, s3.heap.objs.size + 2, s1.heap.objs.size, s3.heap.objs.size], _, _, H3, rfl, I5, turn_zip _ _ _ _ _ l1 l2 xs.length D, ⟨a1, a2, ⟨_, _, a3⟩, hr.at fun o q => kk _ o q, a4⟩, fun c hc => ?_, qR⟩
      have fresh : ∀ j, FpOk X pins H3 (s3.heap.objs.size + j) := fun j => I4.fpOk (Nat.le_add_right _ _) (I4.hok.fresh (Nat.le_add_right _ _))
      simp only [List.mem_cons, List.not_mem_nil, or_false] at hc
      rcases hc with rfl | rfl | rfl | rfl | rfl
      · exact fresh 3
      · exact fresh 1
      · exact fresh 2
      · exact ⟨pn.2.1, f1.2⟩
      · exact fresh 0
end
theorem comp_zipR {K : PySem.W.Frag} {a b : Addr} {xs ys : List V} {σ0 : St} {te : TE} {H1 : Hp} {R : List V → Hp → Prop} (hq1 : SqL K H1 a xs) (hq2 : SqL K H1 b ys) (f : Nat → V) (hz : xs.length ≤ sizeLine)
    (ht : ∀ i x y H, xs.reverse[i]? = some x → ys[i]? = some y → Same H1 H → te ((σ0.set 0 (some x)).set 1 (some y)) H fun v H3 => (List.range i).map f ++ [v] = (List.range (i + 1)).map f ∧ Same H1 H3)
    (hR : ∀ H, Same H1 H → R ((List.range (min xs.length ys.length)).map f) H) : CompR (Itz K a b xs.length) σ0 (gPair K) te H1 R := by
  have m1 : min xs.length ys.length ≤ xs.length := Nat.min_le_left _ _
  have m2 : min xs.length ys.length ≤ ys.length := Nat.min_le_right _ _
  refine comp_by (min xs.length ys.length) f (Nat.le_trans m1 hz) (fun i H hi sm => ?_) (fun H sm => ⟨xs, ys, sm.seq hq1, sm.seq hq2, rfl, m1, ?_⟩) (fun i H x H' hi sm y => ?_) hR
  · have h1 : i < xs.reverse.length := by rw [List.length_reverse]; omega
    exact ⟨xs, ys, xs.reverse[i], ys[i]'(by omega), sm.seq hq1, sm.seq hq2, rfl, List.getElem?_eq_getElem h1, List.getElem?_eq_getElem (by omega)⟩
  · omega
  · have h1 : i < xs.reverse.length := by rw [List.length_reverse]; omega
    have h2 : i < ys.length := by omega
    obtain ⟨p, hp, e1, e2⟩ := y
    have e3 := e2 xs ys _ _ (sm.seq hq1) (sm.seq hq2) (List.getElem?_eq_getElem h1) (List.getElem?_eq_getElem h2)
    subst e1 e3
    exact pair_go upd_same (ht i _ _ _ (List.getElem?_eq_getElem h1) (List.getElem?_eq_getElem h2) (sm.trans (same_new hp _)))
end L2

set_option Elab.async false
set_option linter.all false
set_option maxRecDepth 100000
namespace L2
open PySem PySem.Spec PyProof.Rows

/-! ### reversed(range(n)) -/
section
variable {prog : Program} {w : World} {A : Around} {E : Value → Shared → Prop} {s : Shared}
end
section
variable {X : Cx} {tg : Expr}
end
end L2

set_option Elab.async false
set_option linter.all false
set_option maxRecDepth 100000
/-! exceptions: the trace's entries, step by step, at the level of the heap -/
namespace L2
open PySem PySem.Spec PyProof.Rows
/-- frames change in their slots alone, ch may change, all else stays -/
structure MvR (fr ch : List Addr) (h h' : Heap) : Prop where
  keep : ∀ b o, h.get? b = some o → b ∉ ch → b ∉ fr → h'.get? b = some o
  slot : ∀ b o, h.get? b = some o → b ∈ fr → ∃ sl, h'.get? b = some { o with slots := sl }
theorem MvR.trans {fr ch ch2 ch3 : List Addr} {h h1 h2 : Heap} (a : MvR fr ch h h1) (b : MvR fr ch2 h1 h2) (h3 : ∀ x ∈ ch, x ∈ ch3) (h4 : ∀ x ∈ ch2, x ∈ ch3 ∨ h.get? x = none) : MvR fr ch3 h h2 where
  keep := fun x o e hc hf => b.keep x o (a.keep x o e (fun z => hc (h3 x z)) hf) (fun z => (h4 x z).elim hc fun n => by rw [n] at e; cases e) hf
  slot := fun x o e hf => by
    obtain ⟨s1, e1⟩ := a.slot x o e hf
    obtain ⟨s2, e2⟩ := b.slot x _ e1 hf
    exact ⟨s2, e2⟩
/-- an exception and the head of its trace; fl: the frame that has it in flight -/
def TrR (h : Heap) (ea T : Addr) (cls fl : Value) : Prop :=
  ∃ (oe : Obj) (vs : Array Value) (oT : Obj) (ts : Array Value), h.get? ea = some oe ∧ (oe.cls = cls ∧ oe.dict = none) ∧ oe.data = .fields vs ∧ vs[1]? = some (.ref T) ∧ vs[2]? = some .none ∧ T ≠ ea ∧ h.get? T = some oT ∧ oT.data = .fields ts ∧ ts[3]? = some fl
theorem dict_mapFields (o : Obj) (f : Array Value → Array Value) : (o.mapFields f).dict = o.dict := by
  obtain ⟨c, d, dt, sl⟩ := o
  cases dt <;> rfl
section
variable {M : Model} {A : Around} {E : Value → Shared → Prop} {s : Shared} {Q : Unit → Shared → Prop} {base : Heap} {env : Env} {outer : List Env} {L ea T : Addr} {oe : Obj} {vs : Array Value} {cls fl : Value}
theorem entry_laid {head : Value} {had : Bool} (hfr : A.frames = some (env :: outer)) (hl : s.heap.FunFrames base (env :: outer)) (hf : env.frame = some L) (he : s.heap.get? ea = some oe) (hd : oe.data = .fields vs) (h2 : vs[2]? = some .none) (hdi : oe.dict = none)
    (h : ∀ (h' : Heap) (T : Addr), MvR (frs (env :: outer)) [ea] s.heap h' → s.heap.get? T = none → TrR h' ea T oe.cls (rawInt L) → Q () { s with heap := h' }) :
    wpAny M A (do let a ← frameOf env; let pl ← entryPlaceOf L had; let b ← EntryCells.newEntry head a .none (rawInt L) .none pl; setField (.ref ea) 1 b) Q E s := by
  have sz : 2 < vs.size := (Array.getElem?_eq_some_iff.mp h2).1
  have nf : ea ∉ frs (env :: outer) := fun z => by
    obtain ⟨_, o, e, hn⟩ := hl.mem z
    rw [he] at e
    cases e
    exact hn vs hd
  refine wpAny_bind (wpAny_frameOf_fun hfr hl hf fun h1 so => ?_)
  refine wpAny_bind (wpAny_entryPlaceOf fun pl hpl => ?_)
  unfold EntryCells.newEntry newFields
  refine wpAny_bind (wpAny_newObj_type ?_ (hpl.sizeOk5 _ _ _ _ _))
  have e1 : h1.get? ea = some oe := (so.2.1 ea nf).trans he
  generalize hO : ({ cls := .type "traceback", dict := none, data := .fields ([head, .ref L, .none, rawInt L, .none] ++ (if pl.isEmpty then List.replicate 6 Value.none else pl)).toArray } : Obj) = O
  have hOd : O.data = .fields ([head, .ref L, .none, rawInt L, .none] ++ (if pl.isEmpty then List.replicate 6 Value.none else pl)).toArray := by rw [← hO]
  have hOf : O.isFreed = false := Obj.isFreed_of_fields hOd
  have e2 : (h1.push O).get? ea = some oe := Heap.get?_push_of_some _ e1
  refine wpAny_setField e2 hd (by omega) (h _ h1.objs.size ?_ ?_ ?_)
  · refine ⟨fun b o e hc hb => ?_, fun b o e hb => ?_⟩
    · rw [Heap.get?_update_other _ _ (fun z => hc (by simp [z]))]
      exact Heap.get?_push_of_some _ ((so.2.1 b hb).trans e)
    · obtain ⟨sl, q⟩ := so.2.2 b o e
      refine ⟨sl, ?_⟩
      rw [Heap.get?_update_other _ _ (fun (z : ea = b) => nf (by rw [z]; exact hb))]
      exact Heap.get?_push_of_some _ q
  · cases q : s.heap.get? h1.objs.size with
    | none => rfl
    | some o =>
      obtain ⟨sl, q2⟩ := so.2.2 _ o q
      exact absurd (Heap.lt_size q2) (Nat.lt_irrefl _)
  · have hne : h1.objs.size ≠ ea := Nat.ne_of_gt (Heap.lt_size e1)
    have d3 := Obj.data_mapFields hd (·.setIfInBounds 1 (Value.ref h1.objs.size))
    refine ⟨_, _, O, _, Heap.get?_update_self _ e2 (Obj.isFreed_of_fields d3), ⟨Obj.cls_mapFields _ _, (dict_mapFields _ _).trans hdi⟩, d3, by simp [show 1 < vs.size by omega], ?_, hne, ?_, hOd, by simp⟩
    · rw [Array.getElem?_setIfInBounds_ne (by decide)]
      exact h2
    · rw [Heap.get?_update_other _ _ (Ne.symm hne)]
      exact Heap.get?_push_at rfl hOf
/-- the first entry -/
theorem note_made (hfr : A.frames = some (env :: outer)) (hl : s.heap.FunFrames base (env :: outer)) (hf : env.frame = some L) (he : s.heap.get? ea = some oe) (hd : oe.data = .fields vs) (h1 : vs[1]? = some .none) (h2 : vs[2]? = some .none) (hdi : oe.dict = none)
    (h : ∀ (h' : Heap) (T : Addr), MvR (frs (env :: outer)) [ea] s.heap h' → s.heap.get? T = none → TrR h' ea T oe.cls (rawInt L) → Q () { s with heap := h' }) : wpAny M A (noteFrame (.ref ea) env) Q E s := by
  unfold noteFrame
  simp only [hf]
  refine wpAny_bind (wpAny_field he hd h1 ?_)
  rw [if_neg (by decide)]
  exact entry_laid hfr hl hf he hd h2 hdi h
/-- a further entry -/
theorem note_next (hfr : A.frames = some (env :: outer)) (hl : s.heap.FunFrames base (env :: outer)) (hf : env.frame = some L) (t : TrR s.heap ea T cls .none)
    (h : ∀ (h' : Heap) (T' : Addr), MvR (frs (env :: outer)) [ea, T] s.heap h' → s.heap.get? T' = none → TrR h' ea T' cls (rawInt L) → Q () { s with heap := h' }) : wpAny M A (noteFrame (.ref ea) env) Q E s := by
  obtain ⟨oe, vs, oT, ts, x1, ⟨rfl, xd⟩, x3, x4, x5, x6, x7, x8, x9⟩ := t
  have sz := (Array.getElem?_eq_some_iff.mp x9).1
  unfold noteFrame
  simp only [hf]
  refine wpAny_bind (wpAny_field x1 x3 x4 ?_)
  rw [if_pos (show (Value.ref T != Value.none) = true by simp)]
  refine wpAny_bind (wpAny_field x7 x8 x9 ?_)
  rw [if_neg (show ¬ ((Value.none == rawInt L) = true) by simp [rawInt])]
  refine wpAny_bind (wpAny_setField x7 x8 sz ?_)
  have oth : ∀ b, b ≠ T → (s.heap.update T (Obj.mapFields (·.setIfInBounds 3 Value.none))).get? b = s.heap.get? b := fun b hb => Heap.get?_update_other _ _ (Ne.symm hb)
  have nT : T ∉ frs (env :: outer) := fun z => by
    obtain ⟨_, o, e, hn⟩ := hl.mem z
    rw [x7] at e
    cases e
    exact hn ts x8
  have up : (s.heap.update T (Obj.mapFields (·.setIfInBounds 3 Value.none))).get? T = some (oT.mapFields (·.setIfInBounds 3 Value.none)) := Heap.get?_update_self _ x7 (Obj.isFreed_of_fields (Obj.data_mapFields x8 _))
  refine entry_laid (s := { s with heap := s.heap.update T (Obj.mapFields (·.setIfInBounds 3 Value.none)) }) hfr (hl.of_keeps fun b o e hn => ⟨o, (oth b fun z => ?_).trans e, rfl⟩) hf ((oth ea (Ne.symm x6)).trans x1) x3 x5 xd fun h' T' m n t => ?_
  · rw [z, x7] at e
    cases e
    exact hn ts x8
  · refine h h' T' ⟨fun b o e hc hb => m.keep b o ((oth b fun z => hc (by simp [z])).trans e) (fun z => hc (by rw [List.mem_singleton.mp z]; simp)) hb, fun b o e hb => m.slot b o ((oth b fun z => nT (z ▸ hb)).trans e) hb⟩ ?_ t
    by_cases c : T' = T
    · rw [c] at n
      have n' : (s.heap.update T (Obj.mapFields (·.setIfInBounds 3 Value.none))).get? T = none := n
      rw [up] at n'
      cases n'
    · exact (oth T' c).symm.trans n
/-- the flight's end -/
theorem flight_end {fr : List Addr} (t : TrR s.heap ea T cls fl) (hn : T ∉ fr) (h : ∀ h' : Heap, MvR fr [T] s.heap h' → TrR h' ea T cls .none → Q () { s with heap := h' }) : wpAny M A (setFlight (.ref ea) none) Q E s := by
  obtain ⟨oe, vs, oT, ts, x1, ⟨rfl, xd⟩, x3, x4, x5, x6, x7, x8, x9⟩ := t
  have sz := (Array.getElem?_eq_some_iff.mp x9).1
  unfold setFlight
  refine wpAny_bind (wpAny_field x1 x3 x4 ?_)
  rw [if_pos (show (Value.ref T != Value.none) = true by simp)]
  refine wpAny_setField x7 x8 sz (h _ ?_ ?_)
  · exact ⟨fun b o e hc _ => (Heap.get?_update_other _ _ fun z => hc (by simp [z])).trans e, fun b o e hb => ⟨o.slots, (Heap.get?_update_other _ _ fun (z : T = b) => hn (by rw [z]; exact hb)).trans e⟩⟩
  · exact ⟨oe, vs, _, _, (Heap.get?_update_other _ _ x6).trans x1, ⟨rfl, xd⟩, x3, x4, x5, x6, Heap.get?_update_self _ x7 (Obj.isFreed_of_fields (Obj.data_mapFields x8 _)), Obj.data_mapFields x8 _, by simp [sz]⟩
end
end L2

set_option Elab.async false
set_option linter.all false
set_option maxRecDepth 100000
/-! exceptions: how one lies behind a call, how it leaves a def -/
namespace L2
open PySem PySem.Spec PyProof.Rows

/-- an exception on its way: its class; it and its trace are new since h0, and untracked -/
def Trac (h0 : Heap) (H : Hp) (h : Heap) (ea : Addr) (cls : Value) : Prop := ∃ T : Addr, TrR h ea T cls .none ∧ (h0.get? ea = none ∧ h0.get? T = none) ∧ H ea = none ∧ H T = none
theorem none_back {h0 h1 : Heap} {b : Addr} (k : ∀ b o, h0.get? b = some o → ∃ o', h1.get? b = some o') (e : h1.get? b = none) : h0.get? b = none := by
  cases q : h0.get? b with
  | none => rfl
  | some o =>
    obtain ⟨o', e'⟩ := k b o q
    rw [e] at e'
    cases e'
theorem Trac.back {h0 h1 h : Heap} {H : Hp} {ea : Addr} {cls : Value} (t : Trac h1 H h ea cls) (k : ∀ b o, h0.get? b = some o → ∃ o', h1.get? b = some o') : Trac h0 H h ea cls := by
  obtain ⟨T, x, ⟨y1, y2⟩, z⟩ := t
  exact ⟨T, x, ⟨none_back k y1, none_back k y2⟩, z⟩
/-- how an exception lies behind a call -/
def CX1 (P : Program) (w : World) : CXT := fun outer H s E e s' => ∃ (ea : Addr) (cls : Value) (H' : Hp), e = .ref ea ∧ s'.os = s.os ∧ AllBare s'.gens ∧ Un (frs outer) [] H H' s.heap s'.heap ∧ HOk P w H' s'.heap ∧ Trac s.heap H' s'.heap ea cls ∧ E cls none H'
theorem ObjOk.has {P : Program} {w : World} {H : Hp} {h : Heap} {a : Addr} {o : HO} (x : ObjOk P w H h a o) : ∃ u, h.get? a = some u := by
  cases o with
  | lst _ => obtain ⟨_, _, _, _, q⟩ := x; exact ⟨_, q⟩
  | tup _ => obtain ⟨_, _, _, _, q, _⟩ := x; exact ⟨_, q⟩
  | dK _ => obtain ⟨_, _, _, _, _, _, _, q, _⟩ := x; exact ⟨_, q⟩
  | dT _ => obtain ⟨_, _, _, _, _, _, _, q, _⟩ := x; exact ⟨_, q⟩
  | set _ _ => obtain ⟨_, _, _, _, q, _⟩ := x; exact ⟨_, q⟩
  | ins _ _ _ => obtain ⟨_, _, _, q, _⟩ := x; exact ⟨_, q⟩
  | own _ => exact x
  | xd _ => obtain ⟨_, ⟨_, _, _, q, _⟩, _⟩ := x; exact ⟨_, q⟩
  | rng _ _ => obtain ⟨_, _, _, q⟩ := x; exact ⟨_, q⟩
  | frz _ _ => exact ⟨_, x.1⟩
  | tbl _ => exact ⟨_, x⟩
  | met _ _ => exact ⟨_, x⟩
  | ext _ => exact x.2.1
section
variable {X : Cx} {pins : List (Addr × Obj)} {σ : St} {H H' : Hp} {s s' : Shared} {ea : Addr} {cls : Value} {h' : Heap}
/-- only frames' slots, and some untracked new records, have changed -/
structure Moved (X : Cx) (H : Hp) (h h' : Heap) (ch : List Addr) : Prop where
  keep : ∀ b o, h.get? b = some o → b ∉ ch → b ∉ frs X.stack → h'.get? b = some o
  slot : ∀ b o, h.get? b = some o → b ∈ frs X.stack → ∃ sl, h'.get? b = some { o with slots := sl }
  new : ∀ b ∈ ch, X.s₀.heap.get? b = none ∧ H b = none
theorem Moved.un {ch : List Addr} (J : Inv X pins σ H s) (hex : X.ex = []) (m : Moved X H s.heap h' ch) : Un X.fs [] X.H₀ H X.s₀.heap h' := by
  have U := J.base
  rw [hex] at U
  have nc : ∀ b o, X.s₀.heap.get? b = some o → b ∉ ch := fun b o e z => by
    rw [(m.new b z).1] at e
    cases e
  have nf : ∀ b o, X.s₀.heap.get? b = some o → b ∉ X.fs → b ∉ frs X.stack := fun b o e hb z => by
    rcases List.mem_cons.mp (J.stkSub b z) with q | q
    · have l1 := Heap.lt_size e
      have l2 := J.ok.above
      rw [q] at l1
      exact absurd l1 (Nat.not_lt.mpr l2)
    · exact hb q
  have sl : ∀ b o, s.heap.get? b = some o → b ∉ ch → ∃ sl, h'.get? b = some { o with slots := sl } := fun b o e hc => by
    by_cases hb : b ∈ frs X.stack
    · exact m.slot b o e hb
    · exact ⟨o.slots, m.keep b o e hc hb⟩
  refine ⟨fun b o e n hb hx => m.keep b o (U.keep b o e n hb hx) (nc b o e) (nf b o e hb), fun b o e n hb hx => ?_, fun b o e n hx => U.free b o e n hx, fun b o e hx => ?_, U.tups, U.frzs, U.tbls⟩
  · obtain ⟨sl1, q⟩ := U.slot b o e n hb hx
    obtain ⟨sl2, q2⟩ := sl b _ q (nc b o e)
    exact ⟨sl2, q2⟩
  · obtain ⟨o1, q⟩ := U.there b o e hx
    obtain ⟨sl2, q2⟩ := sl b _ q (nc b o e)
    exact ⟨_, q2⟩
theorem Moved.hok {ch : List Addr} (J : Inv X pins σ H s) (m : Moved X H s.heap h' ch) : HOk X.prog X.w H h' := fun a o e =>
  (J.hok a o e).stay (fun b u hb q => m.keep b u q (fun z => by
    rcases hb with rfl | hb
    · rw [(m.new _ z).2] at e; cases e
    · rw [(m.new _ z).2] at hb; cases hb) (fun z => by
    rcases hb with rfl | hb
    · rw [J.stkFree _ z] at e; cases e
    · rw [J.stkFree _ z] at hb; cases hb)) (fun _ q => q) fun _ _ q => q
/-- what is not there at a state is new since the entry, and untracked -/
theorem Inv.away (J : Inv X pins σ H s) (hex : X.ex = []) {b : Addr} (e : s.heap.get? b = none) : X.s₀.heap.get? b = none ∧ H b = none := by
  refine ⟨none_back (fun c o q => J.base.there c o q (by rw [hex]; simp)) e, ?_⟩
  cases q : H b with
  | none => rfl
  | some o =>
    obtain ⟨u, e'⟩ := (J.hok b o q).has
    rw [e] at e'
    cases e'
theorem MvR.moved {ch : List Addr} (m : MvR (frs X.stack) ch s.heap h') (n : ∀ b ∈ ch, X.s₀.heap.get? b = none ∧ H b = none) : Moved X H s.heap h' ch := ⟨m.keep, m.slot, n⟩
/-- an exception on its way leaves the def -/
theorem leave_on {E : Value → Shared → Prop} {Q : Unit → Shared → Prop} (J : Inv X pins σ H s) (hst : X.stack = X.env :: X.outer) (hfr : X.env.frame = some X.env.locals) (hex : X.ex = []) (t : Trac X.s₀.heap H s.heap ea cls)
    (hQ : ∀ s'' : Shared, s''.os = X.s₀.os → AllBare s''.gens → Un X.fs [] X.H₀ H X.s₀.heap s''.heap → HOk X.prog X.w H s''.heap → Trac X.s₀.heap H s''.heap ea cls → Q () s'') :
    wpAny (model X.prog X.w) X.A (leaving X.env (.ref ea)) Q E s := by
  obtain ⟨T, x, ⟨y1, y2⟩, z1, z2⟩ := t
  have F := J.stack
  rw [hst] at F
  unfold leaving
  refine wpAny_bind (note_next (by rw [J.ok.frames, hst]) F hfr x fun h1 T1 m1 n1 t1 => ?_)
  have nf : T1 ∉ frs (X.env :: X.outer) := fun z => by
    obtain ⟨_, o, e, _⟩ := F.mem z
    rw [n1] at e
    cases e
  refine flight_end (s := { s with heap := h1 }) (fr := frs (X.env :: X.outer)) t1 nf fun h2 m2 t2 => ?_
  have m := m1.trans m2 (ch3 := [ea, T]) (fun _ z => z) fun b hb => .inr (by rw [List.mem_singleton.mp hb]; exact n1)
  rw [← hst] at m
  have mv : Moved X H s.heap h2 [ea, T] := m.moved fun b hb => by
    rcases List.mem_cons.mp hb with rfl | hb
    · exact ⟨y1, z1⟩
    · rw [List.mem_singleton.mp hb]
      exact ⟨y2, z2⟩
  have a1 := J.away hex n1
  exact hQ { s with heap := h2 } J.os J.bare (mv.un J hex) (mv.hok J) ⟨T1, t2, ⟨y1, a1.1⟩, z1, a1.2⟩
/-- an exception just made leaves the def -/
theorem leave_made {E : Value → Shared → Prop} {Q : Unit → Shared → Prop} {args : List Value} (J : Inv X pins σ H s) (hst : X.stack = X.env :: X.outer) (hfr : X.env.frame = some X.env.locals) (hex : X.ex = []) (mx : Heap.MadeExcOf s.heap h' ea cls args)
    (hQ : ∀ s'' : Shared, s''.os = X.s₀.os → AllBare s''.gens → Un X.fs [] X.H₀ H X.s₀.heap s''.heap → HOk X.prog X.w H s''.heap → Trac X.s₀.heap H s''.heap ea cls → Q () s'') :
    wpAny (model X.prog X.w) X.A (leaving X.env (.ref ea)) Q E { s with heap := h' } := by
  obtain ⟨t, he, _, _⟩ := mx.there
  have J2 : Inv X pins σ H { s with heap := h', toks := s.toks } := J.kept mx.keeps
  have F := J2.stack
  rw [hst] at F
  unfold leaving
  refine wpAny_bind (note_made (s := { s with heap := h' }) (by rw [J.ok.frames, hst]) F hfr he rfl rfl rfl rfl fun h1 T1 m1 n1 t1 => ?_)
  have nf : T1 ∉ frs (X.env :: X.outer) := fun z => by
    obtain ⟨_, o, e, _⟩ := F.mem z
    rw [n1] at e
    cases e
  refine flight_end (s := { s with heap := h1 }) (fr := frs (X.env :: X.outer)) t1 nf fun h2 m2 t2 => ?_
  have m := m1.trans m2 (ch3 := [ea]) (fun _ z => z) fun b hb => .inr (by rw [List.mem_singleton.mp hb]; exact n1)
  rw [← hst] at m
  have a0 := J.away hex mx.new
  have a1 := J2.away hex n1
  have mv : Moved X H h' h2 [ea] := MvR.moved (s := { s with heap := h' }) m fun b hb => by
    rw [List.mem_singleton.mp hb]
    exact a0
  exact hQ { s with heap := h2 } J.os J.bare (mv.un J2 hex) (mv.hok J2) ⟨T1, t2, ⟨a0.1, a1.1⟩, a0.2, a1.2⟩
end
section
variable {P : Program} {w : World} {K : PySem.W.Frag} {mg : Str → Option Value} {base : Heap} {N : List Str} {qual : Str} {scope : Scope} {f : Addr} {cd : Value} {A : Around} {outer : List Env} {s0 : Shared} {H0 : Hp} {E : XK}
/-- a callee's exception passes on through a def that wishes the same of it -/
theorem pass1 : Passes (CX1 P w) (cxOf (CX1 P w) P w K mg base N qual scope f cd A outer s0 H0 E) E := by
  intro pins σ H s e s' I h
  obtain ⟨ea, cls, H', rfl, os, bare, un, ok, t, q⟩ := h
  have J : Inv (cxOf (CX1 P w) P w K mg base N qual scope f cd A outer s0 H0 E) pins σ H' s' := I.call' (ch := []) os un ok bare fun b z => absurd z (by simp)
  have t0 := t.back fun b o e => I.base.there b o e (by intro z; cases z)
  exact leave_on J rfl rfl rfl t0 fun s'' o1 o2 o3 o4 o5 => ⟨ea, cls, H', rfl, o1, o2, o3, o4, o5, q⟩
end
end L2

set_option Elab.async false
set_option linter.all false
set_option maxRecDepth 100000
namespace L2
open PySem PySem.Spec PyProof.Rows

/-- the classes behind an own exception's class that are built in -/
abbrev veMro : List Value := [.type "ValueError", .type "Exception", .type "BaseException", .type "object"]
/-- an own exception class of the text: what stands behind it in its order -/
structure XC (K : PySem.W.Frag) (C : Addr) (bm : List Value) : Prop where
  lk : ∃ nm q N bs hdct sn sub ab col dd k0 k1 k2 k3 k5, K.lookup C = some (excClassObj nm q C N bs bm hdct sn sub ab col dd k0 k1 k2 k3 k5 "ValueError.__new__") ∧ PySem.W.nsOkIn K N = true ∧ PySem.W.nsIn K N "__init__" = some none
  tl : PySem.W.tailIn K veMro bm = true
/-- an exception just made reaches what is wished -/
def Lands (X : Cx) (E : XK) : Prop := ∀ (pins : List (Addr × Obj)) (σ : St) (H : Hp) (s : Shared) (h' : Heap) (ea C : Addr) (args : List Value), Inv X pins σ H s → Heap.MadeExcOf s.heap h' ea (.ref C) args → E (.ref C) none H → X.xe (.ref ea) { s with heap := h' }
section
variable {X : Cx} {x : Str} {C : Addr} {bm : List Value} {e : Expr} {es : List Expr} {t : TA} {E : XK} {np cpos pos : Pos}
theorem ps_raise (c : XC X.K C bm) (hm : X.mg x = some (.ref C)) (hL : Lands X E) (ha : PA X (e :: es) t) (hg : Gl X x := by rfl) (hc : X.calm = true := by rfl) (hd : (x == ("__debug__" : Str)) = false := by decide)
    (he : starEach (e :: es) X.env = (false, eval e X.env) :: starEach es X.env := by rfl) (hpl : (backTo cpos (starEach es X.env)).any (·.1) = false := by rfl) :
    PS X (.Raise (some (.Call (.Name x np) (e :: es) [] cpos)) none pos) (fun _ σ H => t σ H fun vs H1 => vs.length ≤ sizeLine ∧ E (.ref C) none H1) := by
  intro pins s σ H D I h
  obtain ⟨⟨nm, q, N, bs, hdct, sn, sub, ab, col, dd, k0, k1, k2, k3, k5, lk, hok, hin⟩, tl⟩ := c
  have T0 : OwnTail s.heap veMro bm := PySem.W.tail_of_in I.kIn tl
  refine wpAny_Raise_call_subT (C := C) (nm := nm) (q := q) (N := N) (bs := bs) (bm := bm) (hdct := hdct) (sn := sn) (sub := sub) (ab := ab) (col := col) (dd := dd) (k0 := k0) (k1 := k1) (k2 := k2) (k3 := k3) (k5 := k5)
    F.excBase_ValueError (mN := X.base.nsMap N) (T0.hasType F.excBase_ValueError.hasBase) (I.ok.hd hc) (by rw [he]; show (false || (backTo cpos (starEach es X.env)).any (·.1)) = false; rw [hpl]; rfl)
    (PySem.W.nsMap_none_of_in I.ok.mod.kin hok hin) (ld_glob I hg hm ⟨rfl, ?_⟩ hd)
  have hA := ha cpos pins s σ H _ I h
  rw [he] at hA ⊢
  refine Calls.evalArgs_plain (thn hA fun us s2 ⟨vs, H2, I2, r2, z2, q2⟩ => ⟨rfl, by rw [← r2.length]; exact z2, I2.kIn _ _ lk, ?_, PySem.W.tail_of_in I2.kIn tl, fun h' ea hx => hL pins σ H2 s2 h' ea C us I2 hx q2⟩)
  exact (Heap.Ns.of_isNs (PySem.W.isNs_of_in I.ok.mod.kin hok)).keeps I2.bk
end
section
variable {P : Program} {w : World} {K : PySem.W.Frag} {mg : Str → Option Value} {base : Heap} {N : List Str} {qual : Str} {scope : Scope} {f : Addr} {cd : Value} {A : Around} {outer : List Env} {s0 : Shared} {H0 : Hp} {E : XK}
/-- .. and leaves the def -/
theorem lands1 : Lands (cxOf (CX1 P w) P w K mg base N qual scope f cd A outer s0 H0 E) E := by
  intro pins σ H s h' ea C args I mx hE
  exact leave_made I rfl rfl rfl mx fun s'' o1 o2 o3 o4 o5 => ⟨ea, .ref C, H, rfl, o1, o2, o3, o4, o5, hE⟩
end
end L2

set_option Elab.async false
set_option linter.all false
set_option maxRecDepth 100000
/-! exceptions: try, with a name for what is caught -/
namespace L2
open PySem PySem.Spec PyProof.Rows
section
variable {X : Cx} {pins pins2 : List (Addr × Obj)} {σ : St} {H H' : Hp} {s s' : Shared} {ea : Addr} {cls : Value} {h' : Heap}
/-- new since the entry, untracked, none of ours -/
def Away (X : Cx) (pins : List (Addr × Obj)) (H : Hp) (b : Addr) : Prop := (X.s₀.heap.get? b = none ∧ H b = none) ∧ b ≠ X.env.locals ∧ (∀ x c, X.env.cells.lookup x = some c → c ≠ b) ∧ ∀ p ∈ X.pn ++ pins, p.1 ≠ b
theorem Inv.awayN (I : Inv X pins σ H s) (hex : X.ex = []) {b : Addr} (e : s.heap.get? b = none) (hn : H' b = none) : Away X pins H' b := by
  refine ⟨⟨(I.away hex e).1, hn⟩, fun z => ?_, fun x c hc z => ?_, fun p hp z => ?_⟩
  · obtain ⟨m, ⟨o, _, _, ho, _⟩, _⟩ := I.loc
    rw [← z, e] at ho
    cases ho
  · obtain ⟨v, o, ho, _⟩ := I.cell x c hc
    rw [z, e] at ho
    cases ho
  · have := (I.pin p hp).1
    rw [z, e] at this
    cases this
/-- frames' slots and records of ours that are away have changed -/
theorem Inv.moved {ch : List Addr} (J : Inv X pins σ H s) (hex : X.ex = []) (m : MvR (frs X.stack) ch s.heap h') (n : ∀ b ∈ ch, Away X pins H b) : Inv X pins σ H { s with heap := h' } := by
  have mv : Moved X H s.heap h' ch := m.moved fun b hb => (n b hb).1
  have no : ∀ b o, X.s₀.heap.get? b = some o → b ∉ ch := fun b o e z => by
    rw [(n b z).1.1] at e
    cases e
  have k := J.ok
  have ok2 : ({ X with ex := ch } : Cx).Ok := ⟨k.mod, k.kind, k.glob, k.blt, k.above, k.inj, k.has, k.cab, k.hd, k.frames, k.stk, fun b hb => ⟨(n b hb).2.1, (n b hb).2.2.1⟩, k.bs, k.bsz, fun b o e => no b o (k.bs b o e).1, fun b hb z => by
    obtain ⟨_, o, e, _⟩ := k.funs.mem z
    exact no b o e hb, k.funs, k.frf⟩
  have J2 : Inv { X with ex := ch } pins σ H s := ⟨ok2, J.os, J.bare, J.base.mono (fun _ z => z) (fun b z => by rw [hex] at z; cases z), J.loc, J.cell, J.free, J.freeC, J.pin, J.hok, J.len⟩
  have un : Un (frs X.stack) ch H H s.heap h' := by
    refine ⟨fun b o e _ hb hx => m.keep b o e hx hb, fun b o e _ hb _ => m.slot b o e hb, fun _ _ _ z _ => z, fun b o e hx => ?_, fun _ _ q => q, fun _ _ _ q => q, fun _ ps q => ⟨#[], by rw [q]; simp⟩⟩
    by_cases hb : b ∈ frs X.stack
    · obtain ⟨sl, q⟩ := m.slot b o e hb
      exact ⟨_, q⟩
    · exact ⟨_, m.keep b o e hx hb⟩
  have hk : HOk X.prog X.w H h' := mv.hok J
  have J3 : Inv { X with ex := ch } pins σ H { s with heap := h' } := J2.call' (ch := ch) rfl un hk J.bare fun b hb => ⟨.inl hb, (n b hb).2.1, (n b hb).2.2.1, (n b hb).2.2.2⟩
  exact ⟨J.ok, J3.os, J3.bare, hex ▸ mv.un J hex, J3.loc, J3.cell, J3.free, J3.freeC, J3.pin, J3.hok, J3.len⟩
/-- the loops' records of the statement are named, for all that runs within it -/
abbrev Cx.pinned (X : Cx) (pins : List (Addr × Obj)) (A : Around) (calm : Bool) (xe : Value → Shared → Prop) : Cx := { X with pn := X.pn ++ pins, A := A, calm := calm, xe := xe }
theorem Inv.atTry (I : Inv X pins σ H s) {A : Around} {calm : Bool} {xe : Value → Shared → Prop} (h1 : calm = true → A.handled = none) (h2 : A.frames = X.A.frames) : Inv (X.pinned pins A calm xe) [] σ H s := by
  have k := I.ok
  exact ⟨⟨k.mod, k.kind, k.glob, k.blt, k.above, k.inj, k.has, k.cab, h1, h2.trans k.frames, k.stk, k.exf, k.bs, k.bsz, k.noex, k.exfs, k.funs, k.frf⟩, I.os, I.bare, I.base, I.loc, I.cell, I.free, I.freeC, fun p hp => I.pin p (by simpa using hp), I.hok, I.len⟩
theorem Inv.offTry {A : Around} {calm : Bool} {xe : Value → Shared → Prop} (ok : X.Ok) (I : Inv (X.pinned pins A calm xe) pins2 σ H s) : Inv X pins σ H s :=
  ⟨ok, I.os, I.bare, I.base, I.loc, I.cell, I.free, I.freeC, fun p hp => I.pin p (List.mem_append_left _ hp), I.hok, I.len⟩
/-- an exception that comes to a try, with what is wished of it there -/
def Comes (X : Cx) (pins : List (Addr × Obj)) (E : St → XK) (e : Value) (s' : Shared) : Prop :=
  ∃ (σ : St) (H : Hp) (ea T : Addr) (cls : Value), e = .ref ea ∧ Inv X pins σ H s' ∧ TrR s'.heap ea T cls .none ∧ Away X pins H ea ∧ Away X pins H T ∧ E σ cls none H
/-- the context of a try's body -/
abbrev Cx.catch (X : Cx) (pins : List (Addr × Obj)) (E : St → XK) : Cx := X.pinned pins X.A X.calm (Comes X pins E)
end
section
variable {X : Cx} {pins : List (Addr × Obj)} {E : St → XK} {k : Nat} {f : Addr} {fd : FuncData} {ps : List Str} {sp : Sp} {x : Str} {p pos : Pos} {e : Expr} {es : List Expr} {t : TA}
end
end L2

set_option Elab.async false
set_option linter.all false
set_option maxRecDepth 100000
namespace L2
open PySem PySem.Spec PyProof.Rows
section
variable {X : Cx} {pins : List (Addr × Obj)} {σ : St} {H H' : Hp} {s s' : Shared} {ea : Addr} {cls : Value} {h' : Heap}
/-- an object of ours that is away is tracked from now on -/
theorem Inv.trackA {a : Addr} {o : HO} (I : Inv X pins σ H s) (hex : X.ex = []) (w : Away X pins H a) (new : ObjOk X.prog X.w (upd H a o) s.heap a o) : Inv X pins σ (upd H a o) s := by
  obtain ⟨⟨w1, w2⟩, w3, w4, w5⟩ := w
  have ne : ∀ b u, H b = some u → b ≠ a := fun b u e z => by rw [z, w2] at e; cases e
  have U := I.base
  rw [hex] at U
  have n0 : ∀ b o, X.s₀.heap.get? b = some o → b ≠ a := fun b o e z => by rw [z, w1] at e; cases e
  refine ⟨I.ok, I.os, I.bare, ?_, I.loc, I.cell, (upd_ne (Ne.symm w3)).trans I.free, fun x c e => (upd_ne (w4 x c e)).trans (I.freeC x c e), fun p hp => ?_, fun b u e => ?_, I.len⟩
  · rw [hex]
    refine ⟨U.keep, U.slot, fun b o e n hx => (upd_ne (n0 b o e)).trans (U.free b o e n hx), U.there, fun b xs q => ?_, fun b ob u q => ?_, fun b ps q => ?_⟩
    · have := U.tups b xs q
      exact (upd_ne (ne _ _ this)).trans this
    · have := U.frzs b ob u q
      exact (upd_ne (ne _ _ this)).trans this
    · obtain ⟨more, this⟩ := U.tbls b ps q
      exact ⟨more, (upd_ne (ne _ _ this)).trans this⟩
  · obtain ⟨y1, y2, y3⟩ := I.pin p hp
    exact ⟨y1, (upd_ne (w5 p hp)).trans y2, y3⟩
  · by_cases c : b = a
    · subst c
      rw [upd_same] at e
      cases e
      exact new
    · rw [upd_ne c] at e
      exact (I.hok b u e).stay (fun _ _ _ q => q) (fun d q => (upd_ne (ne _ _ q)).trans q) fun d xs q => (upd_ne (ne _ _ q)).trans q
/-- the names are given up -/
theorem Inv.lost {m' : Str → Option Value} {t' : Nat} (I : Inv X pins σ H s) (hn : h'.Ns X.env.locals m') (sb : Heap.SameBut X.env.locals s.heap h') : Inv X pins (List.replicate X.N.length none) H { s with heap := h', toks := t' } := by
  have U := I.base
  have n0 : ∀ b o, X.s₀.heap.get? b = some o → b ≠ X.env.locals := fun b o e z => by
    have l1 := Heap.lt_size e
    rw [z] at l1
    exact absurd l1 (Nat.not_lt.mpr I.ok.above)
  have oth : ∀ b, b ≠ X.env.locals → h'.get? b = s.heap.get? b := fun b hb => sb.2 b hb
  have tr : ∀ b u, H b = some u → b ≠ X.env.locals := fun b u e z => by rw [z, I.free] at e; cases e
  refine ⟨I.ok, I.os, I.bare, ⟨fun b o e n hb hx => (oth b (n0 b o e)).trans (U.keep b o e n hb hx), fun b o e n hb hx => ?_, U.free, fun b o e hx => ?_, U.tups, U.frzs, U.tbls⟩, ⟨m', hn, fun i x v _ h2 _ => ?_⟩, fun x c e => ?_, I.free, I.freeC, fun p hp => ?_, fun b u e => ?_, List.length_replicate⟩
  · obtain ⟨sl, q⟩ := U.slot b o e n hb hx
    exact ⟨sl, (oth b (n0 b o e)).trans q⟩
  · obtain ⟨o', q⟩ := U.there b o e hx
    exact ⟨o', (oth b (n0 b o e)).trans q⟩
  · rw [List.getElem?_replicate] at h2
    split at h2 <;> cases h2
  · obtain ⟨v, o, q1, q2⟩ := I.cell x c e
    exact ⟨v, o, (oth c (I.cne x c e)).trans q1, q2⟩
  · obtain ⟨y1, y2, y3, y4⟩ := I.pin p hp
    exact ⟨(oth p.1 y3).trans y1, y2, y3, y4⟩
  · refine (I.hok b u e).stay (fun c v hc q => (oth c ?_).trans q) (fun _ q => q) fun _ _ q => q
    rcases hc with rfl | hc
    · exact tr _ _ e
    · exact tr _ _ hc
/-- what is known of a caught exception -/
def excIs (ea : Addr) (cls : Value) (h : Heap) : Prop := ∃ (o : Obj) (vs : Array Value), h.get? ea = some o ∧ (o.cls = cls ∧ o.dict = none) ∧ o.data = .fields vs ∧ vs[2]? = some .none
theorem excIs.ok {P : Program} {w : World} {H : Hp} {h : Heap} (x : excIs ea cls h) : ObjOk P w H h ea (.ext (excIs ea cls)) := by
  refine ⟨x, ?_, fun h1 h2 ⟨o, vs, e, r⟩ k => ⟨o, vs, k o e, r⟩⟩
  obtain ⟨o, _, e, _⟩ := x
  exact ⟨o, e⟩
end
/-- the context of an except suite -/
abbrev Cx.suite (X : Cx) (pins : List (Addr × Obj)) (ea : Addr) : Cx := X.pinned pins (X.A.mark (some (.ref ea))) false fun _ _ => False
/-- a try whose suite returns; E: how an exception is met -/
def tMeet (K : PySem.W.Frag) (C : Addr) (i : Nat) (ts : Addr → TS) (D : Ends) : St → XK := fun σ cls _ H => PySem.W.exmOne K cls (.ref C) = some true ∧ ∀ ea, H ea = none → ts ea { nx := fun _ _ => False, rt := D.rt } (σ.set i (some (.ref ea))) (upd H ea (.ext (excIs ea cls)))
section
variable {X : Cx} {body : List Stmt} {b₀ : Stmt} {suite : List Stmt} {cx n : Str} {C : Addr} {np hpos pos : Pos} {i : Nat} {tb : (St → XK) → TS} {ts : Addr → TS}
theorem ps_tryAs (hst : X.stack = X.env :: X.outer) (hfr : X.env.frame = some X.env.locals) (hex : X.ex = []) (hN : X.N.Nodup) (hi : X.N[i]? = some n) (hloc : X.env.scope.names.lookup n = some .local) (hm : X.mg cx = some (.ref C))
    (hb : ∀ pins (E : St → XK), X.Ok → PSs (X.catch pins E) body (tb E)) (hs : ∀ pins ea, PSs (X.suite pins ea) (b₀ :: suite) (ts ea)) (hg : Gl X cx := by rfl) (hk : X.env.kindOf n = some .local := by rfl) (hd : (cx == ("__debug__" : Str)) = false := by decide) :
    PS X (.Try body [.ExceptHandler (some (.Name cx np)) (some n) (b₀ :: suite) hpos] [] [] pos) (fun D σ H => tb (tMeet X.K C i ts D) D σ H) := by
  intro pins s σ H D I h
  refine wpAny_Try_except (wpAny_mono (hb pins (tMeet X.K C i ts D) I.ok [] s σ H D (I.atTry I.ok.hd rfl) h) (fun f s1 q => ?_) fun e s1 q => ?_)
  · cases f with
    | next =>
      obtain ⟨σ1, H1, J, q⟩ := q
      exact pss_nil pins s1 σ1 H1 D (J.offTry I.ok) q
    | brk => obtain ⟨σ1, H1, J, q⟩ := q; exact ⟨σ1, H1, J.offTry I.ok, q⟩
    | cont => obtain ⟨σ1, H1, J, q⟩ := q; exact ⟨σ1, H1, J.offTry I.ok, q⟩
    | ret u => obtain ⟨v, σ1, H1, J, r, q⟩ := q; exact ⟨v, σ1, H1, J.offTry I.ok, r, q⟩
  obtain ⟨σ1, H1, ea, T, cls, rfl, J, t, aE, aT, hE, hS⟩ := q
  have F := J.stack
  rw [hst] at F
  refine note_next (by rw [J.ok.frames, hst]) F hfr t fun h1 T1 m1 n1 t1 => ?_
  have aT1 : Away X pins H1 T1 := J.awayN hex n1 (J.away hex n1).2
  have nf : T1 ∉ frs (X.env :: X.outer) := fun z => by
    obtain ⟨_, o, e, _⟩ := F.mem z
    rw [n1] at e
    cases e
  rw [← hst] at m1 nf
  have J1 : Inv X pins σ1 H1 { s1 with heap := h1 } := J.moved hex m1 fun b hb => by
    rcases List.mem_cons.mp hb with rfl | hb
    · exact aE
    · rw [List.mem_singleton.mp hb]; exact aT
  have aw : ∀ b ∈ [T1], Away X pins H1 b := fun b hb => by rw [List.mem_singleton.mp hb]; exact aT1
  refine flight_end (s := { s1 with heap := h1 }) (fr := frs X.stack) t1 nf fun h2 m2 t2 => ?_
  have J2 : Inv X pins σ1 H1 { s1 with heap := h2 } := J1.moved hex m2 aw
  refine wpAny_handleBy_cons (codeAny_handlers_test ?_) (by intro q; cases q)
  have I2 : Inv (X.suite pins ea) [] σ1 H1 { s1 with heap := h2 } := J2.atTry (fun z => by cases z) rfl
  refine ld_glob (X := X.suite pins ea) I2 hg hm ?_ hd
  have LT : PySem.W.Looks (model X.prog X.w) h2 (typeOf (.ref ea)) cls := by
    obtain ⟨oe, vs, _, _, e1, e2, _⟩ := t2
    exact e2.1 ▸ (PySem.W.Looks.ld e1).andThen .now
  refine PySem.W.exm_one (K := X.K) J2.kIn LT hE _ _ _ _ (fun _ _ e => e) ?_
  refine codeAny_handlers_suite_as ?_
  refine flight_end (s := { s1 with heap := h2 }) (fr := frs X.stack) t2 nf fun h3 m3 t3 => ?_
  have J3 : Inv X pins σ1 H1 { s1 with heap := h3 } := J2.moved hex m3 aw
  have x3 : excIs ea cls h3 := by
    obtain ⟨oe, vs, _, _, e1, e2, e3, _, e5, _⟩ := t3
    exact ⟨oe, vs, e1, e2, e3, e5⟩
  have J4 := J3.trackA hex aE (o := .ext (excIs ea cls)) x3.ok
  refine store_ok J4 hN hi (.inl hloc) (v := .ref ea) rfl (fun s4 J5 => ?_) (.inr hloc)
  refine wpAny_mono (hs pins ea [] s4 _ _ _ (J5.atTry (fun z => by cases z) rfl) (hS ea aE.1.2)) (fun f s5 q => ?_) fun _ _ z => False.elim z
  cases f with
  | next => obtain ⟨_, _, _, q⟩ := q; exact False.elim q
  | brk => obtain ⟨_, _, _, q⟩ := q; exact False.elim q
  | cont => obtain ⟨_, _, _, q⟩ := q; exact False.elim q
  | ret u =>
    obtain ⟨v, σ6, H6, J6, r, q⟩ := q
    have J7 : Inv X pins σ6 H6 s5 := J6.offTry I.ok
    obtain ⟨m, hn, _⟩ := id J7.loc
    exact wpAny_nameGoes hk hn (by rw [J7.ok.kind]; rfl) fun h8 m8 hn8 sb8 => ⟨v, _, H6, J7.lost hn8 sb8, r, q⟩
end
end L2

set_option Elab.async false
set_option linter.all false
set_option maxRecDepth 100000
/-! isinstance of a caught exception -/
namespace L2
open PySem PySem.Spec PySem.Calls PyProof.Rows PySem.W
section
variable {prog : Program} {w : World} {A : Around} {E : Value → Shared → Prop} {h : Heap} {g : Array GenState} {d : Drawn} {t : Nat} {os : OsState} {K : Frag} {a C : Addr} {ox : Obj}
/-- what the written part tells of an own exception class -/
structure XI (K : Frag) (C : Addr) : Prop where
  ga : findIn K (.ref C) "__getattribute__" = some (some (.builtin "BaseException.__getattribute__"))
  gt : findIn K (.ref C) "__getattr__" = some none
  cl : findIn K (.ref C) "__class__" = some (some (.builtin "object.__class__"))
  ob : mroIn K C (.type "object") = some true
  be : subIn K (.ref C) (.type "BaseException") = some true
theorem xi_entry {tk : Tok} {Q : Fin → Shared → Prop} (X : K.In h) (I : InstAt h a ox C none) (c : XI K C) (hq : Q (.done (.ret (.ref C))) ⟨h, g, d, t, os⟩) :
    wpAny (model prog w) A (Builtin.«object.__getattribute__» ⟨[.ref a, .str "__class__" tk], []⟩) Q E ⟨h, g, d, t, os⟩ := by
  have l0 := I.type (M := model prog w)
  have l1 := looks_findIn (M := model prog w) X c.cl
  have f5 := F.typeOf_object_class
  have f6 := F.slot_gs_get.lookup
  have f7 := F.slot_gs_set.lookup
  have hT5 : (⟨h, g, d, t, os⟩ : Shared).TypeIs (.builtin "object.__class__") "getset_descriptor" := F.typeOf_object_class
  repeat (any_goals (first | assumption | (with_reducible refine Looks.at l0 ?_) | (with_reducible refine Looks.at l1 ?_) | wp_step))
  refine class_get X I c.ob ?_
  repeat (any_goals (first | assumption | wp_step))
theorem xi_check {M : Model} {nameV : Value} {Q : Unit → Shared → Prop} (X : K.In h) (I : InstAt h a ox C none) (c : XI K C) (hq : Q () ⟨h, g, d, t, os⟩) : wpAny M A (checkBuiltinCall "BaseException.__getattribute__" ⟨[.ref a, nameV], []⟩) Q E ⟨h, g, d, t, os⟩ := by
  have l0 := I.type (M := M)
  have l1 : Looks M h (isSubtype (.ref C) (.type "BaseException")) true := looks_subIn X c.be
  have k1 : builtinKind "BaseException.__getattribute__" = some .slot := by decide +kernel
  have k2 : splitId "BaseException.__getattribute__" = some ("BaseException", "__getattribute__") := by decide +kernel
  have k3 := F.args_bexc_ga (.ref a) nameV
  simp only [checkBuiltinCall, k1, k2]
  refine wpAny_bind ?_
  unfold isInstance
  repeat (first | (with_reducible refine Looks.at l0 ?_) | (with_reducible refine Looks.at l1 ?_) | wp_step)
  exact hq
theorem xi_call {tk : Tok} {R : Result → Shared → Prop} (X : K.In h) (I : InstAt h a ox C none) (c : XI K C) (hq : R (.ok (.ret (.ref C))) ⟨h, g, d, t, os⟩) :
    codeAny (model prog w) A (.call (.builtin "BaseException.__getattribute__") ⟨[.ref a, .str "__class__" tk], []⟩) R ⟨h, g, d, t, os⟩ :=
  codeAny_call_builtin (F.attrBase_ValueError.ga.plain) F.entry_bexc_ga (xi_check X I c (xi_entry X I c hq))
theorem xi_by {tk : Tok} {Q : Value → Shared → Prop} (X : K.In h) (I : InstAt h a ox C none) (c : XI K C) (hq : Q (.ref C) ⟨h, g, d, t, os⟩) : wpAny (model prog w) A (getAttrBy (.ref a) (.str "__class__" tk) false) Q E ⟨h, g, d, t, os⟩ := by
  have l0 := I.type (M := model prog w)
  have l1 := looks_findIn (M := model prog w) X c.ga
  have l2 := looks_findIn (M := model prog w) X c.gt
  have f3 := F.attrBase_ValueError.ga.bind (.ref a)
  have x2 : (Value.builtin "BaseException.__getattribute__" == Value.builtin "object.__getattribute__") = false := by decide +kernel
  have x1 : (onTheHeap (Value.ref C) && Value.builtin "BaseException.__getattribute__" == Value.builtin "object.__getattribute__") = false := by rw [x2]; rfl
  repeat (any_goals (first | assumption | (with_reducible refine Looks.at l0 ?_) | (with_reducible refine Looks.at l1 ?_) | (with_reducible refine Looks.at l2 ?_) | wp_step))
  refine xi_call X I c ?_
  repeat (any_goals (first | assumption | wp_step))
theorem xi_attr {Q : Option Value → Shared → Prop} (X : K.In h) (I : InstAt h a ox C none) (c : XI K C) (hq : Q (some (.ref C)) ⟨h, g, d, t + 1, os⟩) : wpAny (model prog w) A (getAttr? (.ref a) "__class__") Q E ⟨h, g, d, t, os⟩ := by
  unfold getAttr? getAttrBy?
  repeat (any_goals (first | assumption | with_reducible apply xi_by X I c | wp_step))
/-- a caught exception, as an instance -/
theorem inst_of {h : Heap} {ea : Addr} (x : excIs ea (.ref C) h) : ∃ ox, InstAt h ea ox C none := by
  obtain ⟨o, vs, e, ⟨c, di⟩, da, _⟩ := x
  refine ⟨o, e, c, ?_, ?_⟩
  · obtain ⟨c1, d1, dt1, sl1⟩ := o
    cases da
    rfl
  · rw [di]
    trivial
theorem kitx_exc {bm : List Value} {ea : Addr} (xc : XC K C bm) (c : XI K C) : KitX K (.ref ea) (.ref C) (excIs ea (.ref C)) where
  ty := fun _ _ _ x => by
    obtain ⟨_, I⟩ := inst_of x
    exact I.type
  it := fun _ _ X _ => by
    obtain ⟨⟨nm, q, N, bs, hdct, sn, sub, ab, col, dd, k0, k1, k2, k3, k5, lk, _⟩, _⟩ := xc
    intro A' Q' E' s' k q
    unfold isType loadHead
    exact wpAny_bind (wpAny_loadPart (k _ _ (X _ _ lk)) (wpAny_pure q))
  ne := fun h tp dd' its n sl X htp => by
    obtain ⟨⟨nm, q, N, bs, hdct, sn, sub, ab, col, dd, k0, k1, k2, k3, k5, lk, _⟩, _⟩ := xc
    refine Bool.eq_false_iff.mpr fun q => ?_
    have e : C = tp := Value.ref.inj (beq_iff_eq.mp q)
    rw [← e, X _ _ lk] at htp
    have z : Value.type "type" = Value.type "tuple" := congrArg Obj.cls (Option.some.inj htp)
    exact absurd (Value.type.inj z) (by decide)
  ca := fun {_ _ _ _ _ s} X x k => by
    obtain ⟨ox, I⟩ := inst_of x
    obtain ⟨h, g, d, t, os⟩ := s
    exact xi_attr X I c k
end
/-- a class of the text, or a built-in one, as a value -/
inductive ClsV : V → Value → Prop where
  | own (C : Addr) : ClsV (.ref C) (.ref C)
  | ty (T : String) : ClsV (.ty T) (.type T)
theorem call_isiX {X : Cx} : CallR X (.builtin "isinstance") (fun xs H Q => ∃ (ea C : Addr) (bm : List Value) (y : V) (c : Value) (b : Bool), xs = [.ref ea, y] ∧ ClsV y c ∧ H ea = some (.ext (excIs ea (.ref C))) ∧ XC X.K C bm ∧ XI X.K C ∧ kitOne X.K (.ref C) c = some b ∧ Q (.bl b) H) := by
  intro pins s σ H xs us Q I r h
  obtain ⟨ea, C, bm, y, c, b, rfl, hy, hH, xc, xi, e, q⟩ := h
  obtain ⟨u, w', rfl, rx, ry⟩ := vals2 r
  cases (show u = Value.ref ea from rx)
  have x : excIs ea (.ref C) s.heap := (I.hok ea _ hH).1
  have hc : w' = c := by
    cases hy with
    | own C => exact ry
    | ty T => exact ry
  subst hc
  exact kia_one (kitx_exc xc xi) I.kIn x e (fun z => nomatch z) fun tk => ⟨.bl b, H, I.tok tk, rfl, q⟩
/-- the same, with the written part named -/
theorem isiXK {X : Cx} {K : Frag} (h : X.K = K) : CallR X (.builtin "isinstance") (fun xs H Q => ∃ (ea C : Addr) (bm : List Value) (y : V) (c : Value) (b : Bool), xs = [.ref ea, y] ∧ ClsV y c ∧ H ea = some (.ext (excIs ea (.ref C))) ∧ XC K C bm ∧ XI K C ∧ kitOne K (.ref C) c = some b ∧ Q (.bl b) H) := h ▸ call_isiX
end L2

set_option Elab.async false
set_option linter.all false
set_option maxRecDepth 100000
/-! any(..) of a list within an except suite -/
namespace L2
open PySem PySem.Spec PySem.Calls PyProof.Rows PySem.W
section
variable {prog : Program} {w : World} {A : Around} {E : Value → Shared → Prop} {s : Shared} {ea : Addr} {oe : Obj} {vs : Array Value}
end
end L2

set_option Elab.async false
set_option linter.all false
set_option maxRecDepth 100000
/-! enumerate(l, start=k); isinstance of an own object -/
namespace L2
open PySem PySem.Spec PySem.Calls PyProof.Rows
section
variable {prog : Program} {w : World} {A : Around} {E : Value → Shared → Prop} {s : Shared}
end
/-! ### the iterator -/
section
variable {X : Cx} {elts : List Expr} {k : Nat} {tp : Pos}
end
/-! ### isinstance of an own object -/
structure TyC (K : PySem.W.Frag) (C : Addr) : Prop where
  ha : PySem.W.findIn K (.ref C) "__class__" = some (some (.builtin "object.__class__"))
  hn : PySem.W.specialIn K (.builtin "object.__class__") "__get__" = some (some (.builtin "getset_descriptor.__get__"))
  ht : PySem.W.takesIn K (.builtin "object.__class__") = some true
  hm : PySem.W.mroIn K C (.type "object") = some true
theorem TyC.of {K : PySem.W.Frag} {C : Addr} (t : TyC K C) {H : Hp} {x dx : Addr} {fs : List (Str × V)} (e : H x = some (.ins C dx fs)) (c : Cls K C) : TyOf K H (.ref x) (.ref C) := .ins e c t.ha t.hn t.ht t.hm
end L2

set_option Elab.async false
set_option linter.all false
set_option maxRecDepth 100000
/-! a block cut in two: what holds between is said -/
namespace L2
open PySem PySem.Spec PySem.Calls PyProof.Rows
section
variable {X : Cx} {st : Stmt} {rest : List Stmt} {t : TS} {u : TS}
def tCut (t u : TS) : TS := fun D σ H => ∃ M : St → Hp → Prop, t { D with nx := M } σ H ∧ ∀ σ' H', M σ' H' → u D σ' H'
theorem pss_cut (h1 : PS X st t) (h2 : PSs X rest u) : PSs X (st :: rest) (tCut t u) := by
  intro pins s σ H D I h
  obtain ⟨M, hM, hu⟩ := h
  refine wpAny_execs_cons (thn (h1 pins s σ H { D with nx := M } I hM) fun f s1 q => ?_)
  cases f with
  | next =>
    obtain ⟨σ', H', I', q⟩ := q
    exact h2 pins s1 σ' H' D I' (hu σ' H' q)
  | ret v => exact q
  | brk => exact q
  | cont => exact q
end
end L2

set_option Elab.async false
set_option linter.all false
set_option maxRecDepth 100000
/-! a block that is left at once; a call by a local name within a try; a call within an except suite; {}; list(range(n)); lists of truths compared -/
namespace L2
open PySem PySem.Spec PySem.Calls PyProof.Rows
section
variable {X : Cx} {st : Stmt} {rest : List Stmt} {t : TS}
/-- what stands behind a statement that never ends is not read -/
theorem pss_stop (h1 : PS X st t) : PSs X (st :: rest) (fun D σ H => t { D with nx := fun _ _ => False } σ H) := by
  intro pins s σ H D I h
  refine wpAny_execs_cons (thn (h1 pins s σ H _ I h) fun f s1 q => ?_)
  cases f with
  | next => obtain ⟨_, _, _, q⟩ := q; exact q.elim
  | ret v => exact q
  | brk => exact q
  | cont => exact q
end
section
variable {X : Cx} {pins : List (Addr × Obj)} {E : St → XK} {k i : Nat} {f : Addr} {fd : FuncData} {ps : List Str} {sp : Sp} {x : Str} {p pos : Pos} {e : Expr} {es : List Expr} {t : TA} {tn : TE}
/-- f(e, ..) with f a local name that holds a def of the text, within a try -/
theorem pe_callL (ok : X.Ok) (hex : X.ex = []) (F : FnOk X.prog X.w X.K X.mg X.base (CX1 X.prog X.w) k f fd ps sp) (hr : Room k X.A) (hn : PE (X.catch pins E) (.Name x p) tn) (hk : PySem.W.keepIn X.K (.ref f) = true) (hb : Binds X.K fd ps [])
    (ha : PA (X.catch pins E) (e :: es) t) (he : starEach (e :: es) X.env = (false, eval e X.env) :: starEach es X.env := by rfl) (hpl : (backTo pos (starEach es X.env)).any (·.1) = false := by rfl) :
    PE (X.catch pins E) (.Call (.Name x p) (e :: es) [] pos) (fun σ H Q => tn σ H fun y H0 => y = .ref f ∧ t σ H0 fun vs H1 => sp vs H1 Q (E σ)) := by
  intro pins2 s σ H Q I h
  refine wpAny_Call_Name_kw (thn (hn pins2 s σ H _ I h) fun uf s0 ⟨y, H0, I0, ry, ey, h0⟩ => ?_)
  subst ey
  obtain rfl : uf = Value.ref f := ry
  refine PySem.W.callWith_K (h₀ := X.base) I0.ok.mod.kin hk (thn (ha pos pins2 s0 σ H0 _ I0 h0) fun us s1 ⟨vs, H1, I1, r, q⟩ => ⟨I1.kIn, ?_⟩) he hpl
  have hl : (us ++ []).length = ps.length := by rw [List.append_nil, ← r.length]; exact F.len _ _ _ _ q
  have hbb := hb s1 us I1.kIn hl
  rw [List.append_nil] at hbb
  refine wpAny_call (codeAny_mono (F.run X.A X.stack s1 H1 ⟨us, []⟩ us vs Q (E σ) hr I1.env0 hbb r q) fun r s' hq => ?_)
  cases r with
  | error e =>
    obtain ⟨ea, cls, H', rfl, os, bare, un, ok', ⟨T, t1, ⟨y1, y2⟩, z1, z2⟩, hE⟩ := hq
    have J : Inv (X.catch pins E) pins2 σ H' s' := I1.call' (ch := []) os un ok' bare fun b z => absurd z (by simp)
    have w1 : Inv X pins σ H1 s1 := I1.offTry ok
    exact ⟨σ, H', ea, T, cls, rfl, J.offTry ok, t1, w1.awayN hex y1 z1, w1.awayN hex y2 z2, hE⟩
  | ok fl =>
    cases fl with
    | ret u => exact I1.after hq
    | next => exact False.elim hq
    | brk => exact False.elim hq
    | cont => exact False.elim hq
end
/-! ### a def called while an exception is handled -/
structure RoomH (k : Nat) (A : Around) : Prop where
  dp : A.depth + 3 * k + 5 < recursionLimit
  un : A.units + 16 * k + 200 < cLine
theorem Room.h {k : Nat} {A : Around} (r : Room k A) (m : Option Value) : RoomH k (A.mark m) := ⟨r.dp, r.un⟩
theorem RoomH.mono {j k : Nat} {A : Around} (r : RoomH k A) (h : j ≤ k) : RoomH j A := ⟨by have := r.dp; omega, by have := r.un; omega⟩
theorem RoomH.deeper {k : Nat} {A : Around} (r : RoomH (k + 1) A) (env : Env) : RoomH k (A.deeper env) :=
  ⟨by have := r.dp; show A.depth + 1 + 3 * k + 5 < _; omega, by have := r.un; show A.units + 3 + 16 * k + 200 < _; omega⟩
structure FnH (P : Program) (w : World) (K : PySem.W.Frag) (mg : Str → Option Value) (base : Heap) (k : Nat) (f : Addr) (fd : FuncData) (ps : List Str) (sp : Sp) : Prop where
  len : ∀ vs H Q E, sp vs H Q E → vs.length = ps.length
  run : ∀ (A : Around) (outer : List Env) (s : Shared) (H : Hp) (args : Args) (us : List Value) (vs : List V) (Q : VK) (E : XK), RoomH k A → Env0 P w K mg base A outer s H → BindsTo s fd args (ps.zip us) → Vals vs us → sp vs H Q E →
    codeAny (model P w) A (.call (.ref f) args) (CR CX0 outer P w H s Q E) s
/-- the context of a def's body, whatever is handled -/
def cxH (P : Program) (w : World) (K : PySem.W.Frag) (mg : Str → Option Value) (base : Heap) (N : List Str) (qual : Str) (scope : Scope) (f : Addr) (cd : Value) (A : Around) (outer : List Env) (s : Shared) (H : Hp) (E : XK) : Cx :=
  { cxOf CX0 P w K mg base N qual scope f cd A outer s H E with calm := false }
theorem fnH_of {P : Program} {w : World} {K : PySem.W.Frag} {mg : Str → Option Value} {base : Heap} {k : Nat} {f : Addr} {name qual : Str} {params : Arguments} {body : List Stmt} {scope : Scope} {dV kV doc pm cdv ct oc : Value} {an od : Option Addr}
    {osl : Array (Option Value)} {N ps : List Str} {sp : Sp} (lk : K.lookup f = some ⟨oc, od, .func (PySem.W.fnOf name qual params body scope dV kV doc pm an cdv ct), osl⟩) (hcd : PySem.W.codeIn K cdv qual = true) (S : FnScope N ps scope)
    (len : ∀ vs H Q E, sp vs H Q E → vs.length = ps.length)
    (hbody : ∀ (A : Around) (outer : List Env) (s : Shared) (H : Hp) (vs : List V) (Q : VK) (E : XK), RoomH k (A.deeper (envOfC qual scope s.heap.objs.size f cdv)) → sp vs H Q E →
      ∃ t, PSs (cxH P w K mg base N qual scope f cdv A outer s H E) body t ∧ t { nx := fun _ H' => Q .non H', rt := Q } (start N vs) H) :
    FnH P w K mg base (k + 1) f (PySem.W.fnOf name qual params body scope dV kV doc pm an cdv ct) ps sp := by
  refine ⟨len, fun A outer s H args us vs Q E hr e0 hb r hsp => ?_⟩
  have hl := len _ _ _ _ hsp
  have KX : K.In s.heap := e0.mod.kin.keeps fun b o e => (e0.bs b o e).1
  have lim : s.heap.NoLimit := e0.mod.nolimit.keeps fun b o e => (e0.bs b o e).1
  have hkind : ∀ y ∈ ps.zip us, scope.names.lookup y.1 = some .local ∨ (scope.names.lookup y.1 = some .cell ∧ ((cellsFrom (s.heap.objs.size + 1) scope.names []).lookup y.1).isSome = true) := fun ⟨n, v⟩ hy => by
    rcases S.par n (List.of_mem_zip hy).1 with q | q
    · exact .inl q
    · exact .inr ⟨q, PySem.W.cellsFrom_some _ _ _ (.inl q)⟩
  refine codeAny_call_function (by have := hr.dp; omega) (KX _ _ lk) rfl S.co S.gen rfl (PySem.W.codeRec_of KX hcd) (hb _ _ _ _ ?_)
  refine wpAny_newFunctionEnv_cells S.kind hkind fun env he s1 x => ?_
  subst he
  refine ⟨lim.keeps x.toInCall.keep, codeAny_func ?_⟩
  obtain ⟨t, ht, hq⟩ := hbody A outer s H vs Q E (hr.deeper _) hsp
  have e1 : Env0 P w K mg base { A with handled := none } outer s H := ⟨e0.frames, e0.mod, e0.bs, e0.bsz, e0.funs, e0.frf, e0.hok, e0.bare⟩
  have I0 : Inv (cxOf CX0 P w K mg base N qual scope f cdv { A with handled := none } outer s H E) [] (start N vs) H s1 := inv_start S rfl e1 hl r x
  have I : Inv (cxH P w K mg base N qual scope f cdv A outer s H E) [] (start N vs) H s1 := by
    have k := I0.ok
    exact ⟨⟨k.mod, k.kind, k.glob, k.blt, k.above, k.inj, k.has, k.cab, (fun z => nomatch z), k.frames, k.stk, k.exf, k.bs, k.bsz, k.noex, k.exfs, k.funs, k.frf⟩, I0.os, I0.bare, I0.base, I0.loc, I0.cell, I0.free, I0.freeC, I0.pin, I0.hok, I0.len⟩
  refine wpAny_mono (ht [] s1 (start N vs) H _ I hq) (fun fl s' hs => ?_) fun e s' hs => hs
  have fin : ∀ {σ' : St} {H' : Hp} {v : V} {u : Value}, Inv (cxH P w K mg base N qual scope f cdv A outer s H E) [] σ' H' s' → RelV v u → Q v H' → CE outer P w H s Q u s' :=
    fun {σ' H' v u} J rv q => ⟨v, H', J.os, J.bare, J.base, J.hok, rv, q⟩
  cases fl with
  | ret u =>
    obtain ⟨v, σ', H', J, rv, q⟩ := hs
    exact fin J rv q
  | next =>
    obtain ⟨σ', H', J, q⟩ := hs
    exact fin (v := V.non) (u := Value.none) J rfl q
  | brk =>
    obtain ⟨_, _, _, q⟩ := hs
    exact False.elim q
  | cont =>
    obtain ⟨_, _, _, q⟩ := hs
    exact False.elim q
section
variable {X : Cx} {k : Nat} {f : Addr} {fd : FuncData} {ps : List Str} {sp : Sp} {x : Str} {p pos : Pos} {e : Expr} {es : List Expr} {t : TA}
theorem pe_callH (F : FnH X.prog X.w X.K X.mg X.base k f fd ps sp) (hr : RoomH k X.A) (hm : X.mg x = some (.ref f)) (hk : PySem.W.keepIn X.K (.ref f) = true) (hb : Binds X.K fd ps [])
    (ha : PA X (e :: es) t) (hg : Gl X x := by rfl) (hdb : (x == ("__debug__" : Str)) = false := by decide) (he : starEach (e :: es) X.env = (false, eval e X.env) :: starEach es X.env := by rfl) (hpl : (backTo pos (starEach es X.env)).any (·.1) = false := by rfl) :
    PE X (.Call (.Name x p) (e :: es) [] pos) (tCall sp [] E0 t) := by
  intro pins s σ H Q I h
  refine wpAny_Call_Name_kw (ld_glob I hg hm ?_ hdb)
  refine PySem.W.callWith_K (h₀ := X.base) I.ok.mod.kin hk (thn (ha pos pins s σ H _ I h) fun us s1 ⟨vs, H1, I1, r, q⟩ => ⟨I1.kIn, ?_⟩) he hpl
  have q : sp (vs ++ []) H1 Q E0 := q
  rw [List.append_nil] at q
  have hl : (us ++ []).length = ps.length := by rw [List.append_nil, ← r.length]; exact F.len _ _ _ _ q
  have hbb := hb s1 us I1.kIn hl
  rw [List.append_nil] at hbb
  refine wpAny_call (codeAny_mono (F.run X.A X.stack s1 H1 ⟨us, []⟩ us vs Q E0 hr I1.env0 hbb r q) fun r s' hq => ?_)
  cases r with
  | error e => exact False.elim hq
  | ok fl =>
    cases fl with
    | ret u => exact I1.after hq
    | next => exact False.elim hq
    | brk => exact False.elim hq
    | cont => exact False.elim hq
end
/-! ### {} -/
section
variable {X : Cx} {pos : Pos}
theorem dk_new {P : Program} {w : World} {H : Hp} (h : Heap) (hb : sysModules < h.objs.size) : ObjOk P w H (h.push { cls := .type "dict", data := .dict #[] }) h.objs.size (.dK []) :=
  ⟨Nat.zero_le _, beq_eq_false_iff_ne.mpr (Ne.symm (Nat.ne_of_lt hb)), [], .nil, Heap.DictOf.new h⟩
theorem Inv.roomy {pins : List (Addr × Obj)} {σ : St} {H : Hp} {s : Shared} (I : Inv X pins σ H s) : sysModules < s.heap.objs.size :=
  Nat.lt_trans (by decide) (show mainGlobals < s.heap.objs.size from (I.mod.glob.keeps I.bk).lt)
def tDNew : TE := fun _ H Q => ∀ p, H p = none → Q (.ref p) (upd H p (.dK []))
theorem pe_dnew : PE X (.Dict [] [] pos) tDNew := fun pins s σ H Q I h =>
  wpAny_Dict_empty ⟨.ref s.heap.objs.size, _, I.laid (a := s.heap.objs.size) (o := .dK []) (t' := s.toks) (fun _ _ q => Heap.get?_push_of_some _ q) (Nat.le_refl _) (dk_new s.heap I.roomy), rfl, h _ (I.hok.fresh (Nat.le_refl _))⟩
end
/-! ### range(n) as a value, list(range(n)) -/
section
variable {X : Cx}
theorem call_rng1 : CallR X (.type "range") (fun xs H Q => ∃ j : Int, xs = [.int j] ∧ ∀ r, H r = none → Q (.ref r) (upd H r (.rng 0 j))) := by
  intro pins s σ H xs us Q I r h
  obtain ⟨j, rfl, q⟩ := h
  obtain ⟨u, rfl, t, rfl⟩ := vals1 r
  refine call_range_1 ⟨.ref s.heap.objs.size, _, I.laid (a := s.heap.objs.size) (o := .rng 0 j) (fun _ _ q => Heap.get?_push_of_some _ q) (Nat.le_refl _) ?_, rfl, q _ (I.hok.fresh (Nat.le_refl _))⟩
  exact ⟨_, _, _, Heap.get?_push_size _ rfl⟩
theorem vals_cnt : ∀ (acc : List Value) (k : Nat), (∀ (j : Nat) (v : Value), acc[j]? = some v → ∃ t, v = Value.int ((k + j : Nat) : Int) t) → Vals ((List.range' k acc.length).map fun i : Nat => V.int (i : Int)) acc
  | [], _, _ => .nil
  | x :: r, k, h => by
    refine .cons ?_ (vals_cnt r (k + 1) fun j v hj => ?_)
    · obtain ⟨t, e⟩ := h 0 x rfl
      exact ⟨t, e⟩
    · have := h (j + 1) v (by simpa using hj)
      rwa [show k + (j + 1) = k + 1 + j by omega] at this
theorem call_listR (hc : X.calm = true) : CallR X (.type "list") (fun xs H Q => ∃ (r : Addr) (n : Nat), xs = [.ref r] ∧ H r = some (.rng 0 (n : Int)) ∧ n ≤ 1000 ∧ ∀ l, H l = none → Q (.ref l) (upd H l (.lst ((List.range n).map fun i : Nat => V.int (i : Int))))) := by
  intro pins s σ H xs us Q I r h
  obtain ⟨ra, n, rfl, hr, hn, q⟩ := h
  obtain ⟨u, rfl, rx⟩ := vals1 r
  cases rx
  obtain ⟨t1, t2, t3, hg⟩ := (show ObjOk X.prog X.w H s.heap ra (.rng 0 (n : Int)) from I.hok ra _ hr)
  refine call_list_range (n := n) (I.ok.hd hc) (show IsRange s.heap ra 0 (n : Int) 1 t1 t2 t3 from hg) (small_one (by omega) (by omega) (by omega) (by omega)) (by rw [rangeSize_one]; split <;> omega) (by omega) fun h' tk acc c' kp e hacc => ?_
  have hv : Vals ((List.range n).map fun i : Nat => V.int (i : Int)) acc.toList := by
    have := vals_cnt acc.toList 0 fun j v hj => by
      obtain ⟨t, e⟩ := hacc.2 j v (by rw [← Array.getElem?_toList]; exact hj)
      exact ⟨t, by rw [e]; congr 1; omega⟩
    rwa [Array.length_toList, hacc.1, ← List.range_eq_range'] at this
  refine ⟨.ref s.heap.objs.size, _, I.laid (t' := tk) (o := .lst ((List.range n).map fun i : Nat => V.int (i : Int))) kp (Nat.le_refl _) ?_, rfl, q _ (I.hok.fresh (Nat.le_refl _))⟩
  refine ⟨?_, acc.toList, c', hv, by simpa using e⟩
  rw [List.length_map, List.length_range, sizeLine_eq]
  omega
end
/-! ### lists of truths compared -/
theorem bl_carried : ∀ {bs : List Bool} {us : List Value}, Vals (bs.map V.bl) us → CarriedAll us (bs.map PyData.bool)
  | [], _, .nil => .nil
  | b :: bs, _, .cons r rs => by
    cases (show _ = Value.bool b from r)
    exact .cons (.bool b) (bl_carried rs)
theorem bl_canLay : ∀ bs : List Bool, PyData.canLayAll0 (bs.map PyData.bool) = true
  | [] => rfl
  | b :: bs => by simp [PyData.canLayAll0, PyData.canLay0, bl_canLay bs]
theorem bl_depth : ∀ bs : List Bool, PyData.depthAll (bs.map PyData.bool) = 0
  | [] => rfl
  | b :: bs => by simp [PyData.depthAll, PyData.depth, bl_depth bs]
theorem bl_shaped (bs : List Bool) : SeqAt.shaped (.list (bs.map PyData.bool)) = true := by
  simp [SeqAt.shaped, PyData.canLay0, PyData.depth, bl_canLay, bl_depth]
theorem bl_eqvAll : ∀ a b : List Bool, PyData.eqvAll (a.map PyData.bool) (b.map PyData.bool) = decide (a = b)
  | [], [] => rfl
  | [], _ :: _ => by simp [PyData.eqvAll]
  | _ :: _, [] => by simp [PyData.eqvAll]
  | x :: a, y :: b => by
    have ih := bl_eqvAll a b
    cases x <;> cases y <;> simp [PyData.eqvAll, PyData.eqv, ih]
theorem bl_eqv (a b : List Bool) : PyData.eqv (.list (a.map PyData.bool)) (.list (b.map PyData.bool)) = decide (a = b) := by
  simp [PyData.eqv, bl_eqvAll]
section
variable {X : Cx}
theorem op_eqBs (hu : X.A.units + 64 < cLine) : OpR X (compareOp .Eq) (fun x y H Q => ∃ (a b : Addr) (ns ms : List Bool), x = .ref a ∧ y = .ref b ∧ SqL X.K H a (ns.map V.bl) ∧ SqL X.K H b (ms.map V.bl) ∧ Q (.bl (decide (ns = ms))) H) := by
  intro pins s σ H x y v u Q I rx ry h
  obtain ⟨a, b, ns, ms, rfl, rfl, ha, hb, q⟩ := h
  cases rx
  cases ry
  obtain ⟨its, r1, p1, _⟩ := I.list ha
  obtain ⟨its2, r2, p2, _⟩ := I.list hb
  exact eq_dataH (reads_newData p1.isList (bl_carried r1)) (reads_newData p2.isList (bl_carried r2)) (bl_shaped _) (bl_shaped _) hu ⟨.bl _, H, I, by rw [bl_eqv]; rfl, q⟩
theorem op_neBs (hu : X.A.units + 64 < cLine) : OpR X (compareOp .NotEq) (fun x y H Q => ∃ (a b : Addr) (ns ms : List Bool), x = .ref a ∧ y = .ref b ∧ SqL X.K H a (ns.map V.bl) ∧ SqL X.K H b (ms.map V.bl) ∧ Q (.bl (!decide (ns = ms))) H) := by
  intro pins s σ H x y v u Q I rx ry h
  obtain ⟨a, b, ns, ms, rfl, rfl, ha, hb, q⟩ := h
  cases rx
  cases ry
  obtain ⟨its, r1, p1, _⟩ := I.list ha
  obtain ⟨its2, r2, p2, _⟩ := I.list hb
  exact ne_dataH (reads_newData p1.isList (bl_carried r1)) (reads_newData p2.isList (bl_carried r2)) (bl_shaped _) (bl_shaped _) hu ⟨.bl _, H, I, by rw [bl_eqv]; rfl, q⟩
end
end L2

/-! Sums, congruences, convolutions: plain mathematics. -/
namespace RM
/-- f 0 + .. + f (n - 1) -/
def sm : Nat → (Nat → Int) → Int
  | 0, _ => 0
  | n + 1, f => sm n f + f n
theorem sm_congr {n : Nat} {f g : Nat → Int} (h : ∀ i, i < n → f i = g i) : sm n f = sm n g := by
  induction n with
  | zero => rfl
  | succ n ih => rw [sm, sm, ih fun i hi => h i (by omega), h n (by omega)]
theorem sm_zero {n : Nat} {f : Nat → Int} (h : ∀ i, i < n → f i = 0) : sm n f = 0 := by
  induction n with
  | zero => rfl
  | succ n ih => rw [sm, ih fun i hi => h i (by omega), h n (by omega)]; rfl
theorem sm_add (n : Nat) (f g : Nat → Int) : sm n (fun i => f i + g i) = sm n f + sm n g := by
  induction n with
  | zero => rfl
  | succ n ih => simp only [sm]; rw [ih]; omega
theorem sm_mul (n : Nat) (c : Int) (f : Nat → Int) : sm n (fun i => c * f i) = c * sm n f := by
  induction n with
  | zero => simp [sm]
  | succ n ih => simp only [sm]; rw [ih, Int.mul_add]
theorem sm_mulr (n : Nat) (c : Int) (f : Nat → Int) : sm n (fun i => f i * c) = sm n f * c := by
  rw [Int.mul_comm, ← sm_mul]
  exact sm_congr fun i _ => Int.mul_comm _ _
/-- one more at the front -/
theorem sm_front (n : Nat) (f : Nat → Int) : sm (n + 1) f = f 0 + sm n (fun i => f (i + 1)) := by
  induction n with
  | zero => simp [sm]
  | succ n ih =>
    rw [sm, ih]
    simp only [sm]
    omega
/-- told from behind -/
theorem sm_rev (n : Nat) (f : Nat → Int) : sm n (fun i => f (n - 1 - i)) = sm n f := by
  induction n with
  | zero => rfl
  | succ n ih =>
    rw [sm_front, sm]
    have e : sm n (fun i => f (n + 1 - 1 - (i + 1))) = sm n (fun i => f (n - 1 - i)) := sm_congr fun i _ => by
      have : n + 1 - 1 - (i + 1) = n - 1 - i := by omega
      rw [this]
    rw [e, ih]
    simp only [Nat.add_sub_cancel, Nat.sub_zero]
    omega
theorem sm_cut {n m : Nat} {f : Nat → Int} (h : n ≤ m) (h0 : ∀ i, n ≤ i → i < m → f i = 0) : sm m f = sm n f := by
  induction m with
  | zero => have : n = 0 := by omega
            subst this; rfl
  | succ m ih =>
    by_cases e : n = m + 1
    · rw [e]
    · rw [sm, ih (by omega) fun i a b => h0 i a (by omega), h0 m (by omega) (by omega)]
      omega
/-- a triangle told by its rows or by its diagonals -/
theorem sm_tri (F : Nat → Nat → Int) (n : Nat) : sm (n + 1) (fun i => sm (n - i + 1) (fun j => F i j)) = sm (n + 1) (fun k => sm (k + 1) (fun i => F i (k - i))) := by
  induction n with
  | zero => rfl
  | succ n ih =>
    rw [show sm (n + 1 + 1) (fun k => sm (k + 1) (fun i => F i (k - i))) = sm (n + 1) (fun k => sm (k + 1) (fun i => F i (k - i))) + sm (n + 1 + 1) (fun i => F i (n + 1 - i)) from rfl, ← ih]
    rw [sm]
    have e1 : sm (n + 1) (fun i => sm (n + 1 - i + 1) (fun j => F i j)) = sm (n + 1) (fun i => sm (n - i + 1) (fun j => F i j)) + sm (n + 1) (fun i => F i (n + 1 - i)) := by
      rw [← sm_add]
      refine sm_congr fun i hi => ?_
      have e : n + 1 - i + 1 = (n - i + 1) + 1 := by omega
      have e' : n - i + 1 = n + 1 - i := by omega
      rw [e, sm, e']
    have e2 : sm (n + 1 - (n + 1) + 1) (fun j => F (n + 1) j) = F (n + 1) (n + 1 - (n + 1)) := by
      rw [Nat.sub_self]
      simp [sm]
    rw [e1, e2]
    rw [show sm (n + 1 + 1) (fun i => F i (n + 1 - i)) = sm (n + 1) (fun i => F i (n + 1 - i)) + F (n + 1) (n + 1 - (n + 1)) from rfl]
    omega

/-! ### equal up to p -/
def Cg (p a b : Int) : Prop := p ∣ a - b
theorem Cg.refl (p a : Int) : Cg p a a := ⟨0, by omega⟩
theorem Cg.of_eq {p a b : Int} (h : a = b) : Cg p a b := h ▸ Cg.refl p a
theorem Cg.symm {p a b : Int} (h : Cg p a b) : Cg p b a := by
  obtain ⟨k, e⟩ := h
  exact ⟨-k, by rw [Int.mul_neg]; omega⟩
theorem Cg.trans {p a b c : Int} (h : Cg p a b) (h' : Cg p b c) : Cg p a c := by
  obtain ⟨k, e⟩ := h
  obtain ⟨l, e'⟩ := h'
  exact ⟨k + l, by rw [Int.mul_add]; omega⟩
theorem Cg.add {p a b c d : Int} (h : Cg p a b) (h' : Cg p c d) : Cg p (a + c) (b + d) := by
  obtain ⟨k, e⟩ := h
  obtain ⟨l, e'⟩ := h'
  exact ⟨k + l, by rw [Int.mul_add]; omega⟩
theorem Cg.neg {p a b : Int} (h : Cg p a b) : Cg p (-a) (-b) := by
  obtain ⟨k, e⟩ := h
  exact ⟨-k, by rw [Int.mul_neg]; omega⟩
theorem Cg.mul {p a b c d : Int} (h : Cg p a b) (h' : Cg p c d) : Cg p (a * c) (b * d) := by
  obtain ⟨k, e⟩ := h
  obtain ⟨l, e'⟩ := h'
  have e1 : a = b + p * k := by omega
  have e2 : c = d + p * l := by omega
  refine ⟨b * l + k * d + k * (p * l), ?_⟩
  rw [e1, e2]
  rw [Int.add_mul, Int.mul_add, Int.mul_add, Int.mul_add, Int.mul_add]
  have q1 : b * (p * l) = p * (b * l) := by rw [← Int.mul_assoc, Int.mul_comm b p, Int.mul_assoc]
  have q2 : p * k * d = p * (k * d) := Int.mul_assoc ..
  have q3 : p * k * (p * l) = p * (k * (p * l)) := Int.mul_assoc ..
  rw [q1, q2, q3]
  omega
theorem Cg.emod (p a : Int) : Cg p (a % p) a := by
  refine ⟨-(a / p), ?_⟩
  have := Int.emod_add_mul_ediv a p
  rw [Int.mul_neg]
  omega
theorem Cg.eq {p a b : Int} (hp : 0 < p) (h : Cg p a b) : a % p = b % p := by
  obtain ⟨k, e⟩ := h
  have e1 : a = b + p * k := by omega
  rw [e1, Int.add_mul_emod_self_left]
theorem Cg.of_mod {p a b : Int} (h : a % p = b % p) : Cg p a b := ((Cg.emod p a).symm.trans (Cg.of_eq h)).trans (Cg.emod p b)
theorem Cg.sm {p : Int} {n : Nat} {f g : Nat → Int} (h : ∀ i, i < n → Cg p (f i) (g i)) : Cg p (sm n f) (sm n g) := by
  induction n with
  | zero => exact Cg.refl _ _
  | succ n ih => exact (ih fun i hi => h i (by omega)).add (h n (by omega))
/-- a rest is its own rest -/
theorem rest_eq {p a b : Int} (h0 : 0 ≤ a) (h1 : a < p) (h2 : 0 ≤ b) (h3 : b < p) (h : Cg p a b) : a = b := by
  have := h.eq (by omega)
  rw [Int.emod_eq_of_lt h0 h1, Int.emod_eq_of_lt h2 h3] at this
  exact this
theorem mod_rest {a p : Int} (hp : 0 < p) : 0 ≤ a % p ∧ a % p < p := ⟨Int.emod_nonneg _ (by omega), Int.emod_lt_of_pos _ hp⟩

/-! ### convolution -/
def cv (f g : Nat → Int) (n : Nat) : Int := sm (n + 1) fun i => f i * g (n - i)
theorem cv_comm (f g : Nat → Int) (n : Nat) : cv f g n = cv g f n := by
  unfold cv
  rw [← sm_rev (n + 1) (fun i => g i * f (n - i))]
  refine sm_congr fun i hi => ?_
  have e1 : n + 1 - 1 - i = n - i := by omega
  have e2 : n - (n - i) = i := by omega
  rw [e1, e2, Int.mul_comm]
theorem cv_assoc (f g h : Nat → Int) (n : Nat) : cv f (cv g h) n = cv (cv f g) h n := by
  have e1 : cv f (cv g h) n = sm (n + 1) (fun i => sm (n - i + 1) (fun j => f i * (g j * h (n - i - j)))) := sm_congr fun i _ => by
    unfold cv
    rw [sm_mul]
  have e2 : cv (cv f g) h n = sm (n + 1) (fun k => sm (k + 1) (fun i => f i * (g (k - i) * h (n - i - (k - i))))) := sm_congr fun k hk => by
    unfold cv
    rw [← sm_mulr]
    refine sm_congr fun i hi => ?_
    have e : n - i - (k - i) = n - k := by omega
    rw [e, Int.mul_assoc]
  rw [e1, e2]
  exact sm_tri (fun i j => f i * (g j * h (n - i - j))) n
theorem cv_congr {p : Int} {f f' g g' : Nat → Int} {n : Nat} (h : ∀ i, i ≤ n → Cg p (f i) (f' i)) (h' : ∀ i, i ≤ n → Cg p (g i) (g' i)) : Cg p (cv f g n) (cv f' g' n) :=
  Cg.sm fun i hi => (h i (by omega)).mul (h' (n - i) (by omega))
theorem cv_eq {f f' g g' : Nat → Int} {n : Nat} (h : ∀ i, i ≤ n → f i = f' i) (h' : ∀ i, i ≤ n → g i = g' i) : cv f g n = cv f' g' n :=
  sm_congr fun i hi => by rw [h i (by omega), h' (n - i) (by omega)]
/-- the sign of -1 to the n -/
def sg (n : Nat) : Int := if n % 2 = 0 then 1 else -1
theorem sg_mul (m n : Nat) : sg m * sg n = sg (m + n) := by
  unfold sg
  rcases Nat.mod_two_eq_zero_or_one m with hm | hm <;> rcases Nat.mod_two_eq_zero_or_one n with hn | hn
  · rw [if_pos hm, if_pos hn, if_pos (by omega)]; rfl
  · rw [if_pos hm, if_neg (by omega), if_neg (by omega)]; rfl
  · rw [if_neg (by omega), if_pos hn, if_neg (by omega)]; rfl
  · rw [if_neg (by omega), if_neg (by omega), if_pos (by omega)]; rfl
/-- q(x) q(-x) has even powers alone -/
theorem mirror_odd (q : Nat → Int) (n : Nat) (hn : n % 2 = 1) : cv q (fun i => sg i * q i) n = 0 := by
  have e1 : cv q (fun i => sg i * q i) n = -cv (fun i => sg i * q i) q n := by
    unfold cv
    rw [← Int.neg_one_mul, ← sm_mul]
    refine sm_congr fun i hi => ?_
    have e : sg (n - i) = -sg i := by
      have h1 : sg i * sg (n - i) = sg n := by rw [sg_mul, show i + (n - i) = n by omega]
      have h2 : sg n = -1 := by unfold sg; rw [if_neg (by omega)]
      rw [h2] at h1
      unfold sg at h1 ⊢
      by_cases c1 : i % 2 = 0 <;> by_cases c2 : (n - i) % 2 = 0 <;> simp only [c1, c2, if_true, if_false] at h1 ⊢ <;> omega
    show q i * (sg (n - i) * q (n - i)) = -1 * (sg i * q i * q (n - i))
    rw [e, Int.neg_mul, Int.mul_neg, Int.neg_one_mul, ← Int.mul_assoc, Int.mul_comm (q i) (sg i)]
  have e2 := cv_comm q (fun i => sg i * q i) n
  omega
/-- only even places count -/
theorem sm_even (e : Nat) (he : e < 2) (m : Nat) (f : Nat → Int) (h : ∀ i, i % 2 = 1 → f i = 0) : sm (2 * m + e + 1) f = sm (m + 1) (fun j => f (2 * j)) := by
  induction m with
  | zero =>
    rcases (by omega : e = 0 ∨ e = 1) with r | r
    · subst r; rfl
    · subst r
      show sm 2 f = sm 1 fun j => f (2 * j)
      simp only [sm]
      rw [h 1 rfl]
      simp
  | succ m ih =>
    have q : 2 * (m + 1) + e + 1 = (2 * m + e + 1) + 1 + 1 := by omega
    rw [q, sm, sm, ih]
    rw [show sm (m + 1 + 1) (fun j => f (2 * j)) = sm (m + 1) (fun j => f (2 * j)) + f (2 * (m + 1)) from rfl]
    rcases (by omega : e = 0 ∨ e = 1) with r | r
    · subst r
      rw [h (2 * m + 0 + 1) (by omega), show 2 * m + 0 + 1 + 1 = 2 * (m + 1) by omega]
      omega
    · subst r
      rw [h (2 * m + 1 + 1 + 1) (by omega), show 2 * m + 1 + 1 = 2 * (m + 1) by omega]
      omega
/-- ONE ROUND of halving: if q * a = u up to p then with v(x^2) = q(x) q(-x) and the half w of u(x) q(-x): v * (a at 2 n + e) = w up to p -/
theorem halve {p : Int} {q a u v w : Nat → Int} {e : Nat} (he : e < 2) (h : ∀ n, Cg p (cv q a n) (u n)) (hv : ∀ j, Cg p (v j) (cv q (fun i => sg i * q i) (2 * j))) (hw : ∀ m, Cg p (w m) (cv u (fun i => sg i * q i) (2 * m + e))) :
    ∀ m, Cg p (cv v (fun n => a (2 * n + e)) m) (w m) := fun m => by
  let s : Nat → Int := fun i => sg i * q i
  have h1 : Cg p (cv u s (2 * m + e)) (cv (cv q s) a (2 * m + e)) := by
    have a1 : Cg p (cv u s (2 * m + e)) (cv (cv q a) s (2 * m + e)) := cv_congr (fun i _ => (h i).symm) fun i _ => Cg.refl _ _
    refine a1.trans (Cg.of_eq ?_)
    rw [cv_comm, cv_assoc, cv_eq (fun i _ => cv_comm s q i) fun i _ => rfl]
  have h2 : cv (cv q s) a (2 * m + e) = sm (m + 1) (fun j => cv q s (2 * j) * a (2 * (m - j) + e)) := by
    unfold cv
    rw [sm_even e he m (fun i => sm (i + 1) (fun k => q k * s (i - k)) * a (2 * m + e - i)) fun i hi => by
      have z : sm (i + 1) (fun k => q k * s (i - k)) = 0 := mirror_odd q i hi
      rw [z, Int.zero_mul]]
    refine sm_congr fun j hj => ?_
    have z : 2 * m + e - 2 * j = 2 * (m - j) + e := by omega
    show sm (2 * j + 1) _ * a (2 * m + e - 2 * j) = _
    rw [z]
  have h3 : Cg p (cv v (fun n => a (2 * n + e)) m) (sm (m + 1) (fun j => cv q s (2 * j) * a (2 * (m - j) + e))) := Cg.sm fun j _ => (hv j).mul (Cg.refl _ _)
  exact (h3.trans (Cg.of_eq h2.symm)).trans (h1.symm.trans (hw m).symm)
end RM

namespace RM
/-! ### rules and rows as plain lists -/
def gt (l : List Int) (i : Nat) : Int := l.getD i 0
theorem gt_lt {l : List Int} {i : Nat} (h : i < l.length) : gt l i = l[i] := by unfold gt; rw [List.getD_eq_getElem?_getD, List.getElem?_eq_getElem h]; rfl
theorem gt_some {l : List Int} {i : Nat} {x : Int} (h : l[i]? = some x) : gt l i = x := by unfold gt; rw [List.getD_eq_getElem?_getD, h]; rfl
theorem gt_ge {l : List Int} {i : Nat} (h : l.length ≤ i) : gt l i = 0 := by unfold gt; rw [List.getD_eq_getElem?_getD, List.getElem?_eq_none h]; rfl
theorem gt_app {l r : List Int} {i : Nat} (h : i < l.length) : gt (l ++ r) i = gt l i := by unfold gt; rw [List.getD_eq_getElem?_getD, List.getD_eq_getElem?_getD, List.getElem?_append_left h]
theorem gt_last {l : List Int} {x : Int} : gt (l ++ [x]) l.length = x := by unfold gt; rw [List.getD_eq_getElem?_getD, List.getElem?_append_right (Nat.le_refl _)]; simp
theorem gt_drop {l : List Int} {k i : Nat} : gt (l.drop k) i = gt l (k + i) := by unfold gt; rw [List.getD_eq_getElem?_getD, List.getD_eq_getElem?_getD, List.getElem?_drop]
theorem gt_map {n i : Nat} {f : Nat → Int} (h : i < n) : gt ((List.range n).map f) i = f i := by unfold gt; rw [List.getD_eq_getElem?_getD, List.getElem?_map, List.getElem?_range h]; rfl
theorem len_map {n : Nat} {f : Nat → Int} : ((List.range n).map f).length = n := by rw [List.length_map, List.length_range]
theorem gt_map0 {n i : Nat} {f : Nat → Int} (h : n ≤ i) : gt ((List.range n).map f) i = 0 := gt_ge (by rw [len_map]; exact h)
theorem gt_mapf {l : List Int} {f : Int → Int} {i : Nat} (h : i < l.length) : gt (l.map f) i = f (gt l i) := by
  rw [gt_lt h, gt_lt (by rw [List.length_map]; exact h), List.getElem_map]
theorem gt_map_all {l : List Int} {f : Int → Int} (h0 : f 0 = 0) (i : Nat) : gt (l.map f) i = f (gt l i) := by
  by_cases h : i < l.length
  · exact gt_mapf h
  · rw [gt_ge (by rw [List.length_map]; omega), gt_ge (by omega), h0]
theorem list_sum (l : List Int) : l.sum = sm l.length (gt l) := by
  induction l with
  | nil => rfl
  | cons x r ih =>
    rw [List.sum_cons, ih, List.length_cons, sm_front]
    rfl
theorem sum_range (n : Nat) (f : Nat → Int) : ((List.range n).map f).sum = sm n f := by
  rw [list_sum, len_map]
  exact sm_congr fun i hi => gt_map hi
/-- rests -/
def Rests (p : Int) (l : List Int) : Prop := ∀ x ∈ l, 0 ≤ x ∧ x < p
theorem Rests.at {p : Int} {l : List Int} (h : Rests p l) (hp : 0 < p) (i : Nat) : 0 ≤ gt l i ∧ gt l i < p := by
  by_cases hi : i < l.length
  · rw [gt_lt hi]; exact h _ (List.getElem_mem hi)
  · rw [gt_ge (by omega)]; omega
theorem Rests.map {p : Int} {n : Nat} {f : Nat → Int} (h : ∀ i, i < n → 0 ≤ f i ∧ f i < p) : Rests p ((List.range n).map f) := fun x hx => by
  obtain ⟨i, hi, rfl⟩ := List.mem_map.mp hx
  exact h i (List.mem_range.mp hi)
theorem Rests.app {p : Int} {l r : List Int} (h : Rests p l) (h' : Rests p r) : Rests p (l ++ r) := fun x hx => (List.mem_append.mp hx).elim (h x) (h' x)
theorem Rests.drop {p : Int} {l : List Int} (h : Rests p l) (k : Nat) : Rests p (l.drop k) := fun x hx => h x (List.mem_of_mem_drop hx)
theorem Rests.take {p : Int} {l : List Int} (h : Rests p l) (k : Nat) : Rests p (l.take k) := fun x hx => h x (List.mem_of_mem_take hx)
theorem Rests.one {p x : Int} (h : 0 ≤ x ∧ x < p) : Rests p [x] := fun y hy => by rw [List.mem_singleton.mp hy]; exact h
theorem Rests.nil {p : Int} : Rests p [] := fun _ h => nomatch h

/-- what is due at a place -/
def dueN (p : Int) (rule row : List Int) (k : Nat) : Int := sm rule.length (fun i => gt rule i * gt row (k - 1 - i)) % p
theorem dueN_rest {p : Int} (hp : 0 < p) (rule row : List Int) (k : Nat) : 0 ≤ dueN p rule row k ∧ dueN p rule row k < p := mod_rest hp
/-- whether a rule makes a row -/
def makesN (p : Int) (rule row : List Int) : Bool := (List.range (row.length - rule.length)).all fun i => gt row (rule.length + i) == dueN p rule row (rule.length + i)
/-- the row gone on, m numbers more -/
def ext (p : Int) (rule row : List Int) : Nat → List Int
  | 0 => row
  | m + 1 => ext p rule row m ++ [dueN p rule (ext p rule row m) (ext p rule row m).length]
theorem ext_len (p : Int) (rule row : List Int) (m : Nat) : (ext p rule row m).length = row.length + m := by
  induction m with
  | zero => rfl
  | succ m ih => rw [ext, List.length_append, ih]; rfl
theorem ext_rests {p : Int} {rule row : List Int} (hp : 0 < p) (h : Rests p row) (m : Nat) : Rests p (ext p rule row m) := by
  induction m with
  | zero => exact h
  | succ m ih => exact ih.app (.one (dueN_rest hp _ _ _))
theorem ext_pre (p : Int) (rule row : List Int) (m d : Nat) {i : Nat} (h : i < row.length + m) : gt (ext p rule row (m + d)) i = gt (ext p rule row m) i := by
  induction d with
  | zero => rfl
  | succ d ih => rw [← Nat.add_assoc, ext, gt_app (by rw [ext_len]; omega), ih]
/-- the number at a place of the row gone on for ever -/
def seq (p : Int) (rule row : List Int) (i : Nat) : Int := gt (ext p rule row (i + 1)) i
theorem seq_ext {p : Int} {rule row : List Int} {m i : Nat} (h : i < row.length + m) : gt (ext p rule row m) i = seq p rule row i := by
  unfold seq
  rcases Nat.le_total m (i + 1) with q | q
  · obtain ⟨d, e⟩ := Nat.exists_eq_add_of_le q
    rw [e, ext_pre _ _ _ _ _ h]
  · obtain ⟨d, e⟩ := Nat.exists_eq_add_of_le q
    rw [e, ext_pre _ _ _ _ _ (by omega)]
theorem seq_row {p : Int} {rule row : List Int} {i : Nat} (h : i < row.length) : seq p rule row i = gt row i := by
  rw [← seq_ext (m := 0) (by omega)]
  rfl
/-- it goes by the rule behind the row -/
theorem seq_rec {p : Int} {rule row : List Int} {n : Nat} (hl : rule.length ≤ row.length) (h : row.length ≤ n) : seq p rule row n = sm rule.length (fun i => gt rule i * seq p rule row (n - 1 - i)) % p := by
  obtain ⟨m, rfl⟩ := Nat.exists_eq_add_of_le h
  rw [← seq_ext (m := m + 1) (by omega)]
  have e := ext_len p rule row m
  have e2 : row.length + m = (ext p rule row m).length := by omega
  rw [ext, e2, gt_last, dueN]
  congr 1
  refine sm_congr fun i hi => ?_
  rw [seq_ext (by omega)]
/-! ### products of polynomials, the program's road -/
def prodAt (p : Int) (one other : List Int) (k : Nat) : Int := cv (gt one) (gt other) k % p
def polyN (p : Int) (rule : List Int) : List Int := 1 :: rule.map fun r => (-r) % p
theorem polyN_len (p : Int) (rule : List Int) : (polyN p rule).length = rule.length + 1 := by unfold polyN; rw [List.length_cons, List.length_map]
theorem polyN_0 (p : Int) (rule : List Int) : gt (polyN p rule) 0 = 1 := rfl
theorem polyN_s (p : Int) (rule : List Int) (i : Nat) : gt (polyN p rule) (i + 1) = (-gt rule i) % p := by
  have e : gt (polyN p rule) (i + 1) = gt (rule.map fun r => (-r) % p) i := rfl
  rw [e, gt_map_all (by simp)]
def mirN (p : Int) (l : List Int) : List Int := (List.range l.length).map fun i => if i % 2 = 0 then gt l i else (-gt l i) % p
theorem mirN_cg (p : Int) (l : List Int) (i : Nat) : Cg p (gt (mirN p l) i) (sg i * gt l i) := by
  by_cases h : i < l.length
  · unfold mirN sg
    rw [gt_map h]
    by_cases c : i % 2 = 0
    · rw [if_pos c, if_pos c, Int.one_mul]; exact Cg.refl _ _
    · rw [if_neg c, if_neg c, Int.neg_one_mul]; exact Cg.emod _ _
  · unfold mirN
    rw [gt_map0 (by omega), gt_ge (l := l) (by omega), Int.mul_zero]
    exact Cg.refl _ _
theorem mirN_len (p : Int) (l : List Int) : (mirN p l).length = l.length := len_map
theorem cv_high {f g : List Int} {k : Nat} (h : f.length + g.length ≤ k + 1) : cv (gt f) (gt g) k = 0 := sm_zero fun i hi => by
  by_cases c : i < f.length
  · rw [gt_ge (l := g) (by omega), Int.mul_zero]
  · rw [gt_ge (l := f) (by omega), Int.zero_mul]
/-- the state between two rounds: lower * a = upper up to p, lower begins with 1, and a at left is what is sought -/
structure NI (p : Int) (L : Nat) (goal : Int) (left : Nat) (lower upper : List Int) : Prop where
  ll : lower.length = L + 1
  lu : upper.length = L
  rl : Rests p lower
  ru : Rests p upper
  one : Cg p (gt lower 0) 1
  ex : ∃ a : Nat → Int, (∀ n, Cg p (cv (gt lower) a n) (gt upper n)) ∧ Cg p (a left) goal
def upN (p : Int) (L : Nat) (left : Nat) (lower upper : List Int) : List Int := (List.range L).map fun m => prodAt p upper (mirN p lower) (2 * m + left % 2)
def loN (p : Int) (L : Nat) (lower : List Int) : List Int := (List.range (L + 1)).map fun m => prodAt p lower (mirN p lower) (2 * m)
theorem NI.step {p : Int} {L : Nat} {goal : Int} {left : Nat} {lower upper : List Int} (hp : 0 < p) (h : NI p L goal left lower upper) : NI p L goal (left / 2) (loN p L lower) (upN p L left lower upper) := by
  have e2 : left % 2 < 2 := Nat.mod_lt _ (by decide)
  refine ⟨len_map, len_map, Rests.map fun _ _ => mod_rest hp, Rests.map fun _ _ => mod_rest hp, ?_, ?_⟩
  · unfold loN
    rw [gt_map (by omega)]
    refine (Cg.emod _ _).trans ?_
    show Cg p (0 + gt lower 0 * gt (mirN p lower) 0) 1
    have q : Cg p (gt (mirN p lower) 0) (gt lower 0) := (mirN_cg p lower 0).trans (Cg.of_eq (by unfold sg; simp))
    have := h.one.mul (q.trans h.one)
    rw [Int.zero_add]
    simpa using this
  · obtain ⟨a, ha, hg⟩ := h.ex
    refine ⟨fun n => a (2 * n + left % 2), halve e2 ha (fun j => ?_) (fun m => ?_), ?_⟩
    · by_cases c : j < L + 1
      · unfold loN
        rw [gt_map c]
        exact (Cg.emod _ _).trans (cv_congr (fun i _ => Cg.refl _ _) fun i _ => mirN_cg p lower i)
      · unfold loN
        rw [gt_map0 (by omega)]
        have z := cv_high (f := lower) (g := mirN p lower) (k := 2 * j) (by rw [mirN_len, h.ll]; omega)
        refine (Cg.of_eq z.symm).trans (cv_congr (fun i _ => Cg.refl _ _) fun i _ => mirN_cg p lower i)
    · by_cases c : m < L
      · unfold upN
        rw [gt_map c]
        exact (Cg.emod _ _).trans (cv_congr (fun i _ => Cg.refl _ _) fun i _ => mirN_cg p lower i)
      · unfold upN
        rw [gt_map0 (by omega)]
        have z := cv_high (f := upper) (g := mirN p lower) (k := 2 * m + left % 2) (by rw [mirN_len, h.ll, h.lu]; omega)
        refine (Cg.of_eq z.symm).trans (cv_congr (fun i _ => Cg.refl _ _) fun i _ => mirN_cg p lower i)
    · show Cg p (a (2 * (left / 2) + left % 2)) goal
      rw [show 2 * (left / 2) + left % 2 = left by omega]
      exact hg
theorem NI.done {p : Int} {L : Nat} {goal : Int} {lower upper : List Int} (hp : 0 < p) (hg : 0 ≤ goal ∧ goal < p) (h : NI p L goal 0 lower upper) : gt upper 0 = goal := by
  obtain ⟨a, ha, hl⟩ := h.ex
  have q := ha 0
  have q2 : cv (gt lower) a 0 = gt lower 0 * a 0 := by show 0 + gt lower 0 * a 0 = _; rw [Int.zero_add]
  rw [q2] at q
  have q3 : Cg p (gt lower 0 * a 0) (1 * goal) := h.one.mul hl
  rw [Int.one_mul] at q3
  have r := h.ru.at hp 0
  exact rest_eq r.1 r.2 hg.1 hg.2 (q.symm.trans q3)
theorem NI.start {p : Int} {rule start : List Int} (hp : 0 < p) (h1 : 1 < p) (hl : start.length = rule.length) (hL : 0 < rule.length) (place : Nat) :
    NI p rule.length (seq p rule start place) place (polyN p rule) ((List.range rule.length).map fun m => prodAt p start (polyN p rule) m) := by
  refine ⟨polyN_len p rule, len_map, ?_, Rests.map fun _ _ => mod_rest hp, Cg.of_eq (polyN_0 p rule), seq p rule start, fun n => ?_, Cg.refl _ _⟩
  · intro x hx
    rcases List.mem_cons.mp hx with rfl | hx
    · omega
    · obtain ⟨r, _, rfl⟩ := List.mem_map.mp hx
      exact mod_rest hp
  · by_cases c : n < rule.length
    · rw [gt_map c, cv_comm]
      refine (Cg.of_eq ?_).trans (Cg.emod _ _).symm
      exact cv_eq (fun i hi => seq_row (by omega)) fun _ _ => rfl
    · rw [gt_map0 (by omega)]
      have e1 : cv (gt (polyN p rule)) (seq p rule start) n = seq p rule start n + sm rule.length (fun i => (-gt rule i) % p * seq p rule start (n - 1 - i)) := by
        unfold cv
        rw [sm_front, polyN_0, Int.one_mul, Nat.sub_zero]
        congr 1
        have e : sm n (fun i => gt (polyN p rule) (i + 1) * seq p rule start (n - (i + 1))) = sm rule.length (fun i => gt (polyN p rule) (i + 1) * seq p rule start (n - (i + 1))) :=
          sm_cut (by omega) fun i a b => by rw [polyN_s, gt_ge a]; simp
        rw [e]
        refine sm_congr fun i hi => ?_
        rw [polyN_s, show n - (i + 1) = n - 1 - i by omega]
      rw [e1]
      have e2 : Cg p (sm rule.length (fun i => (-gt rule i) % p * seq p rule start (n - 1 - i))) (-sm rule.length (fun i => gt rule i * seq p rule start (n - 1 - i))) := by
        rw [← Int.neg_one_mul, ← sm_mul]
        refine Cg.sm fun i _ => ?_
        have q := (Cg.emod p (-gt rule i)).mul (Cg.refl p (seq p rule start (n - 1 - i)))
        rw [Int.neg_mul] at q
        rw [Int.neg_one_mul]
        exact q
      have e3 : Cg p (seq p rule start n) (sm rule.length (fun i => gt rule i * seq p rule start (n - 1 - i))) := by
        rw [seq_rec (by omega) (by omega)]
        exact Cg.emod _ _
      have := e3.add e2
      rw [Int.add_right_neg] at this
      exact this
end RM

namespace RM
/-! ### powers of a step -/
/-- a sum of steps, at a row -/
def phi (a : Nat → Int) (f : List Int) (n : Nat) : Int := sm f.length fun k => gt f k * a (n + k)
/-- a row that goes on by the rule from its length on -/
def Rec (p : Int) (rule : List Int) (a : Nat → Int) : Prop := ∀ m, rule.length ≤ m → Cg p (a m) (sm rule.length fun k => gt rule k * a (m - 1 - k))
/-- what two sums of steps multiplied are, at a row -/
def prodPhi (a : Nat → Int) (one other : List Int) (n : Nat) : Int := sm one.length fun i => gt one i * phi a other (n + i)
/-- the first loops: i whole turns, then k turns -/
def part (a : Nat → Int) (one other : List Int) (i k n : Nat) : Int := sm i (fun i' => gt one i' * phi a other (n + i')) + gt one i * sm k (fun k' => gt other k' * a (n + i + k'))
/-- what the law's times hands back -/
structure TimesOk (p : Int) (rule one other f : List Int) : Prop where
  rests : Rests p f
  lo : 1 ≤ f.length
  hi : f.length ≤ rule.length
  val : ∀ a, Rec p rule a → ∀ n, Cg p (phi a f n) (prodPhi a one other n)
theorem TimesOk.steps {p : Int} {rule one other f : List Int} (h : TimesOk p rule one other f) {a : Nat → Int} (hr : Rec p rule a) {e1 e2 : Nat} (h1 : ∀ n, Cg p (phi a one n) (a (n + e1))) (h2 : ∀ n, Cg p (phi a other n) (a (n + e2))) :
    ∀ n, Cg p (phi a f n) (a (n + (e1 + e2))) := fun n => by
  refine (h.val a hr n).trans ?_
  have q : Cg p (prodPhi a one other n) (phi a one (n + e2)) := Cg.sm fun i _ => (Cg.refl _ _).mul ((h2 (n + i)).trans (Cg.of_eq (by rw [show n + i + e2 = n + e2 + i by omega])))
  refine q.trans ((h1 (n + e2)).trans (Cg.of_eq ?_))
  rw [show n + e2 + e1 = n + (e1 + e2) by omega]
end RM

set_option Elab.async false
set_option linter.all false
/-! rules put together, rules told backwards -/
namespace RM
theorem Cg.sub {p a b c d : Int} (h : Cg p a b) (h' : Cg p c d) : Cg p (a - c) (b - d) := by
  have := h.add h'.neg
  rw [← Int.sub_eq_add_neg, ← Int.sub_eq_add_neg] at this
  exact this
theorem Cg.of_zero {p a b : Int} (h : Cg p (a - b) 0) : Cg p a b := by
  unfold Cg at h ⊢
  rw [Int.sub_zero] at h
  exact h
theorem cv_poly (p : Int) (rule : List Int) (a : Nat → Int) (n : Nat) (h : rule.length ≤ n) : Cg p (cv (gt (polyN p rule)) a n) (a n - sm rule.length fun i => gt rule i * a (n - 1 - i)) := by
  unfold cv
  rw [sm_front, polyN_0, Int.one_mul, Nat.sub_zero]
  have e : sm n (fun i => gt (polyN p rule) (i + 1) * a (n - (i + 1))) = sm rule.length (fun i => gt (polyN p rule) (i + 1) * a (n - (i + 1))) := sm_cut h fun i h1 _ => by
    rw [polyN_s, gt_ge h1]
    simp
  rw [e, Int.sub_eq_add_neg]
  refine (Cg.refl _ _).add ?_
  have e2 : -(sm rule.length fun i => gt rule i * a (n - 1 - i)) = sm rule.length fun i => (-1) * (gt rule i * a (n - 1 - i)) := by
    rw [sm_mul, Int.neg_one_mul]
  rw [e2]
  refine Cg.sm fun i hi => ?_
  rw [polyN_s, show n - (i + 1) = n - 1 - i by omega, ← Int.mul_assoc, Int.neg_one_mul]
  exact (Cg.emod _ _).mul (Cg.refl _ _)
/-- a row goes by a rule, up to p -/
def Goes (p : Int) (rule row : List Int) : Prop := ∀ n, rule.length ≤ n → n < row.length → Cg p (cv (gt (polyN p rule)) (gt row) n) 0
theorem Goes.makes {p : Int} {rule row : List Int} (hp : 0 < p) (hr : Rests p row) (h : Goes p rule row) : makesN p rule row = true := by
  unfold makesN
  rw [List.all_eq_true]
  intro i hi
  have hi' := List.mem_range.mp hi
  rw [beq_iff_eq]
  have c := (cv_poly p rule (gt row) (rule.length + i) (by omega)).symm.trans (h (rule.length + i) (by omega) (by omega))
  have b := hr.at hp (rule.length + i)
  have b2 := dueN_rest hp rule row (rule.length + i)
  exact rest_eq b.1 b.2 b2.1 b2.2 ((Cg.of_zero c).trans (Cg.emod _ _).symm)
/-! ### put together -/
/-! ### told backwards -/
def backN (p : Int) (rule : List Int) (s : Int) : List Int := ((List.range (rule.length - 1)).map fun i => (-(gt rule (rule.length - 2 - i)) * s) % p) ++ [s]
/-! ### the share of one, by powers -/
theorem Cg.pow {p a b : Int} (h : Cg p a b) : ∀ n : Nat, Cg p (a ^ n) (b ^ n)
  | 0 => by rw [Int.pow_zero, Int.pow_zero]; exact Cg.refl _ _
  | n + 1 => by rw [Int.pow_succ, Int.pow_succ]; exact (Cg.pow h n).mul h
theorem pow_half (x : Int) (n : Nat) : x ^ n = (x * x) ^ (n / 2) * x ^ (n % 2) := by
  have e : n = n / 2 * 2 + n % 2 := by omega
  have e2 : x ^ n = x ^ (n / 2 * 2) * x ^ (n % 2) := by rw [← Int.pow_add, ← e]
  rw [e2]
  congr 1
  rw [Nat.mul_comm, Int.pow_mul]
  congr 1
  rw [Int.pow_succ, Int.pow_succ, Int.pow_zero, Int.one_mul]
theorem fermat {p : Nat} (h : p = 2 ∨ p = 3 ∨ p = 5 ∨ p = 7 ∨ p = 11 ∨ p = 31 ∨ p = 997) {x : Int} (h0 : 0 < x) (h1 : x < p) : Cg p (x * x ^ (p - 2)) 1 := by
  have key : ∀ q ∈ [2, 3, 5, 7, 11, 31, 997], ∀ n : Nat, n < q → n ≠ 0 → n * n ^ (q - 2) % q = 1 % q := by decide +kernel
  obtain ⟨n, rfl⟩ : ∃ n : Nat, x = (n : Int) := ⟨x.toNat, by omega⟩
  have := key p (by simp; omega) n (by omega) (by omega)
  refine Cg.of_mod ?_
  have e : ((n * n ^ (p - 2) % p : Nat) : Int) = ((1 % p : Nat) : Int) := by rw [this]
  simpa using e
end RM

set_option Elab.async false
set_option linter.all false
set_option maxRecDepth 100000
/-! what the program's defs and the laws' own helpers promise -/
namespace Rr
open PySem L2 RM

/-- a tracked list of ints -/
def Ls (H : Hp) (a : Addr) (ns : List Int) : Prop := H a = some (.lst (ns.map V.int))
theorem Ls.sq {K : PySem.W.Frag} {H : Hp} {a : Addr} {ns : List Int} (h : Ls H a ns) : SqL K H a (ns.map V.int) := SqL.of h
theorem Ls.same {H H' : Hp} {a : Addr} {ns : List Int} (h : Ls H a ns) (s : Same H H') : Ls H' a ns := s _ _ h
theorem Ls.new {H : Hp} {p : Addr} {ns : List Int} {xs : List V} (e : xs = ns.map V.int) : Ls (upd H p (.lst xs)) p ns := by
  unfold Ls
  rw [upd_same, e]
theorem at_int {ns : List Int} {i : Nat} {x : V} (h : (ns.map V.int)[i]? = some x) : x = .int (gt ns i) ∧ i < ns.length := by
  rw [List.getElem?_map] at h
  cases e : ns[i]? with
  | none => rw [e] at h; cases h
  | some n =>
    rw [e] at h
    rw [gt_some e]
    exact ⟨(Option.some.inj h).symm, (List.getElem?_eq_some_iff.mp e).1⟩
theorem atI_int {ns : List Int} {i : Int} {k : Nat} (hi : i = (k : Int)) (h : k < ns.length) : atI (ns.map V.int) i = some (.int (gt ns k)) := by
  subst hi
  refine atI_nat ?_
  rw [List.getElem?_map, List.getElem?_eq_getElem h, gt_lt h]
  rfl
theorem mapInt {n : Nat} (f : Nat → Int) : (List.range n).map (fun i => V.int (f i)) = ((List.range n).map f).map V.int := by
  rw [List.map_map]
  rfl
theorem mapBl {n : Nat} (f : Nat → Bool) : (List.range n).map (fun i => V.bl (f i)) = ((List.range n).map f).map V.bl := by
  rw [List.map_map]
  rfl
theorem small {n : Nat} (h : n ≤ 10000) : n ≤ sizeLine := Nat.le_trans h (by decide)
/-- a prime of ours, as the program looks at it -/
def PrimeOk (p : Int) : Prop := 2 ≤ p ∧ p ≤ 997 ∧ ∀ d : Int, 2 ≤ d → d * d ≤ p → p % d ≠ 0
theorem PrimeOk.pos {p : Int} (h : PrimeOk p) : 0 < p := by have := h.1; omega
theorem ones_of {p : Int} (h : p = 2 ∨ p = 3 ∨ p = 5 ∨ p = 7 ∨ p = 11 ∨ p = 31 ∨ p = 997) : PrimeOk p := by
  refine ⟨by omega, by omega, fun d h1 h2 => ?_⟩
  have hd : d ≤ 31 := by
    refine Int.not_lt.mp fun q => ?_
    have q1 : (32 : Int) * 32 ≤ d * d := Int.mul_le_mul (by omega) (by omega) (by omega) (by omega)
    omega
  obtain ⟨n, rfl⟩ : ∃ n : Nat, d = (n : Int) := ⟨d.toNat, by omega⟩
  have hn : n < 32 := by omega
  have key : ∀ n : Nat, n < 32 → 2 ≤ n → ∀ q ∈ [(2 : Int), 3, 5, 7, 11, 31, 997], (n : Int) * n ≤ q → q % (n : Int) ≠ 0 := by decide +kernel
  exact key n hn (by omega) p (by simp; omega) h2
/-! ### the sorts of promises -/
abbrev Args := List V → Hp → Prop
section
variable (K : PySem.W.Frag)
/-- is_whole of an int -/
def spWhole : Sp := fun vs H Q _ => ∃ (i : Int), vs = [.int i] ∧ Q (.bl true) H
def spPrime : Sp := fun vs H Q _ => ∃ (p : Int), vs = [.int p] ∧ PrimeOk p ∧ Q (.bl true) H
def spRest : Sp := fun vs H Q _ => ∃ (p : Int) (i : Int), vs = [.int p, .int i] ∧ (0 ≤ i ∧ i < p) ∧ Q (.bl true) H
def spAre : Sp := fun vs H Q _ => ∃ (p : Int) (a : Addr) (ns : List Int), vs = [.int p, .ref a] ∧ Ls H a ns ∧ Rests p ns ∧ Q (.bl true) H
def spNeedPrime : Sp := fun vs H Q _ => ∃ (p : Int), vs = [.int p] ∧ PrimeOk p ∧ Q .non H
def spNeed : Sp := fun vs H Q _ => ∃ (p : Int) (a : Addr) (ns : List Int), vs = [.int p, .ref a] ∧ Ls H a ns ∧ Rests p ns ∧ Q .non H
/-- a rule and a row, in their places -/
structure RR (p : Int) (rule row : List Int) : Prop where
  pr : PrimeOk p
  r1 : Rests p rule
  r2 : Rests p row
  l1 : rule.length ≤ 100
  l2 : row.length ≤ 1000
def spStart : Sp := fun vs H Q _ => ∃ (p : Int) (a : Addr) (b : Addr) (rule : List Int) (row : List Int), vs = [.int p, .ref a, .ref b] ∧ Ls H a rule ∧ Ls H b row ∧ RR p rule row ∧ rule.length ≤ row.length ∧ Q .non H
def spCount : Sp := fun vs H Q _ => ∃ i : Int, vs = [.int i] ∧ 0 ≤ i ∧ Q .non H
def spGoOn : Sp := fun vs H Q _ => ∃ (p : Int) (a : Addr) (b : Addr) (rule : List Int) (row : List Int) (m : Nat), vs = [.int p, .ref a, .ref b, .int ((m : Nat) : Int)] ∧ Ls H a rule ∧ Ls H b row ∧ RR p rule row ∧ rule.length ≤ row.length ∧ row.length + m ≤ 900 ∧
  ∀ (r : Addr) (H' : Hp), Same H H' → H r = none → Ls H' r (ext p rule row m) → Q (.ref r) H'
def spDue : Sp := fun vs H Q _ => ∃ (p : Int) (a : Addr) (b : Addr) (rule : List Int) (row : List Int) (k : Nat), vs = [.int p, .ref a, .ref b, .int ((k : Nat) : Int)] ∧ Ls H a rule ∧ Ls H b row ∧ RR p rule row ∧ rule.length ≤ k ∧ k ≤ row.length ∧ ∀ H', Same H H' → Q (.int (dueN p rule row k)) H'
/-! ### the laws' helpers -/
def spCell : Sp := fun vs H Q _ => ∃ (a : Addr) (ns : List Int) (k : Nat), vs = [.ref a, .int ((k : Nat) : Int)] ∧ SqL K H a (ns.map V.int) ∧ ns.length ≤ 1000 ∧ Q (.int (gt ns k)) H
def spDraw : Sp := fun vs H Q _ => ∃ (c : Int) (k : Nat) (m : Int), vs = [.int c, .int ((k : Nat) : Int), .int m] ∧ 0 < m ∧ ∀ v H', 0 ≤ v → v < m → Same H H' → Q (.int v) H'
def spRests : Sp := fun vs H Q _ => ∃ (a : Addr) (ns : List Int) (b : Nat) (p : Int) (m : Nat), vs = [.ref a, .int ((b : Nat) : Int), .int p, .int ((m : Nat) : Int)] ∧ SqL K H a (ns.map V.int) ∧ ns.length ≤ 1000 ∧ 0 < p ∧ m ≤ 1000 ∧
  ∀ (r : Addr) (H' : Hp) (l : List Int), Same H H' → H r = none → Ls H' r l → Rests p l → l.length = m → Q (.ref r) H'
def spRow : Sp := fun vs H Q _ => ∃ (a : Addr) (ns : List Int) (p : Int), vs = [.ref a, .int p] ∧ SqL K H a (ns.map V.int) ∧ ns.length ≤ 1000 ∧ PrimeOk p ∧ ∀ (r : Addr) (H' : Hp) (l : List Int), Same H H' → H r = none → Ls H' r l → Rests p l → l.length = ns.length → Q (.ref r) H'
def spLaw : Sp := fun vs H Q _ => ∃ (a : Addr) (ns : List Int), vs = [.ref a] ∧ SqL K H a (ns.map V.int) ∧ ns.length ≤ 63 ∧ ∀ H', Q (.bl true) H'
end
/-! ### a def of the text, with its name and how it binds -/
structure Def (K : PySem.W.Frag) (mg : Str → Option Value) (x : Str) (st : Stmt) (ps : List Str) (f : Addr) (fd : FuncData) : Prop where
  F : Fun K x x st f fd
  b : Binds K fd ps []
  m : mg x = some (.ref f)
/-- Python's own names that the text does not bind -/
structure Own (mg : Str → Option Value) : Prop where
  isinstance : mg "isinstance" = none
  int : mg "int" = none
  bool : mg "bool" = none
  list : mg "list" = none
  len : mg "len" = none
  range : mg "range" = none
  sum : mg "sum" = none
  zip : mg "zip" = none
  reversed : mg "reversed" = none
  enumerate : mg "enumerate" = none
  max : mg "max" = none
  min : mg "min" = none
  all : mg "all" = none
  any : mg "any" = none
  abs : mg "abs" = none
theorem boot_isi : bootBuiltins "isinstance" = some (.builtin "isinstance") := by decide +kernel
theorem boot_intT : bootBuiltins "int" = some (.type "int") := by decide +kernel
theorem boot_boolT : bootBuiltins "bool" = some (.type "bool") := by decide +kernel
theorem boot_listT : bootBuiltins "list" = some (.type "list") := by decide +kernel
theorem boot_sumB : bootBuiltins "sum" = some (.builtin "sum") := by decide +kernel
theorem boot_allB : bootBuiltins "all" = some (.builtin "all") := by decide +kernel
section
variable {X : Cx} {x : Str} {st : Stmt} {ps : List Str} {f : Addr} {fd : FuncData} {j k : Nat} {sp : Sp} {e : Expr} {es : List Expr} {t : TA} {p pos : Pos}
/-- a call of a def of the text -/
theorem pcall (D : Def X.K X.mg x st ps f fd) (G : FnOk X.prog X.w X.K X.mg X.base CX0 j f fd ps sp) (hr : Room k X.A) (ha : PA X (e :: es) t) (hj : j ≤ k := by decide) (hg : Gl X x := by rfl) (hdb : (x == ("__debug__" : Str)) = false := by decide)
    (he : starEach (e :: es) X.env = (false, eval e X.env) :: starEach es X.env := by rfl) (hpl : (backTo pos (starEach es X.env)).any (·.1) = false := by rfl) :
    PE X (.Call (.Name x p) (e :: es) [] pos) (tCall sp [] E0 t) := pe_call (G.mono hj) hr hg D.m D.F.kp D.b .nil pass0 ha hdb he hpl
theorem pint {i : Int} {j : Nat} {pos : Pos} : PE X (.Constant (.int i) j pos) (tC (.int i)) := pe_int
theorem plen (o : Own X.mg) {e : Expr} {te : TE} {p pos : Pos} (h : PE X e te) (hg : Gl X "len" := by rfl) (hs : starEach [e] X.env = [(false, eval e X.env)] := by rfl) :
    PE X (.Call (.Name "len" p) [e] [] pos) (tCB (fun xs H Q => ∃ p ys, xs = [.ref p] ∧ (SqL X.K H p ys ∨ SqT X.K H p ys) ∧ Q (.int ys.length) H) (tCons te tNil)) :=
  pe_callB call_len_seq hg o.len PySem.boot_len (pa_cons h pa_nil (by rw [hs]; rfl)) (by decide) (by decide) (by rw [hs]; rfl) rfl
theorem pgn (i : Nat) {x : Str} {pos : Pos} (hN : X.N.Nodup := by exact of_decide_eq_true (by kernel_rfl)) (hi : X.N[i]? = some x := by rfl) (hx : Loc X.env.scope x := by exact Or.inl rfl)
    (hf : X.fn x = true ∨ X.env.scope.names.lookup x = some .local := by first | exact .inl rfl | exact .inr rfl) : PG X (.Name x pos) (gName i) := pg_name hN hi hx hf
theorem pgp {x y : Str} {px py pos : Pos} {k : Nat} (hc : X.calm = true := by rfl) (hN : X.N.Nodup := by exact of_decide_eq_true (by kernel_rfl)) (h0 : X.N[0]? = some x := by rfl) (h1 : X.N[1]? = some y := by rfl) (hx : X.env.scope.names.lookup x = some .local := by rfl)
    (hy : X.env.scope.names.lookup y = some .local := by rfl) : PG X (.Tuple [.Name x px, .Name y py] k pos) (gPair X.K) :=
  pg_tup hc (pgs_cons (pg_name hN h0 (.inl hx) (.inr hx)) (pgs_cons (pg_name hN h1 (.inl hy) (.inr hy)) pgs_nil))
end
/-! ### the same, with the written part named (inside a comprehension) -/
theorem ixK {X : Cx} {K : PySem.W.Frag} (h : X.K = K) : IxR X (rIxL K) := h ▸ ix_list
theorem cut_at {ns : List Int} {lo hi : Nat} (h1 : lo ≤ hi) (h2 : hi ≤ ns.length) : cutV (ns.map V.int) (some (lo : Int)) (some (hi : Int)) = ((ns.drop lo).take (hi - lo)).map V.int := by
  unfold cutV
  rw [HT.sIx_nat, HT.sIx_nat, List.length_map, show min lo ns.length = lo by omega, show min hi ns.length = hi by omega, List.map_take, List.map_drop]
theorem cut_from {ns : List Int} {lo : Nat} (h1 : lo ≤ ns.length) : cutV (ns.map V.int) (some (lo : Int)) none = (ns.drop lo).map V.int := by
  unfold cutV
  rw [HT.sIx_nat, HT.sIx_none, List.length_map, show min lo ns.length = lo by omega, List.map_drop, List.take_of_length_le (by rw [List.length_drop, List.length_map]; omega)]
theorem gt_take {l : List Int} {k i : Nat} (h : i < k) : gt (l.take k) i = gt l i := by
  unfold gt
  rw [List.getD_eq_getElem?_getD, List.getD_eq_getElem?_getD, List.getElem?_take_of_lt h]
theorem gt_reverse {l : List Int} {i : Nat} (h : i < l.length) : gt l.reverse i = gt l (l.length - 1 - i) := by
  unfold gt
  rw [List.getD_eq_getElem?_getD, List.getD_eq_getElem?_getD, List.getElem?_reverse h]
theorem sput {H H1 : Hp} {l : Addr} {o : HO} (h : Same H H1) (hn : H l = none) : Same H (upd H1 l o) := fun b u q => by
  rw [upd_ne (ne_of_none q hn)]
  exact h b u q
theorem iteFd {c A B : Prop} [Decidable c] (hc : ¬ c) (h : B) : if decide c = true then A else B := by
  rw [decide_eq_false hc]
  exact iteF h
theorem iteTd {c A B : Prop} [Decidable c] (hc : c) (h : A) : if decide c = true then A else B := by
  rw [decide_eq_true hc]
  exact iteT h
/-- not equal, told as a truth -/
theorem iteNd {c A B : Prop} [Decidable c] (hc : c) (h : B) : if (!decide c) = true then A else B := by
  rw [decide_eq_true hc]
  exact iteF h
theorem kit_int_int (K : PySem.W.Frag) : PySem.W.kitOne K (.type "int") (.type "int") = some true := by
  unfold PySem.W.kitOne
  exact if_pos (by decide)
theorem kit_int_bool (K : PySem.W.Frag) : PySem.W.kitOne K (.type "int") (.type "bool") = some false := by
  kernel_rfl
theorem kit_list_list (K : PySem.W.Frag) : PySem.W.kitOne K (.type "list") (.type "list") = some true := by
  unfold PySem.W.kitOne
  exact if_pos (by decide)
theorem kit_bool_bool (K : PySem.W.Frag) : PySem.W.kitOne K (.type "bool") (.type "bool") = some true := by
  unfold PySem.W.kitOne
  exact if_pos (by decide)
end Rr

set_option Elab.async false
set_option linter.all false
set_option maxRecDepth 100000
/-! arguments that bear no star, by their kind -/
namespace L2
open PySem PySem.Spec PySem.Calls PyProof.Rows
def Pl (e : Expr) : Prop := ∀ (es : List Expr) (env : Env), starEach (e :: es) env = (false, eval e env) :: starEach es env
theorem Pl.C {v : Const} {k : Nat} {pos : Pos} : Pl (.Constant v k pos) := fun _ _ => rfl
theorem Pl.N {x : Str} {pos : Pos} : Pl (.Name x pos) := fun _ _ => rfl
theorem Pl.L {es : List Expr} {pos : Pos} : Pl (.List es pos) := fun _ _ => rfl
theorem Pl.T {es : List Expr} {k : Nat} {pos : Pos} : Pl (.Tuple es k pos) := fun _ _ => rfl
theorem Pl.D {ks : List (Option Expr)} {vs : List Expr} {pos : Pos} : Pl (.Dict ks vs pos) := fun _ _ => rfl
theorem Pl.B {l r : Expr} {op : Operator} {pos : Pos} : Pl (.BinOp l op r pos) := fun _ _ => rfl
theorem Pl.U {e : Expr} {op : UnaryOp} {pos : Pos} : Pl (.UnaryOp op e pos) := fun _ _ => rfl
theorem Pl.S {e i : Expr} {pos : Pos} : Pl (.Subscript e i pos) := fun _ _ => rfl
theorem Pl.K {f : Expr} {as : List Expr} {kw : List Keyword} {pos : Pos} : Pl (.Call f as kw pos) := fun _ _ => rfl
theorem Pl.M {l : Expr} {ops : List CmpOp} {rs : List Expr} {pos : Pos} : Pl (.Compare l ops rs pos) := fun _ _ => rfl
def NS (es : List Expr) : Prop := ∀ (pos : Pos) (env : Env), (backTo pos (starEach es env)).any (·.1) = false
theorem NS.nil : NS [] := fun _ _ => rfl
theorem NS.cons {e : Expr} {es : List Expr} (h : Pl e) (t : NS es) : NS (e :: es) := fun pos env => by
  rw [h es env]
  show (false || (backTo pos (starEach es env)).any (·.1)) = false
  rw [t pos env]
  rfl
section
variable {X : Cx} {e : Expr} {es : List Expr} {te : TE} {t : TA}
theorem pa_c (h : Pl e) (ha : PE X e te) (hr : PA X es t) : PA X (e :: es) (tCons te t) := pa_cons ha hr (h es X.env)
end
end L2
namespace Rr
open PySem L2
section
variable {X : Cx} {x : Str} {st : Stmt} {ps : List Str} {f : Addr} {fd : FuncData} {j k : Nat} {sp : Sp} {e : Expr} {es : List Expr} {t : TA} {p pos : Pos}
theorem pcallP (D : Def X.K X.mg x st ps f fd) (G : FnOk X.prog X.w X.K X.mg X.base CX0 j f fd ps sp) (hr : Room k X.A) (h : Pl e) (n : NS es) (ha : PA X (e :: es) t) (hj : j ≤ k := by decide) (hg : Gl X x := by rfl) (hdb : (x == ("__debug__" : Str)) = false := by decide) :
    PE X (.Call (.Name x p) (e :: es) [] pos) (tCall sp [] E0 t) := pcall D G hr ha hj hg hdb (h es X.env) (n pos X.env)
end
end Rr

set_option Elab.async false
set_option linter.all false
set_option maxRecDepth 100000
namespace Rr
open PySem L2 RM
def top (i : Nat) : Stmt := PySem.Challenge.pw_rulerow_k07_refused.main.body.getD i (.Pass ⟨0, 0, 0, 0⟩)

abbrev sWhole : Stmt := top 13
abbrev sPrime : Stmt := top 14
abbrev sRest : Stmt := top 15
abbrev sAre : Stmt := top 16
abbrev sNeedPrime : Stmt := top 17
abbrev sNeedRule : Stmt := top 18
abbrev sNeedRow : Stmt := top 19
abbrev sInv : Stmt := top 20
abbrev sMakes : Stmt := top 22
abbrev sGoOn : Stmt := top 23
abbrev sFar : Stmt := top 24
abbrev sBoth : Stmt := top 25
abbrev sBack : Stmt := top 26
abbrev sStart : Stmt := top 27
abbrev sCount : Stmt := top 28
abbrev sDue : Stmt := top 29
abbrev sLeast : Stmt := top 41
abbrev sUnlike : Stmt := top 42
abbrev sWritten : Stmt := top 45
abbrev lCell : Stmt := top 47
abbrev lDraw : Stmt := top 48
abbrev lRests : Stmt := top 50
abbrev lRow : Stmt := top 51
abbrev lDue : Stmt := top 52
abbrev lKinds : Stmt := top 56
abbrev lWPrime : Stmt := top 57
abbrev lMore : Stmt := top 58
abbrev lWRule : Stmt := top 59
abbrev lWRow : Stmt := top 60
abbrev lWFew : Stmt := top 61
abbrev lWPlace : Stmt := top 62
abbrev lTold : Stmt := top 63
abbrev lAll : Stmt := top 64
abbrev lLaw : Stmt := top 65
section
variable {P : Program} {w : World} {K : PySem.W.Frag} {mg : Str → Option Value} {base : Heap} {f g : Addr} {fd gd : FuncData}
theorem scWhole : FnScope ["value"] ["value"] (defScope sWhole) := ⟨rfl, rfl, rfl, by decide +kernel, rfl, by decide +kernel, by decide +kernel⟩
theorem ok_whole (D : Def K mg "is_whole" sWhole ["value"] f fd) (o : Own mg) : FnOk P w K mg base CX0 1 f fd ["value"] spWhole := by
  refine D.F.ok scWhole (fun vs H Q E h => ?_) (fun cdv A outer s H vs Q E hr h => ?_)
  · obtain ⟨i, rfl, _⟩ := h
    rfl
  obtain ⟨i, rfl, q⟩ := h
  refine ⟨_, pss_one (ps_ret (pe_and (pe_callB call_isi rfl o.isinstance boot_isi (pa_cons (pv 0) (pa_cons (pe_ty rfl o.int boot_intT) pa_nil)))
    (pe_one (pe_not (pe_callB call_isi rfl o.isinstance boot_isi (pa_cons (pv 0) (pa_cons (pe_ty rfl o.bool boot_boolT) pa_nil))))))), ?_⟩
  refine ⟨_, rfl, _, _, _, _, rfl, TyOf.int i, kit_int_int _, true, rfl, iteT ?_⟩
  exact ⟨_, rfl, _, _, _, _, rfl, TyOf.int i, kit_int_bool _, false, rfl, q⟩
theorem scPrime : FnScope ["value", "divisor"] ["value"] (defScope sPrime) := ⟨rfl, rfl, rfl, by decide +kernel, rfl, by decide +kernel, by decide +kernel⟩
theorem ok_prime (D : Def K mg "is_prime" sPrime ["value"] f fd) (o : Own mg) (DW : Def K mg "is_whole" sWhole ["value"] g gd) (GW : FnOk P w K mg base CX0 1 g gd ["value"] spWhole) {t1 t2 : Tok} (hlo : mg "LOWEST_PRIME" = some (.int 2 t1)) (hhi : mg "HIGHEST_PRIME" = some (.int 997 t2)) :
    FnOk P w K mg base CX0 2 f fd ["value"] spPrime := by
  refine D.F.ok scPrime (fun vs H Q E h => ?_) (fun cdv A outer s H vs Q E hr h => ?_)
  · obtain ⟨i, rfl, _⟩ := h
    rfl
  obtain ⟨p, rfl, hp, q⟩ := h
  obtain ⟨h1, h2, h3⟩ := hp
  refine ⟨_, pss_cons (ps_if (pw_or (pt_not (pt_val (pcall DW GW hr (pa_cons (pv 0) pa_nil)))) (pw_or (pt_cmpR op_lt (pv 0) (pe_glob (v := .int 2) (by rfl) hlo ⟨_, rfl⟩) (nomark _)) (pw_or1 (pt_cmpR op_gt (pv 0) (pe_glob (v := .int 997) (by rfl) hhi ⟨_, rfl⟩) (nomark _))))).pt (pss_one (ps_ret pe_bl)) pss_nil)
    (pss_cons (ps_set (i := 1) scPrime.nd rfl (Or.inl rfl) pint)
    (pss_cons (ps_while PassesOwn.never (pt_cmpR op_le (pe_op op_mul (pv 1) (pv 1)) (pv 0) (nomark _))
      (pss_cons (ps_if (pt_cmpR op_eq (pe_op op_mod (pv 0) (pv 1)) pint (nomark _)) (pss_one (ps_ret pe_bl)) pss_nil)
        (pss_one (ps_aug (i := 1) scPrime.nd rfl (Or.inl rfl) pint ip_add))))
    (pss_one (ps_ret pe_bl)))), ?_⟩
  refine ⟨_, rfl, p, rfl, true, rfl, iteF ?_⟩
  refine ⟨_, rfl, _, _, rfl, rfl, _, rfl, iteFd (by omega) ?_⟩
  refine ⟨_, rfl, _, _, rfl, rfl, _, rfl, iteFd (by omega) ?_⟩
  refine ⟨fun m σ H' => H' = H ∧ ∃ d : Int, σ = [some (.int p), some (.int d)] ∧ 2 ≤ d ∧ d ≤ 1000 ∧ m = (1000 - d).toNat, ⟨998, rfl, 2, rfl, by omega, by omega, rfl⟩, ?_⟩
  rintro m σ H' ⟨rfl, d, rfl, hd, hd2, rfl⟩
  refine ⟨_, rfl, _, rfl, _, _, rfl, rfl, .inl ⟨by omega, by omega⟩, _, rfl, _, _, rfl, rfl, _, rfl, ?_⟩
  by_cases hle : d * d ≤ p
  · have hd31 : d < 1000 := by
      refine Int.not_le.mp fun z => ?_
      have q1 : (1000 : Int) * 1000 ≤ d * d := Int.mul_le_mul z z (by omega) (by omega)
      omega
    refine iteTd hle ⟨_, fun σ' H' z => z, ?_⟩
    refine ⟨_, rfl, _, rfl, _, _, rfl, rfl, (by show 0 < d; omega), rfl, _, rfl, iteFd (fun z => h3 d hd hle (by injection z)) ?_⟩
    exact ⟨_, rfl, _, _, rfl, rfl, _, (by show (1000 - (d + 1)).toNat < (1000 - d).toNat; omega), rfl, d + 1, rfl, by omega, by omega, rfl⟩
  · exact iteFd hle q
end
end Rr

set_option Elab.async false
set_option linter.all false
set_option maxRecDepth 100000
namespace Rr
open PySem L2 RM
section
variable {P : Program} {w : World} {K : PySem.W.Frag} {mg : Str → Option Value} {base : Heap} {f g g2 g3 g4 g5 : Addr} {fd gd gd2 gd3 gd4 gd5 : FuncData}
theorem scRest : FnScope ["prime", "value"] ["prime", "value"] (defScope sRest) := ⟨rfl, rfl, rfl, by decide +kernel, rfl, by decide +kernel, by decide +kernel⟩
theorem ok_rest (D : Def K mg "is_rest" sRest ["prime", "value"] f fd) (DW : Def K mg "is_whole" sWhole ["value"] g gd) (GW : FnOk P w K mg base CX0 1 g gd ["value"] spWhole) : FnOk P w K mg base CX0 2 f fd ["prime", "value"] spRest := by
  refine D.F.ok scRest (fun vs H Q E h => ?_) (fun cdv A outer s H vs Q E hr h => ?_)
  · obtain ⟨p, i, rfl, _⟩ := h
    rfl
  obtain ⟨p, i, rfl, ⟨h1, h2⟩, q⟩ := h
  refine ⟨_, pss_one (ps_ret (pe_and (pcall DW GW hr (pa_cons (pv 1) pa_nil)) (pe_and (pe_cmpR op_ge (pv 1) pint (nomark _)) (pe_one (pe_cmpR op_lt (pv 1) (pv 0) (nomark _)))))), ?_⟩
  refine ⟨_, rfl, i, rfl, true, rfl, iteT ?_⟩
  refine ⟨_, rfl, _, _, rfl, rfl, _, rfl, iteTd h1 ?_⟩
  refine ⟨_, rfl, _, rfl, _, _, rfl, rfl, ?_⟩
  show Q (.bl (decide (i < p))) H
  rw [decide_eq_true h2]
  exact q
theorem scAre : FnScope ["prime", "value", "number"] ["prime", "value"] (defScope sAre) := ⟨rfl, rfl, rfl, by decide +kernel, rfl, by decide +kernel, by decide +kernel⟩
theorem ok_are (D : Def K mg "are_rests" sAre ["prime", "value"] f fd) (o : Own mg) (DR : Def K mg "is_rest" sRest ["prime", "value"] g gd) (GR : FnOk P w K mg base CX0 2 g gd ["prime", "value"] spRest) : FnOk P w K mg base CX0 3 f fd ["prime", "value"] spAre := by
  refine D.F.ok scAre (fun vs H Q E h => ?_) (fun cdv A outer s H vs Q E hr h => ?_)
  · obtain ⟨p, a, ns, rfl, _⟩ := h
    rfl
  obtain ⟨p, a, ns, rfl, hL, hR, q⟩ := h
  refine ⟨_, pss_cons (ps_if (pt_not (pt_val (pe_callB call_isi rfl o.isinstance boot_isi (pa_cons (pv 1) (pa_cons (pe_ty rfl o.list boot_listT) pa_nil))))) (pss_one (ps_ret pe_bl)) pss_nil)
    (pss_cons (ps_for PassesOwn.never rfl (pi_list (pv 1)) (pg_name (i := 2) scAre.nd rfl (Or.inl rfl))
      (pss_one (ps_if (pt_not (pt_val (pcall DR GR hr (pa_cons (pv 0) (pa_cons (pv 2) pa_nil))))) (pss_one (ps_ret pe_bl)) pss_nil)))
    (pss_one (ps_ret pe_bl))), ?_⟩
  refine ⟨_, rfl, _, _, _, _, rfl, TyOf.lst hL, kit_list_list _, true, rfl, iteF ?_⟩
  refine ⟨_, rfl, a, rfl, ⟨_, hL.sq⟩, for_list (xs := ns.map V.int) (fun _ σ H' => H' = H ∧ ∃ x, σ = [some (.int p), some (.ref a), x]) ⟨rfl, none, rfl⟩ (fun i σ H' _ h => by rw [h.1]; exact hL.sq) ?_ (fun σ H' h => by rw [h.1]; exact q)⟩
  rintro i x σ H' hx ⟨rfl, y, rfl⟩
  obtain ⟨rfl, hi⟩ := at_int hx
  refine ⟨_, rfl, _, rfl, p, gt ns i, rfl, ?_, true, rfl, iteF ⟨rfl, _, rfl⟩⟩
  rw [gt_lt hi]
  exact hR _ (List.getElem_mem hi)
theorem scNeedPrime : FnScope ["prime"] ["prime"] (defScope sNeedPrime) := ⟨rfl, rfl, rfl, by decide +kernel, rfl, by decide +kernel, by decide +kernel⟩
theorem ok_needPrime (D : Def K mg "need_prime" sNeedPrime ["prime"] f fd) (DP : Def K mg "is_prime" sPrime ["value"] g gd) (GP : FnOk P w K mg base CX0 2 g gd ["value"] spPrime) : FnOk P w K mg base CX0 3 f fd ["prime"] spNeedPrime := by
  refine D.F.ok scNeedPrime (fun vs H Q E h => ?_) (fun cdv A outer s H vs Q E hr h => ?_)
  · obtain ⟨p, rfl, _⟩ := h
    rfl
  obtain ⟨p, rfl, hp, q⟩ := h
  refine ⟨_, pss_one (ps_if (pt_not (pt_val (pcall DP GP hr (pa_cons (pv 0) pa_nil)))) pss_never pss_nil), ?_⟩
  exact ⟨_, rfl, p, rfl, hp, true, rfl, iteF q⟩
theorem scNeedRule : FnScope ["prime", "rule"] ["prime", "rule"] (defScope sNeedRule) := ⟨rfl, rfl, rfl, by decide +kernel, rfl, by decide +kernel, by decide +kernel⟩
theorem ok_needRule (D : Def K mg "need_rule" sNeedRule ["prime", "rule"] f fd) (DP : Def K mg "are_rests" sAre ["prime", "value"] g gd) (GP : FnOk P w K mg base CX0 3 g gd ["prime", "value"] spAre) : FnOk P w K mg base CX0 4 f fd ["prime", "rule"] spNeed := by
  refine D.F.ok scNeedRule (fun vs H Q E h => ?_) (fun cdv A outer s H vs Q E hr h => ?_)
  · obtain ⟨p, a, ns, rfl, _⟩ := h
    rfl
  obtain ⟨p, a, ns, rfl, hL, hR, q⟩ := h
  refine ⟨_, pss_one (ps_if (pt_not (pt_val (pcall DP GP hr (pa_cons (pv 0) (pa_cons (pv 1) pa_nil))))) pss_never pss_nil), ?_⟩
  exact ⟨_, rfl, _, rfl, p, a, ns, rfl, hL, hR, true, rfl, iteF q⟩
theorem scNeedRow : FnScope ["prime", "row"] ["prime", "row"] (defScope sNeedRow) := ⟨rfl, rfl, rfl, by decide +kernel, rfl, by decide +kernel, by decide +kernel⟩
theorem ok_needRow (D : Def K mg "need_row" sNeedRow ["prime", "row"] f fd) (DP : Def K mg "are_rests" sAre ["prime", "value"] g gd) (GP : FnOk P w K mg base CX0 3 g gd ["prime", "value"] spAre) : FnOk P w K mg base CX0 4 f fd ["prime", "row"] spNeed := by
  refine D.F.ok scNeedRow (fun vs H Q E h => ?_) (fun cdv A outer s H vs Q E hr h => ?_)
  · obtain ⟨p, a, ns, rfl, _⟩ := h
    rfl
  obtain ⟨p, a, ns, rfl, hL, hR, q⟩ := h
  refine ⟨_, pss_one (ps_if (pt_not (pt_val (pcall DP GP hr (pa_cons (pv 0) (pa_cons (pv 1) pa_nil))))) pss_never pss_nil), ?_⟩
  exact ⟨_, rfl, _, rfl, p, a, ns, rfl, hL, hR, true, rfl, iteF q⟩
theorem scCount : FnScope ["value"] ["value"] (defScope sCount) := ⟨rfl, rfl, rfl, by decide +kernel, rfl, by decide +kernel, by decide +kernel⟩
theorem ok_count (D : Def K mg "need_count" sCount ["value"] f fd) (DW : Def K mg "is_whole" sWhole ["value"] g gd) (GW : FnOk P w K mg base CX0 1 g gd ["value"] spWhole) : FnOk P w K mg base CX0 2 f fd ["value"] spCount := by
  refine D.F.ok scCount (fun vs H Q E h => ?_) (fun cdv A outer s H vs Q E hr h => ?_)
  · obtain ⟨i, rfl, _⟩ := h
    rfl
  obtain ⟨i, rfl, hi, q⟩ := h
  refine ⟨_, pss_one (ps_if (pw_or (pt_not (pt_val (pcall DW GW hr (pa_cons (pv 0) pa_nil)))) (pw_or1 (pt_cmpR op_lt (pv 0) pint (nomark _)))).pt pss_never pss_nil), ?_⟩
  refine ⟨_, rfl, i, rfl, true, rfl, iteF ?_⟩
  exact ⟨_, rfl, _, _, rfl, rfl, _, rfl, iteFd (by omega) q⟩
/-- the checks ahead -/
structure Needs (P : Program) (w : World) (K : PySem.W.Frag) (mg : Str → Option Value) (base : Heap) (f1 f2 f3 : Addr) (d1 d2 d3 : FuncData) : Prop where
  D1 : Def K mg "need_prime" sNeedPrime ["prime"] f1 d1
  G1 : FnOk P w K mg base CX0 3 f1 d1 ["prime"] spNeedPrime
  D2 : Def K mg "need_rule" sNeedRule ["prime", "rule"] f2 d2
  G2 : FnOk P w K mg base CX0 4 f2 d2 ["prime", "rule"] spNeed
  D3 : Def K mg "need_row" sNeedRow ["prime", "row"] f3 d3
  G3 : FnOk P w K mg base CX0 4 f3 d3 ["prime", "row"] spNeed
theorem scStart : FnScope ["prime", "rule", "row"] ["prime", "rule", "row"] (defScope sStart) := ⟨rfl, rfl, rfl, by decide +kernel, rfl, by decide +kernel, by decide +kernel⟩
theorem ok_start (D : Def K mg "need_start" sStart ["prime", "rule", "row"] f fd) (o : Own mg) (N : Needs P w K mg base g g2 g3 gd gd2 gd3) : FnOk P w K mg base CX0 5 f fd ["prime", "rule", "row"] spStart := by
  refine D.F.ok scStart (fun vs H Q E h => ?_) (fun cdv A outer s H vs Q E hr h => ?_)
  · obtain ⟨p, a, b, rule, row, rfl, _⟩ := h
    rfl
  obtain ⟨p, a, b, rule, row, rfl, h1, h2, rr, hl, q⟩ := h
  refine ⟨_, pss_cons (ps_expr (pcall N.D1 N.G1 hr (pa_cons (pv 0) pa_nil))) (pss_cons (ps_expr (pcall N.D2 N.G2 hr (pa_cons (pv 0) (pa_cons (pv 1) pa_nil)))) (pss_cons (ps_expr (pcall N.D3 N.G3 hr (pa_cons (pv 0) (pa_cons (pv 2) pa_nil))))
    (pss_one (ps_if (pt_cmpR op_gt (plen o (pv 1)) (plen o (pv 2)) (nomark _)) pss_never pss_nil)))), ?_⟩
  refine ⟨_, rfl, p, rfl, rr.pr, ?_⟩
  refine ⟨_, rfl, _, rfl, p, a, rule, rfl, h1, rr.r1, ?_⟩
  refine ⟨_, rfl, _, rfl, p, b, row, rfl, h2, rr.r2, ?_⟩
  refine ⟨_, rfl, a, _, rfl, .inl h1.sq, _, rfl, b, _, rfl, .inl h2.sq, _, _, rfl, rfl, _, rfl, iteFd ?_ q⟩
  rw [List.length_map, List.length_map]
  omega
theorem scDue : FnScope ["prime", "rule", "row", "place", "ahead"] ["prime", "rule", "row", "place"] (defScope sDue) := ⟨rfl, rfl, rfl, by decide +kernel, rfl, by decide +kernel, by decide +kernel⟩
theorem ok_due (D : Def K mg "due" sDue ["prime", "rule", "row", "place"] f fd) (o : Own mg) : FnOk P w K mg base CX0 1 f fd ["prime", "rule", "row", "place"] spDue := by
  refine D.F.ok scDue (fun vs H Q E h => ?_) (fun cdv A outer s H vs Q E hr h => ?_)
  · obtain ⟨p, a, b, rule, row, k, rfl, _⟩ := h
    rfl
  obtain ⟨p, a, b, rule, row, k, rfl, h1, h2, rr, hk, hk2, q⟩ := h
  refine ⟨_, pss_cons (ps_set (i := 4) scDue.nd rfl (Or.inl rfl) (pe_slice sl_list (pv 2) (po_some (pe_op op_sub (pv 3) (plen o (pv 1)))) (po_some (pv 3))))
    (pss_one (ps_ret (pe_op op_mod (pe_callB (call_sum rfl) rfl o.sum boot_sumB (pa_cons (pe_comp ["number", "rest"] [] rfl (pi_zipR rfl o.zip rfl o.reversed (pv 4) (pv 1))
      (fun cl C s₂ H₂ fp => pgp) (gk_pair (by decide) (by decide)) (fun cl C s₂ H₂ fp => pe_op op_mul (pv 0) (pv 1))) pa_nil)) (pv 0)))), ?_⟩
  have hp := rr.pr.pos
  have e1 : (k : Int) - ((rule.map V.int).length : Int) = ((k - rule.length : Nat) : Int) := by rw [List.length_map]; omega
  refine ⟨_, rfl, _, rfl, _, rfl, a, _, rfl, .inl h1.sq, _, _, rfl, rfl, _, rfl, _, rfl, _, rfl, b, _, rfl, h2.sq, fun r hr' => ?_⟩
  have ec : cutV (row.map V.int) (some ((k : Int) - ((rule.map V.int).length : Int))) (some (k : Int)) = ((row.drop (k - rule.length)).take rule.length).map V.int := by
    rw [e1, cut_at (by omega) hk2, show k - (k - rule.length) = rule.length by omega]
  rw [ec]
  have sm1 : Same H (upd H r (.lst (((row.drop (k - rule.length)).take rule.length).map V.int))) := same_new hr' _
  have lA : ((row.drop (k - rule.length)).take rule.length).length = rule.length := by rw [List.length_take, List.length_drop]; omega
  have s1 : SqL K (upd H r (.lst (((row.drop (k - rule.length)).take rule.length).map V.int))) r (((row.drop (k - rule.length)).take rule.length).map V.int) := SqL.of upd_same
  refine ⟨_, rfl, r, _, rfl, s1, _, rfl, a, _, rfl, s1, (h1.same sm1).sq, ?_⟩
  have l1 := rr.l1
  refine comp_zipR s1 (h1.same sm1).sq (fun i => V.int (gt ((row.drop (k - rule.length)).take rule.length).reverse i * gt rule i)) (by rw [List.length_map, lA]; exact small (by omega)) (fun i x y H' hx hy sm => ?_) (fun H' sm p' hp' => ?_)
  · rw [← List.map_reverse] at hx
    obtain ⟨rfl, hi⟩ := at_int hx
    obtain ⟨rfl, hi2⟩ := at_int hy
    have rA : Rests p ((row.drop (k - rule.length)).take rule.length).reverse := fun z hz => (rr.r2.drop _).take _ z (List.mem_reverse.mp hz)
    have b1 := rA.at hp i
    have p1 := rr.pr.2.1
    exact ⟨_, rfl, _, rfl, _, _, rfl, rfl, .inl ⟨by omega, by omega⟩, snocF rfl, sm⟩
  · rw [List.length_map, List.length_map, lA, Nat.min_self]
    refine ⟨p', (List.range rule.length).map (fun i => gt ((row.drop (k - rule.length)).take rule.length).reverse i * gt rule i), rfl, ?_, _, rfl, _, _, rfl, rfl, hp, ?_⟩
    · rw [← mapInt]
      exact SqL.of upd_same
    · have ev : ((List.range rule.length).map (fun i => gt ((row.drop (k - rule.length)).take rule.length).reverse i * gt rule i)).sum % p = dueN p rule row k := by
        rw [sum_range]
        unfold dueN
        congr 1
        refine sm_congr fun i hi => ?_
        rw [gt_reverse (by omega), lA, gt_take (by omega), gt_drop, Int.mul_comm, show k - rule.length + (rule.length - 1 - i) = k - 1 - i by omega]
      show Q (.int (((List.range rule.length).map (fun i => gt ((row.drop (k - rule.length)).take rule.length).reverse i * gt rule i)).sum % p)) _
      rw [ev]
      exact q _ ((sm1.trans sm).trans (same_new hp' _))
end
end Rr

set_option Elab.async false
set_option linter.all false
set_option maxRecDepth 100000
namespace Rr
open PySem L2 RM
section
variable {P : Program} {w : World} {K : PySem.W.Frag} {mg : Str → Option Value} {base : Heap} {f g g2 g3 g4 g5 g6 : Addr} {fd gd gd2 gd3 gd4 gd5 gd6 : FuncData}
theorem scMakes : FnScope ["prime", "rule", "row", "place"] ["prime", "rule", "row"] (defScope sMakes) := ⟨rfl, rfl, rfl, by decide +kernel, rfl, by decide +kernel, by decide +kernel⟩
theorem scGoOn : FnScope ["prime", "rule", "row", "many", "told", "length"] ["prime", "rule", "row", "many"] (defScope sGoOn) := ⟨rfl, rfl, rfl, by decide +kernel, rfl, by decide +kernel, by decide +kernel⟩
theorem ok_goOn (D : Def K mg "go_on" sGoOn ["prime", "rule", "row", "many"] f fd) (o : Own mg) (DS : Def K mg "need_start" sStart ["prime", "rule", "row"] g gd) (GS : FnOk P w K mg base CX0 5 g gd ["prime", "rule", "row"] spStart)
    (DC : Def K mg "need_count" sCount ["value"] g2 gd2) (GC : FnOk P w K mg base CX0 2 g2 gd2 ["value"] spCount) (DD : Def K mg "due" sDue ["prime", "rule", "row", "place"] g4 gd4) (GD : FnOk P w K mg base CX0 1 g4 gd4 ["prime", "rule", "row", "place"] spDue) :
    FnOk P w K mg base CX0 6 f fd ["prime", "rule", "row", "many"] spGoOn := by
  refine D.F.ok scGoOn (fun vs H Q E h => ?_) (fun cdv A outer s H vs Q E hr h => ?_)
  · obtain ⟨p, a, b, rule, row, m, rfl, _⟩ := h
    rfl
  obtain ⟨p, a, b, rule, row, m, rfl, h1, h2, rr, hl, hm, q⟩ := h
  refine ⟨_, pss_cons (ps_expr (pcall DS GS hr (pa_cons (pv 0) (pa_cons (pv 1) (pa_cons (pv 2) pa_nil))))) (pss_cons (ps_expr (pcall DC GC hr (pa_cons (pv 3) pa_nil)))
    (pss_cons (ps_set (i := 4) scGoOn.nd rfl (Or.inl rfl) (pe_callTy call_list_of rfl o.list boot_listT (pa_cons (pv 2) pa_nil)))
    (pss_cons (ps_set (i := 5) scGoOn.nd rfl (Or.inl rfl) (pe_op op_add (plen o (pv 2)) (pv 3)))
    (pss_cons (ps_while PassesOwn.never (pt_cmpR op_lt (plen o (pv 4)) (pv 5) (nomark _))
      (pss_one (ps_expr (pe_bm PySem.F.plainAttrs_list PySem.F.slot_list_append PySem.F.type_list_append mt_append (pv 4) (pa_cons (pcall DD GD hr (pa_cons (pv 0) (pa_cons (pv 1) (pa_cons (pv 4) (pa_cons (plen o (pv 4)) pa_nil))))) pa_nil)))))
    (pss_one (ps_ret (pv 4))))))), ?_⟩
  have l1 := rr.l1
  have l2 := rr.l2
  have hp := rr.pr.pos
  refine ⟨_, rfl, _, rfl, _, rfl, p, a, b, rule, row, rfl, h1, h2, rr, hl, ?_⟩
  refine ⟨_, rfl, _, rfl, by omega, ?_⟩
  refine ⟨_, rfl, b, _, rfl, .inl h2.sq, fun l nl => ?_⟩
  have sm1 : Same H (upd H l (.lst (row.map V.int))) := same_new nl _
  refine ⟨_, rfl, b, _, rfl, .inl (h2.same sm1).sq, _, rfl, _, _, rfl, rfl, ?_⟩
  rw [List.length_map]
  refine ⟨fun μ σ Hw => ∃ j, j + μ = m ∧ σ = [some (.int p), some (.ref a), some (.ref b), some (.int m), some (.ref l), some (.int ((row.length : Int) + m))] ∧ Same H Hw ∧ Ls Hw l (ext p rule row j), ⟨m, 0, by omega, rfl, sm1, upd_same⟩, ?_⟩
  rintro μ σ Hw ⟨j, hj, rfl, sm, hL⟩
  have el := ext_len p rule row j
  refine ⟨_, rfl, l, _, rfl, .inl hL.sq, _, rfl, _, _, rfl, rfl, _, rfl, ?_⟩
  rw [List.length_map, el]
  by_cases hμ : 0 < μ
  · refine iteTd (by omega) ⟨_, fun σ' H' z => z, ?_⟩
    refine ⟨_, rfl, .inl ⟨rfl, _, hL.sq⟩, ?_⟩
    refine ⟨_, rfl, _, rfl, _, rfl, _, rfl, l, _, rfl, .inl hL.sq, p, a, l, rule, ext p rule row j, row.length + j, ?_, h1.same sm, hL, ⟨rr.pr, rr.r1, ext_rests hp rr.r2 j, rr.l1, by omega⟩, by omega, by omega, fun H2 sm2 => ?_⟩
    · rw [List.length_map, el]
      rfl
    refine ⟨l, _, _, rfl, rfl, hL.same sm2, ?_, μ - 1, by omega, j + 1, by omega, rfl, sput (sm.trans sm2) nl, Ls.new ?_⟩
    · rw [List.length_map, el]
      exact small1000 (by omega)
    · rw [ext, List.map_append, el]
      rfl
  · refine iteFd (by omega) ⟨_, rfl, ?_⟩
    have : j = m := by omega
    subst this
    exact q l Hw sm nl hL
end
end Rr

set_option Elab.async false
set_option linter.all false
set_option maxRecDepth 100000
set_option maxHeartbeats 800000
namespace Rr
open PySem L2 RM
theorem cut_fromA {ns : List Int} {lo : Nat} : cutV (ns.map V.int) (some (lo : Int)) none = (ns.drop lo).map V.int := by
  by_cases h : lo ≤ ns.length
  · exact cut_from h
  · unfold cutV
    rw [HT.sIx_nat, HT.sIx_none, List.length_map, show min lo ns.length = ns.length by omega, Nat.sub_self, List.take_zero, List.drop_eq_nil_of_le (show ns.length ≤ lo by omega)]
    rfl
/-- written ints, as arguments or items -/
def constI : Expr → Option Int
  | .Constant (.int i) _ _ => some i
  | _ => none
theorem nn_some {i : Int} (h : (none : Option Int) = some i) : False := by cases h
theorem constI_inv {e : Expr} {i : Int} (h : constI e = some i) : ∃ j pos, e = .Constant (.int i) j pos := by
  cases e with
  | Constant c j pos =>
    cases c with
    | int k =>
      have e : k = i := Option.some.inj h
      rw [e]
      exact ⟨j, pos, rfl⟩
    | _ => exact (nn_some h).elim
  | _ => exact (nn_some h).elim
theorem pa_consts {X : Cx} {es : List Expr} : (es.all fun e => (constI e).isSome) = true → PA X es (fun _ H Q => Q ((es.filterMap constI).map V.int) H) := by
  induction es with
  | nil => exact fun _ => pa_nil
  | cons e es ih =>
    intro h
    rw [List.all_cons, Bool.and_eq_true] at h
    obtain ⟨i, hi⟩ := Option.isSome_iff_exists.mp h.1
    obtain ⟨j, pos, rfl⟩ := constI_inv hi
    exact pa_cons (pe_int (i := i) (j := j) (pos := pos)) (ih h.2)
section
variable {P : Program} {w : World} {K : PySem.W.Frag} {mg : Str → Option Value} {base : Heap} {f g g2 g3 g4 g5 g6 : Addr} {fd gd gd2 gd3 gd4 gd5 gd6 : FuncData}
theorem scCell : FnScope ["_law_script", "_law_k"] ["_law_script", "_law_k"] (defScope lCell) := ⟨rfl, rfl, rfl, by decide +kernel, rfl, by decide +kernel, by decide +kernel⟩
theorem ok_cell (D : Def K mg "_law_cell_at" lCell ["_law_script", "_law_k"] f fd) (o : Own mg) : FnOk P w K mg base CX0 1 f fd ["_law_script", "_law_k"] (spCell K) := by
  refine D.F.ok scCell (fun vs H Q E h => ?_) (fun cdv A outer s H vs Q E hr h => ?_)
  · obtain ⟨a, ns, k, rfl, _⟩ := h
    rfl
  obtain ⟨a, ns, k, rfl, h1, hl, q⟩ := h
  refine ⟨_, pss_cons (ps_if (pt_cmpR op_lt (pv 1) (plen o (pv 0)) (nomark _)) (pss_one (ps_ret (pe_ix ix_list (pv 0) (pv 1) (fun _ _ => rfl)))) pss_nil) (pss_one (ps_ret pint)), ?_⟩
  refine ⟨_, rfl, _, rfl, a, _, rfl, .inl h1, _, _, rfl, rfl, _, rfl, ?_⟩
  rw [List.length_map]
  by_cases hc : k < ns.length
  · exact iteTd (by omega) ⟨_, rfl, _, rfl, a, _, _, _, rfl, rfl, h1, atI_int rfl hc, q⟩
  · refine iteFd (by omega) ?_
    rw [gt_ge (by omega)] at q
    exact q
theorem scRests : FnScope ["_law_script", "_law_by", "_law_prime_here", "_law_many"] ["_law_script", "_law_by", "_law_prime_here", "_law_many"] (defScope lRests) := ⟨rfl, rfl, rfl, by decide +kernel, rfl, by decide +kernel, by decide +kernel⟩
theorem ok_rests (D : Def K mg "_law_rests" lRests ["_law_script", "_law_by", "_law_prime_here", "_law_many"] f fd) (o : Own mg) (DC : Def K mg "_law_cell_at" lCell ["_law_script", "_law_k"] g gd) (GC : FnOk P w K mg base CX0 1 g gd ["_law_script", "_law_k"] (spCell K))
    (DD : Def K mg "_law_draw" lDraw ["_law_cell", "_law_k", "_law_many"] g2 gd2) (GD : FnOk P w K mg base CX0 1 g2 gd2 ["_law_cell", "_law_k", "_law_many"] spDraw) : FnOk P w K mg base CX0 2 f fd ["_law_script", "_law_by", "_law_prime_here", "_law_many"] (spRests K) := by
  refine D.F.ok scRests (fun vs H Q E h => ?_) (fun cdv A outer s H vs Q E hr h => ?_)
  · obtain ⟨a, ns, b, p, m, rfl, _⟩ := h
    rfl
  obtain ⟨a, ns, b, p, m, rfl, h1, hl, hp, hm, q⟩ := h
  refine ⟨_, pss_one (ps_ret (pe_comp ["_law_k"] [0, 1, 2] rfl (pi_range1 rfl o.range (pa_cons (pv 3) pa_nil)) (fun cl C s₂ H₂ fp => pgn 0) (gk_name (by decide))
    (fun cl C s₂ H₂ fp => pcall DD GD hr (pa_cons (pcall DC GC hr (pa_cons (pv 1) (pa_cons (pv 0) pa_nil))) (pa_cons (pe_op op_add (pe_op op_mod (pv 0) pint) (pv 2)) (pa_cons (pv 3) pa_nil)))))), ?_⟩
  refine ⟨_, rfl, _, rfl, by omega, by omega, ?_⟩
  refine ⟨m, fun i ys H' => ∃ l : List Int, ys = l.map V.int ∧ l.length = i ∧ Rests p l ∧ Same H H', small (by omega), ⟨[], rfl, rfl, Rests.nil, Same.refl _⟩, fun i ys H' hi hl' wi => ⟨hi, fun x H2 y => ?_⟩, fun ys H' hl' wi => ⟨Nat.le_refl _, fun r hr' => ?_⟩⟩
  · obtain ⟨l, rfl, hl2, hR, sm⟩ := wi
    obtain ⟨e1, e2⟩ := y
    subst e1 e2
    refine ⟨_, rfl, _, rfl, a, ns, i, congrArg (fun z => [V.ref a, V.int z]) (Int.zero_add _), sm.seq h1, hl, ?_⟩
    refine ⟨_, rfl, _, _, rfl, rfl, (by show (0 : Int) < 5; decide), _, rfl, _, _, rfl, rfl, _, rfl, gt ns i, i % 5 + b, p, ?_, hp, fun v H3 h0 h2 sm3 => ?_⟩
    · exact congrArg (fun z => [V.int (gt ns i), V.int z, V.int p]) (by omega)
    · exact ⟨l ++ [v], by rw [List.map_append]; rfl, by rw [List.length_append, hl2]; rfl, hR.app (.one ⟨h0, h2⟩), sm.trans sm3⟩
  · obtain ⟨l, rfl, hl2, hR, sm⟩ := wi
    exact q r _ l (sm.trans (same_new hr' _)) (sm.free hr') (Ls.new rfl) hR hl2
theorem scDueL : FnScope ["_law_prime_here", "_law_rule", "_law_row_here", "_law_place"] ["_law_prime_here", "_law_rule", "_law_row_here", "_law_place"] (defScope lDue) := ⟨rfl, rfl, rfl, by decide +kernel, rfl, by decide +kernel, by decide +kernel⟩
theorem ok_dueL (D : Def K mg "_law_due" lDue ["_law_prime_here", "_law_rule", "_law_row_here", "_law_place"] f fd) (o : Own mg) : FnOk P w K mg base CX0 1 f fd ["_law_prime_here", "_law_rule", "_law_row_here", "_law_place"] spDue := by
  refine D.F.ok scDueL (fun vs H Q E h => ?_) (fun cdv A outer s H vs Q E hr h => ?_)
  · obtain ⟨p, a, b, rule, row, k, rfl, _⟩ := h
    rfl
  obtain ⟨p, a, b, rule, row, k, rfl, h1, h2, rr, hk, hk2, q⟩ := h
  have hp := rr.pr.pos
  have hp2 := rr.pr.2.1
  have l1 := rr.l1
  refine ⟨_, pss_one (ps_ret (pe_op op_mod (pe_callB (call_sum rfl) rfl o.sum boot_sumB (pa_cons (pe_comp ["_law_k", "_law_rest"] [2, 3] rfl (pi_enum rfl o.enumerate (pa_cons (pv 1) pa_nil)) (fun cl C s₂ H₂ fp => pgp) (gk_pair (by decide) (by decide))
    (fun cl C s₂ H₂ fp => pe_op op_mul (pv 1) (pe_ix (ixK (K := K) rfl) (pv 2) (pe_op op_sub (pe_op op_sub (pv 3) pint) (pv 0)) (fun _ _ => rfl)))) pa_nil)) (pv 0))), ?_⟩
  refine ⟨_, rfl, a, rfl, ⟨_, Rd.of h1⟩, ?_⟩
  refine comp_enum h1.sq (fun i => V.int (gt rule i * gt row (k - 1 - i))) (by rw [List.length_map]; exact small (by omega)) (fun i x H' hx sm => ?_) (fun H' sm r hr' => ?_)
  · obtain ⟨rfl, hi⟩ := at_int hx
    have b1 := rr.r1.at hp i
    exact ⟨_, rfl, _, rfl, _, rfl, _, _, rfl, rfl, _, rfl, _, _, rfl, rfl, b, _, _, _, rfl, rfl, (h2.same sm).sq, atI_int (k := k - 1 - i) (by omega) (by omega), _, _, rfl, rfl, .inl ⟨by omega, by omega⟩, snocF rfl, sm⟩
  · rw [List.length_map]
    refine ⟨r, (List.range rule.length).map (fun i => gt rule i * gt row (k - 1 - i)), rfl, ?_, _, rfl, _, _, rfl, rfl, hp, ?_⟩
    · rw [← mapInt]
      exact SqL.of upd_same
    · have ev : ((List.range rule.length).map (fun i => gt rule i * gt row (k - 1 - i))).sum % p = dueN p rule row k := by
        rw [sum_range]
        rfl
      show Q (.int (((List.range rule.length).map (fun i => gt rule i * gt row (k - 1 - i))).sum % p)) _
      rw [ev]
      exact q _ (sm.trans (same_new hr' _))
end
end Rr

set_option Elab.async false
set_option linter.all false
set_option maxRecDepth 100000
set_option maxHeartbeats 800000
namespace Rr
open PySem L2 RM
section
variable {P : Program} {w : World} {K : PySem.W.Frag} {mg : Str → Option Value} {base : Heap} {f g g2 g3 g4 g5 g6 : Addr} {fd gd gd2 gd3 gd4 gd5 gd6 : FuncData}
theorem scDraw : FnScope ["_law_cell", "_law_k", "_law_many", "_law_primes"] ["_law_cell", "_law_k", "_law_many"] (defScope lDraw) := ⟨rfl, rfl, rfl, by decide +kernel, rfl, by decide +kernel, by decide +kernel⟩
def primes16 : List Int := [1000003, 1000033, 1000037, 1000039, 1000081, 1000099, 1000117, 1000121, 1000133, 1000151, 1000159, 1000171, 1000183, 1000187, 1000193, 1000199]
theorem primes16_pos : ∀ j : Nat, j < 16 → 0 < gt primes16 j := by decide +kernel
/-- the written items of the tuple in a statement -/
def tupOf : Stmt → List Expr
  | .Assign _ (.Tuple es _ _) _ => es
  | .Return (some (.Subscript (.Tuple es _ _) _ _)) _ => es
  | _ => []
theorem draw_body : ∃ p' k tp pos b, defBody lDraw = [.Assign [.Name "_law_primes" p'] (.Tuple (tupOf ((defBody lDraw).getD 0 (.Pass ⟨0, 0, 0, 0⟩))) k tp) pos, b] ∧ b = (defBody lDraw).getD 1 (.Pass ⟨0, 0, 0, 0⟩) := ⟨_, _, _, _, _, rfl, rfl⟩
theorem draw_all : ((tupOf ((defBody lDraw).getD 0 (.Pass ⟨0, 0, 0, 0⟩))).all fun e => (constI e).isSome) = true := by kernel_rfl
theorem draw_vals : (tupOf ((defBody lDraw).getD 0 (.Pass ⟨0, 0, 0, 0⟩))).filterMap constI = primes16 := by kernel_rfl
theorem ok_draw (D : Def K mg "_law_draw" lDraw ["_law_cell", "_law_k", "_law_many"] f fd) : FnOk P w K mg base CX0 1 f fd ["_law_cell", "_law_k", "_law_many"] spDraw := by
  refine D.F.ok scDraw (fun vs H Q E h => ?_) (fun cdv A outer s H vs Q E hr h => ?_)
  · obtain ⟨c, k, m, rfl, _⟩ := h
    rfl
  obtain ⟨c, k, m, rfl, hm, q⟩ := h
  obtain ⟨p', kk, tp, pos, b, eb, e2⟩ := draw_body
  have hall := draw_all
  have hval := draw_vals
  rw [eb]
  clear eb
  generalize tupOf ((defBody lDraw).getD 0 (.Pass ⟨0, 0, 0, 0⟩)) = es at hall hval ⊢
  subst e2
  refine ⟨_, pss_cons (ps_set (i := 3) scDraw.nd rfl (Or.inl rfl) (pe_tup (pa_consts hall)))
    (pss_one (ps_ret (pe_op op_mod (pe_op op_mod (pe_op op_add (pe_op op_mul (pv 0) pint) (pe_op op_mul (pv 1) pint)) (pe_ix ix_tup (pv 3) (pe_op op_mod (pv 1) pint) (fun _ _ => rfl))) (pv 2)))), ?_⟩
  rw [hval]
  refine ⟨(by show 16 ≤ sizeLine; decide), fun t ht => ?_⟩
  have hk : k % 16 < 16 := Nat.mod_lt _ (by decide)
  refine ⟨_, rfl, _, _, rfl, rfl, .inr ⟨by omega, by omega⟩, _, rfl, _, _, rfl, rfl, .inr ⟨by omega, by omega⟩, _, _, rfl, rfl, _, rfl, _, rfl, _, _, rfl, rfl, (by show (0 : Int) < 16; decide), ?_⟩
  refine ⟨t, primes16.map V.int, _, _, rfl, rfl, SqT.of upd_same, atI_int (k := k % 16) (by omega) hk, _, _, rfl, rfl, primes16_pos _ hk, _, rfl, _, _, rfl, rfl, hm, ?_⟩
  have r := mod_rest (a := (c * 48271 + (k : Int) * 69621) % gt primes16 (k % 16)) hm
  exact q _ _ r.1 r.2 (same_new ht _)
end
end Rr

set_option Elab.async false
set_option linter.all false
set_option maxRecDepth 100000
set_option maxHeartbeats 800000
namespace Rr
open PySem L2 RM
theorem ixN_nat {n j : Nat} {k : Int} (hk : k = (j : Int)) (h : j < n) : ixN n k = some j := by
  subst hk
  unfold ixN
  rw [if_pos (by omega), if_pos (by omega)]
  simp
theorem map_set {l : List Int} {j : Nat} {x : Int} : (l.map V.int).set j (.int x) = (l.set j x).map V.int := by
  rw [List.map_set]
theorem Rests.set {p : Int} {l : List Int} {j : Nat} {x : Int} (h : RM.Rests p l) (hx : 0 ≤ x ∧ x < p) : RM.Rests p (l.set j x) := fun y hy => by
  rcases List.mem_or_eq_of_mem_set hy with z | z
  · exact h y z
  · rw [z]; exact hx
def four : List Int := [0, 0, 0, 2]
theorem four_le : ∀ j : Nat, j < 4 → 0 ≤ gt four j ∧ gt four j ≤ 2 := by decide +kernel
section
variable {P : Program} {w : World} {K : PySem.W.Frag} {mg : Str → Option Value} {base : Heap} {f g g2 g3 g4 g5 g6 : Addr} {fd gd gd2 gd3 gd4 gd5 gd6 : FuncData}
theorem scRow : FnScope ["_law_script", "_law_prime_here", "_law_kind", "_law_many", "_law_drawn", "_law_rule", "_law_place"] ["_law_script", "_law_prime_here"] (defScope lRow) := ⟨rfl, rfl, rfl, by decide +kernel, rfl, by decide +kernel, by decide +kernel⟩
theorem ok_row (D : Def K mg "_law_row" lRow ["_law_script", "_law_prime_here"] f fd) (o : Own mg) (DC : Def K mg "_law_cell_at" lCell ["_law_script", "_law_k"] g gd) (GC : FnOk P w K mg base CX0 1 g gd ["_law_script", "_law_k"] (spCell K))
    (DD : Def K mg "_law_draw" lDraw ["_law_cell", "_law_k", "_law_many"] g2 gd2) (GD : FnOk P w K mg base CX0 1 g2 gd2 ["_law_cell", "_law_k", "_law_many"] spDraw)
    (DR : Def K mg "_law_rests" lRests ["_law_script", "_law_by", "_law_prime_here", "_law_many"] g3 gd3) (GR : FnOk P w K mg base CX0 2 g3 gd3 ["_law_script", "_law_by", "_law_prime_here", "_law_many"] (spRests K))
    (DU : Def K mg "_law_due" lDue ["_law_prime_here", "_law_rule", "_law_row_here", "_law_place"] g4 gd4) (GU : FnOk P w K mg base CX0 1 g4 gd4 ["_law_prime_here", "_law_rule", "_law_row_here", "_law_place"] spDue) :
    FnOk P w K mg base CX0 3 f fd ["_law_script", "_law_prime_here"] (spRow K) := by
  refine D.F.ok scRow (fun vs H Q E h => ?_) (fun cdv A outer s H vs Q E hr h => ?_)
  · obtain ⟨a, ns, p, rfl, _⟩ := h
    rfl
  obtain ⟨a, ns, p, rfl, h1, hl, pr, q⟩ := h
  have hp := pr.pos
  refine ⟨_, pss_cons (ps_par (i := 2) (j := 3) rfl scRow.nd rfl rfl (by decide) rfl rfl (pa_cons (pcall DD GD hr (pa_cons (pcall DC GC hr (pa_cons (pv 0) (pa_cons pint pa_nil))) (pa_cons pint (pa_cons pint pa_nil)))) (pa_cons (plen o (pv 0)) pa_nil)) (by kernel_rfl))
    (pss_cons (ps_set (i := 4) scRow.nd rfl (Or.inl rfl) (pcall DR GR hr (pa_cons (pv 0) (pa_cons pint (pa_cons (pv 1) (pa_cons (pv 3) pa_nil))))))
    (pss_cons (ps_if (pt_cmpR op_eq (pv 2) pint (nomark _)) (pss_one (ps_ret (pe_comp ["_law_k", "_law_number"] [0] rfl (pi_enum rfl o.enumerate (pa_cons (pv 4) pa_nil)) (fun cl C s₂ H₂ fp => pgp) (gk_pair (by decide) (by decide))
        (fun cl C s₂ H₂ fp => pe_ifExp (pt_cmpR op_eq (pcall DD GD hr (pa_cons (pe_ix (ixK (K := K) rfl) (pv 2) (pv 0) (fun _ _ => rfl)) (pa_cons pint (pa_cons pint pa_nil)))) pint (nomark _)) (pv 1) pint)))) pss_nil)
    (pss_cons (ps_if (pt_cmpR op_lt (pv 2) pint (nomark _))
      (pss_cons (ps_set (i := 5) scRow.nd rfl (Or.inl rfl) (pcall DR GR hr (pa_cons (pe_slice sl_list (pv 0) (po_some pint) po_none) (pa_cons pint (pa_cons (pv 1) (pa_cons (pe_op op_add pint (pcall DD GD hr (pa_cons (pcall DC GC hr (pa_cons (pv 0) (pa_cons pint pa_nil))) (pa_cons pint (pa_cons pint pa_nil))))) pa_nil))))))
      (pss_one (ps_for PassesOwn.never rfl (pi_range2 rfl o.range (pa_cons (plen o (pv 5)) (pa_cons (pe_op op_sub (pv 3) (pe_ix ix_tup (pe_tup (pa_cons pint (pa_cons pint (pa_cons pint (pa_cons pint pa_nil))))) (pv 2) (fun _ _ => rfl))) pa_nil))) (pgn 6)
        (pss_one (ps_asg (pcall DU GU hr (pa_cons (pv 1) (pa_cons (pv 5) (pa_cons (pv 4) (pa_cons (pv 6) pa_nil))))) (pg_sub (pv 4) (pv 6) set_list))))))
      pss_nil)
    (pss_one (ps_ret (pv 4)))))), ?_⟩
  refine ⟨_, rfl, a, ns, 1, rfl, h1, hl, gt ns 1, 7, 5, rfl, by decide, fun kind H1 k0 k5 s1 => ?_⟩
  refine ⟨_, rfl, a, _, rfl, .inl (s1.seq h1), _, _, rfl, ?_⟩
  rw [List.length_map]
  refine ⟨_, rfl, _, rfl, _, rfl, a, ns, 1, p, ns.length, rfl, s1.seq h1, hl, hp, by omega, fun d H2 l s2 nd hd hR hL => ?_⟩
  have s12 := s1.trans s2
  refine ⟨_, rfl, rfl, _, rfl, ?_⟩
  by_cases hk0 : kind = 0
  · subst hk0
    refine iteTd rfl ?_
    refine ⟨_, rfl, d, rfl, ⟨_, Rd.of hd⟩, ?_⟩
    refine ⟨l.length, fun i ys H' => ∃ l' : List Int, ys = l'.map V.int ∧ l'.length = i ∧ Rests p l' ∧ Same H2 H', small (by omega), ⟨[], rfl, rfl, Rests.nil, Same.refl _⟩, fun i ys H' hi hl' wi => ?_, fun ys H' hl' wi => ?_⟩
    · obtain ⟨l', rfl, hl2, hR', sm⟩ := wi
      have hx : (l.map V.int)[i]? = some (.int (gt l i)) := by rw [List.getElem?_map, List.getElem?_eq_getElem hi, gt_lt hi]; rfl
      refine ⟨⟨_, _, (hd.same sm).sq, hx⟩, fun x H3 y => ?_⟩
      obtain ⟨t, nt, e1, e2⟩ := y
      have e3 := e2 _ _ (hd.same sm).sq hx
      subst e1 e3
      have s3 := sm.trans (same_new nt (.tup [.int i, .int (gt l i)]))
      refine pair_go upd_same ?_
      refine ⟨_, rfl, _, rfl, a, _, _, _, rfl, rfl, (s12.trans s3).seq h1, atI_int (k := i) rfl (by omega), gt ns i, 9, 5, rfl, by decide, fun v H4 v0 v5 s4 => ?_⟩
      refine ⟨rfl, _, rfl, ite2 (fun _ => ?_) (fun _ => ?_)⟩
      · exact ⟨_, rfl, l' ++ [gt l i], by rw [List.map_append]; rfl, by rw [List.length_append, hl2]; rfl, hR'.app (.one (hR.at hp i)), s3.trans s4⟩
      · exact ⟨l' ++ [0], by rw [List.map_append]; rfl, by rw [List.length_append, hl2]; rfl, hR'.app (.one ⟨by omega, hp⟩), s3.trans s4⟩
    · obtain ⟨l', rfl, hl2, hR', sm⟩ := wi
      refine ⟨⟨_, (hd.same sm).sq, by rw [List.length_map]; exact Nat.le_refl _⟩, fun r nr => ?_⟩
      exact q r _ l' ((s12.trans sm).trans (same_new nr _)) ((s12.trans sm).free nr) (Ls.new rfl) hR' (by omega)
  refine iteFd (fun z => hk0 (by injection z)) ?_
  refine ⟨_, rfl, _, _, rfl, rfl, _, rfl, ?_⟩
  by_cases hk4 : kind < 4
  · refine iteTd hk4 ?_
    refine ⟨_, rfl, _, rfl, a, _, rfl, s12.seq h1, fun c nc => ?_⟩
    rw [show cutV (ns.map V.int) (some 1) none = (ns.drop 1).map V.int from cut_fromA (lo := 1)]
    have s3 := same_new nc (.lst ((ns.drop 1).map V.int))
    refine ⟨_, rfl, _, rfl, a, ns, 2, rfl, (s12.trans s3).seq h1, hl, gt ns 2, 8, 6, rfl, by decide, fun v H4 v0 v6 s4 => ?_⟩
    refine ⟨_, _, rfl, rfl, c, ns.drop 1, 3, p, (1 + v).toNat, congrArg (fun z => [V.ref c, V.int 3, V.int p, V.int z]) (by omega), s4.seq (SqL.of upd_same), by rw [List.length_drop]; omega, hp, by omega, fun rl H5 rule s5 nrl hrl hRr hLr => ?_⟩
    have s25 := (s3.trans s4).trans s5
    have hd5 : Ls H5 d l := hd.same s25
    have nerl : rl ≠ d := fun z => by
      subst z
      have := (s3.trans s4) _ _ hd
      rw [nrl] at this
      cases this
    have hkn : kind.toNat < 4 := by omega
    refine ⟨_, rfl, rl, _, rfl, .inl hrl.sq, _, rfl, (by show 4 ≤ sizeLine; decide), fun t nt => ?_⟩
    have s6 := same_new nt (.tup [.int 0, .int 0, .int 0, .int 2])
    refine ⟨_, rfl, t, four.map V.int, _, _, rfl, rfl, SqT.of upd_same, atI_int (k := kind.toNat) (by omega) hkn, _, _, rfl, rfl, _, _, rfl, ?_⟩
    have f4 := four_le _ hkn
    rw [List.length_map]
    refine ⟨⟨by omega, by omega, by omega, by omega⟩, for_range (fun i σ Hw => ∃ lw x, σ = [some (.ref a), some (.int p), some (.int kind), some (.int ns.length), some (.ref d), some (.ref rl), x] ∧ Same H Hw ∧ Ls Hw d lw ∧ Ls Hw rl rule ∧ Rests p lw ∧ lw.length = ns.length)
      ⟨l, none, rfl, (s12.trans s25).trans s6, hd5.same s6, hrl.same s6, hR, hL⟩ ?_ ?_⟩
    · rintro i σ Hw hi ⟨lw, x, rfl, sw, hdw, hrw, hRw, hLw⟩
      have ei : (rule.length : Int) + (i : Int) = ((rule.length + i : Nat) : Int) := by omega
      have hin : rule.length + i < ns.length := by omega
      refine ⟨_, rfl, _, rfl, _, rfl, _, rfl, p, rl, d, rule, lw, rule.length + i, congrArg (fun z => [V.int p, V.ref rl, V.ref d, V.int z]) ei, hrw, hdw, ⟨pr, hRr, hRw, by omega, by omega⟩, by omega, by omega, fun H7 s7 => ?_⟩
      refine ⟨_, rfl, _, rfl, d, _, _, rule.length + i, rfl, rfl, hdw.same s7, ixN_nat ei (by rw [List.length_map]; omega), lw.set (rule.length + i) (dueN p rule lw (rule.length + i)), _, rfl, ?_, Ls.new map_set, ?_, Rests.set hRw (dueN_rest hp _ _ _), by rw [List.length_set]; exact hLw⟩
      · exact sput (sw.trans s7) (s1.free nd)
      · show upd H7 d _ rl = _
        rw [upd_ne nerl]
        exact hrw.same s7
    · rintro σ Hw ⟨lw, x, rfl, sw, hdw, hrw, hRw, hLw⟩
      exact ⟨_, rfl, q d Hw lw sw (s1.free nd) hdw hRw hLw⟩
  · refine iteFd hk4 ⟨_, rfl, q d H2 l s12 (s1.free nd) hd hR hL⟩
end
end Rr

set_option Elab.async false
set_option linter.all false
set_option maxRecDepth 100000
set_option maxHeartbeats 800000
namespace Rr
open PySem L2 RM
def spInv : Sp := fun vs H Q _ => ∃ (p x : Int), vs = [.int p, .int x] ∧ (p = 2 ∨ p = 3 ∨ p = 5 ∨ p = 7 ∨ p = 11 ∨ p = 31 ∨ p = 997) ∧ 0 < x ∧ x < p ∧ ∀ t : Int, 0 ≤ t → t < p → Cg p (x * t) 1 → Q (.int t) H
section
variable {P : Program} {w : World} {K : PySem.W.Frag} {mg : Str → Option Value} {base : Heap} {f g g2 g3 g4 g5 g6 : Addr} {fd gd gd2 gd3 gd4 gd5 gd6 : FuncData}
theorem scBoth : FnScope ["prime", "one", "other", "first", "second", "length"] ["prime", "one", "other"] (defScope sBoth) := ⟨rfl, rfl, rfl, by decide +kernel, rfl, by decide +kernel, by decide +kernel⟩
theorem scInv : FnScope ["prime", "rest", "told", "power", "left"] ["prime", "rest"] (defScope sInv) := ⟨rfl, rfl, rfl, by decide +kernel, rfl, by decide +kernel, by decide +kernel⟩
theorem ok_inv (D : Def K mg "inverse" sInv ["prime", "rest"] f fd) : FnOk P w K mg base CX0 1 f fd ["prime", "rest"] spInv := by
  refine D.F.ok scInv (fun vs H Q E h => ?_) (fun cdv A outer s H vs Q E hr h => ?_)
  · obtain ⟨p, x, rfl, _⟩ := h
    rfl
  obtain ⟨p, x, rfl, hpp, hx0, hx1, q⟩ := h
  refine ⟨_, pss_cons (ps_set (i := 2) scInv.nd rfl (Or.inl rfl) pint) (pss_cons (ps_set (i := 3) scInv.nd rfl (Or.inl rfl) (pv 1)) (pss_cons (ps_set (i := 4) scInv.nd rfl (Or.inl rfl) (pe_op op_sub (pv 0) pint))
    (pss_cons (ps_while PassesOwn.never (pt_cmpR op_gt (pv 4) pint (nomark _))
      (pss_cons (ps_if (pt_cmpR op_eq (pe_op op_mod (pv 4) pint) pint (nomark _)) (pss_one (ps_set (i := 2) scInv.nd rfl (Or.inl rfl) (pe_op op_mod (pe_op op_mul (pv 2) (pv 3)) (pv 0)))) pss_nil)
      (pss_cons (ps_set (i := 3) scInv.nd rfl (Or.inl rfl) (pe_op op_mod (pe_op op_mul (pv 3) (pv 3)) (pv 0)))
      (pss_one (ps_set (i := 4) scInv.nd rfl (Or.inl rfl) (pe_op op_fdiv (pv 4) pint))))))
    (pss_one (ps_ret (pv 2)))))), ?_⟩
  have hp2 : 2 ≤ p ∧ p ≤ 997 := by omega
  obtain ⟨n, rfl⟩ : ∃ n : Nat, p = (n : Int) := ⟨p.toNat, by omega⟩
  have hf := fermat (p := n) (by omega) hx0 hx1
  have hp : (0 : Int) < (n : Int) := by omega
  refine ⟨_, rfl, _, rfl, _, _, rfl, rfl, ?_⟩
  refine ⟨fun μ σ H' => H' = H ∧ ∃ (t y : Int) (l : Nat), σ = [some (.int n), some (.int x), some (.int t), some (.int y), some (.int l)] ∧ (0 ≤ t ∧ t < n) ∧ (0 ≤ y ∧ y < n) ∧ Cg n (t * y ^ l) (x ^ (n - 2)) ∧ μ = l,
    ⟨n - 2, rfl, 1, x, n - 2, ?_, by omega, by omega, (by rw [Int.one_mul]; exact Cg.refl _ _), rfl⟩, ?_⟩
  · show [some (V.int n), some (V.int x), some (V.int 1), some (V.int x), some (V.int ((n : Int) - 2))] = _
    rw [show (n : Int) - 2 = ((n - 2 : Nat) : Int) by omega]
  rintro l σ H' ⟨rfl, t, y, _, rfl, ht, hy, hc, rfl⟩
  refine ⟨_, rfl, _, _, rfl, rfl, _, rfl, ?_⟩
  by_cases hl : 0 < l
  · refine iteTd (by omega) ⟨_, fun σ' H' z => z, ?_⟩
    refine ⟨_, rfl, _, _, rfl, rfl, (by show (0 : Int) < 2; decide), rfl, _, rfl, ?_⟩
    have e2 : ((l : Int) / 2) = ((l / 2 : Nat) : Int) := by omega
    have step : ∀ t' : Int, (0 ≤ t' ∧ t' < n) → Cg n (t' * (y * y % n) ^ (l / 2)) (x ^ (n - 2)) → ∃ m', m' < l ∧ H' = H' ∧ ∃ (t : Int) (y' : Int) (l' : Nat), [some (V.int n), some (V.int x), some (V.int t'), some (V.int (y * y % n)), some (V.int ((l : Int) / 2))] = [some (V.int n), some (V.int x), some (V.int t), some (V.int y'), some (V.int l')] ∧ (0 ≤ t ∧ t < n) ∧ (0 ≤ y' ∧ y' < n) ∧ Cg n (t * y' ^ l') (x ^ (n - 2)) ∧ m' = l' :=
      fun t' h1 h2 => ⟨l / 2, by omega, rfl, t', y * y % n, l / 2, by rw [e2], h1, mod_rest hp, h2, rfl⟩
    have hpow : Cg n ((y * y % n) ^ (l / 2)) ((y * y) ^ (l / 2)) := (Cg.emod _ _).pow _
    by_cases hb : l % 2 = 1
    · refine iteTd (congrArg V.int (by omega)) ?_
      refine ⟨_, rfl, _, rfl, _, _, rfl, rfl, .inl ⟨by omega, by omega⟩, _, rfl, _, _, rfl, rfl, hp, ?_⟩
      refine ⟨_, rfl, _, rfl, _, _, rfl, rfl, .inl ⟨by omega, by omega⟩, _, rfl, _, _, rfl, rfl, hp, ?_⟩
      refine ⟨_, rfl, _, _, rfl, rfl, ⟨by decide, by decide⟩, ?_⟩
      refine step _ (mod_rest hp) ?_
      refine ((Cg.emod _ _).mul hpow).trans ?_
      refine (Cg.of_eq ?_).trans hc
      rw [pow_half y l, hb, Int.pow_succ, Int.pow_zero, Int.one_mul, Int.mul_assoc, Int.mul_comm y]
    · refine iteFd (fun z => ?_) ?_
      · have z' : V.int ((l : Int) % 2) = V.int 1 := z
        injection z' with z'
        omega
      refine ⟨_, rfl, _, rfl, _, _, rfl, rfl, .inl ⟨by omega, by omega⟩, _, rfl, _, _, rfl, rfl, hp, ?_⟩
      refine ⟨_, rfl, _, _, rfl, rfl, ⟨by decide, by decide⟩, ?_⟩
      refine step _ ht ?_
      refine ((Cg.refl _ _).mul hpow).trans ?_
      refine (Cg.of_eq ?_).trans hc
      rw [pow_half y l, show l % 2 = 0 by omega, Int.pow_zero, Int.mul_one]
  · refine iteFd (by omega) ⟨_, rfl, q t ht.1 ht.2 ?_⟩
    have : l = 0 := by omega
    subst this
    rw [Int.pow_zero, Int.mul_one] at hc
    exact ((Cg.refl _ x).mul hc).trans hf
end
end Rr

set_option Elab.async false
set_option linter.all false
set_option maxRecDepth 100000
set_option maxHeartbeats 800000
namespace L2
open PySem PySem.Spec PyProof.Rows
/-- the rule for a def that may raise -/
theorem Fun.ok1 {P : Program} {w : World} {K : PySem.W.Frag} {mg : Str → Option Value} {base : Heap} {x qual : Str} {st : Stmt} {f : Addr} {fd : FuncData} {N ps : List Str} {k : Nat} {sp : Sp} (F : Fun K x qual st f fd) (S : FnScope N ps (defScope st)) (len : ∀ vs H Q E, sp vs H Q E → vs.length = ps.length)
    (hbody : ∀ (cdv : Value) (A : Around) (outer : List Env) (s : Shared) (H : Hp) (vs : List V) (Q : VK) (E : XK), Room k (A.deeper (envOfC qual (defScope st) s.heap.objs.size f cdv)) → sp vs H Q E →
      ∃ t, PSs (cxOf (CX1 P w) P w K mg base N qual (defScope st) f cdv A outer s H E) (defBody st) t ∧ t { nx := fun _ H' => Q .non H', rt := Q } (start N vs) H) : FnOk P w K mg base (CX1 P w) (k + 1) f fd ps sp := by
  obtain ⟨oc, od, kV, doc, pm, an, cdv, ct, osl, rfl, lk, hcd⟩ := F.ex
  exact fn_of lk hcd S len fun A outer s H vs Q E hr hsp => hbody cdv A outer s H vs Q E hr hsp
end L2
namespace Rr
open PySem L2 RM
theorem atI_last {ns : List Int} (h : 0 < ns.length) : atI (ns.map V.int) (-1) = some (.int (gt ns (ns.length - 1))) := by
  unfold atI ixN
  rw [if_neg (by decide), List.length_map, if_pos (by omega), Option.bind_some, show ((-1 : Int) + (ns.length : Int)).toNat = ns.length - 1 by omega, List.getElem?_map, List.getElem?_eq_getElem (by omega), gt_lt (by omega)]
  rfl
theorem cut_last {ns : List Int} : cutV (ns.map V.int) none (some (-1)) = (ns.take (ns.length - 1)).map V.int := by
  have e : HT.sIx (ns.map V.int).length (ns.map V.int).length (some (-1)) = ns.length - 1 := by
    show (if (-1 : Int) < 0 then ((-1 : Int) + ((ns.map V.int).length : Int)).toNat else min (-1 : Int).toNat (ns.map V.int).length) = ns.length - 1
    rw [if_pos (by decide), List.length_map]
    omega
  unfold cutV
  rw [e, HT.sIx_none, Nat.sub_zero, List.drop_zero, List.map_take]
def Seven (p : Int) : Prop := p = 2 ∨ p = 3 ∨ p = 5 ∨ p = 7 ∨ p = 11 ∨ p = 31 ∨ p = 997
/-- backwards: new, or NoWay -/
def spBack (CN : Addr) : Sp := fun vs H Q E => ∃ (p : Int) (a : Addr) (rule : List Int), vs = [.int p, .ref a] ∧ Ls H a rule ∧ Seven p ∧ Rests p rule ∧ rule.length ≤ 100 ∧
  (rule = [] → ∀ (r : Addr) (H' : Hp), Same H H' → H r = none → Ls H' r [] → Q (.ref r) H') ∧
  (0 < rule.length → gt rule (rule.length - 1) = 0 → E (.ref CN) none H) ∧
  (0 < rule.length → gt rule (rule.length - 1) ≠ 0 → ∀ (t : Int) (r : Addr) (H' : Hp), 0 ≤ t → t < p → Cg p (gt rule (rule.length - 1) * t) 1 → Same H H' → H r = none → Ls H' r (backN p rule t) → Q (.ref r) H')
section
variable {P : Program} {w : World} {K : PySem.W.Frag} {mg : Str → Option Value} {base : Heap} {f g g2 g3 g4 g5 g6 CN : Addr} {fd gd gd2 gd3 gd4 gd5 gd6 : FuncData} {bm : List Value}
theorem scBack : FnScope ["prime", "rule", "share", "told"] ["prime", "rule"] (defScope sBack) := ⟨rfl, rfl, rfl, by decide +kernel, rfl, by decide +kernel, by decide +kernel⟩
theorem ok_back (D : Def K mg "backwards" sBack ["prime", "rule"] f fd) (o : Own mg) (N : Needs P w K mg base g g2 g3 gd gd2 gd3) (DI : Def K mg "inverse" sInv ["prime", "rest"] g4 gd4) (GI : FnOk P w K mg base CX0 1 g4 gd4 ["prime", "rest"] spInv)
    (hc : XC K CN bm) (mN : mg "NoWay" = some (.ref CN)) : FnOk P w K mg base (CX1 P w) 5 f fd ["prime", "rule"] (spBack CN) := by
  refine D.F.ok1 scBack (fun vs H Q E h => ?_) (fun cdv A outer s H vs Q E hr h => ?_)
  · obtain ⟨p, a, rule, rfl, _⟩ := h
    rfl
  obtain ⟨p, a, rule, rfl, h1, hpp, hR, hl, q0, qE, q1⟩ := h
  refine ⟨_, pss_cons (ps_expr (pcall N.D1 N.G1 hr (pa_cons (pv 0) pa_nil))) (pss_cons (ps_expr (pcall N.D2 N.G2 hr (pa_cons (pv 0) (pa_cons (pv 1) pa_nil))))
    (pss_cons (ps_if (pt_cmpR op_eq (plen o (pv 1)) pint (nomark _)) (pss_one (ps_ret (pe_lst pa_nil))) pss_nil)
    (pss_cons (ps_if (pt_cmpR op_eq (pe_ix ix_list (pv 1) (pe_un un_neg pint) (fun _ _ => rfl)) pint (nomark _)) (pss_one (ps_raise hc mN lands1 (pa_cons pe_str pa_nil))) pss_nil)
    (pss_cons (ps_set (i := 2) scBack.nd rfl (Or.inr rfl) (pcall DI GI hr (pa_cons (pv 0) (pa_cons (pe_ix ix_list (pv 1) (pe_un un_neg pint) (fun _ _ => rfl)) pa_nil))))
    (pss_cons (ps_setC (i := 3) ["rest"] [0, 2] rfl scBack.nd rfl rfl (pi_rev rfl o.reversed (pa_cons (pe_slice sl_list (pv 1) po_none (po_some (pe_un un_neg pint))) pa_nil)) (fun cl C s₂ H₂ fp => pgn 0) (gk_name (by decide))
      (fun cl C s₂ H₂ fp => pe_op op_mod (pe_op op_mul (pe_un un_neg (pv 0)) (pv 2)) (pv 1)))
    (pss_cons (ps_expr (pe_bm PySem.F.plainAttrs_list PySem.F.slot_list_append PySem.F.type_list_append mt_append (pv 3) (pa_cons (pv 2) pa_nil)))
    (pss_one (ps_ret (pv 3))))))))), ?_⟩
  have pok := ones_of hpp
  have hp := pok.pos
  have hp2 := pok.2.1
  refine ⟨_, rfl, p, rfl, pok, ?_⟩
  refine ⟨_, rfl, _, rfl, p, a, rule, rfl, h1, hR, ?_⟩
  refine ⟨_, rfl, a, _, rfl, .inl h1.sq, rfl, _, rfl, ?_⟩
  rw [List.length_map]
  by_cases hz : rule.length = 0
  · refine iteTd (by rw [hz]; rfl) ⟨(by show 0 ≤ sizeLine; decide), fun l nl => ?_⟩
    exact q0 (List.length_eq_zero_iff.mp hz) l _ (same_new nl _) nl (Ls.new rfl)
  refine iteFd (fun z => ?_) ?_
  · have z' : V.int (rule.length : Int) = V.int 0 := z
    injection z' with z'
    omega
  have hz' : 0 < rule.length := by omega
  refine ⟨_, rfl, _, rfl, a, _, _, _, rfl, rfl, h1.sq, atI_last hz', rfl, _, rfl, ?_⟩
  by_cases hl0 : gt rule (rule.length - 1) = 0
  · exact iteTd (congrArg V.int hl0) ⟨(by show 1 ≤ sizeLine; decide), qE hz' hl0⟩
  refine iteFd (fun z => hl0 (by injection z)) ?_
  have bl := hR.at hp (rule.length - 1)
  refine ⟨_, rfl, _, rfl, _, rfl, a, _, _, _, rfl, rfl, h1.sq, atI_last hz', p, _, rfl, hpp, by omega, bl.2, fun t t0 t1 hc => ?_⟩
  refine ⟨_, rfl, _, rfl, _, rfl, a, _, rfl, h1.sq, fun sa nsa => ?_⟩
  rw [cut_last]
  have s1 := same_new nsa (.lst ((rule.take (rule.length - 1)).map V.int))
  have lt : (rule.take (rule.length - 1)).length = rule.length - 1 := by rw [List.length_take]; omega
  refine ⟨sa, _, rfl, SqL.of upd_same, ?_⟩
  refine comp_rev (xs := (rule.take (rule.length - 1)).map V.int) (SqL.of upd_same) (fun i => V.int ((-(gt rule (rule.length - 2 - i)) * t) % p)) (by rw [List.length_map, lt]; exact small (by omega)) (fun i x Hx hx sx => ?_) (fun Hx sx r nr => ?_)
  · rw [← List.map_reverse] at hx
    obtain ⟨rfl, hi⟩ := at_int hx
    rw [List.length_reverse, lt] at hi
    rw [gt_reverse (by omega), lt, gt_take (by omega), show rule.length - 1 - 1 - i = rule.length - 2 - i by omega]
    have b2 := hR.at hp (rule.length - 2 - i)
    exact ⟨_, rfl, _, rfl, _, rfl, _, _, rfl, rfl, .inl ⟨by omega, by omega⟩, _, rfl, _, _, rfl, rfl, hp, snocF rfl, sx⟩
  · have sN := (s1.trans sx)
    refine ⟨_, rfl, .inl ⟨rfl, _, SqL.of upd_same⟩, _, rfl, r, _, _, rfl, rfl, upd_same, (by rw [List.length_map, List.length_range, List.length_map, lt]; exact small1000 (by omega)), _, rfl, ?_⟩
    refine q1 hz' hl0 t r _ t0 t1 hc ?_ (sN.free nr) (Ls.new ?_)
    · exact sput (sN.trans (same_new nr _)) (sN.free nr)
    · rw [List.length_map, lt, mapInt]
      unfold backN
      rw [List.map_append]
      rfl
end
end Rr

set_option Elab.async false
set_option linter.all false
set_option maxRecDepth 100000
set_option maxHeartbeats 800000
namespace Rr
open PySem L2 RM
/-! ### what is refused -/
/-- no whole number (a truth is none) -/
inductive NoInt (H : Hp) : V → Prop where
  | non : NoInt H .non
  | str (x : Str) : NoInt H (.str x)
  | bl (b : Bool) : NoInt H (.bl b)
  | lst {a : Addr} {xs : List V} (e : H a = some (.lst xs)) : NoInt H (.ref a)
  | tup {a : Addr} {xs : List V} (e : H a = some (.tup xs)) : NoInt H (.ref a)
  | dic {a : Addr} {kvs : List (Key × V)} (e : H a = some (.dK kvs)) : NoInt H (.ref a)
theorem NoInt.same {H H' : Hp} {v : V} (h : NoInt H v) (s : Same H H') : NoInt H' v := by
  cases h with
  | non => exact .non
  | str x => exact .str x
  | bl b => exact .bl b
  | lst e => exact .lst (s _ _ e)
  | tup e => exact .tup (s _ _ e)
  | dic e => exact .dic (s _ _ e)
/-- no list -/
inductive NoList (H : Hp) : V → Prop where
  | non : NoList H .non
  | str (x : Str) : NoList H (.str x)
  | bl (b : Bool) : NoList H (.bl b)
  | int (i : Int) : NoList H (.int i)
  | tup {a : Addr} {xs : List V} (e : H a = some (.tup xs)) : NoList H (.ref a)
  | dic {a : Addr} {kvs : List (Key × V)} (e : H a = some (.dK kvs)) : NoList H (.ref a)
theorem NoList.same {H H' : Hp} {v : V} (h : NoList H v) (s : Same H H') : NoList H' v := by
  cases h with
  | non => exact .non
  | str x => exact .str x
  | bl b => exact .bl b
  | int i => exact .int i
  | tup e => exact .tup (s _ _ e)
  | dic e => exact .dic (s _ _ e)
theorem kit_non_int (K : PySem.W.Frag) : PySem.W.kitOne K (.type "NoneType") (.type "int") = some false := by kernel_rfl
theorem kit_str_int (K : PySem.W.Frag) : PySem.W.kitOne K (.type "str") (.type "int") = some false := by kernel_rfl
theorem kit_bool_int (K : PySem.W.Frag) : PySem.W.kitOne K (.type "bool") (.type "int") = some true := by kernel_rfl
theorem kit_list_int (K : PySem.W.Frag) : PySem.W.kitOne K (.type "list") (.type "int") = some false := by kernel_rfl
theorem kit_tuple_int (K : PySem.W.Frag) : PySem.W.kitOne K (.type "tuple") (.type "int") = some false := by kernel_rfl
theorem kit_dict_int (K : PySem.W.Frag) : PySem.W.kitOne K (.type "dict") (.type "int") = some false := by kernel_rfl
theorem kit_non_list (K : PySem.W.Frag) : PySem.W.kitOne K (.type "NoneType") (.type "list") = some false := by kernel_rfl
theorem kit_str_list (K : PySem.W.Frag) : PySem.W.kitOne K (.type "str") (.type "list") = some false := by kernel_rfl
theorem kit_bool_list (K : PySem.W.Frag) : PySem.W.kitOne K (.type "bool") (.type "list") = some false := by kernel_rfl
theorem kit_int_list (K : PySem.W.Frag) : PySem.W.kitOne K (.type "int") (.type "list") = some false := by kernel_rfl
theorem kit_tuple_list (K : PySem.W.Frag) : PySem.W.kitOne K (.type "tuple") (.type "list") = some false := by kernel_rfl
theorem kit_dict_list (K : PySem.W.Frag) : PySem.W.kitOne K (.type "dict") (.type "list") = some false := by kernel_rfl
theorem NoInt.ty {H : Hp} {v : V} (K : PySem.W.Frag) (h : NoInt H v) : (∃ b, v = .bl b) ∨ ∃ t, TyOf K H v t ∧ PySem.W.kitOne K t (.type "int") = some false := by
  cases h with
  | non => exact .inr ⟨_, .non, kit_non_int K⟩
  | str x => exact .inr ⟨_, .str x, kit_str_int K⟩
  | bl b => exact .inl ⟨b, rfl⟩
  | lst e => exact .inr ⟨_, .lst e, kit_list_int K⟩
  | tup e => exact .inr ⟨_, .tup e, kit_tuple_int K⟩
  | dic e => exact .inr ⟨_, .dK e, kit_dict_int K⟩
theorem NoList.ty {H : Hp} {v : V} (K : PySem.W.Frag) (h : NoList H v) : ∃ t, TyOf K H v t ∧ PySem.W.kitOne K t (.type "list") = some false := by
  cases h with
  | non => exact ⟨_, .non, kit_non_list K⟩
  | str x => exact ⟨_, .str x, kit_str_list K⟩
  | bl b => exact ⟨_, .bl b, kit_bool_list K⟩
  | int i => exact ⟨_, .int i, kit_int_list K⟩
  | tup e => exact ⟨_, .tup e, kit_tuple_list K⟩
  | dic e => exact ⟨_, .dK e, kit_dict_list K⟩
/-- no prime of ours -/
def NotP (H : Hp) (v : V) : Prop := NoInt H v ∨ ∃ i : Int, v = .int i ∧ ¬ PrimeOk i
theorem NotP.same {H H' : Hp} {v : V} (h : NotP H v) (s : Same H H') : NotP H' v := h.imp (·.same s) id
/-- no rest -/
def BadIt (p : Int) (H : Hp) (v : V) : Prop := NoInt H v ∨ ∃ i : Int, v = .int i ∧ ¬ (0 ≤ i ∧ i < p)
theorem BadIt.same {p : Int} {H H' : Hp} {v : V} (h : BadIt p H v) (s : Same H H') : BadIt p H' v := h.imp (·.same s) id
/-- no list of rests -/
def NotR (p : Int) (H : Hp) (v : V) : Prop := NoList H v ∨ ∃ (a : Addr) (xs : List V), v = .ref a ∧ H a = some (.lst xs) ∧ (∀ x ∈ xs, (∃ i : Int, x = .int i) ∨ NoInt H x) ∧ ∃ x ∈ xs, BadIt p H x
theorem NotR.same {p : Int} {H H' : Hp} {v : V} (h : NotR p H v) (s : Same H H') : NotR p H' v := by
  rcases h with h | ⟨a, xs, e, h, h1, x, hx, hb⟩
  · exact .inl (h.same s)
  · exact .inr ⟨a, xs, e, s _ _ h, fun y hy => (h1 y hy).imp id (·.same s), x, hx, hb.same s⟩
/-- no count -/
def NotC (H : Hp) (v : V) : Prop := NoInt H v ∨ ∃ i : Int, v = .int i ∧ i < 0
def spWholeV : Sp := fun vs H Q _ => (∃ i : Int, vs = [.int i] ∧ Q (.bl true) H) ∨ ∃ v, vs = [v] ∧ NoInt H v ∧ Q (.bl false) H
def spPrimeV : Sp := fun vs H Q _ => ∃ v, vs = [v] ∧ ((∃ p : Int, v = .int p ∧ PrimeOk p ∧ Q (.bl true) H) ∨ (NotP H v ∧ Q (.bl false) H))
def spRestV : Sp := fun vs H Q _ => ∃ (p : Int) (v : V), vs = [.int p, v] ∧ ((∃ i : Int, v = .int i ∧ Q (.bl (decide (0 ≤ i) && decide (i < p))) H) ∨ (NoInt H v ∧ Q (.bl false) H))
def spAreV : Sp := fun vs H Q _ => ∃ (p : Int) (v : V), vs = [.int p, v] ∧ ((∃ (a : Addr) (ns : List Int), v = .ref a ∧ Ls H a ns ∧ Rests p ns ∧ Q (.bl true) H) ∨ (NotR p H v ∧ Q (.bl false) H))
def spNeedPrimeX (C : Addr) : Sp := fun vs H Q E => ∃ v, vs = [v] ∧ ((∃ p : Int, v = .int p ∧ PrimeOk p ∧ Q .non H) ∨ (NotP H v ∧ E (.ref C) none H))
def spNeedX (C : Addr) : Sp := fun vs H Q E => ∃ (p : Int) (v : V), vs = [.int p, v] ∧ ((∃ (a : Addr) (ns : List Int), v = .ref a ∧ Ls H a ns ∧ Rests p ns ∧ Q .non H) ∨ (NotR p H v ∧ E (.ref C) none H))
def spCountX (C : Addr) : Sp := fun vs H Q E => ∃ v, vs = [v] ∧ NotC H v ∧ E (.ref C) none H
section
variable {P : Program} {w : World} {K : PySem.W.Frag} {mg : Str → Option Value} {base : Heap} {f g g2 g3 : Addr} {fd gd gd2 gd3 : FuncData} {C : Addr} {bm : List Value}
theorem ok_wholeV (D : Def K mg "is_whole" sWhole ["value"] f fd) (o : Own mg) : FnOk P w K mg base CX0 1 f fd ["value"] spWholeV := by
  refine D.F.ok scWhole (fun vs H Q E h => ?_) (fun cdv A outer s H vs Q E hr h => ?_)
  · rcases h with ⟨i, rfl, _⟩ | ⟨v, rfl, _⟩ <;> rfl
  refine ⟨_, pss_one (ps_ret (pe_and (pe_callB call_isi rfl o.isinstance boot_isi (pa_cons (pv 0) (pa_cons (pe_ty rfl o.int boot_intT) pa_nil)))
    (pe_one (pe_not (pe_callB call_isi rfl o.isinstance boot_isi (pa_cons (pv 0) (pa_cons (pe_ty rfl o.bool boot_boolT) pa_nil))))))), ?_⟩
  rcases h with ⟨i, rfl, q⟩ | ⟨v, rfl, hv, q⟩
  · refine ⟨_, rfl, _, _, _, _, rfl, TyOf.int i, kit_int_int _, true, rfl, iteT ?_⟩
    exact ⟨_, rfl, _, _, _, _, rfl, TyOf.int i, kit_int_bool _, false, rfl, q⟩
  · rcases hv.ty K with ⟨b, rfl⟩ | ⟨t, ht, hk⟩
    · refine ⟨_, rfl, _, _, _, _, rfl, TyOf.bl b, kit_bool_int _, true, rfl, iteT ?_⟩
      exact ⟨_, rfl, _, _, _, _, rfl, TyOf.bl b, kit_bool_bool _, true, rfl, q⟩
    · exact ⟨_, rfl, _, _, _, _, rfl, ht, hk, false, rfl, iteF q⟩
theorem ok_primeV (D : Def K mg "is_prime" sPrime ["value"] f fd) (o : Own mg) (DW : Def K mg "is_whole" sWhole ["value"] g gd) (GW : FnOk P w K mg base CX0 1 g gd ["value"] spWholeV) {t1 t2 : Tok} (hlo : mg "LOWEST_PRIME" = some (.int 2 t1)) (hhi : mg "HIGHEST_PRIME" = some (.int 997 t2)) :
    FnOk P w K mg base CX0 2 f fd ["value"] spPrimeV := by
  refine D.F.ok scPrime (fun vs H Q E h => ?_) (fun cdv A outer s H vs Q E hr h => ?_)
  · obtain ⟨i, rfl, _⟩ := h
    rfl
  refine ⟨_, pss_cons (ps_if (pw_or (pt_not (pt_val (pcall DW GW hr (pa_cons (pv 0) pa_nil)))) (pw_or (pt_cmpR op_lt (pv 0) (pe_glob (v := .int 2) (by rfl) hlo ⟨_, rfl⟩) (nomark _)) (pw_or1 (pt_cmpR op_gt (pv 0) (pe_glob (v := .int 997) (by rfl) hhi ⟨_, rfl⟩) (nomark _))))).pt (pss_one (ps_ret pe_bl)) pss_nil)
    (pss_cons (ps_set (i := 1) scPrime.nd rfl (Or.inl rfl) pint)
    (pss_cons (ps_while PassesOwn.never (pt_cmpR op_le (pe_op op_mul (pv 1) (pv 1)) (pv 0) (nomark _))
      (pss_cons (ps_if (pt_cmpR op_eq (pe_op op_mod (pv 0) (pv 1)) pint (nomark _)) (pss_one (ps_ret pe_bl)) pss_nil)
        (pss_one (ps_aug (i := 1) scPrime.nd rfl (Or.inl rfl) pint ip_add))))
    (pss_one (ps_ret pe_bl)))), ?_⟩
  obtain ⟨v, rfl, h⟩ := h
  have hint : (NoInt H v ∧ Q (.bl false) H) ∨ ∃ p : Int, v = .int p ∧ (PrimeOk p → Q (.bl true) H) ∧ (¬ PrimeOk p → Q (.bl false) H) := by
    rcases h with ⟨p, rfl, hp, q⟩ | ⟨h | ⟨p, rfl, hp⟩, q⟩
    · exact .inr ⟨p, rfl, fun _ => q, fun z => absurd hp z⟩
    · exact .inl ⟨h, q⟩
    · exact .inr ⟨p, rfl, fun z => absurd z hp, fun _ => q⟩
  clear h
  rcases hint with ⟨hn, q⟩ | ⟨p, rfl, qT, qF⟩
  · exact ⟨_, rfl, .inr ⟨v, rfl, hn, false, rfl, iteT q⟩⟩
  refine ⟨_, rfl, .inl ⟨p, rfl, true, rfl, iteF ?_⟩⟩
  refine ⟨_, rfl, _, _, rfl, rfl, _, rfl, ?_⟩
  by_cases h1 : p < 2
  · exact iteTd h1 (qF fun z => by have := z.1; omega)
  refine iteFd h1 ⟨_, rfl, _, _, rfl, rfl, _, rfl, ?_⟩
  by_cases h2 : 997 < p
  · exact iteTd h2 (qF fun z => by have := z.2.1; omega)
  refine iteFd h2 ?_
  refine ⟨fun m σ H' => H' = H ∧ ∃ d : Int, σ = [some (.int p), some (.int d)] ∧ 2 ≤ d ∧ d ≤ 1000 ∧ m = (1000 - d).toNat ∧ ∀ e : Int, 2 ≤ e → e < d → p % e ≠ 0, ⟨998, rfl, 2, rfl, by omega, by omega, rfl, fun e a b => by omega⟩, ?_⟩
  rintro m σ H' ⟨rfl, d, rfl, hd, hd2, rfl, hall⟩
  refine ⟨_, rfl, _, rfl, _, _, rfl, rfl, .inl ⟨by omega, by omega⟩, _, rfl, _, _, rfl, rfl, _, rfl, ?_⟩
  by_cases hle : d * d ≤ p
  · have hd31 : d < 1000 := by
      refine Int.not_le.mp fun z => ?_
      have q1 : (1000 : Int) * 1000 ≤ d * d := Int.mul_le_mul z z (by omega) (by omega)
      omega
    refine iteTd hle ⟨_, fun σ' H' z => z, ?_⟩
    refine ⟨_, rfl, _, rfl, _, _, rfl, rfl, (by show 0 < d; omega), rfl, _, rfl, ?_⟩
    by_cases hz : p % d = 0
    · exact iteTd (congrArg V.int hz) (qF fun z => z.2.2 d hd hle hz)
    refine iteFd (fun z => hz (by injection z)) ?_
    refine ⟨_, rfl, _, _, rfl, rfl, _, (by show (1000 - (d + 1)).toNat < (1000 - d).toNat; omega), rfl, d + 1, rfl, by omega, by omega, rfl, fun e a b => ?_⟩
    by_cases hed : e = d
    · rw [hed]; exact hz
    · exact hall e a (by omega)
  · refine iteFd hle (qT ⟨by omega, by omega, fun e a b => ?_⟩)
    refine hall e a (Int.not_le.mp fun z => hle ?_)
    exact Int.le_trans (Int.mul_le_mul z z (by omega) (by omega)) b
theorem ok_restV (D : Def K mg "is_rest" sRest ["prime", "value"] f fd) (DW : Def K mg "is_whole" sWhole ["value"] g gd) (GW : FnOk P w K mg base CX0 1 g gd ["value"] spWholeV) : FnOk P w K mg base CX0 2 f fd ["prime", "value"] spRestV := by
  refine D.F.ok scRest (fun vs H Q E h => ?_) (fun cdv A outer s H vs Q E hr h => ?_)
  · obtain ⟨p, i, rfl, _⟩ := h
    rfl
  refine ⟨_, pss_one (ps_ret (pe_and (pcall DW GW hr (pa_cons (pv 1) pa_nil)) (pe_and (pe_cmpR op_ge (pv 1) pint (nomark _)) (pe_one (pe_cmpR op_lt (pv 1) (pv 0) (nomark _)))))), ?_⟩
  obtain ⟨p, v, rfl, ⟨i, rfl, q⟩ | ⟨hn, q⟩⟩ := h
  · refine ⟨_, rfl, .inl ⟨i, rfl, true, rfl, iteT ?_⟩⟩
    refine ⟨_, rfl, _, _, rfl, rfl, _, rfl, ?_⟩
    by_cases h0 : 0 ≤ i
    · refine iteTd h0 ⟨_, rfl, _, rfl, _, _, rfl, rfl, ?_⟩
      rw [decide_eq_true h0, Bool.true_and] at q
      exact q
    · refine iteFd h0 ?_
      rw [decide_eq_false h0, Bool.false_and] at q
      exact q
  · exact ⟨_, rfl, .inr ⟨v, rfl, hn, false, rfl, iteF q⟩⟩
theorem ok_areV (D : Def K mg "are_rests" sAre ["prime", "value"] f fd) (o : Own mg) (DR : Def K mg "is_rest" sRest ["prime", "value"] g gd) (GR : FnOk P w K mg base CX0 2 g gd ["prime", "value"] spRestV) : FnOk P w K mg base CX0 3 f fd ["prime", "value"] spAreV := by
  refine D.F.ok scAre (fun vs H Q E h => ?_) (fun cdv A outer s H vs Q E hr h => ?_)
  · obtain ⟨p, v, rfl, _⟩ := h
    rfl
  refine ⟨_, pss_cons (ps_if (pt_not (pt_val (pe_callB call_isi rfl o.isinstance boot_isi (pa_cons (pv 1) (pa_cons (pe_ty rfl o.list boot_listT) pa_nil))))) (pss_one (ps_ret pe_bl)) pss_nil)
    (pss_cons (ps_for PassesOwn.never rfl (pi_list (pv 1)) (pg_name (i := 2) scAre.nd rfl (Or.inl rfl))
      (pss_one (ps_if (pt_not (pt_val (pcall DR GR hr (pa_cons (pv 0) (pa_cons (pv 2) pa_nil))))) (pss_one (ps_ret pe_bl)) pss_nil)))
    (pss_one (ps_ret pe_bl))), ?_⟩
  obtain ⟨p, v, rfl, h⟩ := h
  have hc : (NoList H v ∧ Q (.bl false) H) ∨ ∃ (a : Addr) (xs : List V), v = .ref a ∧ H a = some (.lst xs) ∧ (∀ x ∈ xs, (∃ i : Int, x = .int i) ∨ NoInt H x) ∧ ((∃ x ∈ xs, BadIt p H x) → Q (.bl false) H) ∧ ((∀ x ∈ xs, ¬ BadIt p H x) → Q (.bl true) H) := by
    rcases h with ⟨a, ns, rfl, hL, hR, q⟩ | ⟨h | ⟨a, xs, rfl, hL, hi, hb⟩, q⟩
    · refine .inr ⟨a, _, rfl, hL, fun x hx => ?_, fun ⟨x, hx, hb⟩ => ?_, fun _ => q⟩
      · obtain ⟨n, _, rfl⟩ := List.mem_map.mp hx
        exact .inl ⟨n, rfl⟩
      · obtain ⟨n, hn, rfl⟩ := List.mem_map.mp hx
        rcases hb with hb | ⟨i, e, hb⟩
        · cases hb
        · injection e with e
          subst e
          exact absurd (hR _ hn) hb
    · exact .inl ⟨h, q⟩
    · exact .inr ⟨a, xs, rfl, hL, hi, fun _ => q, fun z => by obtain ⟨x, hx, hb⟩ := hb; exact absurd hb (z x hx)⟩
  clear h
  rcases hc with ⟨hn, q⟩ | ⟨a, xs, rfl, hL, hi, qF, qT⟩
  · obtain ⟨t, ht, hk⟩ := hn.ty K
    exact ⟨_, rfl, _, _, _, _, rfl, ht, hk, false, rfl, iteT q⟩
  refine ⟨_, rfl, _, _, _, _, rfl, TyOf.lst hL, kit_list_list _, true, rfl, iteF ?_⟩
  refine ⟨_, rfl, a, rfl, ⟨_, SqL.of hL⟩, for_list (xs := xs) (fun i σ H' => H' = H ∧ (∀ j x, j < i → xs[j]? = some x → ¬ BadIt p H x) ∧ ∃ x, σ = [some (.int p), some (.ref a), x]) ⟨rfl, fun _ _ h => absurd h (Nat.not_lt_zero _), none, rfl⟩ (fun i σ H' _ h => by rw [h.1]; exact SqL.of hL) ?_ (fun σ H' h => ?_)⟩
  · rintro i x σ H' hx ⟨rfl, hall, y, rfl⟩
    have hm := List.mem_of_getElem? hx
    have next : ¬ BadIt p H' x → ∀ j y, j < i + 1 → xs[j]? = some y → ¬ BadIt p H' y := fun hb j y hj e => by
      by_cases hj' : j < i
      · exact hall j y hj' e
      · have : j = i := by omega
        subst this
        rw [hx] at e
        cases e
        exact hb
    rcases hi x hm with ⟨n, rfl⟩ | hn
    · refine ⟨_, rfl, _, rfl, p, _, rfl, .inl ⟨n, rfl, _, rfl, ?_⟩⟩
      cases e : (decide (0 ≤ n) && decide (n < p)) with
      | true =>
        have e' := Bool.and_eq_true_iff.mp e
        exact iteF ⟨rfl, next fun z => by
          rcases z with z | ⟨i, e2, hb⟩
          · cases z
          · injection e2 with e2
            subst e2
            exact hb ⟨of_decide_eq_true e'.1, of_decide_eq_true e'.2⟩, _, rfl⟩
      | false =>
        refine iteT (qF ⟨_, hm, .inr ⟨n, rfl, fun z => ?_⟩⟩)
        rw [decide_eq_true z.1, decide_eq_true z.2] at e
        cases e
    · exact ⟨_, rfl, _, rfl, p, _, rfl, .inr ⟨hn, false, rfl, iteT (qF ⟨_, hm, .inl hn⟩)⟩⟩
  · obtain ⟨rfl, hall, _⟩ := h
    refine qT fun x hx => ?_
    obtain ⟨j, hj, e⟩ := List.getElem_of_mem hx
    exact hall j x hj (by rw [List.getElem?_eq_getElem hj, e])
/-! ### the checks -/
theorem ok_needPrimeX (D : Def K mg "need_prime" sNeedPrime ["prime"] f fd) (DP : Def K mg "is_prime" sPrime ["value"] g gd) (GP : FnOk P w K mg base CX0 2 g gd ["value"] spPrimeV) (hc : XC K C bm) (mC : mg "BadPrime" = some (.ref C)) : FnOk P w K mg base (CX1 P w) 3 f fd ["prime"] (spNeedPrimeX C) := by
  refine D.F.ok1 scNeedPrime (fun vs H Q E h => ?_) (fun cdv A outer s H vs Q E hr h => ?_)
  · obtain ⟨p, rfl, _⟩ := h
    rfl
  refine ⟨_, pss_one (ps_if (pt_not (pt_val (pcall DP GP hr (pa_cons (pv 0) pa_nil)))) (pss_one (ps_raise hc mC lands1 (pa_cons pe_str pa_nil))) pss_nil), ?_⟩
  obtain ⟨v, rfl, ⟨p, rfl, hp, q⟩ | ⟨hn, q⟩⟩ := h
  · exact ⟨_, rfl, _, rfl, .inl ⟨p, rfl, hp, true, rfl, iteF q⟩⟩
  · exact ⟨_, rfl, _, rfl, .inr ⟨hn, false, rfl, iteT ⟨(by show 1 ≤ sizeLine; decide), q⟩⟩⟩
theorem ok_needRuleX (D : Def K mg "need_rule" sNeedRule ["prime", "rule"] f fd) (DP : Def K mg "are_rests" sAre ["prime", "value"] g gd) (GP : FnOk P w K mg base CX0 3 g gd ["prime", "value"] spAreV) (hc : XC K C bm) (mC : mg "BadRule" = some (.ref C)) : FnOk P w K mg base (CX1 P w) 4 f fd ["prime", "rule"] (spNeedX C) := by
  refine D.F.ok1 scNeedRule (fun vs H Q E h => ?_) (fun cdv A outer s H vs Q E hr h => ?_)
  · obtain ⟨p, v, rfl, _⟩ := h
    rfl
  refine ⟨_, pss_one (ps_if (pt_not (pt_val (pcall DP GP hr (pa_cons (pv 0) (pa_cons (pv 1) pa_nil))))) (pss_one (ps_raise hc mC lands1 (pa_cons pe_str pa_nil))) pss_nil), ?_⟩
  obtain ⟨p, v, rfl, ⟨a, ns, rfl, hL, hR, q⟩ | ⟨hn, q⟩⟩ := h
  · exact ⟨_, rfl, _, rfl, p, _, rfl, .inl ⟨a, ns, rfl, hL, hR, true, rfl, iteF q⟩⟩
  · exact ⟨_, rfl, _, rfl, p, _, rfl, .inr ⟨hn, false, rfl, iteT ⟨(by show 1 ≤ sizeLine; decide), q⟩⟩⟩
theorem ok_needRowX (D : Def K mg "need_row" sNeedRow ["prime", "row"] f fd) (DP : Def K mg "are_rests" sAre ["prime", "value"] g gd) (GP : FnOk P w K mg base CX0 3 g gd ["prime", "value"] spAreV) (hc : XC K C bm) (mC : mg "BadRow" = some (.ref C)) : FnOk P w K mg base (CX1 P w) 4 f fd ["prime", "row"] (spNeedX C) := by
  refine D.F.ok1 scNeedRow (fun vs H Q E h => ?_) (fun cdv A outer s H vs Q E hr h => ?_)
  · obtain ⟨p, v, rfl, _⟩ := h
    rfl
  refine ⟨_, pss_one (ps_if (pt_not (pt_val (pcall DP GP hr (pa_cons (pv 0) (pa_cons (pv 1) pa_nil))))) (pss_one (ps_raise hc mC lands1 (pa_cons pe_str pa_nil))) pss_nil), ?_⟩
  obtain ⟨p, v, rfl, ⟨a, ns, rfl, hL, hR, q⟩ | ⟨hn, q⟩⟩ := h
  · exact ⟨_, rfl, _, rfl, p, _, rfl, .inl ⟨a, ns, rfl, hL, hR, true, rfl, iteF q⟩⟩
  · exact ⟨_, rfl, _, rfl, p, _, rfl, .inr ⟨hn, false, rfl, iteT ⟨(by show 1 ≤ sizeLine; decide), q⟩⟩⟩
theorem ok_countX (D : Def K mg "need_count" sCount ["value"] f fd) (DW : Def K mg "is_whole" sWhole ["value"] g gd) (GW : FnOk P w K mg base CX0 1 g gd ["value"] spWholeV) (hc : XC K C bm) (mC : mg "BadPlace" = some (.ref C)) : FnOk P w K mg base (CX1 P w) 2 f fd ["value"] (spCountX C) := by
  refine D.F.ok1 scCount (fun vs H Q E h => ?_) (fun cdv A outer s H vs Q E hr h => ?_)
  · obtain ⟨i, rfl, _⟩ := h
    rfl
  refine ⟨_, pss_one (ps_if (pw_or (pt_not (pt_val (pcall DW GW hr (pa_cons (pv 0) pa_nil)))) (pw_or1 (pt_cmpR op_lt (pv 0) pint (nomark _)))).pt (pss_one (ps_raise hc mC lands1 (pa_cons pe_str pa_nil))) pss_nil), ?_⟩
  obtain ⟨v, rfl, hn | ⟨i, rfl, hi⟩, q⟩ := h
  · exact ⟨_, rfl, .inr ⟨v, rfl, hn, false, rfl, iteT ⟨(by show 1 ≤ sizeLine; decide), q⟩⟩⟩
  · refine ⟨_, rfl, .inl ⟨i, rfl, true, rfl, iteF ?_⟩⟩
    exact ⟨_, rfl, _, _, rfl, rfl, _, rfl, iteTd hi ⟨(by show 1 ≤ sizeLine; decide), q⟩⟩
end
end Rr

set_option Elab.async false
set_option linter.all false
set_option maxRecDepth 100000
set_option maxHeartbeats 800000
namespace Rr
open PySem L2 RM
section
variable {X : Cx} {x : Str} {st : Stmt} {ps : List Str} {f : Addr} {fd : FuncData} {j k : Nat} {sp : Sp} {e : Expr} {es : List Expr} {t : TA} {p pos : Pos} {E : XK}
/-- a call that may raise -/
theorem pcallX (D : Def X.K X.mg x st ps f fd) (G : FnOk X.prog X.w X.K X.mg X.base (CX1 X.prog X.w) j f fd ps sp) (hr : Room k X.A) (hx : Passes (CX1 X.prog X.w) X E) (ha : PA X (e :: es) t) (hj : j ≤ k := by decide) (hg : Gl X x := by rfl) (hdb : (x == ("__debug__" : Str)) = false := by decide)
    (he : starEach (e :: es) X.env = (false, eval e X.env) :: starEach es X.env := by rfl) (hpl : (backTo pos (starEach es X.env)).any (·.1) = false := by rfl) :
    PE X (.Call (.Name x p) (e :: es) [] pos) (tCall sp [] E t) := pe_call (G.mono hj) hr hg D.m D.F.kp D.b .nil hx ha hdb he hpl
end
/-- the checks ahead, with what they refuse -/
structure NeedsX (P : Program) (w : World) (K : PySem.W.Frag) (mg : Str → Option Value) (base : Heap) (f1 f2 f3 f4 : Addr) (d1 d2 d3 d4 : FuncData) (cP cU cW cL : Addr) : Prop where
  D1 : Def K mg "need_prime" sNeedPrime ["prime"] f1 d1
  G1 : FnOk P w K mg base (CX1 P w) 3 f1 d1 ["prime"] (spNeedPrimeX cP)
  D2 : Def K mg "need_rule" sNeedRule ["prime", "rule"] f2 d2
  G2 : FnOk P w K mg base (CX1 P w) 4 f2 d2 ["prime", "rule"] (spNeedX cU)
  D3 : Def K mg "need_row" sNeedRow ["prime", "row"] f3 d3
  G3 : FnOk P w K mg base (CX1 P w) 4 f3 d3 ["prime", "row"] (spNeedX cW)
  D4 : Def K mg "need_count" sCount ["value"] f4 d4
  G4 : FnOk P w K mg base (CX1 P w) 2 f4 d4 ["value"] (spCountX cL)
/-- a prime, and what is asked behind it -/
def First (H : Hp) (v : V) (no : Prop) (yes : Int → Prop) : Prop := (NotP H v ∧ no) ∨ ∃ p : Int, v = .int p ∧ PrimeOk p ∧ yes p
/-- a list of rests, and what is asked behind it -/
def Then (p : Int) (H : Hp) (v : V) (no : Prop) (yes : Addr → List Int → Prop) : Prop := (NotR p H v ∧ no) ∨ ∃ (a : Addr) (ns : List Int), v = .ref a ∧ Ls H a ns ∧ Rests p ns ∧ yes a ns
def spMakesX (cP cU cW : Addr) : Sp := fun vs H Q E => ∃ v1 v2 v3, vs = [v1, v2, v3] ∧ First H v1 (E (.ref cP) none H) fun p => Then p H v2 (E (.ref cU) none H) fun _ _ => Then p H v3 (E (.ref cW) none H) fun _ _ => False
def spStartX (cP cU cW cF : Addr) : Sp := fun vs H Q E => ∃ v1 v2 v3, vs = [v1, v2, v3] ∧ First H v1 (E (.ref cP) none H) fun p => Then p H v2 (E (.ref cU) none H) fun _ rule => Then p H v3 (E (.ref cW) none H) fun _ row => (row.length < rule.length → E (.ref cF) none H) ∧ (rule.length ≤ row.length → Q .non H)
def spGoX (cP cU cW cF cL : Addr) : Sp := fun vs H Q E => ∃ v1 v2 v3 v4, vs = [v1, v2, v3, v4] ∧ First H v1 (E (.ref cP) none H) fun p => Then p H v2 (E (.ref cU) none H) fun _ rule => Then p H v3 (E (.ref cW) none H) fun _ row => (row.length < rule.length → E (.ref cF) none H) ∧ (rule.length ≤ row.length → NotC H v4 ∧ E (.ref cL) none H)
def spBothX (cP cU : Addr) : Sp := fun vs H Q E => ∃ v1 v2 v3, vs = [v1, v2, v3] ∧ First H v1 (E (.ref cP) none H) fun p => Then p H v2 (E (.ref cU) none H) fun _ _ => Then p H v3 (E (.ref cU) none H) fun _ _ => False
def spTwoX (cP C : Addr) : Sp := fun vs H Q E => ∃ v1 v2, vs = [v1, v2] ∧ First H v1 (E (.ref cP) none H) fun p => Then p H v2 (E (.ref C) none H) fun _ _ => False
section
variable {P : Program} {w : World} {K : PySem.W.Frag} {mg : Str → Option Value} {base : Heap} {f g g1 g2 g3 g4 : Addr} {fd gd gd1 gd2 gd3 gd4 : FuncData} {cP cU cW cL cF : Addr} {bm : List Value}
theorem ok_makesX (D : Def K mg "makes" sMakes ["prime", "rule", "row"] f fd) (N : NeedsX P w K mg base g1 g2 g3 g4 gd1 gd2 gd3 gd4 cP cU cW cL) : FnOk P w K mg base (CX1 P w) 5 f fd ["prime", "rule", "row"] (spMakesX cP cU cW) := by
  refine D.F.ok1 scMakes (fun vs H Q E h => ?_) (fun cdv A outer s H vs Q E hr h => ?_)
  · obtain ⟨_, _, _, rfl, _⟩ := h
    rfl
  refine ⟨_, pss_cons (ps_expr (pcallX N.D1 N.G1 hr pass1 (pa_cons (pv 0) pa_nil))) (pss_cons (ps_expr (pcallX N.D2 N.G2 hr pass1 (pa_cons (pv 0) (pa_cons (pv 1) pa_nil)))) (pss_stop (ps_expr (pcallX N.D3 N.G3 hr pass1 (pa_cons (pv 0) (pa_cons (pv 2) pa_nil)))))), ?_⟩
  obtain ⟨v1, v2, v3, rfl, ⟨h1, q⟩ | ⟨p, rfl, hp, ⟨h2, q⟩ | ⟨a, rule, rfl, hL, hR, ⟨h3, q⟩ | ⟨_, _, _, _, _, z⟩⟩⟩⟩ := h
  · exact ⟨_, rfl, _, rfl, .inr ⟨h1, q⟩⟩
  · refine ⟨_, rfl, _, rfl, .inl ⟨p, rfl, hp, ?_⟩⟩
    exact ⟨_, rfl, _, rfl, p, _, rfl, .inr ⟨h2, q⟩⟩
  · refine ⟨_, rfl, _, rfl, .inl ⟨p, rfl, hp, ?_⟩⟩
    refine ⟨_, rfl, _, rfl, p, _, rfl, .inl ⟨a, rule, rfl, hL, hR, ?_⟩⟩
    exact ⟨_, rfl, _, rfl, p, _, rfl, .inr ⟨h3, q⟩⟩
  · exact z.elim
theorem ok_startX (D : Def K mg "need_start" sStart ["prime", "rule", "row"] f fd) (o : Own mg) (N : NeedsX P w K mg base g1 g2 g3 g4 gd1 gd2 gd3 gd4 cP cU cW cL) (hc : XC K cF bm) (mC : mg "TooFew" = some (.ref cF)) : FnOk P w K mg base (CX1 P w) 5 f fd ["prime", "rule", "row"] (spStartX cP cU cW cF) := by
  refine D.F.ok1 scStart (fun vs H Q E h => ?_) (fun cdv A outer s H vs Q E hr h => ?_)
  · obtain ⟨_, _, _, rfl, _⟩ := h
    rfl
  refine ⟨_, pss_cons (ps_expr (pcallX N.D1 N.G1 hr pass1 (pa_cons (pv 0) pa_nil))) (pss_cons (ps_expr (pcallX N.D2 N.G2 hr pass1 (pa_cons (pv 0) (pa_cons (pv 1) pa_nil)))) (pss_cons (ps_expr (pcallX N.D3 N.G3 hr pass1 (pa_cons (pv 0) (pa_cons (pv 2) pa_nil))))
    (pss_one (ps_if (pt_cmpR op_gt (plen o (pv 1)) (plen o (pv 2)) (nomark _)) (pss_one (ps_raise hc mC lands1 (pa_cons pe_str pa_nil))) pss_nil)))), ?_⟩
  obtain ⟨v1, v2, v3, rfl, ⟨h1, q⟩ | ⟨p, rfl, hp, ⟨h2, q⟩ | ⟨a, rule, rfl, hL, hR, ⟨h3, q⟩ | ⟨b, row, rfl, hL2, hR2, qF, qT⟩⟩⟩⟩ := h
  · exact ⟨_, rfl, _, rfl, .inr ⟨h1, q⟩⟩
  · refine ⟨_, rfl, _, rfl, .inl ⟨p, rfl, hp, ?_⟩⟩
    exact ⟨_, rfl, _, rfl, p, _, rfl, .inr ⟨h2, q⟩⟩
  · refine ⟨_, rfl, _, rfl, .inl ⟨p, rfl, hp, ?_⟩⟩
    refine ⟨_, rfl, _, rfl, p, _, rfl, .inl ⟨a, rule, rfl, hL, hR, ?_⟩⟩
    exact ⟨_, rfl, _, rfl, p, _, rfl, .inr ⟨h3, q⟩⟩
  · refine ⟨_, rfl, _, rfl, .inl ⟨p, rfl, hp, ?_⟩⟩
    refine ⟨_, rfl, _, rfl, p, _, rfl, .inl ⟨a, rule, rfl, hL, hR, ?_⟩⟩
    refine ⟨_, rfl, _, rfl, p, _, rfl, .inl ⟨b, row, rfl, hL2, hR2, ?_⟩⟩
    refine ⟨_, rfl, a, _, rfl, .inl hL.sq, _, rfl, b, _, rfl, .inl hL2.sq, _, _, rfl, rfl, _, rfl, ?_⟩
    rw [List.length_map, List.length_map]
    by_cases hl : row.length < rule.length
    · exact iteTd (by omega) ⟨(by show 1 ≤ sizeLine; decide), qF hl⟩
    · exact iteFd (by omega) (qT (by omega))
theorem go_reads {v1 v2 v3 : V} {H : Hp} {E : XK} {R R' : Prop}
    (h : First H v1 (E (.ref cP) none H) fun p => Then p H v2 (E (.ref cU) none H) fun _ rule => Then p H v3 (E (.ref cW) none H) fun _ row => (row.length < rule.length → E (.ref cF) none H) ∧ (rule.length ≤ row.length → R))
    (k : R → R') : First H v1 (E (.ref cP) none H) fun p => Then p H v2 (E (.ref cU) none H) fun _ rule => Then p H v3 (E (.ref cW) none H) fun _ row => (row.length < rule.length → E (.ref cF) none H) ∧ (rule.length ≤ row.length → R') :=
  h.imp id fun ⟨p, e, hp, h⟩ => ⟨p, e, hp, h.imp id fun ⟨a, ns, e, h1, h2, h⟩ => ⟨a, ns, e, h1, h2, h.imp id fun ⟨b, ms, e, h1, h2, x, y⟩ => ⟨b, ms, e, h1, h2, x, fun z => k (y z)⟩⟩⟩
theorem ok_goOnX (D : Def K mg "go_on" sGoOn ["prime", "rule", "row", "many"] f fd) (N : NeedsX P w K mg base g1 g2 g3 g4 gd1 gd2 gd3 gd4 cP cU cW cL) (DS : Def K mg "need_start" sStart ["prime", "rule", "row"] g gd) (GS : FnOk P w K mg base (CX1 P w) 5 g gd ["prime", "rule", "row"] (spStartX cP cU cW cF)) :
    FnOk P w K mg base (CX1 P w) 6 f fd ["prime", "rule", "row", "many"] (spGoX cP cU cW cF cL) := by
  refine D.F.ok1 scGoOn (fun vs H Q E h => ?_) (fun cdv A outer s H vs Q E hr h => ?_)
  · obtain ⟨_, _, _, _, rfl, _⟩ := h
    rfl
  refine ⟨_, pss_cons (ps_expr (pcallX DS GS hr pass1 (pa_cons (pv 0) (pa_cons (pv 1) (pa_cons (pv 2) pa_nil))))) (pss_stop (ps_expr (pcallX N.D4 N.G4 hr pass1 (pa_cons (pv 3) pa_nil)))), ?_⟩
  obtain ⟨v1, v2, v3, v4, rfl, h⟩ := h
  refine ⟨_, rfl, _, rfl, _, rfl, ?_⟩
  refine ⟨v1, v2, v3, rfl, go_reads h fun z => ?_⟩
  exact ⟨_, rfl, v4, rfl, z.1, z.2⟩
theorem scFarX : FnScope ["prime", "rule", "row", "place", "skipped"] ["prime", "rule", "row", "place"] (defScope sFar) := ⟨rfl, rfl, rfl, by decide +kernel, rfl, by decide +kernel, by decide +kernel⟩
theorem ok_farX (D : Def K mg "far" sFar ["prime", "rule", "row", "place"] f fd) (N : NeedsX P w K mg base g1 g2 g3 g4 gd1 gd2 gd3 gd4 cP cU cW cL) (DS : Def K mg "need_start" sStart ["prime", "rule", "row"] g gd) (GS : FnOk P w K mg base (CX1 P w) 5 g gd ["prime", "rule", "row"] (spStartX cP cU cW cF)) :
    FnOk P w K mg base (CX1 P w) 6 f fd ["prime", "rule", "row", "place"] (spGoX cP cU cW cF cL) := by
  refine D.F.ok1 scFarX (fun vs H Q E h => ?_) (fun cdv A outer s H vs Q E hr h => ?_)
  · obtain ⟨_, _, _, _, rfl, _⟩ := h
    rfl
  refine ⟨_, pss_cons (ps_expr (pcallX DS GS hr pass1 (pa_cons (pv 0) (pa_cons (pv 1) (pa_cons (pv 2) pa_nil))))) (pss_stop (ps_expr (pcallX N.D4 N.G4 hr pass1 (pa_cons (pv 3) pa_nil)))), ?_⟩
  obtain ⟨v1, v2, v3, v4, rfl, h⟩ := h
  refine ⟨_, rfl, _, rfl, _, rfl, ?_⟩
  refine ⟨v1, v2, v3, rfl, go_reads h fun z => ?_⟩
  exact ⟨_, rfl, v4, rfl, z.1, z.2⟩
theorem ok_bothX (D : Def K mg "both" sBoth ["prime", "one", "other"] f fd) (N : NeedsX P w K mg base g1 g2 g3 g4 gd1 gd2 gd3 gd4 cP cU cW cL) : FnOk P w K mg base (CX1 P w) 5 f fd ["prime", "one", "other"] (spBothX cP cU) := by
  refine D.F.ok1 scBoth (fun vs H Q E h => ?_) (fun cdv A outer s H vs Q E hr h => ?_)
  · obtain ⟨_, _, _, rfl, _⟩ := h
    rfl
  refine ⟨_, pss_cons (ps_expr (pcallX N.D1 N.G1 hr pass1 (pa_cons (pv 0) pa_nil))) (pss_cons (ps_expr (pcallX N.D2 N.G2 hr pass1 (pa_cons (pv 0) (pa_cons (pv 1) pa_nil)))) (pss_stop (ps_expr (pcallX N.D2 N.G2 hr pass1 (pa_cons (pv 0) (pa_cons (pv 2) pa_nil)))))), ?_⟩
  obtain ⟨v1, v2, v3, rfl, ⟨h1, q⟩ | ⟨p, rfl, hp, ⟨h2, q⟩ | ⟨a, rule, rfl, hL, hR, ⟨h3, q⟩ | ⟨_, _, _, _, _, z⟩⟩⟩⟩ := h
  · exact ⟨_, rfl, _, rfl, .inr ⟨h1, q⟩⟩
  · refine ⟨_, rfl, _, rfl, .inl ⟨p, rfl, hp, ?_⟩⟩
    exact ⟨_, rfl, _, rfl, p, _, rfl, .inr ⟨h2, q⟩⟩
  · refine ⟨_, rfl, _, rfl, .inl ⟨p, rfl, hp, ?_⟩⟩
    refine ⟨_, rfl, _, rfl, p, _, rfl, .inl ⟨a, rule, rfl, hL, hR, ?_⟩⟩
    exact ⟨_, rfl, _, rfl, p, _, rfl, .inr ⟨h3, q⟩⟩
  · exact z.elim
theorem ok_backX (D : Def K mg "backwards" sBack ["prime", "rule"] f fd) (N : NeedsX P w K mg base g1 g2 g3 g4 gd1 gd2 gd3 gd4 cP cU cW cL) : FnOk P w K mg base (CX1 P w) 5 f fd ["prime", "rule"] (spTwoX cP cU) := by
  refine D.F.ok1 scBack (fun vs H Q E h => ?_) (fun cdv A outer s H vs Q E hr h => ?_)
  · obtain ⟨_, _, rfl, _⟩ := h
    rfl
  refine ⟨_, pss_cons (ps_expr (pcallX N.D1 N.G1 hr pass1 (pa_cons (pv 0) pa_nil))) (pss_stop (ps_expr (pcallX N.D2 N.G2 hr pass1 (pa_cons (pv 0) (pa_cons (pv 1) pa_nil))))), ?_⟩
  obtain ⟨v1, v2, rfl, ⟨h1, q⟩ | ⟨p, rfl, hp, ⟨h2, q⟩ | ⟨_, _, _, _, _, z⟩⟩⟩ := h
  · exact ⟨_, rfl, _, rfl, .inr ⟨h1, q⟩⟩
  · refine ⟨_, rfl, _, rfl, .inl ⟨p, rfl, hp, ?_⟩⟩
    exact ⟨_, rfl, _, rfl, p, _, rfl, .inr ⟨h2, q⟩⟩
  · exact z.elim
theorem scLeast : FnScope ["prime", "row", "rule", "shorter", "place", "miss", "here", "number", "lack", "share", "mended"] ["prime", "row"] (defScope sLeast) := ⟨rfl, rfl, rfl, by decide +kernel, rfl, by decide +kernel, by decide +kernel⟩
theorem ok_leastX (D : Def K mg "least" sLeast ["prime", "row"] f fd) (N : NeedsX P w K mg base g1 g2 g3 g4 gd1 gd2 gd3 gd4 cP cU cW cL) : FnOk P w K mg base (CX1 P w) 5 f fd ["prime", "row"] (spTwoX cP cW) := by
  refine D.F.ok1 scLeast (fun vs H Q E h => ?_) (fun cdv A outer s H vs Q E hr h => ?_)
  · obtain ⟨_, _, rfl, _⟩ := h
    rfl
  refine ⟨_, pss_cons (ps_expr (pcallX N.D1 N.G1 hr pass1 (pa_cons (pv 0) pa_nil))) (pss_stop (ps_expr (pcallX N.D3 N.G3 hr pass1 (pa_cons (pv 0) (pa_cons (pv 1) pa_nil))))), ?_⟩
  obtain ⟨v1, v2, rfl, ⟨h1, q⟩ | ⟨p, rfl, hp, ⟨h2, q⟩ | ⟨_, _, _, _, _, z⟩⟩⟩ := h
  · exact ⟨_, rfl, _, rfl, .inr ⟨h1, q⟩⟩
  · refine ⟨_, rfl, _, rfl, .inl ⟨p, rfl, hp, ?_⟩⟩
    exact ⟨_, rfl, _, rfl, p, _, rfl, .inr ⟨h2, q⟩⟩
  · exact z.elim
theorem scUnlike : FnScope ["prime", "row", "found", "shift", "other"] ["prime", "row"] (defScope sUnlike) := ⟨rfl, rfl, rfl, by decide +kernel, rfl, by decide +kernel, by decide +kernel⟩
theorem ok_unlikeX (D : Def K mg "unlike" sUnlike ["prime", "row"] f fd) (DL : Def K mg "least" sLeast ["prime", "row"] g gd) (GL : FnOk P w K mg base (CX1 P w) 5 g gd ["prime", "row"] (spTwoX cP cW)) : FnOk P w K mg base (CX1 P w) 6 f fd ["prime", "row"] (spTwoX cP cW) := by
  refine D.F.ok1 scUnlike (fun vs H Q E h => ?_) (fun cdv A outer s H vs Q E hr h => ?_)
  · obtain ⟨_, _, rfl, _⟩ := h
    rfl
  refine ⟨_, pss_stop (ps_set (i := 2) scUnlike.nd rfl (Or.inl rfl) (pcallX DL GL hr pass1 (pa_cons (pv 0) (pa_cons (pv 1) pa_nil)))), ?_⟩
  obtain ⟨v1, v2, rfl, h⟩ := h
  exact ⟨_, rfl, _, rfl, v1, v2, rfl, h⟩
theorem scWritten : FnScope ["prime", "row"] ["prime", "row"] (defScope sWritten) := ⟨rfl, rfl, rfl, by decide +kernel, rfl, by decide +kernel, by decide +kernel⟩
theorem ok_writtenX (D : Def K mg "written" sWritten ["prime", "row"] f fd) (N : NeedsX P w K mg base g1 g2 g3 g4 gd1 gd2 gd3 gd4 cP cU cW cL) : FnOk P w K mg base (CX1 P w) 5 f fd ["prime", "row"] (spTwoX cP cW) := by
  refine D.F.ok1 scWritten (fun vs H Q E h => ?_) (fun cdv A outer s H vs Q E hr h => ?_)
  · obtain ⟨_, _, rfl, _⟩ := h
    rfl
  refine ⟨_, pss_cons (ps_expr (pcallX N.D1 N.G1 hr pass1 (pa_cons (pv 0) pa_nil))) (pss_stop (ps_expr (pcallX N.D3 N.G3 hr pass1 (pa_cons (pv 0) (pa_cons (pv 1) pa_nil))))), ?_⟩
  obtain ⟨v1, v2, rfl, ⟨h1, q⟩ | ⟨p, rfl, hp, ⟨h2, q⟩ | ⟨_, _, _, _, _, z⟩⟩⟩ := h
  · exact ⟨_, rfl, _, rfl, .inr ⟨h1, q⟩⟩
  · refine ⟨_, rfl, _, rfl, .inl ⟨p, rfl, hp, ?_⟩⟩
    exact ⟨_, rfl, _, rfl, p, _, rfl, .inr ⟨h2, q⟩⟩
  · exact z.elim
end
end Rr

set_option Elab.async false
set_option linter.all false
set_option maxRecDepth 100000
set_option maxHeartbeats 800000
namespace L2
open PySem PySem.Spec PyProof.Rows
/-- the rule for a def that may be called while an exception is handled -/
theorem Fun.okH {P : Program} {w : World} {K : PySem.W.Frag} {mg : Str → Option Value} {base : Heap} {x qual : Str} {st : Stmt} {f : Addr} {fd : FuncData} {N ps : List Str} {k : Nat} {sp : Sp} (F : Fun K x qual st f fd) (S : FnScope N ps (defScope st)) (len : ∀ vs H Q E, sp vs H Q E → vs.length = ps.length)
    (hbody : ∀ (cdv : Value) (A : Around) (outer : List Env) (s : Shared) (H : Hp) (vs : List V) (Q : VK) (E : XK), RoomH k (A.deeper (envOfC qual (defScope st) s.heap.objs.size f cdv)) → sp vs H Q E →
      ∃ t, PSs (cxH P w K mg base N qual (defScope st) f cdv A outer s H E) (defBody st) t ∧ t { nx := fun _ H' => Q .non H', rt := Q } (start N vs) H) : FnH P w K mg base (k + 1) f fd ps sp := by
  obtain ⟨oc, od, kV, doc, pm, an, cdv, ct, osl, rfl, lk, hcd⟩ := F.ex
  exact fnH_of lk hcd S len fun A outer s H vs Q E hr hsp => hbody cdv A outer s H vs Q E hr hsp
theorem eqBsK {X : Cx} {K : PySem.W.Frag} (h : X.K = K) (hu : X.A.units + 64 < cLine) : OpR X (compareOp .Eq) (fun x y H Q => ∃ (a b : Addr) (ns ms : List Bool), x = .ref a ∧ y = .ref b ∧ SqL K H a (ns.map V.bl) ∧ SqL K H b (ms.map V.bl) ∧ Q (.bl (decide (ns = ms))) H) := h ▸ op_eqBs hu
end L2
namespace Rr
open PySem L2 RM
/-! ### the doors -/
structure Doors (P : Program) (w : World) (K : PySem.W.Frag) (mg : Str → Option Value) (base : Heap) (f : Nat → Addr) (d : Nat → FuncData) (cP cU cW cF cL : Addr) : Prop where
  D1 : Def K mg "makes" sMakes ["prime", "rule", "row"] (f 1) (d 1)
  G1 : FnOk P w K mg base (CX1 P w) 5 (f 1) (d 1) ["prime", "rule", "row"] (spMakesX cP cU cW)
  D2 : Def K mg "go_on" sGoOn ["prime", "rule", "row", "many"] (f 2) (d 2)
  G2 : FnOk P w K mg base (CX1 P w) 6 (f 2) (d 2) ["prime", "rule", "row", "many"] (spGoX cP cU cW cF cL)
  D3 : Def K mg "far" sFar ["prime", "rule", "row", "place"] (f 3) (d 3)
  G3 : FnOk P w K mg base (CX1 P w) 6 (f 3) (d 3) ["prime", "rule", "row", "place"] (spGoX cP cU cW cF cL)
  D4 : Def K mg "both" sBoth ["prime", "one", "other"] (f 4) (d 4)
  G4 : FnOk P w K mg base (CX1 P w) 5 (f 4) (d 4) ["prime", "one", "other"] (spBothX cP cU)
  D5 : Def K mg "backwards" sBack ["prime", "rule"] (f 5) (d 5)
  G5 : FnOk P w K mg base (CX1 P w) 5 (f 5) (d 5) ["prime", "rule"] (spTwoX cP cU)
  D6 : Def K mg "least" sLeast ["prime", "row"] (f 6) (d 6)
  G6 : FnOk P w K mg base (CX1 P w) 5 (f 6) (d 6) ["prime", "row"] (spTwoX cP cW)
  D7 : Def K mg "unlike" sUnlike ["prime", "row"] (f 7) (d 7)
  G7 : FnOk P w K mg base (CX1 P w) 6 (f 7) (d 7) ["prime", "row"] (spTwoX cP cW)
  D8 : Def K mg "written" sWritten ["prime", "row"] (f 8) (d 8)
  G8 : FnOk P w K mg base (CX1 P w) 5 (f 8) (d 8) ["prime", "row"] (spTwoX cP cW)
theorem ok5 : PrimeOk 5 := ones_of (by omega)
def spWPrime (C : Addr) : Sp := fun vs H Q E => ∃ (n : Nat) (v : V), vs = [.int n, v] ∧ n < 8 ∧ NotP H v ∧ ∀ H', Same H H' → E (.ref C) none H'
def spMore (C : Addr) : Sp := fun vs H Q E => ∃ (n : Nat) (v : V), vs = [.int n, v] ∧ NotP H v ∧ E (.ref C) none H
def spWRule (C : Addr) : Sp := fun vs H Q E => ∃ (n : Nat) (v : V), vs = [.int n, v] ∧ n < 6 ∧ NotR 5 H v ∧ ∀ H', Same H H' → E (.ref C) none H'
def spWFew (C : Addr) : Sp := fun vs H Q E => ∃ (n : Nat) (a : Addr) (ns : List Int), vs = [.int n, .ref a] ∧ n < 2 ∧ Ls H a ns ∧ Rests 5 ns ∧ ns.length < 3 ∧ ∀ H', Same H H' → E (.ref C) none H'
def spWPlace (C : Addr) : Sp := fun vs H Q E => ∃ (n : Nat) (v : V), vs = [.int n, v] ∧ n < 2 ∧ NotC H v ∧ ∀ H', Same H H' → E (.ref C) none H'
theorem NotC.same {H H' : Hp} {v : V} (h : NotC H v) (s : Same H H') : NotC H' v := h.imp (·.same s) id
theorem new_ls {H : Hp} {l : Addr} {ns : List Int} : Ls (upd H l (.lst (ns.map V.int))) l ns := upd_same
theorem r5 {ns : List Int} (h : (ns.all fun n => decide (0 ≤ n) && decide (n < 5)) = true) : Rests 5 ns := fun x hx => by
  have := Bool.and_eq_true_iff.mp (List.all_eq_true.mp h x hx)
  exact ⟨of_decide_eq_true this.1, of_decide_eq_true this.2⟩
section
variable {P : Program} {w : World} {K : PySem.W.Frag} {mg : Str → Option Value} {base : Heap} {f : Nat → Addr} {d : Nat → FuncData} {g e : Addr} {gd ed : FuncData} {cP cU cW cF cL : Addr}
theorem scMore : FnScope ["_law_door", "_law_prime_here"] ["_law_door", "_law_prime_here"] (defScope lMore) := ⟨rfl, rfl, rfl, by decide +kernel, rfl, by decide +kernel, by decide +kernel⟩
theorem ok_more (D : Def K mg "_law_more" lMore ["_law_door", "_law_prime_here"] e ed) (Z : Doors P w K mg base f d cP cU cW cF cL) : FnOk P w K mg base (CX1 P w) 7 e ed ["_law_door", "_law_prime_here"] (spMore cP) := by
  refine D.F.ok1 scMore (fun vs H Q E h => ?_) (fun cdv A outer s H vs Q E hr h => ?_)
  · obtain ⟨_, _, rfl, _⟩ := h
    rfl
  refine ⟨_, pss_one (ps_ret (pe_ifExp (pt_cmpR op_eq (pv 0) pint (nomark _)) (pcallX Z.D3 Z.G3 hr pass1 (pa_cons (pv 1) (pa_cons pe_non (pa_cons pe_non (pa_cons pe_non pa_nil))))) (pcallX Z.D4 Z.G4 hr pass1 (pa_cons (pv 1) (pa_cons pe_non (pa_cons pe_non pa_nil)))))), ?_⟩
  obtain ⟨n, v, rfl, hv, q⟩ := h
  refine ⟨_, rfl, rfl, _, rfl, ?_⟩
  by_cases hn : V.int (n : Int) = V.int 2
  · exact iteTd hn ⟨_, rfl, _, _, _, _, rfl, .inl ⟨hv, q⟩⟩
  · exact iteFd hn ⟨_, rfl, _, _, _, rfl, .inl ⟨hv, q⟩⟩
theorem scWPrime : FnScope ["_law_door", "_law_prime_here"] ["_law_door", "_law_prime_here"] (defScope lWPrime) := ⟨rfl, rfl, rfl, by decide +kernel, rfl, by decide +kernel, by decide +kernel⟩
theorem ok_wprime (D : Def K mg "_law_with_prime" lWPrime ["_law_door", "_law_prime_here"] e ed) (Z : Doors P w K mg base f d cP cU cW cF cL) (DM : Def K mg "_law_more" lMore ["_law_door", "_law_prime_here"] g gd) (GM : FnOk P w K mg base (CX1 P w) 7 g gd ["_law_door", "_law_prime_here"] (spMore cP)) :
    FnOk P w K mg base (CX1 P w) 8 e ed ["_law_door", "_law_prime_here"] (spWPrime cP) := by
  refine D.F.ok1 scWPrime (fun vs H Q E h => ?_) (fun cdv A outer s H vs Q E hr h => ?_)
  · obtain ⟨_, _, rfl, _⟩ := h
    rfl
  refine ⟨_, pss_cons (ps_if (pt_cmpR op_lt (pv 0) pint (nomark _)) (pss_one (ps_ret (pe_ifExp (pt_cmpR op_eq (pv 0) pint (nomark _)) (pcallX Z.D1 Z.G1 hr pass1 (pa_cons (pv 1) (pa_cons pint (pa_cons pint pa_nil))))
      (pe_ifExp (pt_cmpR op_eq (pv 0) pint (nomark _)) (pcallX Z.D2 Z.G2 hr pass1 (pa_cons (pv 1) (pa_cons pint (pa_cons pint (pa_cons pint pa_nil))))) (pcallX DM GM hr pass1 (pa_cons (pv 0) (pa_cons (pv 1) pa_nil))))))) pss_nil)
    (pss_cons (ps_if (pt_cmpR op_lt (pv 0) pint (nomark _)) (pss_one (ps_ret (pe_ifExp (pt_cmpR op_eq (pv 0) pint (nomark _)) (pcallX Z.D5 Z.G5 hr pass1 (pa_cons (pv 1) (pa_cons (pe_lst (pa_cons pint pa_nil)) pa_nil))) (pcallX Z.D6 Z.G6 hr pass1 (pa_cons (pv 1) (pa_cons pint pa_nil)))))) pss_nil)
    (pss_one (ps_ret (pe_ifExp (pt_cmpR op_eq (pv 0) pint (nomark _)) (pcallX Z.D7 Z.G7 hr pass1 (pa_cons (pv 1) (pa_cons pe_non pa_nil))) (pcallX Z.D8 Z.G8 hr pass1 (pa_cons (pv 1) (pa_cons pe_non pa_nil))))))), ?_⟩
  obtain ⟨n, v, rfl, hn, hv, q⟩ := h
  have q0 := q _ (Same.refl H)
  have ne : ∀ {m : Nat} {i : Int}, (m : Int) ≠ i → ¬ (V.int (m : Int) = V.int i) := fun h z => h (by injection z)
  refine ⟨_, rfl, _, _, rfl, rfl, _, rfl, ?_⟩
  by_cases h4 : n < 4
  · refine iteTd (by omega) ⟨_, rfl, rfl, _, rfl, ?_⟩
    by_cases h0 : n = 0
    · exact iteTd (by rw [h0]; rfl) ⟨_, rfl, _, _, _, rfl, .inl ⟨hv, q0⟩⟩
    refine iteFd (ne (by omega)) ⟨_, rfl, rfl, _, rfl, ?_⟩
    by_cases h1 : n = 1
    · exact iteTd (by rw [h1]; rfl) ⟨_, rfl, _, _, _, _, rfl, .inl ⟨hv, q0⟩⟩
    · exact iteFd (ne (by omega)) ⟨_, rfl, _, rfl, n, v, rfl, hv, q0⟩
  refine iteFd (by omega) ⟨_, rfl, _, _, rfl, rfl, _, rfl, ?_⟩
  by_cases h6 : n < 6
  · refine iteTd (by omega) ⟨_, rfl, rfl, _, rfl, ?_⟩
    by_cases h0 : n = 4
    · refine iteTd (by rw [h0]; rfl) ⟨_, rfl, (by show 1 ≤ sizeLine; decide), fun l nl => ⟨_, _, rfl, .inl ⟨hv.same (same_new nl _), q _ (same_new nl _)⟩⟩⟩
    · exact iteFd (ne (by omega)) ⟨_, rfl, _, _, rfl, .inl ⟨hv, q0⟩⟩
  refine iteFd (by omega) ⟨_, rfl, rfl, _, rfl, ?_⟩
  by_cases h0 : n = 6
  · exact iteTd (by rw [h0]; rfl) ⟨_, rfl, _, _, rfl, .inl ⟨hv, q0⟩⟩
  · exact iteFd (ne (by omega)) ⟨_, rfl, _, _, rfl, .inl ⟨hv, q0⟩⟩
theorem scWRule : FnScope ["_law_door", "_law_rule"] ["_law_door", "_law_rule"] (defScope lWRule) := ⟨rfl, rfl, rfl, by decide +kernel, rfl, by decide +kernel, by decide +kernel⟩
theorem ok_wrule (D : Def K mg "_law_with_rule" lWRule ["_law_door", "_law_rule"] e ed) (Z : Doors P w K mg base f d cP cU cW cF cL) : FnOk P w K mg base (CX1 P w) 8 e ed ["_law_door", "_law_rule"] (spWRule cU) := by
  refine D.F.ok1 scWRule (fun vs H Q E h => ?_) (fun cdv A outer s H vs Q E hr h => ?_)
  · obtain ⟨_, _, rfl, _⟩ := h
    rfl
  refine ⟨_, pss_cons (ps_if (pt_cmpR op_lt (pv 0) pint (nomark _)) (pss_one (ps_ret (pe_ifExp (pt_cmpR op_eq (pv 0) pint (nomark _)) (pcallX Z.D1 Z.G1 hr pass1 (pa_cons pint (pa_cons (pv 1) (pa_cons pint pa_nil))))
      (pe_ifExp (pt_cmpR op_eq (pv 0) pint (nomark _)) (pcallX Z.D2 Z.G2 hr pass1 (pa_cons pint (pa_cons (pv 1) (pa_cons pint (pa_cons pe_non pa_nil))))) (pcallX Z.D3 Z.G3 hr pass1 (pa_cons pint (pa_cons (pv 1) (pa_cons pe_non (pa_cons pe_non pa_nil))))))))) pss_nil)
    (pss_cons (ps_if (pt_cmpR op_eq (pv 0) pint (nomark _)) (pss_one (ps_ret (pcallX Z.D5 Z.G5 hr pass1 (pa_cons pint (pa_cons (pv 1) pa_nil))))) pss_nil)
    (pss_one (ps_ret (pe_ifExp (pt_cmpR op_eq (pv 0) pint (nomark _)) (pcallX Z.D4 Z.G4 hr pass1 (pa_cons pint (pa_cons (pv 1) (pa_cons (pe_lst (pa_cons pint pa_nil)) pa_nil)))) (pcallX Z.D4 Z.G4 hr pass1 (pa_cons pint (pa_cons (pe_lst (pa_cons pint pa_nil)) (pa_cons (pv 1) pa_nil)))))))), ?_⟩
  obtain ⟨n, v, rfl, hn, hv, q⟩ := h
  have q0 := q _ (Same.refl H)
  have ne : ∀ {m : Nat} {i : Int}, (m : Int) ≠ i → ¬ (V.int (m : Int) = V.int i) := fun h z => h (by injection z)
  refine ⟨_, rfl, _, _, rfl, rfl, _, rfl, ?_⟩
  by_cases h3 : n < 3
  · refine iteTd (by omega) ⟨_, rfl, rfl, _, rfl, ?_⟩
    by_cases h0 : n = 0
    · exact iteTd (by rw [h0]; rfl) ⟨_, rfl, _, _, _, rfl, .inr ⟨5, rfl, ok5, .inl ⟨hv, q0⟩⟩⟩
    refine iteFd (ne (by omega)) ⟨_, rfl, rfl, _, rfl, ?_⟩
    by_cases h1 : n = 1
    · exact iteTd (by rw [h1]; rfl) ⟨_, rfl, _, _, _, _, rfl, .inr ⟨5, rfl, ok5, .inl ⟨hv, q0⟩⟩⟩
    · exact iteFd (ne (by omega)) ⟨_, rfl, _, _, _, _, rfl, .inr ⟨5, rfl, ok5, .inl ⟨hv, q0⟩⟩⟩
  refine iteFd (by omega) ⟨_, rfl, rfl, _, rfl, ?_⟩
  by_cases h0 : n = 3
  · exact iteTd (by rw [h0]; rfl) ⟨_, rfl, _, _, rfl, .inr ⟨5, rfl, ok5, .inl ⟨hv, q0⟩⟩⟩
  refine iteFd (ne (by omega)) ⟨_, rfl, rfl, _, rfl, ?_⟩
  by_cases h4 : n = 4
  · exact iteTd (by rw [h4]; rfl) ⟨_, rfl, (by show 1 ≤ sizeLine; decide), fun l nl => ⟨_, _, _, rfl, .inr ⟨5, rfl, ok5, .inl ⟨hv.same (same_new nl _), q _ (same_new nl _)⟩⟩⟩⟩
  · exact iteFd (ne (by omega)) ⟨(by show 1 ≤ sizeLine; decide), fun l nl => ⟨_, rfl, _, _, _, rfl, .inr ⟨5, rfl, ok5, .inr ⟨l, [1], rfl, (new_ls (ns := [1])), r5 rfl, .inl ⟨hv.same (same_new nl _), q _ (same_new nl _)⟩⟩⟩⟩⟩
theorem scWRow : FnScope ["_law_door", "_law_row_here"] ["_law_door", "_law_row_here"] (defScope lWRow) := ⟨rfl, rfl, rfl, by decide +kernel, rfl, by decide +kernel, by decide +kernel⟩
theorem ok_wrow (D : Def K mg "_law_with_row" lWRow ["_law_door", "_law_row_here"] e ed) (Z : Doors P w K mg base f d cP cU cW cF cL) : FnOk P w K mg base (CX1 P w) 8 e ed ["_law_door", "_law_row_here"] (spWRule cW) := by
  refine D.F.ok1 scWRow (fun vs H Q E h => ?_) (fun cdv A outer s H vs Q E hr h => ?_)
  · obtain ⟨_, _, rfl, _⟩ := h
    rfl
  refine ⟨_, pss_cons (ps_if (pt_cmpR op_lt (pv 0) pint (nomark _)) (pss_one (ps_ret (pe_ifExp (pt_cmpR op_eq (pv 0) pint (nomark _)) (pcallX Z.D1 Z.G1 hr pass1 (pa_cons pint (pa_cons (pe_lst (pa_cons pint pa_nil)) (pa_cons (pv 1) pa_nil))))
      (pe_ifExp (pt_cmpR op_eq (pv 0) pint (nomark _)) (pcallX Z.D2 Z.G2 hr pass1 (pa_cons pint (pa_cons (pe_lst (pa_cons pint (pa_cons pint pa_nil))) (pa_cons (pv 1) (pa_cons (pe_un un_neg pint) pa_nil))))) (pcallX Z.D3 Z.G3 hr pass1 (pa_cons pint (pa_cons (pe_lst (pa_cons pint pa_nil)) (pa_cons (pv 1) (pa_cons pe_non pa_nil))))))))) pss_nil)
    (pss_one (ps_ret (pe_ifExp (pt_cmpR op_eq (pv 0) pint (nomark _)) (pcallX Z.D6 Z.G6 hr pass1 (pa_cons pint (pa_cons (pv 1) pa_nil))) (pe_ifExp (pt_cmpR op_eq (pv 0) pint (nomark _)) (pcallX Z.D7 Z.G7 hr pass1 (pa_cons pint (pa_cons (pv 1) pa_nil))) (pcallX Z.D8 Z.G8 hr pass1 (pa_cons pint (pa_cons (pv 1) pa_nil))))))), ?_⟩
  obtain ⟨n, v, rfl, hn, hv, q⟩ := h
  have q0 := q _ (Same.refl H)
  have ne : ∀ {m : Nat} {i : Int}, (m : Int) ≠ i → ¬ (V.int (m : Int) = V.int i) := fun h z => h (by injection z)
  refine ⟨_, rfl, _, _, rfl, rfl, _, rfl, ?_⟩
  by_cases h3 : n < 3
  · refine iteTd (by omega) ⟨_, rfl, rfl, _, rfl, ?_⟩
    by_cases h0 : n = 0
    · exact iteTd (by rw [h0]; rfl) ⟨(by show 1 ≤ sizeLine; decide), fun l nl => ⟨_, rfl, _, _, _, rfl, .inr ⟨5, rfl, ok5, .inr ⟨l, [1], rfl, (new_ls (ns := [1])), r5 rfl, .inl ⟨hv.same (same_new nl _), q _ (same_new nl _)⟩⟩⟩⟩⟩
    refine iteFd (ne (by omega)) ⟨_, rfl, rfl, _, rfl, ?_⟩
    by_cases h1 : n = 1
    · exact iteTd (by rw [h1]; rfl) ⟨(by show 2 ≤ sizeLine; decide), fun l nl => ⟨_, rfl, _, rfl, _, _, _, _, rfl, .inr ⟨5, rfl, ok5, .inr ⟨l, [1, 2], rfl, (new_ls (ns := [1, 2])), r5 rfl, .inl ⟨hv.same (same_new nl _), q _ (same_new nl _)⟩⟩⟩⟩⟩
    · exact iteFd (ne (by omega)) ⟨(by show 1 ≤ sizeLine; decide), fun l nl => ⟨_, rfl, _, _, _, _, rfl, .inr ⟨5, rfl, ok5, .inr ⟨l, [1], rfl, (new_ls (ns := [1])), r5 rfl, .inl ⟨hv.same (same_new nl _), q _ (same_new nl _)⟩⟩⟩⟩⟩
  refine iteFd (by omega) ⟨_, rfl, rfl, _, rfl, ?_⟩
  by_cases h0 : n = 3
  · exact iteTd (by rw [h0]; rfl) ⟨_, rfl, _, _, rfl, .inr ⟨5, rfl, ok5, .inl ⟨hv, q0⟩⟩⟩
  refine iteFd (ne (by omega)) ⟨_, rfl, rfl, _, rfl, ?_⟩
  by_cases h4 : n = 4
  · exact iteTd (by rw [h4]; rfl) ⟨_, rfl, _, _, rfl, .inr ⟨5, rfl, ok5, .inl ⟨hv, q0⟩⟩⟩
  · exact iteFd (ne (by omega)) ⟨_, rfl, _, _, rfl, .inr ⟨5, rfl, ok5, .inl ⟨hv, q0⟩⟩⟩
theorem scWFew : FnScope ["_law_door", "_law_row_here"] ["_law_door", "_law_row_here"] (defScope lWFew) := ⟨rfl, rfl, rfl, by decide +kernel, rfl, by decide +kernel, by decide +kernel⟩
theorem ok_wfew (D : Def K mg "_law_with_few" lWFew ["_law_door", "_law_row_here"] e ed) (Z : Doors P w K mg base f d cP cU cW cF cL) : FnOk P w K mg base (CX1 P w) 8 e ed ["_law_door", "_law_row_here"] (spWFew cF) := by
  refine D.F.ok1 scWFew (fun vs H Q E h => ?_) (fun cdv A outer s H vs Q E hr h => ?_)
  · obtain ⟨_, _, _, rfl, _⟩ := h
    rfl
  refine ⟨_, pss_one (ps_ret (pe_ifExp (pt_cmpR op_eq (pv 0) pint (nomark _)) (pcallX Z.D2 Z.G2 hr pass1 (pa_cons pint (pa_cons (pe_lst (pa_cons pint (pa_cons pint (pa_cons pint pa_nil)))) (pa_cons (pv 1) (pa_cons pe_non pa_nil)))))
    (pcallX Z.D3 Z.G3 hr pass1 (pa_cons pint (pa_cons (pe_lst (pa_cons pint (pa_cons pint (pa_cons pint pa_nil)))) (pa_cons (pv 1) (pa_cons (pe_un un_neg pint) pa_nil))))))), ?_⟩
  obtain ⟨n, a, ns, rfl, hn, hL, hR, hl, q⟩ := h
  refine ⟨_, rfl, rfl, _, rfl, ?_⟩
  have key : ∀ (l : Addr), H l = none → ∀ v4, First (upd H l (.lst ([1, 2, 3].map V.int))) (.int 5) (E (.ref cP) none (upd H l (.lst ([1, 2, 3].map V.int)))) fun p => Then p (upd H l (.lst ([1, 2, 3].map V.int))) (.ref l) (E (.ref cU) none (upd H l (.lst ([1, 2, 3].map V.int)))) fun _ rule =>
      Then p (upd H l (.lst ([1, 2, 3].map V.int))) (.ref a) (E (.ref cW) none (upd H l (.lst ([1, 2, 3].map V.int)))) fun _ row => (row.length < rule.length → E (.ref cF) none (upd H l (.lst ([1, 2, 3].map V.int)))) ∧ (rule.length ≤ row.length → NotC (upd H l (.lst ([1, 2, 3].map V.int))) v4 ∧ E (.ref cL) none (upd H l (.lst ([1, 2, 3].map V.int)))) :=
    fun l nl v4 => .inr ⟨5, rfl, ok5, .inr ⟨l, [1, 2, 3], rfl, (new_ls (ns := [1, 2, 3])), r5 rfl, .inr ⟨a, ns, rfl, hL.same (same_new nl _), hR, fun _ => q _ (same_new nl _), fun z => absurd z (by show ¬ (3 ≤ ns.length); omega)⟩⟩⟩
  by_cases h0 : V.int (n : Int) = V.int 0
  · exact iteTd h0 ⟨(by show 3 ≤ sizeLine; decide), fun l nl => ⟨_, rfl, _, _, _, _, rfl, key l nl _⟩⟩
  · exact iteFd h0 ⟨(by show 3 ≤ sizeLine; decide), fun l nl => ⟨_, rfl, _, rfl, _, _, _, _, rfl, key l nl _⟩⟩
theorem scWPlace : FnScope ["_law_door", "_law_place"] ["_law_door", "_law_place"] (defScope lWPlace) := ⟨rfl, rfl, rfl, by decide +kernel, rfl, by decide +kernel, by decide +kernel⟩
theorem ok_wplace (D : Def K mg "_law_with_place" lWPlace ["_law_door", "_law_place"] e ed) (Z : Doors P w K mg base f d cP cU cW cF cL) : FnOk P w K mg base (CX1 P w) 8 e ed ["_law_door", "_law_place"] (spWPlace cL) := by
  refine D.F.ok1 scWPlace (fun vs H Q E h => ?_) (fun cdv A outer s H vs Q E hr h => ?_)
  · obtain ⟨_, _, rfl, _⟩ := h
    rfl
  refine ⟨_, pss_one (ps_ret (pe_ifExp (pt_cmpR op_eq (pv 0) pint (nomark _)) (pcallX Z.D2 Z.G2 hr pass1 (pa_cons pint (pa_cons (pe_lst (pa_cons pint pa_nil)) (pa_cons (pe_lst (pa_cons pint pa_nil)) (pa_cons (pv 1) pa_nil)))))
    (pcallX Z.D3 Z.G3 hr pass1 (pa_cons pint (pa_cons (pe_lst (pa_cons pint pa_nil)) (pa_cons (pe_lst (pa_cons pint pa_nil)) (pa_cons (pv 1) pa_nil))))))), ?_⟩
  obtain ⟨n, v, rfl, hn, hv, q⟩ := h
  refine ⟨_, rfl, rfl, _, rfl, ?_⟩
  have key : ∀ (l m : Addr) (H2 : Hp), Same H H2 → Ls H2 l [1] → Ls H2 m [1] → First H2 (.int 5) (E (.ref cP) none H2) fun p => Then p H2 (.ref l) (E (.ref cU) none H2) fun _ rule =>
      Then p H2 (.ref m) (E (.ref cW) none H2) fun _ row => (row.length < rule.length → E (.ref cF) none H2) ∧ (rule.length ≤ row.length → NotC H2 v ∧ E (.ref cL) none H2) :=
    fun l m H2 s2 h1 h2 => .inr ⟨5, rfl, ok5, .inr ⟨l, [1], rfl, h1, r5 rfl, .inr ⟨m, [1], rfl, h2, r5 rfl, fun z => absurd z (Nat.lt_irrefl _), fun _ => ⟨hv.same s2, q _ s2⟩⟩⟩⟩
  by_cases h0 : V.int (n : Int) = V.int 0
  · exact iteTd h0 ⟨(by show 1 ≤ sizeLine; decide), fun l nl => ⟨(by show 1 ≤ sizeLine; decide), fun m nm => ⟨_, rfl, _, _, _, _, rfl, key l m _ ((same_new nl _).trans (same_new nm _)) ((new_ls (ns := [1])).same (same_new nm _)) (new_ls (ns := [1]))⟩⟩⟩
  · exact iteFd h0 ⟨(by show 1 ≤ sizeLine; decide), fun l nl => ⟨(by show 1 ≤ sizeLine; decide), fun m nm => ⟨_, rfl, _, _, _, _, rfl, key l m _ ((same_new nl _).trans (same_new nm _)) ((new_ls (ns := [1])).same (same_new nm _)) (new_ls (ns := [1]))⟩⟩⟩
end
end Rr

set_option Elab.async false
set_option linter.all false
set_option maxRecDepth 100000
set_option maxHeartbeats 800000
namespace Rr
open PySem L2 RM
theorem boot_VE : bootBuiltins "ValueError" = some (.type "ValueError") := by decide +kernel
/-- how the law tells the kinds of an error -/
def ks (j : Nat) : List Bool := [decide (j = 0), decide (j = 1), decide (j = 2), decide (j = 3), decide (j = 4), decide (j = 5), false, true]
/-- the names of the errors -/
structure ErrN (mg : Str → Option Value) (cR cP cU cW cF cL cN cT : Addr) : Prop where
  mR : mg "RuleError" = some (.ref cR)
  mP : mg "BadPrime" = some (.ref cP)
  mU : mg "BadRule" = some (.ref cU)
  mW : mg "BadRow" = some (.ref cW)
  mF : mg "TooFew" = some (.ref cF)
  mL : mg "BadPlace" = some (.ref cL)
  mN : mg "NoWay" = some (.ref cN)
  mT : mg "BadText" = some (.ref cT)
  mV : mg "ValueError" = none
/-- an error's class: what it is -/
structure ErrC (K : PySem.W.Frag) (cR cP cU cW cF cL cN cT C : Addr) (bm : List Value) (j : Nat) : Prop where
  xc : XC K C bm
  xi : XI K C
  exm : PySem.W.exmOne K (.ref C) (.ref cR) = some true
  k0 : PySem.W.kitOne K (.ref C) (.ref cP) = some (decide (j = 0))
  k1 : PySem.W.kitOne K (.ref C) (.ref cU) = some (decide (j = 1))
  k2 : PySem.W.kitOne K (.ref C) (.ref cW) = some (decide (j = 2))
  k3 : PySem.W.kitOne K (.ref C) (.ref cF) = some (decide (j = 3))
  k4 : PySem.W.kitOne K (.ref C) (.ref cL) = some (decide (j = 4))
  k5 : PySem.W.kitOne K (.ref C) (.ref cN) = some (decide (j = 5))
  k6 : PySem.W.kitOne K (.ref C) (.ref cT) = some false
  k7 : PySem.W.kitOne K (.ref C) (.type "ValueError") = some true
/-- the classes told, all at once -/
def EC (K : PySem.W.Frag) (c : Nat → Addr) (C : Addr) (j : Nat) : Prop := ∃ bm, ErrC K (c 0) (c 1) (c 2) (c 3) (c 4) (c 5) (c 6) (c 7) C bm j
abbrev EN (mg : Str → Option Value) (c : Nat → Addr) : Prop := ErrN mg (c 0) (c 1) (c 2) (c 3) (c 4) (c 5) (c 6) (c 7)
def spKinds (K : PySem.W.Frag) (c : Nat → Addr) : Sp := fun vs H Q _ => ∃ (ea C : Addr) (j : Nat), vs = [.ref ea] ∧ H ea = some (.ext (excIs ea (.ref C))) ∧ EC K c C j ∧ ∀ (r : Addr) (H' : Hp), Same H H' → H r = none → H' r = some (.lst ((ks j).map V.bl)) → Q (.ref r) H'
/-- a def that is handed on -/
structure Ask (P : Program) (w : World) (K : PySem.W.Frag) (mg : Str → Option Value) (base : Heap) (f : Addr) (fd : FuncData) (ps : List Str) (sp : Sp) : Prop where
  kp : PySem.W.keepIn K (.ref f) = true
  b : Binds K fd ps []
  G : FnOk P w K mg base (CX1 P w) 8 f fd ps sp
def spTold (P : Program) (w : World) (K : PySem.W.Frag) (mg : Str → Option Value) (base : Heap) (c : Nat → Addr) : Sp := fun vs H Q _ => ∃ (f : Addr) (fd : FuncData) (ps : List Str) (sp : Sp) (v1 v2 : V) (C : Addr) (j : Nat), vs = [.ref f, v1, v2] ∧ Ask P w K mg base f fd ps sp ∧ EC K c C j ∧
  (∀ (Q' : VK) (E' : XK), (∀ H', Same H H' → E' (.ref C) none H') → sp [v1, v2] H Q' E') ∧ ∀ (r : Addr) (H' : Hp), Same H H' → H r = none → H' r = some (.lst ((ks j).map V.bl)) → Q (.ref r) H'
def spAll (P : Program) (w : World) (K : PySem.W.Frag) (mg : Str → Option Value) (base : Heap) (c : Nat → Addr) : Sp := fun vs H Q _ => ∃ (f : Addr) (fd : FuncData) (ps : List Str) (sp : Sp) (da ta ua : Addr) (doors : List Nat) (things : List V) (C : Addr) (j : Nat), vs = [.ref f, .ref da, .ref ta, .ref ua] ∧ Ask P w K mg base f fd ps sp ∧ EC K c C j ∧
  H da = some (.lst (doors.map fun n : Nat => V.int (n : Int))) ∧ H ta = some (.lst things) ∧ things.length ≤ 1000 ∧ H ua = some (.lst ((ks j).map V.bl)) ∧
  (∀ H', Same H H' → ∀ n ∈ doors, ∀ v ∈ things, ∀ (Q' : VK) (E' : XK), (∀ H'', Same H' H'' → E' (.ref C) none H'') → sp [.int (n : Int), v] H' Q' E') ∧ ∀ H', Same H H' → Q (.bl true) H'
section
variable {P : Program} {w : World} {K : PySem.W.Frag} {mg : Str → Option Value} {base : Heap} {f g : Addr} {fd gd : FuncData} {c : Nat → Addr}
theorem scKinds : FnScope ["_law_error", "_law_found"] ["_law_error"] (defScope lKinds) := ⟨rfl, rfl, rfl, by decide +kernel, rfl, by decide +kernel, by decide +kernel⟩
theorem ok_kinds (D : Def K mg "_law_kinds" lKinds ["_law_error"] f fd) (o : Own mg) (e : EN mg c) : FnH P w K mg base 1 f fd ["_law_error"] (spKinds K c) := by
  refine D.F.okH scKinds (fun vs H Q E h => ?_) (fun cdv A outer s H vs Q E hr h => ?_)
  · obtain ⟨_, _, _, rfl, _⟩ := h
    rfl
  refine ⟨_, pss_cons (ps_set (i := 1) scKinds.nd rfl (Or.inl rfl) (pe_lst (pa_cons (pe_callB (isiXK (K := K) rfl) rfl o.isinstance boot_isi (pa_cons (pv 0) (pa_cons (pe_glob (v := .ref (c 1)) (by rfl) e.mP rfl) pa_nil)))
      (pa_cons (pe_callB (isiXK (K := K) rfl) rfl o.isinstance boot_isi (pa_cons (pv 0) (pa_cons (pe_glob (v := .ref (c 2)) (by rfl) e.mU rfl) pa_nil))) (pa_cons (pe_callB (isiXK (K := K) rfl) rfl o.isinstance boot_isi (pa_cons (pv 0) (pa_cons (pe_glob (v := .ref (c 3)) (by rfl) e.mW rfl) pa_nil))) pa_nil)))))
    (pss_cons (ps_set (i := 1) scKinds.nd rfl (Or.inl rfl) (pe_op op_cat (pv 1) (pe_lst (pa_cons (pe_callB (isiXK (K := K) rfl) rfl o.isinstance boot_isi (pa_cons (pv 0) (pa_cons (pe_glob (v := .ref (c 4)) (by rfl) e.mF rfl) pa_nil)))
      (pa_cons (pe_callB (isiXK (K := K) rfl) rfl o.isinstance boot_isi (pa_cons (pv 0) (pa_cons (pe_glob (v := .ref (c 5)) (by rfl) e.mL rfl) pa_nil))) (pa_cons (pe_callB (isiXK (K := K) rfl) rfl o.isinstance boot_isi (pa_cons (pv 0) (pa_cons (pe_glob (v := .ref (c 6)) (by rfl) e.mN rfl) pa_nil))) pa_nil))))))
    (pss_one (ps_ret (pe_op op_cat (pv 1) (pe_lst (pa_cons (pe_callB (isiXK (K := K) rfl) rfl o.isinstance boot_isi (pa_cons (pv 0) (pa_cons (pe_glob (v := .ref (c 7)) (by rfl) e.mT rfl) pa_nil)))
      (pa_cons (pe_callB (isiXK (K := K) rfl) rfl o.isinstance boot_isi (pa_cons (pv 0) (pa_cons (pe_ty rfl e.mV boot_VE) pa_nil))) pa_nil))))))), ?_⟩
  obtain ⟨ea, C, j, rfl, hx, ⟨bm, k⟩, q⟩ := h
  refine ⟨_, rfl, ea, C, bm, _, _, _, rfl, .own _, hx, k.xc, k.xi, k.k0, ?_⟩
  refine ⟨_, rfl, ea, C, bm, _, _, _, rfl, .own _, hx, k.xc, k.xi, k.k1, ?_⟩
  refine ⟨_, rfl, ea, C, bm, _, _, _, rfl, .own _, hx, k.xc, k.xi, k.k2, (by show 3 ≤ sizeLine; decide), fun l nl => ?_⟩
  have s2 := same_new nl (.lst [.bl (decide (j = 0)), .bl (decide (j = 1)), .bl (decide (j = 2))])
  have hl2 : (upd H l (.lst [.bl (decide (j = 0)), .bl (decide (j = 1)), .bl (decide (j = 2))])) l = some (.lst [.bl (decide (j = 0)), .bl (decide (j = 1)), .bl (decide (j = 2))]) := upd_same
  have hx2 := s2 _ _ hx
  have t2 := s2
  generalize upd H l (.lst [.bl (decide (j = 0)), .bl (decide (j = 1)), .bl (decide (j = 2))]) = H2 at hx2 t2 hl2 ⊢
  refine ⟨_, rfl, ?_⟩
  refine ⟨_, rfl, ea, C, bm, _, _, _, rfl, .own _, hx2, k.xc, k.xi, k.k3, ?_⟩
  refine ⟨_, rfl, ea, C, bm, _, _, _, rfl, .own _, hx2, k.xc, k.xi, k.k4, ?_⟩
  refine ⟨_, rfl, ea, C, bm, _, _, _, rfl, .own _, hx2, k.xc, k.xi, k.k5, (by show 3 ≤ sizeLine; decide), fun l2 nl2 => ?_⟩
  have s3 := same_new nl2 (.lst [.bl (decide (j = 3)), .bl (decide (j = 4)), .bl (decide (j = 5))])
  refine ⟨l, l2, _, _, rfl, rfl, s3 _ _ hl2, upd_same, (by show 6 ≤ sizeLine; decide), fun l3 nl3 => ?_⟩
  have s4 := same_new nl3 (.lst ([.bl (decide (j = 0)), .bl (decide (j = 1)), .bl (decide (j = 2))] ++ [.bl (decide (j = 3)), .bl (decide (j = 4)), .bl (decide (j = 5))]))
  have hx4 := s4 _ _ (s3 _ _ hx2)
  have t4 := (t2.trans s3).trans s4
  refine ⟨_, rfl, ?_⟩
  refine ⟨_, rfl, ea, C, bm, _, _, _, rfl, .own _, hx4, k.xc, k.xi, k.k6, ?_⟩
  refine ⟨_, rfl, ea, C, bm, _, _, _, rfl, .ty _, hx4, k.xc, k.xi, k.k7, (by show 2 ≤ sizeLine; decide), fun l4 nl4 => ?_⟩
  have s5 := same_new nl4 (.lst [.bl false, .bl true])
  refine ⟨l3, l4, _, _, rfl, rfl, s5 _ _ upd_same, upd_same, (by show 8 ≤ sizeLine; decide), fun r nr => ?_⟩
  have t5 := t4.trans s5
  exact q r _ (t5.trans (same_new nr _)) (t5.free nr) upd_same
theorem scTold : FnScope ["_law_ask", "_law_one", "_law_other", "_law_error"] ["_law_ask", "_law_one", "_law_other"] (defScope lTold) := ⟨rfl, rfl, rfl, by decide +kernel, rfl, by decide +kernel, by decide +kernel⟩
theorem ok_told (D : Def K mg "_law_told" lTold ["_law_ask", "_law_one", "_law_other"] f fd) (e : EN mg c) (DK : Def K mg "_law_kinds" lKinds ["_law_error"] g gd) (GK : FnH P w K mg base 1 g gd ["_law_error"] (spKinds K c)) :
    FnOk P w K mg base CX0 9 f fd ["_law_ask", "_law_one", "_law_other"] (spTold P w K mg base c) := by
  refine D.F.ok scTold (fun vs H Q E h => ?_) (fun cdv A outer s H vs Q E hr h => ?_)
  · obtain ⟨_, _, _, _, _, _, _, _, rfl, _⟩ := h
    rfl
  obtain ⟨fa, fad, ps, sp, v1, v2, C, j, rfl, ak, ec, hsp, q⟩ := h
  refine ⟨_, pss_cons (ps_tryAs (i := 3) rfl rfl rfl scTold.nd rfl rfl e.mR (fun pins E ok => pss_one (ps_expr (pe_callL ok rfl ak.G hr (pv 0) ak.kp ak.b (pa_cons (pv 1) (pa_cons (pv 2) pa_nil)))))
    (fun pins ea => pss_one (ps_ret (pe_callH GK (RoomH.mono (hr.h (some (.ref ea))) (by decide)) DK.m DK.F.kp DK.b (pa_cons (pv 3) pa_nil)))))
    (pss_one (ps_ret (pe_lst pa_nil))), ?_⟩
  refine ⟨_, rfl, rfl, _, rfl, _, rfl, hsp _ _ fun H1 s1 => ⟨?_, fun ea nea => ?_⟩⟩
  · obtain ⟨bm, k⟩ := ec
    exact k.exm
  have s2 := s1.trans (same_new nea (.ext (excIs ea (.ref C))))
  exact ⟨_, rfl, ea, C, j, rfl, upd_same, ec, fun r H' s3 nr hr' => q r H' (s2.trans s3) (s2.free nr) hr'⟩
theorem scAll : FnScope ["_law_ask", "_law_doors", "_law_things", "_law_due_here", "_law_door"] ["_law_ask", "_law_doors", "_law_things", "_law_due_here"] (defScope lAll) := ⟨rfl, rfl, rfl, by decide +kernel, rfl, by decide +kernel, by decide +kernel⟩
theorem all_true' {n : Nat} : ((List.range n).map fun _ => true).all id = true := by
  rw [List.all_eq_true]
  intro x hx
  obtain ⟨_, _, rfl⟩ := List.mem_map.mp hx
  rfl
theorem ok_all (D : Def K mg "_law_all" lAll ["_law_ask", "_law_doors", "_law_things", "_law_due_here"] f fd) (o : Own mg) (DT : Def K mg "_law_told" lTold ["_law_ask", "_law_one", "_law_other"] g gd) (GT : FnOk P w K mg base CX0 9 g gd ["_law_ask", "_law_one", "_law_other"] (spTold P w K mg base c)) :
    FnOk P w K mg base CX0 10 f fd ["_law_ask", "_law_doors", "_law_things", "_law_due_here"] (spAll P w K mg base c) := by
  refine D.F.ok scAll (fun vs H Q E h => ?_) (fun cdv A outer s H vs Q E hr h => ?_)
  · obtain ⟨_, _, _, _, _, _, _, _, _, _, _, rfl, _⟩ := h
    rfl
  obtain ⟨fa, fad, ps, sp, da, ta, ua, doors, things, C, j, rfl, ak, ec, hda, hta, htl, hua, hsp, q⟩ := h
  have hu := hr.units
  refine ⟨_, pss_cons (ps_for PassesOwn.never rfl (pi_list (pv 1)) (pgn 4 (hx := Or.inr rfl))
      (pss_one (ps_if (pt_not (pt_val (pe_callB (call_all rfl) rfl o.all boot_allB (pa_cons (pe_comp ["_law_thing"] [0, 3, 4] rfl (pi_list (pv 2)) (fun cl C s₂ H₂ fp => pgn 0) (gk_name (by decide))
        (fun cl C s₂ H₂ fp => pe_cmpR (eqBsK (K := K) rfl hu) (pcall DT GT hr (pa_cons (pv 1) (pa_cons (pv 3) (pa_cons (pv 0) pa_nil)))) (pv 2) (nomark _))) pa_nil)))) (pss_one (ps_ret pe_bl)) pss_nil)))
    (pss_one (ps_ret pe_bl)), ?_⟩
  refine ⟨_, rfl, da, rfl, ⟨_, SqL.of hda⟩, for_list (xs := doors.map fun n : Nat => V.int (n : Int)) (fun _ σ H' => Same H H' ∧ ∃ x, σ = [some (.ref fa), some (.ref da), some (.ref ta), some (.ref ua), x]) ⟨Same.refl _, none, rfl⟩ (fun i σ H' _ h => SqL.of (h.1 _ _ hda)) ?_ (fun σ H' h => q _ h.1)⟩
  rintro i x σ H1 hx ⟨s1, y, rfl⟩
  obtain ⟨n, hn, rfl⟩ := List.mem_map.mp (List.mem_of_getElem? hx)
  refine ⟨_, rfl, ta, rfl, ⟨_, SqL.of (s1 _ _ hta)⟩, ?_⟩
  refine comp_list (SqL.of (s1 _ _ hta)) (fun _ => V.bl true) (Nat.le_trans htl (by decide)) (fun m v H2 hv s2 => ?_) (fun H2 s2 r nr => ?_)
  · have hm := List.mem_of_getElem? hv
    have t2 := s1.trans s2
    refine ⟨_, rfl, _, rfl, _, rfl, fa, fad, ps, sp, _, v, C, j, rfl, ak, ec, fun Q' E' hE => hsp H2 t2 n hn v hm Q' E' hE, fun r H3 s3 nr hr3 => ?_⟩
    refine ⟨_, rfl, r, ua, ks j, ks j, rfl, rfl, SqL.of hr3, SqL.of ((t2.trans s3) _ _ hua), snocF ?_, s2.trans s3⟩
    rw [decide_eq_true rfl]
  · refine ⟨r, (List.range things.length).map (fun _ => true), rfl, by rw [← mapBl]; exact SqL.of upd_same, _, rfl, ?_⟩
    rw [all_true']
    exact iteF ⟨(s1.trans s2).trans (same_new nr _), _, rfl⟩
end
end Rr

set_option Elab.async false
set_option linter.all false
set_option maxRecDepth 100000
set_option maxHeartbeats 1600000
namespace Rr
open PySem L2 RM
/-- the kinds that are due, told ahead -/
def DueAt (H : Hp) (da : Addr) (n : Nat) : Prop := ∃ xs : List V, H da = some (.lst xs) ∧ xs.length = n ∧ ∀ j, j < n → ∃ a, xs[j]? = some (.ref a) ∧ H a = some (.lst ((ks j).map V.bl)) ∧ a ≠ da
theorem DueAt.same {H H' : Hp} {da : Addr} {n : Nat} (h : DueAt H da n) (s : Same H H') : DueAt H' da n := by
  obtain ⟨xs, h1, h2, h3⟩ := h
  exact ⟨xs, s _ _ h1, h2, fun j hj => let ⟨a, e1, e2, e3⟩ := h3 j hj; ⟨a, e1, s _ _ e2, e3⟩⟩
theorem ks_eq : ∀ i : Nat, i < 6 → [V.bl (decide (V.int ((0 : Int) + (i : Int)) = V.int 0)), V.bl (decide (V.int ((0 : Int) + (i : Int)) = V.int 1)), V.bl (decide (V.int ((0 : Int) + (i : Int)) = V.int 2)), V.bl (decide (V.int ((0 : Int) + (i : Int)) = V.int 3)), V.bl (decide (V.int ((0 : Int) + (i : Int)) = V.int 4)), V.bl (decide (V.int ((0 : Int) + (i : Int)) = V.int 5)), V.bl false, V.bl true] = (ks i).map V.bl := by
  decide +kernel
theorem not_prime {n d : Int} (h2 : 2 ≤ d) (hd : d * d ≤ n) (hm : n % d = 0) : ¬ PrimeOk n := fun h => h.2.2 d h2 hd hm
theorem not_prod {x y : Int} (hx : 2 ≤ x) (hy : 2 ≤ y) : ¬ PrimeOk (x * y) := by
  by_cases h : x ≤ y
  · exact not_prime hx (Int.mul_le_mul_of_nonneg_left h (by omega)) (Int.mul_emod_right x y)
  · exact not_prime hy (Int.mul_le_mul_of_nonneg_right (by omega) (by omega)) (Int.mul_emod_left x y)
/-- what the law calls -/
structure Kit7 (P : Program) (w : World) (K : PySem.W.Frag) (mg : Str → Option Value) (base : Heap) (f : Nat → Addr) (d : Nat → FuncData) (c : Nat → Addr) : Prop where
  o : Own mg
  D1 : Def K mg "_law_cell_at" lCell ["_law_script", "_law_k"] (f 1) (d 1)
  G1 : FnOk P w K mg base CX0 1 (f 1) (d 1) ["_law_script", "_law_k"] (spCell K)
  D2 : Def K mg "_law_row" lRow ["_law_script", "_law_prime_here"] (f 2) (d 2)
  G2 : FnOk P w K mg base CX0 3 (f 2) (d 2) ["_law_script", "_law_prime_here"] (spRow K)
  D3 : Def K mg "_law_all" lAll ["_law_ask", "_law_doors", "_law_things", "_law_due_here"] (f 3) (d 3)
  G3 : FnOk P w K mg base CX0 10 (f 3) (d 3) ["_law_ask", "_law_doors", "_law_things", "_law_due_here"] (spAll P w K mg base c)
  D4 : Def K mg "_law_told" lTold ["_law_ask", "_law_one", "_law_other"] (f 4) (d 4)
  G4 : FnOk P w K mg base CX0 9 (f 4) (d 4) ["_law_ask", "_law_one", "_law_other"] (spTold P w K mg base c)
  D5 : Def K mg "go_on" sGoOn ["prime", "rule", "row", "many"] (f 5) (d 5)
  G5 : FnOk P w K mg base CX0 6 (f 5) (d 5) ["prime", "rule", "row", "many"] spGoOn
  D6 : Def K mg "backwards" sBack ["prime", "rule"] (f 6) (d 6)
  G6 : FnOk P w K mg base (CX1 P w) 5 (f 6) (d 6) ["prime", "rule"] (spBack (c 6))
  m0 : mg "_law_with_prime" = some (.ref (f 10))
  a0 : Ask P w K mg base (f 10) (d 10) ["_law_door", "_law_prime_here"] (spWPrime (c 1))
  m1 : mg "_law_with_rule" = some (.ref (f 11))
  a1 : Ask P w K mg base (f 11) (d 11) ["_law_door", "_law_rule"] (spWRule (c 2))
  m2 : mg "_law_with_row" = some (.ref (f 12))
  a2 : Ask P w K mg base (f 12) (d 12) ["_law_door", "_law_row_here"] (spWRule (c 3))
  m3 : mg "_law_with_few" = some (.ref (f 13))
  a3 : Ask P w K mg base (f 13) (d 13) ["_law_door", "_law_row_here"] (spWFew (c 4))
  m4 : mg "_law_with_place" = some (.ref (f 14))
  a4 : Ask P w K mg base (f 14) (d 14) ["_law_door", "_law_place"] (spWPlace (c 5))
  e0 : EC K c (c 1) 0
  e1 : EC K c (c 2) 1
  e2 : EC K c (c 3) 2
  e3 : EC K c (c 4) 3
  e4 : EC K c (c 5) 4
  e5 : EC K c (c 6) 5
theorem passF {X : Cx} {P : Program} {w : World} : Passes (CX1 P w) X E0 := by
  intro pins σ H s e s' I h
  obtain ⟨_, _, _, _, _, _, _, _, _, q⟩ := h
  exact q.elim
theorem all_nil {p : V → Prop} : ∀ v ∈ ([] : List V), p v := fun _ h => absurd h (by simp)
theorem all_cons {p : V → Prop} {x : V} {xs : List V} (h : p x) (t : ∀ v ∈ xs, p v) : ∀ v ∈ x :: xs, p v := fun v hv => by
  rcases List.mem_cons.mp hv with rfl | hv
  · exact h
  · exact t v hv
theorem all_snoc {p : V → Prop} {x : V} {xs : List V} (t : ∀ v ∈ xs, p v) (h : p x) : ∀ v ∈ xs ++ [x], p v := fun v hv => by
  rcases List.mem_append.mp hv with hv | hv
  · exact t v hv
  · rw [List.mem_singleton.mp hv]; exact h
theorem notP_int {H : Hp} {i : Int} (h : ¬ PrimeOk i) : NotP H (.int i) := .inr ⟨i, rfl, h⟩
/-- a list of one bad item -/
theorem notR_one {H : Hp} {a : Addr} {x : V} (h : H a = some (.lst [x])) (hx : BadIt 5 H x) : NotR 5 H (.ref a) := by
  refine .inr ⟨a, _, rfl, h, fun y hy => ?_, x, List.mem_singleton.mpr rfl, hx⟩
  rw [List.mem_singleton.mp hy]
  rcases hx with hx | ⟨i, rfl, _⟩
  · exact .inr hx
  · exact .inl ⟨i, rfl⟩
end Rr

set_option Elab.async false
set_option linter.all false
set_option maxRecDepth 100000
set_option maxHeartbeats 6400000
namespace Rr
open PySem L2 RM
theorem boot_rangeT : bootBuiltins "range" = some (.type "range") := by decide +kernel
theorem cut_to {ns : List Int} {hi : Nat} : cutV (ns.map V.int) none (some (hi : Int)) = (ns.take hi).map V.int := by
  unfold cutV
  rw [HT.sIx_nat, HT.sIx_none, List.length_map, Nat.sub_zero, List.drop_zero, ← List.map_take]
  congr 1
  rw [← List.take_eq_take_min]
theorem DueAt.snoc {H : Hp} {da l : Addr} {n : Nat} {xs : List V} (h1 : H da = some (.lst xs)) (h2 : xs.length = n) (h3 : ∀ j, j < n → ∃ a, xs[j]? = some (.ref a) ∧ H a = some (.lst ((ks j).map V.bl)) ∧ a ≠ da) (nl : H l = none) :
    DueAt (upd (upd H l (.lst ((ks n).map V.bl))) da (.lst (xs ++ [.ref l]))) da (n + 1) := by
  have hl : l ≠ da := fun z => by rw [z, h1] at nl; cases nl
  refine ⟨_, upd_same, by rw [List.length_append, h2]; rfl, fun j hj => ?_⟩
  by_cases e : j < n
  · obtain ⟨a, e1, e2, e3⟩ := h3 j e
    refine ⟨a, by rw [List.getElem?_append_left (by omega)]; exact e1, ?_, e3⟩
    rw [upd_ne e3]
    exact same_new nl _ _ _ e2
  · have : j = n := by omega
    subst this
    refine ⟨l, by rw [List.getElem?_append_right (by omega), h2, Nat.sub_self]; rfl, ?_, hl⟩
    rw [upd_ne hl, upd_same]
theorem DueAt.get {H : Hp} {da : Addr} {n j : Nat} (h : DueAt H da n) (hj : j < n) : ∃ (xs : List V) (a : Addr), H da = some (.lst xs) ∧ atI xs ((j : Nat) : Int) = some (.ref a) ∧ H a = some (.lst ((ks j).map V.bl)) := by
  obtain ⟨xs, h1, h2, h3⟩ := h
  obtain ⟨a, e1, e2, _⟩ := h3 j hj
  exact ⟨xs, a, h1, atI_nat e1, e2⟩
/-- the law's row with one item that is no rest -/
theorem notR_put {H : Hp} {r : Addr} {row : List Int} {k m : Nat} {x : V} (h : H r = some (.lst ((row.take k).map V.int ++ [x] ++ (row.drop m).map V.int))) (hx : BadIt 5 H x) : NotR 5 H (.ref r) := by
  refine .inr ⟨r, _, rfl, h, fun y hy => ?_, x, by simp, hx⟩
  rcases List.mem_append.mp hy with hy | hy
  · rcases List.mem_append.mp hy with hy | hy
    · obtain ⟨n, _, rfl⟩ := List.mem_map.mp hy
      exact .inl ⟨n, rfl⟩
    · rw [List.mem_singleton.mp hy]
      rcases hx with hx | ⟨i, rfl, _⟩
      · exact .inr hx
      · exact .inl ⟨i, rfl⟩
  · obtain ⟨n, _, rfl⟩ := List.mem_map.mp hy
    exact .inl ⟨n, rfl⟩
section
variable {P : Program} {w : World} {K : PySem.W.Frag} {mg : Str → Option Value} {base : Heap} {f : Nat → Addr} {d : Nat → FuncData} {c : Nat → Addr} {e : Addr} {ed : FuncData}
theorem scLaw : FnScope ["_law_script", "_law_far_one", "_law_due_here", "_law_k", "_law_primes", "_law_row_here", "_law_kept", "_law_many", "_law_bad", "_law_at", "_law_rule"] ["_law_script"] (defScope lLaw) := ⟨rfl, rfl, rfl, by decide +kernel, rfl, by decide +kernel, by decide +kernel⟩
/-- where the law stands behind its rows: the list of bad ones, and what lies apart from it -/
def Row7 (H : Hp) (da wa ka ba : Addr) (row : List Int) (xs : List V) : Prop := H ba = some (.lst xs) ∧ ∃ Hz, Hz ba = none ∧ Same Hz H ∧ DueAt Hz da 6 ∧ Ls Hz wa row ∧ Ls Hz ka row ∧ ∀ x ∈ xs, NotR 5 Hz x
section
variable {H H' : Hp} {da wa ka ba : Addr} {row : List Int} {xs : List V}
theorem Row7.same (h : Row7 H da wa ka ba row xs) (s : Same H H') : Row7 H' da wa ka ba row xs := by
  obtain ⟨h0, Hz, h1, h2, h3⟩ := h
  exact ⟨s _ _ h0, Hz, h1, h2.trans s, h3⟩
theorem Row7.du (h : Row7 H da wa ka ba row xs) : DueAt H da 6 := let ⟨_, _, _, s, d, _⟩ := h; d.same s
theorem Row7.ow (h : Row7 H da wa ka ba row xs) : Ls H wa row := let ⟨_, _, _, s, _, d, _⟩ := h; d.same s
theorem Row7.kp (h : Row7 H da wa ka ba row xs) : Ls H ka row := let ⟨_, _, _, s, _, _, d, _⟩ := h; d.same s
theorem Row7.all (h : Row7 H da wa ka ba row xs) : ∀ x ∈ xs, NotR 5 H x := let ⟨_, _, _, s, _, _, _, d⟩ := h; fun x hx => (d x hx).same s
theorem Row7.snoc {r : Addr} {ys : List V} (h : Row7 H da wa ka ba row xs) (s : Same H H') (nr : H r = none) (hr : H' r = some (.lst ys)) (hb : ∀ Hz : Hp, Hz r = some (.lst ys) → NotR 5 Hz (.ref r)) : Row7 (upd H' ba (.lst (xs ++ [.ref r]))) da wa ka ba row (xs ++ [.ref r]) := by
  obtain ⟨h0, Hz, h1, h2, d1, d2, d3, h3⟩ := h
  have hrb : r ≠ ba := fun z => by rw [z, h0] at nr; cases nr
  have sz := same_new (h2.free nr) (.lst ys)
  refine ⟨upd_same, upd Hz r (.lst ys), by rw [upd_ne (Ne.symm hrb)]; exact h1, fun b u q => ?_, d1.same sz, d2.same sz, d3.same sz, all_snoc (fun x hx => (h3 x hx).same sz) (hb _ upd_same)⟩
  by_cases e : b = r
  · subst e
    rw [upd_same] at q
    cases q
    rw [upd_ne hrb]
    exact hr
  · rw [upd_ne e] at q
    have hne : b ≠ ba := fun z => by rw [z, h1] at q; cases q
    rw [upd_ne hne]
    exact s _ _ (h2 _ _ q)
end
theorem rA : Rests 997 [996] := fun x hx => by rw [List.mem_singleton.mp hx]; decide
theorem ok_law (D : Def K mg "law" lLaw ["_law_script"] e ed) (Z : Kit7 P w K mg base f d c) : FnOk P w K mg base CX0 11 e ed ["_law_script"] (spLaw K) := by
  refine D.F.ok scLaw (fun vs H Q E h => ?_) (fun cdv A outer s H vs Q E hr h => ?_)
  · obtain ⟨a, ns, rfl, _⟩ := h
    rfl
  obtain ⟨a, ns, rfl, h1, hl, q⟩ := h
  have o := Z.o
  have hu := hr.units
  refine ⟨_, (@pss_cons _ _ _ _ _ (@ps_set _ _ 1 _ _ _ _ scLaw.nd rfl (Or.inl rfl) (pe_op op_mod (pcallP Z.D1 Z.G1 hr Pl.N (NS.cons Pl.C NS.nil) (@pa_c _ _ _ _ _ Pl.N (pv 0) (@pa_c _ _ _ _ _ Pl.C pint pa_nil))) (pe_op op_pow pint pint)) (by rfl) (Or.inl rfl))
    (@pss_cons _ _ _ _ _ (@ps_set _ _ 2 _ _ _ _ scLaw.nd rfl (Or.inl rfl) (@pe_lst _ _ _ _ pa_nil) (by rfl) (Or.inl rfl))
    (@pss_cut _ _ _ _ _ (ps_for PassesOwn.never rfl (pi_range1 rfl o.range (@pa_c _ _ _ _ _ Pl.C pint pa_nil)) (pgn 3) (pss_one (ps_expr (pe_bm PySem.F.plainAttrs_list PySem.F.slot_list_append PySem.F.type_list_append mt_append (pv 2) (@pa_c _ _ _ _ _ Pl.L (@pe_lst _ _ _ _ (@pa_c _ _ _ _ _ Pl.M (pe_cmpR op_eq (pv 3) pint (nomark _)) (@pa_c _ _ _ _ _ Pl.M (pe_cmpR op_eq (pv 3) pint (nomark _)) (@pa_c _ _ _ _ _ Pl.M (pe_cmpR op_eq (pv 3) pint (nomark _)) (@pa_c _ _ _ _ _ Pl.M (pe_cmpR op_eq (pv 3) pint (nomark _)) (@pa_c _ _ _ _ _ Pl.M (pe_cmpR op_eq (pv 3) pint (nomark _)) (@pa_c _ _ _ _ _ Pl.M (pe_cmpR op_eq (pv 3) pint (nomark _)) (@pa_c _ _ _ _ _ Pl.C pe_bl (@pa_c _ _ _ _ _ Pl.C pe_bl pa_nil))))))))) pa_nil)))))
    (@pss_cons _ _ _ _ _ (@ps_set _ _ 4 _ _ _ _ scLaw.nd rfl (Or.inl rfl) (@pe_lst _ _ _ _ (@pa_c _ _ _ _ _ Pl.C pe_non (@pa_c _ _ _ _ _ Pl.C pe_str (@pa_c _ _ _ _ _ Pl.C pint (@pa_c _ _ _ _ _ Pl.C pint (@pa_c _ _ _ _ _ Pl.U (pe_un un_neg pint) (@pa_c _ _ _ _ _ Pl.C pint (@pa_c _ _ _ _ _ Pl.C pint (@pa_c _ _ _ _ _ Pl.C pint (@pa_c _ _ _ _ _ Pl.C pint (@pa_c _ _ _ _ _ Pl.C pint (@pa_c _ _ _ _ _ Pl.C pint (@pa_c _ _ _ _ _ Pl.C pint (@pa_c _ _ _ _ _ Pl.B (pe_op op_add pint (pv 1)) (@pa_c _ _ _ _ _ Pl.C pe_bl (@pa_c _ _ _ _ _ Pl.L (@pe_lst _ _ _ _ (@pa_c _ _ _ _ _ Pl.C pint pa_nil)) (@pa_c _ _ _ _ _ Pl.B (pe_op op_sub (pe_un un_neg pint) (pv 1)) pa_nil))))))))))))))))) (by rfl) (Or.inl rfl))
    (@pss_cons _ _ _ _ _ (ps_expr (pe_bm PySem.F.plainAttrs_list PySem.F.slot_list_append PySem.F.type_list_append mt_append (pv 4) (@pa_c _ _ _ _ _ Pl.B (pe_op op_mul (pe_op op_add pint (pe_op op_mod (pv 1) pint)) (pe_op op_add pint (pe_op op_mod (pe_op op_fdiv (pv 1) pint) pint))) pa_nil)))
    (@pss_cut _ _ _ _ _ (ps_if (pt_not (pt_val (pcallP Z.D3 Z.G3 hr Pl.N (NS.cons Pl.K (NS.cons Pl.N (NS.cons Pl.S NS.nil))) (@pa_c _ _ _ _ _ Pl.N (pe_glob (v := .ref (f 10)) (by rfl) Z.m0 rfl) (@pa_c _ _ _ _ _ Pl.K (pe_callTy (call_listR rfl) rfl o.list boot_listT (@pa_c _ _ _ _ _ Pl.K (pe_callTy call_rng1 rfl o.range boot_rangeT (@pa_c _ _ _ _ _ Pl.C pint pa_nil)) pa_nil)) (@pa_c _ _ _ _ _ Pl.N (pv 4) (@pa_c _ _ _ _ _ Pl.S (pe_ix ix_list (pv 2) pint (fun _ _ => rfl)) pa_nil))))))) (pss_one (ps_ret pe_bl)) pss_nil)
    (@pss_cons _ _ _ _ _ (@ps_set _ _ 5 _ _ _ _ scLaw.nd rfl (Or.inl rfl) (pcallP Z.D2 Z.G2 hr Pl.N (NS.cons Pl.C NS.nil) (@pa_c _ _ _ _ _ Pl.N (pv 0) (@pa_c _ _ _ _ _ Pl.C pint pa_nil))) (by rfl) (Or.inl rfl))
    (@pss_cons _ _ _ _ _ (ps_par (i := 6) (j := 7) rfl scLaw.nd rfl rfl (by decide) rfl rfl (@pa_c _ _ _ _ _ Pl.K (pe_callTy call_list_of rfl o.list boot_listT (@pa_c _ _ _ _ _ Pl.N (pv 5) pa_nil)) (@pa_c _ _ _ _ _ Pl.K (plen o (pv 5)) pa_nil)) (by kernel_rfl))
    (@pss_cons _ _ _ _ _ (@ps_set _ _ 8 _ _ _ _ scLaw.nd rfl (Or.inl rfl) (@pe_lst _ _ _ _ (@pa_c _ _ _ _ _ Pl.C pe_non (@pa_c _ _ _ _ _ Pl.T (@pe_tup _ _ _ _ _ pa_nil) (@pa_c _ _ _ _ _ Pl.T (@pe_tup _ _ _ _ _ (@pa_c _ _ _ _ _ Pl.C pint pa_nil)) (@pa_c _ _ _ _ _ Pl.C pe_str (@pa_c _ _ _ _ _ Pl.D pe_dnew (@pa_c _ _ _ _ _ Pl.C pint (@pa_c _ _ _ _ _ Pl.L (@pe_lst _ _ _ _ (@pa_c _ _ _ _ _ Pl.C pe_non pa_nil)) (@pa_c _ _ _ _ _ Pl.L (@pe_lst _ _ _ _ (@pa_c _ _ _ _ _ Pl.C pe_str pa_nil)) (@pa_c _ _ _ _ _ Pl.L (@pe_lst _ _ _ _ (@pa_c _ _ _ _ _ Pl.C pe_bl pa_nil)) (@pa_c _ _ _ _ _ Pl.L (@pe_lst _ _ _ _ (@pa_c _ _ _ _ _ Pl.C pint pa_nil)) (@pa_c _ _ _ _ _ Pl.L (@pe_lst _ _ _ _ (@pa_c _ _ _ _ _ Pl.B (pe_op op_add pint (pv 1)) pa_nil)) (@pa_c _ _ _ _ _ Pl.L (@pe_lst _ _ _ _ (@pa_c _ _ _ _ _ Pl.U (pe_un un_neg pint) pa_nil)) (@pa_c _ _ _ _ _ Pl.L (@pe_lst _ _ _ _ (@pa_c _ _ _ _ _ Pl.B (pe_op op_sub (pe_un un_neg pint) (pv 1)) pa_nil)) (@pa_c _ _ _ _ _ Pl.L (@pe_lst _ _ _ _ (@pa_c _ _ _ _ _ Pl.L (@pe_lst _ _ _ _ (@pa_c _ _ _ _ _ Pl.C pint pa_nil)) pa_nil)) (@pa_c _ _ _ _ _ Pl.L (@pe_lst _ _ _ _ (@pa_c _ _ _ _ _ Pl.C pint (@pa_c _ _ _ _ _ Pl.C pint pa_nil))) pa_nil)))))))))))))))) (by rfl) (Or.inl rfl))
    (@pss_cut _ _ _ _ _ (ps_for PassesOwn.never rfl (pi_range3 rfl o.range (@pa_c _ _ _ _ _ Pl.C pint (@pa_c _ _ _ _ _ Pl.N (pv 7) (@pa_c _ _ _ _ _ Pl.B (pe_op op_add pint (pe_op op_fdiv (pv 7) pint)) pa_nil)))) (pgn 9) (pss_one (ps_expr (pe_bm PySem.F.plainAttrs_list PySem.F.slot_list_append PySem.F.type_list_append mt_append (pv 8) (@pa_c _ _ _ _ _ Pl.B (pe_op op_cat (pe_op op_cat (pe_slice sl_list (pv 5) po_none (po_some (pv 9))) (@pe_lst _ _ _ _ (@pa_c _ _ _ _ _ Pl.S (pe_ix ix_tup (@pe_tup _ _ _ _ _ (@pa_c _ _ _ _ _ Pl.C pe_non (@pa_c _ _ _ _ _ Pl.C pe_str (@pa_c _ _ _ _ _ Pl.C pe_bl (@pa_c _ _ _ _ _ Pl.B (pe_op op_add pint (pv 1)) (@pa_c _ _ _ _ _ Pl.U (pe_un un_neg pint) pa_nil)))))) (pe_op op_mod (pv 9) pint) (fun _ _ => rfl)) pa_nil))) (pe_slice sl_list (pv 5) (po_some (pe_op op_add (pv 9) pint)) po_none)) pa_nil)))))
    (@pss_cut _ _ _ _ _ (ps_if (pt_not (pt_val (pcallP Z.D3 Z.G3 hr Pl.N (NS.cons Pl.K (NS.cons Pl.N (NS.cons Pl.S NS.nil))) (@pa_c _ _ _ _ _ Pl.N (pe_glob (v := .ref (f 11)) (by rfl) Z.m1 rfl) (@pa_c _ _ _ _ _ Pl.K (pe_callTy (call_listR rfl) rfl o.list boot_listT (@pa_c _ _ _ _ _ Pl.K (pe_callTy call_rng1 rfl o.range boot_rangeT (@pa_c _ _ _ _ _ Pl.C pint pa_nil)) pa_nil)) (@pa_c _ _ _ _ _ Pl.N (pv 8) (@pa_c _ _ _ _ _ Pl.S (pe_ix ix_list (pv 2) pint (fun _ _ => rfl)) pa_nil))))))) (pss_one (ps_ret pe_bl)) pss_nil)
    (@pss_cut _ _ _ _ _ (ps_if (pt_not (pt_val (pcallP Z.D3 Z.G3 hr Pl.N (NS.cons Pl.K (NS.cons Pl.N (NS.cons Pl.S NS.nil))) (@pa_c _ _ _ _ _ Pl.N (pe_glob (v := .ref (f 12)) (by rfl) Z.m2 rfl) (@pa_c _ _ _ _ _ Pl.K (pe_callTy (call_listR rfl) rfl o.list boot_listT (@pa_c _ _ _ _ _ Pl.K (pe_callTy call_rng1 rfl o.range boot_rangeT (@pa_c _ _ _ _ _ Pl.C pint pa_nil)) pa_nil)) (@pa_c _ _ _ _ _ Pl.N (pv 8) (@pa_c _ _ _ _ _ Pl.S (pe_ix ix_list (pv 2) pint (fun _ _ => rfl)) pa_nil))))))) (pss_one (ps_ret pe_bl)) pss_nil)
    (@pss_cut _ _ _ _ _ (ps_if (pt_not (pt_val (pcallP Z.D3 Z.G3 hr Pl.N (NS.cons Pl.L (NS.cons Pl.L (NS.cons Pl.S NS.nil))) (@pa_c _ _ _ _ _ Pl.N (pe_glob (v := .ref (f 13)) (by rfl) Z.m3 rfl) (@pa_c _ _ _ _ _ Pl.L (@pe_lst _ _ _ _ (@pa_c _ _ _ _ _ Pl.C pint (@pa_c _ _ _ _ _ Pl.C pint pa_nil))) (@pa_c _ _ _ _ _ Pl.L (@pe_lst _ _ _ _ (@pa_c _ _ _ _ _ Pl.L (@pe_lst _ _ _ _ pa_nil) (@pa_c _ _ _ _ _ Pl.L (@pe_lst _ _ _ _ (@pa_c _ _ _ _ _ Pl.C pint pa_nil)) (@pa_c _ _ _ _ _ Pl.L (@pe_lst _ _ _ _ (@pa_c _ _ _ _ _ Pl.C pint (@pa_c _ _ _ _ _ Pl.C pint pa_nil))) pa_nil)))) (@pa_c _ _ _ _ _ Pl.S (pe_ix ix_list (pv 2) pint (fun _ _ => rfl)) pa_nil))))))) (pss_one (ps_ret pe_bl)) pss_nil)
    (@pss_cut _ _ _ _ _ (ps_if (pt_not (pt_val (pcallP Z.D3 Z.G3 hr Pl.N (NS.cons Pl.L (NS.cons Pl.L (NS.cons Pl.S NS.nil))) (@pa_c _ _ _ _ _ Pl.N (pe_glob (v := .ref (f 14)) (by rfl) Z.m4 rfl) (@pa_c _ _ _ _ _ Pl.L (@pe_lst _ _ _ _ (@pa_c _ _ _ _ _ Pl.C pint (@pa_c _ _ _ _ _ Pl.C pint pa_nil))) (@pa_c _ _ _ _ _ Pl.L (@pe_lst _ _ _ _ (@pa_c _ _ _ _ _ Pl.C pe_non (@pa_c _ _ _ _ _ Pl.C pe_str (@pa_c _ _ _ _ _ Pl.U (pe_un un_neg pint) (@pa_c _ _ _ _ _ Pl.B (pe_op op_sub (pe_un un_neg pint) (pv 1)) (@pa_c _ _ _ _ _ Pl.C pe_bl (@pa_c _ _ _ _ _ Pl.L (@pe_lst _ _ _ _ (@pa_c _ _ _ _ _ Pl.C pint pa_nil)) pa_nil))))))) (@pa_c _ _ _ _ _ Pl.S (pe_ix ix_list (pv 2) pint (fun _ _ => rfl)) pa_nil))))))) (pss_one (ps_ret pe_bl)) pss_nil)
    (@pss_cut _ _ _ _ _ (@ps_for _ _ _ _ _ _ _ _ PassesOwn.never rfl (@pi_tup _ _ _ _ (@pe_tup _ _ _ _ _ (@pa_c _ _ _ _ _ Pl.L (@pe_lst _ _ _ _ (@pa_c _ _ _ _ _ Pl.C pint pa_nil)) (@pa_c _ _ _ _ _ Pl.L (@pe_lst _ _ _ _ (@pa_c _ _ _ _ _ Pl.C pint (@pa_c _ _ _ _ _ Pl.C pint pa_nil))) (@pa_c _ _ _ _ _ Pl.L (@pe_lst _ _ _ _ (@pa_c _ _ _ _ _ Pl.C pint (@pa_c _ _ _ _ _ Pl.C pint pa_nil))) (@pa_c _ _ _ _ _ Pl.L (@pe_lst _ _ _ _ (@pa_c _ _ _ _ _ Pl.C pint (@pa_c _ _ _ _ _ Pl.C pint (@pa_c _ _ _ _ _ Pl.C pint pa_nil)))) pa_nil)))))) (pgn 10) (pss_one (ps_if (pt_cmpR (op_neBs hu) (pcallP Z.D4 Z.G4 hr Pl.N (NS.cons Pl.C (NS.cons Pl.N NS.nil)) (@pa_c _ _ _ _ _ Pl.N (pe_glob (v := .ref (f 6)) (by rfl) Z.D6.m rfl) (@pa_c _ _ _ _ _ Pl.C pint (@pa_c _ _ _ _ _ Pl.N (pv 10) pa_nil)))) (pe_ix ix_list (pv 2) pint (fun _ _ => rfl)) (nomark _)) (pss_one (ps_ret pe_bl)) pss_nil)) (by intro _; rfl))
    (@pss_one _ _ _ (ps_ret (pe_and (pe_cmpR (op_eqL hu) (pv 5) (pv 6) (nomark _)) (pe_and (pe_cmpR (op_eqL hu) (pcallP Z.D5 Z.G5 hr Pl.C (NS.cons Pl.L (NS.cons Pl.L (NS.cons Pl.C NS.nil))) (@pa_c _ _ _ _ _ Pl.C pint (@pa_c _ _ _ _ _ Pl.L (@pe_lst _ _ _ _ (@pa_c _ _ _ _ _ Pl.C pint pa_nil)) (@pa_c _ _ _ _ _ Pl.L (@pe_lst _ _ _ _ (@pa_c _ _ _ _ _ Pl.C pint pa_nil)) (@pa_c _ _ _ _ _ Pl.C pint pa_nil))))) (@pe_lst _ _ _ _ (@pa_c _ _ _ _ _ Pl.C pint (@pa_c _ _ _ _ _ Pl.C pint pa_nil))) (nomark _)) (pe_one (pe_cmpR (op_eqL hu) (pcallX Z.D6 Z.G6 hr passF (@pa_c _ _ _ _ _ Pl.C pint (@pa_c _ _ _ _ _ Pl.L (@pe_lst _ _ _ _ (@pa_c _ _ _ _ _ Pl.C pint pa_nil)) pa_nil))) (@pe_lst _ _ _ _ (@pa_c _ _ _ _ _ Pl.C pint pa_nil)) (nomark _)))))))))))))))))))))), ?_⟩
  refine ⟨_, rfl, a, ns, 0, rfl, h1, by omega, _, _, rfl, rfl, ⟨by decide, by decide, by decide⟩, _, _, rfl, rfl, (by show (0 : Int) < 10 ^ Int.toNat 6; decide), ?_⟩
  dsimp only
  have hfar : 0 ≤ gt ns 0 % (10 : Int) ^ (6 : Int).toNat := Int.emod_nonneg _ (by decide)
  generalize gt ns 0 % (10 : Int) ^ (6 : Int).toNat = far at hfar ⊢
  refine ⟨Nat.zero_le _, fun da nda => ?_⟩
  refine ⟨fun σ Hw => ∃ x3, σ = [some (.ref a), some (.int far), some (.ref da), x3, none, none, none, none, none, none, none] ∧ SqL K Hw a (ns.map V.int) ∧ DueAt Hw da 6, ?_, ?_⟩
  · refine ⟨6, rfl, by decide, by decide, for_range (fun i σ Hw => ∃ x3, σ = [some (.ref a), some (.int far), some (.ref da), x3, none, none, none, none, none, none, none] ∧ Same H Hw ∧ DueAt Hw da i) ⟨none, rfl, same_new nda _, [], upd_same, rfl, fun j hj => absurd hj (Nat.not_lt_zero _)⟩ ?_ ?_⟩
    · rintro i σ Hw hi ⟨x3, rfl, sw, xs, w1, w2, w3⟩
      have hi6 : i < 6 := hi
      refine ⟨_, rfl, .inl ⟨rfl, _, SqL.of w1⟩, _, rfl, rfl, _, rfl, rfl, _, rfl, rfl, _, rfl, rfl, _, rfl, rfl, _, rfl, rfl, (by show 8 ≤ sizeLine; decide), fun l nl => ?_⟩
      rw [ks_eq i hi6] at *
      refine ⟨da, xs, _, rfl, rfl, same_new nl _ _ _ w1, (by rw [w2]; exact Nat.lt_of_lt_of_le hi6 (by decide)), _, rfl, sput (sw.trans (same_new nl _)) nda, DueAt.snoc w1 w2 w3 nl⟩
    · rintro σ Hw ⟨x3, rfl, sw, dw⟩
      exact ⟨x3, rfl, sw.seq h1, dw⟩
  clear h1 nda
  rintro σ H1 ⟨x3, rfl, h1, du⟩
  refine ⟨_, rfl, _, rfl, _, _, rfl, rfl, (by show 1 ≤ sizeLine; decide), fun pl npl => ?_⟩
  have w1 := same_new npl (.lst [.int 5])
  have e1 : (upd H1 pl (.lst [.int 5])) pl = some (.lst [.int 5]) := upd_same
  have h2 := w1.seq h1
  have du2 := du.same w1
  generalize upd H1 pl (.lst [.int 5]) = H2 at e1 h2 du2 ⊢
  clear w1 h1 du npl H1
  refine ⟨_, rfl, _, rfl, _, _, rfl, rfl, (by show 16 ≤ sizeLine; decide), fun pa npa => ?_⟩
  have hx : 2 ≤ 2 + far % 29 := by have := Int.emod_nonneg far (show (29 : Int) ≠ 0 by decide); omega
  have hx2 : far % 29 < 29 := Int.emod_lt_of_pos far (by decide)
  have hy : 2 ≤ 2 + far / 29 % 29 := by have := Int.emod_nonneg (far / 29) (show (29 : Int) ≠ 0 by decide); omega
  refine ⟨_, rfl, .inl ⟨rfl, _, SqL.of upd_same⟩, _, rfl, _, _, rfl, rfl, (by show (0 : Int) < 29; decide), _, _, rfl, rfl, _, rfl, _, _, rfl, rfl, ⟨by decide, by decide⟩, _, _, rfl, rfl, (by show (0 : Int) < 29; decide), _, _, rfl, rfl, _, _, rfl, rfl, .inl ⟨by omega, by omega⟩, ?_⟩
  refine ⟨pa, _, _, rfl, rfl, upd_same, (by show 16 < sizeLine; decide), ?_⟩
  have nP : ∀ v ∈ ([V.non, .str "5", .int 0, .int 1, .int (-5), .int 4, .int 9, .int 25, .int 961, .int 998, .int 999, .int 1009, .int (1009 + far), .bl true, .ref pl, .int (-1 - far)] ++ [.int ((2 + far % 29) * (2 + far / 29 % 29))] : List V), NotP H2 v :=
    all_snoc (all_cons (.inl .non) (all_cons (.inl (.str _)) (all_cons (notP_int fun h => by have := h.1; omega) (all_cons (notP_int fun h => by have := h.1; omega) (all_cons (notP_int fun h => by have := h.1; omega)
      (all_cons (notP_int (not_prime (d := 2) (by decide) (by decide) (by decide))) (all_cons (notP_int (not_prime (d := 3) (by decide) (by decide) (by decide))) (all_cons (notP_int (not_prime (d := 5) (by decide) (by decide) (by decide))) (all_cons (notP_int (not_prime (d := 31) (by decide) (by decide) (by decide)))
      (all_cons (notP_int fun h => by have := h.2.1; omega) (all_cons (notP_int fun h => by have := h.2.1; omega) (all_cons (notP_int fun h => by have := h.2.1; omega) (all_cons (notP_int fun h => by have := h.2.1; omega) (all_cons (.inl (.bl _)) (all_cons (.inl (.lst e1)) (all_cons (notP_int fun h => by have := h.1; omega) all_nil))))))))))))))))
      (notP_int (not_prod hx hy))
  have w2 : Same H2 (upd (upd H2 pa (.lst [V.non, .str "5", .int 0, .int 1, .int (-5), .int 4, .int 9, .int 25, .int 961, .int 998, .int 999, .int 1009, .int (1009 + far), .bl true, .ref pl, .int (-1 - far)])) pa (.lst ([V.non, .str "5", .int 0, .int 1, .int (-5), .int 4, .int 9, .int 25, .int 961, .int 998, .int 999, .int 1009, .int (1009 + far), .bl true, .ref pl, .int (-1 - far)] ++ [.int ((2 + far % 29) * (2 + far / 29 % 29))]))) := sput (same_new npa _) npa
  have e2 : (upd (upd H2 pa (.lst [V.non, .str "5", .int 0, .int 1, .int (-5), .int 4, .int 9, .int 25, .int 961, .int 998, .int 999, .int 1009, .int (1009 + far), .bl true, .ref pl, .int (-1 - far)])) pa (.lst ([V.non, .str "5", .int 0, .int 1, .int (-5), .int 4, .int 9, .int 25, .int 961, .int 998, .int 999, .int 1009, .int (1009 + far), .bl true, .ref pl, .int (-1 - far)] ++ [.int ((2 + far % 29) * (2 + far / 29 % 29))]))) pa = some (.lst ([V.non, .str "5", .int 0, .int 1, .int (-5), .int 4, .int 9, .int 25, .int 961, .int 998, .int 999, .int 1009, .int (1009 + far), .bl true, .ref pl, .int (-1 - far)] ++ [.int ((2 + far % 29) * (2 + far / 29 % 29))])) := upd_same
  have hz : ([V.non, .str "5", .int 0, .int 1, .int (-5), .int 4, .int 9, .int 25, .int 961, .int 998, .int 999, .int 1009, .int (1009 + far), .bl true, .ref pl, .int (-1 - far)] ++ [.int ((2 + far % 29) * (2 + far / 29 % 29))] : List V).length = 17 := rfl
  generalize ([V.non, .str "5", .int 0, .int 1, .int (-5), .int 4, .int 9, .int 25, .int 961, .int 998, .int 999, .int 1009, .int (1009 + far), .bl true, .ref pl, .int (-1 - far)] ++ [.int ((2 + far % 29) * (2 + far / 29 % 29))] : List V) = ps at nP w2 e2 hz ⊢
  generalize upd (upd H2 pa (.lst [V.non, .str "5", .int 0, .int 1, .int (-5), .int 4, .int 9, .int 25, .int 961, .int 998, .int 999, .int 1009, .int (1009 + far), .bl true, .ref pl, .int (-1 - far)])) pa (.lst ps) = H3 at w2 e2 ⊢
  have h3 := w2.seq h2
  have du3 := du2.same w2
  have nP3 : ∀ v ∈ ps, NotP H3 v := fun v hv => (nP v hv).same w2
  clear nP w2 h2 du2 npa e1 hx hx2 hy H2
  refine ⟨fun σ Hw => ∃ x4, σ = [some (.ref a), some (.int far), some (.ref da), x3, x4, none, none, none, none, none, none] ∧ SqL K Hw a (ns.map V.int) ∧ DueAt Hw da 6, ?_, ?_⟩
  · refine ⟨_, rfl, fun r nr => ⟨r, 8, rfl, upd_same, by decide, fun l nl => ?_⟩⟩
    have w4 := (same_new nr (.rng 0 8)).trans (same_new nl (.lst ((List.range 8).map fun i : Nat => V.int (i : Int))))
    obtain ⟨xs, u, y1, y2, y3⟩ := (du3.same w4).get (j := 0) (by decide)
    refine ⟨_, rfl, _, rfl, da, _, _, _, rfl, rfl, SqL.of y1, y2, _, _, _, _, l, pa, u, List.range 8, ps, _, 0, rfl, Z.a0, Z.e0, upd_same, w4 _ _ e2, by omega, y3, fun H' s' n hn v hv Q' E' hE => ?_, fun H' s' => ⟨true, rfl, iteF ?_⟩⟩
    · exact ⟨n, v, rfl, List.mem_range.mp hn, (nP3 v hv).same (w4.trans s'), hE⟩
    · exact ⟨_, rfl, (w4.trans s').seq h3, du3.same (w4.trans s')⟩
  clear h3 du3 e2 hz nP3
  rintro σ H1 ⟨x4, rfl, h1, du⟩
  refine ⟨_, rfl, a, ns, 5, rfl, h1, by omega, ok5, fun wa H2 row s2 nw hw hR hL => ?_⟩
  have du2 := du.same s2
  clear h1 du s2 nw
  refine ⟨_, rfl, wa, _, rfl, .inl hw.sq, fun ka nka => ?_⟩
  have w3 := same_new nka (.lst (row.map V.int))
  have hk : Ls (upd H2 ka (.lst (row.map V.int))) ka row := upd_same
  have hw3 := hw.same w3
  have du3 := du2.same w3
  generalize upd H2 ka (.lst (row.map V.int)) = H3 at hk hw3 du3 ⊢
  clear w3 hw du2 nka H2
  refine ⟨_, rfl, wa, _, rfl, .inl hw3.sq, _, _, rfl, ?_⟩
  rw [List.length_map]
  refine ⟨(by show 0 ≤ sizeLine; decide), fun b4 nb4 => ?_⟩
  have v4 := same_new nb4 (.tup [])
  have e4 : (upd H3 b4 (.tup [])) b4 = some (.tup []) := upd_same
  generalize upd H3 b4 (.tup []) = H4 at v4 e4 ⊢
  refine ⟨(by show 1 ≤ sizeLine; decide), fun b5 nb5 => ?_⟩
  have v5 := same_new nb5 (.tup [.int 1])
  have e5 : (upd H4 b5 (.tup [.int 1])) b5 = some (.tup [.int 1]) := upd_same
  generalize upd H4 b5 (.tup [.int 1]) = H5 at v5 e5 ⊢
  intro b6 nb6
  have v6 := same_new nb6 (.dK [])
  have e6 : (upd H5 b6 (.dK [])) b6 = some (.dK []) := upd_same
  generalize upd H5 b6 (.dK []) = H6 at v6 e6 ⊢
  refine ⟨(by show 1 ≤ sizeLine; decide), fun b7 nb7 => ?_⟩
  have v7 := same_new nb7 (.lst [.non])
  have e7 : (upd H6 b7 (.lst [.non])) b7 = some (.lst [.non]) := upd_same
  generalize upd H6 b7 (.lst [.non]) = H7 at v7 e7 ⊢
  refine ⟨(by show 1 ≤ sizeLine; decide), fun b8 nb8 => ?_⟩
  have v8 := same_new nb8 (.lst [.str "1"])
  have e8 : (upd H7 b8 (.lst [.str "1"])) b8 = some (.lst [.str "1"]) := upd_same
  generalize upd H7 b8 (.lst [.str "1"]) = H8 at v8 e8 ⊢
  refine ⟨(by show 1 ≤ sizeLine; decide), fun b9 nb9 => ?_⟩
  have v9 := same_new nb9 (.lst [.bl true])
  have e9 : (upd H8 b9 (.lst [.bl true])) b9 = some (.lst [.bl true]) := upd_same
  generalize upd H8 b9 (.lst [.bl true]) = H9 at v9 e9 ⊢
  refine ⟨(by show 1 ≤ sizeLine; decide), fun b10 nb10 => ?_⟩
  have v10 := same_new nb10 (.lst [.int 5])
  have e10 : (upd H9 b10 (.lst [.int 5])) b10 = some (.lst [.int 5]) := upd_same
  generalize upd H9 b10 (.lst [.int 5]) = H10 at v10 e10 ⊢
  refine ⟨_, rfl, _, _, rfl, rfl, (by show 1 ≤ sizeLine; decide), fun b11 nb11 => ?_⟩
  have v11 := same_new nb11 (.lst [.int (5 + far)])
  have e11 : (upd H10 b11 (.lst [.int (5 + far)])) b11 = some (.lst [.int (5 + far)]) := upd_same
  generalize upd H10 b11 (.lst [.int (5 + far)]) = H11 at v11 e11 ⊢
  refine ⟨_, rfl, (by show 1 ≤ sizeLine; decide), fun b12 nb12 => ?_⟩
  have v12 := same_new nb12 (.lst [.int (-1)])
  have e12 : (upd H11 b12 (.lst [.int (-1)])) b12 = some (.lst [.int (-1)]) := upd_same
  generalize upd H11 b12 (.lst [.int (-1)]) = H12 at v12 e12 ⊢
  refine ⟨_, rfl, _, rfl, _, _, rfl, rfl, (by show 1 ≤ sizeLine; decide), fun b13 nb13 => ?_⟩
  have v13 := same_new nb13 (.lst [.int (-1 - far)])
  have e13 : (upd H12 b13 (.lst [.int (-1 - far)])) b13 = some (.lst [.int (-1 - far)]) := upd_same
  generalize upd H12 b13 (.lst [.int (-1 - far)]) = H13 at v13 e13 ⊢
  refine ⟨(by show 1 ≤ sizeLine; decide), fun b14 nb14 => ?_⟩
  have v14 := same_new nb14 (.lst [.int 1])
  have e14 : (upd H13 b14 (.lst [.int 1])) b14 = some (.lst [.int 1]) := upd_same
  generalize upd H13 b14 (.lst [.int 1]) = H14 at v14 e14 ⊢
  refine ⟨(by show 1 ≤ sizeLine; decide), fun b15 nb15 => ?_⟩
  have v15 := same_new nb15 (.lst [.ref b14])
  have e15 : (upd H14 b15 (.lst [.ref b14])) b15 = some (.lst [.ref b14]) := upd_same
  generalize upd H14 b15 (.lst [.ref b14]) = H15 at v15 e15 ⊢
  refine ⟨(by show 2 ≤ sizeLine; decide), fun b16 nb16 => ?_⟩
  have v16 := same_new nb16 (.lst [.int 0, .int 5])
  have e16 : (upd H15 b16 (.lst [.int 0, .int 5])) b16 = some (.lst [.int 0, .int 5]) := upd_same
  generalize upd H15 b16 (.lst [.int 0, .int 5]) = H16 at v16 e16 ⊢
  have nR : ∀ v ∈ ([V.non, .ref b4, .ref b5, .str "1", .ref b6, .int 1, .ref b7, .ref b8, .ref b9, .ref b10, .ref b11, .ref b12, .ref b13, .ref b15, .ref b16] : List V), NotR 5 H16 v := all_cons (.inl .non) (all_cons (.inl (.tup (v16 _ _ (v15 _ _ (v14 _ _ (v13 _ _ (v12 _ _ (v11 _ _ (v10 _ _ (v9 _ _ (v8 _ _ (v7 _ _ (v6 _ _ (v5 _ _ e4)))))))))))))) (all_cons (.inl (.tup (v16 _ _ (v15 _ _ (v14 _ _ (v13 _ _ (v12 _ _ (v11 _ _ (v10 _ _ (v9 _ _ (v8 _ _ (v7 _ _ (v6 _ _ e5))))))))))))) (all_cons (.inl (.str _)) (all_cons (.inl (.dic (v16 _ _ (v15 _ _ (v14 _ _ (v13 _ _ (v12 _ _ (v11 _ _ (v10 _ _ (v9 _ _ (v8 _ _ (v7 _ _ e6)))))))))))) (all_cons (.inl (.int _)) (all_cons (notR_one (v16 _ _ (v15 _ _ (v14 _ _ (v13 _ _ (v12 _ _ (v11 _ _ (v10 _ _ (v9 _ _ (v8 _ _ e7))))))))) (.inl .non)) (all_cons (notR_one (v16 _ _ (v15 _ _ (v14 _ _ (v13 _ _ (v12 _ _ (v11 _ _ (v10 _ _ (v9 _ _ e8)))))))) (.inl (.str _))) (all_cons (notR_one (v16 _ _ (v15 _ _ (v14 _ _ (v13 _ _ (v12 _ _ (v11 _ _ (v10 _ _ e9))))))) (.inl (.bl _))) (all_cons (notR_one (v16 _ _ (v15 _ _ (v14 _ _ (v13 _ _ (v12 _ _ (v11 _ _ e10)))))) (.inr ⟨_, rfl, by omega⟩)) (all_cons (notR_one (v16 _ _ (v15 _ _ (v14 _ _ (v13 _ _ (v12 _ _ e11))))) (.inr ⟨_, rfl, by omega⟩)) (all_cons (notR_one (v16 _ _ (v15 _ _ (v14 _ _ (v13 _ _ e12)))) (.inr ⟨_, rfl, by omega⟩)) (all_cons (notR_one (v16 _ _ (v15 _ _ (v14 _ _ e13))) (.inr ⟨_, rfl, by omega⟩)) (all_cons (notR_one (v16 _ _ e15) (.inl (.lst (v16 _ _ (v15 _ _ e14))))) (all_cons (.inr ⟨_, _, rfl, e16, all_cons (.inl ⟨_, rfl⟩) (all_cons (.inl ⟨_, rfl⟩) all_nil), _, List.mem_cons_of_mem _ (List.mem_singleton.mpr rfl), .inr ⟨_, rfl, by omega⟩⟩) (all_nil)))))))))))))))
  have vv : Same H3 H16 := ((((((((((((v4.trans v5).trans v6).trans v7).trans v8).trans v9).trans v10).trans v11).trans v12).trans v13).trans v14).trans v15).trans v16)
  clear v4 e4 nb4 v5 e5 nb5 v6 e6 nb6 v7 e7 nb7 v8 e8 nb8 v9 e9 nb9 v10 e10 nb10 v11 e11 nb11 v12 e12 nb12 v13 e13 nb13 v14 e14 nb14 v15 e15 nb15 v16 e16 nb16
  have hk4 := hk.same vv
  have hw4 := hw3.same vv
  have du4 := du3.same vv
  clear hk hw3 du3 vv
  refine ⟨(by show 15 ≤ sizeLine; decide), fun ba nba => ?_⟩
  have R5 : Row7 (upd H16 ba (.lst [V.non, .ref b4, .ref b5, .str "1", .ref b6, .int 1, .ref b7, .ref b8, .ref b9, .ref b10, .ref b11, .ref b12, .ref b13, .ref b15, .ref b16])) da wa ka ba row [V.non, .ref b4, .ref b5, .str "1", .ref b6, .int 1, .ref b7, .ref b8, .ref b9, .ref b10, .ref b11, .ref b12, .ref b13, .ref b15, .ref b16] := ⟨upd_same, H16, nba, same_new nba _, du4, hw4, hk4, nR⟩
  have hz : ([V.non, .ref b4, .ref b5, .str "1", .ref b6, .int 1, .ref b7, .ref b8, .ref b9, .ref b10, .ref b11, .ref b12, .ref b13, .ref b15, .ref b16] : List V).length = 15 := rfl
  clear hk4 hw4 du4 nR nba
  generalize ([V.non, .ref b4, .ref b5, .str "1", .ref b6, .int 1, .ref b7, .ref b8, .ref b9, .ref b10, .ref b11, .ref b12, .ref b13, .ref b15, .ref b16] : List V) = xs at R5 hz ⊢
  generalize upd H16 ba (.lst xs) = H5 at R5 ⊢
  have hrl : row.length ≤ 63 := by omega
  refine ⟨fun σ Hw => ∃ x9 ys, σ = [some (.ref a), some (.int far), some (.ref da), x3, x4, some (.ref wa), some (.ref ka), some (.int row.length), some (.ref ba), x9, none] ∧ Row7 Hw da wa ka ba row ys ∧ ys.length ≤ 1000, ?_, ?_⟩
  · refine ⟨_, rfl, _, rfl, _, _, rfl, rfl, ⟨by decide, by decide⟩, _, _, rfl, rfl, _, _, _, rfl, ⟨by decide, by decide, by omega, by omega, by omega, by omega⟩, ?_⟩
    have hst : 0 < 1 + (row.length : Int) / 6 := by omega
    have hn : rngN 0 (row.length : Int) (1 + (row.length : Int) / 6) ≤ 63 := by
      unfold rngN
      split
      · have : ((row.length : Int) - 0 - 1) / (1 + (row.length : Int) / 6) ≤ (row.length : Int) - 0 - 1 := Int.ediv_le_self _ (by omega)
        omega
      · omega
    have hin : ∀ i : Nat, i < rngN 0 (row.length : Int) (1 + (row.length : Int) / 6) → 0 ≤ (0 : Int) + (i : Int) * (1 + (row.length : Int) / 6) := fun i _ => by
      have := Int.mul_nonneg (show 0 ≤ (i : Int) by omega) (show 0 ≤ 1 + (row.length : Int) / 6 by omega)
      omega
    refine for_rangeS (fun i σ Hw => ∃ x9 ys, σ = [some (.ref a), some (.int far), some (.ref da), x3, x4, some (.ref wa), some (.ref ka), some (.int row.length), some (.ref ba), x9, none] ∧ Row7 Hw da wa ka ba row ys ∧ ys.length = 15 + i) ⟨none, xs, rfl, R5, hz⟩ ?_ ?_
    · rintro i σ Hw hi ⟨x9, ys, rfl, R, hy⟩
      obtain ⟨n, hn0⟩ : ∃ n : Nat, (0 : Int) + (i : Int) * (1 + (row.length : Int) / 6) = (n : Int) := ⟨_, (Int.toNat_of_nonneg (hin i hi)).symm⟩
      rw [hn0]
      refine ⟨_, rfl, .inl ⟨rfl, _, SqL.of R.1⟩, _, rfl, _, rfl, _, rfl, wa, _, rfl, R.ow.sq, fun c1 m1 => ?_⟩
      rw [cut_to]
      have u1 := same_new m1 (.lst ((row.take n).map V.int))
      have g1 : (upd Hw c1 (.lst ((row.take n).map V.int))) c1 = some (.lst ((row.take n).map V.int)) := upd_same
      generalize upd Hw c1 (.lst ((row.take n).map V.int)) = G1 at u1 g1 ⊢
      refine ⟨_, rfl, _, _, rfl, rfl, _, rfl, (by show 5 ≤ sizeLine; decide), fun tt ntt => ?_⟩
      have u2 := same_new ntt (.tup [.non, .str "1", .bl true, .int (5 + far), .int (-1)])
      have g2 : (upd G1 tt (.tup [.non, .str "1", .bl true, .int (5 + far), .int (-1)])) tt = some (.tup [.non, .str "1", .bl true, .int (5 + far), .int (-1)]) := upd_same
      have g1 := u2 _ _ g1
      generalize upd G1 tt (.tup [.non, .str "1", .bl true, .int (5 + far), .int (-1)]) = G2 at u2 g2 g1 ⊢
      have hm : n % 5 < 5 := Nat.mod_lt _ (by decide)
      obtain ⟨x, hx, hbx⟩ : ∃ x : V, [V.non, .str "1", .bl true, .int (5 + far), .int (-1)][n % 5]? = some x ∧ ∀ Hz : Hp, BadIt 5 Hz x := by
        match n % 5, hm with
        | 0, _ => exact ⟨_, rfl, fun _ => .inl .non⟩
        | 1, _ => exact ⟨_, rfl, fun _ => .inl (.str _)⟩
        | 2, _ => exact ⟨_, rfl, fun _ => .inl (.bl _)⟩
        | 3, _ => exact ⟨_, rfl, fun _ => .inr ⟨_, rfl, by omega⟩⟩
        | 4, _ => exact ⟨_, rfl, fun _ => .inr ⟨_, rfl, by omega⟩⟩
      have em : (n : Int) % 5 = ((n % 5 : Nat) : Int) := by omega
      refine ⟨_, rfl, _, _, rfl, rfl, (by show (0 : Int) < 5; decide), tt, _, _, _, rfl, rfl, SqT.of g2, (by rw [em]; exact atI_nat hx), (by show 1 ≤ sizeLine; decide), fun z1 mz => ?_⟩
      have u3 := same_new mz (.lst [x])
      have g3 : (upd G2 z1 (.lst [x])) z1 = some (.lst [x]) := upd_same
      have g1 := u3 _ _ g1
      generalize upd G2 z1 (.lst [x]) = G3 at u3 g3 g1 ⊢
      refine ⟨c1, z1, _, _, rfl, rfl, g1, g3, (by rw [List.length_map, List.length_take]; exact small (by show min n row.length + 1 ≤ 10000; omega)), fun c2 m2 => ?_⟩
      have u4 := same_new m2 (.lst ((row.take n).map V.int ++ [x]))
      have g4 : (upd G3 c2 (.lst ((row.take n).map V.int ++ [x]))) c2 = some (.lst ((row.take n).map V.int ++ [x])) := upd_same
      generalize upd G3 c2 (.lst ((row.take n).map V.int ++ [x])) = G4 at u4 g4 ⊢
      have t4 := ((u1.trans u2).trans u3).trans u4
      refine ⟨_, rfl, _, rfl, _, _, rfl, rfl, _, rfl, wa, _, rfl, (R.ow.same t4).sq, fun c3 m3 => ?_⟩
      rw [show cutV (row.map V.int) (some ((n : Int) + 1)) none = (row.drop (n + 1)).map V.int from cut_fromA (lo := n + 1)]
      have u5 := same_new m3 (.lst ((row.drop (n + 1)).map V.int))
      refine ⟨c2, c3, _, _, rfl, rfl, u5 _ _ g4, upd_same, (by rw [List.length_map, List.length_append, List.length_map, List.length_take, List.length_drop]; exact small (by show min n row.length + 1 + (row.length - (n + 1)) ≤ 10000; omega)), fun r nr => ?_⟩
      have t5 := t4.trans u5
      have u6 := same_new nr (.lst ((row.take n).map V.int ++ [x] ++ (row.drop (n + 1)).map V.int))
      have t6 := t5.trans u6
      have rb : Hw r = none := t5.free nr
      refine ⟨ba, ys, _, rfl, rfl, t6 _ _ R.1, (by rw [hy]; exact Nat.lt_of_lt_of_le (show 15 + i < 1000 by omega) (by decide)), _, _, rfl, R.snoc t6 rb upd_same (fun Hz hz => notR_put hz (hbx Hz)), by rw [List.length_append, hy]; rfl⟩
    · rintro σ Hw ⟨x9, ys, rfl, R, hy⟩
      exact ⟨x9, ys, rfl, R, by omega⟩
  clear R5 hz
  rintro σ H1 ⟨x9, ys, rfl, R, hy⟩
  refine ⟨fun σ Hw => σ = [some (.ref a), some (.int far), some (.ref da), x3, x4, some (.ref wa), some (.ref ka), some (.int row.length), some (.ref ba), x9, none] ∧ Row7 Hw da wa ka ba row ys, ?_, ?_⟩
  · refine ⟨_, rfl, fun r nr => ⟨r, 6, rfl, upd_same, by decide, fun l nl => ?_⟩⟩
    have w4 := (same_new nr (.rng 0 6)).trans (same_new nl (.lst ((List.range 6).map fun i : Nat => V.int (i : Int))))
    obtain ⟨zs, u, y1, y2, y3⟩ := (R.du.same w4).get (j := 1) (by decide)
    refine ⟨_, rfl, _, rfl, da, _, _, _, rfl, rfl, SqL.of y1, y2, _, _, _, _, l, ba, u, List.range 6, ys, _, 1, rfl, Z.a1, Z.e1, upd_same, w4 _ _ R.1, hy, y3, fun H' s' n hn v hv Q' E' hE => ?_, fun H' s' => ⟨true, rfl, iteF ?_⟩⟩
    · exact ⟨n, v, rfl, List.mem_range.mp hn, (R.all v hv).same (w4.trans s'), hE⟩
    · exact ⟨rfl, R.same (w4.trans s')⟩
  clear R
  rintro σ H2 ⟨rfl, R⟩
  refine ⟨fun σ Hw => σ = [some (.ref a), some (.int far), some (.ref da), x3, x4, some (.ref wa), some (.ref ka), some (.int row.length), some (.ref ba), x9, none] ∧ DueAt Hw da 6 ∧ Ls Hw wa row ∧ Ls Hw ka row, ?_, ?_⟩
  · refine ⟨_, rfl, fun r nr => ⟨r, 6, rfl, upd_same, by decide, fun l nl => ?_⟩⟩
    have w4 := (same_new nr (.rng 0 6)).trans (same_new nl (.lst ((List.range 6).map fun i : Nat => V.int (i : Int))))
    obtain ⟨zs, u, y1, y2, y3⟩ := (R.du.same w4).get (j := 2) (by decide)
    refine ⟨_, rfl, _, rfl, da, _, _, _, rfl, rfl, SqL.of y1, y2, _, _, _, _, l, ba, u, List.range 6, ys, _, 2, rfl, Z.a2, Z.e2, upd_same, w4 _ _ R.1, hy, y3, fun H' s' n hn v hv Q' E' hE => ?_, fun H' s' => ⟨true, rfl, iteF ?_⟩⟩
    · exact ⟨n, v, rfl, List.mem_range.mp hn, (R.all v hv).same (w4.trans s'), hE⟩
    · exact ⟨rfl, R.du.same (w4.trans s'), R.ow.same (w4.trans s'), R.kp.same (w4.trans s')⟩
  clear R hy ys
  rintro σ H3 ⟨rfl, du, hw, hk⟩
  refine ⟨fun σ Hw => σ = [some (.ref a), some (.int far), some (.ref da), x3, x4, some (.ref wa), some (.ref ka), some (.int row.length), some (.ref ba), x9, none] ∧ DueAt Hw da 6 ∧ Ls Hw wa row ∧ Ls Hw ka row, ?_, ?_⟩
  · refine ⟨(by show 2 ≤ sizeLine; decide), fun dl ndl => ⟨Nat.zero_le _, fun l0 n0 => ⟨(by show 1 ≤ sizeLine; decide), fun l1 n1 => ⟨(by show 2 ≤ sizeLine; decide), fun l2 n2 => ⟨(by show 3 ≤ sizeLine; decide), fun tl ntl => ?_⟩⟩⟩⟩⟩
    have v1 := same_new ndl (.lst [.int 0, .int 1])
    have v2 := same_new n0 (.lst [])
    have v3 := same_new n1 (.lst [.int 1])
    have v4 := same_new n2 (.lst [.int 1, .int 2])
    have v5 := same_new ntl (.lst [.ref l0, .ref l1, .ref l2])
    have w4 := (((v1.trans v2).trans v3).trans v4).trans v5
    obtain ⟨zs, u, y1, y2, y3⟩ := (du.same w4).get (j := 3) (by decide)
    refine ⟨_, rfl, da, _, _, _, rfl, rfl, SqL.of y1, y2, _, _, _, _, dl, tl, u, [0, 1], [.ref l0, .ref l1, .ref l2], _, 3, rfl, Z.a3, Z.e3, v5 _ _ (v4 _ _ (v3 _ _ (v2 _ _ upd_same))), upd_same, (by show _ ≤ 1000; exact Nat.le_of_ble_eq_true rfl), y3, fun H' s' n hn v hv Q' E' hE => ?_, fun H' s' => ⟨true, rfl, iteF ?_⟩⟩
    · have hn2 : n < 2 := by
        rcases List.mem_cons.mp hn with rfl | hn
        · decide
        · rw [List.mem_singleton.mp hn]; decide
      rcases List.mem_cons.mp hv with rfl | hv
      · exact ⟨n, l0, [], rfl, hn2, s' _ _ (v5 _ _ (v4 _ _ (v3 _ _ upd_same))), r5 rfl, by decide, hE⟩
      rcases List.mem_cons.mp hv with rfl | hv
      · exact ⟨n, l1, [1], rfl, hn2, s' _ _ (v5 _ _ (v4 _ _ upd_same)), r5 rfl, by decide, hE⟩
      · rw [List.mem_singleton.mp hv]
        exact ⟨n, l2, [1, 2], rfl, hn2, s' _ _ (v5 _ _ upd_same), r5 rfl, by decide, hE⟩
    · exact ⟨rfl, du.same (w4.trans s'), hw.same (w4.trans s'), hk.same (w4.trans s')⟩
  clear du hw hk
  rintro σ H4 ⟨rfl, du, hw, hk⟩
  refine ⟨fun σ Hw => σ = [some (.ref a), some (.int far), some (.ref da), x3, x4, some (.ref wa), some (.ref ka), some (.int row.length), some (.ref ba), x9, none] ∧ DueAt Hw da 6 ∧ Ls Hw wa row ∧ Ls Hw ka row, ?_, ?_⟩
  · refine ⟨(by show 2 ≤ sizeLine; decide), fun dl ndl => ⟨_, rfl, _, rfl, _, rfl, _, _, rfl, rfl, (by show 1 ≤ sizeLine; decide), fun l1 n1 => ⟨(by show 6 ≤ sizeLine; decide), fun tl ntl => ?_⟩⟩⟩
    have v1 := same_new ndl (.lst [.int 0, .int 1])
    have v3 := same_new n1 (.lst [.int 1])
    have v5 := same_new ntl (.lst [.non, .str "1", .int (-1), .int (-1 - far), .bl true, .ref l1])
    have w4 := (v1.trans v3).trans v5
    obtain ⟨zs, u, y1, y2, y3⟩ := (du.same w4).get (j := 4) (by decide)
    refine ⟨_, rfl, da, _, _, _, rfl, rfl, SqL.of y1, y2, _, _, _, _, dl, tl, u, [0, 1], [.non, .str "1", .int (-1), .int (-1 - far), .bl true, .ref l1], _, 4, rfl, Z.a4, Z.e4, v5 _ _ (v3 _ _ upd_same), upd_same, (by show _ ≤ 1000; exact Nat.le_of_ble_eq_true rfl), y3, fun H' s' n hn v hv Q' E' hE => ?_, fun H' s' => ⟨true, rfl, iteF ?_⟩⟩
    · have hn2 : n < 2 := by
        rcases List.mem_cons.mp hn with rfl | hn
        · decide
        · rw [List.mem_singleton.mp hn]; decide
      refine ⟨n, v, rfl, hn2, ?_, hE⟩
      exact all_cons (p := NotC H') (.inl .non) (all_cons (.inl (.str _)) (all_cons (.inr ⟨_, rfl, by decide⟩) (all_cons (.inr ⟨_, rfl, by omega⟩) (all_cons (.inl (.bl _)) (all_cons (.inl (.lst (s' _ _ (v5 _ _ upd_same)))) all_nil))))) v hv
    · exact ⟨rfl, du.same (w4.trans s'), hw.same (w4.trans s'), hk.same (w4.trans s')⟩
  clear du hw hk
  rintro σ H5 ⟨rfl, du, hw, hk⟩
  refine ⟨fun σ Hw => ∃ x10, σ = [some (.ref a), some (.int far), some (.ref da), x3, x4, some (.ref wa), some (.ref ka), some (.int row.length), some (.ref ba), x9, x10] ∧ Ls Hw wa row ∧ Ls Hw ka row, ?_, ?_⟩
  · refine ⟨(by show 1 ≤ sizeLine; decide), fun l1 n1 => ⟨(by show 2 ≤ sizeLine; decide), fun l2 n2 => ⟨(by show 2 ≤ sizeLine; decide), fun l3 n3 => ⟨(by show 3 ≤ sizeLine; decide), fun l4 n4 => ⟨(by show 4 ≤ sizeLine; decide), fun tl ntl => ?_⟩⟩⟩⟩⟩
    have v1 := same_new n1 (.lst [.int 0])
    have v2 := same_new n2 (.lst [.int 1, .int 0])
    have v3 := same_new n3 (.lst [.int 0, .int 0])
    have v4 := same_new n4 (.lst [.int 4, .int 3, .int 0])
    have v5 := same_new ntl (.tup [.ref l1, .ref l2, .ref l3, .ref l4])
    have w4 := (((v1.trans v2).trans v3).trans v4).trans v5
    have ht : (upd (upd (upd (upd (upd H5 l1 (.lst [.int 0])) l2 (.lst [.int 1, .int 0])) l3 (.lst [.int 0, .int 0])) l4 (.lst [.int 4, .int 3, .int 0])) tl (.tup [.ref l1, .ref l2, .ref l3, .ref l4])) tl = some (.tup [.ref l1, .ref l2, .ref l3, .ref l4]) := upd_same
    have hr4 : ∀ x ∈ ([.ref l1, .ref l2, .ref l3, .ref l4] : List V), ∃ (l : Addr) (rule : List Int), x = .ref l ∧ Ls (upd (upd (upd (upd (upd H5 l1 (.lst [.int 0])) l2 (.lst [.int 1, .int 0])) l3 (.lst [.int 0, .int 0])) l4 (.lst [.int 4, .int 3, .int 0])) tl (.tup [.ref l1, .ref l2, .ref l3, .ref l4])) l rule ∧ Rests 5 rule ∧ 0 < rule.length ∧ rule.length ≤ 100 ∧ gt rule (rule.length - 1) = 0 :=
      all_cons ⟨l1, [0], rfl, v5 _ _ (v4 _ _ (v3 _ _ (v2 _ _ upd_same))), r5 rfl, by decide, by decide, rfl⟩ (all_cons ⟨l2, [1, 0], rfl, v5 _ _ (v4 _ _ (v3 _ _ upd_same)), r5 rfl, by decide, by decide, rfl⟩ (all_cons ⟨l3, [0, 0], rfl, v5 _ _ (v4 _ _ upd_same), r5 rfl, by decide, by decide, rfl⟩ (all_cons ⟨l4, [4, 3, 0], rfl, v5 _ _ upd_same, r5 rfl, by decide, by decide, rfl⟩ all_nil)))
    have du4 := du.same w4
    have hw4 := hw.same w4
    have hk4 := hk.same w4
    clear v1 v2 v3 v4 v5 w4 n1 n2 n3 n4 ntl du hw hk
    generalize upd (upd (upd (upd (upd H5 l1 (.lst [.int 0])) l2 (.lst [.int 1, .int 0])) l3 (.lst [.int 0, .int 0])) l4 (.lst [.int 4, .int 3, .int 0])) tl (.tup [.ref l1, .ref l2, .ref l3, .ref l4]) = H6 at ht hr4 du4 hw4 hk4 ⊢
    generalize ([.ref l1, .ref l2, .ref l3, .ref l4] : List V) = ts at ht hr4
    refine ⟨tl, rfl, ⟨_, SqT.of ht⟩, for_tup (xs := ts) (fun _ σ Hw => ∃ x10, σ = [some (.ref a), some (.int far), some (.ref da), x3, x4, some (.ref wa), some (.ref ka), some (.int row.length), some (.ref ba), x9, x10] ∧ Same H6 Hw) ⟨none, rfl, Same.refl _⟩ (fun i σ Hw _ h => ?_) ?_ ?_⟩
    · obtain ⟨_, _, sw⟩ := h
      exact SqT.of (sw _ _ ht)
    · rintro i x σ Hw hx ⟨x10, rfl, sw⟩
      obtain ⟨l, rule, rfl, hL, hR, h0, h100, hz⟩ := hr4 x (List.mem_of_getElem? hx)
      refine ⟨_, rfl, f 6, d 6, ["prime", "rule"], spBack (c 6), .int 5, .ref l, c 6, 5, rfl, ⟨Z.D6.F.kp, Z.D6.b, Z.G6.mono (by decide)⟩, Z.e5, fun Q' E' hE => ?_, fun r H7 s7 nr hr7 => ?_⟩
      · exact ⟨5, l, rule, rfl, hL.same sw, .inr (.inr (.inl rfl)), hR, h100, fun z => absurd h0 (by rw [z]; decide), fun _ _ => hE _ (Same.refl _), fun _ z => absurd hz z⟩
      · obtain ⟨zs, u, y1, y2, y3⟩ := (du4.same (sw.trans s7)).get (j := 5) (by decide)
        exact ⟨_, rfl, da, _, _, _, rfl, rfl, SqL.of y1, y2, r, u, ks 5, ks 5, rfl, rfl, SqL.of hr7, SqL.of y3, _, rfl, iteNd rfl ⟨_, rfl, sw.trans s7⟩⟩
    · rintro σ Hw ⟨x10, rfl, sw⟩
      exact ⟨x10, rfl, hw4.same sw, hk4.same sw⟩
  clear du hw hk
  rintro σ H6 ⟨x10, rfl, hw, hk⟩
  refine ⟨_, rfl, _, rfl, wa, ka, row, row, rfl, rfl, hw.sq, hk.sq, true, by rw [decide_eq_true rfl], iteT ?_⟩
  refine ⟨(by show 1 ≤ sizeLine; decide), fun l1 n1 => ⟨(by show 1 ≤ sizeLine; decide), fun l2 n2 => ?_⟩⟩
  have v1 := same_new n1 (.lst [.int 996])
  have v2 := same_new n2 (.lst [.int 996])
  refine ⟨997, l1, l2, [996], [996], 1, rfl, v2 _ _ upd_same, upd_same, ⟨ones_of (by omega), rA, rA, by decide, by decide⟩, by decide, by decide, fun r H7 s7 nr hr7 => ?_⟩
  have ev : ext 997 [996] [996] 1 = [996, 1] := by decide +kernel
  rw [ev] at hr7
  refine ⟨(by show 2 ≤ sizeLine; decide), fun l3 n3 => ⟨r, l3, [996, 1], [996, 1], rfl, rfl, (hr7.same (same_new n3 _)).sq, SqL.of upd_same, true, by rw [decide_eq_true rfl], iteT ?_⟩⟩
  refine ⟨(by show 1 ≤ sizeLine; decide), fun l4 n4 => ?_⟩
  refine ⟨2, l4, [1], rfl, upd_same, .inl rfl, fun x hx => by rw [List.mem_singleton.mp hx]; decide, by decide, (fun z => nomatch z), fun _ z => absurd z (by decide), fun _ _ t r2 H8 t0 t1 hc s8 nr2 hr8 => ?_⟩
  have et : t = 1 := by
    have h1 : t = 0 ∨ t = 1 := by omega
    rcases h1 with rfl | rfl
    · exact absurd hc (by unfold Cg; decide)
    · rfl
  subst et
  have eb : backN 2 [1] 1 = [1] := by decide +kernel
  rw [eb] at hr8
  refine ⟨(by show 1 ≤ sizeLine; decide), fun l5 n5 => ⟨r2, l5, [1], [1], rfl, rfl, (hr8.same (same_new n5 _)).sq, SqL.of upd_same, ?_⟩⟩
  rw [decide_eq_true rfl]
  exact q _
end
end Rr

set_option Elab.async false
set_option linter.all false
set_option maxRecDepth 100000
set_option maxHeartbeats 4000000
namespace Rr
open PySem L2 RM
theorem def_mk {K : PySem.W.Frag} {h : Heap} {mg : Str → Option Value} (X : K.In h) (G : h.Ns mainGlobals mg) {x : Str} {st : Stmt} {ps : List Str} {f : Addr} {oc : Value} {od an : Option Addr} {osl : Array (Option Value)} {kV doc pm cdv ct : Value} (a : PySem.W.nsIn K mainGlobals x = some (some (.ref f)))
    (l : K.lookup f = some ⟨oc, od, .func (PySem.W.fnOf x x (defArgs st) (defBody st) (defScope st) .none kV doc pm an cdv ct), osl⟩) (c : PySem.W.codeIn K cdv x = true) (k : PySem.W.keepIn K (.ref f) = true)
    (hb : ∀ (kV doc pm : Value) (an : Option Addr) (cdv ct : Value) (us : List Value), us.length = ps.length → bindArgs (PySem.W.fnOf x x (defArgs st) (defBody st) (defScope st) .none kV doc pm an cdv ct) ⟨us, []⟩ = pure (ps.zip us)) :
    Def K mg x st ps f (PySem.W.fnOf x x (defArgs st) (defBody st) (defScope st) .none kV doc pm an cdv ct) :=
  ⟨fun_mk (st := st) l c k, (fun_mk (st := st) l c k).binds hb, PySem.W.mg_of X G a⟩
theorem ex1 {us : List Value} (h : us.length = 1) : ∃ a, us = [a] := by
  match us, h with
  | [a], _ => exact ⟨a, rfl⟩
theorem exS {us : List Value} {n : Nat} (h : us.length = n + 1) : ∃ a r, us = a :: r ∧ r.length = n := by
  match us, h with
  | a :: r, h => exact ⟨a, r, rfl, Nat.succ.inj h⟩
theorem ex2 {us : List Value} (h : us.length = 2) : ∃ a b, us = [a, b] := by
  obtain ⟨a, r, rfl, h2⟩ := exS h
  obtain ⟨b, rfl⟩ := ex1 h2
  exact ⟨a, b, rfl⟩
theorem ex3 {us : List Value} (h : us.length = 3) : ∃ a b c, us = [a, b, c] := by
  obtain ⟨a, r, rfl, h2⟩ := exS h
  obtain ⟨b, c, rfl⟩ := ex2 h2
  exact ⟨a, b, c, rfl⟩
theorem ex4 {us : List Value} (h : us.length = 4) : ∃ a b c d, us = [a, b, c, d] := by
  obtain ⟨a, r, rfl, h2⟩ := exS h
  obtain ⟨b, c, d, rfl⟩ := ex3 h2
  exact ⟨a, b, c, d, rfl⟩
def fdOf {K : PySem.W.Frag} {mg : Str → Option Value} {x : Str} {st : Stmt} {ps : List Str} {f : Addr} {fd : FuncData} (_ : Def K mg x st ps f fd) : FuncData := fd
theorem xc_mk {K : PySem.W.Frag} {C : Addr} {xN : Addr} {nm q : Str} {bs bm sub : List Value} {hd ab : Bool} {sn : List Str} {col : Option Bool} {dd : Option Addr} {k0 k1 k2 k3 k5 : Option Value}
    (l : K.lookup C = some (excClassObj nm q C xN bs bm hd sn sub ab col dd k0 k1 k2 k3 k5 "ValueError.__new__")) (o : PySem.W.nsOkIn K xN = true) (i : PySem.W.nsIn K xN "__init__" = some none) (t : PySem.W.tailIn K veMro bm = true) : XC K C bm := ⟨⟨_, _, _, _, _, _, _, _, _, _, _, _, _, _, _, l, o, i⟩, t⟩

theorem all_mk {l : PySem.W.OpenLaw} {w : World} {K : PySem.W.Frag} {h : Heap} {mg : Str → Option Value} {fa f1 f2 f3 f4 f5 f6 f7 f8 f9 f10 f11 f12 f13 f14 f15 f16 f17 f18 f19 f20 f21 f22 f23 f24 f25 f26 f27 f28 f29 f30 f31 f32 f33 f34 : Addr} (X : K.In h) (G : h.Ns mainGlobals mg) (hfa : mg "law" = some (.ref fa))
    {od1 an1 od2 an2 od3 an3 od4 an4 od5 an5 od6 an6 od7 an7 od8 an8 od9 an9 od10 an10 od11 an11 od12 an12 od13 an13 od14 an14 od15 an15 od16 an16 od17 an17 od18 an18 od19 an19 od20 an20 od21 an21 od22 an22 od23 an23 od24 an24 od25 an25 od26 an26 od27 an27 od28 an28 od29 an29 od30 an30 od31 an31 od32 an32 od33 an33 od34 an34 : Option Addr} {sl1 sl2 sl3 sl4 sl5 sl6 sl7 sl8 sl9 sl10 sl11 sl12 sl13 sl14 sl15 sl16 sl17 sl18 sl19 sl20 sl21 sl22 sl23 sl24 sl25 sl26 sl27 sl28 sl29 sl30 sl31 sl32 sl33 sl34 : Array (Option Value)} {oc1 kV1 dc1 pm1 cd1 ct1 oc2 kV2 dc2 pm2 cd2 ct2 oc3 kV3 dc3 pm3 cd3 ct3 oc4 kV4 dc4 pm4 cd4 ct4 oc5 kV5 dc5 pm5 cd5 ct5 oc6 kV6 dc6 pm6 cd6 ct6 oc7 kV7 dc7 pm7 cd7 ct7 oc8 kV8 dc8 pm8 cd8 ct8 oc9 kV9 dc9 pm9 cd9 ct9 oc10 kV10 dc10 pm10 cd10 ct10 oc11 kV11 dc11 pm11 cd11 ct11 oc12 kV12 dc12 pm12 cd12 ct12 oc13 kV13 dc13 pm13 cd13 ct13 oc14 kV14 dc14 pm14 cd14 ct14 oc15 kV15 dc15 pm15 cd15 ct15 oc16 kV16 dc16 pm16 cd16 ct16 oc17 kV17 dc17 pm17 cd17 ct17 oc18 kV18 dc18 pm18 cd18 ct18 oc19 kV19 dc19 pm19 cd19 ct19 oc20 kV20 dc20 pm20 cd20 ct20 oc21 kV21 dc21 pm21 cd21 ct21 oc22 kV22 dc22 pm22 cd22 ct22 oc23 kV23 dc23 pm23 cd23 ct23 oc24 kV24 dc24 pm24 cd24 ct24 oc25 kV25 dc25 pm25 cd25 ct25 oc26 kV26 dc26 pm26 cd26 ct26 oc27 kV27 dc27 pm27 cd27 ct27 oc28 kV28 dc28 pm28 cd28 ct28 oc29 kV29 dc29 pm29 cd29 ct29 oc30 kV30 dc30 pm30 cd30 ct30 oc31 kV31 dc31 pm31 cd31 ct31 oc32 kV32 dc32 pm32 cd32 ct32 oc33 kV33 dc33 pm33 cd33 ct33 oc34 kV34 dc34 pm34 cd34 ct34 : Value} {t1 t2 : Tok} {cR cP cU cW cF cL cN cT : Addr}
    {xNcP : Addr} {nmcP qqcP : Str} {bscP bmcP sbcP : List Value} {hdcP abcP : Bool} {sncP : List Str} {cocP : Option Bool} {ddcP : Option Addr} {k0cP k1cP k2cP k3cP k5cP : Option Value}
    {xNcU : Addr} {nmcU qqcU : Str} {bscU bmcU sbcU : List Value} {hdcU abcU : Bool} {sncU : List Str} {cocU : Option Bool} {ddcU : Option Addr} {k0cU k1cU k2cU k3cU k5cU : Option Value}
    {xNcW : Addr} {nmcW qqcW : Str} {bscW bmcW sbcW : List Value} {hdcW abcW : Bool} {sncW : List Str} {cocW : Option Bool} {ddcW : Option Addr} {k0cW k1cW k2cW k3cW k5cW : Option Value}
    {xNcF : Addr} {nmcF qqcF : Str} {bscF bmcF sbcF : List Value} {hdcF abcF : Bool} {sncF : List Str} {cocF : Option Bool} {ddcF : Option Addr} {k0cF k1cF k2cF k3cF k5cF : Option Value}
    {xNcL : Addr} {nmcL qqcL : Str} {bscL bmcL sbcL : List Value} {hdcL abcL : Bool} {sncL : List Str} {cocL : Option Bool} {ddcL : Option Addr} {k0cL k1cL k2cL k3cL k5cL : Option Value}
    {xNcN : Addr} {nmcN qqcN : Str} {bscN bmcN sbcN : List Value} {hdcN abcN : Bool} {sncN : List Str} {cocN : Option Bool} {ddcN : Option Addr} {k0cN k1cN k2cN k3cN k5cN : Option Value}
    (a1 : PySem.W.nsIn K mainGlobals "is_whole" = some (some (.ref f1)))
    (l1 : K.lookup f1 = some ⟨oc1, od1, .func (PySem.W.fnOf "is_whole" "is_whole" (defArgs sWhole) (defBody sWhole) (defScope sWhole) .none kV1 dc1 pm1 an1 cd1 ct1), sl1⟩)
    (c1 : PySem.W.codeIn K cd1 "is_whole" = true)
    (k1 : PySem.W.keepIn K (.ref f1) = true)
    (a2 : PySem.W.nsIn K mainGlobals "is_prime" = some (some (.ref f2)))
    (l2 : K.lookup f2 = some ⟨oc2, od2, .func (PySem.W.fnOf "is_prime" "is_prime" (defArgs sPrime) (defBody sPrime) (defScope sPrime) .none kV2 dc2 pm2 an2 cd2 ct2), sl2⟩)
    (c2 : PySem.W.codeIn K cd2 "is_prime" = true)
    (k2 : PySem.W.keepIn K (.ref f2) = true)
    (a3 : PySem.W.nsIn K mainGlobals "is_rest" = some (some (.ref f3)))
    (l3 : K.lookup f3 = some ⟨oc3, od3, .func (PySem.W.fnOf "is_rest" "is_rest" (defArgs sRest) (defBody sRest) (defScope sRest) .none kV3 dc3 pm3 an3 cd3 ct3), sl3⟩)
    (c3 : PySem.W.codeIn K cd3 "is_rest" = true)
    (k3 : PySem.W.keepIn K (.ref f3) = true)
    (a4 : PySem.W.nsIn K mainGlobals "are_rests" = some (some (.ref f4)))
    (l4 : K.lookup f4 = some ⟨oc4, od4, .func (PySem.W.fnOf "are_rests" "are_rests" (defArgs sAre) (defBody sAre) (defScope sAre) .none kV4 dc4 pm4 an4 cd4 ct4), sl4⟩)
    (c4 : PySem.W.codeIn K cd4 "are_rests" = true)
    (k4 : PySem.W.keepIn K (.ref f4) = true)
    (a5 : PySem.W.nsIn K mainGlobals "need_prime" = some (some (.ref f5)))
    (l5 : K.lookup f5 = some ⟨oc5, od5, .func (PySem.W.fnOf "need_prime" "need_prime" (defArgs sNeedPrime) (defBody sNeedPrime) (defScope sNeedPrime) .none kV5 dc5 pm5 an5 cd5 ct5), sl5⟩)
    (c5 : PySem.W.codeIn K cd5 "need_prime" = true)
    (k5 : PySem.W.keepIn K (.ref f5) = true)
    (a6 : PySem.W.nsIn K mainGlobals "need_rule" = some (some (.ref f6)))
    (l6 : K.lookup f6 = some ⟨oc6, od6, .func (PySem.W.fnOf "need_rule" "need_rule" (defArgs sNeedRule) (defBody sNeedRule) (defScope sNeedRule) .none kV6 dc6 pm6 an6 cd6 ct6), sl6⟩)
    (c6 : PySem.W.codeIn K cd6 "need_rule" = true)
    (k6 : PySem.W.keepIn K (.ref f6) = true)
    (a7 : PySem.W.nsIn K mainGlobals "need_row" = some (some (.ref f7)))
    (l7 : K.lookup f7 = some ⟨oc7, od7, .func (PySem.W.fnOf "need_row" "need_row" (defArgs sNeedRow) (defBody sNeedRow) (defScope sNeedRow) .none kV7 dc7 pm7 an7 cd7 ct7), sl7⟩)
    (c7 : PySem.W.codeIn K cd7 "need_row" = true)
    (k7 : PySem.W.keepIn K (.ref f7) = true)
    (a8 : PySem.W.nsIn K mainGlobals "inverse" = some (some (.ref f8)))
    (l8 : K.lookup f8 = some ⟨oc8, od8, .func (PySem.W.fnOf "inverse" "inverse" (defArgs sInv) (defBody sInv) (defScope sInv) .none kV8 dc8 pm8 an8 cd8 ct8), sl8⟩)
    (c8 : PySem.W.codeIn K cd8 "inverse" = true)
    (k8 : PySem.W.keepIn K (.ref f8) = true)
    (a9 : PySem.W.nsIn K mainGlobals "makes" = some (some (.ref f9)))
    (l9 : K.lookup f9 = some ⟨oc9, od9, .func (PySem.W.fnOf "makes" "makes" (defArgs sMakes) (defBody sMakes) (defScope sMakes) .none kV9 dc9 pm9 an9 cd9 ct9), sl9⟩)
    (c9 : PySem.W.codeIn K cd9 "makes" = true)
    (k9 : PySem.W.keepIn K (.ref f9) = true)
    (a10 : PySem.W.nsIn K mainGlobals "go_on" = some (some (.ref f10)))
    (l10 : K.lookup f10 = some ⟨oc10, od10, .func (PySem.W.fnOf "go_on" "go_on" (defArgs sGoOn) (defBody sGoOn) (defScope sGoOn) .none kV10 dc10 pm10 an10 cd10 ct10), sl10⟩)
    (c10 : PySem.W.codeIn K cd10 "go_on" = true)
    (k10 : PySem.W.keepIn K (.ref f10) = true)
    (a11 : PySem.W.nsIn K mainGlobals "far" = some (some (.ref f11)))
    (l11 : K.lookup f11 = some ⟨oc11, od11, .func (PySem.W.fnOf "far" "far" (defArgs sFar) (defBody sFar) (defScope sFar) .none kV11 dc11 pm11 an11 cd11 ct11), sl11⟩)
    (c11 : PySem.W.codeIn K cd11 "far" = true)
    (k11 : PySem.W.keepIn K (.ref f11) = true)
    (a12 : PySem.W.nsIn K mainGlobals "both" = some (some (.ref f12)))
    (l12 : K.lookup f12 = some ⟨oc12, od12, .func (PySem.W.fnOf "both" "both" (defArgs sBoth) (defBody sBoth) (defScope sBoth) .none kV12 dc12 pm12 an12 cd12 ct12), sl12⟩)
    (c12 : PySem.W.codeIn K cd12 "both" = true)
    (k12 : PySem.W.keepIn K (.ref f12) = true)
    (a13 : PySem.W.nsIn K mainGlobals "backwards" = some (some (.ref f13)))
    (l13 : K.lookup f13 = some ⟨oc13, od13, .func (PySem.W.fnOf "backwards" "backwards" (defArgs sBack) (defBody sBack) (defScope sBack) .none kV13 dc13 pm13 an13 cd13 ct13), sl13⟩)
    (c13 : PySem.W.codeIn K cd13 "backwards" = true)
    (k13 : PySem.W.keepIn K (.ref f13) = true)
    (a14 : PySem.W.nsIn K mainGlobals "need_start" = some (some (.ref f14)))
    (l14 : K.lookup f14 = some ⟨oc14, od14, .func (PySem.W.fnOf "need_start" "need_start" (defArgs sStart) (defBody sStart) (defScope sStart) .none kV14 dc14 pm14 an14 cd14 ct14), sl14⟩)
    (c14 : PySem.W.codeIn K cd14 "need_start" = true)
    (k14 : PySem.W.keepIn K (.ref f14) = true)
    (a15 : PySem.W.nsIn K mainGlobals "need_count" = some (some (.ref f15)))
    (l15 : K.lookup f15 = some ⟨oc15, od15, .func (PySem.W.fnOf "need_count" "need_count" (defArgs sCount) (defBody sCount) (defScope sCount) .none kV15 dc15 pm15 an15 cd15 ct15), sl15⟩)
    (c15 : PySem.W.codeIn K cd15 "need_count" = true)
    (k15 : PySem.W.keepIn K (.ref f15) = true)
    (a16 : PySem.W.nsIn K mainGlobals "due" = some (some (.ref f16)))
    (l16 : K.lookup f16 = some ⟨oc16, od16, .func (PySem.W.fnOf "due" "due" (defArgs sDue) (defBody sDue) (defScope sDue) .none kV16 dc16 pm16 an16 cd16 ct16), sl16⟩)
    (c16 : PySem.W.codeIn K cd16 "due" = true)
    (k16 : PySem.W.keepIn K (.ref f16) = true)
    (a17 : PySem.W.nsIn K mainGlobals "least" = some (some (.ref f17)))
    (l17 : K.lookup f17 = some ⟨oc17, od17, .func (PySem.W.fnOf "least" "least" (defArgs sLeast) (defBody sLeast) (defScope sLeast) .none kV17 dc17 pm17 an17 cd17 ct17), sl17⟩)
    (c17 : PySem.W.codeIn K cd17 "least" = true)
    (k17 : PySem.W.keepIn K (.ref f17) = true)
    (a18 : PySem.W.nsIn K mainGlobals "unlike" = some (some (.ref f18)))
    (l18 : K.lookup f18 = some ⟨oc18, od18, .func (PySem.W.fnOf "unlike" "unlike" (defArgs sUnlike) (defBody sUnlike) (defScope sUnlike) .none kV18 dc18 pm18 an18 cd18 ct18), sl18⟩)
    (c18 : PySem.W.codeIn K cd18 "unlike" = true)
    (k18 : PySem.W.keepIn K (.ref f18) = true)
    (a19 : PySem.W.nsIn K mainGlobals "written" = some (some (.ref f19)))
    (l19 : K.lookup f19 = some ⟨oc19, od19, .func (PySem.W.fnOf "written" "written" (defArgs sWritten) (defBody sWritten) (defScope sWritten) .none kV19 dc19 pm19 an19 cd19 ct19), sl19⟩)
    (c19 : PySem.W.codeIn K cd19 "written" = true)
    (k19 : PySem.W.keepIn K (.ref f19) = true)
    (a20 : PySem.W.nsIn K mainGlobals "_law_cell_at" = some (some (.ref f20)))
    (l20 : K.lookup f20 = some ⟨oc20, od20, .func (PySem.W.fnOf "_law_cell_at" "_law_cell_at" (defArgs lCell) (defBody lCell) (defScope lCell) .none kV20 dc20 pm20 an20 cd20 ct20), sl20⟩)
    (c20 : PySem.W.codeIn K cd20 "_law_cell_at" = true)
    (k20 : PySem.W.keepIn K (.ref f20) = true)
    (a21 : PySem.W.nsIn K mainGlobals "_law_draw" = some (some (.ref f21)))
    (l21 : K.lookup f21 = some ⟨oc21, od21, .func (PySem.W.fnOf "_law_draw" "_law_draw" (defArgs lDraw) (defBody lDraw) (defScope lDraw) .none kV21 dc21 pm21 an21 cd21 ct21), sl21⟩)
    (c21 : PySem.W.codeIn K cd21 "_law_draw" = true)
    (k21 : PySem.W.keepIn K (.ref f21) = true)
    (a22 : PySem.W.nsIn K mainGlobals "_law_rests" = some (some (.ref f22)))
    (l22 : K.lookup f22 = some ⟨oc22, od22, .func (PySem.W.fnOf "_law_rests" "_law_rests" (defArgs lRests) (defBody lRests) (defScope lRests) .none kV22 dc22 pm22 an22 cd22 ct22), sl22⟩)
    (c22 : PySem.W.codeIn K cd22 "_law_rests" = true)
    (k22 : PySem.W.keepIn K (.ref f22) = true)
    (a23 : PySem.W.nsIn K mainGlobals "_law_row" = some (some (.ref f23)))
    (l23 : K.lookup f23 = some ⟨oc23, od23, .func (PySem.W.fnOf "_law_row" "_law_row" (defArgs lRow) (defBody lRow) (defScope lRow) .none kV23 dc23 pm23 an23 cd23 ct23), sl23⟩)
    (c23 : PySem.W.codeIn K cd23 "_law_row" = true)
    (k23 : PySem.W.keepIn K (.ref f23) = true)
    (a24 : PySem.W.nsIn K mainGlobals "_law_due" = some (some (.ref f24)))
    (l24 : K.lookup f24 = some ⟨oc24, od24, .func (PySem.W.fnOf "_law_due" "_law_due" (defArgs lDue) (defBody lDue) (defScope lDue) .none kV24 dc24 pm24 an24 cd24 ct24), sl24⟩)
    (c24 : PySem.W.codeIn K cd24 "_law_due" = true)
    (k24 : PySem.W.keepIn K (.ref f24) = true)
    (a25 : PySem.W.nsIn K mainGlobals "_law_kinds" = some (some (.ref f25)))
    (l25 : K.lookup f25 = some ⟨oc25, od25, .func (PySem.W.fnOf "_law_kinds" "_law_kinds" (defArgs lKinds) (defBody lKinds) (defScope lKinds) .none kV25 dc25 pm25 an25 cd25 ct25), sl25⟩)
    (c25 : PySem.W.codeIn K cd25 "_law_kinds" = true)
    (k25 : PySem.W.keepIn K (.ref f25) = true)
    (a26 : PySem.W.nsIn K mainGlobals "_law_with_prime" = some (some (.ref f26)))
    (l26 : K.lookup f26 = some ⟨oc26, od26, .func (PySem.W.fnOf "_law_with_prime" "_law_with_prime" (defArgs lWPrime) (defBody lWPrime) (defScope lWPrime) .none kV26 dc26 pm26 an26 cd26 ct26), sl26⟩)
    (c26 : PySem.W.codeIn K cd26 "_law_with_prime" = true)
    (k26 : PySem.W.keepIn K (.ref f26) = true)
    (a27 : PySem.W.nsIn K mainGlobals "_law_more" = some (some (.ref f27)))
    (l27 : K.lookup f27 = some ⟨oc27, od27, .func (PySem.W.fnOf "_law_more" "_law_more" (defArgs lMore) (defBody lMore) (defScope lMore) .none kV27 dc27 pm27 an27 cd27 ct27), sl27⟩)
    (c27 : PySem.W.codeIn K cd27 "_law_more" = true)
    (k27 : PySem.W.keepIn K (.ref f27) = true)
    (a28 : PySem.W.nsIn K mainGlobals "_law_with_rule" = some (some (.ref f28)))
    (l28 : K.lookup f28 = some ⟨oc28, od28, .func (PySem.W.fnOf "_law_with_rule" "_law_with_rule" (defArgs lWRule) (defBody lWRule) (defScope lWRule) .none kV28 dc28 pm28 an28 cd28 ct28), sl28⟩)
    (c28 : PySem.W.codeIn K cd28 "_law_with_rule" = true)
    (k28 : PySem.W.keepIn K (.ref f28) = true)
    (a29 : PySem.W.nsIn K mainGlobals "_law_with_row" = some (some (.ref f29)))
    (l29 : K.lookup f29 = some ⟨oc29, od29, .func (PySem.W.fnOf "_law_with_row" "_law_with_row" (defArgs lWRow) (defBody lWRow) (defScope lWRow) .none kV29 dc29 pm29 an29 cd29 ct29), sl29⟩)
    (c29 : PySem.W.codeIn K cd29 "_law_with_row" = true)
    (k29 : PySem.W.keepIn K (.ref f29) = true)
    (a30 : PySem.W.nsIn K mainGlobals "_law_with_few" = some (some (.ref f30)))
    (l30 : K.lookup f30 = some ⟨oc30, od30, .func (PySem.W.fnOf "_law_with_few" "_law_with_few" (defArgs lWFew) (defBody lWFew) (defScope lWFew) .none kV30 dc30 pm30 an30 cd30 ct30), sl30⟩)
    (c30 : PySem.W.codeIn K cd30 "_law_with_few" = true)
    (k30 : PySem.W.keepIn K (.ref f30) = true)
    (a31 : PySem.W.nsIn K mainGlobals "_law_with_place" = some (some (.ref f31)))
    (l31 : K.lookup f31 = some ⟨oc31, od31, .func (PySem.W.fnOf "_law_with_place" "_law_with_place" (defArgs lWPlace) (defBody lWPlace) (defScope lWPlace) .none kV31 dc31 pm31 an31 cd31 ct31), sl31⟩)
    (c31 : PySem.W.codeIn K cd31 "_law_with_place" = true)
    (k31 : PySem.W.keepIn K (.ref f31) = true)
    (a32 : PySem.W.nsIn K mainGlobals "_law_told" = some (some (.ref f32)))
    (l32 : K.lookup f32 = some ⟨oc32, od32, .func (PySem.W.fnOf "_law_told" "_law_told" (defArgs lTold) (defBody lTold) (defScope lTold) .none kV32 dc32 pm32 an32 cd32 ct32), sl32⟩)
    (c32 : PySem.W.codeIn K cd32 "_law_told" = true)
    (k32 : PySem.W.keepIn K (.ref f32) = true)
    (a33 : PySem.W.nsIn K mainGlobals "_law_all" = some (some (.ref f33)))
    (l33 : K.lookup f33 = some ⟨oc33, od33, .func (PySem.W.fnOf "_law_all" "_law_all" (defArgs lAll) (defBody lAll) (defScope lAll) .none kV33 dc33 pm33 an33 cd33 ct33), sl33⟩)
    (c33 : PySem.W.codeIn K cd33 "_law_all" = true)
    (k33 : PySem.W.keepIn K (.ref f33) = true)
    (a34 : PySem.W.nsIn K mainGlobals "law" = some (some (.ref f34)))
    (l34 : K.lookup f34 = some ⟨oc34, od34, .func (PySem.W.fnOf "law" "law" (defArgs lLaw) (defBody lLaw) (defScope lLaw) .none kV34 dc34 pm34 an34 cd34 ct34), sl34⟩)
    (c34 : PySem.W.codeIn K cd34 "law" = true)
    (k34 : PySem.W.keepIn K (.ref f34) = true)
    (z1 : PySem.W.nsIn K mainGlobals "isinstance" = some none)
    (z2 : PySem.W.nsIn K mainGlobals "int" = some none)
    (z3 : PySem.W.nsIn K mainGlobals "bool" = some none)
    (z4 : PySem.W.nsIn K mainGlobals "list" = some none)
    (z5 : PySem.W.nsIn K mainGlobals "len" = some none)
    (z6 : PySem.W.nsIn K mainGlobals "range" = some none)
    (z7 : PySem.W.nsIn K mainGlobals "sum" = some none)
    (z8 : PySem.W.nsIn K mainGlobals "zip" = some none)
    (z9 : PySem.W.nsIn K mainGlobals "reversed" = some none)
    (z10 : PySem.W.nsIn K mainGlobals "enumerate" = some none)
    (z11 : PySem.W.nsIn K mainGlobals "max" = some none)
    (z12 : PySem.W.nsIn K mainGlobals "min" = some none)
    (z13 : PySem.W.nsIn K mainGlobals "all" = some none)
    (z14 : PySem.W.nsIn K mainGlobals "any" = some none)
    (z15 : PySem.W.nsIn K mainGlobals "abs" = some none)
    (mcR : PySem.W.nsIn K mainGlobals "RuleError" = some (some (.ref cR)))
    (mcP : PySem.W.nsIn K mainGlobals "BadPrime" = some (some (.ref cP)))
    (mcU : PySem.W.nsIn K mainGlobals "BadRule" = some (some (.ref cU)))
    (mcW : PySem.W.nsIn K mainGlobals "BadRow" = some (some (.ref cW)))
    (mcF : PySem.W.nsIn K mainGlobals "TooFew" = some (some (.ref cF)))
    (mcL : PySem.W.nsIn K mainGlobals "BadPlace" = some (some (.ref cL)))
    (mcN : PySem.W.nsIn K mainGlobals "NoWay" = some (some (.ref cN)))
    (mcT : PySem.W.nsIn K mainGlobals "BadText" = some (some (.ref cT)))
    (mV : PySem.W.nsIn K mainGlobals "ValueError" = some none)
    (xlcP : K.lookup cP = some (excClassObj nmcP qqcP cP xNcP bscP bmcP hdcP sncP sbcP abcP cocP ddcP k0cP k1cP k2cP k3cP k5cP "ValueError.__new__"))
    (xocP : PySem.W.nsOkIn K xNcP = true)
    (xicP : PySem.W.nsIn K xNcP "__init__" = some none)
    (xtcP : PySem.W.tailIn K veMro bmcP = true)
    (g1cP : PySem.W.findIn K (.ref cP) "__getattribute__" = some (some (.builtin "BaseException.__getattribute__")))
    (g2cP : PySem.W.findIn K (.ref cP) "__getattr__" = some none)
    (g3cP : PySem.W.findIn K (.ref cP) "__class__" = some (some (.builtin "object.__class__")))
    (g4cP : PySem.W.mroIn K cP (.type "object") = some true)
    (g5cP : PySem.W.subIn K (.ref cP) (.type "BaseException") = some true)
    (emcP : PySem.W.exmOne K (.ref cP) (.ref cR) = some true)
    (qcPcP : PySem.W.kitOne K (.ref cP) (.ref cP) = some (decide ((0 : Nat) = 0)))
    (qcPcU : PySem.W.kitOne K (.ref cP) (.ref cU) = some (decide ((0 : Nat) = 1)))
    (qcPcW : PySem.W.kitOne K (.ref cP) (.ref cW) = some (decide ((0 : Nat) = 2)))
    (qcPcF : PySem.W.kitOne K (.ref cP) (.ref cF) = some (decide ((0 : Nat) = 3)))
    (qcPcL : PySem.W.kitOne K (.ref cP) (.ref cL) = some (decide ((0 : Nat) = 4)))
    (qcPcN : PySem.W.kitOne K (.ref cP) (.ref cN) = some (decide ((0 : Nat) = 5)))
    (qcPcT : PySem.W.kitOne K (.ref cP) (.ref cT) = some false)
    (qcPV : PySem.W.kitOne K (.ref cP) (.type "ValueError") = some true)
    (xlcU : K.lookup cU = some (excClassObj nmcU qqcU cU xNcU bscU bmcU hdcU sncU sbcU abcU cocU ddcU k0cU k1cU k2cU k3cU k5cU "ValueError.__new__"))
    (xocU : PySem.W.nsOkIn K xNcU = true)
    (xicU : PySem.W.nsIn K xNcU "__init__" = some none)
    (xtcU : PySem.W.tailIn K veMro bmcU = true)
    (g1cU : PySem.W.findIn K (.ref cU) "__getattribute__" = some (some (.builtin "BaseException.__getattribute__")))
    (g2cU : PySem.W.findIn K (.ref cU) "__getattr__" = some none)
    (g3cU : PySem.W.findIn K (.ref cU) "__class__" = some (some (.builtin "object.__class__")))
    (g4cU : PySem.W.mroIn K cU (.type "object") = some true)
    (g5cU : PySem.W.subIn K (.ref cU) (.type "BaseException") = some true)
    (emcU : PySem.W.exmOne K (.ref cU) (.ref cR) = some true)
    (qcUcP : PySem.W.kitOne K (.ref cU) (.ref cP) = some (decide ((1 : Nat) = 0)))
    (qcUcU : PySem.W.kitOne K (.ref cU) (.ref cU) = some (decide ((1 : Nat) = 1)))
    (qcUcW : PySem.W.kitOne K (.ref cU) (.ref cW) = some (decide ((1 : Nat) = 2)))
    (qcUcF : PySem.W.kitOne K (.ref cU) (.ref cF) = some (decide ((1 : Nat) = 3)))
    (qcUcL : PySem.W.kitOne K (.ref cU) (.ref cL) = some (decide ((1 : Nat) = 4)))
    (qcUcN : PySem.W.kitOne K (.ref cU) (.ref cN) = some (decide ((1 : Nat) = 5)))
    (qcUcT : PySem.W.kitOne K (.ref cU) (.ref cT) = some false)
    (qcUV : PySem.W.kitOne K (.ref cU) (.type "ValueError") = some true)
    (xlcW : K.lookup cW = some (excClassObj nmcW qqcW cW xNcW bscW bmcW hdcW sncW sbcW abcW cocW ddcW k0cW k1cW k2cW k3cW k5cW "ValueError.__new__"))
    (xocW : PySem.W.nsOkIn K xNcW = true)
    (xicW : PySem.W.nsIn K xNcW "__init__" = some none)
    (xtcW : PySem.W.tailIn K veMro bmcW = true)
    (g1cW : PySem.W.findIn K (.ref cW) "__getattribute__" = some (some (.builtin "BaseException.__getattribute__")))
    (g2cW : PySem.W.findIn K (.ref cW) "__getattr__" = some none)
    (g3cW : PySem.W.findIn K (.ref cW) "__class__" = some (some (.builtin "object.__class__")))
    (g4cW : PySem.W.mroIn K cW (.type "object") = some true)
    (g5cW : PySem.W.subIn K (.ref cW) (.type "BaseException") = some true)
    (emcW : PySem.W.exmOne K (.ref cW) (.ref cR) = some true)
    (qcWcP : PySem.W.kitOne K (.ref cW) (.ref cP) = some (decide ((2 : Nat) = 0)))
    (qcWcU : PySem.W.kitOne K (.ref cW) (.ref cU) = some (decide ((2 : Nat) = 1)))
    (qcWcW : PySem.W.kitOne K (.ref cW) (.ref cW) = some (decide ((2 : Nat) = 2)))
    (qcWcF : PySem.W.kitOne K (.ref cW) (.ref cF) = some (decide ((2 : Nat) = 3)))
    (qcWcL : PySem.W.kitOne K (.ref cW) (.ref cL) = some (decide ((2 : Nat) = 4)))
    (qcWcN : PySem.W.kitOne K (.ref cW) (.ref cN) = some (decide ((2 : Nat) = 5)))
    (qcWcT : PySem.W.kitOne K (.ref cW) (.ref cT) = some false)
    (qcWV : PySem.W.kitOne K (.ref cW) (.type "ValueError") = some true)
    (xlcF : K.lookup cF = some (excClassObj nmcF qqcF cF xNcF bscF bmcF hdcF sncF sbcF abcF cocF ddcF k0cF k1cF k2cF k3cF k5cF "ValueError.__new__"))
    (xocF : PySem.W.nsOkIn K xNcF = true)
    (xicF : PySem.W.nsIn K xNcF "__init__" = some none)
    (xtcF : PySem.W.tailIn K veMro bmcF = true)
    (g1cF : PySem.W.findIn K (.ref cF) "__getattribute__" = some (some (.builtin "BaseException.__getattribute__")))
    (g2cF : PySem.W.findIn K (.ref cF) "__getattr__" = some none)
    (g3cF : PySem.W.findIn K (.ref cF) "__class__" = some (some (.builtin "object.__class__")))
    (g4cF : PySem.W.mroIn K cF (.type "object") = some true)
    (g5cF : PySem.W.subIn K (.ref cF) (.type "BaseException") = some true)
    (emcF : PySem.W.exmOne K (.ref cF) (.ref cR) = some true)
    (qcFcP : PySem.W.kitOne K (.ref cF) (.ref cP) = some (decide ((3 : Nat) = 0)))
    (qcFcU : PySem.W.kitOne K (.ref cF) (.ref cU) = some (decide ((3 : Nat) = 1)))
    (qcFcW : PySem.W.kitOne K (.ref cF) (.ref cW) = some (decide ((3 : Nat) = 2)))
    (qcFcF : PySem.W.kitOne K (.ref cF) (.ref cF) = some (decide ((3 : Nat) = 3)))
    (qcFcL : PySem.W.kitOne K (.ref cF) (.ref cL) = some (decide ((3 : Nat) = 4)))
    (qcFcN : PySem.W.kitOne K (.ref cF) (.ref cN) = some (decide ((3 : Nat) = 5)))
    (qcFcT : PySem.W.kitOne K (.ref cF) (.ref cT) = some false)
    (qcFV : PySem.W.kitOne K (.ref cF) (.type "ValueError") = some true)
    (xlcL : K.lookup cL = some (excClassObj nmcL qqcL cL xNcL bscL bmcL hdcL sncL sbcL abcL cocL ddcL k0cL k1cL k2cL k3cL k5cL "ValueError.__new__"))
    (xocL : PySem.W.nsOkIn K xNcL = true)
    (xicL : PySem.W.nsIn K xNcL "__init__" = some none)
    (xtcL : PySem.W.tailIn K veMro bmcL = true)
    (g1cL : PySem.W.findIn K (.ref cL) "__getattribute__" = some (some (.builtin "BaseException.__getattribute__")))
    (g2cL : PySem.W.findIn K (.ref cL) "__getattr__" = some none)
    (g3cL : PySem.W.findIn K (.ref cL) "__class__" = some (some (.builtin "object.__class__")))
    (g4cL : PySem.W.mroIn K cL (.type "object") = some true)
    (g5cL : PySem.W.subIn K (.ref cL) (.type "BaseException") = some true)
    (emcL : PySem.W.exmOne K (.ref cL) (.ref cR) = some true)
    (qcLcP : PySem.W.kitOne K (.ref cL) (.ref cP) = some (decide ((4 : Nat) = 0)))
    (qcLcU : PySem.W.kitOne K (.ref cL) (.ref cU) = some (decide ((4 : Nat) = 1)))
    (qcLcW : PySem.W.kitOne K (.ref cL) (.ref cW) = some (decide ((4 : Nat) = 2)))
    (qcLcF : PySem.W.kitOne K (.ref cL) (.ref cF) = some (decide ((4 : Nat) = 3)))
    (qcLcL : PySem.W.kitOne K (.ref cL) (.ref cL) = some (decide ((4 : Nat) = 4)))
    (qcLcN : PySem.W.kitOne K (.ref cL) (.ref cN) = some (decide ((4 : Nat) = 5)))
    (qcLcT : PySem.W.kitOne K (.ref cL) (.ref cT) = some false)
    (qcLV : PySem.W.kitOne K (.ref cL) (.type "ValueError") = some true)
    (xlcN : K.lookup cN = some (excClassObj nmcN qqcN cN xNcN bscN bmcN hdcN sncN sbcN abcN cocN ddcN k0cN k1cN k2cN k3cN k5cN "ValueError.__new__"))
    (xocN : PySem.W.nsOkIn K xNcN = true)
    (xicN : PySem.W.nsIn K xNcN "__init__" = some none)
    (xtcN : PySem.W.tailIn K veMro bmcN = true)
    (g1cN : PySem.W.findIn K (.ref cN) "__getattribute__" = some (some (.builtin "BaseException.__getattribute__")))
    (g2cN : PySem.W.findIn K (.ref cN) "__getattr__" = some none)
    (g3cN : PySem.W.findIn K (.ref cN) "__class__" = some (some (.builtin "object.__class__")))
    (g4cN : PySem.W.mroIn K cN (.type "object") = some true)
    (g5cN : PySem.W.subIn K (.ref cN) (.type "BaseException") = some true)
    (emcN : PySem.W.exmOne K (.ref cN) (.ref cR) = some true)
    (qcNcP : PySem.W.kitOne K (.ref cN) (.ref cP) = some (decide ((5 : Nat) = 0)))
    (qcNcU : PySem.W.kitOne K (.ref cN) (.ref cU) = some (decide ((5 : Nat) = 1)))
    (qcNcW : PySem.W.kitOne K (.ref cN) (.ref cW) = some (decide ((5 : Nat) = 2)))
    (qcNcF : PySem.W.kitOne K (.ref cN) (.ref cF) = some (decide ((5 : Nat) = 3)))
    (qcNcL : PySem.W.kitOne K (.ref cN) (.ref cL) = some (decide ((5 : Nat) = 4)))
    (qcNcN : PySem.W.kitOne K (.ref cN) (.ref cN) = some (decide ((5 : Nat) = 5)))
    (qcNcT : PySem.W.kitOne K (.ref cN) (.ref cT) = some false)
    (qcNV : PySem.W.kitOne K (.ref cN) (.type "ValueError") = some true)
    (y1 : PySem.W.nsIn K mainGlobals "LOWEST_PRIME" = some (some (.int 2 t1)))
    (y2 : PySem.W.nsIn K mainGlobals "HIGHEST_PRIME" = some (some (.int 997 t2))) :
    ∃ fd : FuncData, (∀ (s : Shared) (v : Value), BindsTo s fd ⟨[v], []⟩ [("_law_script", v)]) ∧ ∀ base : Heap, K.In base → base.Ns mainGlobals mg → FnOk l.prog w K mg base CX0 11 fa fd ["_law_script"] (spLaw K) := by
  have e := hfa.symm.trans (PySem.W.mg_of X G a34)
  cases e
  have D1 := def_mk (st := sWhole) (ps := ["value"]) X G a1 l1 c1 k1 fun _ _ _ _ _ _ us hl => by obtain ⟨a0, rfl⟩ := ex1 hl; rfl
  have D2 := def_mk (st := sPrime) (ps := ["value"]) X G a2 l2 c2 k2 fun _ _ _ _ _ _ us hl => by obtain ⟨a0, rfl⟩ := ex1 hl; rfl
  have D3 := def_mk (st := sRest) (ps := ["prime", "value"]) X G a3 l3 c3 k3 fun _ _ _ _ _ _ us hl => by obtain ⟨a0, a1, rfl⟩ := ex2 hl; rfl
  have D4 := def_mk (st := sAre) (ps := ["prime", "value"]) X G a4 l4 c4 k4 fun _ _ _ _ _ _ us hl => by obtain ⟨a0, a1, rfl⟩ := ex2 hl; rfl
  have D5 := def_mk (st := sNeedPrime) (ps := ["prime"]) X G a5 l5 c5 k5 fun _ _ _ _ _ _ us hl => by obtain ⟨a0, rfl⟩ := ex1 hl; rfl
  have D6 := def_mk (st := sNeedRule) (ps := ["prime", "rule"]) X G a6 l6 c6 k6 fun _ _ _ _ _ _ us hl => by obtain ⟨a0, a1, rfl⟩ := ex2 hl; rfl
  have D7 := def_mk (st := sNeedRow) (ps := ["prime", "row"]) X G a7 l7 c7 k7 fun _ _ _ _ _ _ us hl => by obtain ⟨a0, a1, rfl⟩ := ex2 hl; rfl
  have D8 := def_mk (st := sInv) (ps := ["prime", "rest"]) X G a8 l8 c8 k8 fun _ _ _ _ _ _ us hl => by obtain ⟨a0, a1, rfl⟩ := ex2 hl; rfl
  have D9 := def_mk (st := sMakes) (ps := ["prime", "rule", "row"]) X G a9 l9 c9 k9 fun _ _ _ _ _ _ us hl => by obtain ⟨a0, a1, a2, rfl⟩ := ex3 hl; rfl
  have D10 := def_mk (st := sGoOn) (ps := ["prime", "rule", "row", "many"]) X G a10 l10 c10 k10 fun _ _ _ _ _ _ us hl => by obtain ⟨a0, a1, a2, a3, rfl⟩ := ex4 hl; rfl
  have D11 := def_mk (st := sFar) (ps := ["prime", "rule", "row", "place"]) X G a11 l11 c11 k11 fun _ _ _ _ _ _ us hl => by obtain ⟨a0, a1, a2, a3, rfl⟩ := ex4 hl; rfl
  have D12 := def_mk (st := sBoth) (ps := ["prime", "one", "other"]) X G a12 l12 c12 k12 fun _ _ _ _ _ _ us hl => by obtain ⟨a0, a1, a2, rfl⟩ := ex3 hl; rfl
  have D13 := def_mk (st := sBack) (ps := ["prime", "rule"]) X G a13 l13 c13 k13 fun _ _ _ _ _ _ us hl => by obtain ⟨a0, a1, rfl⟩ := ex2 hl; rfl
  have D14 := def_mk (st := sStart) (ps := ["prime", "rule", "row"]) X G a14 l14 c14 k14 fun _ _ _ _ _ _ us hl => by obtain ⟨a0, a1, a2, rfl⟩ := ex3 hl; rfl
  have D15 := def_mk (st := sCount) (ps := ["value"]) X G a15 l15 c15 k15 fun _ _ _ _ _ _ us hl => by obtain ⟨a0, rfl⟩ := ex1 hl; rfl
  have D16 := def_mk (st := sDue) (ps := ["prime", "rule", "row", "place"]) X G a16 l16 c16 k16 fun _ _ _ _ _ _ us hl => by obtain ⟨a0, a1, a2, a3, rfl⟩ := ex4 hl; rfl
  have D17 := def_mk (st := sLeast) (ps := ["prime", "row"]) X G a17 l17 c17 k17 fun _ _ _ _ _ _ us hl => by obtain ⟨a0, a1, rfl⟩ := ex2 hl; rfl
  have D18 := def_mk (st := sUnlike) (ps := ["prime", "row"]) X G a18 l18 c18 k18 fun _ _ _ _ _ _ us hl => by obtain ⟨a0, a1, rfl⟩ := ex2 hl; rfl
  have D19 := def_mk (st := sWritten) (ps := ["prime", "row"]) X G a19 l19 c19 k19 fun _ _ _ _ _ _ us hl => by obtain ⟨a0, a1, rfl⟩ := ex2 hl; rfl
  have D20 := def_mk (st := lCell) (ps := ["_law_script", "_law_k"]) X G a20 l20 c20 k20 fun _ _ _ _ _ _ us hl => by obtain ⟨a0, a1, rfl⟩ := ex2 hl; rfl
  have D21 := def_mk (st := lDraw) (ps := ["_law_cell", "_law_k", "_law_many"]) X G a21 l21 c21 k21 fun _ _ _ _ _ _ us hl => by obtain ⟨a0, a1, a2, rfl⟩ := ex3 hl; rfl
  have D22 := def_mk (st := lRests) (ps := ["_law_script", "_law_by", "_law_prime_here", "_law_many"]) X G a22 l22 c22 k22 fun _ _ _ _ _ _ us hl => by obtain ⟨a0, a1, a2, a3, rfl⟩ := ex4 hl; rfl
  have D23 := def_mk (st := lRow) (ps := ["_law_script", "_law_prime_here"]) X G a23 l23 c23 k23 fun _ _ _ _ _ _ us hl => by obtain ⟨a0, a1, rfl⟩ := ex2 hl; rfl
  have D24 := def_mk (st := lDue) (ps := ["_law_prime_here", "_law_rule", "_law_row_here", "_law_place"]) X G a24 l24 c24 k24 fun _ _ _ _ _ _ us hl => by obtain ⟨a0, a1, a2, a3, rfl⟩ := ex4 hl; rfl
  have D25 := def_mk (st := lKinds) (ps := ["_law_error"]) X G a25 l25 c25 k25 fun _ _ _ _ _ _ us hl => by obtain ⟨a0, rfl⟩ := ex1 hl; rfl
  have D26 := def_mk (st := lWPrime) (ps := ["_law_door", "_law_prime_here"]) X G a26 l26 c26 k26 fun _ _ _ _ _ _ us hl => by obtain ⟨a0, a1, rfl⟩ := ex2 hl; rfl
  have D27 := def_mk (st := lMore) (ps := ["_law_door", "_law_prime_here"]) X G a27 l27 c27 k27 fun _ _ _ _ _ _ us hl => by obtain ⟨a0, a1, rfl⟩ := ex2 hl; rfl
  have D28 := def_mk (st := lWRule) (ps := ["_law_door", "_law_rule"]) X G a28 l28 c28 k28 fun _ _ _ _ _ _ us hl => by obtain ⟨a0, a1, rfl⟩ := ex2 hl; rfl
  have D29 := def_mk (st := lWRow) (ps := ["_law_door", "_law_row_here"]) X G a29 l29 c29 k29 fun _ _ _ _ _ _ us hl => by obtain ⟨a0, a1, rfl⟩ := ex2 hl; rfl
  have D30 := def_mk (st := lWFew) (ps := ["_law_door", "_law_row_here"]) X G a30 l30 c30 k30 fun _ _ _ _ _ _ us hl => by obtain ⟨a0, a1, rfl⟩ := ex2 hl; rfl
  have D31 := def_mk (st := lWPlace) (ps := ["_law_door", "_law_place"]) X G a31 l31 c31 k31 fun _ _ _ _ _ _ us hl => by obtain ⟨a0, a1, rfl⟩ := ex2 hl; rfl
  have D32 := def_mk (st := lTold) (ps := ["_law_ask", "_law_one", "_law_other"]) X G a32 l32 c32 k32 fun _ _ _ _ _ _ us hl => by obtain ⟨a0, a1, a2, rfl⟩ := ex3 hl; rfl
  have D33 := def_mk (st := lAll) (ps := ["_law_ask", "_law_doors", "_law_things", "_law_due_here"]) X G a33 l33 c33 k33 fun _ _ _ _ _ _ us hl => by obtain ⟨a0, a1, a2, a3, rfl⟩ := ex4 hl; rfl
  have D34 := def_mk (st := lLaw) (ps := ["_law_script"]) X G a34 l34 c34 k34 fun _ _ _ _ _ _ us hl => by obtain ⟨a0, rfl⟩ := ex1 hl; rfl
  have o : Own mg := ⟨PySem.W.mg_none_of X G z1, PySem.W.mg_none_of X G z2, PySem.W.mg_none_of X G z3, PySem.W.mg_none_of X G z4, PySem.W.mg_none_of X G z5, PySem.W.mg_none_of X G z6, PySem.W.mg_none_of X G z7, PySem.W.mg_none_of X G z8, PySem.W.mg_none_of X G z9, PySem.W.mg_none_of X G z10, PySem.W.mg_none_of X G z11, PySem.W.mg_none_of X G z12, PySem.W.mg_none_of X G z13, PySem.W.mg_none_of X G z14, PySem.W.mg_none_of X G z15⟩
  refine ⟨PySem.W.fnOf "law" "law" (defArgs lLaw) (defBody lLaw) (defScope lLaw) .none kV34 dc34 pm34 an34 cd34 ct34, fun s v => .of_eq rfl, fun base _ _ => ?_⟩
  have xccP : XC K cP bmcP := xc_mk xlcP xocP xicP xtcP
  have xccU : XC K cU bmcU := xc_mk xlcU xocU xicU xtcU
  have xccW : XC K cW bmcW := xc_mk xlcW xocW xicW xtcW
  have xccF : XC K cF bmcF := xc_mk xlcF xocF xicF xtcF
  have xccL : XC K cL bmcL := xc_mk xlcL xocL xicL xtcL
  have xccN : XC K cN bmcN := xc_mk xlcN xocN xicN xtcN
  have G1 := ok_whole (P := l.prog) (w := w) (base := base) D1 o
  have G2 := ok_prime (P := l.prog) (w := w) (base := base) D2 o D1 G1 (PySem.W.mg_of X G y1) (PySem.W.mg_of X G y2)
  have G3 := ok_rest (P := l.prog) (w := w) (base := base) D3 D1 G1
  have G4 := ok_are (P := l.prog) (w := w) (base := base) D4 o D3 G3
  have G5 := ok_needPrime (P := l.prog) (w := w) (base := base) D5 D2 G2
  have G6 := ok_needRule (P := l.prog) (w := w) (base := base) D6 D4 G4
  have G7 := ok_needRow (P := l.prog) (w := w) (base := base) D7 D4 G4
  have NN : Needs l.prog w K mg base _ _ _ _ _ _ := ⟨D5, G5, D6, G6, D7, G7⟩
  have G15 := ok_count (P := l.prog) (w := w) (base := base) D15 D1 G1
  have G14 := ok_start (P := l.prog) (w := w) (base := base) D14 o NN
  have G16 := ok_due (P := l.prog) (w := w) (base := base) D16 o
  have G10 := ok_goOn (P := l.prog) (w := w) (base := base) D10 o D14 G14 D15 G15 D16 G16
  have G8 := ok_inv (P := l.prog) (w := w) (base := base) D8 
  have G13 := ok_back (P := l.prog) (w := w) (base := base) D13 o NN D8 G8 xccN (PySem.W.mg_of X G mcN)
  have G20 := ok_cell (P := l.prog) (w := w) (base := base) D20 o
  have G21 := ok_draw (P := l.prog) (w := w) (base := base) D21 
  have G22 := ok_rests (P := l.prog) (w := w) (base := base) D22 o D20 G20 D21 G21
  have G24 := ok_dueL (P := l.prog) (w := w) (base := base) D24 o
  have G23 := ok_row (P := l.prog) (w := w) (base := base) D23 o D20 G20 D21 G21 D22 G22 D24 G24
  have X1 := ok_wholeV (P := l.prog) (w := w) (base := base) D1 o
  have X2 := ok_primeV (P := l.prog) (w := w) (base := base) D2 o D1 X1 (PySem.W.mg_of X G y1) (PySem.W.mg_of X G y2)
  have X3 := ok_restV (P := l.prog) (w := w) (base := base) D3 D1 X1
  have X4 := ok_areV (P := l.prog) (w := w) (base := base) D4 o D3 X3
  have X5 := ok_needPrimeX (P := l.prog) (w := w) (base := base) D5 D2 X2 xccP (PySem.W.mg_of X G mcP)
  have X6 := ok_needRuleX (P := l.prog) (w := w) (base := base) D6 D4 X4 xccU (PySem.W.mg_of X G mcU)
  have X7 := ok_needRowX (P := l.prog) (w := w) (base := base) D7 D4 X4 xccW (PySem.W.mg_of X G mcW)
  have X15 := ok_countX (P := l.prog) (w := w) (base := base) D15 D1 X1 xccL (PySem.W.mg_of X G mcL)
  have NX : NeedsX l.prog w K mg base _ _ _ _ _ _ _ _ cP cU cW cL := ⟨D5, X5, D6, X6, D7, X7, D15, X15⟩
  have X9 := ok_makesX (P := l.prog) (w := w) (base := base) D9 NX
  have X14 := ok_startX (P := l.prog) (w := w) (base := base) D14 o NX xccF (PySem.W.mg_of X G mcF)
  have X10 := ok_goOnX (P := l.prog) (w := w) (base := base) D10 NX D14 X14
  have X11 := ok_farX (P := l.prog) (w := w) (base := base) D11 NX D14 X14
  have X12 := ok_bothX (P := l.prog) (w := w) (base := base) D12 NX
  have X13 := ok_backX (P := l.prog) (w := w) (base := base) D13 NX
  have X17 := ok_leastX (P := l.prog) (w := w) (base := base) D17 NX
  have X18 := ok_unlikeX (P := l.prog) (w := w) (base := base) D18 D17 X17
  have X19 := ok_writtenX (P := l.prog) (w := w) (base := base) D19 NX
  have ZD : Doors l.prog w K mg base (fun i => [f1, f9, f10, f11, f12, f13, f17, f18, f19].getD i f1) (fun i => [fdOf D1, fdOf D9, fdOf D10, fdOf D11, fdOf D12, fdOf D13, fdOf D17, fdOf D18, fdOf D19].getD i (fdOf D1)) cP cU cW cF cL := ⟨D9, X9, D10, X10, D11, X11, D12, X12, D13, X13, D17, X17, D18, X18, D19, X19⟩
  have X27 := ok_more (P := l.prog) (w := w) (base := base) D27 ZD
  have X26 := ok_wprime (P := l.prog) (w := w) (base := base) D26 ZD D27 X27
  have X28 := ok_wrule (P := l.prog) (w := w) (base := base) D28 ZD
  have X29 := ok_wrow (P := l.prog) (w := w) (base := base) D29 ZD
  have X30 := ok_wfew (P := l.prog) (w := w) (base := base) D30 ZD
  have X31 := ok_wplace (P := l.prog) (w := w) (base := base) D31 ZD
  have en : EN mg (fun i => [cR, cP, cU, cW, cF, cL, cN, cT].getD i cR) := ⟨(PySem.W.mg_of X G mcR), (PySem.W.mg_of X G mcP), (PySem.W.mg_of X G mcU), (PySem.W.mg_of X G mcW), (PySem.W.mg_of X G mcF), (PySem.W.mg_of X G mcL), (PySem.W.mg_of X G mcN), (PySem.W.mg_of X G mcT), PySem.W.mg_none_of X G mV⟩
  have eccP : EC K (fun i => [cR, cP, cU, cW, cF, cL, cN, cT].getD i cR) cP 0 := ⟨bmcP, xccP, ⟨g1cP, g2cP, g3cP, g4cP, g5cP⟩, emcP, qcPcP, qcPcU, qcPcW, qcPcF, qcPcL, qcPcN, qcPcT, qcPV⟩
  have eccU : EC K (fun i => [cR, cP, cU, cW, cF, cL, cN, cT].getD i cR) cU 1 := ⟨bmcU, xccU, ⟨g1cU, g2cU, g3cU, g4cU, g5cU⟩, emcU, qcUcP, qcUcU, qcUcW, qcUcF, qcUcL, qcUcN, qcUcT, qcUV⟩
  have eccW : EC K (fun i => [cR, cP, cU, cW, cF, cL, cN, cT].getD i cR) cW 2 := ⟨bmcW, xccW, ⟨g1cW, g2cW, g3cW, g4cW, g5cW⟩, emcW, qcWcP, qcWcU, qcWcW, qcWcF, qcWcL, qcWcN, qcWcT, qcWV⟩
  have eccF : EC K (fun i => [cR, cP, cU, cW, cF, cL, cN, cT].getD i cR) cF 3 := ⟨bmcF, xccF, ⟨g1cF, g2cF, g3cF, g4cF, g5cF⟩, emcF, qcFcP, qcFcU, qcFcW, qcFcF, qcFcL, qcFcN, qcFcT, qcFV⟩
  have eccL : EC K (fun i => [cR, cP, cU, cW, cF, cL, cN, cT].getD i cR) cL 4 := ⟨bmcL, xccL, ⟨g1cL, g2cL, g3cL, g4cL, g5cL⟩, emcL, qcLcP, qcLcU, qcLcW, qcLcF, qcLcL, qcLcN, qcLcT, qcLV⟩
  have eccN : EC K (fun i => [cR, cP, cU, cW, cF, cL, cN, cT].getD i cR) cN 5 := ⟨bmcN, xccN, ⟨g1cN, g2cN, g3cN, g4cN, g5cN⟩, emcN, qcNcP, qcNcU, qcNcW, qcNcF, qcNcL, qcNcN, qcNcT, qcNV⟩
  have G25 := ok_kinds (P := l.prog) (w := w) (base := base) D25 o en
  have G32 := ok_told (P := l.prog) (w := w) (base := base) D32 en D25 G25
  have G33 := ok_all (P := l.prog) (w := w) (base := base) D33 o D32 G32
  have T : Kit7 l.prog w K mg base (fun i => [f1, f20, f23, f33, f32, f10, f13, f1, f1, f1, f26, f28, f29, f30, f31].getD i f1) (fun i => [fdOf D1, fdOf D20, fdOf D23, fdOf D33, fdOf D32, fdOf D10, fdOf D13, fdOf D1, fdOf D1, fdOf D1, fdOf D26, fdOf D28, fdOf D29, fdOf D30, fdOf D31].getD i (fdOf D1)) (fun i => [cR, cP, cU, cW, cF, cL, cN, cT].getD i cR) := ⟨o, D20, G20, D23, G23, D33, G33, D32, G32, D10, G10, D13, G13, D26.m, ⟨D26.F.kp, D26.b, X26⟩, D28.m, ⟨D28.F.kp, D28.b, X28⟩, D29.m, ⟨D29.F.kp, D29.b, X29⟩, D30.m, ⟨D30.F.kp, D30.b, X30⟩, D31.m, ⟨D31.F.kp, D31.b, X31⟩, eccP, eccU, eccW, eccF, eccL, eccN⟩
  exact ok_law D34 T

theorem walk {l : PySem.W.OpenLaw} {q : Program} {loose : List Str} {XP : (Str → Option Value) → Heap → Prop} {YP : World → Heap → Prop} {d : DefRec} {K : Params → PySem.W.Frag} (hn : l.most = some 63) (hdf : d.params.defaults = [])
    (hY : ∀ (w : World) (h : Heap), YP w h → (K w.params).In h)
    (F : ∀ (w : World) (mg : Str → Option Value) (fa : Addr) (h : Heap), (K w.params).In h → h.Ns mainGlobals mg → mg d.name = some (.ref fa) →
      ∃ fd : FuncData, (∀ (s : Shared) (u : Value), BindsTo s fd ⟨[u], []⟩ [("_law_script", u)]) ∧ ∀ base : Heap, (K w.params).In base → base.Ns mainGlobals mg → FnOk l.prog w (K w.params) mg base CX0 11 fa fd ["_law_script"] (spLaw (K w.params))) :
    PySem.W.WalkO q loose XP YP l.row.toRowW d [] (fun f vs => PySem.call f vs) :=
  L2.walk_of (n := 63) (k := 11) (x := "_law_script") (CX := fun _ => CX0) (sp := fun w => spLaw (K w.params)) hn (by decide) hdf ⟨rfl, by decide, by decide⟩ hY F (fun _ _ a ns hl _ hS => ⟨a, ns, rfl, hS, hl, fun _ => rfl⟩) fun _ _ _ _ _ z => z
end Rr

set_option Elab.async false
set_option linter.all false
set_option maxRecDepth 100000
set_option maxHeartbeats 0
namespace Rr
open PySem PySem.W PySem.W.BT L2 PyProof.Rows PySem.Calls
noncomputable section
def o0 (P : Params) : Obj := Obj.mk (.type "tuple") none (.seq #[] 0) #[]
def o1 (P : Params) : Obj := Obj.mk .none none (.fields #[]) #[]
def o2 (P : Params) : Obj := Obj.mk (.type "code") none (.fields #[(.str (Str.ofString "<module>") 182), (.str (Str.ofString "<module>") 183), (.str (Str.ofString "/claim/cut.py") 184), (.int 1 0), (.int 0 0), (.int 0 0), (.int 0 0), (.int 0 0), (.ref 11), (.bool false), (.int 181 0), (.ref 12), .none, .none, .none, .none, (.int 185 0), (.int 1 0), (.str (Str.ofString "/claim/cut.py") 186)]) #[]
def o3 (P : Params) : Obj := Obj.mk (.type "frame") none .plain #[(some (.ref 13)), (some (.ref 3)), (some (.ref 3)), none, (some (.str (Str.ofString "__main__") 164)), none, (some (.ref 0))]
def o4 (P : Params) : Obj := Obj.mk (.type "dict") none (.dict #[⟨PyData.keyHash P (Str.ofString "__name__"), (.str (Str.ofString "__name__") 165), (.str (Str.ofString "rulerow.errors") 194)⟩, ⟨PyData.keyHash P (Str.ofString "__doc__"), (.str (Str.ofString "__doc__") 166), .none⟩, ⟨PyData.keyHash P (Str.ofString "__package__"), (.str (Str.ofString "__package__") 167), .none⟩, ⟨PyData.keyHash P (Str.ofString "__loader__"), (.str (Str.ofString "__loader__") 168), (.builtin "__main__.__loader__#opaque")⟩, ⟨PyData.keyHash P (Str.ofString "__spec__"), (.str (Str.ofString "__spec__") 169), .none⟩, ⟨PyData.keyHash P (Str.ofString "__annotations__"), (.str (Str.ofString "__annotations__") 170), (.ref 6)⟩, ⟨PyData.keyHash P (Str.ofString "__builtins__"), (.str (Str.ofString "__builtins__") 171), (.ref 4)⟩, ⟨PyData.keyHash P (Str.ofString "__file__"), (.str (Str.ofString "__file__") 173), (.str (Str.ofString "/claim/cut.py") 172)⟩, ⟨PyData.keyHash P (Str.ofString "__cached__"), (.str (Str.ofString "__cached__") 174), .none⟩, ⟨PyData.keyHash P (Str.ofString "_wall"), (.str (Str.ofString "_wall") 193), (.ref 21)⟩, ⟨PyData.keyHash P (Str.ofString "RuleError"), (.str (Str.ofString "RuleError") 213), (.ref 31)⟩] 11) #[]
def o5 (P : Params) : Obj := Obj.mk .none none (.fields #[(.int 1 0), (.int 0 0), (.ref 20), (.int 5 0), (.int 0 0), (.ref 27)]) #[]
def o6 (P : Params) : Obj := Obj.mk (.type "tuple") none (.seq #[] 0) #[]
def o7 (P : Params) : Obj := Obj.mk .none none (.fields #[]) #[]
def o8 (P : Params) : Obj := Obj.mk (.type "tuple") none (.seq #[(.str (Str.ofString "k") 190)] 0) #[]
def o9 (P : Params) : Obj := Obj.mk (.type "tuple") none (.seq #[] 0) #[]
def o10 (P : Params) : Obj := Obj.mk .none none (.func (FuncData.mk (Str.ofString "_wall") (Str.ofString "_wall") (defArgs (top 0)) (.stmts (defBody (top 0))) (defScope (top 0)) 0 [] .none .none .none .none none .none .none 0)) #[]
def o11 (P : Params) : Obj := Obj.mk (.type "code") none (.fields #[(.str (Str.ofString "_wall") 187), (.str (Str.ofString "_wall") 188), (.str (Str.ofString "/claim/cut.py") 189), (.int 1 0), (.int 1 0), (.int 0 0), (.int 0 0), (.int 3 0), (.ref 15), (.bool true), (.int 181 0), (.ref 16), .none, (.ref 17), (.ref 18), (.ref 19), (.int 191 0), (.int 1 0), (.str (Str.ofString "/claim/cut.py") 192)]) #[]
def o12 (P : Params) : Obj := Obj.mk (.type "function") none (.func (fnOf (Str.ofString "_wall") (Str.ofString "_wall") (defArgs (top 0)) (defBody (top 0)) (defScope (top 0)) .none .none .none (.str (Str.ofString "__main__") 164) none (.ref 20) .none)) #[]
def o13 (P : Params) : Obj := Obj.mk (.type "tuple") none (.seq #[(.type "ValueError")] 0) #[]
def o14 (P : Params) : Obj := Obj.mk (.type "builtin_function_or_method") none (.fields #[(.builtin "type.__prepare__"), (.type "type")]) #[]
def o15 (P : Params) : Obj := Obj.mk (.type "dict") none (.dict #[⟨PyData.keyHash P (Str.ofString "__module__"), (.str (Str.ofString "__module__") 203), (.str (Str.ofString "rulerow.errors") 194)⟩, ⟨PyData.keyHash P (Str.ofString "__qualname__"), (.str (Str.ofString "__qualname__") 205), (.str (Str.ofString "RuleError") 204)⟩, ⟨PyData.keyHash P (Str.ofString "__firstlineno__"), (.str (Str.ofString "__firstlineno__") 207), (.int 5 206)⟩, ⟨PyData.keyHash P (Str.ofString "__static_attributes__"), (.str (Str.ofString "__static_attributes__") 208), (.ref 29)⟩] 4) #[]
def o16 (P : Params) : Obj := Obj.mk (.type "tuple") none (.seq #[] 0) #[]
def o17 (P : Params) : Obj := Obj.mk .none none (.fields #[]) #[]
def o18 (P : Params) : Obj := Obj.mk (.type "code") none (.fields #[(.str (Str.ofString "RuleError") 198), (.str (Str.ofString "RuleError") 199), (.str (Str.ofString "/claim/cut.py") 200), (.int 5 0), (.int 0 0), (.int 0 0), (.int 0 0), (.int 0 0), (.ref 25), (.bool false), (.int 181 0), (.ref 26), .none, .none, .none, .none, (.int 201 0), (.int 5 0), (.str (Str.ofString "/claim/cut.py") 202)]) #[]
def o19 (P : Params) : Obj := Obj.mk (.type "frame") none .plain #[(some (.ref 27)), (some (.ref 3)), (some (.ref 24)), none, (some (.str (Str.ofString "rulerow.errors") 194)), none, (some (.ref 0))]
def o20 (P : Params) : Obj := Obj.mk (.type "tuple") none (.seq #[] 0) #[]
def o21 (P : Params) : Obj := Obj.mk (.type "dict") none (.dict #[⟨PyData.keyHash P (Str.ofString "__module__"), (.str (Str.ofString "__module__") 203), (.str (Str.ofString "rulerow.errors") 194)⟩, ⟨PyData.keyHash P (Str.ofString "__firstlineno__"), (.str (Str.ofString "__firstlineno__") 207), (.int 5 206)⟩, ⟨PyData.keyHash P (Str.ofString "__static_attributes__"), (.str (Str.ofString "__static_attributes__") 208), (.ref 29)⟩, ⟨PyData.keyHash P (Str.ofString "__weakref__"), (.str (Str.ofString "__weakref__") 210), (.ref 32)⟩, ⟨PyData.keyHash P (Str.ofString "__doc__"), (.str (Str.ofString "__doc__") 211), .none⟩] 3) #[]
def o22 (P : Params) : Obj := Obj.mk (.type "type") none (.cls (ClassData.mk (Str.ofString "RuleError") [(.type "ValueError")] [(.ref 31), (.type "ValueError"), (.type "Exception"), (.type "BaseException"), (.type "object")] 30 (Str.ofString "RuleError") true [] [] false none false)) #[(some (.ref 22)), none, (some (.str (Str.ofString "RuleError") 196)), (some (.str (Str.ofString "RuleError") 204)), (some (.builtin "ValueError.__new__")), (some (.bool true))]
def o23 (P : Params) : Obj := Obj.mk (.type "getset_descriptor") none (.fields #[(.str (Str.ofString "__weakref__") 209), (.ref 31), (.builtin "ExceptionGroup.__weakref__"), .none]) #[]
def o24 (P : Params) : Obj := Obj.mk (.type "super") none (.fields #[(.ref 31), (.ref 31), (.ref 31)]) #[]
def o25 (P : Params) : Obj := Obj.mk (.type "builtin_function_or_method") none (.fields #[(.builtin "object.__init_subclass__"), (.ref 31)]) #[]
def o26 (P : Params) : Obj := Obj.mk (.type "dict") none (.dict #[⟨PyData.keyHash P (Str.ofString "__name__"), (.str (Str.ofString "__name__") 165), (.str (Str.ofString "rulerow.errors") 194)⟩, ⟨PyData.keyHash P (Str.ofString "__doc__"), (.str (Str.ofString "__doc__") 166), .none⟩, ⟨PyData.keyHash P (Str.ofString "__package__"), (.str (Str.ofString "__package__") 167), .none⟩, ⟨PyData.keyHash P (Str.ofString "__loader__"), (.str (Str.ofString "__loader__") 168), (.builtin "__main__.__loader__#opaque")⟩, ⟨PyData.keyHash P (Str.ofString "__spec__"), (.str (Str.ofString "__spec__") 169), .none⟩, ⟨PyData.keyHash P (Str.ofString "__annotations__"), (.str (Str.ofString "__annotations__") 170), (.ref 6)⟩, ⟨PyData.keyHash P (Str.ofString "__builtins__"), (.str (Str.ofString "__builtins__") 171), (.ref 4)⟩, ⟨PyData.keyHash P (Str.ofString "__file__"), (.str (Str.ofString "__file__") 173), (.str (Str.ofString "/claim/cut.py") 172)⟩, ⟨PyData.keyHash P (Str.ofString "__cached__"), (.str (Str.ofString "__cached__") 174), .none⟩, ⟨PyData.keyHash P (Str.ofString "_wall"), (.str (Str.ofString "_wall") 193), (.ref 21)⟩, ⟨PyData.keyHash P (Str.ofString "RuleError"), (.str (Str.ofString "RuleError") 213), (.ref 31)⟩, ⟨PyData.keyHash P (Str.ofString "BadPrime"), (.str (Str.ofString "BadPrime") 229), (.ref 44)⟩] 12) #[]
def o27 (P : Params) : Obj := Obj.mk .none none (.fields #[(.int 1 0), (.int 0 0), (.ref 20), (.int 5 0), (.int 0 0), (.ref 27), (.int 7 0), (.int 0 0), (.ref 40)]) #[]
def o28 (P : Params) : Obj := Obj.mk (.type "type") none (.cls (ClassData.mk (Str.ofString "RuleError") [(.type "ValueError")] [(.ref 31), (.type "ValueError"), (.type "Exception"), (.type "BaseException"), (.type "object")] 30 (Str.ofString "RuleError") true [] [(.ref 44)] false none false)) #[(some (.ref 22)), none, (some (.str (Str.ofString "RuleError") 196)), (some (.str (Str.ofString "RuleError") 204)), (some (.builtin "ValueError.__new__")), (some (.bool true))]
def o29 (P : Params) : Obj := Obj.mk (.type "tuple") none (.seq #[(.ref 31)] 0) #[]
def o30 (P : Params) : Obj := Obj.mk (.type "builtin_function_or_method") none (.fields #[(.builtin "type.__prepare__"), (.type "type")]) #[]
def o31 (P : Params) : Obj := Obj.mk (.type "dict") none (.dict #[⟨PyData.keyHash P (Str.ofString "__module__"), (.str (Str.ofString "__module__") 221), (.str (Str.ofString "rulerow.errors") 194)⟩, ⟨PyData.keyHash P (Str.ofString "__qualname__"), (.str (Str.ofString "__qualname__") 223), (.str (Str.ofString "BadPrime") 222)⟩, ⟨PyData.keyHash P (Str.ofString "__firstlineno__"), (.str (Str.ofString "__firstlineno__") 225), (.int 7 224)⟩, ⟨PyData.keyHash P (Str.ofString "__static_attributes__"), (.str (Str.ofString "__static_attributes__") 226), (.ref 42)⟩] 4) #[]
def o32 (P : Params) : Obj := Obj.mk (.type "tuple") none (.seq #[] 0) #[]
def o33 (P : Params) : Obj := Obj.mk .none none (.fields #[]) #[]
def o34 (P : Params) : Obj := Obj.mk (.type "code") none (.fields #[(.str (Str.ofString "BadPrime") 216), (.str (Str.ofString "BadPrime") 217), (.str (Str.ofString "/claim/cut.py") 218), (.int 7 0), (.int 0 0), (.int 0 0), (.int 0 0), (.int 0 0), (.ref 38), (.bool false), (.int 181 0), (.ref 39), .none, .none, .none, .none, (.int 219 0), (.int 7 0), (.str (Str.ofString "/claim/cut.py") 220)]) #[]
def o35 (P : Params) : Obj := Obj.mk (.type "frame") none .plain #[(some (.ref 40)), (some (.ref 3)), (some (.ref 37)), none, (some (.str (Str.ofString "rulerow.errors") 194)), none, (some (.ref 0))]
def o36 (P : Params) : Obj := Obj.mk (.type "tuple") none (.seq #[] 0) #[]
def o37 (P : Params) : Obj := Obj.mk (.type "dict") none (.dict #[⟨PyData.keyHash P (Str.ofString "__module__"), (.str (Str.ofString "__module__") 221), (.str (Str.ofString "rulerow.errors") 194)⟩, ⟨PyData.keyHash P (Str.ofString "__firstlineno__"), (.str (Str.ofString "__firstlineno__") 225), (.int 7 224)⟩, ⟨PyData.keyHash P (Str.ofString "__static_attributes__"), (.str (Str.ofString "__static_attributes__") 226), (.ref 42)⟩, ⟨PyData.keyHash P (Str.ofString "__doc__"), (.str (Str.ofString "__doc__") 227), .none⟩] 2) #[]
def o38 (P : Params) : Obj := Obj.mk (.type "type") none (.cls (ClassData.mk (Str.ofString "BadPrime") [(.ref 31)] [(.ref 44), (.ref 31), (.type "ValueError"), (.type "Exception"), (.type "BaseException"), (.type "object")] 43 (Str.ofString "BadPrime") true [] [] false none false)) #[(some (.ref 35)), none, (some (.str (Str.ofString "BadPrime") 214)), (some (.str (Str.ofString "BadPrime") 222)), (some (.builtin "ValueError.__new__")), (some (.bool true))]
def o39 (P : Params) : Obj := Obj.mk (.type "super") none (.fields #[(.ref 44), (.ref 44), (.ref 44)]) #[]
def o40 (P : Params) : Obj := Obj.mk (.type "builtin_function_or_method") none (.fields #[(.builtin "object.__init_subclass__"), (.ref 44)]) #[]
def o41 (P : Params) : Obj := Obj.mk (.type "dict") none (.dict #[⟨PyData.keyHash P (Str.ofString "__name__"), (.str (Str.ofString "__name__") 165), (.str (Str.ofString "rulerow.errors") 194)⟩, ⟨PyData.keyHash P (Str.ofString "__doc__"), (.str (Str.ofString "__doc__") 166), .none⟩, ⟨PyData.keyHash P (Str.ofString "__package__"), (.str (Str.ofString "__package__") 167), .none⟩, ⟨PyData.keyHash P (Str.ofString "__loader__"), (.str (Str.ofString "__loader__") 168), (.builtin "__main__.__loader__#opaque")⟩, ⟨PyData.keyHash P (Str.ofString "__spec__"), (.str (Str.ofString "__spec__") 169), .none⟩, ⟨PyData.keyHash P (Str.ofString "__annotations__"), (.str (Str.ofString "__annotations__") 170), (.ref 6)⟩, ⟨PyData.keyHash P (Str.ofString "__builtins__"), (.str (Str.ofString "__builtins__") 171), (.ref 4)⟩, ⟨PyData.keyHash P (Str.ofString "__file__"), (.str (Str.ofString "__file__") 173), (.str (Str.ofString "/claim/cut.py") 172)⟩, ⟨PyData.keyHash P (Str.ofString "__cached__"), (.str (Str.ofString "__cached__") 174), .none⟩, ⟨PyData.keyHash P (Str.ofString "_wall"), (.str (Str.ofString "_wall") 193), (.ref 21)⟩, ⟨PyData.keyHash P (Str.ofString "RuleError"), (.str (Str.ofString "RuleError") 213), (.ref 31)⟩, ⟨PyData.keyHash P (Str.ofString "BadPrime"), (.str (Str.ofString "BadPrime") 229), (.ref 44)⟩, ⟨PyData.keyHash P (Str.ofString "BadRow"), (.str (Str.ofString "BadRow") 245), (.ref 56)⟩] 13) #[]
def o42 (P : Params) : Obj := Obj.mk .none none (.fields #[(.int 1 0), (.int 0 0), (.ref 20), (.int 5 0), (.int 0 0), (.ref 27), (.int 7 0), (.int 0 0), (.ref 40), (.int 9 0), (.int 0 0), (.ref 52)]) #[]
def o43 (P : Params) : Obj := Obj.mk (.type "type") none (.cls (ClassData.mk (Str.ofString "RuleError") [(.type "ValueError")] [(.ref 31), (.type "ValueError"), (.type "Exception"), (.type "BaseException"), (.type "object")] 30 (Str.ofString "RuleError") true [] [(.ref 44), (.ref 56)] false none false)) #[(some (.ref 22)), none, (some (.str (Str.ofString "RuleError") 196)), (some (.str (Str.ofString "RuleError") 204)), (some (.builtin "ValueError.__new__")), (some (.bool true))]
def o44 (P : Params) : Obj := Obj.mk (.type "tuple") none (.seq #[(.ref 31)] 0) #[]
def o45 (P : Params) : Obj := Obj.mk (.type "builtin_function_or_method") none (.fields #[(.builtin "type.__prepare__"), (.type "type")]) #[]
def o46 (P : Params) : Obj := Obj.mk (.type "dict") none (.dict #[⟨PyData.keyHash P (Str.ofString "__module__"), (.str (Str.ofString "__module__") 237), (.str (Str.ofString "rulerow.errors") 194)⟩, ⟨PyData.keyHash P (Str.ofString "__qualname__"), (.str (Str.ofString "__qualname__") 239), (.str (Str.ofString "BadRow") 238)⟩, ⟨PyData.keyHash P (Str.ofString "__firstlineno__"), (.str (Str.ofString "__firstlineno__") 241), (.int 9 240)⟩, ⟨PyData.keyHash P (Str.ofString "__static_attributes__"), (.str (Str.ofString "__static_attributes__") 242), (.ref 54)⟩] 4) #[]
def o47 (P : Params) : Obj := Obj.mk (.type "tuple") none (.seq #[] 0) #[]
def o48 (P : Params) : Obj := Obj.mk .none none (.fields #[]) #[]
def o49 (P : Params) : Obj := Obj.mk (.type "code") none (.fields #[(.str (Str.ofString "BadRow") 232), (.str (Str.ofString "BadRow") 233), (.str (Str.ofString "/claim/cut.py") 234), (.int 9 0), (.int 0 0), (.int 0 0), (.int 0 0), (.int 0 0), (.ref 50), (.bool false), (.int 181 0), (.ref 51), .none, .none, .none, .none, (.int 235 0), (.int 9 0), (.str (Str.ofString "/claim/cut.py") 236)]) #[]
def o50 (P : Params) : Obj := Obj.mk (.type "frame") none .plain #[(some (.ref 52)), (some (.ref 3)), (some (.ref 49)), none, (some (.str (Str.ofString "rulerow.errors") 194)), none, (some (.ref 0))]
def o51 (P : Params) : Obj := Obj.mk (.type "tuple") none (.seq #[] 0) #[]
def o52 (P : Params) : Obj := Obj.mk (.type "dict") none (.dict #[⟨PyData.keyHash P (Str.ofString "__module__"), (.str (Str.ofString "__module__") 237), (.str (Str.ofString "rulerow.errors") 194)⟩, ⟨PyData.keyHash P (Str.ofString "__firstlineno__"), (.str (Str.ofString "__firstlineno__") 241), (.int 9 240)⟩, ⟨PyData.keyHash P (Str.ofString "__static_attributes__"), (.str (Str.ofString "__static_attributes__") 242), (.ref 54)⟩, ⟨PyData.keyHash P (Str.ofString "__doc__"), (.str (Str.ofString "__doc__") 243), .none⟩] 2) #[]
def o53 (P : Params) : Obj := Obj.mk (.type "type") none (.cls (ClassData.mk (Str.ofString "BadRow") [(.ref 31)] [(.ref 56), (.ref 31), (.type "ValueError"), (.type "Exception"), (.type "BaseException"), (.type "object")] 55 (Str.ofString "BadRow") true [] [] false none false)) #[(some (.ref 47)), none, (some (.str (Str.ofString "BadRow") 230)), (some (.str (Str.ofString "BadRow") 238)), (some (.builtin "ValueError.__new__")), (some (.bool true))]
def o54 (P : Params) : Obj := Obj.mk (.type "super") none (.fields #[(.ref 56), (.ref 56), (.ref 56)]) #[]
def o55 (P : Params) : Obj := Obj.mk (.type "builtin_function_or_method") none (.fields #[(.builtin "object.__init_subclass__"), (.ref 56)]) #[]
def o56 (P : Params) : Obj := Obj.mk (.type "dict") none (.dict #[⟨PyData.keyHash P (Str.ofString "__name__"), (.str (Str.ofString "__name__") 165), (.str (Str.ofString "rulerow.errors") 194)⟩, ⟨PyData.keyHash P (Str.ofString "__doc__"), (.str (Str.ofString "__doc__") 166), .none⟩, ⟨PyData.keyHash P (Str.ofString "__package__"), (.str (Str.ofString "__package__") 167), .none⟩, ⟨PyData.keyHash P (Str.ofString "__loader__"), (.str (Str.ofString "__loader__") 168), (.builtin "__main__.__loader__#opaque")⟩, ⟨PyData.keyHash P (Str.ofString "__spec__"), (.str (Str.ofString "__spec__") 169), .none⟩, ⟨PyData.keyHash P (Str.ofString "__annotations__"), (.str (Str.ofString "__annotations__") 170), (.ref 6)⟩, ⟨PyData.keyHash P (Str.ofString "__builtins__"), (.str (Str.ofString "__builtins__") 171), (.ref 4)⟩, ⟨PyData.keyHash P (Str.ofString "__file__"), (.str (Str.ofString "__file__") 173), (.str (Str.ofString "/claim/cut.py") 172)⟩, ⟨PyData.keyHash P (Str.ofString "__cached__"), (.str (Str.ofString "__cached__") 174), .none⟩, ⟨PyData.keyHash P (Str.ofString "_wall"), (.str (Str.ofString "_wall") 193), (.ref 21)⟩, ⟨PyData.keyHash P (Str.ofString "RuleError"), (.str (Str.ofString "RuleError") 213), (.ref 31)⟩, ⟨PyData.keyHash P (Str.ofString "BadPrime"), (.str (Str.ofString "BadPrime") 229), (.ref 44)⟩, ⟨PyData.keyHash P (Str.ofString "BadRow"), (.str (Str.ofString "BadRow") 245), (.ref 56)⟩, ⟨PyData.keyHash P (Str.ofString "BadRule"), (.str (Str.ofString "BadRule") 261), (.ref 68)⟩] 14) #[]
def o57 (P : Params) : Obj := Obj.mk .none none (.fields #[(.int 1 0), (.int 0 0), (.ref 20), (.int 5 0), (.int 0 0), (.ref 27), (.int 7 0), (.int 0 0), (.ref 40), (.int 9 0), (.int 0 0), (.ref 52), (.int 11 0), (.int 0 0), (.ref 64)]) #[]
def o58 (P : Params) : Obj := Obj.mk (.type "type") none (.cls (ClassData.mk (Str.ofString "RuleError") [(.type "ValueError")] [(.ref 31), (.type "ValueError"), (.type "Exception"), (.type "BaseException"), (.type "object")] 30 (Str.ofString "RuleError") true [] [(.ref 44), (.ref 56), (.ref 68)] false none false)) #[(some (.ref 22)), none, (some (.str (Str.ofString "RuleError") 196)), (some (.str (Str.ofString "RuleError") 204)), (some (.builtin "ValueError.__new__")), (some (.bool true))]
def o59 (P : Params) : Obj := Obj.mk (.type "tuple") none (.seq #[(.ref 31)] 0) #[]
def o60 (P : Params) : Obj := Obj.mk (.type "builtin_function_or_method") none (.fields #[(.builtin "type.__prepare__"), (.type "type")]) #[]
def o61 (P : Params) : Obj := Obj.mk (.type "dict") none (.dict #[⟨PyData.keyHash P (Str.ofString "__module__"), (.str (Str.ofString "__module__") 253), (.str (Str.ofString "rulerow.errors") 194)⟩, ⟨PyData.keyHash P (Str.ofString "__qualname__"), (.str (Str.ofString "__qualname__") 255), (.str (Str.ofString "BadRule") 254)⟩, ⟨PyData.keyHash P (Str.ofString "__firstlineno__"), (.str (Str.ofString "__firstlineno__") 257), (.int 11 256)⟩, ⟨PyData.keyHash P (Str.ofString "__static_attributes__"), (.str (Str.ofString "__static_attributes__") 258), (.ref 66)⟩] 4) #[]
def o62 (P : Params) : Obj := Obj.mk (.type "tuple") none (.seq #[] 0) #[]
def o63 (P : Params) : Obj := Obj.mk .none none (.fields #[]) #[]
def o64 (P : Params) : Obj := Obj.mk (.type "code") none (.fields #[(.str (Str.ofString "BadRule") 248), (.str (Str.ofString "BadRule") 249), (.str (Str.ofString "/claim/cut.py") 250), (.int 11 0), (.int 0 0), (.int 0 0), (.int 0 0), (.int 0 0), (.ref 62), (.bool false), (.int 181 0), (.ref 63), .none, .none, .none, .none, (.int 251 0), (.int 11 0), (.str (Str.ofString "/claim/cut.py") 252)]) #[]
def o65 (P : Params) : Obj := Obj.mk (.type "frame") none .plain #[(some (.ref 64)), (some (.ref 3)), (some (.ref 61)), none, (some (.str (Str.ofString "rulerow.errors") 194)), none, (some (.ref 0))]
def o66 (P : Params) : Obj := Obj.mk (.type "tuple") none (.seq #[] 0) #[]
def o67 (P : Params) : Obj := Obj.mk (.type "dict") none (.dict #[⟨PyData.keyHash P (Str.ofString "__module__"), (.str (Str.ofString "__module__") 253), (.str (Str.ofString "rulerow.errors") 194)⟩, ⟨PyData.keyHash P (Str.ofString "__firstlineno__"), (.str (Str.ofString "__firstlineno__") 257), (.int 11 256)⟩, ⟨PyData.keyHash P (Str.ofString "__static_attributes__"), (.str (Str.ofString "__static_attributes__") 258), (.ref 66)⟩, ⟨PyData.keyHash P (Str.ofString "__doc__"), (.str (Str.ofString "__doc__") 259), .none⟩] 2) #[]
def o68 (P : Params) : Obj := Obj.mk (.type "type") none (.cls (ClassData.mk (Str.ofString "BadRule") [(.ref 31)] [(.ref 68), (.ref 31), (.type "ValueError"), (.type "Exception"), (.type "BaseException"), (.type "object")] 67 (Str.ofString "BadRule") true [] [] false none false)) #[(some (.ref 59)), none, (some (.str (Str.ofString "BadRule") 246)), (some (.str (Str.ofString "BadRule") 254)), (some (.builtin "ValueError.__new__")), (some (.bool true))]
def o69 (P : Params) : Obj := Obj.mk (.type "super") none (.fields #[(.ref 68), (.ref 68), (.ref 68)]) #[]
def o70 (P : Params) : Obj := Obj.mk (.type "builtin_function_or_method") none (.fields #[(.builtin "object.__init_subclass__"), (.ref 68)]) #[]
def o71 (P : Params) : Obj := Obj.mk (.type "dict") none (.dict #[⟨PyData.keyHash P (Str.ofString "__name__"), (.str (Str.ofString "__name__") 165), (.str (Str.ofString "rulerow.errors") 194)⟩, ⟨PyData.keyHash P (Str.ofString "__doc__"), (.str (Str.ofString "__doc__") 166), .none⟩, ⟨PyData.keyHash P (Str.ofString "__package__"), (.str (Str.ofString "__package__") 167), .none⟩, ⟨PyData.keyHash P (Str.ofString "__loader__"), (.str (Str.ofString "__loader__") 168), (.builtin "__main__.__loader__#opaque")⟩, ⟨PyData.keyHash P (Str.ofString "__spec__"), (.str (Str.ofString "__spec__") 169), .none⟩, ⟨PyData.keyHash P (Str.ofString "__annotations__"), (.str (Str.ofString "__annotations__") 170), (.ref 6)⟩, ⟨PyData.keyHash P (Str.ofString "__builtins__"), (.str (Str.ofString "__builtins__") 171), (.ref 4)⟩, ⟨PyData.keyHash P (Str.ofString "__file__"), (.str (Str.ofString "__file__") 173), (.str (Str.ofString "/claim/cut.py") 172)⟩, ⟨PyData.keyHash P (Str.ofString "__cached__"), (.str (Str.ofString "__cached__") 174), .none⟩, ⟨PyData.keyHash P (Str.ofString "_wall"), (.str (Str.ofString "_wall") 193), (.ref 21)⟩, ⟨PyData.keyHash P (Str.ofString "RuleError"), (.str (Str.ofString "RuleError") 213), (.ref 31)⟩, ⟨PyData.keyHash P (Str.ofString "BadPrime"), (.str (Str.ofString "BadPrime") 229), (.ref 44)⟩, ⟨PyData.keyHash P (Str.ofString "BadRow"), (.str (Str.ofString "BadRow") 245), (.ref 56)⟩, ⟨PyData.keyHash P (Str.ofString "BadRule"), (.str (Str.ofString "BadRule") 261), (.ref 68)⟩, ⟨PyData.keyHash P (Str.ofString "BadPlace"), (.str (Str.ofString "BadPlace") 277), (.ref 80)⟩] 15) #[]
def o72 (P : Params) : Obj := Obj.mk .none none (.fields #[(.int 1 0), (.int 0 0), (.ref 20), (.int 5 0), (.int 0 0), (.ref 27), (.int 7 0), (.int 0 0), (.ref 40), (.int 9 0), (.int 0 0), (.ref 52), (.int 11 0), (.int 0 0), (.ref 64), (.int 13 0), (.int 0 0), (.ref 76)]) #[]
def o73 (P : Params) : Obj := Obj.mk (.type "type") none (.cls (ClassData.mk (Str.ofString "RuleError") [(.type "ValueError")] [(.ref 31), (.type "ValueError"), (.type "Exception"), (.type "BaseException"), (.type "object")] 30 (Str.ofString "RuleError") true [] [(.ref 44), (.ref 56), (.ref 68), (.ref 80)] false none false)) #[(some (.ref 22)), none, (some (.str (Str.ofString "RuleError") 196)), (some (.str (Str.ofString "RuleError") 204)), (some (.builtin "ValueError.__new__")), (some (.bool true))]
def o74 (P : Params) : Obj := Obj.mk (.type "tuple") none (.seq #[(.ref 31)] 0) #[]
def o75 (P : Params) : Obj := Obj.mk (.type "builtin_function_or_method") none (.fields #[(.builtin "type.__prepare__"), (.type "type")]) #[]
def o76 (P : Params) : Obj := Obj.mk (.type "dict") none (.dict #[⟨PyData.keyHash P (Str.ofString "__module__"), (.str (Str.ofString "__module__") 269), (.str (Str.ofString "rulerow.errors") 194)⟩, ⟨PyData.keyHash P (Str.ofString "__qualname__"), (.str (Str.ofString "__qualname__") 271), (.str (Str.ofString "BadPlace") 270)⟩, ⟨PyData.keyHash P (Str.ofString "__firstlineno__"), (.str (Str.ofString "__firstlineno__") 273), (.int 13 272)⟩, ⟨PyData.keyHash P (Str.ofString "__static_attributes__"), (.str (Str.ofString "__static_attributes__") 274), (.ref 78)⟩] 4) #[]
def o77 (P : Params) : Obj := Obj.mk (.type "tuple") none (.seq #[] 0) #[]
def o78 (P : Params) : Obj := Obj.mk .none none (.fields #[]) #[]
def o79 (P : Params) : Obj := Obj.mk (.type "code") none (.fields #[(.str (Str.ofString "BadPlace") 264), (.str (Str.ofString "BadPlace") 265), (.str (Str.ofString "/claim/cut.py") 266), (.int 13 0), (.int 0 0), (.int 0 0), (.int 0 0), (.int 0 0), (.ref 74), (.bool false), (.int 181 0), (.ref 75), .none, .none, .none, .none, (.int 267 0), (.int 13 0), (.str (Str.ofString "/claim/cut.py") 268)]) #[]
def o80 (P : Params) : Obj := Obj.mk (.type "frame") none .plain #[(some (.ref 76)), (some (.ref 3)), (some (.ref 73)), none, (some (.str (Str.ofString "rulerow.errors") 194)), none, (some (.ref 0))]
def o81 (P : Params) : Obj := Obj.mk (.type "tuple") none (.seq #[] 0) #[]
def o82 (P : Params) : Obj := Obj.mk (.type "dict") none (.dict #[⟨PyData.keyHash P (Str.ofString "__module__"), (.str (Str.ofString "__module__") 269), (.str (Str.ofString "rulerow.errors") 194)⟩, ⟨PyData.keyHash P (Str.ofString "__firstlineno__"), (.str (Str.ofString "__firstlineno__") 273), (.int 13 272)⟩, ⟨PyData.keyHash P (Str.ofString "__static_attributes__"), (.str (Str.ofString "__static_attributes__") 274), (.ref 78)⟩, ⟨PyData.keyHash P (Str.ofString "__doc__"), (.str (Str.ofString "__doc__") 275), .none⟩] 2) #[]
def o83 (P : Params) : Obj := Obj.mk (.type "type") none (.cls (ClassData.mk (Str.ofString "BadPlace") [(.ref 31)] [(.ref 80), (.ref 31), (.type "ValueError"), (.type "Exception"), (.type "BaseException"), (.type "object")] 79 (Str.ofString "BadPlace") true [] [] false none false)) #[(some (.ref 71)), none, (some (.str (Str.ofString "BadPlace") 262)), (some (.str (Str.ofString "BadPlace") 270)), (some (.builtin "ValueError.__new__")), (some (.bool true))]
def o84 (P : Params) : Obj := Obj.mk (.type "super") none (.fields #[(.ref 80), (.ref 80), (.ref 80)]) #[]
def o85 (P : Params) : Obj := Obj.mk (.type "builtin_function_or_method") none (.fields #[(.builtin "object.__init_subclass__"), (.ref 80)]) #[]
def o86 (P : Params) : Obj := Obj.mk (.type "dict") none (.dict #[⟨PyData.keyHash P (Str.ofString "__name__"), (.str (Str.ofString "__name__") 165), (.str (Str.ofString "rulerow.errors") 194)⟩, ⟨PyData.keyHash P (Str.ofString "__doc__"), (.str (Str.ofString "__doc__") 166), .none⟩, ⟨PyData.keyHash P (Str.ofString "__package__"), (.str (Str.ofString "__package__") 167), .none⟩, ⟨PyData.keyHash P (Str.ofString "__loader__"), (.str (Str.ofString "__loader__") 168), (.builtin "__main__.__loader__#opaque")⟩, ⟨PyData.keyHash P (Str.ofString "__spec__"), (.str (Str.ofString "__spec__") 169), .none⟩, ⟨PyData.keyHash P (Str.ofString "__annotations__"), (.str (Str.ofString "__annotations__") 170), (.ref 6)⟩, ⟨PyData.keyHash P (Str.ofString "__builtins__"), (.str (Str.ofString "__builtins__") 171), (.ref 4)⟩, ⟨PyData.keyHash P (Str.ofString "__file__"), (.str (Str.ofString "__file__") 173), (.str (Str.ofString "/claim/cut.py") 172)⟩, ⟨PyData.keyHash P (Str.ofString "__cached__"), (.str (Str.ofString "__cached__") 174), .none⟩, ⟨PyData.keyHash P (Str.ofString "_wall"), (.str (Str.ofString "_wall") 193), (.ref 21)⟩, ⟨PyData.keyHash P (Str.ofString "RuleError"), (.str (Str.ofString "RuleError") 213), (.ref 31)⟩, ⟨PyData.keyHash P (Str.ofString "BadPrime"), (.str (Str.ofString "BadPrime") 229), (.ref 44)⟩, ⟨PyData.keyHash P (Str.ofString "BadRow"), (.str (Str.ofString "BadRow") 245), (.ref 56)⟩, ⟨PyData.keyHash P (Str.ofString "BadRule"), (.str (Str.ofString "BadRule") 261), (.ref 68)⟩, ⟨PyData.keyHash P (Str.ofString "BadPlace"), (.str (Str.ofString "BadPlace") 277), (.ref 80)⟩, ⟨PyData.keyHash P (Str.ofString "TooFew"), (.str (Str.ofString "TooFew") 293), (.ref 92)⟩] 16) #[]
def o87 (P : Params) : Obj := Obj.mk .none none (.fields #[(.int 1 0), (.int 0 0), (.ref 20), (.int 5 0), (.int 0 0), (.ref 27), (.int 7 0), (.int 0 0), (.ref 40), (.int 9 0), (.int 0 0), (.ref 52), (.int 11 0), (.int 0 0), (.ref 64), (.int 13 0), (.int 0 0), (.ref 76), (.int 15 0), (.int 0 0), (.ref 88)]) #[]
def o88 (P : Params) : Obj := Obj.mk (.type "type") none (.cls (ClassData.mk (Str.ofString "RuleError") [(.type "ValueError")] [(.ref 31), (.type "ValueError"), (.type "Exception"), (.type "BaseException"), (.type "object")] 30 (Str.ofString "RuleError") true [] [(.ref 44), (.ref 56), (.ref 68), (.ref 80), (.ref 92)] false none false)) #[(some (.ref 22)), none, (some (.str (Str.ofString "RuleError") 196)), (some (.str (Str.ofString "RuleError") 204)), (some (.builtin "ValueError.__new__")), (some (.bool true))]
def o89 (P : Params) : Obj := Obj.mk (.type "tuple") none (.seq #[(.ref 31)] 0) #[]
def o90 (P : Params) : Obj := Obj.mk (.type "builtin_function_or_method") none (.fields #[(.builtin "type.__prepare__"), (.type "type")]) #[]
def o91 (P : Params) : Obj := Obj.mk (.type "dict") none (.dict #[⟨PyData.keyHash P (Str.ofString "__module__"), (.str (Str.ofString "__module__") 285), (.str (Str.ofString "rulerow.errors") 194)⟩, ⟨PyData.keyHash P (Str.ofString "__qualname__"), (.str (Str.ofString "__qualname__") 287), (.str (Str.ofString "TooFew") 286)⟩, ⟨PyData.keyHash P (Str.ofString "__firstlineno__"), (.str (Str.ofString "__firstlineno__") 289), (.int 15 288)⟩, ⟨PyData.keyHash P (Str.ofString "__static_attributes__"), (.str (Str.ofString "__static_attributes__") 290), (.ref 90)⟩] 4) #[]
def o92 (P : Params) : Obj := Obj.mk (.type "tuple") none (.seq #[] 0) #[]
def o93 (P : Params) : Obj := Obj.mk .none none (.fields #[]) #[]
def o94 (P : Params) : Obj := Obj.mk (.type "code") none (.fields #[(.str (Str.ofString "TooFew") 280), (.str (Str.ofString "TooFew") 281), (.str (Str.ofString "/claim/cut.py") 282), (.int 15 0), (.int 0 0), (.int 0 0), (.int 0 0), (.int 0 0), (.ref 86), (.bool false), (.int 181 0), (.ref 87), .none, .none, .none, .none, (.int 283 0), (.int 15 0), (.str (Str.ofString "/claim/cut.py") 284)]) #[]
def o95 (P : Params) : Obj := Obj.mk (.type "frame") none .plain #[(some (.ref 88)), (some (.ref 3)), (some (.ref 85)), none, (some (.str (Str.ofString "rulerow.errors") 194)), none, (some (.ref 0))]
def o96 (P : Params) : Obj := Obj.mk (.type "tuple") none (.seq #[] 0) #[]
def o97 (P : Params) : Obj := Obj.mk (.type "dict") none (.dict #[⟨PyData.keyHash P (Str.ofString "__module__"), (.str (Str.ofString "__module__") 285), (.str (Str.ofString "rulerow.errors") 194)⟩, ⟨PyData.keyHash P (Str.ofString "__firstlineno__"), (.str (Str.ofString "__firstlineno__") 289), (.int 15 288)⟩, ⟨PyData.keyHash P (Str.ofString "__static_attributes__"), (.str (Str.ofString "__static_attributes__") 290), (.ref 90)⟩, ⟨PyData.keyHash P (Str.ofString "__doc__"), (.str (Str.ofString "__doc__") 291), .none⟩] 2) #[]
def o98 (P : Params) : Obj := Obj.mk (.type "type") none (.cls (ClassData.mk (Str.ofString "TooFew") [(.ref 31)] [(.ref 92), (.ref 31), (.type "ValueError"), (.type "Exception"), (.type "BaseException"), (.type "object")] 91 (Str.ofString "TooFew") true [] [] false none false)) #[(some (.ref 83)), none, (some (.str (Str.ofString "TooFew") 278)), (some (.str (Str.ofString "TooFew") 286)), (some (.builtin "ValueError.__new__")), (some (.bool true))]
def o99 (P : Params) : Obj := Obj.mk (.type "super") none (.fields #[(.ref 92), (.ref 92), (.ref 92)]) #[]
def o100 (P : Params) : Obj := Obj.mk (.type "builtin_function_or_method") none (.fields #[(.builtin "object.__init_subclass__"), (.ref 92)]) #[]
def o101 (P : Params) : Obj := Obj.mk (.type "dict") none (.dict #[⟨PyData.keyHash P (Str.ofString "__name__"), (.str (Str.ofString "__name__") 165), (.str (Str.ofString "rulerow.errors") 194)⟩, ⟨PyData.keyHash P (Str.ofString "__doc__"), (.str (Str.ofString "__doc__") 166), .none⟩, ⟨PyData.keyHash P (Str.ofString "__package__"), (.str (Str.ofString "__package__") 167), .none⟩, ⟨PyData.keyHash P (Str.ofString "__loader__"), (.str (Str.ofString "__loader__") 168), (.builtin "__main__.__loader__#opaque")⟩, ⟨PyData.keyHash P (Str.ofString "__spec__"), (.str (Str.ofString "__spec__") 169), .none⟩, ⟨PyData.keyHash P (Str.ofString "__annotations__"), (.str (Str.ofString "__annotations__") 170), (.ref 6)⟩, ⟨PyData.keyHash P (Str.ofString "__builtins__"), (.str (Str.ofString "__builtins__") 171), (.ref 4)⟩, ⟨PyData.keyHash P (Str.ofString "__file__"), (.str (Str.ofString "__file__") 173), (.str (Str.ofString "/claim/cut.py") 172)⟩, ⟨PyData.keyHash P (Str.ofString "__cached__"), (.str (Str.ofString "__cached__") 174), .none⟩, ⟨PyData.keyHash P (Str.ofString "_wall"), (.str (Str.ofString "_wall") 193), (.ref 21)⟩, ⟨PyData.keyHash P (Str.ofString "RuleError"), (.str (Str.ofString "RuleError") 213), (.ref 31)⟩, ⟨PyData.keyHash P (Str.ofString "BadPrime"), (.str (Str.ofString "BadPrime") 229), (.ref 44)⟩, ⟨PyData.keyHash P (Str.ofString "BadRow"), (.str (Str.ofString "BadRow") 245), (.ref 56)⟩, ⟨PyData.keyHash P (Str.ofString "BadRule"), (.str (Str.ofString "BadRule") 261), (.ref 68)⟩, ⟨PyData.keyHash P (Str.ofString "BadPlace"), (.str (Str.ofString "BadPlace") 277), (.ref 80)⟩, ⟨PyData.keyHash P (Str.ofString "TooFew"), (.str (Str.ofString "TooFew") 293), (.ref 92)⟩, ⟨PyData.keyHash P (Str.ofString "NoWay"), (.str (Str.ofString "NoWay") 309), (.ref 104)⟩] 17) #[]
def o102 (P : Params) : Obj := Obj.mk .none none (.fields #[(.int 1 0), (.int 0 0), (.ref 20), (.int 5 0), (.int 0 0), (.ref 27), (.int 7 0), (.int 0 0), (.ref 40), (.int 9 0), (.int 0 0), (.ref 52), (.int 11 0), (.int 0 0), (.ref 64), (.int 13 0), (.int 0 0), (.ref 76), (.int 15 0), (.int 0 0), (.ref 88), (.int 17 0), (.int 0 0), (.ref 100)]) #[]
def o103 (P : Params) : Obj := Obj.mk (.type "type") none (.cls (ClassData.mk (Str.ofString "RuleError") [(.type "ValueError")] [(.ref 31), (.type "ValueError"), (.type "Exception"), (.type "BaseException"), (.type "object")] 30 (Str.ofString "RuleError") true [] [(.ref 44), (.ref 56), (.ref 68), (.ref 80), (.ref 92), (.ref 104)] false none false)) #[(some (.ref 22)), none, (some (.str (Str.ofString "RuleError") 196)), (some (.str (Str.ofString "RuleError") 204)), (some (.builtin "ValueError.__new__")), (some (.bool true))]
def o104 (P : Params) : Obj := Obj.mk (.type "tuple") none (.seq #[(.ref 31)] 0) #[]
def o105 (P : Params) : Obj := Obj.mk (.type "builtin_function_or_method") none (.fields #[(.builtin "type.__prepare__"), (.type "type")]) #[]
def o106 (P : Params) : Obj := Obj.mk (.type "dict") none (.dict #[⟨PyData.keyHash P (Str.ofString "__module__"), (.str (Str.ofString "__module__") 301), (.str (Str.ofString "rulerow.errors") 194)⟩, ⟨PyData.keyHash P (Str.ofString "__qualname__"), (.str (Str.ofString "__qualname__") 303), (.str (Str.ofString "NoWay") 302)⟩, ⟨PyData.keyHash P (Str.ofString "__firstlineno__"), (.str (Str.ofString "__firstlineno__") 305), (.int 17 304)⟩, ⟨PyData.keyHash P (Str.ofString "__static_attributes__"), (.str (Str.ofString "__static_attributes__") 306), (.ref 102)⟩] 4) #[]
def o107 (P : Params) : Obj := Obj.mk (.type "tuple") none (.seq #[] 0) #[]
def o108 (P : Params) : Obj := Obj.mk .none none (.fields #[]) #[]
def o109 (P : Params) : Obj := Obj.mk (.type "code") none (.fields #[(.str (Str.ofString "NoWay") 296), (.str (Str.ofString "NoWay") 297), (.str (Str.ofString "/claim/cut.py") 298), (.int 17 0), (.int 0 0), (.int 0 0), (.int 0 0), (.int 0 0), (.ref 98), (.bool false), (.int 181 0), (.ref 99), .none, .none, .none, .none, (.int 299 0), (.int 17 0), (.str (Str.ofString "/claim/cut.py") 300)]) #[]
def o110 (P : Params) : Obj := Obj.mk (.type "frame") none .plain #[(some (.ref 100)), (some (.ref 3)), (some (.ref 97)), none, (some (.str (Str.ofString "rulerow.errors") 194)), none, (some (.ref 0))]
def o111 (P : Params) : Obj := Obj.mk (.type "tuple") none (.seq #[] 0) #[]
def o112 (P : Params) : Obj := Obj.mk (.type "dict") none (.dict #[⟨PyData.keyHash P (Str.ofString "__module__"), (.str (Str.ofString "__module__") 301), (.str (Str.ofString "rulerow.errors") 194)⟩, ⟨PyData.keyHash P (Str.ofString "__firstlineno__"), (.str (Str.ofString "__firstlineno__") 305), (.int 17 304)⟩, ⟨PyData.keyHash P (Str.ofString "__static_attributes__"), (.str (Str.ofString "__static_attributes__") 306), (.ref 102)⟩, ⟨PyData.keyHash P (Str.ofString "__doc__"), (.str (Str.ofString "__doc__") 307), .none⟩] 2) #[]
def o113 (P : Params) : Obj := Obj.mk (.type "type") none (.cls (ClassData.mk (Str.ofString "NoWay") [(.ref 31)] [(.ref 104), (.ref 31), (.type "ValueError"), (.type "Exception"), (.type "BaseException"), (.type "object")] 103 (Str.ofString "NoWay") true [] [] false none false)) #[(some (.ref 95)), none, (some (.str (Str.ofString "NoWay") 294)), (some (.str (Str.ofString "NoWay") 302)), (some (.builtin "ValueError.__new__")), (some (.bool true))]
def o114 (P : Params) : Obj := Obj.mk (.type "super") none (.fields #[(.ref 104), (.ref 104), (.ref 104)]) #[]
def o115 (P : Params) : Obj := Obj.mk (.type "builtin_function_or_method") none (.fields #[(.builtin "object.__init_subclass__"), (.ref 104)]) #[]
def o116 (P : Params) : Obj := Obj.mk (.type "dict") none (.dict #[⟨PyData.keyHash P (Str.ofString "__name__"), (.str (Str.ofString "__name__") 165), (.str (Str.ofString "rulerow.rests") 326)⟩, ⟨PyData.keyHash P (Str.ofString "__doc__"), (.str (Str.ofString "__doc__") 166), .none⟩, ⟨PyData.keyHash P (Str.ofString "__package__"), (.str (Str.ofString "__package__") 167), .none⟩, ⟨PyData.keyHash P (Str.ofString "__loader__"), (.str (Str.ofString "__loader__") 168), (.builtin "__main__.__loader__#opaque")⟩, ⟨PyData.keyHash P (Str.ofString "__spec__"), (.str (Str.ofString "__spec__") 169), .none⟩, ⟨PyData.keyHash P (Str.ofString "__annotations__"), (.str (Str.ofString "__annotations__") 170), (.ref 6)⟩, ⟨PyData.keyHash P (Str.ofString "__builtins__"), (.str (Str.ofString "__builtins__") 171), (.ref 4)⟩, ⟨PyData.keyHash P (Str.ofString "__file__"), (.str (Str.ofString "__file__") 173), (.str (Str.ofString "/claim/cut.py") 172)⟩, ⟨PyData.keyHash P (Str.ofString "__cached__"), (.str (Str.ofString "__cached__") 174), .none⟩, ⟨PyData.keyHash P (Str.ofString "_wall"), (.str (Str.ofString "_wall") 193), (.ref 21)⟩, ⟨PyData.keyHash P (Str.ofString "RuleError"), (.str (Str.ofString "RuleError") 213), (.ref 31)⟩, ⟨PyData.keyHash P (Str.ofString "BadPrime"), (.str (Str.ofString "BadPrime") 229), (.ref 44)⟩, ⟨PyData.keyHash P (Str.ofString "BadRow"), (.str (Str.ofString "BadRow") 245), (.ref 56)⟩, ⟨PyData.keyHash P (Str.ofString "BadRule"), (.str (Str.ofString "BadRule") 261), (.ref 68)⟩, ⟨PyData.keyHash P (Str.ofString "BadPlace"), (.str (Str.ofString "BadPlace") 277), (.ref 80)⟩, ⟨PyData.keyHash P (Str.ofString "TooFew"), (.str (Str.ofString "TooFew") 293), (.ref 92)⟩, ⟨PyData.keyHash P (Str.ofString "NoWay"), (.str (Str.ofString "NoWay") 309), (.ref 104)⟩, ⟨PyData.keyHash P (Str.ofString "BadText"), (.str (Str.ofString "BadText") 325), (.ref 116)⟩, ⟨PyData.keyHash P (Str.ofString "LOWEST_PRIME"), (.str (Str.ofString "LOWEST_PRIME") 329), (.int 2 328)⟩, ⟨PyData.keyHash P (Str.ofString "HIGHEST_PRIME"), (.str (Str.ofString "HIGHEST_PRIME") 331), (.int 997 330)⟩, ⟨PyData.keyHash P (Str.ofString "is_whole"), (.str (Str.ofString "is_whole") 338), (.ref 125)⟩, ⟨PyData.keyHash P (Str.ofString "is_prime"), (.str (Str.ofString "is_prime") 346), (.ref 132)⟩, ⟨PyData.keyHash P (Str.ofString "is_rest"), (.str (Str.ofString "is_rest") 354), (.ref 139)⟩, ⟨PyData.keyHash P (Str.ofString "are_rests"), (.str (Str.ofString "are_rests") 363), (.ref 146)⟩, ⟨PyData.keyHash P (Str.ofString "need_prime"), (.str (Str.ofString "need_prime") 370), (.ref 153)⟩] 25) #[]
def o117 (P : Params) : Obj := Obj.mk .none none (.fields #[(.int 1 0), (.int 0 0), (.ref 20), (.int 5 0), (.int 0 0), (.ref 27), (.int 7 0), (.int 0 0), (.ref 40), (.int 9 0), (.int 0 0), (.ref 52), (.int 11 0), (.int 0 0), (.ref 64), (.int 13 0), (.int 0 0), (.ref 76), (.int 15 0), (.int 0 0), (.ref 88), (.int 17 0), (.int 0 0), (.ref 100), (.int 19 0), (.int 0 0), (.ref 112), (.int 24 0), (.int 0 0), (.ref 124), (.int 26 0), (.int 0 0), (.ref 131), (.int 35 0), (.int 0 0), (.ref 138), (.int 37 0), (.int 0 0), (.ref 145), (.int 44 0), (.int 0 0), (.ref 152)]) #[]
def o118 (P : Params) : Obj := Obj.mk (.type "type") none (.cls (ClassData.mk (Str.ofString "RuleError") [(.type "ValueError")] [(.ref 31), (.type "ValueError"), (.type "Exception"), (.type "BaseException"), (.type "object")] 30 (Str.ofString "RuleError") true [] [(.ref 44), (.ref 56), (.ref 68), (.ref 80), (.ref 92), (.ref 104), (.ref 116)] false none false)) #[(some (.ref 22)), none, (some (.str (Str.ofString "RuleError") 196)), (some (.str (Str.ofString "RuleError") 204)), (some (.builtin "ValueError.__new__")), (some (.bool true))]
def o119 (P : Params) : Obj := Obj.mk (.type "tuple") none (.seq #[(.ref 31)] 0) #[]
def o120 (P : Params) : Obj := Obj.mk (.type "builtin_function_or_method") none (.fields #[(.builtin "type.__prepare__"), (.type "type")]) #[]
def o121 (P : Params) : Obj := Obj.mk (.type "dict") none (.dict #[⟨PyData.keyHash P (Str.ofString "__module__"), (.str (Str.ofString "__module__") 317), (.str (Str.ofString "rulerow.errors") 194)⟩, ⟨PyData.keyHash P (Str.ofString "__qualname__"), (.str (Str.ofString "__qualname__") 319), (.str (Str.ofString "BadText") 318)⟩, ⟨PyData.keyHash P (Str.ofString "__firstlineno__"), (.str (Str.ofString "__firstlineno__") 321), (.int 19 320)⟩, ⟨PyData.keyHash P (Str.ofString "__static_attributes__"), (.str (Str.ofString "__static_attributes__") 322), (.ref 114)⟩] 4) #[]
def o122 (P : Params) : Obj := Obj.mk (.type "tuple") none (.seq #[] 0) #[]
def o123 (P : Params) : Obj := Obj.mk .none none (.fields #[]) #[]
def o124 (P : Params) : Obj := Obj.mk (.type "code") none (.fields #[(.str (Str.ofString "BadText") 312), (.str (Str.ofString "BadText") 313), (.str (Str.ofString "/claim/cut.py") 314), (.int 19 0), (.int 0 0), (.int 0 0), (.int 0 0), (.int 0 0), (.ref 110), (.bool false), (.int 181 0), (.ref 111), .none, .none, .none, .none, (.int 315 0), (.int 19 0), (.str (Str.ofString "/claim/cut.py") 316)]) #[]
def o125 (P : Params) : Obj := Obj.mk (.type "frame") none .plain #[(some (.ref 112)), (some (.ref 3)), (some (.ref 109)), none, (some (.str (Str.ofString "rulerow.errors") 194)), none, (some (.ref 0))]
def o126 (P : Params) : Obj := Obj.mk (.type "tuple") none (.seq #[] 0) #[]
def o127 (P : Params) : Obj := Obj.mk (.type "dict") none (.dict #[⟨PyData.keyHash P (Str.ofString "__module__"), (.str (Str.ofString "__module__") 317), (.str (Str.ofString "rulerow.errors") 194)⟩, ⟨PyData.keyHash P (Str.ofString "__firstlineno__"), (.str (Str.ofString "__firstlineno__") 321), (.int 19 320)⟩, ⟨PyData.keyHash P (Str.ofString "__static_attributes__"), (.str (Str.ofString "__static_attributes__") 322), (.ref 114)⟩, ⟨PyData.keyHash P (Str.ofString "__doc__"), (.str (Str.ofString "__doc__") 323), .none⟩] 2) #[]
def o128 (P : Params) : Obj := Obj.mk (.type "type") none (.cls (ClassData.mk (Str.ofString "BadText") [(.ref 31)] [(.ref 116), (.ref 31), (.type "ValueError"), (.type "Exception"), (.type "BaseException"), (.type "object")] 115 (Str.ofString "BadText") true [] [] false none false)) #[(some (.ref 107)), none, (some (.str (Str.ofString "BadText") 310)), (some (.str (Str.ofString "BadText") 318)), (some (.builtin "ValueError.__new__")), (some (.bool true))]
def o129 (P : Params) : Obj := Obj.mk (.type "super") none (.fields #[(.ref 116), (.ref 116), (.ref 116)]) #[]
def o130 (P : Params) : Obj := Obj.mk (.type "builtin_function_or_method") none (.fields #[(.builtin "object.__init_subclass__"), (.ref 116)]) #[]
def o131 (P : Params) : Obj := Obj.mk (.type "tuple") none (.seq #[] 0) #[]
def o132 (P : Params) : Obj := Obj.mk .none none (.fields #[]) #[]
def o133 (P : Params) : Obj := Obj.mk (.type "tuple") none (.seq #[(.str (Str.ofString "value") 335)] 0) #[]
def o134 (P : Params) : Obj := Obj.mk (.type "tuple") none (.seq #[] 0) #[]
def o135 (P : Params) : Obj := Obj.mk .none none (.func (FuncData.mk (Str.ofString "is_whole") (Str.ofString "is_whole") (defArgs (top 13)) (.stmts (defBody (top 13))) (defScope (top 13)) 0 [] .none .none .none .none none .none .none 0)) #[]
def o136 (P : Params) : Obj := Obj.mk (.type "code") none (.fields #[(.str (Str.ofString "is_whole") 332), (.str (Str.ofString "is_whole") 333), (.str (Str.ofString "/claim/cut.py") 334), (.int 24 0), (.int 1 0), (.int 0 0), (.int 0 0), (.int 3 0), (.ref 119), (.bool true), (.int 181 0), (.ref 120), .none, (.ref 121), (.ref 122), (.ref 123), (.int 336 0), (.int 24 0), (.str (Str.ofString "/claim/cut.py") 337)]) #[]
def o137 (P : Params) : Obj := Obj.mk (.type "function") none (.func (fnOf (Str.ofString "is_whole") (Str.ofString "is_whole") (defArgs (top 13)) (defBody (top 13)) (defScope (top 13)) .none .none .none (.str (Str.ofString "rulerow.rests") 326) none (.ref 124) .none)) #[]
def o138 (P : Params) : Obj := Obj.mk (.type "tuple") none (.seq #[] 0) #[]
def o139 (P : Params) : Obj := Obj.mk .none none (.fields #[]) #[]
def o140 (P : Params) : Obj := Obj.mk (.type "tuple") none (.seq #[(.str (Str.ofString "value") 342), (.str (Str.ofString "divisor") 343)] 0) #[]
def o141 (P : Params) : Obj := Obj.mk (.type "tuple") none (.seq #[] 0) #[]
def o142 (P : Params) : Obj := Obj.mk .none none (.func (FuncData.mk (Str.ofString "is_prime") (Str.ofString "is_prime") (defArgs (top 14)) (.stmts (defBody (top 14))) (defScope (top 14)) 0 [] .none .none .none .none none .none .none 0)) #[]
def o143 (P : Params) : Obj := Obj.mk (.type "code") none (.fields #[(.str (Str.ofString "is_prime") 339), (.str (Str.ofString "is_prime") 340), (.str (Str.ofString "/claim/cut.py") 341), (.int 26 0), (.int 1 0), (.int 0 0), (.int 0 0), (.int 3 0), (.ref 126), (.bool true), (.int 181 0), (.ref 127), .none, (.ref 128), (.ref 129), (.ref 130), (.int 344 0), (.int 26 0), (.str (Str.ofString "/claim/cut.py") 345)]) #[]
def o144 (P : Params) : Obj := Obj.mk (.type "function") none (.func (fnOf (Str.ofString "is_prime") (Str.ofString "is_prime") (defArgs (top 14)) (defBody (top 14)) (defScope (top 14)) .none .none .none (.str (Str.ofString "rulerow.rests") 326) none (.ref 131) .none)) #[]
def o145 (P : Params) : Obj := Obj.mk (.type "tuple") none (.seq #[] 0) #[]
def o146 (P : Params) : Obj := Obj.mk .none none (.fields #[]) #[]
def o147 (P : Params) : Obj := Obj.mk (.type "tuple") none (.seq #[(.str (Str.ofString "prime") 350), (.str (Str.ofString "value") 351)] 0) #[]
def o148 (P : Params) : Obj := Obj.mk (.type "tuple") none (.seq #[] 0) #[]
def o149 (P : Params) : Obj := Obj.mk .none none (.func (FuncData.mk (Str.ofString "is_rest") (Str.ofString "is_rest") (defArgs (top 15)) (.stmts (defBody (top 15))) (defScope (top 15)) 0 [] .none .none .none .none none .none .none 0)) #[]
def o150 (P : Params) : Obj := Obj.mk (.type "code") none (.fields #[(.str (Str.ofString "is_rest") 347), (.str (Str.ofString "is_rest") 348), (.str (Str.ofString "/claim/cut.py") 349), (.int 35 0), (.int 2 0), (.int 0 0), (.int 0 0), (.int 3 0), (.ref 133), (.bool true), (.int 181 0), (.ref 134), .none, (.ref 135), (.ref 136), (.ref 137), (.int 352 0), (.int 35 0), (.str (Str.ofString "/claim/cut.py") 353)]) #[]
def o151 (P : Params) : Obj := Obj.mk (.type "function") none (.func (fnOf (Str.ofString "is_rest") (Str.ofString "is_rest") (defArgs (top 15)) (defBody (top 15)) (defScope (top 15)) .none .none .none (.str (Str.ofString "rulerow.rests") 326) none (.ref 138) .none)) #[]
def o152 (P : Params) : Obj := Obj.mk (.type "tuple") none (.seq #[] 0) #[]
def o153 (P : Params) : Obj := Obj.mk .none none (.fields #[]) #[]
def o154 (P : Params) : Obj := Obj.mk (.type "tuple") none (.seq #[(.str (Str.ofString "prime") 358), (.str (Str.ofString "value") 359), (.str (Str.ofString "number") 360)] 0) #[]
def o155 (P : Params) : Obj := Obj.mk (.type "tuple") none (.seq #[] 0) #[]
def o156 (P : Params) : Obj := Obj.mk .none none (.func (FuncData.mk (Str.ofString "are_rests") (Str.ofString "are_rests") (defArgs (top 16)) (.stmts (defBody (top 16))) (defScope (top 16)) 0 [] .none .none .none .none none .none .none 0)) #[]
def o157 (P : Params) : Obj := Obj.mk (.type "code") none (.fields #[(.str (Str.ofString "are_rests") 355), (.str (Str.ofString "are_rests") 356), (.str (Str.ofString "/claim/cut.py") 357), (.int 37 0), (.int 2 0), (.int 0 0), (.int 0 0), (.int 3 0), (.ref 140), (.bool true), (.int 181 0), (.ref 141), .none, (.ref 142), (.ref 143), (.ref 144), (.int 361 0), (.int 37 0), (.str (Str.ofString "/claim/cut.py") 362)]) #[]
def o158 (P : Params) : Obj := Obj.mk (.type "function") none (.func (fnOf (Str.ofString "are_rests") (Str.ofString "are_rests") (defArgs (top 16)) (defBody (top 16)) (defScope (top 16)) .none .none .none (.str (Str.ofString "rulerow.rests") 326) none (.ref 145) .none)) #[]
def o159 (P : Params) : Obj := Obj.mk (.type "tuple") none (.seq #[] 0) #[]
def o160 (P : Params) : Obj := Obj.mk .none none (.fields #[]) #[]
def o161 (P : Params) : Obj := Obj.mk (.type "tuple") none (.seq #[(.str (Str.ofString "prime") 367)] 0) #[]
def o162 (P : Params) : Obj := Obj.mk (.type "tuple") none (.seq #[] 0) #[]
def o163 (P : Params) : Obj := Obj.mk .none none (.func (FuncData.mk (Str.ofString "need_prime") (Str.ofString "need_prime") (defArgs (top 17)) (.stmts (defBody (top 17))) (defScope (top 17)) 0 [] .none .none .none .none none .none .none 0)) #[]
def o164 (P : Params) : Obj := Obj.mk (.type "code") none (.fields #[(.str (Str.ofString "need_prime") 364), (.str (Str.ofString "need_prime") 365), (.str (Str.ofString "/claim/cut.py") 366), (.int 44 0), (.int 1 0), (.int 0 0), (.int 0 0), (.int 3 0), (.ref 147), (.bool true), (.int 181 0), (.ref 148), .none, (.ref 149), (.ref 150), (.ref 151), (.int 368 0), (.int 44 0), (.str (Str.ofString "/claim/cut.py") 369)]) #[]
def o165 (P : Params) : Obj := Obj.mk (.type "function") none (.func (fnOf (Str.ofString "need_prime") (Str.ofString "need_prime") (defArgs (top 17)) (defBody (top 17)) (defScope (top 17)) .none .none .none (.str (Str.ofString "rulerow.rests") 326) none (.ref 152) .none)) #[]
def o166 (P : Params) : Obj := Obj.mk (.type "dict") none (.dict #[⟨PyData.keyHash P (Str.ofString "__name__"), (.str (Str.ofString "__name__") 165), (.str (Str.ofString "rulerow.rules") 398)⟩, ⟨PyData.keyHash P (Str.ofString "__doc__"), (.str (Str.ofString "__doc__") 166), .none⟩, ⟨PyData.keyHash P (Str.ofString "__package__"), (.str (Str.ofString "__package__") 167), .none⟩, ⟨PyData.keyHash P (Str.ofString "__loader__"), (.str (Str.ofString "__loader__") 168), (.builtin "__main__.__loader__#opaque")⟩, ⟨PyData.keyHash P (Str.ofString "__spec__"), (.str (Str.ofString "__spec__") 169), .none⟩, ⟨PyData.keyHash P (Str.ofString "__annotations__"), (.str (Str.ofString "__annotations__") 170), (.ref 6)⟩, ⟨PyData.keyHash P (Str.ofString "__builtins__"), (.str (Str.ofString "__builtins__") 171), (.ref 4)⟩, ⟨PyData.keyHash P (Str.ofString "__file__"), (.str (Str.ofString "__file__") 173), (.str (Str.ofString "/claim/cut.py") 172)⟩, ⟨PyData.keyHash P (Str.ofString "__cached__"), (.str (Str.ofString "__cached__") 174), .none⟩, ⟨PyData.keyHash P (Str.ofString "_wall"), (.str (Str.ofString "_wall") 193), (.ref 21)⟩, ⟨PyData.keyHash P (Str.ofString "RuleError"), (.str (Str.ofString "RuleError") 213), (.ref 31)⟩, ⟨PyData.keyHash P (Str.ofString "BadPrime"), (.str (Str.ofString "BadPrime") 229), (.ref 44)⟩, ⟨PyData.keyHash P (Str.ofString "BadRow"), (.str (Str.ofString "BadRow") 245), (.ref 56)⟩, ⟨PyData.keyHash P (Str.ofString "BadRule"), (.str (Str.ofString "BadRule") 261), (.ref 68)⟩, ⟨PyData.keyHash P (Str.ofString "BadPlace"), (.str (Str.ofString "BadPlace") 277), (.ref 80)⟩, ⟨PyData.keyHash P (Str.ofString "TooFew"), (.str (Str.ofString "TooFew") 293), (.ref 92)⟩, ⟨PyData.keyHash P (Str.ofString "NoWay"), (.str (Str.ofString "NoWay") 309), (.ref 104)⟩, ⟨PyData.keyHash P (Str.ofString "BadText"), (.str (Str.ofString "BadText") 325), (.ref 116)⟩, ⟨PyData.keyHash P (Str.ofString "LOWEST_PRIME"), (.str (Str.ofString "LOWEST_PRIME") 329), (.int 2 328)⟩, ⟨PyData.keyHash P (Str.ofString "HIGHEST_PRIME"), (.str (Str.ofString "HIGHEST_PRIME") 331), (.int 997 330)⟩, ⟨PyData.keyHash P (Str.ofString "is_whole"), (.str (Str.ofString "is_whole") 338), (.ref 125)⟩, ⟨PyData.keyHash P (Str.ofString "is_prime"), (.str (Str.ofString "is_prime") 346), (.ref 132)⟩, ⟨PyData.keyHash P (Str.ofString "is_rest"), (.str (Str.ofString "is_rest") 354), (.ref 139)⟩, ⟨PyData.keyHash P (Str.ofString "are_rests"), (.str (Str.ofString "are_rests") 363), (.ref 146)⟩, ⟨PyData.keyHash P (Str.ofString "need_prime"), (.str (Str.ofString "need_prime") 370), (.ref 153)⟩, ⟨PyData.keyHash P (Str.ofString "need_rule"), (.str (Str.ofString "need_rule") 378), (.ref 160)⟩, ⟨PyData.keyHash P (Str.ofString "need_row"), (.str (Str.ofString "need_row") 386), (.ref 167)⟩, ⟨PyData.keyHash P (Str.ofString "inverse"), (.str (Str.ofString "inverse") 397), (.ref 174)⟩, ⟨PyData.keyHash P (Str.ofString "makes"), (.str (Str.ofString "makes") 409), (.ref 181)⟩, ⟨PyData.keyHash P (Str.ofString "go_on"), (.str (Str.ofString "go_on") 421), (.ref 188)⟩, ⟨PyData.keyHash P (Str.ofString "far"), (.str (Str.ofString "far") 432), (.ref 195)⟩, ⟨PyData.keyHash P (Str.ofString "both"), (.str (Str.ofString "both") 438), (.ref 200)⟩, ⟨PyData.keyHash P (Str.ofString "backwards"), (.str (Str.ofString "backwards") 444), (.ref 205)⟩, ⟨PyData.keyHash P (Str.ofString "need_start"), (.str (Str.ofString "need_start") 453), (.ref 212)⟩, ⟨PyData.keyHash P (Str.ofString "need_count"), (.str (Str.ofString "need_count") 460), (.ref 219)⟩, ⟨PyData.keyHash P (Str.ofString "due"), (.str (Str.ofString "due") 466), (.ref 224)⟩, ⟨PyData.keyHash P (Str.ofString "polynomial"), (.str (Str.ofString "polynomial") 472), (.ref 229)⟩, ⟨PyData.keyHash P (Str.ofString "mirrored"), (.str (Str.ofString "mirrored") 478), (.ref 234)⟩] 38) #[]
def o167 (P : Params) : Obj := Obj.mk .none none (.fields #[(.int 1 0), (.int 0 0), (.ref 20), (.int 5 0), (.int 0 0), (.ref 27), (.int 7 0), (.int 0 0), (.ref 40), (.int 9 0), (.int 0 0), (.ref 52), (.int 11 0), (.int 0 0), (.ref 64), (.int 13 0), (.int 0 0), (.ref 76), (.int 15 0), (.int 0 0), (.ref 88), (.int 17 0), (.int 0 0), (.ref 100), (.int 19 0), (.int 0 0), (.ref 112), (.int 24 0), (.int 0 0), (.ref 124), (.int 26 0), (.int 0 0), (.ref 131), (.int 35 0), (.int 0 0), (.ref 138), (.int 37 0), (.int 0 0), (.ref 145), (.int 44 0), (.int 0 0), (.ref 152), (.int 47 0), (.int 0 0), (.ref 159), (.int 50 0), (.int 0 0), (.ref 166), (.int 53 0), (.int 0 0), (.ref 173), (.int 64 0), (.int 0 0), (.ref 180), (.int 72 0), (.int 0 0), (.ref 187), (.int 80 0), (.int 0 0), (.ref 194), (.int 89 0), (.int 0 0), (.ref 199), (.int 97 0), (.int 0 0), (.ref 204), (.int 108 0), (.int 0 0), (.ref 211), (.int 114 0), (.int 0 0), (.ref 218), (.int 117 0), (.int 0 0), (.ref 223), (.int 120 0), (.int 0 0), (.ref 228), (.int 122 0), (.int 0 0), (.ref 233)]) #[]
def o168 (P : Params) : Obj := Obj.mk (.type "tuple") none (.seq #[] 0) #[]
def o169 (P : Params) : Obj := Obj.mk .none none (.fields #[]) #[]
def o170 (P : Params) : Obj := Obj.mk (.type "tuple") none (.seq #[(.str (Str.ofString "prime") 374), (.str (Str.ofString "rule") 375)] 0) #[]
def o171 (P : Params) : Obj := Obj.mk (.type "tuple") none (.seq #[] 0) #[]
def o172 (P : Params) : Obj := Obj.mk .none none (.func (FuncData.mk (Str.ofString "need_rule") (Str.ofString "need_rule") (defArgs (top 18)) (.stmts (defBody (top 18))) (defScope (top 18)) 0 [] .none .none .none .none none .none .none 0)) #[]
def o173 (P : Params) : Obj := Obj.mk (.type "code") none (.fields #[(.str (Str.ofString "need_rule") 371), (.str (Str.ofString "need_rule") 372), (.str (Str.ofString "/claim/cut.py") 373), (.int 47 0), (.int 2 0), (.int 0 0), (.int 0 0), (.int 3 0), (.ref 154), (.bool true), (.int 181 0), (.ref 155), .none, (.ref 156), (.ref 157), (.ref 158), (.int 376 0), (.int 47 0), (.str (Str.ofString "/claim/cut.py") 377)]) #[]
def o174 (P : Params) : Obj := Obj.mk (.type "function") none (.func (fnOf (Str.ofString "need_rule") (Str.ofString "need_rule") (defArgs (top 18)) (defBody (top 18)) (defScope (top 18)) .none .none .none (.str (Str.ofString "rulerow.rests") 326) none (.ref 159) .none)) #[]
def o175 (P : Params) : Obj := Obj.mk (.type "tuple") none (.seq #[] 0) #[]
def o176 (P : Params) : Obj := Obj.mk .none none (.fields #[]) #[]
def o177 (P : Params) : Obj := Obj.mk (.type "tuple") none (.seq #[(.str (Str.ofString "prime") 382), (.str (Str.ofString "row") 383)] 0) #[]
def o178 (P : Params) : Obj := Obj.mk (.type "tuple") none (.seq #[] 0) #[]
def o179 (P : Params) : Obj := Obj.mk .none none (.func (FuncData.mk (Str.ofString "need_row") (Str.ofString "need_row") (defArgs (top 19)) (.stmts (defBody (top 19))) (defScope (top 19)) 0 [] .none .none .none .none none .none .none 0)) #[]
def o180 (P : Params) : Obj := Obj.mk (.type "code") none (.fields #[(.str (Str.ofString "need_row") 379), (.str (Str.ofString "need_row") 380), (.str (Str.ofString "/claim/cut.py") 381), (.int 50 0), (.int 2 0), (.int 0 0), (.int 0 0), (.int 3 0), (.ref 161), (.bool true), (.int 181 0), (.ref 162), .none, (.ref 163), (.ref 164), (.ref 165), (.int 384 0), (.int 50 0), (.str (Str.ofString "/claim/cut.py") 385)]) #[]
def o181 (P : Params) : Obj := Obj.mk (.type "function") none (.func (fnOf (Str.ofString "need_row") (Str.ofString "need_row") (defArgs (top 19)) (defBody (top 19)) (defScope (top 19)) .none .none .none (.str (Str.ofString "rulerow.rests") 326) none (.ref 166) .none)) #[]
def o182 (P : Params) : Obj := Obj.mk (.type "tuple") none (.seq #[] 0) #[]
def o183 (P : Params) : Obj := Obj.mk .none none (.fields #[]) #[]
def o184 (P : Params) : Obj := Obj.mk (.type "tuple") none (.seq #[(.str (Str.ofString "prime") 390), (.str (Str.ofString "rest") 391), (.str (Str.ofString "told") 392), (.str (Str.ofString "power") 393), (.str (Str.ofString "left") 394)] 0) #[]
def o185 (P : Params) : Obj := Obj.mk (.type "tuple") none (.seq #[] 0) #[]
def o186 (P : Params) : Obj := Obj.mk .none none (.func (FuncData.mk (Str.ofString "inverse") (Str.ofString "inverse") (defArgs (top 20)) (.stmts (defBody (top 20))) (defScope (top 20)) 0 [] .none .none .none .none none .none .none 0)) #[]
def o187 (P : Params) : Obj := Obj.mk (.type "code") none (.fields #[(.str (Str.ofString "inverse") 387), (.str (Str.ofString "inverse") 388), (.str (Str.ofString "/claim/cut.py") 389), (.int 53 0), (.int 2 0), (.int 0 0), (.int 0 0), (.int 3 0), (.ref 168), (.bool true), (.int 181 0), (.ref 169), .none, (.ref 170), (.ref 171), (.ref 172), (.int 395 0), (.int 53 0), (.str (Str.ofString "/claim/cut.py") 396)]) #[]
def o188 (P : Params) : Obj := Obj.mk (.type "function") none (.func (fnOf (Str.ofString "inverse") (Str.ofString "inverse") (defArgs (top 20)) (defBody (top 20)) (defScope (top 20)) .none .none .none (.str (Str.ofString "rulerow.rests") 326) none (.ref 173) .none)) #[]
def o189 (P : Params) : Obj := Obj.mk (.type "tuple") none (.seq #[] 0) #[]
def o190 (P : Params) : Obj := Obj.mk .none none (.fields #[]) #[]
def o191 (P : Params) : Obj := Obj.mk (.type "tuple") none (.seq #[(.str (Str.ofString "prime") 403), (.str (Str.ofString "rule") 404), (.str (Str.ofString "row") 405), (.str (Str.ofString "place") 406)] 0) #[]
def o192 (P : Params) : Obj := Obj.mk (.type "tuple") none (.seq #[] 0) #[]
def o193 (P : Params) : Obj := Obj.mk .none none (.func (FuncData.mk (Str.ofString "makes") (Str.ofString "makes") (defArgs (top 22)) (.stmts (defBody (top 22))) (defScope (top 22)) 0 [] .none .none .none .none none .none .none 0)) #[]
def o194 (P : Params) : Obj := Obj.mk (.type "code") none (.fields #[(.str (Str.ofString "makes") 400), (.str (Str.ofString "makes") 401), (.str (Str.ofString "/claim/cut.py") 402), (.int 64 0), (.int 3 0), (.int 0 0), (.int 0 0), (.int 3 0), (.ref 175), (.bool true), (.int 181 0), (.ref 176), .none, (.ref 177), (.ref 178), (.ref 179), (.int 407 0), (.int 64 0), (.str (Str.ofString "/claim/cut.py") 408)]) #[]
def o195 (P : Params) : Obj := Obj.mk (.type "function") none (.func (fnOf (Str.ofString "makes") (Str.ofString "makes") (defArgs (top 22)) (defBody (top 22)) (defScope (top 22)) .none .none .none (.str (Str.ofString "rulerow.rules") 398) none (.ref 180) .none)) #[]
def o196 (P : Params) : Obj := Obj.mk (.type "tuple") none (.seq #[] 0) #[]
def o197 (P : Params) : Obj := Obj.mk .none none (.fields #[]) #[]
def o198 (P : Params) : Obj := Obj.mk (.type "tuple") none (.seq #[(.str (Str.ofString "prime") 413), (.str (Str.ofString "rule") 414), (.str (Str.ofString "row") 415), (.str (Str.ofString "many") 416), (.str (Str.ofString "told") 417), (.str (Str.ofString "length") 418)] 0) #[]
def o199 (P : Params) : Obj := Obj.mk (.type "tuple") none (.seq #[] 0) #[]
def o200 (P : Params) : Obj := Obj.mk .none none (.func (FuncData.mk (Str.ofString "go_on") (Str.ofString "go_on") (defArgs (top 23)) (.stmts (defBody (top 23))) (defScope (top 23)) 0 [] .none .none .none .none none .none .none 0)) #[]
def o201 (P : Params) : Obj := Obj.mk (.type "code") none (.fields #[(.str (Str.ofString "go_on") 410), (.str (Str.ofString "go_on") 411), (.str (Str.ofString "/claim/cut.py") 412), (.int 72 0), (.int 4 0), (.int 0 0), (.int 0 0), (.int 3 0), (.ref 182), (.bool true), (.int 181 0), (.ref 183), .none, (.ref 184), (.ref 185), (.ref 186), (.int 419 0), (.int 72 0), (.str (Str.ofString "/claim/cut.py") 420)]) #[]
def o202 (P : Params) : Obj := Obj.mk (.type "function") none (.func (fnOf (Str.ofString "go_on") (Str.ofString "go_on") (defArgs (top 23)) (defBody (top 23)) (defScope (top 23)) .none .none .none (.str (Str.ofString "rulerow.rules") 398) none (.ref 187) .none)) #[]
def o203 (P : Params) : Obj := Obj.mk (.type "tuple") none (.seq #[] 0) #[]
def o204 (P : Params) : Obj := Obj.mk .none none (.fields #[]) #[]
def o205 (P : Params) : Obj := Obj.mk (.type "tuple") none (.seq #[(.str (Str.ofString "prime") 425), (.str (Str.ofString "rule") 426), (.str (Str.ofString "row") 427), (.str (Str.ofString "place") 428), (.str (Str.ofString "skipped") 429)] 0) #[]
def o206 (P : Params) : Obj := Obj.mk (.type "tuple") none (.seq #[] 0) #[]
def o207 (P : Params) : Obj := Obj.mk .none none (.func (FuncData.mk (Str.ofString "far") (Str.ofString "far") (defArgs (top 24)) (.stmts (defBody (top 24))) (defScope (top 24)) 0 [] .none .none .none .none none .none .none 0)) #[]
def o208 (P : Params) : Obj := Obj.mk (.type "code") none (.fields #[(.str (Str.ofString "far") 422), (.str (Str.ofString "far") 423), (.str (Str.ofString "/claim/cut.py") 424), (.int 80 0), (.int 4 0), (.int 0 0), (.int 0 0), (.int 3 0), (.ref 189), (.bool true), (.int 181 0), (.ref 190), .none, (.ref 191), (.ref 192), (.ref 193), (.int 430 0), (.int 80 0), (.str (Str.ofString "/claim/cut.py") 431)]) #[]
def o209 (P : Params) : Obj := Obj.mk (.type "function") none (.func (fnOf (Str.ofString "far") (Str.ofString "far") (defArgs (top 24)) (defBody (top 24)) (defScope (top 24)) .none .none .none (.str (Str.ofString "rulerow.rules") 398) none (.ref 194) .none)) #[]
def o210 (P : Params) : Obj := Obj.mk (.type "tuple") none (.seq #[] 0) #[]
def o211 (P : Params) : Obj := Obj.mk .none none (.fields #[]) #[]
def o212 (P : Params) : Obj := Obj.mk .none none (.func (FuncData.mk (Str.ofString "both") (Str.ofString "both") (defArgs (top 25)) (.stmts (defBody (top 25))) (defScope (top 25)) 0 [] .none .none .none .none none .none .none 0)) #[]
def o213 (P : Params) : Obj := Obj.mk (.type "code") none (.fields #[(.str (Str.ofString "both") 433), (.str (Str.ofString "both") 434), (.str (Str.ofString "/claim/cut.py") 435), (.int 89 0), (.int 3 0), (.int 0 0), (.int 0 0), (.int 3 0), (.ref 196), (.bool true), (.int 181 0), (.ref 197), .none, .none, .none, (.ref 198), (.int 436 0), (.int 89 0), (.str (Str.ofString "/claim/cut.py") 437)]) #[]
def o214 (P : Params) : Obj := Obj.mk (.type "function") none (.func (fnOf (Str.ofString "both") (Str.ofString "both") (defArgs (top 25)) (defBody (top 25)) (defScope (top 25)) .none .none .none (.str (Str.ofString "rulerow.rules") 398) none (.ref 199) .none)) #[]
def o215 (P : Params) : Obj := Obj.mk (.type "tuple") none (.seq #[] 0) #[]
def o216 (P : Params) : Obj := Obj.mk .none none (.fields #[]) #[]
def o217 (P : Params) : Obj := Obj.mk .none none (.func (FuncData.mk (Str.ofString "backwards") (Str.ofString "backwards") (defArgs (top 26)) (.stmts (defBody (top 26))) (defScope (top 26)) 0 [] .none .none .none .none none .none .none 0)) #[]
def o218 (P : Params) : Obj := Obj.mk (.type "code") none (.fields #[(.str (Str.ofString "backwards") 439), (.str (Str.ofString "backwards") 440), (.str (Str.ofString "/claim/cut.py") 441), (.int 97 0), (.int 2 0), (.int 0 0), (.int 0 0), (.int 3 0), (.ref 201), (.bool true), (.int 181 0), (.ref 202), .none, .none, .none, (.ref 203), (.int 442 0), (.int 97 0), (.str (Str.ofString "/claim/cut.py") 443)]) #[]
def o219 (P : Params) : Obj := Obj.mk (.type "function") none (.func (fnOf (Str.ofString "backwards") (Str.ofString "backwards") (defArgs (top 26)) (defBody (top 26)) (defScope (top 26)) .none .none .none (.str (Str.ofString "rulerow.rules") 398) none (.ref 204) .none)) #[]
def o220 (P : Params) : Obj := Obj.mk (.type "tuple") none (.seq #[] 0) #[]
def o221 (P : Params) : Obj := Obj.mk .none none (.fields #[]) #[]
def o222 (P : Params) : Obj := Obj.mk (.type "tuple") none (.seq #[(.str (Str.ofString "prime") 448), (.str (Str.ofString "rule") 449), (.str (Str.ofString "row") 450)] 0) #[]
def o223 (P : Params) : Obj := Obj.mk (.type "tuple") none (.seq #[] 0) #[]
def o224 (P : Params) : Obj := Obj.mk .none none (.func (FuncData.mk (Str.ofString "need_start") (Str.ofString "need_start") (defArgs (top 27)) (.stmts (defBody (top 27))) (defScope (top 27)) 0 [] .none .none .none .none none .none .none 0)) #[]
def o225 (P : Params) : Obj := Obj.mk (.type "code") none (.fields #[(.str (Str.ofString "need_start") 445), (.str (Str.ofString "need_start") 446), (.str (Str.ofString "/claim/cut.py") 447), (.int 108 0), (.int 3 0), (.int 0 0), (.int 0 0), (.int 3 0), (.ref 206), (.bool true), (.int 181 0), (.ref 207), .none, (.ref 208), (.ref 209), (.ref 210), (.int 451 0), (.int 108 0), (.str (Str.ofString "/claim/cut.py") 452)]) #[]
def o226 (P : Params) : Obj := Obj.mk (.type "function") none (.func (fnOf (Str.ofString "need_start") (Str.ofString "need_start") (defArgs (top 27)) (defBody (top 27)) (defScope (top 27)) .none .none .none (.str (Str.ofString "rulerow.rules") 398) none (.ref 211) .none)) #[]
def o227 (P : Params) : Obj := Obj.mk (.type "tuple") none (.seq #[] 0) #[]
def o228 (P : Params) : Obj := Obj.mk .none none (.fields #[]) #[]
def o229 (P : Params) : Obj := Obj.mk (.type "tuple") none (.seq #[(.str (Str.ofString "value") 457)] 0) #[]
def o230 (P : Params) : Obj := Obj.mk (.type "tuple") none (.seq #[] 0) #[]
def o231 (P : Params) : Obj := Obj.mk .none none (.func (FuncData.mk (Str.ofString "need_count") (Str.ofString "need_count") (defArgs (top 28)) (.stmts (defBody (top 28))) (defScope (top 28)) 0 [] .none .none .none .none none .none .none 0)) #[]
def o232 (P : Params) : Obj := Obj.mk (.type "code") none (.fields #[(.str (Str.ofString "need_count") 454), (.str (Str.ofString "need_count") 455), (.str (Str.ofString "/claim/cut.py") 456), (.int 114 0), (.int 1 0), (.int 0 0), (.int 0 0), (.int 3 0), (.ref 213), (.bool true), (.int 181 0), (.ref 214), .none, (.ref 215), (.ref 216), (.ref 217), (.int 458 0), (.int 114 0), (.str (Str.ofString "/claim/cut.py") 459)]) #[]
def o233 (P : Params) : Obj := Obj.mk (.type "function") none (.func (fnOf (Str.ofString "need_count") (Str.ofString "need_count") (defArgs (top 28)) (defBody (top 28)) (defScope (top 28)) .none .none .none (.str (Str.ofString "rulerow.rules") 398) none (.ref 218) .none)) #[]
def o234 (P : Params) : Obj := Obj.mk (.type "tuple") none (.seq #[] 0) #[]
def o235 (P : Params) : Obj := Obj.mk .none none (.fields #[]) #[]
def o236 (P : Params) : Obj := Obj.mk .none none (.func (FuncData.mk (Str.ofString "due") (Str.ofString "due") (defArgs (top 29)) (.stmts (defBody (top 29))) (defScope (top 29)) 0 [] .none .none .none .none none .none .none 0)) #[]
def o237 (P : Params) : Obj := Obj.mk (.type "code") none (.fields #[(.str (Str.ofString "due") 461), (.str (Str.ofString "due") 462), (.str (Str.ofString "/claim/cut.py") 463), (.int 117 0), (.int 4 0), (.int 0 0), (.int 0 0), (.int 3 0), (.ref 220), (.bool true), (.int 181 0), (.ref 221), .none, .none, .none, (.ref 222), (.int 464 0), (.int 117 0), (.str (Str.ofString "/claim/cut.py") 465)]) #[]
def o238 (P : Params) : Obj := Obj.mk (.type "function") none (.func (fnOf (Str.ofString "due") (Str.ofString "due") (defArgs (top 29)) (defBody (top 29)) (defScope (top 29)) .none .none .none (.str (Str.ofString "rulerow.rules") 398) none (.ref 223) .none)) #[]
def o239 (P : Params) : Obj := Obj.mk (.type "tuple") none (.seq #[] 0) #[]
def o240 (P : Params) : Obj := Obj.mk .none none (.fields #[]) #[]
def o241 (P : Params) : Obj := Obj.mk .none none (.func (FuncData.mk (Str.ofString "polynomial") (Str.ofString "polynomial") (defArgs (top 30)) (.stmts (defBody (top 30))) (defScope (top 30)) 0 [] .none .none .none .none none .none .none 0)) #[]
def o242 (P : Params) : Obj := Obj.mk (.type "code") none (.fields #[(.str (Str.ofString "polynomial") 467), (.str (Str.ofString "polynomial") 468), (.str (Str.ofString "/claim/cut.py") 469), (.int 120 0), (.int 2 0), (.int 0 0), (.int 0 0), (.int 3 0), (.ref 225), (.bool true), (.int 181 0), (.ref 226), .none, .none, .none, (.ref 227), (.int 470 0), (.int 120 0), (.str (Str.ofString "/claim/cut.py") 471)]) #[]
def o243 (P : Params) : Obj := Obj.mk (.type "function") none (.func (fnOf (Str.ofString "polynomial") (Str.ofString "polynomial") (defArgs (top 30)) (defBody (top 30)) (defScope (top 30)) .none .none .none (.str (Str.ofString "rulerow.rules") 398) none (.ref 228) .none)) #[]
def o244 (P : Params) : Obj := Obj.mk (.type "tuple") none (.seq #[] 0) #[]
def o245 (P : Params) : Obj := Obj.mk .none none (.fields #[]) #[]
def o246 (P : Params) : Obj := Obj.mk .none none (.func (FuncData.mk (Str.ofString "mirrored") (Str.ofString "mirrored") (defArgs (top 31)) (.stmts (defBody (top 31))) (defScope (top 31)) 0 [] .none .none .none .none none .none .none 0)) #[]
def o247 (P : Params) : Obj := Obj.mk (.type "code") none (.fields #[(.str (Str.ofString "mirrored") 473), (.str (Str.ofString "mirrored") 474), (.str (Str.ofString "/claim/cut.py") 475), (.int 122 0), (.int 2 0), (.int 0 0), (.int 0 0), (.int 3 0), (.ref 230), (.bool true), (.int 181 0), (.ref 231), .none, .none, .none, (.ref 232), (.int 476 0), (.int 122 0), (.str (Str.ofString "/claim/cut.py") 477)]) #[]
def o248 (P : Params) : Obj := Obj.mk (.type "function") none (.func (fnOf (Str.ofString "mirrored") (Str.ofString "mirrored") (defArgs (top 31)) (defBody (top 31)) (defScope (top 31)) .none .none .none (.str (Str.ofString "rulerow.rules") 398) none (.ref 233) .none)) #[]
def o249 (P : Params) : Obj := Obj.mk (.type "dict") none (.dict #[⟨PyData.keyHash P (Str.ofString "__name__"), (.str (Str.ofString "__name__") 165), (.str (Str.ofString "rulerow.answers") 491)⟩, ⟨PyData.keyHash P (Str.ofString "__doc__"), (.str (Str.ofString "__doc__") 166), .none⟩, ⟨PyData.keyHash P (Str.ofString "__package__"), (.str (Str.ofString "__package__") 167), .none⟩, ⟨PyData.keyHash P (Str.ofString "__loader__"), (.str (Str.ofString "__loader__") 168), (.builtin "__main__.__loader__#opaque")⟩, ⟨PyData.keyHash P (Str.ofString "__spec__"), (.str (Str.ofString "__spec__") 169), .none⟩, ⟨PyData.keyHash P (Str.ofString "__annotations__"), (.str (Str.ofString "__annotations__") 170), (.ref 6)⟩, ⟨PyData.keyHash P (Str.ofString "__builtins__"), (.str (Str.ofString "__builtins__") 171), (.ref 4)⟩, ⟨PyData.keyHash P (Str.ofString "__file__"), (.str (Str.ofString "__file__") 173), (.str (Str.ofString "/claim/cut.py") 172)⟩, ⟨PyData.keyHash P (Str.ofString "__cached__"), (.str (Str.ofString "__cached__") 174), .none⟩, ⟨PyData.keyHash P (Str.ofString "_wall"), (.str (Str.ofString "_wall") 193), (.ref 21)⟩, ⟨PyData.keyHash P (Str.ofString "RuleError"), (.str (Str.ofString "RuleError") 213), (.ref 31)⟩, ⟨PyData.keyHash P (Str.ofString "BadPrime"), (.str (Str.ofString "BadPrime") 229), (.ref 44)⟩, ⟨PyData.keyHash P (Str.ofString "BadRow"), (.str (Str.ofString "BadRow") 245), (.ref 56)⟩, ⟨PyData.keyHash P (Str.ofString "BadRule"), (.str (Str.ofString "BadRule") 261), (.ref 68)⟩, ⟨PyData.keyHash P (Str.ofString "BadPlace"), (.str (Str.ofString "BadPlace") 277), (.ref 80)⟩, ⟨PyData.keyHash P (Str.ofString "TooFew"), (.str (Str.ofString "TooFew") 293), (.ref 92)⟩, ⟨PyData.keyHash P (Str.ofString "NoWay"), (.str (Str.ofString "NoWay") 309), (.ref 104)⟩, ⟨PyData.keyHash P (Str.ofString "BadText"), (.str (Str.ofString "BadText") 325), (.ref 116)⟩, ⟨PyData.keyHash P (Str.ofString "LOWEST_PRIME"), (.str (Str.ofString "LOWEST_PRIME") 329), (.int 2 328)⟩, ⟨PyData.keyHash P (Str.ofString "HIGHEST_PRIME"), (.str (Str.ofString "HIGHEST_PRIME") 331), (.int 997 330)⟩, ⟨PyData.keyHash P (Str.ofString "is_whole"), (.str (Str.ofString "is_whole") 338), (.ref 125)⟩, ⟨PyData.keyHash P (Str.ofString "is_prime"), (.str (Str.ofString "is_prime") 346), (.ref 132)⟩, ⟨PyData.keyHash P (Str.ofString "is_rest"), (.str (Str.ofString "is_rest") 354), (.ref 139)⟩, ⟨PyData.keyHash P (Str.ofString "are_rests"), (.str (Str.ofString "are_rests") 363), (.ref 146)⟩, ⟨PyData.keyHash P (Str.ofString "need_prime"), (.str (Str.ofString "need_prime") 370), (.ref 153)⟩, ⟨PyData.keyHash P (Str.ofString "need_rule"), (.str (Str.ofString "need_rule") 378), (.ref 160)⟩, ⟨PyData.keyHash P (Str.ofString "need_row"), (.str (Str.ofString "need_row") 386), (.ref 167)⟩, ⟨PyData.keyHash P (Str.ofString "inverse"), (.str (Str.ofString "inverse") 397), (.ref 174)⟩, ⟨PyData.keyHash P (Str.ofString "makes"), (.str (Str.ofString "makes") 409), (.ref 181)⟩, ⟨PyData.keyHash P (Str.ofString "go_on"), (.str (Str.ofString "go_on") 421), (.ref 188)⟩, ⟨PyData.keyHash P (Str.ofString "far"), (.str (Str.ofString "far") 432), (.ref 195)⟩, ⟨PyData.keyHash P (Str.ofString "both"), (.str (Str.ofString "both") 438), (.ref 200)⟩, ⟨PyData.keyHash P (Str.ofString "backwards"), (.str (Str.ofString "backwards") 444), (.ref 205)⟩, ⟨PyData.keyHash P (Str.ofString "need_start"), (.str (Str.ofString "need_start") 453), (.ref 212)⟩, ⟨PyData.keyHash P (Str.ofString "need_count"), (.str (Str.ofString "need_count") 460), (.ref 219)⟩, ⟨PyData.keyHash P (Str.ofString "due"), (.str (Str.ofString "due") 466), (.ref 224)⟩, ⟨PyData.keyHash P (Str.ofString "polynomial"), (.str (Str.ofString "polynomial") 472), (.ref 229)⟩, ⟨PyData.keyHash P (Str.ofString "mirrored"), (.str (Str.ofString "mirrored") 478), (.ref 234)⟩, ⟨PyData.keyHash P (Str.ofString "product_at"), (.str (Str.ofString "product_at") 484), (.ref 239)⟩, ⟨PyData.keyHash P (Str.ofString "number_at"), (.str (Str.ofString "number_at") 490), (.ref 244)⟩, ⟨PyData.keyHash P (Str.ofString "Answer"), (.str (Str.ofString "Answer") 512), (.ref 254)⟩] 41) #[]
def o250 (P : Params) : Obj := Obj.mk .none none (.fields #[(.int 1 0), (.int 0 0), (.ref 20), (.int 5 0), (.int 0 0), (.ref 27), (.int 7 0), (.int 0 0), (.ref 40), (.int 9 0), (.int 0 0), (.ref 52), (.int 11 0), (.int 0 0), (.ref 64), (.int 13 0), (.int 0 0), (.ref 76), (.int 15 0), (.int 0 0), (.ref 88), (.int 17 0), (.int 0 0), (.ref 100), (.int 19 0), (.int 0 0), (.ref 112), (.int 24 0), (.int 0 0), (.ref 124), (.int 26 0), (.int 0 0), (.ref 131), (.int 35 0), (.int 0 0), (.ref 138), (.int 37 0), (.int 0 0), (.ref 145), (.int 44 0), (.int 0 0), (.ref 152), (.int 47 0), (.int 0 0), (.ref 159), (.int 50 0), (.int 0 0), (.ref 166), (.int 53 0), (.int 0 0), (.ref 173), (.int 64 0), (.int 0 0), (.ref 180), (.int 72 0), (.int 0 0), (.ref 187), (.int 80 0), (.int 0 0), (.ref 194), (.int 89 0), (.int 0 0), (.ref 199), (.int 97 0), (.int 0 0), (.ref 204), (.int 108 0), (.int 0 0), (.ref 211), (.int 114 0), (.int 0 0), (.ref 218), (.int 117 0), (.int 0 0), (.ref 223), (.int 120 0), (.int 0 0), (.ref 228), (.int 122 0), (.int 0 0), (.ref 233), (.int 124 0), (.int 0 0), (.ref 238), (.int 130 0), (.int 0 0), (.ref 243), (.int 142 0), (.int 0 0), (.ref 250)]) #[]
def o251 (P : Params) : Obj := Obj.mk (.type "tuple") none (.seq #[] 0) #[]
def o252 (P : Params) : Obj := Obj.mk .none none (.fields #[]) #[]
def o253 (P : Params) : Obj := Obj.mk .none none (.func (FuncData.mk (Str.ofString "product_at") (Str.ofString "product_at") (defArgs (top 32)) (.stmts (defBody (top 32))) (defScope (top 32)) 0 [] .none .none .none .none none .none .none 0)) #[]
def o254 (P : Params) : Obj := Obj.mk (.type "code") none (.fields #[(.str (Str.ofString "product_at") 479), (.str (Str.ofString "product_at") 480), (.str (Str.ofString "/claim/cut.py") 481), (.int 124 0), (.int 4 0), (.int 0 0), (.int 0 0), (.int 3 0), (.ref 235), (.bool true), (.int 181 0), (.ref 236), .none, .none, .none, (.ref 237), (.int 482 0), (.int 124 0), (.str (Str.ofString "/claim/cut.py") 483)]) #[]
def o255 (P : Params) : Obj := Obj.mk (.type "function") none (.func (fnOf (Str.ofString "product_at") (Str.ofString "product_at") (defArgs (top 32)) (defBody (top 32)) (defScope (top 32)) .none .none .none (.str (Str.ofString "rulerow.rules") 398) none (.ref 238) .none)) #[]
def o256 (P : Params) : Obj := Obj.mk (.type "tuple") none (.seq #[] 0) #[]
def o257 (P : Params) : Obj := Obj.mk .none none (.fields #[]) #[]
def o258 (P : Params) : Obj := Obj.mk .none none (.func (FuncData.mk (Str.ofString "number_at") (Str.ofString "number_at") (defArgs (top 33)) (.stmts (defBody (top 33))) (defScope (top 33)) 0 [] .none .none .none .none none .none .none 0)) #[]
def o259 (P : Params) : Obj := Obj.mk (.type "code") none (.fields #[(.str (Str.ofString "number_at") 485), (.str (Str.ofString "number_at") 486), (.str (Str.ofString "/claim/cut.py") 487), (.int 130 0), (.int 4 0), (.int 0 0), (.int 0 0), (.int 3 0), (.ref 240), (.bool true), (.int 181 0), (.ref 241), .none, .none, .none, (.ref 242), (.int 488 0), (.int 130 0), (.str (Str.ofString "/claim/cut.py") 489)]) #[]
def o260 (P : Params) : Obj := Obj.mk (.type "function") none (.func (fnOf (Str.ofString "number_at") (Str.ofString "number_at") (defArgs (top 33)) (defBody (top 33)) (defScope (top 33)) .none .none .none (.str (Str.ofString "rulerow.rules") 398) none (.ref 243) .none)) #[]
def o261 (P : Params) : Obj := Obj.mk (.type "tuple") none (.seq #[] 0) #[]
def o262 (P : Params) : Obj := Obj.mk (.type "builtin_function_or_method") none (.fields #[(.builtin "type.__prepare__"), (.type "type")]) #[]
def o263 (P : Params) : Obj := Obj.mk (.type "dict") none (.dict #[⟨PyData.keyHash P (Str.ofString "__module__"), (.str (Str.ofString "__module__") 500), (.str (Str.ofString "rulerow.answers") 491)⟩, ⟨PyData.keyHash P (Str.ofString "__qualname__"), (.str (Str.ofString "__qualname__") 502), (.str (Str.ofString "Answer") 501)⟩, ⟨PyData.keyHash P (Str.ofString "__firstlineno__"), (.str (Str.ofString "__firstlineno__") 504), (.int 142 503)⟩, ⟨PyData.keyHash P (Str.ofString "__static_attributes__"), (.str (Str.ofString "__static_attributes__") 505), (.ref 252)⟩] 4) #[]
def o264 (P : Params) : Obj := Obj.mk (.type "tuple") none (.seq #[] 0) #[]
def o265 (P : Params) : Obj := Obj.mk .none none (.fields #[]) #[]
def o266 (P : Params) : Obj := Obj.mk (.type "code") none (.fields #[(.str (Str.ofString "Answer") 495), (.str (Str.ofString "Answer") 496), (.str (Str.ofString "/claim/cut.py") 497), (.int 142 0), (.int 0 0), (.int 0 0), (.int 0 0), (.int 0 0), (.ref 248), (.bool false), (.int 181 0), (.ref 249), .none, .none, .none, .none, (.int 498 0), (.int 142 0), (.str (Str.ofString "/claim/cut.py") 499)]) #[]
def o267 (P : Params) : Obj := Obj.mk (.type "frame") none .plain #[(some (.ref 250)), (some (.ref 3)), (some (.ref 247)), none, (some (.str (Str.ofString "rulerow.answers") 491)), none, (some (.ref 0))]
def o268 (P : Params) : Obj := Obj.mk (.type "tuple") none (.seq #[] 0) #[]
def o269 (P : Params) : Obj := Obj.mk (.type "dict") none (.dict #[⟨PyData.keyHash P (Str.ofString "__module__"), (.str (Str.ofString "__module__") 500), (.str (Str.ofString "rulerow.answers") 491)⟩, ⟨PyData.keyHash P (Str.ofString "__firstlineno__"), (.str (Str.ofString "__firstlineno__") 504), (.int 142 503)⟩, ⟨PyData.keyHash P (Str.ofString "__static_attributes__"), (.str (Str.ofString "__static_attributes__") 505), (.ref 252)⟩, ⟨PyData.keyHash P (Str.ofString "__dict__"), (.str (Str.ofString "__dict__") 507), (.ref 255)⟩, ⟨PyData.keyHash P (Str.ofString "__weakref__"), (.str (Str.ofString "__weakref__") 509), (.ref 256)⟩, ⟨PyData.keyHash P (Str.ofString "__doc__"), (.str (Str.ofString "__doc__") 510), .none⟩] 4) #[]
def o270 (P : Params) : Obj := Obj.mk (.type "type") none (.cls (ClassData.mk (Str.ofString "Answer") [(.type "object")] [(.ref 254), (.type "object")] 253 (Str.ofString "Answer") true [] [] false none false)) #[none, none, (some (.str (Str.ofString "Answer") 493)), (some (.str (Str.ofString "Answer") 501)), (some (.builtin "object.__new__")), (some (.bool true))]
def o271 (P : Params) : Obj := Obj.mk (.type "getset_descriptor") none (.fields #[(.str (Str.ofString "__dict__") 506), (.ref 254), (.builtin "function.__dict__"), (.builtin "function.__dict__#set")]) #[]
def o272 (P : Params) : Obj := Obj.mk (.type "getset_descriptor") none (.fields #[(.str (Str.ofString "__weakref__") 508), (.ref 254), (.builtin "ExceptionGroup.__weakref__"), .none]) #[]
def o273 (P : Params) : Obj := Obj.mk (.type "super") none (.fields #[(.ref 254), (.ref 254), (.ref 254)]) #[]
def o274 (P : Params) : Obj := Obj.mk (.type "builtin_function_or_method") none (.fields #[(.builtin "object.__init_subclass__"), (.ref 254)]) #[]
def o275 (P : Params) : Obj := Obj.mk (.type "dict") none (.dict #[⟨PyData.keyHash P (Str.ofString "__name__"), (.str (Str.ofString "__name__") 165), (.str (Str.ofString "rulerow.answers") 491)⟩, ⟨PyData.keyHash P (Str.ofString "__doc__"), (.str (Str.ofString "__doc__") 166), .none⟩, ⟨PyData.keyHash P (Str.ofString "__package__"), (.str (Str.ofString "__package__") 167), .none⟩, ⟨PyData.keyHash P (Str.ofString "__loader__"), (.str (Str.ofString "__loader__") 168), (.builtin "__main__.__loader__#opaque")⟩, ⟨PyData.keyHash P (Str.ofString "__spec__"), (.str (Str.ofString "__spec__") 169), .none⟩, ⟨PyData.keyHash P (Str.ofString "__annotations__"), (.str (Str.ofString "__annotations__") 170), (.ref 6)⟩, ⟨PyData.keyHash P (Str.ofString "__builtins__"), (.str (Str.ofString "__builtins__") 171), (.ref 4)⟩, ⟨PyData.keyHash P (Str.ofString "__file__"), (.str (Str.ofString "__file__") 173), (.str (Str.ofString "/claim/cut.py") 172)⟩, ⟨PyData.keyHash P (Str.ofString "__cached__"), (.str (Str.ofString "__cached__") 174), .none⟩, ⟨PyData.keyHash P (Str.ofString "_wall"), (.str (Str.ofString "_wall") 193), (.ref 21)⟩, ⟨PyData.keyHash P (Str.ofString "RuleError"), (.str (Str.ofString "RuleError") 213), (.ref 31)⟩, ⟨PyData.keyHash P (Str.ofString "BadPrime"), (.str (Str.ofString "BadPrime") 229), (.ref 44)⟩, ⟨PyData.keyHash P (Str.ofString "BadRow"), (.str (Str.ofString "BadRow") 245), (.ref 56)⟩, ⟨PyData.keyHash P (Str.ofString "BadRule"), (.str (Str.ofString "BadRule") 261), (.ref 68)⟩, ⟨PyData.keyHash P (Str.ofString "BadPlace"), (.str (Str.ofString "BadPlace") 277), (.ref 80)⟩, ⟨PyData.keyHash P (Str.ofString "TooFew"), (.str (Str.ofString "TooFew") 293), (.ref 92)⟩, ⟨PyData.keyHash P (Str.ofString "NoWay"), (.str (Str.ofString "NoWay") 309), (.ref 104)⟩, ⟨PyData.keyHash P (Str.ofString "BadText"), (.str (Str.ofString "BadText") 325), (.ref 116)⟩, ⟨PyData.keyHash P (Str.ofString "LOWEST_PRIME"), (.str (Str.ofString "LOWEST_PRIME") 329), (.int 2 328)⟩, ⟨PyData.keyHash P (Str.ofString "HIGHEST_PRIME"), (.str (Str.ofString "HIGHEST_PRIME") 331), (.int 997 330)⟩, ⟨PyData.keyHash P (Str.ofString "is_whole"), (.str (Str.ofString "is_whole") 338), (.ref 125)⟩, ⟨PyData.keyHash P (Str.ofString "is_prime"), (.str (Str.ofString "is_prime") 346), (.ref 132)⟩, ⟨PyData.keyHash P (Str.ofString "is_rest"), (.str (Str.ofString "is_rest") 354), (.ref 139)⟩, ⟨PyData.keyHash P (Str.ofString "are_rests"), (.str (Str.ofString "are_rests") 363), (.ref 146)⟩, ⟨PyData.keyHash P (Str.ofString "need_prime"), (.str (Str.ofString "need_prime") 370), (.ref 153)⟩, ⟨PyData.keyHash P (Str.ofString "need_rule"), (.str (Str.ofString "need_rule") 378), (.ref 160)⟩, ⟨PyData.keyHash P (Str.ofString "need_row"), (.str (Str.ofString "need_row") 386), (.ref 167)⟩, ⟨PyData.keyHash P (Str.ofString "inverse"), (.str (Str.ofString "inverse") 397), (.ref 174)⟩, ⟨PyData.keyHash P (Str.ofString "makes"), (.str (Str.ofString "makes") 409), (.ref 181)⟩, ⟨PyData.keyHash P (Str.ofString "go_on"), (.str (Str.ofString "go_on") 421), (.ref 188)⟩, ⟨PyData.keyHash P (Str.ofString "far"), (.str (Str.ofString "far") 432), (.ref 195)⟩, ⟨PyData.keyHash P (Str.ofString "both"), (.str (Str.ofString "both") 438), (.ref 200)⟩, ⟨PyData.keyHash P (Str.ofString "backwards"), (.str (Str.ofString "backwards") 444), (.ref 205)⟩, ⟨PyData.keyHash P (Str.ofString "need_start"), (.str (Str.ofString "need_start") 453), (.ref 212)⟩, ⟨PyData.keyHash P (Str.ofString "need_count"), (.str (Str.ofString "need_count") 460), (.ref 219)⟩, ⟨PyData.keyHash P (Str.ofString "due"), (.str (Str.ofString "due") 466), (.ref 224)⟩, ⟨PyData.keyHash P (Str.ofString "polynomial"), (.str (Str.ofString "polynomial") 472), (.ref 229)⟩, ⟨PyData.keyHash P (Str.ofString "mirrored"), (.str (Str.ofString "mirrored") 478), (.ref 234)⟩, ⟨PyData.keyHash P (Str.ofString "product_at"), (.str (Str.ofString "product_at") 484), (.ref 239)⟩, ⟨PyData.keyHash P (Str.ofString "number_at"), (.str (Str.ofString "number_at") 490), (.ref 244)⟩, ⟨PyData.keyHash P (Str.ofString "Answer"), (.str (Str.ofString "Answer") 512), (.ref 254)⟩, ⟨PyData.keyHash P (Str.ofString "Least"), (.str (Str.ofString "Least") 550), (.ref 282)⟩] 42) #[]
def o276 (P : Params) : Obj := Obj.mk .none none (.fields #[(.int 1 0), (.int 0 0), (.ref 20), (.int 5 0), (.int 0 0), (.ref 27), (.int 7 0), (.int 0 0), (.ref 40), (.int 9 0), (.int 0 0), (.ref 52), (.int 11 0), (.int 0 0), (.ref 64), (.int 13 0), (.int 0 0), (.ref 76), (.int 15 0), (.int 0 0), (.ref 88), (.int 17 0), (.int 0 0), (.ref 100), (.int 19 0), (.int 0 0), (.ref 112), (.int 24 0), (.int 0 0), (.ref 124), (.int 26 0), (.int 0 0), (.ref 131), (.int 35 0), (.int 0 0), (.ref 138), (.int 37 0), (.int 0 0), (.ref 145), (.int 44 0), (.int 0 0), (.ref 152), (.int 47 0), (.int 0 0), (.ref 159), (.int 50 0), (.int 0 0), (.ref 166), (.int 53 0), (.int 0 0), (.ref 173), (.int 64 0), (.int 0 0), (.ref 180), (.int 72 0), (.int 0 0), (.ref 187), (.int 80 0), (.int 0 0), (.ref 194), (.int 89 0), (.int 0 0), (.ref 199), (.int 97 0), (.int 0 0), (.ref 204), (.int 108 0), (.int 0 0), (.ref 211), (.int 114 0), (.int 0 0), (.ref 218), (.int 117 0), (.int 0 0), (.ref 223), (.int 120 0), (.int 0 0), (.ref 228), (.int 122 0), (.int 0 0), (.ref 233), (.int 124 0), (.int 0 0), (.ref 238), (.int 130 0), (.int 0 0), (.ref 243), (.int 142 0), (.int 0 0), (.ref 250), (.int 144 0), (.int 0 0), (.ref 264)]) #[]
def o277 (P : Params) : Obj := Obj.mk (.type "type") none (.cls (ClassData.mk (Str.ofString "Answer") [(.type "object")] [(.ref 254), (.type "object")] 253 (Str.ofString "Answer") true [] [(.ref 282)] false none false)) #[none, none, (some (.str (Str.ofString "Answer") 493)), (some (.str (Str.ofString "Answer") 501)), (some (.builtin "object.__new__")), (some (.bool true))]
def o278 (P : Params) : Obj := Obj.mk (.type "tuple") none (.seq #[(.ref 254)] 0) #[]
def o279 (P : Params) : Obj := Obj.mk (.type "builtin_function_or_method") none (.fields #[(.builtin "type.__prepare__"), (.type "type")]) #[]
def o280 (P : Params) : Obj := Obj.mk (.type "dict") none (.dict #[⟨PyData.keyHash P (Str.ofString "__module__"), (.str (Str.ofString "__module__") 520), (.str (Str.ofString "rulerow.answers") 491)⟩, ⟨PyData.keyHash P (Str.ofString "__qualname__"), (.str (Str.ofString "__qualname__") 522), (.str (Str.ofString "Least") 521)⟩, ⟨PyData.keyHash P (Str.ofString "__firstlineno__"), (.str (Str.ofString "__firstlineno__") 524), (.int 144 523)⟩, ⟨PyData.keyHash P (Str.ofString "__init__"), (.str (Str.ofString "__init__") 534), (.ref 272)⟩, ⟨PyData.keyHash P (Str.ofString "shows"), (.str (Str.ofString "shows") 543), (.ref 279)⟩, ⟨PyData.keyHash P (Str.ofString "__static_attributes__"), (.str (Str.ofString "__static_attributes__") 547), (.ref 280)⟩] 6) #[]
def o281 (P : Params) : Obj := Obj.mk (.type "tuple") none (.seq #[] 0) #[]
def o282 (P : Params) : Obj := Obj.mk .none none (.fields #[(.int 146 0), (.int 4 0), (.ref 271), (.int 151 0), (.int 4 0), (.ref 278)]) #[]
def o283 (P : Params) : Obj := Obj.mk (.type "code") none (.fields #[(.str (Str.ofString "Least") 515), (.str (Str.ofString "Least") 516), (.str (Str.ofString "/claim/cut.py") 517), (.int 144 0), (.int 0 0), (.int 0 0), (.int 0 0), (.int 0 0), (.ref 262), (.bool false), (.int 181 0), (.ref 263), .none, .none, .none, .none, (.int 518 0), (.int 144 0), (.str (Str.ofString "/claim/cut.py") 519)]) #[]
def o284 (P : Params) : Obj := Obj.mk (.type "frame") none .plain #[(some (.ref 264)), (some (.ref 3)), (some (.ref 261)), none, (some (.str (Str.ofString "rulerow.answers") 491)), none, (some (.ref 0))]
def o285 (P : Params) : Obj := Obj.mk (.type "tuple") none (.seq #[] 0) #[]
def o286 (P : Params) : Obj := Obj.mk .none none (.fields #[]) #[]
def o287 (P : Params) : Obj := Obj.mk (.type "tuple") none (.seq #[(.str (Str.ofString "self") 528), (.str (Str.ofString "rule") 529), (.str (Str.ofString "shorter") 530), (.str (Str.ofString "place") 531)] 0) #[]
def o288 (P : Params) : Obj := Obj.mk (.type "tuple") none (.seq #[] 0) #[]
def o289 (P : Params) : Obj := Obj.mk .none none (.func (FuncData.mk (Str.ofString "__init__") (Str.ofString "Least.__init__") (defArgs (inClass (top 36) 0)) (.stmts (defBody (inClass (top 36) 0))) (defScope (inClass (top 36) 0)) 0 [] .none .none .none .none none .none .none 0)) #[]
def o290 (P : Params) : Obj := Obj.mk (.type "code") none (.fields #[(.str (Str.ofString "__init__") 525), (.str (Str.ofString "Least.__init__") 526), (.str (Str.ofString "/claim/cut.py") 527), (.int 146 0), (.int 4 0), (.int 0 0), (.int 0 0), (.int 3 0), (.ref 266), (.bool true), (.int 181 0), (.ref 267), .none, (.ref 268), (.ref 269), (.ref 270), (.int 532 0), (.int 146 0), (.str (Str.ofString "/claim/cut.py") 533)]) #[]
def o291 (P : Params) : Obj := Obj.mk (.type "function") none (.func (fnOf (Str.ofString "__init__") (Str.ofString "Least.__init__") (defArgs (inClass (top 36) 0)) (defBody (inClass (top 36) 0)) (defScope (inClass (top 36) 0)) .none .none .none (.str (Str.ofString "rulerow.answers") 491) none (.ref 271) .none)) #[]
def o292 (P : Params) : Obj := Obj.mk (.type "tuple") none (.seq #[] 0) #[]
def o293 (P : Params) : Obj := Obj.mk .none none (.fields #[]) #[]
def o294 (P : Params) : Obj := Obj.mk (.type "tuple") none (.seq #[(.str (Str.ofString "self") 538), (.str (Str.ofString "prime") 539), (.str (Str.ofString "row") 540)] 0) #[]
def o295 (P : Params) : Obj := Obj.mk (.type "tuple") none (.seq #[] 0) #[]
def o296 (P : Params) : Obj := Obj.mk .none none (.func (FuncData.mk (Str.ofString "shows") (Str.ofString "Least.shows") (defArgs (inClass (top 36) 1)) (.stmts (defBody (inClass (top 36) 1))) (defScope (inClass (top 36) 1)) 0 [] .none .none .none .none none .none .none 0)) #[]
def o297 (P : Params) : Obj := Obj.mk (.type "code") none (.fields #[(.str (Str.ofString "shows") 535), (.str (Str.ofString "Least.shows") 536), (.str (Str.ofString "/claim/cut.py") 537), (.int 151 0), (.int 3 0), (.int 0 0), (.int 0 0), (.int 3 0), (.ref 273), (.bool true), (.int 181 0), (.ref 274), .none, (.ref 275), (.ref 276), (.ref 277), (.int 541 0), (.int 151 0), (.str (Str.ofString "/claim/cut.py") 542)]) #[]
def o298 (P : Params) : Obj := Obj.mk (.type "function") none (.func (fnOf (Str.ofString "shows") (Str.ofString "Least.shows") (defArgs (inClass (top 36) 1)) (defBody (inClass (top 36) 1)) (defScope (inClass (top 36) 1)) .none .none .none (.str (Str.ofString "rulerow.answers") 491) none (.ref 278) .none)) #[]
def o299 (P : Params) : Obj := Obj.mk (.type "tuple") none (.seq #[(.str (Str.ofString "place") 544), (.str (Str.ofString "rule") 545), (.str (Str.ofString "shorter") 546)] 0) #[]
def o300 (P : Params) : Obj := Obj.mk (.type "dict") none (.dict #[⟨PyData.keyHash P (Str.ofString "__module__"), (.str (Str.ofString "__module__") 520), (.str (Str.ofString "rulerow.answers") 491)⟩, ⟨PyData.keyHash P (Str.ofString "__firstlineno__"), (.str (Str.ofString "__firstlineno__") 524), (.int 144 523)⟩, ⟨PyData.keyHash P (Str.ofString "__init__"), (.str (Str.ofString "__init__") 534), (.ref 272)⟩, ⟨PyData.keyHash P (Str.ofString "shows"), (.str (Str.ofString "shows") 543), (.ref 279)⟩, ⟨PyData.keyHash P (Str.ofString "__static_attributes__"), (.str (Str.ofString "__static_attributes__") 547), (.ref 280)⟩, ⟨PyData.keyHash P (Str.ofString "__doc__"), (.str (Str.ofString "__doc__") 548), .none⟩] 2) #[]
def o301 (P : Params) : Obj := Obj.mk (.type "type") none (.cls (ClassData.mk (Str.ofString "Least") [(.ref 254)] [(.ref 282), (.ref 254), (.type "object")] 281 (Str.ofString "Least") true [] [] false none false)) #[(some (.ref 259)), none, (some (.str (Str.ofString "Least") 513)), (some (.str (Str.ofString "Least") 521)), (some (.builtin "object.__new__")), (some (.bool true))]
def o302 (P : Params) : Obj := Obj.mk (.type "super") none (.fields #[(.ref 282), (.ref 282), (.ref 282)]) #[]
def o303 (P : Params) : Obj := Obj.mk (.type "builtin_function_or_method") none (.fields #[(.builtin "object.__init_subclass__"), (.ref 282)]) #[]
def o304 (P : Params) : Obj := Obj.mk (.type "dict") none (.dict #[⟨PyData.keyHash P (Str.ofString "__name__"), (.str (Str.ofString "__name__") 165), (.str (Str.ofString "rulerow.answers") 491)⟩, ⟨PyData.keyHash P (Str.ofString "__doc__"), (.str (Str.ofString "__doc__") 166), .none⟩, ⟨PyData.keyHash P (Str.ofString "__package__"), (.str (Str.ofString "__package__") 167), .none⟩, ⟨PyData.keyHash P (Str.ofString "__loader__"), (.str (Str.ofString "__loader__") 168), (.builtin "__main__.__loader__#opaque")⟩, ⟨PyData.keyHash P (Str.ofString "__spec__"), (.str (Str.ofString "__spec__") 169), .none⟩, ⟨PyData.keyHash P (Str.ofString "__annotations__"), (.str (Str.ofString "__annotations__") 170), (.ref 6)⟩, ⟨PyData.keyHash P (Str.ofString "__builtins__"), (.str (Str.ofString "__builtins__") 171), (.ref 4)⟩, ⟨PyData.keyHash P (Str.ofString "__file__"), (.str (Str.ofString "__file__") 173), (.str (Str.ofString "/claim/cut.py") 172)⟩, ⟨PyData.keyHash P (Str.ofString "__cached__"), (.str (Str.ofString "__cached__") 174), .none⟩, ⟨PyData.keyHash P (Str.ofString "_wall"), (.str (Str.ofString "_wall") 193), (.ref 21)⟩, ⟨PyData.keyHash P (Str.ofString "RuleError"), (.str (Str.ofString "RuleError") 213), (.ref 31)⟩, ⟨PyData.keyHash P (Str.ofString "BadPrime"), (.str (Str.ofString "BadPrime") 229), (.ref 44)⟩, ⟨PyData.keyHash P (Str.ofString "BadRow"), (.str (Str.ofString "BadRow") 245), (.ref 56)⟩, ⟨PyData.keyHash P (Str.ofString "BadRule"), (.str (Str.ofString "BadRule") 261), (.ref 68)⟩, ⟨PyData.keyHash P (Str.ofString "BadPlace"), (.str (Str.ofString "BadPlace") 277), (.ref 80)⟩, ⟨PyData.keyHash P (Str.ofString "TooFew"), (.str (Str.ofString "TooFew") 293), (.ref 92)⟩, ⟨PyData.keyHash P (Str.ofString "NoWay"), (.str (Str.ofString "NoWay") 309), (.ref 104)⟩, ⟨PyData.keyHash P (Str.ofString "BadText"), (.str (Str.ofString "BadText") 325), (.ref 116)⟩, ⟨PyData.keyHash P (Str.ofString "LOWEST_PRIME"), (.str (Str.ofString "LOWEST_PRIME") 329), (.int 2 328)⟩, ⟨PyData.keyHash P (Str.ofString "HIGHEST_PRIME"), (.str (Str.ofString "HIGHEST_PRIME") 331), (.int 997 330)⟩, ⟨PyData.keyHash P (Str.ofString "is_whole"), (.str (Str.ofString "is_whole") 338), (.ref 125)⟩, ⟨PyData.keyHash P (Str.ofString "is_prime"), (.str (Str.ofString "is_prime") 346), (.ref 132)⟩, ⟨PyData.keyHash P (Str.ofString "is_rest"), (.str (Str.ofString "is_rest") 354), (.ref 139)⟩, ⟨PyData.keyHash P (Str.ofString "are_rests"), (.str (Str.ofString "are_rests") 363), (.ref 146)⟩, ⟨PyData.keyHash P (Str.ofString "need_prime"), (.str (Str.ofString "need_prime") 370), (.ref 153)⟩, ⟨PyData.keyHash P (Str.ofString "need_rule"), (.str (Str.ofString "need_rule") 378), (.ref 160)⟩, ⟨PyData.keyHash P (Str.ofString "need_row"), (.str (Str.ofString "need_row") 386), (.ref 167)⟩, ⟨PyData.keyHash P (Str.ofString "inverse"), (.str (Str.ofString "inverse") 397), (.ref 174)⟩, ⟨PyData.keyHash P (Str.ofString "makes"), (.str (Str.ofString "makes") 409), (.ref 181)⟩, ⟨PyData.keyHash P (Str.ofString "go_on"), (.str (Str.ofString "go_on") 421), (.ref 188)⟩, ⟨PyData.keyHash P (Str.ofString "far"), (.str (Str.ofString "far") 432), (.ref 195)⟩, ⟨PyData.keyHash P (Str.ofString "both"), (.str (Str.ofString "both") 438), (.ref 200)⟩, ⟨PyData.keyHash P (Str.ofString "backwards"), (.str (Str.ofString "backwards") 444), (.ref 205)⟩, ⟨PyData.keyHash P (Str.ofString "need_start"), (.str (Str.ofString "need_start") 453), (.ref 212)⟩, ⟨PyData.keyHash P (Str.ofString "need_count"), (.str (Str.ofString "need_count") 460), (.ref 219)⟩, ⟨PyData.keyHash P (Str.ofString "due"), (.str (Str.ofString "due") 466), (.ref 224)⟩, ⟨PyData.keyHash P (Str.ofString "polynomial"), (.str (Str.ofString "polynomial") 472), (.ref 229)⟩, ⟨PyData.keyHash P (Str.ofString "mirrored"), (.str (Str.ofString "mirrored") 478), (.ref 234)⟩, ⟨PyData.keyHash P (Str.ofString "product_at"), (.str (Str.ofString "product_at") 484), (.ref 239)⟩, ⟨PyData.keyHash P (Str.ofString "number_at"), (.str (Str.ofString "number_at") 490), (.ref 244)⟩, ⟨PyData.keyHash P (Str.ofString "Answer"), (.str (Str.ofString "Answer") 512), (.ref 254)⟩, ⟨PyData.keyHash P (Str.ofString "Least"), (.str (Str.ofString "Least") 550), (.ref 282)⟩, ⟨PyData.keyHash P (Str.ofString "Only"), (.str (Str.ofString "Only") 588), (.ref 308)⟩] 43) #[]
def o305 (P : Params) : Obj := Obj.mk .none none (.fields #[(.int 1 0), (.int 0 0), (.ref 20), (.int 5 0), (.int 0 0), (.ref 27), (.int 7 0), (.int 0 0), (.ref 40), (.int 9 0), (.int 0 0), (.ref 52), (.int 11 0), (.int 0 0), (.ref 64), (.int 13 0), (.int 0 0), (.ref 76), (.int 15 0), (.int 0 0), (.ref 88), (.int 17 0), (.int 0 0), (.ref 100), (.int 19 0), (.int 0 0), (.ref 112), (.int 24 0), (.int 0 0), (.ref 124), (.int 26 0), (.int 0 0), (.ref 131), (.int 35 0), (.int 0 0), (.ref 138), (.int 37 0), (.int 0 0), (.ref 145), (.int 44 0), (.int 0 0), (.ref 152), (.int 47 0), (.int 0 0), (.ref 159), (.int 50 0), (.int 0 0), (.ref 166), (.int 53 0), (.int 0 0), (.ref 173), (.int 64 0), (.int 0 0), (.ref 180), (.int 72 0), (.int 0 0), (.ref 187), (.int 80 0), (.int 0 0), (.ref 194), (.int 89 0), (.int 0 0), (.ref 199), (.int 97 0), (.int 0 0), (.ref 204), (.int 108 0), (.int 0 0), (.ref 211), (.int 114 0), (.int 0 0), (.ref 218), (.int 117 0), (.int 0 0), (.ref 223), (.int 120 0), (.int 0 0), (.ref 228), (.int 122 0), (.int 0 0), (.ref 233), (.int 124 0), (.int 0 0), (.ref 238), (.int 130 0), (.int 0 0), (.ref 243), (.int 142 0), (.int 0 0), (.ref 250), (.int 144 0), (.int 0 0), (.ref 264), (.int 153 0), (.int 0 0), (.ref 290)]) #[]
def o306 (P : Params) : Obj := Obj.mk (.type "type") none (.cls (ClassData.mk (Str.ofString "Answer") [(.type "object")] [(.ref 254), (.type "object")] 253 (Str.ofString "Answer") true [] [(.ref 282), (.ref 308)] false none false)) #[none, none, (some (.str (Str.ofString "Answer") 493)), (some (.str (Str.ofString "Answer") 501)), (some (.builtin "object.__new__")), (some (.bool true))]
def o307 (P : Params) : Obj := Obj.mk (.type "tuple") none (.seq #[(.ref 254)] 0) #[]
def o308 (P : Params) : Obj := Obj.mk (.type "builtin_function_or_method") none (.fields #[(.builtin "type.__prepare__"), (.type "type")]) #[]
def o309 (P : Params) : Obj := Obj.mk (.type "dict") none (.dict #[⟨PyData.keyHash P (Str.ofString "__module__"), (.str (Str.ofString "__module__") 558), (.str (Str.ofString "rulerow.answers") 491)⟩, ⟨PyData.keyHash P (Str.ofString "__qualname__"), (.str (Str.ofString "__qualname__") 560), (.str (Str.ofString "Only") 559)⟩, ⟨PyData.keyHash P (Str.ofString "__firstlineno__"), (.str (Str.ofString "__firstlineno__") 562), (.int 153 561)⟩, ⟨PyData.keyHash P (Str.ofString "__init__"), (.str (Str.ofString "__init__") 572), (.ref 298)⟩, ⟨PyData.keyHash P (Str.ofString "shows"), (.str (Str.ofString "shows") 581), (.ref 305)⟩, ⟨PyData.keyHash P (Str.ofString "__static_attributes__"), (.str (Str.ofString "__static_attributes__") 585), (.ref 306)⟩] 6) #[]
def o310 (P : Params) : Obj := Obj.mk (.type "tuple") none (.seq #[] 0) #[]
def o311 (P : Params) : Obj := Obj.mk .none none (.fields #[(.int 155 0), (.int 4 0), (.ref 297), (.int 160 0), (.int 4 0), (.ref 304)]) #[]
def o312 (P : Params) : Obj := Obj.mk (.type "code") none (.fields #[(.str (Str.ofString "Only") 553), (.str (Str.ofString "Only") 554), (.str (Str.ofString "/claim/cut.py") 555), (.int 153 0), (.int 0 0), (.int 0 0), (.int 0 0), (.int 0 0), (.ref 288), (.bool false), (.int 181 0), (.ref 289), .none, .none, .none, .none, (.int 556 0), (.int 153 0), (.str (Str.ofString "/claim/cut.py") 557)]) #[]
def o313 (P : Params) : Obj := Obj.mk (.type "frame") none .plain #[(some (.ref 290)), (some (.ref 3)), (some (.ref 287)), none, (some (.str (Str.ofString "rulerow.answers") 491)), none, (some (.ref 0))]
def o314 (P : Params) : Obj := Obj.mk (.type "tuple") none (.seq #[] 0) #[]
def o315 (P : Params) : Obj := Obj.mk .none none (.fields #[]) #[]
def o316 (P : Params) : Obj := Obj.mk (.type "tuple") none (.seq #[(.str (Str.ofString "self") 566), (.str (Str.ofString "rule") 567), (.str (Str.ofString "shorter") 568), (.str (Str.ofString "place") 569)] 0) #[]
def o317 (P : Params) : Obj := Obj.mk (.type "tuple") none (.seq #[] 0) #[]
def o318 (P : Params) : Obj := Obj.mk .none none (.func (FuncData.mk (Str.ofString "__init__") (Str.ofString "Only.__init__") (defArgs (inClass (top 37) 0)) (.stmts (defBody (inClass (top 37) 0))) (defScope (inClass (top 37) 0)) 0 [] .none .none .none .none none .none .none 0)) #[]
def o319 (P : Params) : Obj := Obj.mk (.type "code") none (.fields #[(.str (Str.ofString "__init__") 563), (.str (Str.ofString "Only.__init__") 564), (.str (Str.ofString "/claim/cut.py") 565), (.int 155 0), (.int 4 0), (.int 0 0), (.int 0 0), (.int 3 0), (.ref 292), (.bool true), (.int 181 0), (.ref 293), .none, (.ref 294), (.ref 295), (.ref 296), (.int 570 0), (.int 155 0), (.str (Str.ofString "/claim/cut.py") 571)]) #[]
def o320 (P : Params) : Obj := Obj.mk (.type "function") none (.func (fnOf (Str.ofString "__init__") (Str.ofString "Only.__init__") (defArgs (inClass (top 37) 0)) (defBody (inClass (top 37) 0)) (defScope (inClass (top 37) 0)) .none .none .none (.str (Str.ofString "rulerow.answers") 491) none (.ref 297) .none)) #[]
def o321 (P : Params) : Obj := Obj.mk (.type "tuple") none (.seq #[] 0) #[]
def o322 (P : Params) : Obj := Obj.mk .none none (.fields #[]) #[]
def o323 (P : Params) : Obj := Obj.mk (.type "tuple") none (.seq #[(.str (Str.ofString "self") 576), (.str (Str.ofString "prime") 577), (.str (Str.ofString "row") 578)] 0) #[]
def o324 (P : Params) : Obj := Obj.mk (.type "tuple") none (.seq #[] 0) #[]
def o325 (P : Params) : Obj := Obj.mk .none none (.func (FuncData.mk (Str.ofString "shows") (Str.ofString "Only.shows") (defArgs (inClass (top 37) 1)) (.stmts (defBody (inClass (top 37) 1))) (defScope (inClass (top 37) 1)) 0 [] .none .none .none .none none .none .none 0)) #[]
def o326 (P : Params) : Obj := Obj.mk (.type "code") none (.fields #[(.str (Str.ofString "shows") 573), (.str (Str.ofString "Only.shows") 574), (.str (Str.ofString "/claim/cut.py") 575), (.int 160 0), (.int 3 0), (.int 0 0), (.int 0 0), (.int 3 0), (.ref 299), (.bool true), (.int 181 0), (.ref 300), .none, (.ref 301), (.ref 302), (.ref 303), (.int 579 0), (.int 160 0), (.str (Str.ofString "/claim/cut.py") 580)]) #[]
def o327 (P : Params) : Obj := Obj.mk (.type "function") none (.func (fnOf (Str.ofString "shows") (Str.ofString "Only.shows") (defArgs (inClass (top 37) 1)) (defBody (inClass (top 37) 1)) (defScope (inClass (top 37) 1)) .none .none .none (.str (Str.ofString "rulerow.answers") 491) none (.ref 304) .none)) #[]
def o328 (P : Params) : Obj := Obj.mk (.type "tuple") none (.seq #[(.str (Str.ofString "place") 582), (.str (Str.ofString "rule") 583), (.str (Str.ofString "shorter") 584)] 0) #[]
def o329 (P : Params) : Obj := Obj.mk (.type "dict") none (.dict #[⟨PyData.keyHash P (Str.ofString "__module__"), (.str (Str.ofString "__module__") 558), (.str (Str.ofString "rulerow.answers") 491)⟩, ⟨PyData.keyHash P (Str.ofString "__firstlineno__"), (.str (Str.ofString "__firstlineno__") 562), (.int 153 561)⟩, ⟨PyData.keyHash P (Str.ofString "__init__"), (.str (Str.ofString "__init__") 572), (.ref 298)⟩, ⟨PyData.keyHash P (Str.ofString "shows"), (.str (Str.ofString "shows") 581), (.ref 305)⟩, ⟨PyData.keyHash P (Str.ofString "__static_attributes__"), (.str (Str.ofString "__static_attributes__") 585), (.ref 306)⟩, ⟨PyData.keyHash P (Str.ofString "__doc__"), (.str (Str.ofString "__doc__") 586), .none⟩] 2) #[]
def o330 (P : Params) : Obj := Obj.mk (.type "type") none (.cls (ClassData.mk (Str.ofString "Only") [(.ref 254)] [(.ref 308), (.ref 254), (.type "object")] 307 (Str.ofString "Only") true [] [] false none false)) #[(some (.ref 285)), none, (some (.str (Str.ofString "Only") 551)), (some (.str (Str.ofString "Only") 559)), (some (.builtin "object.__new__")), (some (.bool true))]
def o331 (P : Params) : Obj := Obj.mk (.type "super") none (.fields #[(.ref 308), (.ref 308), (.ref 308)]) #[]
def o332 (P : Params) : Obj := Obj.mk (.type "builtin_function_or_method") none (.fields #[(.builtin "object.__init_subclass__"), (.ref 308)]) #[]
def o333 (P : Params) : Obj := Obj.mk (.type "dict") none (.dict #[⟨PyData.keyHash P (Str.ofString "__name__"), (.str (Str.ofString "__name__") 165), (.str (Str.ofString "rulerow.least") 637)⟩, ⟨PyData.keyHash P (Str.ofString "__doc__"), (.str (Str.ofString "__doc__") 166), .none⟩, ⟨PyData.keyHash P (Str.ofString "__package__"), (.str (Str.ofString "__package__") 167), .none⟩, ⟨PyData.keyHash P (Str.ofString "__loader__"), (.str (Str.ofString "__loader__") 168), (.builtin "__main__.__loader__#opaque")⟩, ⟨PyData.keyHash P (Str.ofString "__spec__"), (.str (Str.ofString "__spec__") 169), .none⟩, ⟨PyData.keyHash P (Str.ofString "__annotations__"), (.str (Str.ofString "__annotations__") 170), (.ref 6)⟩, ⟨PyData.keyHash P (Str.ofString "__builtins__"), (.str (Str.ofString "__builtins__") 171), (.ref 4)⟩, ⟨PyData.keyHash P (Str.ofString "__file__"), (.str (Str.ofString "__file__") 173), (.str (Str.ofString "/claim/cut.py") 172)⟩, ⟨PyData.keyHash P (Str.ofString "__cached__"), (.str (Str.ofString "__cached__") 174), .none⟩, ⟨PyData.keyHash P (Str.ofString "_wall"), (.str (Str.ofString "_wall") 193), (.ref 21)⟩, ⟨PyData.keyHash P (Str.ofString "RuleError"), (.str (Str.ofString "RuleError") 213), (.ref 31)⟩, ⟨PyData.keyHash P (Str.ofString "BadPrime"), (.str (Str.ofString "BadPrime") 229), (.ref 44)⟩, ⟨PyData.keyHash P (Str.ofString "BadRow"), (.str (Str.ofString "BadRow") 245), (.ref 56)⟩, ⟨PyData.keyHash P (Str.ofString "BadRule"), (.str (Str.ofString "BadRule") 261), (.ref 68)⟩, ⟨PyData.keyHash P (Str.ofString "BadPlace"), (.str (Str.ofString "BadPlace") 277), (.ref 80)⟩, ⟨PyData.keyHash P (Str.ofString "TooFew"), (.str (Str.ofString "TooFew") 293), (.ref 92)⟩, ⟨PyData.keyHash P (Str.ofString "NoWay"), (.str (Str.ofString "NoWay") 309), (.ref 104)⟩, ⟨PyData.keyHash P (Str.ofString "BadText"), (.str (Str.ofString "BadText") 325), (.ref 116)⟩, ⟨PyData.keyHash P (Str.ofString "LOWEST_PRIME"), (.str (Str.ofString "LOWEST_PRIME") 329), (.int 2 328)⟩, ⟨PyData.keyHash P (Str.ofString "HIGHEST_PRIME"), (.str (Str.ofString "HIGHEST_PRIME") 331), (.int 997 330)⟩, ⟨PyData.keyHash P (Str.ofString "is_whole"), (.str (Str.ofString "is_whole") 338), (.ref 125)⟩, ⟨PyData.keyHash P (Str.ofString "is_prime"), (.str (Str.ofString "is_prime") 346), (.ref 132)⟩, ⟨PyData.keyHash P (Str.ofString "is_rest"), (.str (Str.ofString "is_rest") 354), (.ref 139)⟩, ⟨PyData.keyHash P (Str.ofString "are_rests"), (.str (Str.ofString "are_rests") 363), (.ref 146)⟩, ⟨PyData.keyHash P (Str.ofString "need_prime"), (.str (Str.ofString "need_prime") 370), (.ref 153)⟩, ⟨PyData.keyHash P (Str.ofString "need_rule"), (.str (Str.ofString "need_rule") 378), (.ref 160)⟩, ⟨PyData.keyHash P (Str.ofString "need_row"), (.str (Str.ofString "need_row") 386), (.ref 167)⟩, ⟨PyData.keyHash P (Str.ofString "inverse"), (.str (Str.ofString "inverse") 397), (.ref 174)⟩, ⟨PyData.keyHash P (Str.ofString "makes"), (.str (Str.ofString "makes") 409), (.ref 181)⟩, ⟨PyData.keyHash P (Str.ofString "go_on"), (.str (Str.ofString "go_on") 421), (.ref 188)⟩, ⟨PyData.keyHash P (Str.ofString "far"), (.str (Str.ofString "far") 432), (.ref 195)⟩, ⟨PyData.keyHash P (Str.ofString "both"), (.str (Str.ofString "both") 438), (.ref 200)⟩, ⟨PyData.keyHash P (Str.ofString "backwards"), (.str (Str.ofString "backwards") 444), (.ref 205)⟩, ⟨PyData.keyHash P (Str.ofString "need_start"), (.str (Str.ofString "need_start") 453), (.ref 212)⟩, ⟨PyData.keyHash P (Str.ofString "need_count"), (.str (Str.ofString "need_count") 460), (.ref 219)⟩, ⟨PyData.keyHash P (Str.ofString "due"), (.str (Str.ofString "due") 466), (.ref 224)⟩, ⟨PyData.keyHash P (Str.ofString "polynomial"), (.str (Str.ofString "polynomial") 472), (.ref 229)⟩, ⟨PyData.keyHash P (Str.ofString "mirrored"), (.str (Str.ofString "mirrored") 478), (.ref 234)⟩, ⟨PyData.keyHash P (Str.ofString "product_at"), (.str (Str.ofString "product_at") 484), (.ref 239)⟩, ⟨PyData.keyHash P (Str.ofString "number_at"), (.str (Str.ofString "number_at") 490), (.ref 244)⟩, ⟨PyData.keyHash P (Str.ofString "Answer"), (.str (Str.ofString "Answer") 512), (.ref 254)⟩, ⟨PyData.keyHash P (Str.ofString "Least"), (.str (Str.ofString "Least") 550), (.ref 282)⟩, ⟨PyData.keyHash P (Str.ofString "Only"), (.str (Str.ofString "Only") 588), (.ref 308)⟩, ⟨PyData.keyHash P (Str.ofString "Another"), (.str (Str.ofString "Another") 628), (.ref 334)⟩, ⟨PyData.keyHash P (Str.ofString "is_sole"), (.str (Str.ofString "is_sole") 636), (.ref 343)⟩, ⟨PyData.keyHash P (Str.ofString "least"), (.str (Str.ofString "least") 655), (.ref 350)⟩, ⟨PyData.keyHash P (Str.ofString "unlike"), (.str (Str.ofString "unlike") 666), (.ref 357)⟩] 47) #[]
def o334 (P : Params) : Obj := Obj.mk .none none (.fields #[(.int 1 0), (.int 0 0), (.ref 20), (.int 5 0), (.int 0 0), (.ref 27), (.int 7 0), (.int 0 0), (.ref 40), (.int 9 0), (.int 0 0), (.ref 52), (.int 11 0), (.int 0 0), (.ref 64), (.int 13 0), (.int 0 0), (.ref 76), (.int 15 0), (.int 0 0), (.ref 88), (.int 17 0), (.int 0 0), (.ref 100), (.int 19 0), (.int 0 0), (.ref 112), (.int 24 0), (.int 0 0), (.ref 124), (.int 26 0), (.int 0 0), (.ref 131), (.int 35 0), (.int 0 0), (.ref 138), (.int 37 0), (.int 0 0), (.ref 145), (.int 44 0), (.int 0 0), (.ref 152), (.int 47 0), (.int 0 0), (.ref 159), (.int 50 0), (.int 0 0), (.ref 166), (.int 53 0), (.int 0 0), (.ref 173), (.int 64 0), (.int 0 0), (.ref 180), (.int 72 0), (.int 0 0), (.ref 187), (.int 80 0), (.int 0 0), (.ref 194), (.int 89 0), (.int 0 0), (.ref 199), (.int 97 0), (.int 0 0), (.ref 204), (.int 108 0), (.int 0 0), (.ref 211), (.int 114 0), (.int 0 0), (.ref 218), (.int 117 0), (.int 0 0), (.ref 223), (.int 120 0), (.int 0 0), (.ref 228), (.int 122 0), (.int 0 0), (.ref 233), (.int 124 0), (.int 0 0), (.ref 238), (.int 130 0), (.int 0 0), (.ref 243), (.int 142 0), (.int 0 0), (.ref 250), (.int 144 0), (.int 0 0), (.ref 264), (.int 153 0), (.int 0 0), (.ref 290), (.int 162 0), (.int 0 0), (.ref 316), (.int 172 0), (.int 0 0), (.ref 342), (.int 175 0), (.int 0 0), (.ref 349), (.int 194 0), (.int 0 0), (.ref 356)]) #[]
def o335 (P : Params) : Obj := Obj.mk (.type "type") none (.cls (ClassData.mk (Str.ofString "Answer") [(.type "object")] [(.ref 254), (.type "object")] 253 (Str.ofString "Answer") true [] [(.ref 282), (.ref 308), (.ref 334)] false none false)) #[none, none, (some (.str (Str.ofString "Answer") 493)), (some (.str (Str.ofString "Answer") 501)), (some (.builtin "object.__new__")), (some (.bool true))]
def o336 (P : Params) : Obj := Obj.mk (.type "tuple") none (.seq #[(.ref 254)] 0) #[]
def o337 (P : Params) : Obj := Obj.mk (.type "builtin_function_or_method") none (.fields #[(.builtin "type.__prepare__"), (.type "type")]) #[]
def o338 (P : Params) : Obj := Obj.mk (.type "dict") none (.dict #[⟨PyData.keyHash P (Str.ofString "__module__"), (.str (Str.ofString "__module__") 596), (.str (Str.ofString "rulerow.answers") 491)⟩, ⟨PyData.keyHash P (Str.ofString "__qualname__"), (.str (Str.ofString "__qualname__") 598), (.str (Str.ofString "Another") 597)⟩, ⟨PyData.keyHash P (Str.ofString "__firstlineno__"), (.str (Str.ofString "__firstlineno__") 600), (.int 162 599)⟩, ⟨PyData.keyHash P (Str.ofString "__init__"), (.str (Str.ofString "__init__") 611), (.ref 324)⟩, ⟨PyData.keyHash P (Str.ofString "shows"), (.str (Str.ofString "shows") 620), (.ref 331)⟩, ⟨PyData.keyHash P (Str.ofString "__static_attributes__"), (.str (Str.ofString "__static_attributes__") 625), (.ref 332)⟩] 6) #[]
def o339 (P : Params) : Obj := Obj.mk (.type "tuple") none (.seq #[] 0) #[]
def o340 (P : Params) : Obj := Obj.mk .none none (.fields #[(.int 164 0), (.int 4 0), (.ref 323), (.int 170 0), (.int 4 0), (.ref 330)]) #[]
def o341 (P : Params) : Obj := Obj.mk (.type "code") none (.fields #[(.str (Str.ofString "Another") 591), (.str (Str.ofString "Another") 592), (.str (Str.ofString "/claim/cut.py") 593), (.int 162 0), (.int 0 0), (.int 0 0), (.int 0 0), (.int 0 0), (.ref 314), (.bool false), (.int 181 0), (.ref 315), .none, .none, .none, .none, (.int 594 0), (.int 162 0), (.str (Str.ofString "/claim/cut.py") 595)]) #[]
def o342 (P : Params) : Obj := Obj.mk (.type "frame") none .plain #[(some (.ref 316)), (some (.ref 3)), (some (.ref 313)), none, (some (.str (Str.ofString "rulerow.answers") 491)), none, (some (.ref 0))]
def o343 (P : Params) : Obj := Obj.mk (.type "tuple") none (.seq #[] 0) #[]
def o344 (P : Params) : Obj := Obj.mk .none none (.fields #[]) #[]
def o345 (P : Params) : Obj := Obj.mk (.type "tuple") none (.seq #[(.str (Str.ofString "self") 604), (.str (Str.ofString "one") 605), (.str (Str.ofString "other") 606), (.str (Str.ofString "shorter") 607), (.str (Str.ofString "place") 608)] 0) #[]
def o346 (P : Params) : Obj := Obj.mk (.type "tuple") none (.seq #[] 0) #[]
def o347 (P : Params) : Obj := Obj.mk .none none (.func (FuncData.mk (Str.ofString "__init__") (Str.ofString "Another.__init__") (defArgs (inClass (top 38) 0)) (.stmts (defBody (inClass (top 38) 0))) (defScope (inClass (top 38) 0)) 0 [] .none .none .none .none none .none .none 0)) #[]
def o348 (P : Params) : Obj := Obj.mk (.type "code") none (.fields #[(.str (Str.ofString "__init__") 601), (.str (Str.ofString "Another.__init__") 602), (.str (Str.ofString "/claim/cut.py") 603), (.int 164 0), (.int 5 0), (.int 0 0), (.int 0 0), (.int 3 0), (.ref 318), (.bool true), (.int 181 0), (.ref 319), .none, (.ref 320), (.ref 321), (.ref 322), (.int 609 0), (.int 164 0), (.str (Str.ofString "/claim/cut.py") 610)]) #[]
def o349 (P : Params) : Obj := Obj.mk (.type "function") none (.func (fnOf (Str.ofString "__init__") (Str.ofString "Another.__init__") (defArgs (inClass (top 38) 0)) (defBody (inClass (top 38) 0)) (defScope (inClass (top 38) 0)) .none .none .none (.str (Str.ofString "rulerow.answers") 491) none (.ref 323) .none)) #[]
def o350 (P : Params) : Obj := Obj.mk (.type "tuple") none (.seq #[] 0) #[]
def o351 (P : Params) : Obj := Obj.mk .none none (.fields #[]) #[]
def o352 (P : Params) : Obj := Obj.mk (.type "tuple") none (.seq #[(.str (Str.ofString "self") 615), (.str (Str.ofString "prime") 616), (.str (Str.ofString "row") 617)] 0) #[]
def o353 (P : Params) : Obj := Obj.mk (.type "tuple") none (.seq #[] 0) #[]
def o354 (P : Params) : Obj := Obj.mk .none none (.func (FuncData.mk (Str.ofString "shows") (Str.ofString "Another.shows") (defArgs (inClass (top 38) 1)) (.stmts (defBody (inClass (top 38) 1))) (defScope (inClass (top 38) 1)) 0 [] .none .none .none .none none .none .none 0)) #[]
def o355 (P : Params) : Obj := Obj.mk (.type "code") none (.fields #[(.str (Str.ofString "shows") 612), (.str (Str.ofString "Another.shows") 613), (.str (Str.ofString "/claim/cut.py") 614), (.int 170 0), (.int 3 0), (.int 0 0), (.int 0 0), (.int 3 0), (.ref 325), (.bool true), (.int 181 0), (.ref 326), .none, (.ref 327), (.ref 328), (.ref 329), (.int 618 0), (.int 170 0), (.str (Str.ofString "/claim/cut.py") 619)]) #[]
def o356 (P : Params) : Obj := Obj.mk (.type "function") none (.func (fnOf (Str.ofString "shows") (Str.ofString "Another.shows") (defArgs (inClass (top 38) 1)) (defBody (inClass (top 38) 1)) (defScope (inClass (top 38) 1)) .none .none .none (.str (Str.ofString "rulerow.answers") 491) none (.ref 330) .none)) #[]
def o357 (P : Params) : Obj := Obj.mk (.type "tuple") none (.seq #[(.str (Str.ofString "one") 621), (.str (Str.ofString "other") 622), (.str (Str.ofString "place") 623), (.str (Str.ofString "shorter") 624)] 0) #[]
def o358 (P : Params) : Obj := Obj.mk (.type "dict") none (.dict #[⟨PyData.keyHash P (Str.ofString "__module__"), (.str (Str.ofString "__module__") 596), (.str (Str.ofString "rulerow.answers") 491)⟩, ⟨PyData.keyHash P (Str.ofString "__firstlineno__"), (.str (Str.ofString "__firstlineno__") 600), (.int 162 599)⟩, ⟨PyData.keyHash P (Str.ofString "__init__"), (.str (Str.ofString "__init__") 611), (.ref 324)⟩, ⟨PyData.keyHash P (Str.ofString "shows"), (.str (Str.ofString "shows") 620), (.ref 331)⟩, ⟨PyData.keyHash P (Str.ofString "__static_attributes__"), (.str (Str.ofString "__static_attributes__") 625), (.ref 332)⟩, ⟨PyData.keyHash P (Str.ofString "__doc__"), (.str (Str.ofString "__doc__") 626), .none⟩] 2) #[]
def o359 (P : Params) : Obj := Obj.mk (.type "type") none (.cls (ClassData.mk (Str.ofString "Another") [(.ref 254)] [(.ref 334), (.ref 254), (.type "object")] 333 (Str.ofString "Another") true [] [] false none false)) #[(some (.ref 311)), none, (some (.str (Str.ofString "Another") 589)), (some (.str (Str.ofString "Another") 597)), (some (.builtin "object.__new__")), (some (.bool true))]
def o360 (P : Params) : Obj := Obj.mk (.type "super") none (.fields #[(.ref 334), (.ref 334), (.ref 334)]) #[]
def o361 (P : Params) : Obj := Obj.mk (.type "builtin_function_or_method") none (.fields #[(.builtin "object.__init_subclass__"), (.ref 334)]) #[]
def o362 (P : Params) : Obj := Obj.mk (.type "tuple") none (.seq #[] 0) #[]
def o363 (P : Params) : Obj := Obj.mk .none none (.fields #[]) #[]
def o364 (P : Params) : Obj := Obj.mk (.type "tuple") none (.seq #[(.str (Str.ofString "rule") 632), (.str (Str.ofString "row") 633)] 0) #[]
def o365 (P : Params) : Obj := Obj.mk (.type "tuple") none (.seq #[] 0) #[]
def o366 (P : Params) : Obj := Obj.mk .none none (.func (FuncData.mk (Str.ofString "is_sole") (Str.ofString "is_sole") (defArgs (top 39)) (.stmts (defBody (top 39))) (defScope (top 39)) 0 [] .none .none .none .none none .none .none 0)) #[]
def o367 (P : Params) : Obj := Obj.mk (.type "code") none (.fields #[(.str (Str.ofString "is_sole") 629), (.str (Str.ofString "is_sole") 630), (.str (Str.ofString "/claim/cut.py") 631), (.int 172 0), (.int 2 0), (.int 0 0), (.int 0 0), (.int 3 0), (.ref 337), (.bool true), (.int 181 0), (.ref 338), .none, (.ref 339), (.ref 340), (.ref 341), (.int 634 0), (.int 172 0), (.str (Str.ofString "/claim/cut.py") 635)]) #[]
def o368 (P : Params) : Obj := Obj.mk (.type "function") none (.func (fnOf (Str.ofString "is_sole") (Str.ofString "is_sole") (defArgs (top 39)) (defBody (top 39)) (defScope (top 39)) .none .none .none (.str (Str.ofString "rulerow.answers") 491) none (.ref 342) .none)) #[]
def o369 (P : Params) : Obj := Obj.mk (.type "tuple") none (.seq #[] 0) #[]
def o370 (P : Params) : Obj := Obj.mk .none none (.fields #[]) #[]
def o371 (P : Params) : Obj := Obj.mk (.type "tuple") none (.seq #[(.str (Str.ofString "prime") 642), (.str (Str.ofString "row") 643), (.str (Str.ofString "rule") 644), (.str (Str.ofString "shorter") 645), (.str (Str.ofString "place") 646), (.str (Str.ofString "miss") 647), (.str (Str.ofString "here") 648), (.str (Str.ofString "number") 649), (.str (Str.ofString "lack") 650), (.str (Str.ofString "share") 651), (.str (Str.ofString "mended") 652)] 0) #[]
def o372 (P : Params) : Obj := Obj.mk (.type "tuple") none (.seq #[] 0) #[]
def o373 (P : Params) : Obj := Obj.mk .none none (.func (FuncData.mk (Str.ofString "least") (Str.ofString "least") (defArgs (top 41)) (.stmts (defBody (top 41))) (defScope (top 41)) 0 [] .none .none .none .none none .none .none 0)) #[]
def o374 (P : Params) : Obj := Obj.mk (.type "code") none (.fields #[(.str (Str.ofString "least") 639), (.str (Str.ofString "least") 640), (.str (Str.ofString "/claim/cut.py") 641), (.int 175 0), (.int 2 0), (.int 0 0), (.int 0 0), (.int 3 0), (.ref 344), (.bool true), (.int 181 0), (.ref 345), .none, (.ref 346), (.ref 347), (.ref 348), (.int 653 0), (.int 175 0), (.str (Str.ofString "/claim/cut.py") 654)]) #[]
def o375 (P : Params) : Obj := Obj.mk (.type "function") none (.func (fnOf (Str.ofString "least") (Str.ofString "least") (defArgs (top 41)) (defBody (top 41)) (defScope (top 41)) .none .none .none (.str (Str.ofString "rulerow.least") 637) none (.ref 349) .none)) #[]
def o376 (P : Params) : Obj := Obj.mk (.type "tuple") none (.seq #[] 0) #[]
def o377 (P : Params) : Obj := Obj.mk .none none (.fields #[]) #[]
def o378 (P : Params) : Obj := Obj.mk (.type "tuple") none (.seq #[(.str (Str.ofString "prime") 659), (.str (Str.ofString "row") 660), (.str (Str.ofString "found") 661), (.str (Str.ofString "shift") 662), (.str (Str.ofString "other") 663)] 0) #[]
def o379 (P : Params) : Obj := Obj.mk (.type "tuple") none (.seq #[] 0) #[]
def o380 (P : Params) : Obj := Obj.mk .none none (.func (FuncData.mk (Str.ofString "unlike") (Str.ofString "unlike") (defArgs (top 42)) (.stmts (defBody (top 42))) (defScope (top 42)) 0 [] .none .none .none .none none .none .none 0)) #[]
def o381 (P : Params) : Obj := Obj.mk (.type "code") none (.fields #[(.str (Str.ofString "unlike") 656), (.str (Str.ofString "unlike") 657), (.str (Str.ofString "/claim/cut.py") 658), (.int 194 0), (.int 2 0), (.int 0 0), (.int 0 0), (.int 3 0), (.ref 351), (.bool true), (.int 181 0), (.ref 352), .none, (.ref 353), (.ref 354), (.ref 355), (.int 664 0), (.int 194 0), (.str (Str.ofString "/claim/cut.py") 665)]) #[]
def o382 (P : Params) : Obj := Obj.mk (.type "function") none (.func (fnOf (Str.ofString "unlike") (Str.ofString "unlike") (defArgs (top 42)) (defBody (top 42)) (defScope (top 42)) .none .none .none (.str (Str.ofString "rulerow.least") 637) none (.ref 356) .none)) #[]
def o383 (P : Params) : Obj := Obj.mk (.type "dict") none (.dict #[⟨PyData.keyHash P (Str.ofString "__name__"), (.str (Str.ofString "__name__") 165), (.str (Str.ofString "law_rulerow_k07_refused") 690)⟩, ⟨PyData.keyHash P (Str.ofString "__doc__"), (.str (Str.ofString "__doc__") 166), .none⟩, ⟨PyData.keyHash P (Str.ofString "__package__"), (.str (Str.ofString "__package__") 167), .none⟩, ⟨PyData.keyHash P (Str.ofString "__loader__"), (.str (Str.ofString "__loader__") 168), (.builtin "__main__.__loader__#opaque")⟩, ⟨PyData.keyHash P (Str.ofString "__spec__"), (.str (Str.ofString "__spec__") 169), .none⟩, ⟨PyData.keyHash P (Str.ofString "__annotations__"), (.str (Str.ofString "__annotations__") 170), (.ref 6)⟩, ⟨PyData.keyHash P (Str.ofString "__builtins__"), (.str (Str.ofString "__builtins__") 171), (.ref 4)⟩, ⟨PyData.keyHash P (Str.ofString "__file__"), (.str (Str.ofString "__file__") 173), (.str (Str.ofString "/claim/cut.py") 172)⟩, ⟨PyData.keyHash P (Str.ofString "__cached__"), (.str (Str.ofString "__cached__") 174), .none⟩, ⟨PyData.keyHash P (Str.ofString "_wall"), (.str (Str.ofString "_wall") 193), (.ref 21)⟩, ⟨PyData.keyHash P (Str.ofString "RuleError"), (.str (Str.ofString "RuleError") 213), (.ref 31)⟩, ⟨PyData.keyHash P (Str.ofString "BadPrime"), (.str (Str.ofString "BadPrime") 229), (.ref 44)⟩, ⟨PyData.keyHash P (Str.ofString "BadRow"), (.str (Str.ofString "BadRow") 245), (.ref 56)⟩, ⟨PyData.keyHash P (Str.ofString "BadRule"), (.str (Str.ofString "BadRule") 261), (.ref 68)⟩, ⟨PyData.keyHash P (Str.ofString "BadPlace"), (.str (Str.ofString "BadPlace") 277), (.ref 80)⟩, ⟨PyData.keyHash P (Str.ofString "TooFew"), (.str (Str.ofString "TooFew") 293), (.ref 92)⟩, ⟨PyData.keyHash P (Str.ofString "NoWay"), (.str (Str.ofString "NoWay") 309), (.ref 104)⟩, ⟨PyData.keyHash P (Str.ofString "BadText"), (.str (Str.ofString "BadText") 325), (.ref 116)⟩, ⟨PyData.keyHash P (Str.ofString "LOWEST_PRIME"), (.str (Str.ofString "LOWEST_PRIME") 329), (.int 2 328)⟩, ⟨PyData.keyHash P (Str.ofString "HIGHEST_PRIME"), (.str (Str.ofString "HIGHEST_PRIME") 331), (.int 997 330)⟩, ⟨PyData.keyHash P (Str.ofString "is_whole"), (.str (Str.ofString "is_whole") 338), (.ref 125)⟩, ⟨PyData.keyHash P (Str.ofString "is_prime"), (.str (Str.ofString "is_prime") 346), (.ref 132)⟩, ⟨PyData.keyHash P (Str.ofString "is_rest"), (.str (Str.ofString "is_rest") 354), (.ref 139)⟩, ⟨PyData.keyHash P (Str.ofString "are_rests"), (.str (Str.ofString "are_rests") 363), (.ref 146)⟩, ⟨PyData.keyHash P (Str.ofString "need_prime"), (.str (Str.ofString "need_prime") 370), (.ref 153)⟩, ⟨PyData.keyHash P (Str.ofString "need_rule"), (.str (Str.ofString "need_rule") 378), (.ref 160)⟩, ⟨PyData.keyHash P (Str.ofString "need_row"), (.str (Str.ofString "need_row") 386), (.ref 167)⟩, ⟨PyData.keyHash P (Str.ofString "inverse"), (.str (Str.ofString "inverse") 397), (.ref 174)⟩, ⟨PyData.keyHash P (Str.ofString "makes"), (.str (Str.ofString "makes") 409), (.ref 181)⟩, ⟨PyData.keyHash P (Str.ofString "go_on"), (.str (Str.ofString "go_on") 421), (.ref 188)⟩, ⟨PyData.keyHash P (Str.ofString "far"), (.str (Str.ofString "far") 432), (.ref 195)⟩, ⟨PyData.keyHash P (Str.ofString "both"), (.str (Str.ofString "both") 438), (.ref 200)⟩, ⟨PyData.keyHash P (Str.ofString "backwards"), (.str (Str.ofString "backwards") 444), (.ref 205)⟩, ⟨PyData.keyHash P (Str.ofString "need_start"), (.str (Str.ofString "need_start") 453), (.ref 212)⟩, ⟨PyData.keyHash P (Str.ofString "need_count"), (.str (Str.ofString "need_count") 460), (.ref 219)⟩, ⟨PyData.keyHash P (Str.ofString "due"), (.str (Str.ofString "due") 466), (.ref 224)⟩, ⟨PyData.keyHash P (Str.ofString "polynomial"), (.str (Str.ofString "polynomial") 472), (.ref 229)⟩, ⟨PyData.keyHash P (Str.ofString "mirrored"), (.str (Str.ofString "mirrored") 478), (.ref 234)⟩, ⟨PyData.keyHash P (Str.ofString "product_at"), (.str (Str.ofString "product_at") 484), (.ref 239)⟩, ⟨PyData.keyHash P (Str.ofString "number_at"), (.str (Str.ofString "number_at") 490), (.ref 244)⟩, ⟨PyData.keyHash P (Str.ofString "Answer"), (.str (Str.ofString "Answer") 512), (.ref 254)⟩, ⟨PyData.keyHash P (Str.ofString "Least"), (.str (Str.ofString "Least") 550), (.ref 282)⟩, ⟨PyData.keyHash P (Str.ofString "Only"), (.str (Str.ofString "Only") 588), (.ref 308)⟩, ⟨PyData.keyHash P (Str.ofString "Another"), (.str (Str.ofString "Another") 628), (.ref 334)⟩, ⟨PyData.keyHash P (Str.ofString "is_sole"), (.str (Str.ofString "is_sole") 636), (.ref 343)⟩, ⟨PyData.keyHash P (Str.ofString "least"), (.str (Str.ofString "least") 655), (.ref 350)⟩, ⟨PyData.keyHash P (Str.ofString "unlike"), (.str (Str.ofString "unlike") 666), (.ref 357)⟩, ⟨PyData.keyHash P (Str.ofString "mixed"), (.str (Str.ofString "mixed") 681), (.ref 364)⟩, ⟨PyData.keyHash P (Str.ofString "written"), (.str (Str.ofString "written") 689), (.ref 369)⟩, ⟨PyData.keyHash P (Str.ofString "_law_cell_at"), (.str (Str.ofString "_law_cell_at") 699), (.ref 376)⟩, ⟨PyData.keyHash P (Str.ofString "_law_draw"), (.str (Str.ofString "_law_draw") 709), (.ref 383)⟩, ⟨PyData.keyHash P (Str.ofString "_law_prime"), (.str (Str.ofString "_law_prime") 716), (.ref 390)⟩, ⟨PyData.keyHash P (Str.ofString "_law_rests"), (.str (Str.ofString "_law_rests") 722), (.ref 395)⟩, ⟨PyData.keyHash P (Str.ofString "_law_row"), (.str (Str.ofString "_law_row") 728), (.ref 400)⟩, ⟨PyData.keyHash P (Str.ofString "_law_due"), (.str (Str.ofString "_law_due") 734), (.ref 405)⟩, ⟨PyData.keyHash P (Str.ofString "_law_made"), (.str (Str.ofString "_law_made") 740), (.ref 410)⟩, ⟨PyData.keyHash P (Str.ofString "_law_rested"), (.str (Str.ofString "_law_rested") 746), (.ref 415)⟩, ⟨PyData.keyHash P (Str.ofString "_law_least"), (.str (Str.ofString "_law_least") 757), (.ref 422)⟩, ⟨PyData.keyHash P (Str.ofString "_law_kinds"), (.str (Str.ofString "_law_kinds") 765), (.ref 429)⟩, ⟨PyData.keyHash P (Str.ofString "_law_with_prime"), (.str (Str.ofString "_law_with_prime") 773), (.ref 436)⟩] 60) #[]
def o384 (P : Params) : Obj := Obj.mk .none none (.fields #[(.int 1 0), (.int 0 0), (.ref 20), (.int 5 0), (.int 0 0), (.ref 27), (.int 7 0), (.int 0 0), (.ref 40), (.int 9 0), (.int 0 0), (.ref 52), (.int 11 0), (.int 0 0), (.ref 64), (.int 13 0), (.int 0 0), (.ref 76), (.int 15 0), (.int 0 0), (.ref 88), (.int 17 0), (.int 0 0), (.ref 100), (.int 19 0), (.int 0 0), (.ref 112), (.int 24 0), (.int 0 0), (.ref 124), (.int 26 0), (.int 0 0), (.ref 131), (.int 35 0), (.int 0 0), (.ref 138), (.int 37 0), (.int 0 0), (.ref 145), (.int 44 0), (.int 0 0), (.ref 152), (.int 47 0), (.int 0 0), (.ref 159), (.int 50 0), (.int 0 0), (.ref 166), (.int 53 0), (.int 0 0), (.ref 173), (.int 64 0), (.int 0 0), (.ref 180), (.int 72 0), (.int 0 0), (.ref 187), (.int 80 0), (.int 0 0), (.ref 194), (.int 89 0), (.int 0 0), (.ref 199), (.int 97 0), (.int 0 0), (.ref 204), (.int 108 0), (.int 0 0), (.ref 211), (.int 114 0), (.int 0 0), (.ref 218), (.int 117 0), (.int 0 0), (.ref 223), (.int 120 0), (.int 0 0), (.ref 228), (.int 122 0), (.int 0 0), (.ref 233), (.int 124 0), (.int 0 0), (.ref 238), (.int 130 0), (.int 0 0), (.ref 243), (.int 142 0), (.int 0 0), (.ref 250), (.int 144 0), (.int 0 0), (.ref 264), (.int 153 0), (.int 0 0), (.ref 290), (.int 162 0), (.int 0 0), (.ref 316), (.int 172 0), (.int 0 0), (.ref 342), (.int 175 0), (.int 0 0), (.ref 349), (.int 194 0), (.int 0 0), (.ref 356), (.int 201 0), (.int 0 0), (.ref 363), (.int 209 0), (.int 0 0), (.ref 368), (.int 214 0), (.int 0 0), (.ref 375), (.int 218 0), (.int 0 0), (.ref 382), (.int 221 0), (.int 0 0), (.ref 389), (.int 223 0), (.int 0 0), (.ref 394), (.int 225 0), (.int 0 0), (.ref 399), (.int 235 0), (.int 0 0), (.ref 404), (.int 237 0), (.int 0 0), (.ref 409), (.int 239 0), (.int 0 0), (.ref 414), (.int 243 0), (.int 0 0), (.ref 421), (.int 251 0), (.int 0 0), (.ref 428), (.int 255 0), (.int 0 0), (.ref 435)]) #[]
def o385 (P : Params) : Obj := Obj.mk (.type "tuple") none (.seq #[] 0) #[]
def o386 (P : Params) : Obj := Obj.mk .none none (.fields #[]) #[]
def o387 (P : Params) : Obj := Obj.mk (.type "tuple") none (.seq #[(.str (Str.ofString "prime") 670), (.str (Str.ofString "rule") 671), (.str (Str.ofString "shorter") 672), (.str (Str.ofString "shift") 673), (.str (Str.ofString "share") 674), (.str (Str.ofString "length") 675), (.str (Str.ofString "told") 676), (.str (Str.ofString "back") 677), (.str (Str.ofString "rest") 678)] 0) #[]
def o388 (P : Params) : Obj := Obj.mk (.type "tuple") none (.seq #[] 0) #[]
def o389 (P : Params) : Obj := Obj.mk .none none (.func (FuncData.mk (Str.ofString "mixed") (Str.ofString "mixed") (defArgs (top 43)) (.stmts (defBody (top 43))) (defScope (top 43)) 0 [] .none .none .none .none none .none .none 0)) #[]
def o390 (P : Params) : Obj := Obj.mk (.type "code") none (.fields #[(.str (Str.ofString "mixed") 667), (.str (Str.ofString "mixed") 668), (.str (Str.ofString "/claim/cut.py") 669), (.int 201 0), (.int 5 0), (.int 0 0), (.int 0 0), (.int 3 0), (.ref 358), (.bool true), (.int 181 0), (.ref 359), .none, (.ref 360), (.ref 361), (.ref 362), (.int 679 0), (.int 201 0), (.str (Str.ofString "/claim/cut.py") 680)]) #[]
def o391 (P : Params) : Obj := Obj.mk (.type "function") none (.func (fnOf (Str.ofString "mixed") (Str.ofString "mixed") (defArgs (top 43)) (defBody (top 43)) (defScope (top 43)) .none .none .none (.str (Str.ofString "rulerow.least") 637) none (.ref 363) .none)) #[]
def o392 (P : Params) : Obj := Obj.mk (.type "tuple") none (.seq #[] 0) #[]
def o393 (P : Params) : Obj := Obj.mk .none none (.fields #[]) #[]
def o394 (P : Params) : Obj := Obj.mk .none none (.func (FuncData.mk (Str.ofString "written") (Str.ofString "written") (defArgs (top 45)) (.stmts (defBody (top 45))) (defScope (top 45)) 0 [] .none .none .none .none none .none .none 0)) #[]
def o395 (P : Params) : Obj := Obj.mk (.type "code") none (.fields #[(.str (Str.ofString "written") 684), (.str (Str.ofString "written") 685), (.str (Str.ofString "/claim/cut.py") 686), (.int 209 0), (.int 2 0), (.int 0 0), (.int 0 0), (.int 3 0), (.ref 365), (.bool true), (.int 181 0), (.ref 366), .none, .none, .none, (.ref 367), (.int 687 0), (.int 209 0), (.str (Str.ofString "/claim/cut.py") 688)]) #[]
def o396 (P : Params) : Obj := Obj.mk (.type "function") none (.func (fnOf (Str.ofString "written") (Str.ofString "written") (defArgs (top 45)) (defBody (top 45)) (defScope (top 45)) .none .none .none (.str (Str.ofString "rulerow.texts") 682) none (.ref 368) .none)) #[]
def o397 (P : Params) : Obj := Obj.mk (.type "tuple") none (.seq #[] 0) #[]
def o398 (P : Params) : Obj := Obj.mk .none none (.fields #[]) #[]
def o399 (P : Params) : Obj := Obj.mk (.type "tuple") none (.seq #[(.str (Str.ofString "_law_script") 695), (.str (Str.ofString "_law_k") 696)] 0) #[]
def o400 (P : Params) : Obj := Obj.mk (.type "tuple") none (.seq #[] 0) #[]
def o401 (P : Params) : Obj := Obj.mk .none none (.func (FuncData.mk (Str.ofString "_law_cell_at") (Str.ofString "_law_cell_at") (defArgs (top 47)) (.stmts (defBody (top 47))) (defScope (top 47)) 0 [] .none .none .none .none none .none .none 0)) #[]
def o402 (P : Params) : Obj := Obj.mk (.type "code") none (.fields #[(.str (Str.ofString "_law_cell_at") 692), (.str (Str.ofString "_law_cell_at") 693), (.str (Str.ofString "/claim/cut.py") 694), (.int 214 0), (.int 2 0), (.int 0 0), (.int 0 0), (.int 3 0), (.ref 370), (.bool true), (.int 181 0), (.ref 371), .none, (.ref 372), (.ref 373), (.ref 374), (.int 697 0), (.int 214 0), (.str (Str.ofString "/claim/cut.py") 698)]) #[]
def o403 (P : Params) : Obj := Obj.mk (.type "function") none (.func (fnOf (Str.ofString "_law_cell_at") (Str.ofString "_law_cell_at") (defArgs (top 47)) (defBody (top 47)) (defScope (top 47)) .none .none .none (.str (Str.ofString "law_rulerow_k07_refused") 690) none (.ref 375) .none)) #[]
def o404 (P : Params) : Obj := Obj.mk (.type "tuple") none (.seq #[] 0) #[]
def o405 (P : Params) : Obj := Obj.mk .none none (.fields #[]) #[]
def o406 (P : Params) : Obj := Obj.mk (.type "tuple") none (.seq #[(.str (Str.ofString "_law_cell") 703), (.str (Str.ofString "_law_k") 704), (.str (Str.ofString "_law_many") 705), (.str (Str.ofString "_law_primes") 706)] 0) #[]
def o407 (P : Params) : Obj := Obj.mk (.type "tuple") none (.seq #[] 0) #[]
def o408 (P : Params) : Obj := Obj.mk .none none (.func (FuncData.mk (Str.ofString "_law_draw") (Str.ofString "_law_draw") (defArgs (top 48)) (.stmts (defBody (top 48))) (defScope (top 48)) 0 [] .none .none .none .none none .none .none 0)) #[]
def o409 (P : Params) : Obj := Obj.mk (.type "code") none (.fields #[(.str (Str.ofString "_law_draw") 700), (.str (Str.ofString "_law_draw") 701), (.str (Str.ofString "/claim/cut.py") 702), (.int 218 0), (.int 3 0), (.int 0 0), (.int 0 0), (.int 3 0), (.ref 377), (.bool true), (.int 181 0), (.ref 378), .none, (.ref 379), (.ref 380), (.ref 381), (.int 707 0), (.int 218 0), (.str (Str.ofString "/claim/cut.py") 708)]) #[]
def o410 (P : Params) : Obj := Obj.mk (.type "function") none (.func (fnOf (Str.ofString "_law_draw") (Str.ofString "_law_draw") (defArgs (top 48)) (defBody (top 48)) (defScope (top 48)) .none .none .none (.str (Str.ofString "law_rulerow_k07_refused") 690) none (.ref 382) .none)) #[]
def o411 (P : Params) : Obj := Obj.mk (.type "tuple") none (.seq #[] 0) #[]
def o412 (P : Params) : Obj := Obj.mk .none none (.fields #[]) #[]
def o413 (P : Params) : Obj := Obj.mk (.type "tuple") none (.seq #[(.str (Str.ofString "_law_script") 713)] 0) #[]
def o414 (P : Params) : Obj := Obj.mk (.type "tuple") none (.seq #[] 0) #[]
def o415 (P : Params) : Obj := Obj.mk .none none (.func (FuncData.mk (Str.ofString "_law_prime") (Str.ofString "_law_prime") (defArgs (top 49)) (.stmts (defBody (top 49))) (defScope (top 49)) 0 [] .none .none .none .none none .none .none 0)) #[]
def o416 (P : Params) : Obj := Obj.mk (.type "code") none (.fields #[(.str (Str.ofString "_law_prime") 710), (.str (Str.ofString "_law_prime") 711), (.str (Str.ofString "/claim/cut.py") 712), (.int 221 0), (.int 1 0), (.int 0 0), (.int 0 0), (.int 3 0), (.ref 384), (.bool true), (.int 181 0), (.ref 385), .none, (.ref 386), (.ref 387), (.ref 388), (.int 714 0), (.int 221 0), (.str (Str.ofString "/claim/cut.py") 715)]) #[]
def o417 (P : Params) : Obj := Obj.mk (.type "function") none (.func (fnOf (Str.ofString "_law_prime") (Str.ofString "_law_prime") (defArgs (top 49)) (defBody (top 49)) (defScope (top 49)) .none .none .none (.str (Str.ofString "law_rulerow_k07_refused") 690) none (.ref 389) .none)) #[]
def o418 (P : Params) : Obj := Obj.mk (.type "tuple") none (.seq #[] 0) #[]
def o419 (P : Params) : Obj := Obj.mk .none none (.fields #[]) #[]
def o420 (P : Params) : Obj := Obj.mk .none none (.func (FuncData.mk (Str.ofString "_law_rests") (Str.ofString "_law_rests") (defArgs (top 50)) (.stmts (defBody (top 50))) (defScope (top 50)) 0 [] .none .none .none .none none .none .none 0)) #[]
def o421 (P : Params) : Obj := Obj.mk (.type "code") none (.fields #[(.str (Str.ofString "_law_rests") 717), (.str (Str.ofString "_law_rests") 718), (.str (Str.ofString "/claim/cut.py") 719), (.int 223 0), (.int 4 0), (.int 0 0), (.int 0 0), (.int 3 0), (.ref 391), (.bool true), (.int 181 0), (.ref 392), .none, .none, .none, (.ref 393), (.int 720 0), (.int 223 0), (.str (Str.ofString "/claim/cut.py") 721)]) #[]
def o422 (P : Params) : Obj := Obj.mk (.type "function") none (.func (fnOf (Str.ofString "_law_rests") (Str.ofString "_law_rests") (defArgs (top 50)) (defBody (top 50)) (defScope (top 50)) .none .none .none (.str (Str.ofString "law_rulerow_k07_refused") 690) none (.ref 394) .none)) #[]
def o423 (P : Params) : Obj := Obj.mk (.type "tuple") none (.seq #[] 0) #[]
def o424 (P : Params) : Obj := Obj.mk .none none (.fields #[]) #[]
def o425 (P : Params) : Obj := Obj.mk .none none (.func (FuncData.mk (Str.ofString "_law_row") (Str.ofString "_law_row") (defArgs (top 51)) (.stmts (defBody (top 51))) (defScope (top 51)) 0 [] .none .none .none .none none .none .none 0)) #[]
def o426 (P : Params) : Obj := Obj.mk (.type "code") none (.fields #[(.str (Str.ofString "_law_row") 723), (.str (Str.ofString "_law_row") 724), (.str (Str.ofString "/claim/cut.py") 725), (.int 225 0), (.int 2 0), (.int 0 0), (.int 0 0), (.int 3 0), (.ref 396), (.bool true), (.int 181 0), (.ref 397), .none, .none, .none, (.ref 398), (.int 726 0), (.int 225 0), (.str (Str.ofString "/claim/cut.py") 727)]) #[]
def o427 (P : Params) : Obj := Obj.mk (.type "function") none (.func (fnOf (Str.ofString "_law_row") (Str.ofString "_law_row") (defArgs (top 51)) (defBody (top 51)) (defScope (top 51)) .none .none .none (.str (Str.ofString "law_rulerow_k07_refused") 690) none (.ref 399) .none)) #[]
def o428 (P : Params) : Obj := Obj.mk (.type "tuple") none (.seq #[] 0) #[]
def o429 (P : Params) : Obj := Obj.mk .none none (.fields #[]) #[]
def o430 (P : Params) : Obj := Obj.mk .none none (.func (FuncData.mk (Str.ofString "_law_due") (Str.ofString "_law_due") (defArgs (top 52)) (.stmts (defBody (top 52))) (defScope (top 52)) 0 [] .none .none .none .none none .none .none 0)) #[]
def o431 (P : Params) : Obj := Obj.mk (.type "code") none (.fields #[(.str (Str.ofString "_law_due") 729), (.str (Str.ofString "_law_due") 730), (.str (Str.ofString "/claim/cut.py") 731), (.int 235 0), (.int 4 0), (.int 0 0), (.int 0 0), (.int 3 0), (.ref 401), (.bool true), (.int 181 0), (.ref 402), .none, .none, .none, (.ref 403), (.int 732 0), (.int 235 0), (.str (Str.ofString "/claim/cut.py") 733)]) #[]
def o432 (P : Params) : Obj := Obj.mk (.type "function") none (.func (fnOf (Str.ofString "_law_due") (Str.ofString "_law_due") (defArgs (top 52)) (defBody (top 52)) (defScope (top 52)) .none .none .none (.str (Str.ofString "law_rulerow_k07_refused") 690) none (.ref 404) .none)) #[]
def o433 (P : Params) : Obj := Obj.mk (.type "tuple") none (.seq #[] 0) #[]
def o434 (P : Params) : Obj := Obj.mk .none none (.fields #[]) #[]
def o435 (P : Params) : Obj := Obj.mk .none none (.func (FuncData.mk (Str.ofString "_law_made") (Str.ofString "_law_made") (defArgs (top 53)) (.stmts (defBody (top 53))) (defScope (top 53)) 0 [] .none .none .none .none none .none .none 0)) #[]
def o436 (P : Params) : Obj := Obj.mk (.type "code") none (.fields #[(.str (Str.ofString "_law_made") 735), (.str (Str.ofString "_law_made") 736), (.str (Str.ofString "/claim/cut.py") 737), (.int 237 0), (.int 3 0), (.int 0 0), (.int 0 0), (.int 3 0), (.ref 406), (.bool true), (.int 181 0), (.ref 407), .none, .none, .none, (.ref 408), (.int 738 0), (.int 237 0), (.str (Str.ofString "/claim/cut.py") 739)]) #[]
def o437 (P : Params) : Obj := Obj.mk (.type "function") none (.func (fnOf (Str.ofString "_law_made") (Str.ofString "_law_made") (defArgs (top 53)) (defBody (top 53)) (defScope (top 53)) .none .none .none (.str (Str.ofString "law_rulerow_k07_refused") 690) none (.ref 409) .none)) #[]
def o438 (P : Params) : Obj := Obj.mk (.type "tuple") none (.seq #[] 0) #[]
def o439 (P : Params) : Obj := Obj.mk .none none (.fields #[]) #[]
def o440 (P : Params) : Obj := Obj.mk .none none (.func (FuncData.mk (Str.ofString "_law_rested") (Str.ofString "_law_rested") (defArgs (top 54)) (.stmts (defBody (top 54))) (defScope (top 54)) 0 [] .none .none .none .none none .none .none 0)) #[]
def o441 (P : Params) : Obj := Obj.mk (.type "code") none (.fields #[(.str (Str.ofString "_law_rested") 741), (.str (Str.ofString "_law_rested") 742), (.str (Str.ofString "/claim/cut.py") 743), (.int 239 0), (.int 2 0), (.int 0 0), (.int 0 0), (.int 3 0), (.ref 411), (.bool true), (.int 181 0), (.ref 412), .none, .none, .none, (.ref 413), (.int 744 0), (.int 239 0), (.str (Str.ofString "/claim/cut.py") 745)]) #[]
def o442 (P : Params) : Obj := Obj.mk (.type "function") none (.func (fnOf (Str.ofString "_law_rested") (Str.ofString "_law_rested") (defArgs (top 54)) (defBody (top 54)) (defScope (top 54)) .none .none .none (.str (Str.ofString "law_rulerow_k07_refused") 690) none (.ref 414) .none)) #[]
def o443 (P : Params) : Obj := Obj.mk (.type "tuple") none (.seq #[] 0) #[]
def o444 (P : Params) : Obj := Obj.mk .none none (.fields #[]) #[]
def o445 (P : Params) : Obj := Obj.mk (.type "tuple") none (.seq #[(.str (Str.ofString "_law_prime_here") 750), (.str (Str.ofString "_law_row_here") 751), (.str (Str.ofString "_law_rule") 752), (.str (Str.ofString "_law_shorter") 753), (.str (Str.ofString "_law_place") 754)] 0) #[]
def o446 (P : Params) : Obj := Obj.mk (.type "tuple") none (.seq #[] 0) #[]
def o447 (P : Params) : Obj := Obj.mk .none none (.func (FuncData.mk (Str.ofString "_law_least") (Str.ofString "_law_least") (defArgs (top 55)) (.stmts (defBody (top 55))) (defScope (top 55)) 0 [] .none .none .none .none none .none .none 0)) #[]
def o448 (P : Params) : Obj := Obj.mk (.type "code") none (.fields #[(.str (Str.ofString "_law_least") 747), (.str (Str.ofString "_law_least") 748), (.str (Str.ofString "/claim/cut.py") 749), (.int 243 0), (.int 5 0), (.int 0 0), (.int 0 0), (.int 3 0), (.ref 416), (.bool true), (.int 181 0), (.ref 417), .none, (.ref 418), (.ref 419), (.ref 420), (.int 755 0), (.int 243 0), (.str (Str.ofString "/claim/cut.py") 756)]) #[]
def o449 (P : Params) : Obj := Obj.mk (.type "function") none (.func (fnOf (Str.ofString "_law_least") (Str.ofString "_law_least") (defArgs (top 55)) (defBody (top 55)) (defScope (top 55)) .none .none .none (.str (Str.ofString "law_rulerow_k07_refused") 690) none (.ref 421) .none)) #[]
def o450 (P : Params) : Obj := Obj.mk (.type "tuple") none (.seq #[] 0) #[]
def o451 (P : Params) : Obj := Obj.mk .none none (.fields #[]) #[]
def o452 (P : Params) : Obj := Obj.mk (.type "tuple") none (.seq #[(.str (Str.ofString "_law_error") 761), (.str (Str.ofString "_law_found") 762)] 0) #[]
def o453 (P : Params) : Obj := Obj.mk (.type "tuple") none (.seq #[] 0) #[]
def o454 (P : Params) : Obj := Obj.mk .none none (.func (FuncData.mk (Str.ofString "_law_kinds") (Str.ofString "_law_kinds") (defArgs (top 56)) (.stmts (defBody (top 56))) (defScope (top 56)) 0 [] .none .none .none .none none .none .none 0)) #[]
def o455 (P : Params) : Obj := Obj.mk (.type "code") none (.fields #[(.str (Str.ofString "_law_kinds") 758), (.str (Str.ofString "_law_kinds") 759), (.str (Str.ofString "/claim/cut.py") 760), (.int 251 0), (.int 1 0), (.int 0 0), (.int 0 0), (.int 3 0), (.ref 423), (.bool true), (.int 181 0), (.ref 424), .none, (.ref 425), (.ref 426), (.ref 427), (.int 763 0), (.int 251 0), (.str (Str.ofString "/claim/cut.py") 764)]) #[]
def o456 (P : Params) : Obj := Obj.mk (.type "function") none (.func (fnOf (Str.ofString "_law_kinds") (Str.ofString "_law_kinds") (defArgs (top 56)) (defBody (top 56)) (defScope (top 56)) .none .none .none (.str (Str.ofString "law_rulerow_k07_refused") 690) none (.ref 428) .none)) #[]
def o457 (P : Params) : Obj := Obj.mk (.type "tuple") none (.seq #[] 0) #[]
def o458 (P : Params) : Obj := Obj.mk .none none (.fields #[]) #[]
def o459 (P : Params) : Obj := Obj.mk (.type "tuple") none (.seq #[(.str (Str.ofString "_law_door") 769), (.str (Str.ofString "_law_prime_here") 770)] 0) #[]
def o460 (P : Params) : Obj := Obj.mk (.type "tuple") none (.seq #[] 0) #[]
def o461 (P : Params) : Obj := Obj.mk .none none (.func (FuncData.mk (Str.ofString "_law_with_prime") (Str.ofString "_law_with_prime") (defArgs (top 57)) (.stmts (defBody (top 57))) (defScope (top 57)) 0 [] .none .none .none .none none .none .none 0)) #[]
def o462 (P : Params) : Obj := Obj.mk (.type "code") none (.fields #[(.str (Str.ofString "_law_with_prime") 766), (.str (Str.ofString "_law_with_prime") 767), (.str (Str.ofString "/claim/cut.py") 768), (.int 255 0), (.int 2 0), (.int 0 0), (.int 0 0), (.int 3 0), (.ref 430), (.bool true), (.int 181 0), (.ref 431), .none, (.ref 432), (.ref 433), (.ref 434), (.int 771 0), (.int 255 0), (.str (Str.ofString "/claim/cut.py") 772)]) #[]
def o463 (P : Params) : Obj := Obj.mk (.type "function") none (.func (fnOf (Str.ofString "_law_with_prime") (Str.ofString "_law_with_prime") (defArgs (top 57)) (defBody (top 57)) (defScope (top 57)) .none .none .none (.str (Str.ofString "law_rulerow_k07_refused") 690) none (.ref 435) .none)) #[]
def o464 (P : Params) : Obj := Obj.mk (.type "dict") none (.dict #[⟨PyData.keyHash P (Str.ofString "__name__"), (.str (Str.ofString "__name__") 165), (.str (Str.ofString "law_rulerow_k07_refused") 690)⟩, ⟨PyData.keyHash P (Str.ofString "__doc__"), (.str (Str.ofString "__doc__") 166), .none⟩, ⟨PyData.keyHash P (Str.ofString "__package__"), (.str (Str.ofString "__package__") 167), .none⟩, ⟨PyData.keyHash P (Str.ofString "__loader__"), (.str (Str.ofString "__loader__") 168), (.builtin "__main__.__loader__#opaque")⟩, ⟨PyData.keyHash P (Str.ofString "__spec__"), (.str (Str.ofString "__spec__") 169), .none⟩, ⟨PyData.keyHash P (Str.ofString "__annotations__"), (.str (Str.ofString "__annotations__") 170), (.ref 6)⟩, ⟨PyData.keyHash P (Str.ofString "__builtins__"), (.str (Str.ofString "__builtins__") 171), (.ref 4)⟩, ⟨PyData.keyHash P (Str.ofString "__file__"), (.str (Str.ofString "__file__") 173), (.str (Str.ofString "/claim/cut.py") 172)⟩, ⟨PyData.keyHash P (Str.ofString "__cached__"), (.str (Str.ofString "__cached__") 174), .none⟩, ⟨PyData.keyHash P (Str.ofString "_wall"), (.str (Str.ofString "_wall") 193), (.ref 21)⟩, ⟨PyData.keyHash P (Str.ofString "RuleError"), (.str (Str.ofString "RuleError") 213), (.ref 31)⟩, ⟨PyData.keyHash P (Str.ofString "BadPrime"), (.str (Str.ofString "BadPrime") 229), (.ref 44)⟩, ⟨PyData.keyHash P (Str.ofString "BadRow"), (.str (Str.ofString "BadRow") 245), (.ref 56)⟩, ⟨PyData.keyHash P (Str.ofString "BadRule"), (.str (Str.ofString "BadRule") 261), (.ref 68)⟩, ⟨PyData.keyHash P (Str.ofString "BadPlace"), (.str (Str.ofString "BadPlace") 277), (.ref 80)⟩, ⟨PyData.keyHash P (Str.ofString "TooFew"), (.str (Str.ofString "TooFew") 293), (.ref 92)⟩, ⟨PyData.keyHash P (Str.ofString "NoWay"), (.str (Str.ofString "NoWay") 309), (.ref 104)⟩, ⟨PyData.keyHash P (Str.ofString "BadText"), (.str (Str.ofString "BadText") 325), (.ref 116)⟩, ⟨PyData.keyHash P (Str.ofString "LOWEST_PRIME"), (.str (Str.ofString "LOWEST_PRIME") 329), (.int 2 328)⟩, ⟨PyData.keyHash P (Str.ofString "HIGHEST_PRIME"), (.str (Str.ofString "HIGHEST_PRIME") 331), (.int 997 330)⟩, ⟨PyData.keyHash P (Str.ofString "is_whole"), (.str (Str.ofString "is_whole") 338), (.ref 125)⟩, ⟨PyData.keyHash P (Str.ofString "is_prime"), (.str (Str.ofString "is_prime") 346), (.ref 132)⟩, ⟨PyData.keyHash P (Str.ofString "is_rest"), (.str (Str.ofString "is_rest") 354), (.ref 139)⟩, ⟨PyData.keyHash P (Str.ofString "are_rests"), (.str (Str.ofString "are_rests") 363), (.ref 146)⟩, ⟨PyData.keyHash P (Str.ofString "need_prime"), (.str (Str.ofString "need_prime") 370), (.ref 153)⟩, ⟨PyData.keyHash P (Str.ofString "need_rule"), (.str (Str.ofString "need_rule") 378), (.ref 160)⟩, ⟨PyData.keyHash P (Str.ofString "need_row"), (.str (Str.ofString "need_row") 386), (.ref 167)⟩, ⟨PyData.keyHash P (Str.ofString "inverse"), (.str (Str.ofString "inverse") 397), (.ref 174)⟩, ⟨PyData.keyHash P (Str.ofString "makes"), (.str (Str.ofString "makes") 409), (.ref 181)⟩, ⟨PyData.keyHash P (Str.ofString "go_on"), (.str (Str.ofString "go_on") 421), (.ref 188)⟩, ⟨PyData.keyHash P (Str.ofString "far"), (.str (Str.ofString "far") 432), (.ref 195)⟩, ⟨PyData.keyHash P (Str.ofString "both"), (.str (Str.ofString "both") 438), (.ref 200)⟩, ⟨PyData.keyHash P (Str.ofString "backwards"), (.str (Str.ofString "backwards") 444), (.ref 205)⟩, ⟨PyData.keyHash P (Str.ofString "need_start"), (.str (Str.ofString "need_start") 453), (.ref 212)⟩, ⟨PyData.keyHash P (Str.ofString "need_count"), (.str (Str.ofString "need_count") 460), (.ref 219)⟩, ⟨PyData.keyHash P (Str.ofString "due"), (.str (Str.ofString "due") 466), (.ref 224)⟩, ⟨PyData.keyHash P (Str.ofString "polynomial"), (.str (Str.ofString "polynomial") 472), (.ref 229)⟩, ⟨PyData.keyHash P (Str.ofString "mirrored"), (.str (Str.ofString "mirrored") 478), (.ref 234)⟩, ⟨PyData.keyHash P (Str.ofString "product_at"), (.str (Str.ofString "product_at") 484), (.ref 239)⟩, ⟨PyData.keyHash P (Str.ofString "number_at"), (.str (Str.ofString "number_at") 490), (.ref 244)⟩, ⟨PyData.keyHash P (Str.ofString "Answer"), (.str (Str.ofString "Answer") 512), (.ref 254)⟩, ⟨PyData.keyHash P (Str.ofString "Least"), (.str (Str.ofString "Least") 550), (.ref 282)⟩, ⟨PyData.keyHash P (Str.ofString "Only"), (.str (Str.ofString "Only") 588), (.ref 308)⟩, ⟨PyData.keyHash P (Str.ofString "Another"), (.str (Str.ofString "Another") 628), (.ref 334)⟩, ⟨PyData.keyHash P (Str.ofString "is_sole"), (.str (Str.ofString "is_sole") 636), (.ref 343)⟩, ⟨PyData.keyHash P (Str.ofString "least"), (.str (Str.ofString "least") 655), (.ref 350)⟩, ⟨PyData.keyHash P (Str.ofString "unlike"), (.str (Str.ofString "unlike") 666), (.ref 357)⟩, ⟨PyData.keyHash P (Str.ofString "mixed"), (.str (Str.ofString "mixed") 681), (.ref 364)⟩, ⟨PyData.keyHash P (Str.ofString "written"), (.str (Str.ofString "written") 689), (.ref 369)⟩, ⟨PyData.keyHash P (Str.ofString "_law_cell_at"), (.str (Str.ofString "_law_cell_at") 699), (.ref 376)⟩, ⟨PyData.keyHash P (Str.ofString "_law_draw"), (.str (Str.ofString "_law_draw") 709), (.ref 383)⟩, ⟨PyData.keyHash P (Str.ofString "_law_prime"), (.str (Str.ofString "_law_prime") 716), (.ref 390)⟩, ⟨PyData.keyHash P (Str.ofString "_law_rests"), (.str (Str.ofString "_law_rests") 722), (.ref 395)⟩, ⟨PyData.keyHash P (Str.ofString "_law_row"), (.str (Str.ofString "_law_row") 728), (.ref 400)⟩, ⟨PyData.keyHash P (Str.ofString "_law_due"), (.str (Str.ofString "_law_due") 734), (.ref 405)⟩, ⟨PyData.keyHash P (Str.ofString "_law_made"), (.str (Str.ofString "_law_made") 740), (.ref 410)⟩, ⟨PyData.keyHash P (Str.ofString "_law_rested"), (.str (Str.ofString "_law_rested") 746), (.ref 415)⟩, ⟨PyData.keyHash P (Str.ofString "_law_least"), (.str (Str.ofString "_law_least") 757), (.ref 422)⟩, ⟨PyData.keyHash P (Str.ofString "_law_kinds"), (.str (Str.ofString "_law_kinds") 765), (.ref 429)⟩, ⟨PyData.keyHash P (Str.ofString "_law_with_prime"), (.str (Str.ofString "_law_with_prime") 773), (.ref 436)⟩, ⟨PyData.keyHash P (Str.ofString "_law_more"), (.str (Str.ofString "_law_more") 781), (.ref 443)⟩, ⟨PyData.keyHash P (Str.ofString "_law_with_rule"), (.str (Str.ofString "_law_with_rule") 789), (.ref 450)⟩, ⟨PyData.keyHash P (Str.ofString "_law_with_row"), (.str (Str.ofString "_law_with_row") 797), (.ref 457)⟩, ⟨PyData.keyHash P (Str.ofString "_law_with_few"), (.str (Str.ofString "_law_with_few") 805), (.ref 464)⟩, ⟨PyData.keyHash P (Str.ofString "_law_with_place"), (.str (Str.ofString "_law_with_place") 813), (.ref 471)⟩, ⟨PyData.keyHash P (Str.ofString "_law_told"), (.str (Str.ofString "_law_told") 823), (.ref 478)⟩, ⟨PyData.keyHash P (Str.ofString "_law_all"), (.str (Str.ofString "_law_all") 829), (.ref 483)⟩, ⟨PyData.keyHash P (Str.ofString "law"), (.str (Str.ofString "law") 846), (.ref 490)⟩] 68) #[]
def o465 (P : Params) : Obj := Obj.mk .none none (.fields #[(.int 1 0), (.int 0 0), (.ref 20), (.int 5 0), (.int 0 0), (.ref 27), (.int 7 0), (.int 0 0), (.ref 40), (.int 9 0), (.int 0 0), (.ref 52), (.int 11 0), (.int 0 0), (.ref 64), (.int 13 0), (.int 0 0), (.ref 76), (.int 15 0), (.int 0 0), (.ref 88), (.int 17 0), (.int 0 0), (.ref 100), (.int 19 0), (.int 0 0), (.ref 112), (.int 24 0), (.int 0 0), (.ref 124), (.int 26 0), (.int 0 0), (.ref 131), (.int 35 0), (.int 0 0), (.ref 138), (.int 37 0), (.int 0 0), (.ref 145), (.int 44 0), (.int 0 0), (.ref 152), (.int 47 0), (.int 0 0), (.ref 159), (.int 50 0), (.int 0 0), (.ref 166), (.int 53 0), (.int 0 0), (.ref 173), (.int 64 0), (.int 0 0), (.ref 180), (.int 72 0), (.int 0 0), (.ref 187), (.int 80 0), (.int 0 0), (.ref 194), (.int 89 0), (.int 0 0), (.ref 199), (.int 97 0), (.int 0 0), (.ref 204), (.int 108 0), (.int 0 0), (.ref 211), (.int 114 0), (.int 0 0), (.ref 218), (.int 117 0), (.int 0 0), (.ref 223), (.int 120 0), (.int 0 0), (.ref 228), (.int 122 0), (.int 0 0), (.ref 233), (.int 124 0), (.int 0 0), (.ref 238), (.int 130 0), (.int 0 0), (.ref 243), (.int 142 0), (.int 0 0), (.ref 250), (.int 144 0), (.int 0 0), (.ref 264), (.int 153 0), (.int 0 0), (.ref 290), (.int 162 0), (.int 0 0), (.ref 316), (.int 172 0), (.int 0 0), (.ref 342), (.int 175 0), (.int 0 0), (.ref 349), (.int 194 0), (.int 0 0), (.ref 356), (.int 201 0), (.int 0 0), (.ref 363), (.int 209 0), (.int 0 0), (.ref 368), (.int 214 0), (.int 0 0), (.ref 375), (.int 218 0), (.int 0 0), (.ref 382), (.int 221 0), (.int 0 0), (.ref 389), (.int 223 0), (.int 0 0), (.ref 394), (.int 225 0), (.int 0 0), (.ref 399), (.int 235 0), (.int 0 0), (.ref 404), (.int 237 0), (.int 0 0), (.ref 409), (.int 239 0), (.int 0 0), (.ref 414), (.int 243 0), (.int 0 0), (.ref 421), (.int 251 0), (.int 0 0), (.ref 428), (.int 255 0), (.int 0 0), (.ref 435), (.int 261 0), (.int 0 0), (.ref 442), (.int 263 0), (.int 0 0), (.ref 449), (.int 269 0), (.int 0 0), (.ref 456), (.int 273 0), (.int 0 0), (.ref 463), (.int 275 0), (.int 0 0), (.ref 470), (.int 277 0), (.int 0 0), (.ref 477), (.int 283 0), (.int 0 0), (.ref 482), (.int 288 0), (.int 0 0), (.ref 489)]) #[]
def o466 (P : Params) : Obj := Obj.mk (.type "tuple") none (.seq #[] 0) #[]
def o467 (P : Params) : Obj := Obj.mk .none none (.fields #[]) #[]
def o468 (P : Params) : Obj := Obj.mk (.type "tuple") none (.seq #[(.str (Str.ofString "_law_door") 777), (.str (Str.ofString "_law_prime_here") 778)] 0) #[]
def o469 (P : Params) : Obj := Obj.mk (.type "tuple") none (.seq #[] 0) #[]
def o470 (P : Params) : Obj := Obj.mk .none none (.func (FuncData.mk (Str.ofString "_law_more") (Str.ofString "_law_more") (defArgs (top 58)) (.stmts (defBody (top 58))) (defScope (top 58)) 0 [] .none .none .none .none none .none .none 0)) #[]
def o471 (P : Params) : Obj := Obj.mk (.type "code") none (.fields #[(.str (Str.ofString "_law_more") 774), (.str (Str.ofString "_law_more") 775), (.str (Str.ofString "/claim/cut.py") 776), (.int 261 0), (.int 2 0), (.int 0 0), (.int 0 0), (.int 3 0), (.ref 437), (.bool true), (.int 181 0), (.ref 438), .none, (.ref 439), (.ref 440), (.ref 441), (.int 779 0), (.int 261 0), (.str (Str.ofString "/claim/cut.py") 780)]) #[]
def o472 (P : Params) : Obj := Obj.mk (.type "function") none (.func (fnOf (Str.ofString "_law_more") (Str.ofString "_law_more") (defArgs (top 58)) (defBody (top 58)) (defScope (top 58)) .none .none .none (.str (Str.ofString "law_rulerow_k07_refused") 690) none (.ref 442) .none)) #[]
def o473 (P : Params) : Obj := Obj.mk (.type "tuple") none (.seq #[] 0) #[]
def o474 (P : Params) : Obj := Obj.mk .none none (.fields #[]) #[]
def o475 (P : Params) : Obj := Obj.mk (.type "tuple") none (.seq #[(.str (Str.ofString "_law_door") 785), (.str (Str.ofString "_law_rule") 786)] 0) #[]
def o476 (P : Params) : Obj := Obj.mk (.type "tuple") none (.seq #[] 0) #[]
def o477 (P : Params) : Obj := Obj.mk .none none (.func (FuncData.mk (Str.ofString "_law_with_rule") (Str.ofString "_law_with_rule") (defArgs (top 59)) (.stmts (defBody (top 59))) (defScope (top 59)) 0 [] .none .none .none .none none .none .none 0)) #[]
def o478 (P : Params) : Obj := Obj.mk (.type "code") none (.fields #[(.str (Str.ofString "_law_with_rule") 782), (.str (Str.ofString "_law_with_rule") 783), (.str (Str.ofString "/claim/cut.py") 784), (.int 263 0), (.int 2 0), (.int 0 0), (.int 0 0), (.int 3 0), (.ref 444), (.bool true), (.int 181 0), (.ref 445), .none, (.ref 446), (.ref 447), (.ref 448), (.int 787 0), (.int 263 0), (.str (Str.ofString "/claim/cut.py") 788)]) #[]
def o479 (P : Params) : Obj := Obj.mk (.type "function") none (.func (fnOf (Str.ofString "_law_with_rule") (Str.ofString "_law_with_rule") (defArgs (top 59)) (defBody (top 59)) (defScope (top 59)) .none .none .none (.str (Str.ofString "law_rulerow_k07_refused") 690) none (.ref 449) .none)) #[]
def o480 (P : Params) : Obj := Obj.mk (.type "tuple") none (.seq #[] 0) #[]
def o481 (P : Params) : Obj := Obj.mk .none none (.fields #[]) #[]
def o482 (P : Params) : Obj := Obj.mk (.type "tuple") none (.seq #[(.str (Str.ofString "_law_door") 793), (.str (Str.ofString "_law_row_here") 794)] 0) #[]
def o483 (P : Params) : Obj := Obj.mk (.type "tuple") none (.seq #[] 0) #[]
def o484 (P : Params) : Obj := Obj.mk .none none (.func (FuncData.mk (Str.ofString "_law_with_row") (Str.ofString "_law_with_row") (defArgs (top 60)) (.stmts (defBody (top 60))) (defScope (top 60)) 0 [] .none .none .none .none none .none .none 0)) #[]
def o485 (P : Params) : Obj := Obj.mk (.type "code") none (.fields #[(.str (Str.ofString "_law_with_row") 790), (.str (Str.ofString "_law_with_row") 791), (.str (Str.ofString "/claim/cut.py") 792), (.int 269 0), (.int 2 0), (.int 0 0), (.int 0 0), (.int 3 0), (.ref 451), (.bool true), (.int 181 0), (.ref 452), .none, (.ref 453), (.ref 454), (.ref 455), (.int 795 0), (.int 269 0), (.str (Str.ofString "/claim/cut.py") 796)]) #[]
def o486 (P : Params) : Obj := Obj.mk (.type "function") none (.func (fnOf (Str.ofString "_law_with_row") (Str.ofString "_law_with_row") (defArgs (top 60)) (defBody (top 60)) (defScope (top 60)) .none .none .none (.str (Str.ofString "law_rulerow_k07_refused") 690) none (.ref 456) .none)) #[]
def o487 (P : Params) : Obj := Obj.mk (.type "tuple") none (.seq #[] 0) #[]
def o488 (P : Params) : Obj := Obj.mk .none none (.fields #[]) #[]
def o489 (P : Params) : Obj := Obj.mk (.type "tuple") none (.seq #[(.str (Str.ofString "_law_door") 801), (.str (Str.ofString "_law_row_here") 802)] 0) #[]
def o490 (P : Params) : Obj := Obj.mk (.type "tuple") none (.seq #[] 0) #[]
def o491 (P : Params) : Obj := Obj.mk .none none (.func (FuncData.mk (Str.ofString "_law_with_few") (Str.ofString "_law_with_few") (defArgs (top 61)) (.stmts (defBody (top 61))) (defScope (top 61)) 0 [] .none .none .none .none none .none .none 0)) #[]
def o492 (P : Params) : Obj := Obj.mk (.type "code") none (.fields #[(.str (Str.ofString "_law_with_few") 798), (.str (Str.ofString "_law_with_few") 799), (.str (Str.ofString "/claim/cut.py") 800), (.int 273 0), (.int 2 0), (.int 0 0), (.int 0 0), (.int 3 0), (.ref 458), (.bool true), (.int 181 0), (.ref 459), .none, (.ref 460), (.ref 461), (.ref 462), (.int 803 0), (.int 273 0), (.str (Str.ofString "/claim/cut.py") 804)]) #[]
def o493 (P : Params) : Obj := Obj.mk (.type "function") none (.func (fnOf (Str.ofString "_law_with_few") (Str.ofString "_law_with_few") (defArgs (top 61)) (defBody (top 61)) (defScope (top 61)) .none .none .none (.str (Str.ofString "law_rulerow_k07_refused") 690) none (.ref 463) .none)) #[]
def o494 (P : Params) : Obj := Obj.mk (.type "tuple") none (.seq #[] 0) #[]
def o495 (P : Params) : Obj := Obj.mk .none none (.fields #[]) #[]
def o496 (P : Params) : Obj := Obj.mk (.type "tuple") none (.seq #[(.str (Str.ofString "_law_door") 809), (.str (Str.ofString "_law_place") 810)] 0) #[]
def o497 (P : Params) : Obj := Obj.mk (.type "tuple") none (.seq #[] 0) #[]
def o498 (P : Params) : Obj := Obj.mk .none none (.func (FuncData.mk (Str.ofString "_law_with_place") (Str.ofString "_law_with_place") (defArgs (top 62)) (.stmts (defBody (top 62))) (defScope (top 62)) 0 [] .none .none .none .none none .none .none 0)) #[]
def o499 (P : Params) : Obj := Obj.mk (.type "code") none (.fields #[(.str (Str.ofString "_law_with_place") 806), (.str (Str.ofString "_law_with_place") 807), (.str (Str.ofString "/claim/cut.py") 808), (.int 275 0), (.int 2 0), (.int 0 0), (.int 0 0), (.int 3 0), (.ref 465), (.bool true), (.int 181 0), (.ref 466), .none, (.ref 467), (.ref 468), (.ref 469), (.int 811 0), (.int 275 0), (.str (Str.ofString "/claim/cut.py") 812)]) #[]
def o500 (P : Params) : Obj := Obj.mk (.type "function") none (.func (fnOf (Str.ofString "_law_with_place") (Str.ofString "_law_with_place") (defArgs (top 62)) (defBody (top 62)) (defScope (top 62)) .none .none .none (.str (Str.ofString "law_rulerow_k07_refused") 690) none (.ref 470) .none)) #[]
def o501 (P : Params) : Obj := Obj.mk (.type "tuple") none (.seq #[] 0) #[]
def o502 (P : Params) : Obj := Obj.mk .none none (.fields #[]) #[]
def o503 (P : Params) : Obj := Obj.mk (.type "tuple") none (.seq #[(.str (Str.ofString "_law_ask") 817), (.str (Str.ofString "_law_one") 818), (.str (Str.ofString "_law_other") 819), (.str (Str.ofString "_law_error") 820)] 0) #[]
def o504 (P : Params) : Obj := Obj.mk (.type "tuple") none (.seq #[] 0) #[]
def o505 (P : Params) : Obj := Obj.mk .none none (.func (FuncData.mk (Str.ofString "_law_told") (Str.ofString "_law_told") (defArgs (top 63)) (.stmts (defBody (top 63))) (defScope (top 63)) 0 [] .none .none .none .none none .none .none 0)) #[]
def o506 (P : Params) : Obj := Obj.mk (.type "code") none (.fields #[(.str (Str.ofString "_law_told") 814), (.str (Str.ofString "_law_told") 815), (.str (Str.ofString "/claim/cut.py") 816), (.int 277 0), (.int 3 0), (.int 0 0), (.int 0 0), (.int 3 0), (.ref 472), (.bool true), (.int 181 0), (.ref 473), .none, (.ref 474), (.ref 475), (.ref 476), (.int 821 0), (.int 277 0), (.str (Str.ofString "/claim/cut.py") 822)]) #[]
def o507 (P : Params) : Obj := Obj.mk (.type "function") none (.func (fnOf (Str.ofString "_law_told") (Str.ofString "_law_told") (defArgs (top 63)) (defBody (top 63)) (defScope (top 63)) .none .none .none (.str (Str.ofString "law_rulerow_k07_refused") 690) none (.ref 477) .none)) #[]
def o508 (P : Params) : Obj := Obj.mk (.type "tuple") none (.seq #[] 0) #[]
def o509 (P : Params) : Obj := Obj.mk .none none (.fields #[]) #[]
def o510 (P : Params) : Obj := Obj.mk .none none (.func (FuncData.mk (Str.ofString "_law_all") (Str.ofString "_law_all") (defArgs (top 64)) (.stmts (defBody (top 64))) (defScope (top 64)) 0 [] .none .none .none .none none .none .none 0)) #[]
def o511 (P : Params) : Obj := Obj.mk (.type "code") none (.fields #[(.str (Str.ofString "_law_all") 824), (.str (Str.ofString "_law_all") 825), (.str (Str.ofString "/claim/cut.py") 826), (.int 283 0), (.int 4 0), (.int 0 0), (.int 0 0), (.int 3 0), (.ref 479), (.bool true), (.int 181 0), (.ref 480), .none, .none, .none, (.ref 481), (.int 827 0), (.int 283 0), (.str (Str.ofString "/claim/cut.py") 828)]) #[]
def o512 (P : Params) : Obj := Obj.mk (.type "function") none (.func (fnOf (Str.ofString "_law_all") (Str.ofString "_law_all") (defArgs (top 64)) (defBody (top 64)) (defScope (top 64)) .none .none .none (.str (Str.ofString "law_rulerow_k07_refused") 690) none (.ref 482) .none)) #[]
def o513 (P : Params) : Obj := Obj.mk (.type "tuple") none (.seq #[] 0) #[]
def o514 (P : Params) : Obj := Obj.mk .none none (.fields #[]) #[]
def o515 (P : Params) : Obj := Obj.mk (.type "tuple") none (.seq #[(.str (Str.ofString "_law_script") 833), (.str (Str.ofString "_law_far_one") 834), (.str (Str.ofString "_law_due_here") 835), (.str (Str.ofString "_law_k") 836), (.str (Str.ofString "_law_primes") 837), (.str (Str.ofString "_law_row_here") 838), (.str (Str.ofString "_law_kept") 839), (.str (Str.ofString "_law_many") 840), (.str (Str.ofString "_law_bad") 841), (.str (Str.ofString "_law_at") 842), (.str (Str.ofString "_law_rule") 843)] 0) #[]
def o516 (P : Params) : Obj := Obj.mk (.type "tuple") none (.seq #[] 0) #[]
def o517 (P : Params) : Obj := Obj.mk .none none (.func (FuncData.mk (Str.ofString "law") (Str.ofString "law") (defArgs (top 65)) (.stmts (defBody (top 65))) (defScope (top 65)) 0 [] .none .none .none .none none .none .none 0)) #[]
def o518 (P : Params) : Obj := Obj.mk (.type "code") none (.fields #[(.str (Str.ofString "law") 830), (.str (Str.ofString "law") 831), (.str (Str.ofString "/claim/cut.py") 832), (.int 288 0), (.int 1 0), (.int 0 0), (.int 0 0), (.int 3 0), (.ref 484), (.bool true), (.int 181 0), (.ref 485), .none, (.ref 486), (.ref 487), (.ref 488), (.int 844 0), (.int 288 0), (.str (Str.ofString "/claim/cut.py") 845)]) #[]
def o519 (P : Params) : Obj := Obj.mk (.type "function") none (.func (fnOf (Str.ofString "law") (Str.ofString "law") (defArgs (top 65)) (defBody (top 65)) (defScope (top 65)) .none .none .none (.str (Str.ofString "law_rulerow_k07_refused") 690) none (.ref 489) .none)) #[]
def hPre (P : Params) : Heap := ⟨⟨[boot_o_0 P, boot_o_1 P, boot_o_2 P, boot_o_3 P, boot_o_4 P, boot_o_5 P, boot_o_6 P, boot_o_7 P, boot_o_8 P, boot_o_9 P, boot_o_10 P, o0 P, o1 P, o2 P, o3 P]⟩, {  }⟩
def t0 (P : Params) : BT := (node (boot_o_0 P) (node (boot_o_1 P) (node (boot_o_3 P) (node (boot_o_7 P) nil nil) (node (o0 P) nil nil)) (node (boot_o_5 P) (node (boot_o_9 P) nil nil) (node (o2 P) nil nil))) (node (boot_o_2 P) (node (boot_o_4 P) (node (boot_o_8 P) nil nil) (node (o1 P) nil nil)) (node (boot_o_6 P) (node (boot_o_10 P) nil nil) (node (o3 P) nil nil))))
def t1 (P : Params) : BT := (node (boot_o_0 P) (node (boot_o_1 P) (node (o4 P) (node (boot_o_7 P) (node (o6 P) (node (o22 P) nil nil) nil) (node (o14 P) nil nil)) (node (o0 P) (node (o10 P) nil nil) (node (o18 P) nil nil))) (node (boot_o_5 P) (node (boot_o_9 P) (node (o8 P) (node (o24 P) nil nil) nil) (node (o16 P) nil nil)) (node (o2 P) (node (o12 P) nil nil) (node (o20 P) nil nil)))) (node (boot_o_2 P) (node (boot_o_4 P) (node (boot_o_8 P) (node (o7 P) (node (o23 P) nil nil) nil) (node (o15 P) nil nil)) (node (o5 P) (node (o11 P) nil nil) (node (o19 P) nil nil))) (node (boot_o_6 P) (node (boot_o_10 P) (node (o9 P) (node (o25 P) nil nil) nil) (node (o17 P) nil nil)) (node (o3 P) (node (o13 P) nil nil) (node (o21 P) nil nil)))))
def t2 (P : Params) : BT := (node (boot_o_0 P) (node (boot_o_1 P) (node (o26 P) (node (boot_o_7 P) (node (o6 P) (node (o28 P) nil nil) nil) (node (o14 P) (node (o33 P) nil nil) nil)) (node (o0 P) (node (o10 P) (node (o29 P) nil nil) nil) (node (o18 P) (node (o37 P) nil nil) nil))) (node (boot_o_5 P) (node (boot_o_9 P) (node (o8 P) (node (o24 P) nil nil) nil) (node (o16 P) (node (o35 P) nil nil) nil)) (node (o2 P) (node (o12 P) (node (o31 P) nil nil) nil) (node (o20 P) (node (o39 P) nil nil) nil)))) (node (boot_o_2 P) (node (boot_o_4 P) (node (boot_o_8 P) (node (o7 P) (node (o23 P) nil nil) nil) (node (o15 P) (node (o34 P) nil nil) nil)) (node (o27 P) (node (o11 P) (node (o30 P) nil nil) nil) (node (o19 P) (node (o38 P) nil nil) nil))) (node (boot_o_6 P) (node (boot_o_10 P) (node (o9 P) (node (o25 P) nil nil) nil) (node (o17 P) (node (o36 P) nil nil) nil)) (node (o3 P) (node (o13 P) (node (o32 P) nil nil) nil) (node (o21 P) (node (o40 P) nil nil) nil)))))
def t3 (P : Params) : BT := (node (boot_o_0 P) (node (boot_o_1 P) (node (o41 P) (node (boot_o_7 P) (node (o6 P) (node (o43 P) nil nil) (node (o44 P) nil nil)) (node (o14 P) (node (o33 P) nil nil) (node (o52 P) nil nil))) (node (o0 P) (node (o10 P) (node (o29 P) nil nil) (node (o48 P) nil nil)) (node (o18 P) (node (o37 P) nil nil) nil))) (node (boot_o_5 P) (node (boot_o_9 P) (node (o8 P) (node (o24 P) nil nil) (node (o46 P) nil nil)) (node (o16 P) (node (o35 P) nil nil) (node (o54 P) nil nil))) (node (o2 P) (node (o12 P) (node (o31 P) nil nil) (node (o50 P) nil nil)) (node (o20 P) (node (o39 P) nil nil) nil)))) (node (boot_o_2 P) (node (boot_o_4 P) (node (boot_o_8 P) (node (o7 P) (node (o23 P) nil nil) (node (o45 P) nil nil)) (node (o15 P) (node (o34 P) nil nil) (node (o53 P) nil nil))) (node (o42 P) (node (o11 P) (node (o30 P) nil nil) (node (o49 P) nil nil)) (node (o19 P) (node (o38 P) nil nil) nil))) (node (boot_o_6 P) (node (boot_o_10 P) (node (o9 P) (node (o25 P) nil nil) (node (o47 P) nil nil)) (node (o17 P) (node (o36 P) nil nil) (node (o55 P) nil nil))) (node (o3 P) (node (o13 P) (node (o32 P) nil nil) (node (o51 P) nil nil)) (node (o21 P) (node (o40 P) nil nil) nil)))))
def t4 (P : Params) : BT := (node (boot_o_0 P) (node (boot_o_1 P) (node (o56 P) (node (boot_o_7 P) (node (o6 P) (node (o58 P) (node (o63 P) nil nil) nil) (node (o44 P) nil nil)) (node (o14 P) (node (o33 P) nil nil) (node (o52 P) nil nil))) (node (o0 P) (node (o10 P) (node (o29 P) (node (o67 P) nil nil) nil) (node (o48 P) nil nil)) (node (o18 P) (node (o37 P) nil nil) (node (o59 P) nil nil)))) (node (boot_o_5 P) (node (boot_o_9 P) (node (o8 P) (node (o24 P) (node (o65 P) nil nil) nil) (node (o46 P) nil nil)) (node (o16 P) (node (o35 P) nil nil) (node (o54 P) nil nil))) (node (o2 P) (node (o12 P) (node (o31 P) (node (o69 P) nil nil) nil) (node (o50 P) nil nil)) (node (o20 P) (node (o39 P) nil nil) (node (o61 P) nil nil))))) (node (boot_o_2 P) (node (boot_o_4 P) (node (boot_o_8 P) (node (o7 P) (node (o23 P) (node (o64 P) nil nil) nil) (node (o45 P) nil nil)) (node (o15 P) (node (o34 P) nil nil) (node (o53 P) nil nil))) (node (o57 P) (node (o11 P) (node (o30 P) (node (o68 P) nil nil) nil) (node (o49 P) nil nil)) (node (o19 P) (node (o38 P) nil nil) (node (o60 P) nil nil)))) (node (boot_o_6 P) (node (boot_o_10 P) (node (o9 P) (node (o25 P) (node (o66 P) nil nil) nil) (node (o47 P) nil nil)) (node (o17 P) (node (o36 P) nil nil) (node (o55 P) nil nil))) (node (o3 P) (node (o13 P) (node (o32 P) (node (o70 P) nil nil) nil) (node (o51 P) nil nil)) (node (o21 P) (node (o40 P) nil nil) (node (o62 P) nil nil))))))
def t5 (P : Params) : BT := (node (boot_o_0 P) (node (boot_o_1 P) (node (o71 P) (node (boot_o_7 P) (node (o6 P) (node (o73 P) (node (o63 P) nil nil) nil) (node (o44 P) (node (o82 P) nil nil) nil)) (node (o14 P) (node (o33 P) (node (o74 P) nil nil) nil) (node (o52 P) nil nil))) (node (o0 P) (node (o10 P) (node (o29 P) (node (o67 P) nil nil) nil) (node (o48 P) nil nil)) (node (o18 P) (node (o37 P) (node (o78 P) nil nil) nil) (node (o59 P) nil nil)))) (node (boot_o_5 P) (node (boot_o_9 P) (node (o8 P) (node (o24 P) (node (o65 P) nil nil) nil) (node (o46 P) (node (o84 P) nil nil) nil)) (node (o16 P) (node (o35 P) (node (o76 P) nil nil) nil) (node (o54 P) nil nil))) (node (o2 P) (node (o12 P) (node (o31 P) (node (o69 P) nil nil) nil) (node (o50 P) nil nil)) (node (o20 P) (node (o39 P) (node (o80 P) nil nil) nil) (node (o61 P) nil nil))))) (node (boot_o_2 P) (node (boot_o_4 P) (node (boot_o_8 P) (node (o7 P) (node (o23 P) (node (o64 P) nil nil) nil) (node (o45 P) (node (o83 P) nil nil) nil)) (node (o15 P) (node (o34 P) (node (o75 P) nil nil) nil) (node (o53 P) nil nil))) (node (o72 P) (node (o11 P) (node (o30 P) (node (o68 P) nil nil) nil) (node (o49 P) nil nil)) (node (o19 P) (node (o38 P) (node (o79 P) nil nil) nil) (node (o60 P) nil nil)))) (node (boot_o_6 P) (node (boot_o_10 P) (node (o9 P) (node (o25 P) (node (o66 P) nil nil) nil) (node (o47 P) (node (o85 P) nil nil) nil)) (node (o17 P) (node (o36 P) (node (o77 P) nil nil) nil) (node (o55 P) nil nil))) (node (o3 P) (node (o13 P) (node (o32 P) (node (o70 P) nil nil) nil) (node (o51 P) nil nil)) (node (o21 P) (node (o40 P) (node (o81 P) nil nil) nil) (node (o62 P) nil nil))))))
def t6 (P : Params) : BT := (node (boot_o_0 P) (node (boot_o_1 P) (node (o86 P) (node (boot_o_7 P) (node (o6 P) (node (o88 P) (node (o63 P) nil nil) nil) (node (o44 P) (node (o82 P) nil nil) nil)) (node (o14 P) (node (o33 P) (node (o74 P) nil nil) nil) (node (o52 P) (node (o93 P) nil nil) nil))) (node (o0 P) (node (o10 P) (node (o29 P) (node (o67 P) nil nil) nil) (node (o48 P) (node (o89 P) nil nil) nil)) (node (o18 P) (node (o37 P) (node (o78 P) nil nil) nil) (node (o59 P) (node (o97 P) nil nil) nil)))) (node (boot_o_5 P) (node (boot_o_9 P) (node (o8 P) (node (o24 P) (node (o65 P) nil nil) nil) (node (o46 P) (node (o84 P) nil nil) nil)) (node (o16 P) (node (o35 P) (node (o76 P) nil nil) nil) (node (o54 P) (node (o95 P) nil nil) nil))) (node (o2 P) (node (o12 P) (node (o31 P) (node (o69 P) nil nil) nil) (node (o50 P) (node (o91 P) nil nil) nil)) (node (o20 P) (node (o39 P) (node (o80 P) nil nil) nil) (node (o61 P) (node (o99 P) nil nil) nil))))) (node (boot_o_2 P) (node (boot_o_4 P) (node (boot_o_8 P) (node (o7 P) (node (o23 P) (node (o64 P) nil nil) nil) (node (o45 P) (node (o83 P) nil nil) nil)) (node (o15 P) (node (o34 P) (node (o75 P) nil nil) nil) (node (o53 P) (node (o94 P) nil nil) nil))) (node (o87 P) (node (o11 P) (node (o30 P) (node (o68 P) nil nil) nil) (node (o49 P) (node (o90 P) nil nil) nil)) (node (o19 P) (node (o38 P) (node (o79 P) nil nil) nil) (node (o60 P) (node (o98 P) nil nil) nil)))) (node (boot_o_6 P) (node (boot_o_10 P) (node (o9 P) (node (o25 P) (node (o66 P) nil nil) nil) (node (o47 P) (node (o85 P) nil nil) nil)) (node (o17 P) (node (o36 P) (node (o77 P) nil nil) nil) (node (o55 P) (node (o96 P) nil nil) nil))) (node (o3 P) (node (o13 P) (node (o32 P) (node (o70 P) nil nil) nil) (node (o51 P) (node (o92 P) nil nil) nil)) (node (o21 P) (node (o40 P) (node (o81 P) nil nil) nil) (node (o62 P) (node (o100 P) nil nil) nil))))))
def t7 (P : Params) : BT := (node (boot_o_0 P) (node (boot_o_1 P) (node (o101 P) (node (boot_o_7 P) (node (o6 P) (node (o103 P) (node (o63 P) nil nil) (node (o104 P) nil nil)) (node (o44 P) (node (o82 P) nil nil) nil)) (node (o14 P) (node (o33 P) (node (o74 P) nil nil) (node (o112 P) nil nil)) (node (o52 P) (node (o93 P) nil nil) nil))) (node (o0 P) (node (o10 P) (node (o29 P) (node (o67 P) nil nil) (node (o108 P) nil nil)) (node (o48 P) (node (o89 P) nil nil) nil)) (node (o18 P) (node (o37 P) (node (o78 P) nil nil) nil) (node (o59 P) (node (o97 P) nil nil) nil)))) (node (boot_o_5 P) (node (boot_o_9 P) (node (o8 P) (node (o24 P) (node (o65 P) nil nil) (node (o106 P) nil nil)) (node (o46 P) (node (o84 P) nil nil) nil)) (node (o16 P) (node (o35 P) (node (o76 P) nil nil) (node (o114 P) nil nil)) (node (o54 P) (node (o95 P) nil nil) nil))) (node (o2 P) (node (o12 P) (node (o31 P) (node (o69 P) nil nil) (node (o110 P) nil nil)) (node (o50 P) (node (o91 P) nil nil) nil)) (node (o20 P) (node (o39 P) (node (o80 P) nil nil) nil) (node (o61 P) (node (o99 P) nil nil) nil))))) (node (boot_o_2 P) (node (boot_o_4 P) (node (boot_o_8 P) (node (o7 P) (node (o23 P) (node (o64 P) nil nil) (node (o105 P) nil nil)) (node (o45 P) (node (o83 P) nil nil) nil)) (node (o15 P) (node (o34 P) (node (o75 P) nil nil) (node (o113 P) nil nil)) (node (o53 P) (node (o94 P) nil nil) nil))) (node (o102 P) (node (o11 P) (node (o30 P) (node (o68 P) nil nil) (node (o109 P) nil nil)) (node (o49 P) (node (o90 P) nil nil) nil)) (node (o19 P) (node (o38 P) (node (o79 P) nil nil) nil) (node (o60 P) (node (o98 P) nil nil) nil)))) (node (boot_o_6 P) (node (boot_o_10 P) (node (o9 P) (node (o25 P) (node (o66 P) nil nil) (node (o107 P) nil nil)) (node (o47 P) (node (o85 P) nil nil) nil)) (node (o17 P) (node (o36 P) (node (o77 P) nil nil) (node (o115 P) nil nil)) (node (o55 P) (node (o96 P) nil nil) nil))) (node (o3 P) (node (o13 P) (node (o32 P) (node (o70 P) nil nil) (node (o111 P) nil nil)) (node (o51 P) (node (o92 P) nil nil) nil)) (node (o21 P) (node (o40 P) (node (o81 P) nil nil) nil) (node (o62 P) (node (o100 P) nil nil) nil))))))
def t8 (P : Params) : BT := (node (boot_o_0 P) (node (boot_o_1 P) (node (o116 P) (node (boot_o_7 P) (node (o6 P) (node (o118 P) (node (o63 P) (node (o139 P) nil nil) nil) (node (o104 P) nil nil)) (node (o44 P) (node (o82 P) (node (o155 P) nil nil) nil) (node (o123 P) nil nil))) (node (o14 P) (node (o33 P) (node (o74 P) (node (o147 P) nil nil) nil) (node (o112 P) nil nil)) (node (o52 P) (node (o93 P) (node (o163 P) nil nil) nil) (node (o131 P) nil nil)))) (node (o0 P) (node (o10 P) (node (o29 P) (node (o67 P) (node (o143 P) nil nil) nil) (node (o108 P) nil nil)) (node (o48 P) (node (o89 P) (node (o159 P) nil nil) nil) (node (o127 P) nil nil))) (node (o18 P) (node (o37 P) (node (o78 P) (node (o151 P) nil nil) nil) (node (o119 P) nil nil)) (node (o59 P) (node (o97 P) nil nil) (node (o135 P) nil nil))))) (node (boot_o_5 P) (node (boot_o_9 P) (node (o8 P) (node (o24 P) (node (o65 P) (node (o141 P) nil nil) nil) (node (o106 P) nil nil)) (node (o46 P) (node (o84 P) (node (o157 P) nil nil) nil) (node (o125 P) nil nil))) (node (o16 P) (node (o35 P) (node (o76 P) (node (o149 P) nil nil) nil) (node (o114 P) nil nil)) (node (o54 P) (node (o95 P) (node (o165 P) nil nil) nil) (node (o133 P) nil nil)))) (node (o2 P) (node (o12 P) (node (o31 P) (node (o69 P) (node (o145 P) nil nil) nil) (node (o110 P) nil nil)) (node (o50 P) (node (o91 P) (node (o161 P) nil nil) nil) (node (o129 P) nil nil))) (node (o20 P) (node (o39 P) (node (o80 P) (node (o153 P) nil nil) nil) (node (o121 P) nil nil)) (node (o61 P) (node (o99 P) nil nil) (node (o137 P) nil nil)))))) (node (boot_o_2 P) (node (boot_o_4 P) (node (boot_o_8 P) (node (o7 P) (node (o23 P) (node (o64 P) (node (o140 P) nil nil) nil) (node (o105 P) nil nil)) (node (o45 P) (node (o83 P) (node (o156 P) nil nil) nil) (node (o124 P) nil nil))) (node (o15 P) (node (o34 P) (node (o75 P) (node (o148 P) nil nil) nil) (node (o113 P) nil nil)) (node (o53 P) (node (o94 P) (node (o164 P) nil nil) nil) (node (o132 P) nil nil)))) (node (o117 P) (node (o11 P) (node (o30 P) (node (o68 P) (node (o144 P) nil nil) nil) (node (o109 P) nil nil)) (node (o49 P) (node (o90 P) (node (o160 P) nil nil) nil) (node (o128 P) nil nil))) (node (o19 P) (node (o38 P) (node (o79 P) (node (o152 P) nil nil) nil) (node (o120 P) nil nil)) (node (o60 P) (node (o98 P) nil nil) (node (o136 P) nil nil))))) (node (boot_o_6 P) (node (boot_o_10 P) (node (o9 P) (node (o25 P) (node (o66 P) (node (o142 P) nil nil) nil) (node (o107 P) nil nil)) (node (o47 P) (node (o85 P) (node (o158 P) nil nil) nil) (node (o126 P) nil nil))) (node (o17 P) (node (o36 P) (node (o77 P) (node (o150 P) nil nil) nil) (node (o115 P) nil nil)) (node (o55 P) (node (o96 P) nil nil) (node (o134 P) nil nil)))) (node (o3 P) (node (o13 P) (node (o32 P) (node (o70 P) (node (o146 P) nil nil) nil) (node (o111 P) nil nil)) (node (o51 P) (node (o92 P) (node (o162 P) nil nil) nil) (node (o130 P) nil nil))) (node (o21 P) (node (o40 P) (node (o81 P) (node (o154 P) nil nil) nil) (node (o122 P) nil nil)) (node (o62 P) (node (o100 P) nil nil) (node (o138 P) nil nil)))))))
def t9 (P : Params) : BT := (node (boot_o_0 P) (node (boot_o_1 P) (node (o166 P) (node (boot_o_7 P) (node (o6 P) (node (o118 P) (node (o63 P) (node (o139 P) nil nil) (node (o205 P) nil nil)) (node (o104 P) (node (o173 P) nil nil) (node (o237 P) nil nil))) (node (o44 P) (node (o82 P) (node (o155 P) nil nil) (node (o221 P) nil nil)) (node (o123 P) (node (o189 P) nil nil) nil))) (node (o14 P) (node (o33 P) (node (o74 P) (node (o147 P) nil nil) (node (o213 P) nil nil)) (node (o112 P) (node (o181 P) nil nil) (node (o245 P) nil nil))) (node (o52 P) (node (o93 P) (node (o163 P) nil nil) (node (o229 P) nil nil)) (node (o131 P) (node (o197 P) nil nil) nil)))) (node (o0 P) (node (o10 P) (node (o29 P) (node (o67 P) (node (o143 P) nil nil) (node (o209 P) nil nil)) (node (o108 P) (node (o177 P) nil nil) (node (o241 P) nil nil))) (node (o48 P) (node (o89 P) (node (o159 P) nil nil) (node (o225 P) nil nil)) (node (o127 P) (node (o193 P) nil nil) nil))) (node (o18 P) (node (o37 P) (node (o78 P) (node (o151 P) nil nil) (node (o217 P) nil nil)) (node (o119 P) (node (o185 P) nil nil) nil)) (node (o59 P) (node (o97 P) (node (o169 P) nil nil) (node (o233 P) nil nil)) (node (o135 P) (node (o201 P) nil nil) nil))))) (node (boot_o_5 P) (node (boot_o_9 P) (node (o8 P) (node (o24 P) (node (o65 P) (node (o141 P) nil nil) (node (o207 P) nil nil)) (node (o106 P) (node (o175 P) nil nil) (node (o239 P) nil nil))) (node (o46 P) (node (o84 P) (node (o157 P) nil nil) (node (o223 P) nil nil)) (node (o125 P) (node (o191 P) nil nil) nil))) (node (o16 P) (node (o35 P) (node (o76 P) (node (o149 P) nil nil) (node (o215 P) nil nil)) (node (o114 P) (node (o183 P) nil nil) (node (o247 P) nil nil))) (node (o54 P) (node (o95 P) (node (o165 P) nil nil) (node (o231 P) nil nil)) (node (o133 P) (node (o199 P) nil nil) nil)))) (node (o2 P) (node (o12 P) (node (o31 P) (node (o69 P) (node (o145 P) nil nil) (node (o211 P) nil nil)) (node (o110 P) (node (o179 P) nil nil) (node (o243 P) nil nil))) (node (o50 P) (node (o91 P) (node (o161 P) nil nil) (node (o227 P) nil nil)) (node (o129 P) (node (o195 P) nil nil) nil))) (node (o20 P) (node (o39 P) (node (o80 P) (node (o153 P) nil nil) (node (o219 P) nil nil)) (node (o121 P) (node (o187 P) nil nil) nil)) (node (o61 P) (node (o99 P) (node (o171 P) nil nil) (node (o235 P) nil nil)) (node (o137 P) (node (o203 P) nil nil) nil)))))) (node (boot_o_2 P) (node (boot_o_4 P) (node (boot_o_8 P) (node (o7 P) (node (o23 P) (node (o64 P) (node (o140 P) nil nil) (node (o206 P) nil nil)) (node (o105 P) (node (o174 P) nil nil) (node (o238 P) nil nil))) (node (o45 P) (node (o83 P) (node (o156 P) nil nil) (node (o222 P) nil nil)) (node (o124 P) (node (o190 P) nil nil) nil))) (node (o15 P) (node (o34 P) (node (o75 P) (node (o148 P) nil nil) (node (o214 P) nil nil)) (node (o113 P) (node (o182 P) nil nil) (node (o246 P) nil nil))) (node (o53 P) (node (o94 P) (node (o164 P) nil nil) (node (o230 P) nil nil)) (node (o132 P) (node (o198 P) nil nil) nil)))) (node (o167 P) (node (o11 P) (node (o30 P) (node (o68 P) (node (o144 P) nil nil) (node (o210 P) nil nil)) (node (o109 P) (node (o178 P) nil nil) (node (o242 P) nil nil))) (node (o49 P) (node (o90 P) (node (o160 P) nil nil) (node (o226 P) nil nil)) (node (o128 P) (node (o194 P) nil nil) nil))) (node (o19 P) (node (o38 P) (node (o79 P) (node (o152 P) nil nil) (node (o218 P) nil nil)) (node (o120 P) (node (o186 P) nil nil) nil)) (node (o60 P) (node (o98 P) (node (o170 P) nil nil) (node (o234 P) nil nil)) (node (o136 P) (node (o202 P) nil nil) nil))))) (node (boot_o_6 P) (node (boot_o_10 P) (node (o9 P) (node (o25 P) (node (o66 P) (node (o142 P) nil nil) (node (o208 P) nil nil)) (node (o107 P) (node (o176 P) nil nil) (node (o240 P) nil nil))) (node (o47 P) (node (o85 P) (node (o158 P) nil nil) (node (o224 P) nil nil)) (node (o126 P) (node (o192 P) nil nil) nil))) (node (o17 P) (node (o36 P) (node (o77 P) (node (o150 P) nil nil) (node (o216 P) nil nil)) (node (o115 P) (node (o184 P) nil nil) (node (o248 P) nil nil))) (node (o55 P) (node (o96 P) (node (o168 P) nil nil) (node (o232 P) nil nil)) (node (o134 P) (node (o200 P) nil nil) nil)))) (node (o3 P) (node (o13 P) (node (o32 P) (node (o70 P) (node (o146 P) nil nil) (node (o212 P) nil nil)) (node (o111 P) (node (o180 P) nil nil) (node (o244 P) nil nil))) (node (o51 P) (node (o92 P) (node (o162 P) nil nil) (node (o228 P) nil nil)) (node (o130 P) (node (o196 P) nil nil) nil))) (node (o21 P) (node (o40 P) (node (o81 P) (node (o154 P) nil nil) (node (o220 P) nil nil)) (node (o122 P) (node (o188 P) nil nil) nil)) (node (o62 P) (node (o100 P) (node (o172 P) nil nil) (node (o236 P) nil nil)) (node (o138 P) (node (o204 P) nil nil) nil)))))))
def t10 (P : Params) : BT := (node (boot_o_0 P) (node (boot_o_1 P) (node (o249 P) (node (boot_o_7 P) (node (o6 P) (node (o118 P) (node (o63 P) (node (o139 P) (node (o271 P) nil nil) nil) (node (o205 P) nil nil)) (node (o104 P) (node (o173 P) nil nil) (node (o237 P) nil nil))) (node (o44 P) (node (o82 P) (node (o155 P) nil nil) (node (o221 P) nil nil)) (node (o123 P) (node (o189 P) nil nil) (node (o255 P) nil nil)))) (node (o14 P) (node (o33 P) (node (o74 P) (node (o147 P) nil nil) (node (o213 P) nil nil)) (node (o112 P) (node (o181 P) nil nil) (node (o245 P) nil nil))) (node (o52 P) (node (o93 P) (node (o163 P) nil nil) (node (o229 P) nil nil)) (node (o131 P) (node (o197 P) nil nil) (node (o263 P) nil nil))))) (node (o0 P) (node (o10 P) (node (o29 P) (node (o67 P) (node (o143 P) nil nil) (node (o209 P) nil nil)) (node (o108 P) (node (o177 P) nil nil) (node (o241 P) nil nil))) (node (o48 P) (node (o89 P) (node (o159 P) nil nil) (node (o225 P) nil nil)) (node (o127 P) (node (o193 P) nil nil) (node (o259 P) nil nil)))) (node (o18 P) (node (o37 P) (node (o78 P) (node (o151 P) nil nil) (node (o217 P) nil nil)) (node (o119 P) (node (o185 P) nil nil) (node (o251 P) nil nil))) (node (o59 P) (node (o97 P) (node (o169 P) nil nil) (node (o233 P) nil nil)) (node (o135 P) (node (o201 P) nil nil) (node (o267 P) nil nil)))))) (node (boot_o_5 P) (node (boot_o_9 P) (node (o8 P) (node (o24 P) (node (o65 P) (node (o141 P) (node (o273 P) nil nil) nil) (node (o207 P) nil nil)) (node (o106 P) (node (o175 P) nil nil) (node (o239 P) nil nil))) (node (o46 P) (node (o84 P) (node (o157 P) nil nil) (node (o223 P) nil nil)) (node (o125 P) (node (o191 P) nil nil) (node (o257 P) nil nil)))) (node (o16 P) (node (o35 P) (node (o76 P) (node (o149 P) nil nil) (node (o215 P) nil nil)) (node (o114 P) (node (o183 P) nil nil) (node (o247 P) nil nil))) (node (o54 P) (node (o95 P) (node (o165 P) nil nil) (node (o231 P) nil nil)) (node (o133 P) (node (o199 P) nil nil) (node (o265 P) nil nil))))) (node (o2 P) (node (o12 P) (node (o31 P) (node (o69 P) (node (o145 P) nil nil) (node (o211 P) nil nil)) (node (o110 P) (node (o179 P) nil nil) (node (o243 P) nil nil))) (node (o50 P) (node (o91 P) (node (o161 P) nil nil) (node (o227 P) nil nil)) (node (o129 P) (node (o195 P) nil nil) (node (o261 P) nil nil)))) (node (o20 P) (node (o39 P) (node (o80 P) (node (o153 P) nil nil) (node (o219 P) nil nil)) (node (o121 P) (node (o187 P) nil nil) (node (o253 P) nil nil))) (node (o61 P) (node (o99 P) (node (o171 P) nil nil) (node (o235 P) nil nil)) (node (o137 P) (node (o203 P) nil nil) (node (o269 P) nil nil))))))) (node (boot_o_2 P) (node (boot_o_4 P) (node (boot_o_8 P) (node (o7 P) (node (o23 P) (node (o64 P) (node (o140 P) (node (o272 P) nil nil) nil) (node (o206 P) nil nil)) (node (o105 P) (node (o174 P) nil nil) (node (o238 P) nil nil))) (node (o45 P) (node (o83 P) (node (o156 P) nil nil) (node (o222 P) nil nil)) (node (o124 P) (node (o190 P) nil nil) (node (o256 P) nil nil)))) (node (o15 P) (node (o34 P) (node (o75 P) (node (o148 P) nil nil) (node (o214 P) nil nil)) (node (o113 P) (node (o182 P) nil nil) (node (o246 P) nil nil))) (node (o53 P) (node (o94 P) (node (o164 P) nil nil) (node (o230 P) nil nil)) (node (o132 P) (node (o198 P) nil nil) (node (o264 P) nil nil))))) (node (o250 P) (node (o11 P) (node (o30 P) (node (o68 P) (node (o144 P) nil nil) (node (o210 P) nil nil)) (node (o109 P) (node (o178 P) nil nil) (node (o242 P) nil nil))) (node (o49 P) (node (o90 P) (node (o160 P) nil nil) (node (o226 P) nil nil)) (node (o128 P) (node (o194 P) nil nil) (node (o260 P) nil nil)))) (node (o19 P) (node (o38 P) (node (o79 P) (node (o152 P) nil nil) (node (o218 P) nil nil)) (node (o120 P) (node (o186 P) nil nil) (node (o252 P) nil nil))) (node (o60 P) (node (o98 P) (node (o170 P) nil nil) (node (o234 P) nil nil)) (node (o136 P) (node (o202 P) nil nil) (node (o268 P) nil nil)))))) (node (boot_o_6 P) (node (boot_o_10 P) (node (o9 P) (node (o25 P) (node (o66 P) (node (o142 P) (node (o274 P) nil nil) nil) (node (o208 P) nil nil)) (node (o107 P) (node (o176 P) nil nil) (node (o240 P) nil nil))) (node (o47 P) (node (o85 P) (node (o158 P) nil nil) (node (o224 P) nil nil)) (node (o126 P) (node (o192 P) nil nil) (node (o258 P) nil nil)))) (node (o17 P) (node (o36 P) (node (o77 P) (node (o150 P) nil nil) (node (o216 P) nil nil)) (node (o115 P) (node (o184 P) nil nil) (node (o248 P) nil nil))) (node (o55 P) (node (o96 P) (node (o168 P) nil nil) (node (o232 P) nil nil)) (node (o134 P) (node (o200 P) nil nil) (node (o266 P) nil nil))))) (node (o3 P) (node (o13 P) (node (o32 P) (node (o70 P) (node (o146 P) nil nil) (node (o212 P) nil nil)) (node (o111 P) (node (o180 P) nil nil) (node (o244 P) nil nil))) (node (o51 P) (node (o92 P) (node (o162 P) nil nil) (node (o228 P) nil nil)) (node (o130 P) (node (o196 P) nil nil) (node (o262 P) nil nil)))) (node (o21 P) (node (o40 P) (node (o81 P) (node (o154 P) nil nil) (node (o220 P) nil nil)) (node (o122 P) (node (o188 P) nil nil) (node (o254 P) nil nil))) (node (o62 P) (node (o100 P) (node (o172 P) nil nil) (node (o236 P) nil nil)) (node (o138 P) (node (o204 P) nil nil) (node (o270 P) nil nil))))))))
def t11 (P : Params) : BT := (node (boot_o_0 P) (node (boot_o_1 P) (node (o275 P) (node (boot_o_7 P) (node (o6 P) (node (o118 P) (node (o63 P) (node (o139 P) (node (o271 P) nil nil) nil) (node (o205 P) nil nil)) (node (o104 P) (node (o173 P) nil nil) (node (o237 P) nil nil))) (node (o44 P) (node (o82 P) (node (o155 P) (node (o290 P) nil nil) nil) (node (o221 P) nil nil)) (node (o123 P) (node (o189 P) nil nil) (node (o255 P) nil nil)))) (node (o14 P) (node (o33 P) (node (o74 P) (node (o147 P) (node (o282 P) nil nil) nil) (node (o213 P) nil nil)) (node (o112 P) (node (o181 P) nil nil) (node (o245 P) nil nil))) (node (o52 P) (node (o93 P) (node (o163 P) (node (o298 P) nil nil) nil) (node (o229 P) nil nil)) (node (o131 P) (node (o197 P) nil nil) (node (o263 P) nil nil))))) (node (o0 P) (node (o10 P) (node (o29 P) (node (o67 P) (node (o143 P) (node (o278 P) nil nil) nil) (node (o209 P) nil nil)) (node (o108 P) (node (o177 P) nil nil) (node (o241 P) nil nil))) (node (o48 P) (node (o89 P) (node (o159 P) (node (o294 P) nil nil) nil) (node (o225 P) nil nil)) (node (o127 P) (node (o193 P) nil nil) (node (o259 P) nil nil)))) (node (o18 P) (node (o37 P) (node (o78 P) (node (o151 P) (node (o286 P) nil nil) nil) (node (o217 P) nil nil)) (node (o119 P) (node (o185 P) nil nil) (node (o251 P) nil nil))) (node (o59 P) (node (o97 P) (node (o169 P) (node (o302 P) nil nil) nil) (node (o233 P) nil nil)) (node (o135 P) (node (o201 P) nil nil) (node (o267 P) nil nil)))))) (node (boot_o_5 P) (node (boot_o_9 P) (node (o8 P) (node (o24 P) (node (o65 P) (node (o141 P) (node (o273 P) nil nil) nil) (node (o207 P) nil nil)) (node (o106 P) (node (o175 P) nil nil) (node (o239 P) nil nil))) (node (o46 P) (node (o84 P) (node (o157 P) (node (o292 P) nil nil) nil) (node (o223 P) nil nil)) (node (o125 P) (node (o191 P) nil nil) (node (o257 P) nil nil)))) (node (o16 P) (node (o35 P) (node (o76 P) (node (o149 P) (node (o284 P) nil nil) nil) (node (o215 P) nil nil)) (node (o114 P) (node (o183 P) nil nil) (node (o247 P) nil nil))) (node (o54 P) (node (o95 P) (node (o165 P) (node (o300 P) nil nil) nil) (node (o231 P) nil nil)) (node (o133 P) (node (o199 P) nil nil) (node (o265 P) nil nil))))) (node (o2 P) (node (o12 P) (node (o31 P) (node (o69 P) (node (o145 P) (node (o280 P) nil nil) nil) (node (o211 P) nil nil)) (node (o110 P) (node (o179 P) nil nil) (node (o243 P) nil nil))) (node (o50 P) (node (o91 P) (node (o161 P) (node (o296 P) nil nil) nil) (node (o227 P) nil nil)) (node (o129 P) (node (o195 P) nil nil) (node (o261 P) nil nil)))) (node (o20 P) (node (o39 P) (node (o80 P) (node (o153 P) (node (o288 P) nil nil) nil) (node (o219 P) nil nil)) (node (o121 P) (node (o187 P) nil nil) (node (o253 P) nil nil))) (node (o61 P) (node (o99 P) (node (o171 P) nil nil) (node (o235 P) nil nil)) (node (o137 P) (node (o203 P) nil nil) (node (o269 P) nil nil))))))) (node (boot_o_2 P) (node (boot_o_4 P) (node (boot_o_8 P) (node (o7 P) (node (o23 P) (node (o64 P) (node (o140 P) (node (o272 P) nil nil) nil) (node (o206 P) nil nil)) (node (o105 P) (node (o174 P) nil nil) (node (o238 P) nil nil))) (node (o45 P) (node (o83 P) (node (o156 P) (node (o291 P) nil nil) nil) (node (o222 P) nil nil)) (node (o124 P) (node (o190 P) nil nil) (node (o256 P) nil nil)))) (node (o15 P) (node (o34 P) (node (o75 P) (node (o148 P) (node (o283 P) nil nil) nil) (node (o214 P) nil nil)) (node (o113 P) (node (o182 P) nil nil) (node (o246 P) nil nil))) (node (o53 P) (node (o94 P) (node (o164 P) (node (o299 P) nil nil) nil) (node (o230 P) nil nil)) (node (o132 P) (node (o198 P) nil nil) (node (o264 P) nil nil))))) (node (o276 P) (node (o11 P) (node (o30 P) (node (o68 P) (node (o144 P) (node (o279 P) nil nil) nil) (node (o210 P) nil nil)) (node (o109 P) (node (o178 P) nil nil) (node (o242 P) nil nil))) (node (o49 P) (node (o90 P) (node (o160 P) (node (o295 P) nil nil) nil) (node (o226 P) nil nil)) (node (o128 P) (node (o194 P) nil nil) (node (o260 P) nil nil)))) (node (o19 P) (node (o38 P) (node (o79 P) (node (o152 P) (node (o287 P) nil nil) nil) (node (o218 P) nil nil)) (node (o120 P) (node (o186 P) nil nil) (node (o252 P) nil nil))) (node (o60 P) (node (o98 P) (node (o170 P) (node (o303 P) nil nil) nil) (node (o234 P) nil nil)) (node (o136 P) (node (o202 P) nil nil) (node (o268 P) nil nil)))))) (node (boot_o_6 P) (node (boot_o_10 P) (node (o9 P) (node (o25 P) (node (o66 P) (node (o142 P) (node (o274 P) nil nil) nil) (node (o208 P) nil nil)) (node (o107 P) (node (o176 P) nil nil) (node (o240 P) nil nil))) (node (o47 P) (node (o85 P) (node (o158 P) (node (o293 P) nil nil) nil) (node (o224 P) nil nil)) (node (o126 P) (node (o192 P) nil nil) (node (o258 P) nil nil)))) (node (o17 P) (node (o36 P) (node (o77 P) (node (o150 P) (node (o285 P) nil nil) nil) (node (o216 P) nil nil)) (node (o115 P) (node (o184 P) nil nil) (node (o248 P) nil nil))) (node (o55 P) (node (o96 P) (node (o168 P) (node (o301 P) nil nil) nil) (node (o232 P) nil nil)) (node (o134 P) (node (o200 P) nil nil) (node (o266 P) nil nil))))) (node (o3 P) (node (o13 P) (node (o32 P) (node (o70 P) (node (o146 P) (node (o281 P) nil nil) nil) (node (o212 P) nil nil)) (node (o111 P) (node (o180 P) nil nil) (node (o244 P) nil nil))) (node (o51 P) (node (o92 P) (node (o162 P) (node (o297 P) nil nil) nil) (node (o228 P) nil nil)) (node (o130 P) (node (o196 P) nil nil) (node (o262 P) nil nil)))) (node (o21 P) (node (o40 P) (node (o81 P) (node (o154 P) (node (o289 P) nil nil) nil) (node (o220 P) nil nil)) (node (o122 P) (node (o188 P) nil nil) (node (o254 P) nil nil))) (node (o62 P) (node (o100 P) (node (o172 P) nil nil) (node (o236 P) nil nil)) (node (o138 P) (node (o204 P) nil nil) (node (o277 P) nil nil))))))))
def t12 (P : Params) : BT := (node (boot_o_0 P) (node (boot_o_1 P) (node (o304 P) (node (boot_o_7 P) (node (o6 P) (node (o118 P) (node (o63 P) (node (o139 P) (node (o271 P) nil nil) nil) (node (o205 P) nil nil)) (node (o104 P) (node (o173 P) (node (o309 P) nil nil) nil) (node (o237 P) nil nil))) (node (o44 P) (node (o82 P) (node (o155 P) (node (o290 P) nil nil) nil) (node (o221 P) nil nil)) (node (o123 P) (node (o189 P) (node (o325 P) nil nil) nil) (node (o255 P) nil nil)))) (node (o14 P) (node (o33 P) (node (o74 P) (node (o147 P) (node (o282 P) nil nil) nil) (node (o213 P) nil nil)) (node (o112 P) (node (o181 P) (node (o317 P) nil nil) nil) (node (o245 P) nil nil))) (node (o52 P) (node (o93 P) (node (o163 P) (node (o298 P) nil nil) nil) (node (o229 P) nil nil)) (node (o131 P) (node (o197 P) nil nil) (node (o263 P) nil nil))))) (node (o0 P) (node (o10 P) (node (o29 P) (node (o67 P) (node (o143 P) (node (o278 P) nil nil) nil) (node (o209 P) nil nil)) (node (o108 P) (node (o177 P) (node (o313 P) nil nil) nil) (node (o241 P) nil nil))) (node (o48 P) (node (o89 P) (node (o159 P) (node (o294 P) nil nil) nil) (node (o225 P) nil nil)) (node (o127 P) (node (o193 P) (node (o329 P) nil nil) nil) (node (o259 P) nil nil)))) (node (o18 P) (node (o37 P) (node (o78 P) (node (o151 P) (node (o286 P) nil nil) nil) (node (o217 P) nil nil)) (node (o119 P) (node (o185 P) (node (o321 P) nil nil) nil) (node (o251 P) nil nil))) (node (o59 P) (node (o97 P) (node (o169 P) (node (o302 P) nil nil) nil) (node (o233 P) nil nil)) (node (o135 P) (node (o201 P) nil nil) (node (o267 P) nil nil)))))) (node (boot_o_5 P) (node (boot_o_9 P) (node (o8 P) (node (o24 P) (node (o65 P) (node (o141 P) (node (o273 P) nil nil) nil) (node (o207 P) nil nil)) (node (o106 P) (node (o175 P) (node (o311 P) nil nil) nil) (node (o239 P) nil nil))) (node (o46 P) (node (o84 P) (node (o157 P) (node (o292 P) nil nil) nil) (node (o223 P) nil nil)) (node (o125 P) (node (o191 P) (node (o327 P) nil nil) nil) (node (o257 P) nil nil)))) (node (o16 P) (node (o35 P) (node (o76 P) (node (o149 P) (node (o284 P) nil nil) nil) (node (o215 P) nil nil)) (node (o114 P) (node (o183 P) (node (o319 P) nil nil) nil) (node (o247 P) nil nil))) (node (o54 P) (node (o95 P) (node (o165 P) (node (o300 P) nil nil) nil) (node (o231 P) nil nil)) (node (o133 P) (node (o199 P) nil nil) (node (o265 P) nil nil))))) (node (o2 P) (node (o12 P) (node (o31 P) (node (o69 P) (node (o145 P) (node (o280 P) nil nil) nil) (node (o211 P) nil nil)) (node (o110 P) (node (o179 P) (node (o315 P) nil nil) nil) (node (o243 P) nil nil))) (node (o50 P) (node (o91 P) (node (o161 P) (node (o296 P) nil nil) nil) (node (o227 P) nil nil)) (node (o129 P) (node (o195 P) (node (o331 P) nil nil) nil) (node (o261 P) nil nil)))) (node (o20 P) (node (o39 P) (node (o80 P) (node (o153 P) (node (o288 P) nil nil) nil) (node (o219 P) nil nil)) (node (o121 P) (node (o187 P) (node (o323 P) nil nil) nil) (node (o253 P) nil nil))) (node (o61 P) (node (o99 P) (node (o171 P) (node (o307 P) nil nil) nil) (node (o235 P) nil nil)) (node (o137 P) (node (o203 P) nil nil) (node (o269 P) nil nil))))))) (node (boot_o_2 P) (node (boot_o_4 P) (node (boot_o_8 P) (node (o7 P) (node (o23 P) (node (o64 P) (node (o140 P) (node (o272 P) nil nil) nil) (node (o206 P) nil nil)) (node (o105 P) (node (o174 P) (node (o310 P) nil nil) nil) (node (o238 P) nil nil))) (node (o45 P) (node (o83 P) (node (o156 P) (node (o291 P) nil nil) nil) (node (o222 P) nil nil)) (node (o124 P) (node (o190 P) (node (o326 P) nil nil) nil) (node (o256 P) nil nil)))) (node (o15 P) (node (o34 P) (node (o75 P) (node (o148 P) (node (o283 P) nil nil) nil) (node (o214 P) nil nil)) (node (o113 P) (node (o182 P) (node (o318 P) nil nil) nil) (node (o246 P) nil nil))) (node (o53 P) (node (o94 P) (node (o164 P) (node (o299 P) nil nil) nil) (node (o230 P) nil nil)) (node (o132 P) (node (o198 P) nil nil) (node (o264 P) nil nil))))) (node (o305 P) (node (o11 P) (node (o30 P) (node (o68 P) (node (o144 P) (node (o279 P) nil nil) nil) (node (o210 P) nil nil)) (node (o109 P) (node (o178 P) (node (o314 P) nil nil) nil) (node (o242 P) nil nil))) (node (o49 P) (node (o90 P) (node (o160 P) (node (o295 P) nil nil) nil) (node (o226 P) nil nil)) (node (o128 P) (node (o194 P) (node (o330 P) nil nil) nil) (node (o260 P) nil nil)))) (node (o19 P) (node (o38 P) (node (o79 P) (node (o152 P) (node (o287 P) nil nil) nil) (node (o218 P) nil nil)) (node (o120 P) (node (o186 P) (node (o322 P) nil nil) nil) (node (o252 P) nil nil))) (node (o60 P) (node (o98 P) (node (o170 P) (node (o303 P) nil nil) nil) (node (o234 P) nil nil)) (node (o136 P) (node (o202 P) nil nil) (node (o268 P) nil nil)))))) (node (boot_o_6 P) (node (boot_o_10 P) (node (o9 P) (node (o25 P) (node (o66 P) (node (o142 P) (node (o274 P) nil nil) nil) (node (o208 P) nil nil)) (node (o107 P) (node (o176 P) (node (o312 P) nil nil) nil) (node (o240 P) nil nil))) (node (o47 P) (node (o85 P) (node (o158 P) (node (o293 P) nil nil) nil) (node (o224 P) nil nil)) (node (o126 P) (node (o192 P) (node (o328 P) nil nil) nil) (node (o258 P) nil nil)))) (node (o17 P) (node (o36 P) (node (o77 P) (node (o150 P) (node (o285 P) nil nil) nil) (node (o216 P) nil nil)) (node (o115 P) (node (o184 P) (node (o320 P) nil nil) nil) (node (o248 P) nil nil))) (node (o55 P) (node (o96 P) (node (o168 P) (node (o301 P) nil nil) nil) (node (o232 P) nil nil)) (node (o134 P) (node (o200 P) nil nil) (node (o266 P) nil nil))))) (node (o3 P) (node (o13 P) (node (o32 P) (node (o70 P) (node (o146 P) (node (o281 P) nil nil) nil) (node (o212 P) nil nil)) (node (o111 P) (node (o180 P) (node (o316 P) nil nil) nil) (node (o244 P) nil nil))) (node (o51 P) (node (o92 P) (node (o162 P) (node (o297 P) nil nil) nil) (node (o228 P) nil nil)) (node (o130 P) (node (o196 P) (node (o332 P) nil nil) nil) (node (o262 P) nil nil)))) (node (o21 P) (node (o40 P) (node (o81 P) (node (o154 P) (node (o289 P) nil nil) nil) (node (o220 P) nil nil)) (node (o122 P) (node (o188 P) (node (o324 P) nil nil) nil) (node (o254 P) nil nil))) (node (o62 P) (node (o100 P) (node (o172 P) (node (o308 P) nil nil) nil) (node (o236 P) nil nil)) (node (o138 P) (node (o204 P) nil nil) (node (o306 P) nil nil))))))))
def t13 (P : Params) : BT := (node (boot_o_0 P) (node (boot_o_1 P) (node (o333 P) (node (boot_o_7 P) (node (o6 P) (node (o118 P) (node (o63 P) (node (o139 P) (node (o271 P) nil nil) nil) (node (o205 P) (node (o344 P) nil nil) nil)) (node (o104 P) (node (o173 P) (node (o309 P) nil nil) nil) (node (o237 P) (node (o376 P) nil nil) nil))) (node (o44 P) (node (o82 P) (node (o155 P) (node (o290 P) nil nil) nil) (node (o221 P) (node (o360 P) nil nil) nil)) (node (o123 P) (node (o189 P) (node (o325 P) nil nil) nil) (node (o255 P) nil nil)))) (node (o14 P) (node (o33 P) (node (o74 P) (node (o147 P) (node (o282 P) nil nil) nil) (node (o213 P) (node (o352 P) nil nil) nil)) (node (o112 P) (node (o181 P) (node (o317 P) nil nil) nil) (node (o245 P) nil nil))) (node (o52 P) (node (o93 P) (node (o163 P) (node (o298 P) nil nil) nil) (node (o229 P) (node (o368 P) nil nil) nil)) (node (o131 P) (node (o197 P) (node (o336 P) nil nil) nil) (node (o263 P) nil nil))))) (node (o0 P) (node (o10 P) (node (o29 P) (node (o67 P) (node (o143 P) (node (o278 P) nil nil) nil) (node (o209 P) (node (o348 P) nil nil) nil)) (node (o108 P) (node (o177 P) (node (o313 P) nil nil) nil) (node (o241 P) (node (o380 P) nil nil) nil))) (node (o48 P) (node (o89 P) (node (o159 P) (node (o294 P) nil nil) nil) (node (o225 P) (node (o364 P) nil nil) nil)) (node (o127 P) (node (o193 P) (node (o329 P) nil nil) nil) (node (o259 P) nil nil)))) (node (o18 P) (node (o37 P) (node (o78 P) (node (o151 P) (node (o286 P) nil nil) nil) (node (o217 P) (node (o356 P) nil nil) nil)) (node (o119 P) (node (o185 P) (node (o321 P) nil nil) nil) (node (o251 P) nil nil))) (node (o59 P) (node (o97 P) (node (o169 P) (node (o302 P) nil nil) nil) (node (o233 P) (node (o372 P) nil nil) nil)) (node (o135 P) (node (o201 P) (node (o340 P) nil nil) nil) (node (o267 P) nil nil)))))) (node (boot_o_5 P) (node (boot_o_9 P) (node (o8 P) (node (o24 P) (node (o65 P) (node (o141 P) (node (o273 P) nil nil) nil) (node (o207 P) (node (o346 P) nil nil) nil)) (node (o106 P) (node (o175 P) (node (o311 P) nil nil) nil) (node (o239 P) (node (o378 P) nil nil) nil))) (node (o46 P) (node (o84 P) (node (o157 P) (node (o292 P) nil nil) nil) (node (o223 P) (node (o362 P) nil nil) nil)) (node (o125 P) (node (o191 P) (node (o327 P) nil nil) nil) (node (o257 P) nil nil)))) (node (o16 P) (node (o35 P) (node (o76 P) (node (o149 P) (node (o284 P) nil nil) nil) (node (o215 P) (node (o354 P) nil nil) nil)) (node (o114 P) (node (o183 P) (node (o319 P) nil nil) nil) (node (o247 P) nil nil))) (node (o54 P) (node (o95 P) (node (o165 P) (node (o300 P) nil nil) nil) (node (o231 P) (node (o370 P) nil nil) nil)) (node (o133 P) (node (o199 P) (node (o338 P) nil nil) nil) (node (o265 P) nil nil))))) (node (o2 P) (node (o12 P) (node (o31 P) (node (o69 P) (node (o145 P) (node (o280 P) nil nil) nil) (node (o211 P) (node (o350 P) nil nil) nil)) (node (o110 P) (node (o179 P) (node (o315 P) nil nil) nil) (node (o243 P) (node (o382 P) nil nil) nil))) (node (o50 P) (node (o91 P) (node (o161 P) (node (o296 P) nil nil) nil) (node (o227 P) (node (o366 P) nil nil) nil)) (node (o129 P) (node (o195 P) (node (o331 P) nil nil) nil) (node (o261 P) nil nil)))) (node (o20 P) (node (o39 P) (node (o80 P) (node (o153 P) (node (o288 P) nil nil) nil) (node (o219 P) (node (o358 P) nil nil) nil)) (node (o121 P) (node (o187 P) (node (o323 P) nil nil) nil) (node (o253 P) nil nil))) (node (o61 P) (node (o99 P) (node (o171 P) (node (o307 P) nil nil) nil) (node (o235 P) (node (o374 P) nil nil) nil)) (node (o137 P) (node (o203 P) (node (o342 P) nil nil) nil) (node (o269 P) nil nil))))))) (node (boot_o_2 P) (node (boot_o_4 P) (node (boot_o_8 P) (node (o7 P) (node (o23 P) (node (o64 P) (node (o140 P) (node (o272 P) nil nil) nil) (node (o206 P) (node (o345 P) nil nil) nil)) (node (o105 P) (node (o174 P) (node (o310 P) nil nil) nil) (node (o238 P) (node (o377 P) nil nil) nil))) (node (o45 P) (node (o83 P) (node (o156 P) (node (o291 P) nil nil) nil) (node (o222 P) (node (o361 P) nil nil) nil)) (node (o124 P) (node (o190 P) (node (o326 P) nil nil) nil) (node (o256 P) nil nil)))) (node (o15 P) (node (o34 P) (node (o75 P) (node (o148 P) (node (o283 P) nil nil) nil) (node (o214 P) (node (o353 P) nil nil) nil)) (node (o113 P) (node (o182 P) (node (o318 P) nil nil) nil) (node (o246 P) nil nil))) (node (o53 P) (node (o94 P) (node (o164 P) (node (o299 P) nil nil) nil) (node (o230 P) (node (o369 P) nil nil) nil)) (node (o132 P) (node (o198 P) (node (o337 P) nil nil) nil) (node (o264 P) nil nil))))) (node (o334 P) (node (o11 P) (node (o30 P) (node (o68 P) (node (o144 P) (node (o279 P) nil nil) nil) (node (o210 P) (node (o349 P) nil nil) nil)) (node (o109 P) (node (o178 P) (node (o314 P) nil nil) nil) (node (o242 P) (node (o381 P) nil nil) nil))) (node (o49 P) (node (o90 P) (node (o160 P) (node (o295 P) nil nil) nil) (node (o226 P) (node (o365 P) nil nil) nil)) (node (o128 P) (node (o194 P) (node (o330 P) nil nil) nil) (node (o260 P) nil nil)))) (node (o19 P) (node (o38 P) (node (o79 P) (node (o152 P) (node (o287 P) nil nil) nil) (node (o218 P) (node (o357 P) nil nil) nil)) (node (o120 P) (node (o186 P) (node (o322 P) nil nil) nil) (node (o252 P) nil nil))) (node (o60 P) (node (o98 P) (node (o170 P) (node (o303 P) nil nil) nil) (node (o234 P) (node (o373 P) nil nil) nil)) (node (o136 P) (node (o202 P) (node (o341 P) nil nil) nil) (node (o268 P) nil nil)))))) (node (boot_o_6 P) (node (boot_o_10 P) (node (o9 P) (node (o25 P) (node (o66 P) (node (o142 P) (node (o274 P) nil nil) nil) (node (o208 P) (node (o347 P) nil nil) nil)) (node (o107 P) (node (o176 P) (node (o312 P) nil nil) nil) (node (o240 P) (node (o379 P) nil nil) nil))) (node (o47 P) (node (o85 P) (node (o158 P) (node (o293 P) nil nil) nil) (node (o224 P) (node (o363 P) nil nil) nil)) (node (o126 P) (node (o192 P) (node (o328 P) nil nil) nil) (node (o258 P) nil nil)))) (node (o17 P) (node (o36 P) (node (o77 P) (node (o150 P) (node (o285 P) nil nil) nil) (node (o216 P) (node (o355 P) nil nil) nil)) (node (o115 P) (node (o184 P) (node (o320 P) nil nil) nil) (node (o248 P) nil nil))) (node (o55 P) (node (o96 P) (node (o168 P) (node (o301 P) nil nil) nil) (node (o232 P) (node (o371 P) nil nil) nil)) (node (o134 P) (node (o200 P) (node (o339 P) nil nil) nil) (node (o266 P) nil nil))))) (node (o3 P) (node (o13 P) (node (o32 P) (node (o70 P) (node (o146 P) (node (o281 P) nil nil) nil) (node (o212 P) (node (o351 P) nil nil) nil)) (node (o111 P) (node (o180 P) (node (o316 P) nil nil) nil) (node (o244 P) nil nil))) (node (o51 P) (node (o92 P) (node (o162 P) (node (o297 P) nil nil) nil) (node (o228 P) (node (o367 P) nil nil) nil)) (node (o130 P) (node (o196 P) (node (o332 P) nil nil) nil) (node (o262 P) nil nil)))) (node (o21 P) (node (o40 P) (node (o81 P) (node (o154 P) (node (o289 P) nil nil) nil) (node (o220 P) (node (o359 P) nil nil) nil)) (node (o122 P) (node (o188 P) (node (o324 P) nil nil) nil) (node (o254 P) nil nil))) (node (o62 P) (node (o100 P) (node (o172 P) (node (o308 P) nil nil) nil) (node (o236 P) (node (o375 P) nil nil) nil)) (node (o138 P) (node (o204 P) (node (o343 P) nil nil) nil) (node (o335 P) nil nil))))))))
def t14 (P : Params) : BT := (node (boot_o_0 P) (node (boot_o_1 P) (node (o383 P) (node (boot_o_7 P) (node (o6 P) (node (o118 P) (node (o63 P) (node (o139 P) (node (o271 P) nil nil) (node (o410 P) nil nil)) (node (o205 P) (node (o344 P) nil nil) nil)) (node (o104 P) (node (o173 P) (node (o309 P) nil nil) (node (o442 P) nil nil)) (node (o237 P) (node (o376 P) nil nil) nil))) (node (o44 P) (node (o82 P) (node (o155 P) (node (o290 P) nil nil) (node (o426 P) nil nil)) (node (o221 P) (node (o360 P) nil nil) nil)) (node (o123 P) (node (o189 P) (node (o325 P) nil nil) (node (o458 P) nil nil)) (node (o255 P) (node (o394 P) nil nil) nil)))) (node (o14 P) (node (o33 P) (node (o74 P) (node (o147 P) (node (o282 P) nil nil) (node (o418 P) nil nil)) (node (o213 P) (node (o352 P) nil nil) nil)) (node (o112 P) (node (o181 P) (node (o317 P) nil nil) (node (o450 P) nil nil)) (node (o245 P) (node (o386 P) nil nil) nil))) (node (o52 P) (node (o93 P) (node (o163 P) (node (o298 P) nil nil) (node (o434 P) nil nil)) (node (o229 P) (node (o368 P) nil nil) nil)) (node (o131 P) (node (o197 P) (node (o336 P) nil nil) nil) (node (o263 P) (node (o402 P) nil nil) nil))))) (node (o0 P) (node (o10 P) (node (o29 P) (node (o67 P) (node (o143 P) (node (o278 P) nil nil) (node (o414 P) nil nil)) (node (o209 P) (node (o348 P) nil nil) nil)) (node (o108 P) (node (o177 P) (node (o313 P) nil nil) (node (o446 P) nil nil)) (node (o241 P) (node (o380 P) nil nil) nil))) (node (o48 P) (node (o89 P) (node (o159 P) (node (o294 P) nil nil) (node (o430 P) nil nil)) (node (o225 P) (node (o364 P) nil nil) nil)) (node (o127 P) (node (o193 P) (node (o329 P) nil nil) (node (o462 P) nil nil)) (node (o259 P) (node (o398 P) nil nil) nil)))) (node (o18 P) (node (o37 P) (node (o78 P) (node (o151 P) (node (o286 P) nil nil) (node (o422 P) nil nil)) (node (o217 P) (node (o356 P) nil nil) nil)) (node (o119 P) (node (o185 P) (node (o321 P) nil nil) (node (o454 P) nil nil)) (node (o251 P) (node (o390 P) nil nil) nil))) (node (o59 P) (node (o97 P) (node (o169 P) (node (o302 P) nil nil) (node (o438 P) nil nil)) (node (o233 P) (node (o372 P) nil nil) nil)) (node (o135 P) (node (o201 P) (node (o340 P) nil nil) nil) (node (o267 P) (node (o406 P) nil nil) nil)))))) (node (boot_o_5 P) (node (boot_o_9 P) (node (o8 P) (node (o24 P) (node (o65 P) (node (o141 P) (node (o273 P) nil nil) (node (o412 P) nil nil)) (node (o207 P) (node (o346 P) nil nil) nil)) (node (o106 P) (node (o175 P) (node (o311 P) nil nil) (node (o444 P) nil nil)) (node (o239 P) (node (o378 P) nil nil) nil))) (node (o46 P) (node (o84 P) (node (o157 P) (node (o292 P) nil nil) (node (o428 P) nil nil)) (node (o223 P) (node (o362 P) nil nil) nil)) (node (o125 P) (node (o191 P) (node (o327 P) nil nil) (node (o460 P) nil nil)) (node (o257 P) (node (o396 P) nil nil) nil)))) (node (o16 P) (node (o35 P) (node (o76 P) (node (o149 P) (node (o284 P) nil nil) (node (o420 P) nil nil)) (node (o215 P) (node (o354 P) nil nil) nil)) (node (o114 P) (node (o183 P) (node (o319 P) nil nil) (node (o452 P) nil nil)) (node (o247 P) (node (o388 P) nil nil) nil))) (node (o54 P) (node (o95 P) (node (o165 P) (node (o300 P) nil nil) (node (o436 P) nil nil)) (node (o231 P) (node (o370 P) nil nil) nil)) (node (o133 P) (node (o199 P) (node (o338 P) nil nil) nil) (node (o265 P) (node (o404 P) nil nil) nil))))) (node (o2 P) (node (o12 P) (node (o31 P) (node (o69 P) (node (o145 P) (node (o280 P) nil nil) (node (o416 P) nil nil)) (node (o211 P) (node (o350 P) nil nil) nil)) (node (o110 P) (node (o179 P) (node (o315 P) nil nil) (node (o448 P) nil nil)) (node (o243 P) (node (o382 P) nil nil) nil))) (node (o50 P) (node (o91 P) (node (o161 P) (node (o296 P) nil nil) (node (o432 P) nil nil)) (node (o227 P) (node (o366 P) nil nil) nil)) (node (o129 P) (node (o195 P) (node (o331 P) nil nil) nil) (node (o261 P) (node (o400 P) nil nil) nil)))) (node (o20 P) (node (o39 P) (node (o80 P) (node (o153 P) (node (o288 P) nil nil) (node (o424 P) nil nil)) (node (o219 P) (node (o358 P) nil nil) nil)) (node (o121 P) (node (o187 P) (node (o323 P) nil nil) (node (o456 P) nil nil)) (node (o253 P) (node (o392 P) nil nil) nil))) (node (o61 P) (node (o99 P) (node (o171 P) (node (o307 P) nil nil) (node (o440 P) nil nil)) (node (o235 P) (node (o374 P) nil nil) nil)) (node (o137 P) (node (o203 P) (node (o342 P) nil nil) nil) (node (o269 P) (node (o408 P) nil nil) nil))))))) (node (boot_o_2 P) (node (boot_o_4 P) (node (boot_o_8 P) (node (o7 P) (node (o23 P) (node (o64 P) (node (o140 P) (node (o272 P) nil nil) (node (o411 P) nil nil)) (node (o206 P) (node (o345 P) nil nil) nil)) (node (o105 P) (node (o174 P) (node (o310 P) nil nil) (node (o443 P) nil nil)) (node (o238 P) (node (o377 P) nil nil) nil))) (node (o45 P) (node (o83 P) (node (o156 P) (node (o291 P) nil nil) (node (o427 P) nil nil)) (node (o222 P) (node (o361 P) nil nil) nil)) (node (o124 P) (node (o190 P) (node (o326 P) nil nil) (node (o459 P) nil nil)) (node (o256 P) (node (o395 P) nil nil) nil)))) (node (o15 P) (node (o34 P) (node (o75 P) (node (o148 P) (node (o283 P) nil nil) (node (o419 P) nil nil)) (node (o214 P) (node (o353 P) nil nil) nil)) (node (o113 P) (node (o182 P) (node (o318 P) nil nil) (node (o451 P) nil nil)) (node (o246 P) (node (o387 P) nil nil) nil))) (node (o53 P) (node (o94 P) (node (o164 P) (node (o299 P) nil nil) (node (o435 P) nil nil)) (node (o230 P) (node (o369 P) nil nil) nil)) (node (o132 P) (node (o198 P) (node (o337 P) nil nil) nil) (node (o264 P) (node (o403 P) nil nil) nil))))) (node (o384 P) (node (o11 P) (node (o30 P) (node (o68 P) (node (o144 P) (node (o279 P) nil nil) (node (o415 P) nil nil)) (node (o210 P) (node (o349 P) nil nil) nil)) (node (o109 P) (node (o178 P) (node (o314 P) nil nil) (node (o447 P) nil nil)) (node (o242 P) (node (o381 P) nil nil) nil))) (node (o49 P) (node (o90 P) (node (o160 P) (node (o295 P) nil nil) (node (o431 P) nil nil)) (node (o226 P) (node (o365 P) nil nil) nil)) (node (o128 P) (node (o194 P) (node (o330 P) nil nil) (node (o463 P) nil nil)) (node (o260 P) (node (o399 P) nil nil) nil)))) (node (o19 P) (node (o38 P) (node (o79 P) (node (o152 P) (node (o287 P) nil nil) (node (o423 P) nil nil)) (node (o218 P) (node (o357 P) nil nil) nil)) (node (o120 P) (node (o186 P) (node (o322 P) nil nil) (node (o455 P) nil nil)) (node (o252 P) (node (o391 P) nil nil) nil))) (node (o60 P) (node (o98 P) (node (o170 P) (node (o303 P) nil nil) (node (o439 P) nil nil)) (node (o234 P) (node (o373 P) nil nil) nil)) (node (o136 P) (node (o202 P) (node (o341 P) nil nil) nil) (node (o268 P) (node (o407 P) nil nil) nil)))))) (node (boot_o_6 P) (node (boot_o_10 P) (node (o9 P) (node (o25 P) (node (o66 P) (node (o142 P) (node (o274 P) nil nil) (node (o413 P) nil nil)) (node (o208 P) (node (o347 P) nil nil) nil)) (node (o107 P) (node (o176 P) (node (o312 P) nil nil) (node (o445 P) nil nil)) (node (o240 P) (node (o379 P) nil nil) nil))) (node (o47 P) (node (o85 P) (node (o158 P) (node (o293 P) nil nil) (node (o429 P) nil nil)) (node (o224 P) (node (o363 P) nil nil) nil)) (node (o126 P) (node (o192 P) (node (o328 P) nil nil) (node (o461 P) nil nil)) (node (o258 P) (node (o397 P) nil nil) nil)))) (node (o17 P) (node (o36 P) (node (o77 P) (node (o150 P) (node (o285 P) nil nil) (node (o421 P) nil nil)) (node (o216 P) (node (o355 P) nil nil) nil)) (node (o115 P) (node (o184 P) (node (o320 P) nil nil) (node (o453 P) nil nil)) (node (o248 P) (node (o389 P) nil nil) nil))) (node (o55 P) (node (o96 P) (node (o168 P) (node (o301 P) nil nil) (node (o437 P) nil nil)) (node (o232 P) (node (o371 P) nil nil) nil)) (node (o134 P) (node (o200 P) (node (o339 P) nil nil) nil) (node (o266 P) (node (o405 P) nil nil) nil))))) (node (o3 P) (node (o13 P) (node (o32 P) (node (o70 P) (node (o146 P) (node (o281 P) nil nil) (node (o417 P) nil nil)) (node (o212 P) (node (o351 P) nil nil) nil)) (node (o111 P) (node (o180 P) (node (o316 P) nil nil) (node (o449 P) nil nil)) (node (o244 P) (node (o385 P) nil nil) nil))) (node (o51 P) (node (o92 P) (node (o162 P) (node (o297 P) nil nil) (node (o433 P) nil nil)) (node (o228 P) (node (o367 P) nil nil) nil)) (node (o130 P) (node (o196 P) (node (o332 P) nil nil) nil) (node (o262 P) (node (o401 P) nil nil) nil)))) (node (o21 P) (node (o40 P) (node (o81 P) (node (o154 P) (node (o289 P) nil nil) (node (o425 P) nil nil)) (node (o220 P) (node (o359 P) nil nil) nil)) (node (o122 P) (node (o188 P) (node (o324 P) nil nil) (node (o457 P) nil nil)) (node (o254 P) (node (o393 P) nil nil) nil))) (node (o62 P) (node (o100 P) (node (o172 P) (node (o308 P) nil nil) (node (o441 P) nil nil)) (node (o236 P) (node (o375 P) nil nil) nil)) (node (o138 P) (node (o204 P) (node (o343 P) nil nil) nil) (node (o335 P) (node (o409 P) nil nil) nil))))))))
def t15 (P : Params) : BT := (node (boot_o_0 P) (node (boot_o_1 P) (node (o464 P) (node (boot_o_7 P) (node (o6 P) (node (o118 P) (node (o63 P) (node (o139 P) (node (o271 P) nil nil) (node (o410 P) nil nil)) (node (o205 P) (node (o344 P) nil nil) (node (o476 P) nil nil))) (node (o104 P) (node (o173 P) (node (o309 P) nil nil) (node (o442 P) nil nil)) (node (o237 P) (node (o376 P) nil nil) (node (o508 P) nil nil)))) (node (o44 P) (node (o82 P) (node (o155 P) (node (o290 P) nil nil) (node (o426 P) nil nil)) (node (o221 P) (node (o360 P) nil nil) (node (o492 P) nil nil))) (node (o123 P) (node (o189 P) (node (o325 P) nil nil) (node (o458 P) nil nil)) (node (o255 P) (node (o394 P) nil nil) nil)))) (node (o14 P) (node (o33 P) (node (o74 P) (node (o147 P) (node (o282 P) nil nil) (node (o418 P) nil nil)) (node (o213 P) (node (o352 P) nil nil) (node (o484 P) nil nil))) (node (o112 P) (node (o181 P) (node (o317 P) nil nil) (node (o450 P) nil nil)) (node (o245 P) (node (o386 P) nil nil) (node (o516 P) nil nil)))) (node (o52 P) (node (o93 P) (node (o163 P) (node (o298 P) nil nil) (node (o434 P) nil nil)) (node (o229 P) (node (o368 P) nil nil) (node (o500 P) nil nil))) (node (o131 P) (node (o197 P) (node (o336 P) nil nil) (node (o468 P) nil nil)) (node (o263 P) (node (o402 P) nil nil) nil))))) (node (o0 P) (node (o10 P) (node (o29 P) (node (o67 P) (node (o143 P) (node (o278 P) nil nil) (node (o414 P) nil nil)) (node (o209 P) (node (o348 P) nil nil) (node (o480 P) nil nil))) (node (o108 P) (node (o177 P) (node (o313 P) nil nil) (node (o446 P) nil nil)) (node (o241 P) (node (o380 P) nil nil) (node (o512 P) nil nil)))) (node (o48 P) (node (o89 P) (node (o159 P) (node (o294 P) nil nil) (node (o430 P) nil nil)) (node (o225 P) (node (o364 P) nil nil) (node (o496 P) nil nil))) (node (o127 P) (node (o193 P) (node (o329 P) nil nil) (node (o462 P) nil nil)) (node (o259 P) (node (o398 P) nil nil) nil)))) (node (o18 P) (node (o37 P) (node (o78 P) (node (o151 P) (node (o286 P) nil nil) (node (o422 P) nil nil)) (node (o217 P) (node (o356 P) nil nil) (node (o488 P) nil nil))) (node (o119 P) (node (o185 P) (node (o321 P) nil nil) (node (o454 P) nil nil)) (node (o251 P) (node (o390 P) nil nil) nil))) (node (o59 P) (node (o97 P) (node (o169 P) (node (o302 P) nil nil) (node (o438 P) nil nil)) (node (o233 P) (node (o372 P) nil nil) (node (o504 P) nil nil))) (node (o135 P) (node (o201 P) (node (o340 P) nil nil) (node (o472 P) nil nil)) (node (o267 P) (node (o406 P) nil nil) nil)))))) (node (boot_o_5 P) (node (boot_o_9 P) (node (o8 P) (node (o24 P) (node (o65 P) (node (o141 P) (node (o273 P) nil nil) (node (o412 P) nil nil)) (node (o207 P) (node (o346 P) nil nil) (node (o478 P) nil nil))) (node (o106 P) (node (o175 P) (node (o311 P) nil nil) (node (o444 P) nil nil)) (node (o239 P) (node (o378 P) nil nil) (node (o510 P) nil nil)))) (node (o46 P) (node (o84 P) (node (o157 P) (node (o292 P) nil nil) (node (o428 P) nil nil)) (node (o223 P) (node (o362 P) nil nil) (node (o494 P) nil nil))) (node (o125 P) (node (o191 P) (node (o327 P) nil nil) (node (o460 P) nil nil)) (node (o257 P) (node (o396 P) nil nil) nil)))) (node (o16 P) (node (o35 P) (node (o76 P) (node (o149 P) (node (o284 P) nil nil) (node (o420 P) nil nil)) (node (o215 P) (node (o354 P) nil nil) (node (o486 P) nil nil))) (node (o114 P) (node (o183 P) (node (o319 P) nil nil) (node (o452 P) nil nil)) (node (o247 P) (node (o388 P) nil nil) (node (o518 P) nil nil)))) (node (o54 P) (node (o95 P) (node (o165 P) (node (o300 P) nil nil) (node (o436 P) nil nil)) (node (o231 P) (node (o370 P) nil nil) (node (o502 P) nil nil))) (node (o133 P) (node (o199 P) (node (o338 P) nil nil) (node (o470 P) nil nil)) (node (o265 P) (node (o404 P) nil nil) nil))))) (node (o2 P) (node (o12 P) (node (o31 P) (node (o69 P) (node (o145 P) (node (o280 P) nil nil) (node (o416 P) nil nil)) (node (o211 P) (node (o350 P) nil nil) (node (o482 P) nil nil))) (node (o110 P) (node (o179 P) (node (o315 P) nil nil) (node (o448 P) nil nil)) (node (o243 P) (node (o382 P) nil nil) (node (o514 P) nil nil)))) (node (o50 P) (node (o91 P) (node (o161 P) (node (o296 P) nil nil) (node (o432 P) nil nil)) (node (o227 P) (node (o366 P) nil nil) (node (o498 P) nil nil))) (node (o129 P) (node (o195 P) (node (o331 P) nil nil) (node (o466 P) nil nil)) (node (o261 P) (node (o400 P) nil nil) nil)))) (node (o20 P) (node (o39 P) (node (o80 P) (node (o153 P) (node (o288 P) nil nil) (node (o424 P) nil nil)) (node (o219 P) (node (o358 P) nil nil) (node (o490 P) nil nil))) (node (o121 P) (node (o187 P) (node (o323 P) nil nil) (node (o456 P) nil nil)) (node (o253 P) (node (o392 P) nil nil) nil))) (node (o61 P) (node (o99 P) (node (o171 P) (node (o307 P) nil nil) (node (o440 P) nil nil)) (node (o235 P) (node (o374 P) nil nil) (node (o506 P) nil nil))) (node (o137 P) (node (o203 P) (node (o342 P) nil nil) (node (o474 P) nil nil)) (node (o269 P) (node (o408 P) nil nil) nil))))))) (node (boot_o_2 P) (node (boot_o_4 P) (node (boot_o_8 P) (node (o7 P) (node (o23 P) (node (o64 P) (node (o140 P) (node (o272 P) nil nil) (node (o411 P) nil nil)) (node (o206 P) (node (o345 P) nil nil) (node (o477 P) nil nil))) (node (o105 P) (node (o174 P) (node (o310 P) nil nil) (node (o443 P) nil nil)) (node (o238 P) (node (o377 P) nil nil) (node (o509 P) nil nil)))) (node (o45 P) (node (o83 P) (node (o156 P) (node (o291 P) nil nil) (node (o427 P) nil nil)) (node (o222 P) (node (o361 P) nil nil) (node (o493 P) nil nil))) (node (o124 P) (node (o190 P) (node (o326 P) nil nil) (node (o459 P) nil nil)) (node (o256 P) (node (o395 P) nil nil) nil)))) (node (o15 P) (node (o34 P) (node (o75 P) (node (o148 P) (node (o283 P) nil nil) (node (o419 P) nil nil)) (node (o214 P) (node (o353 P) nil nil) (node (o485 P) nil nil))) (node (o113 P) (node (o182 P) (node (o318 P) nil nil) (node (o451 P) nil nil)) (node (o246 P) (node (o387 P) nil nil) (node (o517 P) nil nil)))) (node (o53 P) (node (o94 P) (node (o164 P) (node (o299 P) nil nil) (node (o435 P) nil nil)) (node (o230 P) (node (o369 P) nil nil) (node (o501 P) nil nil))) (node (o132 P) (node (o198 P) (node (o337 P) nil nil) (node (o469 P) nil nil)) (node (o264 P) (node (o403 P) nil nil) nil))))) (node (o465 P) (node (o11 P) (node (o30 P) (node (o68 P) (node (o144 P) (node (o279 P) nil nil) (node (o415 P) nil nil)) (node (o210 P) (node (o349 P) nil nil) (node (o481 P) nil nil))) (node (o109 P) (node (o178 P) (node (o314 P) nil nil) (node (o447 P) nil nil)) (node (o242 P) (node (o381 P) nil nil) (node (o513 P) nil nil)))) (node (o49 P) (node (o90 P) (node (o160 P) (node (o295 P) nil nil) (node (o431 P) nil nil)) (node (o226 P) (node (o365 P) nil nil) (node (o497 P) nil nil))) (node (o128 P) (node (o194 P) (node (o330 P) nil nil) (node (o463 P) nil nil)) (node (o260 P) (node (o399 P) nil nil) nil)))) (node (o19 P) (node (o38 P) (node (o79 P) (node (o152 P) (node (o287 P) nil nil) (node (o423 P) nil nil)) (node (o218 P) (node (o357 P) nil nil) (node (o489 P) nil nil))) (node (o120 P) (node (o186 P) (node (o322 P) nil nil) (node (o455 P) nil nil)) (node (o252 P) (node (o391 P) nil nil) nil))) (node (o60 P) (node (o98 P) (node (o170 P) (node (o303 P) nil nil) (node (o439 P) nil nil)) (node (o234 P) (node (o373 P) nil nil) (node (o505 P) nil nil))) (node (o136 P) (node (o202 P) (node (o341 P) nil nil) (node (o473 P) nil nil)) (node (o268 P) (node (o407 P) nil nil) nil)))))) (node (boot_o_6 P) (node (boot_o_10 P) (node (o9 P) (node (o25 P) (node (o66 P) (node (o142 P) (node (o274 P) nil nil) (node (o413 P) nil nil)) (node (o208 P) (node (o347 P) nil nil) (node (o479 P) nil nil))) (node (o107 P) (node (o176 P) (node (o312 P) nil nil) (node (o445 P) nil nil)) (node (o240 P) (node (o379 P) nil nil) (node (o511 P) nil nil)))) (node (o47 P) (node (o85 P) (node (o158 P) (node (o293 P) nil nil) (node (o429 P) nil nil)) (node (o224 P) (node (o363 P) nil nil) (node (o495 P) nil nil))) (node (o126 P) (node (o192 P) (node (o328 P) nil nil) (node (o461 P) nil nil)) (node (o258 P) (node (o397 P) nil nil) nil)))) (node (o17 P) (node (o36 P) (node (o77 P) (node (o150 P) (node (o285 P) nil nil) (node (o421 P) nil nil)) (node (o216 P) (node (o355 P) nil nil) (node (o487 P) nil nil))) (node (o115 P) (node (o184 P) (node (o320 P) nil nil) (node (o453 P) nil nil)) (node (o248 P) (node (o389 P) nil nil) (node (o519 P) nil nil)))) (node (o55 P) (node (o96 P) (node (o168 P) (node (o301 P) nil nil) (node (o437 P) nil nil)) (node (o232 P) (node (o371 P) nil nil) (node (o503 P) nil nil))) (node (o134 P) (node (o200 P) (node (o339 P) nil nil) (node (o471 P) nil nil)) (node (o266 P) (node (o405 P) nil nil) nil))))) (node (o3 P) (node (o13 P) (node (o32 P) (node (o70 P) (node (o146 P) (node (o281 P) nil nil) (node (o417 P) nil nil)) (node (o212 P) (node (o351 P) nil nil) (node (o483 P) nil nil))) (node (o111 P) (node (o180 P) (node (o316 P) nil nil) (node (o449 P) nil nil)) (node (o244 P) (node (o385 P) nil nil) (node (o515 P) nil nil)))) (node (o51 P) (node (o92 P) (node (o162 P) (node (o297 P) nil nil) (node (o433 P) nil nil)) (node (o228 P) (node (o367 P) nil nil) (node (o499 P) nil nil))) (node (o130 P) (node (o196 P) (node (o332 P) nil nil) (node (o467 P) nil nil)) (node (o262 P) (node (o401 P) nil nil) nil)))) (node (o21 P) (node (o40 P) (node (o81 P) (node (o154 P) (node (o289 P) nil nil) (node (o425 P) nil nil)) (node (o220 P) (node (o359 P) nil nil) (node (o491 P) nil nil))) (node (o122 P) (node (o188 P) (node (o324 P) nil nil) (node (o457 P) nil nil)) (node (o254 P) (node (o393 P) nil nil) nil))) (node (o62 P) (node (o100 P) (node (o172 P) (node (o308 P) nil nil) (node (o441 P) nil nil)) (node (o236 P) (node (o375 P) nil nil) (node (o507 P) nil nil))) (node (o138 P) (node (o204 P) (node (o343 P) nil nil) (node (o475 P) nil nil)) (node (o335 P) (node (o409 P) nil nil) nil))))))))
def hFin (P : Params) : Heap := ⟨⟨[boot_o_0 P, boot_o_1 P, boot_o_2 P, o464 P, boot_o_4 P, boot_o_5 P, boot_o_6 P, boot_o_7 P, boot_o_8 P, boot_o_9 P, boot_o_10 P, o0 P, o465 P, o2 P, o3 P, o6 P, o7 P, o8 P, o9 P, o10 P, o11 P, o12 P, o13 P, o14 P, o15 P, o16 P, o17 P, o18 P, o19 P, o20 P, o21 P, o118 P, o23 P, o24 P, o25 P, o29 P, o30 P, o31 P, o32 P, o33 P, o34 P, o35 P, o36 P, o37 P, o38 P, o39 P, o40 P, o44 P, o45 P, o46 P, o47 P, o48 P, o49 P, o50 P, o51 P, o52 P, o53 P, o54 P, o55 P, o59 P, o60 P, o61 P, o62 P, o63 P, o64 P, o65 P, o66 P, o67 P, o68 P, o69 P, o70 P, o74 P, o75 P, o76 P, o77 P, o78 P, o79 P, o80 P, o81 P, o82 P, o83 P, o84 P, o85 P, o89 P, o90 P, o91 P, o92 P, o93 P, o94 P, o95 P, o96 P, o97 P, o98 P, o99 P, o100 P, o104 P, o105 P, o106 P, o107 P, o108 P, o109 P, o110 P, o111 P, o112 P, o113 P, o114 P, o115 P, o119 P, o120 P, o121 P, o122 P, o123 P, o124 P, o125 P, o126 P, o127 P, o128 P, o129 P, o130 P, o131 P, o132 P, o133 P, o134 P, o135 P, o136 P, o137 P, o138 P, o139 P, o140 P, o141 P, o142 P, o143 P, o144 P, o145 P, o146 P, o147 P, o148 P, o149 P, o150 P, o151 P, o152 P, o153 P, o154 P, o155 P, o156 P, o157 P, o158 P, o159 P, o160 P, o161 P, o162 P, o163 P, o164 P, o165 P, o168 P, o169 P, o170 P, o171 P, o172 P, o173 P, o174 P, o175 P, o176 P, o177 P, o178 P, o179 P, o180 P, o181 P, o182 P, o183 P, o184 P, o185 P, o186 P, o187 P, o188 P, o189 P, o190 P, o191 P, o192 P, o193 P, o194 P, o195 P, o196 P, o197 P, o198 P, o199 P, o200 P, o201 P, o202 P, o203 P, o204 P, o205 P, o206 P, o207 P, o208 P, o209 P, o210 P, o211 P, o212 P, o213 P, o214 P, o215 P, o216 P, o217 P, o218 P, o219 P, o220 P, o221 P, o222 P, o223 P, o224 P, o225 P, o226 P, o227 P, o228 P, o229 P, o230 P, o231 P, o232 P, o233 P, o234 P, o235 P, o236 P, o237 P, o238 P, o239 P, o240 P, o241 P, o242 P, o243 P, o244 P, o245 P, o246 P, o247 P, o248 P, o251 P, o252 P, o253 P, o254 P, o255 P, o256 P, o257 P, o258 P, o259 P, o260 P, o261 P, o262 P, o263 P, o264 P, o265 P, o266 P, o267 P, o268 P, o269 P, o335 P, o271 P, o272 P, o273 P, o274 P, o278 P, o279 P, o280 P, o281 P, o282 P, o283 P, o284 P, o285 P, o286 P, o287 P, o288 P, o289 P, o290 P, o291 P, o292 P, o293 P, o294 P, o295 P, o296 P, o297 P, o298 P, o299 P, o300 P, o301 P, o302 P, o303 P, o307 P, o308 P, o309 P, o310 P, o311 P, o312 P, o313 P, o314 P, o315 P, o316 P, o317 P, o318 P, o319 P, o320 P, o321 P, o322 P, o323 P, o324 P, o325 P, o326 P, o327 P, o328 P, o329 P, o330 P, o331 P, o332 P, o336 P, o337 P, o338 P, o339 P, o340 P, o341 P, o342 P, o343 P, o344 P, o345 P, o346 P, o347 P, o348 P, o349 P, o350 P, o351 P, o352 P, o353 P, o354 P, o355 P, o356 P, o357 P, o358 P, o359 P, o360 P, o361 P, o362 P, o363 P, o364 P, o365 P, o366 P, o367 P, o368 P, o369 P, o370 P, o371 P, o372 P, o373 P, o374 P, o375 P, o376 P, o377 P, o378 P, o379 P, o380 P, o381 P, o382 P, o385 P, o386 P, o387 P, o388 P, o389 P, o390 P, o391 P, o392 P, o393 P, o394 P, o395 P, o396 P, o397 P, o398 P, o399 P, o400 P, o401 P, o402 P, o403 P, o404 P, o405 P, o406 P, o407 P, o408 P, o409 P, o410 P, o411 P, o412 P, o413 P, o414 P, o415 P, o416 P, o417 P, o418 P, o419 P, o420 P, o421 P, o422 P, o423 P, o424 P, o425 P, o426 P, o427 P, o428 P, o429 P, o430 P, o431 P, o432 P, o433 P, o434 P, o435 P, o436 P, o437 P, o438 P, o439 P, o440 P, o441 P, o442 P, o443 P, o444 P, o445 P, o446 P, o447 P, o448 P, o449 P, o450 P, o451 P, o452 P, o453 P, o454 P, o455 P, o456 P, o457 P, o458 P, o459 P, o460 P, o461 P, o462 P, o463 P, o466 P, o467 P, o468 P, o469 P, o470 P, o471 P, o472 P, o473 P, o474 P, o475 P, o476 P, o477 P, o478 P, o479 P, o480 P, o481 P, o482 P, o483 P, o484 P, o485 P, o486 P, o487 P, o488 P, o489 P, o490 P, o491 P, o492 P, o493 P, o494 P, o495 P, o496 P, o497 P, o498 P, o499 P, o500 P, o501 P, o502 P, o503 P, o504 P, o505 P, o506 P, o507 P, o508 P, o509 P, o510 P, o511 P, o512 P, o513 P, o514 P, o515 P, o516 P, o517 P, o518 P, o519 P]⟩, {  }⟩
def hK (P : Params) : Frag := (nat_lit 2, boot_o_2 P) :: (nat_lit 3, o464 P) :: (nat_lit 15, o6 P) :: (nat_lit 17, o8 P) :: (nat_lit 18, o9 P) :: (nat_lit 20, o11 P) :: (nat_lit 21, o12 P) :: (nat_lit 22, o13 P) :: (nat_lit 29, o20 P) :: (nat_lit 30, o21 P) :: (nat_lit 31, o118 P) :: (nat_lit 32, o23 P) :: (nat_lit 35, o29 P) :: (nat_lit 42, o36 P) :: (nat_lit 43, o37 P) :: (nat_lit 44, o38 P) :: (nat_lit 47, o44 P) :: (nat_lit 54, o51 P) :: (nat_lit 55, o52 P) :: (nat_lit 56, o53 P) :: (nat_lit 59, o59 P) :: (nat_lit 66, o66 P) :: (nat_lit 67, o67 P) :: (nat_lit 68, o68 P) :: (nat_lit 71, o74 P) :: (nat_lit 78, o81 P) :: (nat_lit 79, o82 P) :: (nat_lit 80, o83 P) :: (nat_lit 83, o89 P) :: (nat_lit 90, o96 P) :: (nat_lit 91, o97 P) :: (nat_lit 92, o98 P) :: (nat_lit 95, o104 P) :: (nat_lit 102, o111 P) :: (nat_lit 103, o112 P) :: (nat_lit 104, o113 P) :: (nat_lit 107, o119 P) :: (nat_lit 114, o126 P) :: (nat_lit 115, o127 P) :: (nat_lit 116, o128 P) :: (nat_lit 119, o131 P) :: (nat_lit 121, o133 P) :: (nat_lit 122, o134 P) :: (nat_lit 124, o136 P) :: (nat_lit 125, o137 P) :: (nat_lit 126, o138 P) :: (nat_lit 128, o140 P) :: (nat_lit 129, o141 P) :: (nat_lit 131, o143 P) :: (nat_lit 132, o144 P) :: (nat_lit 133, o145 P) :: (nat_lit 135, o147 P) :: (nat_lit 136, o148 P) :: (nat_lit 138, o150 P) :: (nat_lit 139, o151 P) :: (nat_lit 140, o152 P) :: (nat_lit 142, o154 P) :: (nat_lit 143, o155 P) :: (nat_lit 145, o157 P) :: (nat_lit 146, o158 P) :: (nat_lit 147, o159 P) :: (nat_lit 149, o161 P) :: (nat_lit 150, o162 P) :: (nat_lit 152, o164 P) :: (nat_lit 153, o165 P) :: (nat_lit 154, o168 P) :: (nat_lit 156, o170 P) :: (nat_lit 157, o171 P) :: (nat_lit 159, o173 P) :: (nat_lit 160, o174 P) :: (nat_lit 161, o175 P) :: (nat_lit 163, o177 P) :: (nat_lit 164, o178 P) :: (nat_lit 166, o180 P) :: (nat_lit 167, o181 P) :: (nat_lit 168, o182 P) :: (nat_lit 170, o184 P) :: (nat_lit 171, o185 P) :: (nat_lit 173, o187 P) :: (nat_lit 174, o188 P) :: (nat_lit 175, o189 P) :: (nat_lit 177, o191 P) :: (nat_lit 178, o192 P) :: (nat_lit 180, o194 P) :: (nat_lit 181, o195 P) :: (nat_lit 182, o196 P) :: (nat_lit 184, o198 P) :: (nat_lit 185, o199 P) :: (nat_lit 187, o201 P) :: (nat_lit 188, o202 P) :: (nat_lit 189, o203 P) :: (nat_lit 191, o205 P) :: (nat_lit 192, o206 P) :: (nat_lit 194, o208 P) :: (nat_lit 195, o209 P) :: (nat_lit 196, o210 P) :: (nat_lit 199, o213 P) :: (nat_lit 200, o214 P) :: (nat_lit 201, o215 P) :: (nat_lit 204, o218 P) :: (nat_lit 205, o219 P) :: (nat_lit 206, o220 P) :: (nat_lit 208, o222 P) :: (nat_lit 209, o223 P) :: (nat_lit 211, o225 P) :: (nat_lit 212, o226 P) :: (nat_lit 213, o227 P) :: (nat_lit 215, o229 P) :: (nat_lit 216, o230 P) :: (nat_lit 218, o232 P) :: (nat_lit 219, o233 P) :: (nat_lit 220, o234 P) :: (nat_lit 223, o237 P) :: (nat_lit 224, o238 P) :: (nat_lit 225, o239 P) :: (nat_lit 228, o242 P) :: (nat_lit 229, o243 P) :: (nat_lit 230, o244 P) :: (nat_lit 233, o247 P) :: (nat_lit 234, o248 P) :: (nat_lit 235, o251 P) :: (nat_lit 238, o254 P) :: (nat_lit 239, o255 P) :: (nat_lit 240, o256 P) :: (nat_lit 243, o259 P) :: (nat_lit 244, o260 P) :: (nat_lit 252, o268 P) :: (nat_lit 253, o269 P) :: (nat_lit 254, o335 P) :: (nat_lit 255, o271 P) :: (nat_lit 256, o272 P) :: (nat_lit 259, o278 P) :: (nat_lit 266, o285 P) :: (nat_lit 268, o287 P) :: (nat_lit 269, o288 P) :: (nat_lit 271, o290 P) :: (nat_lit 272, o291 P) :: (nat_lit 273, o292 P) :: (nat_lit 275, o294 P) :: (nat_lit 276, o295 P) :: (nat_lit 278, o297 P) :: (nat_lit 279, o298 P) :: (nat_lit 280, o299 P) :: (nat_lit 281, o300 P) :: (nat_lit 282, o301 P) :: (nat_lit 285, o307 P) :: (nat_lit 292, o314 P) :: (nat_lit 294, o316 P) :: (nat_lit 295, o317 P) :: (nat_lit 297, o319 P) :: (nat_lit 298, o320 P) :: (nat_lit 299, o321 P) :: (nat_lit 301, o323 P) :: (nat_lit 302, o324 P) :: (nat_lit 304, o326 P) :: (nat_lit 305, o327 P) :: (nat_lit 306, o328 P) :: (nat_lit 307, o329 P) :: (nat_lit 308, o330 P) :: (nat_lit 311, o336 P) :: (nat_lit 318, o343 P) :: (nat_lit 320, o345 P) :: (nat_lit 321, o346 P) :: (nat_lit 323, o348 P) :: (nat_lit 324, o349 P) :: (nat_lit 325, o350 P) :: (nat_lit 327, o352 P) :: (nat_lit 328, o353 P) :: (nat_lit 330, o355 P) :: (nat_lit 331, o356 P) :: (nat_lit 332, o357 P) :: (nat_lit 333, o358 P) :: (nat_lit 334, o359 P) :: (nat_lit 337, o362 P) :: (nat_lit 339, o364 P) :: (nat_lit 340, o365 P) :: (nat_lit 342, o367 P) :: (nat_lit 343, o368 P) :: (nat_lit 344, o369 P) :: (nat_lit 346, o371 P) :: (nat_lit 347, o372 P) :: (nat_lit 349, o374 P) :: (nat_lit 350, o375 P) :: (nat_lit 351, o376 P) :: (nat_lit 353, o378 P) :: (nat_lit 354, o379 P) :: (nat_lit 356, o381 P) :: (nat_lit 357, o382 P) :: (nat_lit 358, o385 P) :: (nat_lit 360, o387 P) :: (nat_lit 361, o388 P) :: (nat_lit 363, o390 P) :: (nat_lit 364, o391 P) :: (nat_lit 365, o392 P) :: (nat_lit 368, o395 P) :: (nat_lit 369, o396 P) :: (nat_lit 370, o397 P) :: (nat_lit 372, o399 P) :: (nat_lit 373, o400 P) :: (nat_lit 375, o402 P) :: (nat_lit 376, o403 P) :: (nat_lit 377, o404 P) :: (nat_lit 379, o406 P) :: (nat_lit 380, o407 P) :: (nat_lit 382, o409 P) :: (nat_lit 383, o410 P) :: (nat_lit 391, o418 P) :: (nat_lit 394, o421 P) :: (nat_lit 395, o422 P) :: (nat_lit 396, o423 P) :: (nat_lit 399, o426 P) :: (nat_lit 400, o427 P) :: (nat_lit 401, o428 P) :: (nat_lit 404, o431 P) :: (nat_lit 405, o432 P) :: (nat_lit 423, o450 P) :: (nat_lit 425, o452 P) :: (nat_lit 426, o453 P) :: (nat_lit 428, o455 P) :: (nat_lit 429, o456 P) :: (nat_lit 430, o457 P) :: (nat_lit 432, o459 P) :: (nat_lit 433, o460 P) :: (nat_lit 435, o462 P) :: (nat_lit 436, o463 P) :: (nat_lit 437, o466 P) :: (nat_lit 439, o468 P) :: (nat_lit 440, o469 P) :: (nat_lit 442, o471 P) :: (nat_lit 443, o472 P) :: (nat_lit 444, o473 P) :: (nat_lit 446, o475 P) :: (nat_lit 447, o476 P) :: (nat_lit 449, o478 P) :: (nat_lit 450, o479 P) :: (nat_lit 451, o480 P) :: (nat_lit 453, o482 P) :: (nat_lit 454, o483 P) :: (nat_lit 456, o485 P) :: (nat_lit 457, o486 P) :: (nat_lit 458, o487 P) :: (nat_lit 460, o489 P) :: (nat_lit 461, o490 P) :: (nat_lit 463, o492 P) :: (nat_lit 464, o493 P) :: (nat_lit 465, o494 P) :: (nat_lit 467, o496 P) :: (nat_lit 468, o497 P) :: (nat_lit 470, o499 P) :: (nat_lit 471, o500 P) :: (nat_lit 472, o501 P) :: (nat_lit 474, o503 P) :: (nat_lit 475, o504 P) :: (nat_lit 477, o506 P) :: (nat_lit 478, o507 P) :: (nat_lit 479, o508 P) :: (nat_lit 482, o511 P) :: (nat_lit 483, o512 P) :: (nat_lit 484, o513 P) :: (nat_lit 486, o515 P) :: (nat_lit 487, o516 P) :: (nat_lit 489, o518 P) :: (nat_lit 490, o519 P) :: []
def hAs : List Addr := nat_lit 2 :: nat_lit 3 :: nat_lit 15 :: nat_lit 17 :: nat_lit 18 :: nat_lit 20 :: nat_lit 21 :: nat_lit 22 :: nat_lit 29 :: nat_lit 30 :: nat_lit 31 :: nat_lit 32 :: nat_lit 35 :: nat_lit 42 :: nat_lit 43 :: nat_lit 44 :: nat_lit 47 :: nat_lit 54 :: nat_lit 55 :: nat_lit 56 :: nat_lit 59 :: nat_lit 66 :: nat_lit 67 :: nat_lit 68 :: nat_lit 71 :: nat_lit 78 :: nat_lit 79 :: nat_lit 80 :: nat_lit 83 :: nat_lit 90 :: nat_lit 91 :: nat_lit 92 :: nat_lit 95 :: nat_lit 102 :: nat_lit 103 :: nat_lit 104 :: nat_lit 107 :: nat_lit 114 :: nat_lit 115 :: nat_lit 116 :: nat_lit 119 :: nat_lit 121 :: nat_lit 122 :: nat_lit 124 :: nat_lit 125 :: nat_lit 126 :: nat_lit 128 :: nat_lit 129 :: nat_lit 131 :: nat_lit 132 :: nat_lit 133 :: nat_lit 135 :: nat_lit 136 :: nat_lit 138 :: nat_lit 139 :: nat_lit 140 :: nat_lit 142 :: nat_lit 143 :: nat_lit 145 :: nat_lit 146 :: nat_lit 147 :: nat_lit 149 :: nat_lit 150 :: nat_lit 152 :: nat_lit 153 :: nat_lit 154 :: nat_lit 156 :: nat_lit 157 :: nat_lit 159 :: nat_lit 160 :: nat_lit 161 :: nat_lit 163 :: nat_lit 164 :: nat_lit 166 :: nat_lit 167 :: nat_lit 168 :: nat_lit 170 :: nat_lit 171 :: nat_lit 173 :: nat_lit 174 :: nat_lit 175 :: nat_lit 177 :: nat_lit 178 :: nat_lit 180 :: nat_lit 181 :: nat_lit 182 :: nat_lit 184 :: nat_lit 185 :: nat_lit 187 :: nat_lit 188 :: nat_lit 189 :: nat_lit 191 :: nat_lit 192 :: nat_lit 194 :: nat_lit 195 :: nat_lit 196 :: nat_lit 199 :: nat_lit 200 :: nat_lit 201 :: nat_lit 204 :: nat_lit 205 :: nat_lit 206 :: nat_lit 208 :: nat_lit 209 :: nat_lit 211 :: nat_lit 212 :: nat_lit 213 :: nat_lit 215 :: nat_lit 216 :: nat_lit 218 :: nat_lit 219 :: nat_lit 220 :: nat_lit 223 :: nat_lit 224 :: nat_lit 225 :: nat_lit 228 :: nat_lit 229 :: nat_lit 230 :: nat_lit 233 :: nat_lit 234 :: nat_lit 235 :: nat_lit 238 :: nat_lit 239 :: nat_lit 240 :: nat_lit 243 :: nat_lit 244 :: nat_lit 252 :: nat_lit 253 :: nat_lit 254 :: nat_lit 255 :: nat_lit 256 :: nat_lit 259 :: nat_lit 266 :: nat_lit 268 :: nat_lit 269 :: nat_lit 271 :: nat_lit 272 :: nat_lit 273 :: nat_lit 275 :: nat_lit 276 :: nat_lit 278 :: nat_lit 279 :: nat_lit 280 :: nat_lit 281 :: nat_lit 282 :: nat_lit 285 :: nat_lit 292 :: nat_lit 294 :: nat_lit 295 :: nat_lit 297 :: nat_lit 298 :: nat_lit 299 :: nat_lit 301 :: nat_lit 302 :: nat_lit 304 :: nat_lit 305 :: nat_lit 306 :: nat_lit 307 :: nat_lit 308 :: nat_lit 311 :: nat_lit 318 :: nat_lit 320 :: nat_lit 321 :: nat_lit 323 :: nat_lit 324 :: nat_lit 325 :: nat_lit 327 :: nat_lit 328 :: nat_lit 330 :: nat_lit 331 :: nat_lit 332 :: nat_lit 333 :: nat_lit 334 :: nat_lit 337 :: nat_lit 339 :: nat_lit 340 :: nat_lit 342 :: nat_lit 343 :: nat_lit 344 :: nat_lit 346 :: nat_lit 347 :: nat_lit 349 :: nat_lit 350 :: nat_lit 351 :: nat_lit 353 :: nat_lit 354 :: nat_lit 356 :: nat_lit 357 :: nat_lit 358 :: nat_lit 360 :: nat_lit 361 :: nat_lit 363 :: nat_lit 364 :: nat_lit 365 :: nat_lit 368 :: nat_lit 369 :: nat_lit 370 :: nat_lit 372 :: nat_lit 373 :: nat_lit 375 :: nat_lit 376 :: nat_lit 377 :: nat_lit 379 :: nat_lit 380 :: nat_lit 382 :: nat_lit 383 :: nat_lit 391 :: nat_lit 394 :: nat_lit 395 :: nat_lit 396 :: nat_lit 399 :: nat_lit 400 :: nat_lit 401 :: nat_lit 404 :: nat_lit 405 :: nat_lit 423 :: nat_lit 425 :: nat_lit 426 :: nat_lit 428 :: nat_lit 429 :: nat_lit 430 :: nat_lit 432 :: nat_lit 433 :: nat_lit 435 :: nat_lit 436 :: nat_lit 437 :: nat_lit 439 :: nat_lit 440 :: nat_lit 442 :: nat_lit 443 :: nat_lit 444 :: nat_lit 446 :: nat_lit 447 :: nat_lit 449 :: nat_lit 450 :: nat_lit 451 :: nat_lit 453 :: nat_lit 454 :: nat_lit 456 :: nat_lit 457 :: nat_lit 458 :: nat_lit 460 :: nat_lit 461 :: nat_lit 463 :: nat_lit 464 :: nat_lit 465 :: nat_lit 467 :: nat_lit 468 :: nat_lit 470 :: nat_lit 471 :: nat_lit 472 :: nat_lit 474 :: nat_lit 475 :: nat_lit 477 :: nat_lit 478 :: nat_lit 479 :: nat_lit 482 :: nat_lit 483 :: nat_lit 484 :: nat_lit 486 :: nat_lit 487 :: nat_lit 489 :: nat_lit 490 :: []
def hEnv : Env := { scope := PySem.Challenge.pw_rulerow_k07_refused.main.scope, locals := mainNs, globals := mainNs, cells := [], code := (.ref 13), frame := some 14 }
def hC : Code := .body (behindTheImports PySem.Challenge.pw_rulerow_k07_refused) hEnv
end
section
variable {p : Program} {w : World} {m n b : Nat} {ann : Option Value} {t : Thread} {c : Code} {q q' : Pos} {B : List Frame} {r : Flow × Shared × Code × Pos}
theorem q_seg {s s' : SharedT} {f : Flow} (h : PySem.W.Fast.tw10110043849684766642 PySem.W.Fast.tw14364793385576792824 p w m ann b n s t = some (f, s', c, q)) : segRun treeTable p w m ann b n s.abs t = some (f, s'.abs, c, q) := segRun_of (by rw [PySem.W.Fast.te10110043849684766642, PySem.W.Fast.te14364793385576792824]; exact h)
theorem q_blk {s : Shared} (h : PySem.W.Fast.tw14374325043358763698 PySem.W.Fast.tw14364793385576792824 p w m ann b n s t = some r) : segRun treeTable p w m ann b n s t = some r := by rw [PySem.W.Fast.te14374325043358763698, PySem.W.Fast.te14364793385576792824]; exact h
theorem q_top {s s' : Shared} (h : PySem.W.Fast.tw14082659384304107361 PySem.W.Fast.tw14364793385576792824 p w m ann n s t = some s') : topRun treeTable p w m ann n s t = some s' := by rw [PySem.W.Fast.te14082659384304107361, PySem.W.Fast.te14364793385576792824]; exact h
theorem q_pre {s s' : Shared} (h : PySem.W.Fast.tw15667345088766844465 PySem.W.Fast.tw14364793385576792824 p w m ann n s t = some (s', ⟨PySem.W.Fast.tw11892475500146522536 PySem.W.Fast.tw14364793385576792824 c, c, q, B⟩)) : topGo treeTable p w m ann n s t = some (s', ⟨denote treeTable c, c, q, B⟩) := by rw [PySem.W.Fast.te15667345088766844465, PySem.W.Fast.te11892475500146522536, PySem.W.Fast.te14364793385576792824]; exact h
end
theorem h_pre (w : World) (os : OsState) : topGo treeTable PySem.Challenge.pw_rulerow_k07_refused w 11 (some (.ref 6)) 12 ⟨boot_heap w.params, ⟨[]⟩, boot_drawn, boot_toks, os⟩ (topStub PySem.Challenge.pw_rulerow_k07_refused) = some (⟨hPre w.params, ⟨[]⟩, ⟨0, 0, 0, 0⟩, 187, os⟩, ⟨denote treeTable hC, hC, ⟨0, 0, 0, 0⟩, [topFrame ⟨0, 0, 0, 0⟩]⟩) := q_pre (by kernel_rfl)
theorem h_blk (w : World) (os : OsState) : segRun treeTable PySem.Challenge.pw_rulerow_k07_refused w 11 (some (.ref 6)) 1 1 ⟨hPre w.params, ⟨[]⟩, ⟨0, 0, 0, 0⟩, 187, os⟩ (blockOf (behindTheImports PySem.Challenge.pw_rulerow_k07_refused) hEnv hC ⟨0, 0, 0, 0⟩ [topFrame ⟨0, 0, 0, 0⟩]) = some (.next, SharedT.abs ⟨t0 w.params, 15, {  }, ⟨[]⟩, ⟨0, 0, 0, 0⟩, 187, os⟩, hC, ⟨0, 0, 0, 0⟩) := q_blk (by kernel_rfl)
theorem pc0 (w : World) (os : OsState) : segRun treeTable PySem.Challenge.pw_rulerow_k07_refused w 11 (some (.ref 6)) 1 225 (SharedT.abs ⟨t0 w.params, 15, {  }, ⟨[]⟩, ⟨0, 0, 0, 0⟩, 187, os⟩) (piecesOf [top 0, top 1, top 2] hEnv hC ⟨0, 0, 0, 0⟩ [topFrame ⟨0, 0, 0, 0⟩]) = some (.next, SharedT.abs ⟨t1 w.params, 35, {  }, ⟨[]⟩, ⟨0, 0, 0, 0⟩, 214, os⟩, hC, ⟨5, 0, 6, 8⟩) := q_seg (by kernel_rfl)
theorem pc1 (w : World) (os : OsState) : segRun treeTable PySem.Challenge.pw_rulerow_k07_refused w 11 (some (.ref 6)) 1 214 (SharedT.abs ⟨t1 w.params, 35, {  }, ⟨[]⟩, ⟨0, 0, 0, 0⟩, 214, os⟩) (piecesOf [top 3] hEnv hC ⟨5, 0, 6, 8⟩ [topFrame ⟨0, 0, 0, 0⟩]) = some (.next, SharedT.abs ⟨t2 w.params, 47, {  }, ⟨[]⟩, ⟨0, 0, 0, 0⟩, 230, os⟩, hC, ⟨7, 0, 8, 8⟩) := q_seg (by kernel_rfl)
theorem pc2 (w : World) (os : OsState) : segRun treeTable PySem.Challenge.pw_rulerow_k07_refused w 11 (some (.ref 6)) 1 214 (SharedT.abs ⟨t2 w.params, 47, {  }, ⟨[]⟩, ⟨0, 0, 0, 0⟩, 230, os⟩) (piecesOf [top 4] hEnv hC ⟨7, 0, 8, 8⟩ [topFrame ⟨0, 0, 0, 0⟩]) = some (.next, SharedT.abs ⟨t3 w.params, 59, {  }, ⟨[]⟩, ⟨0, 0, 0, 0⟩, 246, os⟩, hC, ⟨9, 0, 10, 8⟩) := q_seg (by kernel_rfl)
theorem pc3 (w : World) (os : OsState) : segRun treeTable PySem.Challenge.pw_rulerow_k07_refused w 11 (some (.ref 6)) 1 214 (SharedT.abs ⟨t3 w.params, 59, {  }, ⟨[]⟩, ⟨0, 0, 0, 0⟩, 246, os⟩) (piecesOf [top 5] hEnv hC ⟨9, 0, 10, 8⟩ [topFrame ⟨0, 0, 0, 0⟩]) = some (.next, SharedT.abs ⟨t4 w.params, 71, {  }, ⟨[]⟩, ⟨0, 0, 0, 0⟩, 262, os⟩, hC, ⟨11, 0, 12, 8⟩) := q_seg (by kernel_rfl)
theorem pc4 (w : World) (os : OsState) : segRun treeTable PySem.Challenge.pw_rulerow_k07_refused w 11 (some (.ref 6)) 1 214 (SharedT.abs ⟨t4 w.params, 71, {  }, ⟨[]⟩, ⟨0, 0, 0, 0⟩, 262, os⟩) (piecesOf [top 6] hEnv hC ⟨11, 0, 12, 8⟩ [topFrame ⟨0, 0, 0, 0⟩]) = some (.next, SharedT.abs ⟨t5 w.params, 83, {  }, ⟨[]⟩, ⟨0, 0, 0, 0⟩, 278, os⟩, hC, ⟨13, 0, 14, 8⟩) := q_seg (by kernel_rfl)
theorem pc5 (w : World) (os : OsState) : segRun treeTable PySem.Challenge.pw_rulerow_k07_refused w 11 (some (.ref 6)) 1 214 (SharedT.abs ⟨t5 w.params, 83, {  }, ⟨[]⟩, ⟨0, 0, 0, 0⟩, 278, os⟩) (piecesOf [top 7] hEnv hC ⟨13, 0, 14, 8⟩ [topFrame ⟨0, 0, 0, 0⟩]) = some (.next, SharedT.abs ⟨t6 w.params, 95, {  }, ⟨[]⟩, ⟨0, 0, 0, 0⟩, 294, os⟩, hC, ⟨15, 0, 16, 8⟩) := q_seg (by kernel_rfl)
theorem pc6 (w : World) (os : OsState) : segRun treeTable PySem.Challenge.pw_rulerow_k07_refused w 11 (some (.ref 6)) 1 214 (SharedT.abs ⟨t6 w.params, 95, {  }, ⟨[]⟩, ⟨0, 0, 0, 0⟩, 294, os⟩) (piecesOf [top 8] hEnv hC ⟨15, 0, 16, 8⟩ [topFrame ⟨0, 0, 0, 0⟩]) = some (.next, SharedT.abs ⟨t7 w.params, 107, {  }, ⟨[]⟩, ⟨0, 0, 0, 0⟩, 310, os⟩, hC, ⟨17, 0, 18, 8⟩) := q_seg (by kernel_rfl)
theorem pc7 (w : World) (os : OsState) : segRun treeTable PySem.Challenge.pw_rulerow_k07_refused w 11 (some (.ref 6)) 1 390 (SharedT.abs ⟨t7 w.params, 107, {  }, ⟨[]⟩, ⟨0, 0, 0, 0⟩, 310, os⟩) (piecesOf [top 9, top 10, top 11, top 12, top 13, top 14, top 15, top 16, top 17] hEnv hC ⟨17, 0, 18, 8⟩ [topFrame ⟨0, 0, 0, 0⟩]) = some (.next, SharedT.abs ⟨t8 w.params, 154, {  }, ⟨[]⟩, ⟨0, 0, 0, 0⟩, 371, os⟩, hC, ⟨44, 0, 46, 51⟩) := q_seg (by kernel_rfl)
theorem pc8 (w : World) (os : OsState) : segRun treeTable PySem.Challenge.pw_rulerow_k07_refused w 11 (some (.ref 6)) 1 392 (SharedT.abs ⟨t8 w.params, 154, {  }, ⟨[]⟩, ⟨0, 0, 0, 0⟩, 371, os⟩) (piecesOf [top 18, top 19, top 20, top 21, top 22, top 23, top 24, top 25, top 26, top 27, top 28, top 29, top 30, top 31] hEnv hC ⟨44, 0, 46, 51⟩ [topFrame ⟨0, 0, 0, 0⟩]) = some (.next, SharedT.abs ⟨t9 w.params, 235, {  }, ⟨[]⟩, ⟨0, 0, 0, 0⟩, 479, os⟩, hC, ⟨122, 0, 123, 98⟩) := q_seg (by kernel_rfl)
theorem pc9 (w : World) (os : OsState) : segRun treeTable PySem.Challenge.pw_rulerow_k07_refused w 11 (some (.ref 6)) 1 252 (SharedT.abs ⟨t9 w.params, 235, {  }, ⟨[]⟩, ⟨0, 0, 0, 0⟩, 479, os⟩) (piecesOf [top 32, top 33, top 34, top 35] hEnv hC ⟨122, 0, 123, 98⟩ [topFrame ⟨0, 0, 0, 0⟩]) = some (.next, SharedT.abs ⟨t10 w.params, 259, {  }, ⟨[]⟩, ⟨0, 0, 0, 0⟩, 513, os⟩, hC, ⟨142, 0, 143, 8⟩) := q_seg (by kernel_rfl)
theorem pc10 (w : World) (os : OsState) : segRun treeTable PySem.Challenge.pw_rulerow_k07_refused w 11 (some (.ref 6)) 1 283 (SharedT.abs ⟨t10 w.params, 259, {  }, ⟨[]⟩, ⟨0, 0, 0, 0⟩, 513, os⟩) (piecesOf [top 36] hEnv hC ⟨142, 0, 143, 8⟩ [topFrame ⟨0, 0, 0, 0⟩]) = some (.next, SharedT.abs ⟨t11 w.params, 285, {  }, ⟨[]⟩, ⟨0, 0, 0, 0⟩, 551, os⟩, hC, ⟨144, 0, 152, 16⟩) := q_seg (by kernel_rfl)
theorem pc11 (w : World) (os : OsState) : segRun treeTable PySem.Challenge.pw_rulerow_k07_refused w 11 (some (.ref 6)) 1 283 (SharedT.abs ⟨t11 w.params, 285, {  }, ⟨[]⟩, ⟨0, 0, 0, 0⟩, 551, os⟩) (piecesOf [top 37] hEnv hC ⟨144, 0, 152, 16⟩ [topFrame ⟨0, 0, 0, 0⟩]) = some (.next, SharedT.abs ⟨t12 w.params, 311, {  }, ⟨[]⟩, ⟨0, 0, 0, 0⟩, 589, os⟩, hC, ⟨153, 0, 161, 16⟩) := q_seg (by kernel_rfl)
theorem pc12 (w : World) (os : OsState) : segRun treeTable PySem.Challenge.pw_rulerow_k07_refused w 11 (some (.ref 6)) 1 396 (SharedT.abs ⟨t12 w.params, 311, {  }, ⟨[]⟩, ⟨0, 0, 0, 0⟩, 589, os⟩) (piecesOf [top 38, top 39, top 40, top 41, top 42] hEnv hC ⟨153, 0, 161, 16⟩ [topFrame ⟨0, 0, 0, 0⟩]) = some (.next, SharedT.abs ⟨t13 w.params, 358, {  }, ⟨[]⟩, ⟨0, 0, 0, 0⟩, 667, os⟩, hC, ⟨194, 0, 200, 65⟩) := q_seg (by kernel_rfl)
theorem pc13 (w : World) (os : OsState) : segRun treeTable PySem.Challenge.pw_rulerow_k07_refused w 11 (some (.ref 6)) 1 396 (SharedT.abs ⟨t13 w.params, 358, {  }, ⟨[]⟩, ⟨0, 0, 0, 0⟩, 667, os⟩) (piecesOf [top 43, top 44, top 45, top 46, top 47, top 48, top 49, top 50, top 51, top 52, top 53, top 54, top 55, top 56, top 57] hEnv hC ⟨194, 0, 200, 65⟩ [topFrame ⟨0, 0, 0, 0⟩]) = some (.next, SharedT.abs ⟨t14 w.params, 437, {  }, ⟨[]⟩, ⟨0, 0, 0, 0⟩, 774, os⟩, hC, ⟨255, 0, 260, 94⟩) := q_seg (by kernel_rfl)
theorem pc14 (w : World) (os : OsState) : segRun treeTable PySem.Challenge.pw_rulerow_k07_refused w 11 (some (.ref 6)) 1 248 (SharedT.abs ⟨t14 w.params, 437, {  }, ⟨[]⟩, ⟨0, 0, 0, 0⟩, 774, os⟩) (piecesOf [top 58, top 59, top 60, top 61, top 62, top 63, top 64, top 65] hEnv hC ⟨255, 0, 260, 94⟩ [topFrame ⟨0, 0, 0, 0⟩]) = some (.next, SharedT.abs ⟨t15 w.params, 491, {  }, ⟨[]⟩, ⟨0, 0, 0, 0⟩, 847, os⟩, hC, ⟨288, 0, 313, 112⟩) := q_seg (by kernel_rfl)
theorem h_fin (w : World) (os : OsState) : topRun treeTable PySem.Challenge.pw_rulerow_k07_refused w 11 (some (.ref 6)) 2 (SharedT.abs ⟨t15 w.params, 491, {  }, ⟨[]⟩, ⟨0, 0, 0, 0⟩, 847, os⟩) ⟨doneF .next, hC, ⟨288, 0, 313, 112⟩, [topFrame ⟨0, 0, 0, 0⟩]⟩ = some ⟨hFin w.params, ⟨[]⟩, ⟨0, 0, 0, 0⟩, 847, os⟩ := q_top (by kernel_rfl)
theorem h_body : behindTheImports PySem.Challenge.pw_rulerow_k07_refused = [top 0, top 1, top 2] ++ ([top 3] ++ ([top 4] ++ ([top 5] ++ ([top 6] ++ ([top 7] ++ ([top 8] ++ ([top 9, top 10, top 11, top 12, top 13, top 14, top 15, top 16, top 17] ++ ([top 18, top 19, top 20, top 21, top 22, top 23, top 24, top 25, top 26, top 27, top 28, top 29, top 30, top 31] ++ ([top 32, top 33, top 34, top 35] ++ ([top 36] ++ ([top 37] ++ ([top 38, top 39, top 40, top 41, top 42] ++ ([top 43, top 44, top 45, top 46, top 47, top 48, top 49, top 50, top 51, top 52, top 53, top 54, top 55, top 56, top 57] ++ ([top 58, top 59, top 60, top 61, top 62, top 63, top 64, top 65] ++ ([]))))))))))))))) := by kernel_rfl
theorem h_run (w : World) (os : OsState) : topRun treeTable PySem.Challenge.pw_rulerow_k07_refused w 11 (some (.ref 6)) (12 + (1 + (225 + (214 + (214 + (214 + (214 + (214 + (214 + (390 + (392 + (252 + (283 + (283 + (396 + (396 + (248 + 2))))))))))))))))) ⟨boot_heap w.params, ⟨[]⟩, boot_drawn, boot_toks, os⟩ (topStub PySem.Challenge.pw_rulerow_k07_refused) = some ⟨hFin w.params, ⟨[]⟩, ⟨0, 0, 0, 0⟩, 847, os⟩ :=
  go_top (h_pre w os) (piece_block (h_blk w os) ((congrArg (fun b => topRun treeTable PySem.Challenge.pw_rulerow_k07_refused w 11 (some (.ref 6)) _ _ (restOf b hEnv hC ⟨0, 0, 0, 0⟩ [topFrame ⟨0, 0, 0, 0⟩])) h_body).trans
    (piece_app (pc0 w os) (piece_app (pc1 w os) (piece_app (pc2 w os) (piece_app (pc3 w os) (piece_app (pc4 w os) (piece_app (pc5 w os) (piece_app (pc6 w os) (piece_app (pc7 w os) (piece_app (pc8 w os) (piece_app (pc9 w os) (piece_app (pc10 w os) (piece_app (pc11 w os) (piece_app (pc12 w os) (piece_app (pc13 w os) (piece_app (pc14 w os) (piece_nil (h_fin w os)))))))))))))))))))
noncomputable def hQ : Program := { PySem.Challenge.pw_rulerow_k07_refused with main := { PySem.Challenge.pw_rulerow_k07_refused.main with body := [top 65] } }
noncomputable def hLoose : List Str := [(Str.ofString "_wall"), (Str.ofString "RuleError"), (Str.ofString "BadPrime"), (Str.ofString "BadRow"), (Str.ofString "BadRule"), (Str.ofString "BadPlace"), (Str.ofString "TooFew"), (Str.ofString "NoWay"), (Str.ofString "BadText"), (Str.ofString "LOWEST_PRIME"), (Str.ofString "HIGHEST_PRIME"), (Str.ofString "is_whole"), (Str.ofString "is_prime"), (Str.ofString "is_rest"), (Str.ofString "are_rests"), (Str.ofString "need_prime"), (Str.ofString "need_rule"), (Str.ofString "need_row"), (Str.ofString "inverse"), (Str.ofString "makes"), (Str.ofString "go_on"), (Str.ofString "far"), (Str.ofString "both"), (Str.ofString "backwards"), (Str.ofString "need_start"), (Str.ofString "need_count"), (Str.ofString "due"), (Str.ofString "polynomial"), (Str.ofString "mirrored"), (Str.ofString "product_at"), (Str.ofString "number_at"), (Str.ofString "Answer"), (Str.ofString "Least"), (Str.ofString "Only"), (Str.ofString "Another"), (Str.ofString "is_sole"), (Str.ofString "least"), (Str.ofString "unlike"), (Str.ofString "mixed"), (Str.ofString "written"), (Str.ofString "_law_cell_at"), (Str.ofString "_law_draw"), (Str.ofString "_law_prime"), (Str.ofString "_law_rests"), (Str.ofString "_law_row"), (Str.ofString "_law_due"), (Str.ofString "_law_made"), (Str.ofString "_law_rested"), (Str.ofString "_law_least"), (Str.ofString "_law_kinds"), (Str.ofString "_law_with_prime"), (Str.ofString "_law_more"), (Str.ofString "_law_with_rule"), (Str.ofString "_law_with_row"), (Str.ofString "_law_with_few"), (Str.ofString "_law_with_place"), (Str.ofString "_law_told"), (Str.ofString "_law_all")]
noncomputable def hXt (s : Shared) : Bool := xlAt hQ [] s && recOk (RowW.records (OpenRow.toRowW (OpenLaw.row PySem.Challenge.rw_rulerow_k07_refused))) s
theorem h_as (P : Params) : hAs = (hK P).map (·.1) := by kernel_rfl
noncomputable abbrev hHook : Hook := kHook hK hAs h_as
theorem h_open (w : World) : (fencedOpening treeTable PySem.Challenge.pw_rulerow_k07_refused w 8394).map (fun s => (s.heap, s.gens, s.drawn, s.toks)) = some (boot_heap w.params, Array.mk [], boot_drawn, boot_toks) :=
  boot_open (by kernel_rfl) (by decide) (fun s => by kernel_rfl) w
theorem h_size (w : World) : ((boot_heap w.params).isNs mainGlobals && (Array.mk [] : Array GenState).size == 0, (boot_heap w.params).objs.size, (boot_heap w.params).nsMap mainGlobals "__annotations__") = (true, 11, (some (.ref 6))) := by kernel_rfl
theorem h_lk1 (w : World) (os : OsState) : (staticsOk (importedModules PySem.Challenge.pw_rulerow_k07_refused.main.body) (boot_heap w.params) (hFin w.params) && namesBound PySem.Challenge.pw_rulerow_k07_refused (hFin w.params) && gensDone ⟨hFin w.params, ⟨[]⟩, ⟨0, 0, 0, 0⟩, 847, os⟩ && laidKept (boot_heap w.params) (hFin w.params)) = true := by rw [PySem.W.Fast.te5923862056798008813]; kernel_rfl
theorem h_lk2 (w : World) (os : OsState) : openSeen hQ hLoose (importedModules PySem.Challenge.pw_rulerow_k07_refused.main.body) hXt true ⟨hFin w.params, ⟨[]⟩, ⟨0, 0, 0, 0⟩, 847, os⟩ = openGood hQ hLoose := by rw [PySem.W.Fast.te4187177175401517315, PySem.W.Fast.te5923862056798008813]; kernel_rfl
theorem h_lk3 (w : World) (os : OsState) : Hook.obs hHook ⟨hFin w.params, ⟨[]⟩, ⟨0, 0, 0, 0⟩, 847, os⟩ = Hook.val hHook w := by kernel_rfl
theorem h_left : LeftO PySem.Challenge.pw_rulerow_k07_refused hQ hLoose hXt (Hook.obs hHook) (Hook.val hHook) 8394 :=
  LeftO.of_pieces h_open h_size h_run (by decide) fun w => funext fun os => looks_pair (h_lk1 w os) (looks_pair (h_lk2 w os) (h_lk3 w os))
theorem h_said : OpenLaw.wellSaid PySem.Challenge.rw_rulerow_k07_refused = true := by rw [PySem.W.Fast.te9446332074065402090]; kernel_rfl
end Rr

set_option Elab.async false
set_option linter.all false
open PySem PySem.W PyProof.Rows
set_option maxRecDepth 100000 in
set_option maxHeartbeats 0 in
theorem PySem.Challenge.cw_rulerow_k07_refused_holds : PySem.Challenge.rw_rulerow_k07_refused.Holds := by
  w_on
  refine holds_law Rr.h_said fun said => ?_
  refine holds_open (q := Rr.hQ) (loose := Rr.hLoose) (Xt := Rr.hXt) (XP := XL Rr.hQ []) (Yf := Hook.obs (kHook Rr.hK Rr.hAs Rr.h_as)) (Ya := Hook.val (kHook Rr.hK Rr.hAs Rr.h_as)) (YP := Hook.says (kHook Rr.hK Rr.hAs Rr.h_as)) (N := 8394) Rr.h_left (Hook.of _) (Hook.keeps _) (fun s e => xl_of s (Bool.and_eq_true_iff.mp e).1) XL.keeps (by rfl) (by rfl) (by rfl) (fun s e => recFacts_of (Bool.and_eq_true_iff.mp e).2) (by rfl) said (by decide +kernel) ⟨rfl, rfl, rfl, rfl, rfl, by decide +kernel⟩ ?hw ?hc
  case hw => w_witness2
  k_fill
  refine Rr.walk (l := PySem.Challenge.rw_rulerow_k07_refused) rfl rfl (fun w h Y => PySem.W.kIn_of Y) ?F
  case F =>
    intro w mg fa h KX G hmg
    refine' Rr.all_mk KX G hmg ?a1 ?l1 ?c1 ?k1 ?a2 ?l2 ?c2 ?k2 ?a3 ?l3 ?c3 ?k3 ?a4 ?l4 ?c4 ?k4 ?a5 ?l5 ?c5 ?k5 ?a6 ?l6 ?c6 ?k6 ?a7 ?l7 ?c7 ?k7 ?a8 ?l8 ?c8 ?k8 ?a9 ?l9 ?c9 ?k9 ?a10 ?l10 ?c10 ?k10 ?a11 ?l11 ?c11 ?k11 ?a12 ?l12 ?c12 ?k12 ?a13 ?l13 ?c13 ?k13 ?a14 ?l14 ?c14 ?k14 ?a15 ?l15 ?c15 ?k15 ?a16 ?l16 ?c16 ?k16 ?a17 ?l17 ?c17 ?k17 ?a18 ?l18 ?c18 ?k18 ?a19 ?l19 ?c19 ?k19 ?a20 ?l20 ?c20 ?k20 ?a21 ?l21 ?c21 ?k21 ?a22 ?l22 ?c22 ?k22 ?a23 ?l23 ?c23 ?k23 ?a24 ?l24 ?c24 ?k24 ?a25 ?l25 ?c25 ?k25 ?a26 ?l26 ?c26 ?k26 ?a27 ?l27 ?c27 ?k27 ?a28 ?l28 ?c28 ?k28 ?a29 ?l29 ?c29 ?k29 ?a30 ?l30 ?c30 ?k30 ?a31 ?l31 ?c31 ?k31 ?a32 ?l32 ?c32 ?k32 ?a33 ?l33 ?c33 ?k33 ?a34 ?l34 ?c34 ?k34 ?z1 ?z2 ?z3 ?z4 ?z5 ?z6 ?z7 ?z8 ?z9 ?z10 ?z11 ?z12 ?z13 ?z14 ?z15 ?mcR ?mcP ?mcU ?mcW ?mcF ?mcL ?mcN ?mcT ?mV ?xlcP ?xocP ?xicP ?xtcP ?g1cP ?g2cP ?g3cP ?g4cP ?g5cP ?emcP ?qcPcP ?qcPcU ?qcPcW ?qcPcF ?qcPcL ?qcPcN ?qcPcT ?qcPV ?xlcU ?xocU ?xicU ?xtcU ?g1cU ?g2cU ?g3cU ?g4cU ?g5cU ?emcU ?qcUcP ?qcUcU ?qcUcW ?qcUcF ?qcUcL ?qcUcN ?qcUcT ?qcUV ?xlcW ?xocW ?xicW ?xtcW ?g1cW ?g2cW ?g3cW ?g4cW ?g5cW ?emcW ?qcWcP ?qcWcU ?qcWcW ?qcWcF ?qcWcL ?qcWcN ?qcWcT ?qcWV ?xlcF ?xocF ?xicF ?xtcF ?g1cF ?g2cF ?g3cF ?g4cF ?g5cF ?emcF ?qcFcP ?qcFcU ?qcFcW ?qcFcF ?qcFcL ?qcFcN ?qcFcT ?qcFV ?xlcL ?xocL ?xicL ?xtcL ?g1cL ?g2cL ?g3cL ?g4cL ?g5cL ?emcL ?qcLcP ?qcLcU ?qcLcW ?qcLcF ?qcLcL ?qcLcN ?qcLcT ?qcLV ?xlcN ?xocN ?xicN ?xtcN ?g1cN ?g2cN ?g3cN ?g4cN ?g5cN ?emcN ?qcNcP ?qcNcU ?qcNcW ?qcNcF ?qcNcL ?qcNcN ?qcNcT ?qcNV ?y1 ?y2
    (case a1 => k_is)
    (case l1 => k_is)
    (case c1 => k_is)
    (case k1 => k_is)
    (case a2 => k_is)
    (case l2 => k_is)
    (case c2 => k_is)
    (case k2 => k_is)
    (case a3 => k_is)
    (case l3 => k_is)
    (case c3 => k_is)
    (case k3 => k_is)
    (case a4 => k_is)
    (case l4 => k_is)
    (case c4 => k_is)
    (case k4 => k_is)
    (case a5 => k_is)
    (case l5 => k_is)
    (case c5 => k_is)
    (case k5 => k_is)
    (case a6 => k_is)
    (case l6 => k_is)
    (case c6 => k_is)
    (case k6 => k_is)
    (case a7 => k_is)
    (case l7 => k_is)
    (case c7 => k_is)
    (case k7 => k_is)
    (case a8 => k_is)
    (case l8 => k_is)
    (case c8 => k_is)
    (case k8 => k_is)
    (case a9 => k_is)
    (case l9 => k_is)
    (case c9 => k_is)
    (case k9 => k_is)
    (case a10 => k_is)
    (case l10 => k_is)
    (case c10 => k_is)
    (case k10 => k_is)
    (case a11 => k_is)
    (case l11 => k_is)
    (case c11 => k_is)
    (case k11 => k_is)
    (case a12 => k_is)
    (case l12 => k_is)
    (case c12 => k_is)
    (case k12 => k_is)
    (case a13 => k_is)
    (case l13 => k_is)
    (case c13 => k_is)
    (case k13 => k_is)
    (case a14 => k_is)
    (case l14 => k_is)
    (case c14 => k_is)
    (case k14 => k_is)
    (case a15 => k_is)
    (case l15 => k_is)
    (case c15 => k_is)
    (case k15 => k_is)
    (case a16 => k_is)
    (case l16 => k_is)
    (case c16 => k_is)
    (case k16 => k_is)
    (case a17 => k_is)
    (case l17 => k_is)
    (case c17 => k_is)
    (case k17 => k_is)
    (case a18 => k_is)
    (case l18 => k_is)
    (case c18 => k_is)
    (case k18 => k_is)
    (case a19 => k_is)
    (case l19 => k_is)
    (case c19 => k_is)
    (case k19 => k_is)
    (case a20 => k_is)
    (case l20 => k_is)
    (case c20 => k_is)
    (case k20 => k_is)
    (case a21 => k_is)
    (case l21 => k_is)
    (case c21 => k_is)
    (case k21 => k_is)
    (case a22 => k_is)
    (case l22 => k_is)
    (case c22 => k_is)
    (case k22 => k_is)
    (case a23 => k_is)
    (case l23 => k_is)
    (case c23 => k_is)
    (case k23 => k_is)
    (case a24 => k_is)
    (case l24 => k_is)
    (case c24 => k_is)
    (case k24 => k_is)
    (case a25 => k_is)
    (case l25 => k_is)
    (case c25 => k_is)
    (case k25 => k_is)
    (case a26 => k_is)
    (case l26 => k_is)
    (case c26 => k_is)
    (case k26 => k_is)
    (case a27 => k_is)
    (case l27 => k_is)
    (case c27 => k_is)
    (case k27 => k_is)
    (case a28 => k_is)
    (case l28 => k_is)
    (case c28 => k_is)
    (case k28 => k_is)
    (case a29 => k_is)
    (case l29 => k_is)
    (case c29 => k_is)
    (case k29 => k_is)
    (case a30 => k_is)
    (case l30 => k_is)
    (case c30 => k_is)
    (case k30 => k_is)
    (case a31 => k_is)
    (case l31 => k_is)
    (case c31 => k_is)
    (case k31 => k_is)
    (case a32 => k_is)
    (case l32 => k_is)
    (case c32 => k_is)
    (case k32 => k_is)
    (case a33 => k_is)
    (case l33 => k_is)
    (case c33 => k_is)
    (case k33 => k_is)
    (case a34 => k_is)
    (case l34 => k_is)
    (case c34 => k_is)
    (case k34 => k_is)
    (case z1 => k_is)
    (case z2 => k_is)
    (case z3 => k_is)
    (case z4 => k_is)
    (case z5 => k_is)
    (case z6 => k_is)
    (case z7 => k_is)
    (case z8 => k_is)
    (case z9 => k_is)
    (case z10 => k_is)
    (case z11 => k_is)
    (case z12 => k_is)
    (case z13 => k_is)
    (case z14 => k_is)
    (case z15 => k_is)
    (case mcR => k_is)
    (case mcP => k_is)
    (case mcU => k_is)
    (case mcW => k_is)
    (case mcF => k_is)
    (case mcL => k_is)
    (case mcN => k_is)
    (case mcT => k_is)
    (case mV => k_is)
    (case xlcP => k_is)
    (case xocP => kernel_rfl)
    (case xicP => k_is)
    (case xtcP => kernel_rfl)
    (case g1cP => k_is)
    (case g2cP => k_is)
    (case g3cP => k_is)
    (case g4cP => k_is)
    (case g5cP => k_is)
    (case emcP => kernel_rfl)
    (case qcPcP => kernel_rfl)
    (case qcPcU => kernel_rfl)
    (case qcPcW => kernel_rfl)
    (case qcPcF => kernel_rfl)
    (case qcPcL => kernel_rfl)
    (case qcPcN => kernel_rfl)
    (case qcPcT => kernel_rfl)
    (case qcPV => kernel_rfl)
    (case xlcU => k_is)
    (case xocU => kernel_rfl)
    (case xicU => k_is)
    (case xtcU => kernel_rfl)
    (case g1cU => k_is)
    (case g2cU => k_is)
    (case g3cU => k_is)
    (case g4cU => k_is)
    (case g5cU => k_is)
    (case emcU => kernel_rfl)
    (case qcUcP => kernel_rfl)
    (case qcUcU => kernel_rfl)
    (case qcUcW => kernel_rfl)
    (case qcUcF => kernel_rfl)
    (case qcUcL => kernel_rfl)
    (case qcUcN => kernel_rfl)
    (case qcUcT => kernel_rfl)
    (case qcUV => kernel_rfl)
    (case xlcW => k_is)
    (case xocW => kernel_rfl)
    (case xicW => k_is)
    (case xtcW => kernel_rfl)
    (case g1cW => k_is)
    (case g2cW => k_is)
    (case g3cW => k_is)
    (case g4cW => k_is)
    (case g5cW => k_is)
    (case emcW => kernel_rfl)
    (case qcWcP => kernel_rfl)
    (case qcWcU => kernel_rfl)
    (case qcWcW => kernel_rfl)
    (case qcWcF => kernel_rfl)
    (case qcWcL => kernel_rfl)
    (case qcWcN => kernel_rfl)
    (case qcWcT => kernel_rfl)
    (case qcWV => kernel_rfl)
    (case xlcF => k_is)
    (case xocF => kernel_rfl)
    (case xicF => k_is)
    (case xtcF => kernel_rfl)
    (case g1cF => k_is)
    (case g2cF => k_is)
    (case g3cF => k_is)
    (case g4cF => k_is)
    (case g5cF => k_is)
    (case emcF => kernel_rfl)
    (case qcFcP => kernel_rfl)
    (case qcFcU => kernel_rfl)
    (case qcFcW => kernel_rfl)
    (case qcFcF => kernel_rfl)
    (case qcFcL => kernel_rfl)
    (case qcFcN => kernel_rfl)
    (case qcFcT => kernel_rfl)
    (case qcFV => kernel_rfl)
    (case xlcL => k_is)
    (case xocL => kernel_rfl)
    (case xicL => k_is)
    (case xtcL => kernel_rfl)
    (case g1cL => k_is)
    (case g2cL => k_is)
    (case g3cL => k_is)
    (case g4cL => k_is)
    (case g5cL => k_is)
    (case emcL => kernel_rfl)
    (case qcLcP => kernel_rfl)
    (case qcLcU => kernel_rfl)
    (case qcLcW => kernel_rfl)
    (case qcLcF => kernel_rfl)
    (case qcLcL => kernel_rfl)
    (case qcLcN => kernel_rfl)
    (case qcLcT => kernel_rfl)
    (case qcLV => kernel_rfl)
    (case xlcN => k_is)
    (case xocN => kernel_rfl)
    (case xicN => k_is)
    (case xtcN => kernel_rfl)
    (case g1cN => k_is)
    (case g2cN => k_is)
    (case g3cN => k_is)
    (case g4cN => k_is)
    (case g5cN => k_is)
    (case emcN => kernel_rfl)
    (case qcNcP => kernel_rfl)
    (case qcNcU => kernel_rfl)
    (case qcNcW => kernel_rfl)
    (case qcNcF => kernel_rfl)
    (case qcNcL => kernel_rfl)
    (case qcNcN => kernel_rfl)
    (case qcNcT => kernel_rfl)
    (case qcNV => kernel_rfl)
    (case y1 => k_is)
    (case y2 => k_is)
