import PyProof.Rows.All
import Wide.All
import OpenK.AllK
import Wide.FinOn
import Lean
import PyProof.EqAt
import PyProof.EqKinds
import PyProof.TupleCall
import PyProof.Draws
import PyProof.Rows.CallKwBuiltin
import OpenK.KOwn
import KE.KTryMore
import PyProof.RulesAs
import PyProof.FitsReplace
import PyProof.StrLawsIn
import PyProof.StrBlockL
import KE.KIntText
import PySem.Challenge.RW_rulerow_k06_written
set_option Elab.async false
set_option linter.all false
set_option maxRecDepth 100000
/-! THE HAND LAYER, for ints, bools, texts, own classes, LISTS and tuples (index, slices, in, append, pop ..), calls, loops. Paste it whole ahead of your own text; what your proof does not reach may be deleted. -/
namespace L2
open PySem PySem.Spec PyProof.Rows

/-- a key: an int or a str -/
abbrev Key := Sum Int Str
def keyIs : Key → Value → Bool
  | .inl k, v => Value.isInt k v
  | .inr x, v => Value.isStrOf x v
def keyH (w : World) : Key → Int
  | .inl k => hashInt k
  | .inr x => hashStr w x
theorem keyIs_shape : ∀ {k : Key} {v : Value}, keyIs k v = true → (∃ i t, k = Sum.inl i ∧ v = Value.int i t) ∨ (∃ x t, k = Sum.inr x ∧ v = Value.str x t)
  | .inl i, v, h => by
    obtain ⟨t, e⟩ := Value.isInt_shape (k := i) (v := v) h
    exact .inl ⟨i, t, rfl, e⟩
  | .inr x, v, h => by
    obtain ⟨t, e⟩ := Value.isStrOf_shape (x := x) (v := v) h
    exact .inr ⟨x, t, rfl, e⟩
theorem key_ll (a b : Int) : decide ((Sum.inl a : Key) = Sum.inl b) = (a == b) := by
  by_cases e : a = b
  · subst e; simp
  · have h : ¬ (Sum.inl a : Key) = Sum.inl b := fun q => e (Sum.inl.inj q)
    rw [decide_eq_false h]
    exact (beq_eq_false_iff_ne.mpr e).symm
theorem key_rr (a b : Str) : decide ((Sum.inr a : Key) = Sum.inr b) = decide (a = b) := by
  by_cases e : a = b
  · subst e; simp
  · have h : ¬ (Sum.inr a : Key) = Sum.inr b := fun q => e (Sum.inr.inj q)
    rw [decide_eq_false h, decide_eq_false e]
theorem key_lr (a : Int) (b : Str) : decide ((Sum.inl a : Key) = Sum.inr b) = false := decide_eq_false (fun q => nomatch q)
theorem key_rl (a : Str) (b : Int) : decide ((Sum.inr a : Key) = Sum.inl b) = false := decide_eq_false (fun q => nomatch q)

def mixKind (prog : Program) (w : World) : PySem.KeyKind prog w Key where
  is := keyIs
  hash := keyH w
  inj := fun v a b ha hb => by
    rcases keyIs_shape ha with ⟨i, t, rfl, rfl⟩ | ⟨x, t, rfl, rfl⟩
    · rcases keyIs_shape hb with ⟨j, u, rfl, e⟩ | ⟨y, u, rfl, e⟩
      · injection e with e1 _; rw [e1]
      · exact nomatch e
    · rcases keyIs_shape hb with ⟨j, u, rfl, e⟩ | ⟨y, u, rfl, e⟩
      · exact nomatch e
      · injection e with e1 _; rw [e1]
  byValue := fun k v h => by
    rcases keyIs_shape h with ⟨i, t, rfl, rfl⟩ | ⟨x, t, rfl, rfl⟩ <;> rfl
  pyHash := fun hv h => by
    rcases keyIs_shape hv with ⟨i, t, rfl, rfl⟩ | ⟨x, t, rfl, rfl⟩
    · exact wpAny_pyHash_int h
    · exact wpAny_pyHash_str h
  eqBool := fun hu hv h => by
    rcases keyIs_shape hu with ⟨i, t, rfl, rfl⟩ | ⟨x, t, rfl, rfl⟩
    · rcases keyIs_shape hv with ⟨j, u, rfl, rfl⟩ | ⟨y, u, rfl, rfl⟩
      · rw [key_ll] at h; exact wpAny_eqBool_int h
      · rw [key_lr] at h; exact SeqAt.EqAt.int_str i t y u _ _ _ _ h
    · rcases keyIs_shape hv with ⟨j, u, rfl, rfl⟩ | ⟨y, u, rfl, rfl⟩
      · rw [key_rl] at h; exact SeqAt.EqAt.str_int x t j u _ _ _ _ h
      · rw [key_rr] at h; exact wpAny_eqBool_str h
  «strs» := fun k x t v h => by
    rcases keyIs_shape h with ⟨i, u, rfl, e⟩ | ⟨y, u, rfl, e⟩
    · exact nomatch e
    · injection e with e1 _
      subst e1
      cases v <;> rfl

end L2

namespace L2
open PySem PySem.Spec PyProof.Rows

/-- a value, without the heap -/
inductive V where
  | non | bl (b : Bool) | int (i : Int) | str (x : Str) | byt (b : Array UInt8) | flt (b : UInt64) | ref (a : Addr) | ty (n : String)
  deriving DecidableEq

def RelV : V → Value → Prop
  | .non, u => u = Value.none
  | .bl b, u => u = Value.bool b
  | .int i, u => ∃ t, u = Value.int i t
  | .str x, u => ∃ t, u = Value.str x t
  | .byt b, u => ∃ t, u = Value.bytes b t
  | .flt b, u => ∃ t, u = Value.float b t
  | .ref a, u => u = Value.ref a
  | .ty n, u => u = Value.type n

abbrev Vals : List V → List Value → Prop := Paired RelV
theorem Vals.length {xs : List V} {us : List Value} (r : Vals xs us) : xs.length = us.length := Paired.length r
theorem Vals.get : ∀ {xs : List V} {us : List Value} {i : Nat} {x : V}, Vals xs us → xs[i]? = some x → ∃ u, us[i]? = some u ∧ RelV x u
  | _, _, _, _, .nil, e => by simp at e
  | _, _, 0, _, .cons r _, e => by simp at e; subst e; exact ⟨_, rfl, r⟩
  | _, _, i + 1, x, .cons _ t, e => by
    obtain ⟨u, h1, h2⟩ := Vals.get (i := i) (x := x) t (by simpa using e)
    exact ⟨u, by simpa using h1, h2⟩
theorem Vals.set {x : V} {u : Value} (r : RelV x u) : ∀ {xs : List V} {us : List Value} (i : Nat), Vals xs us → Vals (xs.set i x) (us.set i u)
  | _, _, _, .nil => .nil
  | _, _, 0, .cons _ t => .cons r t
  | _, _, i + 1, .cons q t => .cons q (Vals.set r i t)
theorem Vals.append : ∀ {xs ys : List V} {us ws : List Value}, Vals xs us → Vals ys ws → Vals (xs ++ ys) (us ++ ws)
  | _, _, _, _, .nil, s => s
  | _, _, _, _, .cons r t, s => .cons r (Vals.append t s)
theorem Vals.take : ∀ {xs : List V} {us : List Value} (n : Nat), Vals xs us → Vals (xs.take n) (us.take n)
  | _, _, 0, _ => .nil
  | _, _, _ + 1, .nil => .nil
  | _, _, n + 1, .cons r t => .cons r (Vals.take n t)
theorem Vals.drop : ∀ {xs : List V} {us : List Value} (n : Nat), Vals xs us → Vals (xs.drop n) (us.drop n)
  | _, _, 0, r => r
  | _, _, _ + 1, .nil => .nil
  | _, _, n + 1, .cons _ t => Vals.drop n t
def RelO : Option V → Option Value → Prop
  | some v, some u => RelV v u
  | none, none => True
  | _, _ => False
def KV {κ : Type} : List (κ × V) → List (κ × Value) → Prop := Paired fun (p : κ × V) (q : κ × Value) => p.1 = q.1 ∧ RelV p.2 q.2

/-- a key of a dict (00_mix): an int or a text -/
def kV : Key → V
  | .inl i => .int i
  | .inr x => .str x

/-- what stands at a tracked address -/
inductive HO where
  /-- a list -/
  | lst (xs : List V)
  /-- a tuple (never changes) -/
  | tup (xs : List V)
  /-- a dict whose keys are ints and texts; one whose keys are tuples of ints and texts (the empty one is both) -/
  | dK (kvs : List (Key × V)) | dT (kvs : List (List Key × V))
  /-- a set of ints: its members, its size -/
  | set (S : Int → Bool) (n : Nat)
  /-- an instance of the class at C, its dict at dx, its attributes -/
  | ins (C dx : Addr) (fs : List (Str × V))
  /-- the dict of the instance at x -/
  | own (x : Addr)
  /-- the dict of an exception -/
  | xd (fs : List (Str × V))
  /-- a bound method, f of x -/
  | met (f x : Addr)
  /-- a range object lo, lo + 1, .. below hi -/
  | rng (lo hi : Int)
  /-- a thing that is known to the object (the script; a dict while a loop walks it): read, never written while it is so -/
  | frz (o : Obj) (u : HO)
  /-- a code object's table -/
  | tbl (ps : Array Value)
  /-- any other thing, by what is true of its one object (a def of one's own: SetO a S n := HO.ext fun h => ..) -/
  | ext (φ : Heap → Prop)

abbrev Hp := Addr → Option HO
def upd (H : Hp) (a : Addr) (o : HO) : Hp := fun b => if b = a then some o else H b
theorem upd_same {H : Hp} {a : Addr} {o : HO} : upd H a o a = some o := by unfold upd; rw [if_pos rfl]
theorem upd_ne {H : Hp} {a b : Addr} {o : HO} (h : b ≠ a) : upd H a o b = H b := by unfold upd; rw [if_neg h]
theorem ne_of_none {H : Hp} {a b : Addr} {o : HO} (h : H a = some o) (h' : H b = none) : a ≠ b := by
  intro e; subst e; rw [h] at h'; cases h'

section
variable (P : Program) (w : World)
def ObjOk (H : Hp) (h : Heap) (a : Addr) : HO → Prop
  | .lst xs => xs.length ≤ sizeLine ∧ ∃ (its : List Value) (n : Nat), Vals xs its ∧ h.get? a = some { cls := .type "list", data := .seq its.toArray n }
  | .tup xs => xs.length ≤ sizeLine ∧ ∃ its : List Value, Vals xs its ∧ IsTup h a its.toArray
  | .dK kvs => kvs.length ≤ sizeLine ∧ (a == sysModules) = false ∧ ∃ vs, KV kvs vs ∧ h.DictOf (mixKind P w) a vs
  | .dT kvs => kvs.length ≤ sizeLine ∧ (a == sysModules) = false ∧ ∃ xs : List (List Key × Addr × Value),
      Paired (fun (p : List Key × V) (q : List Key × Addr × Value) => p.1 = q.1 ∧ H q.2.1 = some (.tup (p.1.map kV)) ∧ RelV p.2 q.2.2) kvs xs ∧
      ∃ o es ep, h.get? a = some o ∧ o.ExactDict ∧ o.data = .dict es ep ∧ es.toList = xs.map (entryOfKey (tupleKind (mixKind P w))) ∧ (xs.map (·.1)).Nodup
  | .set S n => h.SetOf (intKind P w) a S n
  | .ins C dx fs => H dx = some (.own a) ∧ fs.length ≤ 1000 ∧ dx ≠ a ∧ h.get? a = some (PySem.W.instObj C dx) ∧
      ∃ mA, h.Ns1 dx mA ∧ (∀ f, RelO (fs.lookup f) (mA f)) ∧ PySem.Within mA (fs.map (·.1))
  | .own _ => ∃ o, h.get? a = some o
  | .xd fs => ∃ mA, h.Ns1 a mA ∧ ∀ f, RelO (fs.lookup f) (mA f)
  | .rng lo hi => ∃ t u v, h.get? a = some { cls := .type "range", data := .fields #[.int lo t, .int hi u, .int 1 v] }
  | .frz o u => h.get? a = some o ∧ ObjOk H h a u
  | .tbl ps => h.get? a = some { cls := .none, data := .fields ps }
  | .met f x => h.get? a = some (PySem.W.methodObj (.ref f) (.ref x))
  | .ext φ => φ h ∧ (∃ o, h.get? a = some o) ∧ ∀ h1 h2 : Heap, φ h1 → (∀ o, h1.get? a = some o → h2.get? a = some o) → φ h2
/-- the abstract heap is held -/
def HOk (H : Hp) (h : Heap) : Prop := ∀ a o, H a = some o → ObjOk P w H h a o
end

section
variable {P : Program} {w : World} {H H' : Hp} {h h' : Heap} {a : Addr} {o : HO}
theorem ObjOk.lt (x : ObjOk P w H h a o) : a < h.objs.size := by
  cases o with
  | lst xs => obtain ⟨_, _, _, _, e⟩ := x; exact Heap.lt_size e
  | tup xs => obtain ⟨_, _, _, p⟩ := x; exact p.lt
  | dK kvs => obtain ⟨_, _, _, _, o, _, _, e, _⟩ := x; exact Heap.lt_size e
  | dT kvs => obtain ⟨_, _, _, _, o, _, _, e, _⟩ := x; exact Heap.lt_size e
  | set S n => obtain ⟨o, _, _, _, e, _⟩ := x; exact Heap.lt_size e
  | ins C dx fs => obtain ⟨_, _, _, e, _⟩ := x; exact Heap.lt_size e
  | own y => obtain ⟨_, e⟩ := x; exact Heap.lt_size e
  | xd fs => obtain ⟨_, ⟨_, _, _, e, _⟩, _⟩ := x; exact Heap.lt_size e
  | rng lo hi => obtain ⟨_, _, _, e⟩ := x; exact Heap.lt_size e
  | frz ob u => obtain ⟨e, _⟩ := x; exact Heap.lt_size e
  | tbl ps => exact Heap.lt_size (show h.get? a = some _ from x)
  | met f y => exact Heap.lt_size (show h.get? a = some _ from x)
  | ext φ => obtain ⟨_, ⟨_, e⟩, _⟩ := x; exact Heap.lt_size e
theorem Paired.mapP {α β : Type} {F G : α → β → Prop} : ∀ {l₁ : List α} {l₂ : List β}, Paired F l₁ l₂ → (∀ a b, F a b → G a b) → Paired G l₁ l₂
  | _, _, .nil, _ => .nil
  | _, _, .cons r t, f => .cons (f _ _ r) (Paired.mapP t f)
/-- what an object's description leans on: its own object, its own dict, the tuples -/
theorem ObjOk.stay (x : ObjOk P w H h a o) (k : ∀ b u, (b = a ∨ H b = some (.own a)) → h.get? b = some u → h'.get? b = some u)
    (ho : ∀ b, H b = some (.own a) → H' b = some (.own a)) (ht : ∀ b xs, H b = some (.tup xs) → H' b = some (.tup xs)) : ObjOk P w H' h' a o := by
  induction o with
  | lst xs => obtain ⟨z, its, n, r, e⟩ := x; exact ⟨z, its, n, r, k _ _ (.inl rfl) e⟩
  | tup xs => obtain ⟨z, its, r, ob, e, c⟩ := x; exact ⟨z, its, r, ob, k _ _ (.inl rfl) e, c⟩
  | dK kvs => obtain ⟨z, y, vs, r, ob, es, ep, e, c⟩ := x; exact ⟨z, y, vs, r, ob, es, ep, k _ _ (.inl rfl) e, c⟩
  | dT kvs =>
    obtain ⟨z, y, xs, r, ob, es, ep, e, c⟩ := x
    exact ⟨z, y, xs, Paired.mapP r fun p q z => ⟨z.1, ht _ _ z.2.1, z.2.2⟩, ob, es, ep, k _ _ (.inl rfl) e, c⟩
  | set S n => obtain ⟨ob, es, ep, t, e, c⟩ := x; exact ⟨ob, es, ep, t, k _ _ (.inl rfl) e, c⟩
  | ins C dx fs =>
    obtain ⟨d, z, ne, e, mA, ⟨od, es, ep, e2, c⟩, r⟩ := x
    exact ⟨ho _ d, z, ne, k _ _ (.inl rfl) e, mA, ⟨od, es, ep, k _ _ (.inr d) e2, c⟩, r⟩
  | own y => obtain ⟨ob, e⟩ := x; exact ⟨ob, k _ _ (.inl rfl) e⟩
  | xd fs => obtain ⟨mA, ⟨od, es, ep, e, c⟩, r⟩ := x; exact ⟨mA, ⟨od, es, ep, k _ _ (.inl rfl) e, c⟩, r⟩
  | rng lo hi => obtain ⟨t, u, v, e⟩ := x; exact ⟨t, u, v, k _ _ (.inl rfl) e⟩
  | frz ob u ih => obtain ⟨e, q⟩ := x; exact ⟨k _ _ (.inl rfl) e, ih q⟩
  | tbl ps =>
    have e : h.get? a = some { cls := .none, data := .fields ps } := x
    show h'.get? a = some { cls := .none, data := .fields ps }
    exact k a _ (.inl rfl) e
  | met f y =>
    have e : h.get? a = some (PySem.W.methodObj (.ref f) (.ref y)) := x
    show h'.get? a = some (PySem.W.methodObj (.ref f) (.ref y))
    exact k a _ (.inl rfl) e
  | ext φ => obtain ⟨p, ⟨o, e⟩, st⟩ := x; exact ⟨st _ _ p fun o q => k _ _ (.inl rfl) q, ⟨o, k _ _ (.inl rfl) e⟩, st⟩
theorem HOk.lt (x : HOk P w H h) (e : H a = some o) : a < h.objs.size := (x a o e).lt
theorem HOk.fresh (x : HOk P w H h) (e : h.objs.size ≤ a) : H a = none := by
  cases q : H a with
  | none => rfl
  | some u => exact absurd (Nat.lt_of_lt_of_le (x.lt q) e) (Nat.lt_irrefl _)
/-- every object of the heap is kept -/
theorem HOk.kept (x : HOk P w H h) (k : ∀ b u, h.get? b = some u → h'.get? b = some u) : HOk P w H h' := fun a o e =>
  (x a o e).stay (fun b u _ q => k b u q) (fun _ q => q) fun _ _ q => q
/-- a new object is laid and tracked -/
theorem HOk.laid (x : HOk P w H h) (k : ∀ b u, h.get? b = some u → h'.get? b = some u) (hp : h.objs.size ≤ a) (new : ObjOk P w (upd H a o) h' a o) : HOk P w (upd H a o) h' := fun b u e => by
  have hn := x.fresh hp
  by_cases hb : b = a
  · subst hb; rw [upd_same] at e; cases e; exact new
  · rw [upd_ne hb] at e
    exact (x b u e).stay (fun c v _ q => k c v q) (fun c q => by rw [upd_ne (ne_of_none q hn)]; exact q) fun c xs q => by rw [upd_ne (ne_of_none q hn)]; exact q
end

/-- what may be read as u: it is u, or a known u -/
def Rd (H : Hp) (a : Addr) (u : HO) : Prop := H a = some u ∨ ∃ o, H a = some (.frz o u)
theorem Rd.of {H : Hp} {a : Addr} {u : HO} (h : H a = some u) : Rd H a u := .inl h
theorem Rd.ok {P : Program} {w : World} {H : Hp} {h : Heap} {a : Addr} {u : HO} (r : Rd H a u) (x : HOk P w H h) : ObjOk P w H h a u := by
  rcases r with r | ⟨o, r⟩
  · exact x a u r
  · obtain ⟨_, q⟩ := x a _ r
    exact q
/-- what may be written -/
def Mut : Option HO → Prop
  | some (.lst _) => True
  | some (.dK _) => True
  | some (.dT _) => True
  | some (.set _ _) => True
  | some (.ins _ _ _) => True
  | some (.ext _) => True
  | _ => False
section
variable {P : Program} {w : World} {H : Hp} {h h' : Heap} {x e : Addr} {o' : HO}
/-- the object at e is changed: x itself, or the dict of the instance x -/
theorem HOk.write (ok : HOk P w H h) (mu : Mut (H x)) (he : e = x ∨ H e = some (.own x)) (k : ∀ b u, b ≠ e → h.get? b = some u → h'.get? b = some u) (heo : ∃ u, h'.get? e = some u)
    (new : ObjOk P w (upd H x o') h' x o') : HOk P w (upd H x o') h' := fun b u q => by
  have nown : ∀ c y, H c = some (.own y) → c ≠ x := fun c y r z => by subst z; rw [r] at mu; exact mu
  have ntup : ∀ c xs, H c = some (.tup xs) → c ≠ x := fun c xs r z => by subst z; rw [r] at mu; exact mu
  by_cases hb : b = x
  · subst hb; rw [upd_same] at q; cases q; exact new
  · rw [upd_ne hb] at q
    by_cases hbe : b = e
    · have q' : H b = some (.own x) := by
        rcases he with z | z
        · exact absurd (hbe.trans z) hb
        · rw [hbe]; exact z
      rw [q] at q'; cases q'
      obtain ⟨v, hv⟩ := heo
      exact ⟨v, by rw [hbe]; exact hv⟩
    · refine (ok b u q).stay (fun c v hc r => k c v ?_ r) (fun c r => by rw [upd_ne (nown c b r)]; exact r) fun c xs r => by rw [upd_ne (ntup c xs r)]; exact r
      rcases hc with rfl | hc
      · exact hbe
      · rintro rfl
        rcases he with z | z
        · exact nown c b hc z
        · rw [hc] at z; cases z; exact hb rfl
end

/-! ### kept unless tracked; of the frames at fs (the callers') the slots may change (an exception that passes writes there); of the records at ex (iterators) nothing is said -/
structure Un (fs ex : List Addr) (H H' : Hp) (h h' : Heap) : Prop where
  keep : ∀ b o, h.get? b = some o → H b = none → b ∉ fs → b ∉ ex → h'.get? b = some o
  slot : ∀ b o, h.get? b = some o → H b = none → b ∈ fs → b ∉ ex → ∃ sl, h'.get? b = some { o with slots := sl }
  free : ∀ b o, h.get? b = some o → H b = none → b ∉ ex → H' b = none
  there : ∀ b o, h.get? b = some o → b ∉ ex → ∃ o', h'.get? b = some o'
  tups : ∀ b xs, H b = some (.tup xs) → H' b = some (.tup xs)
  frzs : ∀ b o u, H b = some (.frz o u) → H' b = some (.frz o u)
  tbls : ∀ b ps, H b = some (.tbl ps) → ∃ more, H' b = some (.tbl (ps ++ more))
section
variable {fs fs' ex ex' : List Addr} {H H1 H2 : Hp} {h h1 h2 h' : Heap} {a x e : Addr} {o : HO}
theorem Un.any (u : Un fs ex H H1 h h1) {b : Addr} {ob : Obj} (q : h.get? b = some ob) (n : H b = none) (hx : b ∉ ex) : ∃ sl, h1.get? b = some { ob with slots := sl } := by
  by_cases hb : b ∈ fs
  · exact u.slot b ob q n hb hx
  · exact ⟨ob.slots, u.keep b ob q n hb hx⟩
theorem Un.trans (a : Un fs ex H H1 h h1) (b : Un fs ex H1 H2 h1 h2) : Un fs ex H H2 h h2 where
  keep := fun c ob q n hc hx => b.keep c ob (a.keep c ob q n hc hx) (a.free c ob q n hx) hc hx
  slot := fun c ob q n hc hx => by
    obtain ⟨sl, e1⟩ := a.slot c ob q n hc hx
    obtain ⟨sl', e2⟩ := b.slot c _ e1 (a.free c ob q n hx) hc hx
    exact ⟨sl', e2⟩
  free := fun c ob q n hx => by
    obtain ⟨o', e1⟩ := a.there c ob q hx
    exact b.free c o' e1 (a.free c ob q n hx) hx
  there := fun c ob q hx => by
    obtain ⟨o', e1⟩ := a.there c ob q hx
    exact b.there c o' e1 hx
  tups := fun c xs q => b.tups c xs (a.tups c xs q)
  frzs := fun c ob xs q => b.frzs c ob xs (a.frzs c ob xs q)
  tbls := fun c ps q => by
    obtain ⟨m1, e1⟩ := a.tbls c ps q
    obtain ⟨m2, e2⟩ := b.tbls c _ e1
    exact ⟨m1 ++ m2, by rw [e2, Array.append_assoc]⟩
theorem Un.kept (k : ∀ b u, h.get? b = some u → h'.get? b = some u) : Un fs ex H H h h' :=
  ⟨fun b ob q _ _ _ => k b ob q, fun b ob q _ _ _ => ⟨ob.slots, k b ob q⟩, fun _ _ _ n _ => n, fun b ob q _ => ⟨ob, k b ob q⟩, fun _ _ q => q, fun _ _ _ q => q, fun _ ps q => ⟨#[], by rw [q]; simp⟩⟩
theorem Un.refl : Un fs ex H H h h := Un.kept fun _ _ q => q
theorem Un.laid (k : ∀ b u, h.get? b = some u → h'.get? b = some u) (hp : h.objs.size ≤ a) (hn : H a = none) : Un fs ex H (upd H a o) h h' where
  keep := fun b u q _ _ _ => k b u q
  slot := fun b u q _ _ _ => ⟨u.slots, k b u q⟩
  free := fun b u q n _ => by rw [upd_ne (Nat.ne_of_lt (Nat.lt_of_lt_of_le (Heap.lt_size q) hp))]; exact n
  there := fun b u q _ => ⟨u, k b u q⟩
  tups := fun b xs q => by rw [upd_ne (ne_of_none q hn)]; exact q
  frzs := fun b u xs q => by rw [upd_ne (ne_of_none q hn)]; exact q
  tbls := fun b ps q => ⟨#[], by rw [upd_ne (ne_of_none q hn), q]; simp⟩
theorem Un.write (mu : Mut (H x)) (he : e = x ∨ H e = some (.own x)) (k : ∀ b u, b ≠ e → h.get? b = some u → h'.get? b = some u) (heo : ∃ u, h'.get? e = some u) : Un fs ex H (upd H x o) h h' := by
  have hx : ∀ b, H b = none → b ≠ x := fun b n z => by subst z; rw [n] at mu; exact mu
  have hb : ∀ b, H b = none → b ≠ e := fun b n z => by
    subst z
    rcases he with r | r
    · exact hx b n r
    · rw [n] at r; cases r
  have hm : ∀ b u, H b = some u → ¬ Mut (some u) → b ≠ x := fun b u q nm z => by subst z; rw [q] at mu; exact nm mu
  refine ⟨fun b u q n _ _ => k b u (hb b n) q, fun b u q n _ _ => ⟨u.slots, k b u (hb b n) q⟩, fun b u q n _ => by rw [upd_ne (hx b n)]; exact n, fun b u q _ => ?_,
    fun b xs q => by rw [upd_ne (hm b _ q fun z => z)]; exact q, fun b u xs q => by rw [upd_ne (hm b _ q fun z => z)]; exact q, fun b ps q => ⟨#[], by rw [upd_ne (hm b _ q fun z => z), q]; simp⟩⟩
  by_cases hbe : b = e
  · subst hbe; exact heo
  · exact ⟨u, k b u hbe q⟩
theorem Un.mono (u : Un fs ex H H1 h h1) (hs : ∀ b ∈ fs, b ∈ fs') (hx : ∀ b ∈ ex, b ∈ ex') : Un fs' ex' H H1 h h1 :=
  ⟨fun b ob q n hb he => u.keep b ob q n (fun z => hb (hs b z)) fun z => he (hx b z), fun _ _ q n _ he => u.any q n fun z => he (hx _ z), fun b ob q n he => u.free b ob q n fun z => he (hx b z), fun b ob q he => u.there b ob q fun z => he (hx b z), u.tups, u.frzs, u.tbls⟩
end

/-! ### the heap without what is tracked -/
def trk (h : Heap) (H : Hp) : List Addr := (List.range h.objs.size).filter fun a => (H a).isSome
def hidT (h : Heap) (H : Hp) : Heap := PySem.W.hideAll h (trk h H)
theorem hidT_size (h : Heap) (H : Hp) : (hidT h H).objs.size = h.objs.size := PySem.W.hideAll_size _ _
theorem hidT_get {h : Heap} {H : Hp} {b : Addr} {o : Obj} (e : h.get? b = some o) (n : H b = none) : (hidT h H).get? b = some o :=
  PySem.W.hideAll_get _ e fun hm => by
    have q : (H b).isSome = true := (List.mem_filter.mp hm).2
    rw [n] at q; simp at q
theorem of_hidT {h : Heap} {H : Hp} {b : Addr} {o : Obj} (e : (hidT h H).get? b = some o) : h.get? b = some o ∧ H b = none := by
  have e' : h.get? b = some o := PySem.W.of_hideAll (trk h H) e
  refine ⟨e', ?_⟩
  cases q : H b with
  | none => rfl
  | some x =>
    have hm : b ∈ trk h H := List.mem_filter.mpr ⟨List.mem_range.mpr (Heap.lt_size e'), by simp [q]⟩
    have z : (hidT h H).get? b = none := PySem.W.hideAll_none (trk h H) hm
    rw [z] at e; cases e

/-! ### OpenK's ledger, filled with every new object but one -/
def allNews (g h : Heap) (L : Addr) : List (Addr × Obj) := (List.range h.objs.size).filterMap fun a => if a = L ∨ (g.get? a).isSome = true then none else (h.get? a).map fun o => (a, o)
def rest (g h : Heap) (L d : Addr) : List (Addr × Obj) := (allNews g h L).filter fun p => decide (p.1 ≠ d)
end L2

namespace L2
open PySem PySem.Spec PyProof.Rows

/-- the module's facts, over the base: the heap at the law's entry without what is tracked there -/
structure Mod (K : PySem.W.Frag) (mg : Str → Option Value) (base : Heap) : Prop where
  kin : K.In base
  glob : base.Ns mainGlobals mg
  blt : ∃ mb, base.Ns builtinsNs mb ∧ ∀ x : Str, x ≠ "__name__" → mb x = bootBuiltins x
  nolimit : base.NoLimit

/-- the context: a def's body (or a comprehension's block) running. base: fixed through the whole law; s₀, H₀: the entry; outer: the frames whose slots others may change (a def's callers); stack: all frames that run;
   ex: iterators that were made ahead of the entry and are walked here (a comprehension's); fn: the names whose cells were made at the entry (a def: all; a comprehension's block: its own); calm: not within an except suite; pn: pins that every state bears; xe: what is wanted of an exception that leaves the code -/
structure Cx where
  prog : Program
  w : World
  K : PySem.W.Frag
  mg : Str → Option Value
  base : Heap
  A : Around
  N : List Str
  s₀ : Shared
  H₀ : Hp
  env : Env
  outer : List Env
  stack : List Env
  ex : List Addr
  fn : Str → Bool
  calm : Bool
  pn : List (Addr × Obj)
  xe : Value → Shared → Prop
/-- the callers' frames -/
def frs (l : List Env) : List Addr := l.filterMap (·.frame)
abbrev Cx.fs (X : Cx) : List Addr := frs X.outer

def Vis (sc : Scope) (x : Str) : Prop := sc.names.lookup x = some .local ∨ sc.names.lookup x = some .cell ∨ sc.names.lookup x = some .free
def Loc (sc : Scope) (x : Str) : Prop := sc.names.lookup x = some .local ∨ sc.names.lookup x = some .cell
def Look (env : Env) (h : Heap) (m : Str → Option Value) (x : Str) (u : Value) : Prop :=
  (env.kindOf x = some .local ∧ m x = some u) ∨ ((env.kindOf x = some .cell ∨ env.kindOf x = some .free) ∧ ∃ c, env.cells.lookup x = some c ∧ h.IsCell c (some u))

structure Cx.Ok (X : Cx) : Prop where
  mod : Mod X.K X.mg X.base
  kind : X.env.scope.kind = .function
  glob : X.env.globals = mainGlobals
  blt : X.env.builtins = builtinsNs
  above : X.s₀.heap.objs.size ≤ X.env.locals
  inj : ∀ x y c, X.env.cells.lookup x = some c → X.env.cells.lookup y = some c → x = y
  has : ∀ x, (X.env.kindOf x = some .cell ∨ X.env.kindOf x = some .free) → ∃ c, X.env.cells.lookup x = some c
  cab : ∀ x c, X.fn x = true → X.env.cells.lookup x = some c → X.s₀.heap.objs.size ≤ c
  hd : X.calm = true → X.A.handled = none
  frames : X.A.frames = some X.stack
  stk : X.stack = X.outer ∨ (X.stack = X.env :: X.outer ∧ X.env.frame = some X.env.locals)
  exf : ∀ b ∈ X.ex, b ≠ X.env.locals ∧ ∀ x c, X.env.cells.lookup x = some c → c ≠ b
  bs : ∀ b o, X.base.get? b = some o → X.s₀.heap.get? b = some o ∧ X.H₀ b = none
  bsz : X.base.objs.size ≤ X.s₀.heap.objs.size
  noex : ∀ b o, X.base.get? b = some o → b ∉ X.ex
  exfs : ∀ b ∈ X.ex, b ∉ X.fs
  funs : X.s₀.heap.FunFrames X.base X.outer
  frf : ∀ b ∈ X.fs, X.H₀ b = none

structure Inv (X : Cx) (pins : List (Addr × Obj)) (σ : List (Option V)) (H : Hp) (s : Shared) : Prop where
  ok : X.Ok
  os : s.os = X.s₀.os
  bare : AllBare s.gens
  base : Un X.fs X.ex X.H₀ H X.s₀.heap s.heap
  loc : ∃ m, s.heap.Ns X.env.locals m ∧ ∀ (i : Nat) (x : Str) (v : V), X.N[i]? = some x → σ[i]? = some (some v) → Vis X.env.scope x → ∃ u, RelV v u ∧ Look X.env s.heap m x u
  cell : ∀ x c, X.env.cells.lookup x = some c → ∃ v, s.heap.IsCell c v
  free : H X.env.locals = none
  freeC : ∀ x c, X.env.cells.lookup x = some c → H c = none
  pin : ∀ p ∈ X.pn ++ pins, s.heap.get? p.1 = some p.2 ∧ H p.1 = none ∧ p.1 ≠ X.env.locals ∧ p.1 ∉ X.fs ∧ ∀ v, p.2.data ≠ .cell v
  hok : HOk X.prog X.w H s.heap
  len : σ.length = X.N.length

section
variable {X : Cx} {pins : List (Addr × Obj)} {σ : List (Option V)} {H H' : Hp} {s : Shared} {h' : Heap}

theorem Cx.Ok.nofr (ok : X.Ok) {b : Addr} {o : Obj} (e : X.base.get? b = some o) : b ∉ X.fs := fun hb => by
  have := (ok.funs.mem hb).1
  rw [e] at this; cases this
theorem Inv.bs (I : Inv X pins σ H s) : ∀ b o, X.base.get? b = some o → s.heap.get? b = some o ∧ H b = none := fun b o e =>
  ⟨I.base.keep b o (I.ok.bs b o e).1 (I.ok.bs b o e).2 (I.ok.nofr e) (I.ok.noex b o e), I.base.free b o (I.ok.bs b o e).1 (I.ok.bs b o e).2 (I.ok.noex b o e)⟩
theorem Inv.bk (I : Inv X pins σ H s) : ∀ b o, X.base.get? b = some o → s.heap.get? b = some o := fun b o e => (I.bs b o e).1
theorem Inv.mod (I : Inv X pins σ H s) : Mod X.K X.mg X.base := I.ok.mod
theorem Inv.kIn (I : Inv X pins σ H s) : X.K.In s.heap := I.ok.mod.kin.keeps I.bk
theorem Inv.nolimit (I : Inv X pins σ H s) : s.heap.NoLimit := I.ok.mod.nolimit.keeps I.bk
/-- the frame over the base: for OpenK's rules (K.In X.base is I.mod.kin) -/
theorem Inv.fr (I : Inv X pins σ H s) : ∃ m, Fr X.base X.env.locals s.heap m :=
  let ⟨m, hn, _⟩ := I.loc
  ⟨m, hn, I.bk, Nat.le_trans I.ok.bsz I.ok.above⟩
theorem Inv.lt (I : Inv X pins σ H s) : X.env.locals < s.heap.objs.size := let ⟨_, hn, _⟩ := I.loc; hn.lt
theorem Inv.sz (I : Inv X pins σ H s) : X.s₀.heap.objs.size ≤ s.heap.objs.size := Nat.le_trans I.ok.above (Nat.le_of_lt I.lt)
theorem Inv.nofs (I : Inv X pins σ H s) {a : Addr} (h : s.heap.objs.size ≤ a) : a ∉ X.fs := fun hb => by
  obtain ⟨_, o, ho, _⟩ := I.ok.funs.mem hb
  exact absurd (Nat.lt_of_lt_of_le (Heap.lt_size ho) (Nat.le_trans I.sz h)) (Nat.lt_irrefl _)
theorem Inv.cne (I : Inv X pins σ H s) : ∀ x c, X.env.cells.lookup x = some c → c ≠ X.env.locals := fun x c e z => by
  obtain ⟨v, o, ho, hd⟩ := I.cell x c e
  obtain ⟨m, ⟨o', es, ep, ho', hd', _⟩, _⟩ := I.loc
  rw [z, ho'] at ho; cases ho; rw [hd'] at hd; cases hd
theorem Inv.funs (I : Inv X pins σ H s) : s.heap.FunFrames X.base X.outer := by
  have all : ∀ (l : List Env), (∀ b ∈ frs l, b ∈ X.fs) → X.s₀.heap.FunFrames X.base l → s.heap.FunFrames X.base l := by
    intro l
    induction l with
    | nil => intro _ _; trivial
    | cons env r ih =>
      intro hs hl
      obtain ⟨hk, ⟨L, o, hf, hn, ho, hd⟩, hr⟩ := hl
      have hL : L ∈ X.fs := hs L (by unfold frs; rw [List.filterMap_cons, hf]; exact List.mem_cons_self)
      obtain ⟨sl, e⟩ := I.base.slot L o ho (I.ok.frf L hL) hL fun z => I.ok.exfs L z hL
      exact ⟨hk, ⟨L, _, hf, hn, e, hd⟩, ih (fun b hb => hs b (by unfold frs; rw [List.filterMap_cons, hf]; exact List.mem_cons_of_mem _ hb)) hr⟩
  exact all X.outer (fun _ hb => hb) I.ok.funs

/-- the frames that run, for a call -/
theorem Inv.stack (I : Inv X pins σ H s) : s.heap.FunFrames X.base X.stack := by
  rcases I.ok.stk with e | ⟨e, hf⟩
  · rw [e]; exact I.funs
  · rw [e]
    obtain ⟨m, hn, _⟩ := I.loc
    refine .cons (by rw [I.ok.kind]; decide) hf hn ?_ I.funs
    exact Heap.get?_none_of_le (Nat.le_trans I.ok.bsz I.ok.above)
theorem Inv.stkSub (I : Inv X pins σ H s) : ∀ b ∈ frs X.stack, b ∈ X.env.locals :: X.fs := fun b hb => by
  rcases I.ok.stk with e | ⟨e, hf⟩
  · rw [e] at hb; exact List.mem_cons_of_mem _ hb
  · rw [e] at hb
    unfold frs at hb
    rw [List.filterMap_cons, hf] at hb
    exact hb
theorem Inv.stkFree (I : Inv X pins σ H s) : ∀ b ∈ frs X.stack, H b = none := fun b hb => by
  rcases List.mem_cons.mp (I.stkSub b hb) with e | hb
  · rw [e]; exact I.free
  · obtain ⟨_, o, ho, _⟩ := I.ok.funs.mem hb
    exact I.base.free b o ho (I.ok.frf b hb) fun z => I.ok.exfs b z hb

/-- THE STEP: the untracked objects but the frame and the records at ch are kept (the callers' frames up to slots), the frame's map is kept, the new abstract heap is held -/
theorem Inv.step {g' : Array GenState} {t' : Nat} {d' : Drawn} {ch : List Addr} (I : Inv X pins σ H s)
    (hch : ∀ b ∈ ch, (b ∈ X.ex ∨ X.s₀.heap.objs.size ≤ b) ∧ b ≠ X.env.locals ∧ (∀ x c, X.env.cells.lookup x = some c → c ≠ b) ∧ ∀ p ∈ X.pn ++ pins, p.1 ≠ b)
    (keep : ∀ b o, b ≠ X.env.locals → b ∉ X.fs → b ∉ ch → s.heap.get? b = some o → H b = none → h'.get? b = some o)
    (slot : ∀ b o, b ≠ X.env.locals → b ∈ X.fs → b ∉ ch → s.heap.get? b = some o → H b = none → ∃ sl, h'.get? b = some { o with slots := sl }) (free : ∀ b o, b ∉ ch → s.heap.get? b = some o → H b = none → H' b = none)
    (there : ∀ b o, b ∉ ch → s.heap.get? b = some o → ∃ o', h'.get? b = some o')
    (tups : ∀ b xs, H b = some (.tup xs) → H' b = some (.tup xs)) (frzs : ∀ b o u, H b = some (.frz o u) → H' b = some (.frz o u)) (tbls : ∀ b ps, H b = some (.tbl ps) → ∃ more, H' b = some (.tbl (ps ++ more)))
    (ns : ∀ m, s.heap.Ns X.env.locals m → h'.Ns X.env.locals m) (hok : HOk X.prog X.w H' h') (hg : AllBare g') :
    Inv X pins σ H' { s with heap := h', gens := g', drawn := d', toks := t' } := by
  have neL : ∀ b o, X.s₀.heap.get? b = some o → b ≠ X.env.locals := fun b o e => Nat.ne_of_lt (Nat.lt_of_lt_of_le (Heap.lt_size e) I.ok.above)
  have neC : ∀ b o, X.s₀.heap.get? b = some o → b ∉ X.ex → b ∉ ch := fun b o e hx hb => by
    rcases (hch b hb).1 with z | z
    · exact hx z
    · exact absurd (Nat.lt_of_lt_of_le (Heap.lt_size e) z) (Nat.lt_irrefl _)
  have cellK : ∀ x c, X.env.cells.lookup x = some c → ∀ v, s.heap.IsCell c v → h'.IsCell c v := fun x c e v ⟨o, ho, hd⟩ => by
    have nch : c ∉ ch := fun z => (hch c z).2.2.1 x c e rfl
    by_cases hc : c ∈ X.fs
    · obtain ⟨sl, q⟩ := slot c o (I.cne x c e) hc nch ho (I.freeC x c e)
      exact ⟨_, q, hd⟩
    · exact ⟨o, keep c o (I.cne x c e) hc nch ho (I.freeC x c e), hd⟩
  refine ⟨I.ok, I.os, hg, ⟨fun b o e n hb hx => ?_, fun b o e n hb hx => ?_, fun b o e n hx => ?_, fun b o e hx => ?_, fun b xs e => tups b xs (I.base.tups b xs e), fun b o xs e => frzs b o xs (I.base.frzs b o xs e), fun b ps e => ?_⟩, ?_, fun x c e => ?_, ?_, fun x c e => ?_, fun p hp => ?_, hok, I.len⟩
  · exact keep b o (neL b o e) hb (neC b o e hx) (I.base.keep b o e n hb hx) (I.base.free b o e n hx)
  · obtain ⟨sl, e1⟩ := I.base.slot b o e n hb hx
    obtain ⟨sl', e2⟩ := slot b _ (neL b o e) hb (neC b o e hx) e1 (I.base.free b o e n hx)
    exact ⟨sl', e2⟩
  · obtain ⟨o', e1⟩ := I.base.there b o e hx
    exact free b o' (neC b o e hx) e1 (I.base.free b o e n hx)
  · obtain ⟨o', e1⟩ := I.base.there b o e hx
    exact there b o' (neC b o e hx) e1
  · obtain ⟨m1, e1⟩ := I.base.tbls b ps e
    obtain ⟨m2, e2⟩ := tbls b _ e1
    exact ⟨m1 ++ m2, by rw [e2, Array.append_assoc]⟩
  · obtain ⟨m, hn, hl⟩ := I.loc
    refine ⟨m, ns m hn, fun i x v e1 e2 e3 => ?_⟩
    obtain ⟨u, r, l⟩ := hl i x v e1 e2 e3
    refine ⟨u, r, ?_⟩
    rcases l with l | ⟨k, c, e, z⟩
    · exact .inl l
    · exact .inr ⟨k, c, e, cellK x c e _ z⟩
  · obtain ⟨v, z⟩ := I.cell x c e
    exact ⟨v, cellK x c e v z⟩
  · obtain ⟨m, ⟨o, _, _, ho, _⟩, _⟩ := I.loc
    exact free _ o (fun z => (hch _ z).2.1 rfl) ho I.free
  · obtain ⟨v, o, ho, hd⟩ := I.cell x c e
    exact free c o (fun z => (hch c z).2.2.1 x c e rfl) ho (I.freeC x c e)
  · obtain ⟨e, n, ne, nf, d⟩ := I.pin p hp
    have nch : p.1 ∉ ch := fun z => (hch p.1 z).2.2.2 p hp rfl
    exact ⟨keep p.1 p.2 ne nf nch e n, free p.1 p.2 nch e n, ne, nf, d⟩
/-- .. where the frame's own object is kept too -/
theorem Inv.un {t' : Nat} (I : Inv X pins σ H s) (u : Un X.fs [] H H' s.heap h') (hok : HOk X.prog X.w H' h') : Inv X pins σ H' { s with heap := h', toks := t' } := by
  obtain ⟨m, ⟨o, es, ep, ho, r⟩, _⟩ := id I.loc
  obtain ⟨sl, hL⟩ := u.any ho I.free (by simp)
  exact I.step (g' := s.gens) (d' := s.drawn) (ch := []) (fun _ z => nomatch z) (fun b o _ hb _ e n => u.keep b o e n hb (by simp)) (fun b o _ hb _ e n => u.slot b o e n hb (by simp)) (fun b o _ e n => u.free b o e n (by simp)) (fun b o _ e => u.there b o e (by simp)) u.tups u.frzs u.tbls (fun m' hm => by
    obtain ⟨o', es', ep', ho', r'⟩ := hm
    rw [ho] at ho'; cases ho'
    exact ⟨_, es', ep', hL, r'⟩) hok I.bare
/-- behind a call (or a comprehension's block): the slots of this frame may have changed too, the records at ch may have turned -/
theorem Inv.call {g' : Array GenState} {t' : Nat} {d' : Drawn} {ch : List Addr} (I : Inv X pins σ H s) (u : Un (frs X.stack) ch H H' s.heap h') (hok : HOk X.prog X.w H' h') (hg : AllBare g')
    (hch : ∀ b ∈ ch, (b ∈ X.ex ∨ X.s₀.heap.objs.size ≤ b) ∧ b ≠ X.env.locals ∧ (∀ x c, X.env.cells.lookup x = some c → c ≠ b) ∧ ∀ p ∈ X.pn ++ pins, p.1 ≠ b) :
    Inv X pins σ H' { s with heap := h', gens := g', drawn := d', toks := t' } := by
  obtain ⟨m, ⟨o, es, ep, ho, r⟩, _⟩ := id I.loc
  obtain ⟨sl, hL⟩ := u.any ho I.free fun z => (hch _ z).2.1 rfl
  exact I.step (ch := ch) hch (fun b o hL hb hc e n => u.keep b o e n (fun z => (List.mem_cons.mp (I.stkSub b z)).elim hL hb) hc) (fun b o _ _ hc e n => u.any e n hc) (fun b o hc e n => u.free b o e n hc) (fun b o hc e => u.there b o e hc) u.tups u.frzs u.tbls (fun m' hm => by
    obtain ⟨o', es', ep', ho', r'⟩ := hm
    rw [ho] at ho'; cases ho'
    exact ⟨_, es', ep', hL, r'⟩) hok hg
/-- an untracked record of ours (an iterator) has turned -/
theorem Inv.turned {t' : Nat} {it : Addr} (I : Inv X pins σ H s) (k : ∀ b o, b ≠ it → s.heap.get? b = some o → h'.get? b = some o) (hn : H it = none) (hL : it ≠ X.env.locals)
    (h1 : it ∈ X.ex ∨ X.s₀.heap.objs.size ≤ it) (h2 : ∀ x c, X.env.cells.lookup x = some c → c ≠ it) (h3 : ∀ p ∈ X.pn ++ pins, p.1 ≠ it) : Inv X pins σ H { s with heap := h', toks := t' } := by
  have nit : ∀ b u, H b = some u → b ≠ it := fun b u e z => by rw [z, hn] at e; cases e
  refine I.step (g' := s.gens) (d' := s.drawn) (ch := [it]) (fun b hb => ?_) (fun b o _ _ hc e _ => k b o (fun z => hc (by simp [z])) e) (fun b o _ _ hc e _ => ⟨o.slots, k b o (fun z => hc (by simp [z])) e⟩) (fun _ _ _ _ n => n)
    (fun b o hc e => ⟨o, k b o (fun z => hc (by simp [z])) e⟩) (fun _ _ e => e) (fun _ _ _ e => e) (fun b ps e => ⟨#[], by rw [e]; simp⟩) (fun m hm => ?_) (fun b u e => ?_) I.bare
  · have e : b = it := by simpa using hb
    subst e
    exact ⟨h1, hL, h2, h3⟩
  · obtain ⟨o, es, ep, ho, r⟩ := hm
    exact ⟨o, es, ep, k _ o (Ne.symm hL) ho, r⟩
  · refine (I.hok b u e).stay (fun c v hc q => k c v ?_ q) (fun _ q => q) fun _ _ q => q
    rcases hc with z | z
    · rw [z]; exact nit b u e
    · exact nit c _ z
theorem Inv.tok (I : Inv X pins σ H s) (t : Nat) : Inv X pins σ H { s with toks := t } := I.un (h' := s.heap) (t' := t) Un.refl I.hok
/-- all objects kept -/
theorem Inv.kept {t' : Nat} (I : Inv X pins σ H s) (k : ∀ b u, s.heap.get? b = some u → h'.get? b = some u) : Inv X pins σ H { s with heap := h', toks := t' } := I.un (Un.kept k) (I.hok.kept k)
/-- a new object laid and tracked -/
theorem Inv.laid {a : Addr} {o : HO} {t' : Nat} (I : Inv X pins σ H s) (k : ∀ b u, s.heap.get? b = some u → h'.get? b = some u) (hp : s.heap.objs.size ≤ a) (new : ObjOk X.prog X.w (upd H a o) h' a o) :
    Inv X pins σ (upd H a o) { s with heap := h', toks := t' } := I.un (Un.laid k hp (I.hok.fresh hp)) (I.hok.laid k hp new)
/-- an object written -/
theorem Inv.write {x e : Addr} {o : HO} {t' : Nat} (I : Inv X pins σ H s) (mu : Mut (H x)) (he : e = x ∨ H e = some (.own x)) (k : ∀ b u, b ≠ e → s.heap.get? b = some u → h'.get? b = some u) (heo : ∃ u, h'.get? e = some u)
    (new : ObjOk X.prog X.w (upd H x o) h' x o) : Inv X pins σ (upd H x o) { s with heap := h', toks := t' } := I.un (Un.write mu he k heo) (I.hok.write mu he k heo new)
/-- forgetting slots, pins -/
theorem Inv.weak {σ' : List (Option V)} (I : Inv X pins σ H s) (hl : σ'.length = σ.length) (w : ∀ (i : Nat) v, σ'[i]? = some (some v) → σ[i]? = some (some v)) : Inv X pins σ' H s :=
  ⟨I.ok, I.os, I.bare, I.base, let ⟨m, hn, hl'⟩ := I.loc; ⟨m, hn, fun i x v e1 e2 e3 => hl' i x v e1 (w i v e2) e3⟩, I.cell, I.free, I.freeC, I.pin, I.hok, hl.trans I.len⟩
theorem Inv.pins_of {pins' : List (Addr × Obj)} (I : Inv X pins σ H s) (h : ∀ p ∈ pins', s.heap.get? p.1 = some p.2 ∧ H p.1 = none ∧ p.1 ≠ X.env.locals ∧ p.1 ∉ X.fs ∧ ∀ v, p.2.data ≠ .cell v) : Inv X pins' σ H s :=
  ⟨I.ok, I.os, I.bare, I.base, I.loc, I.cell, I.free, I.freeC, fun p hp => (List.mem_append.mp hp).elim (fun z => I.pin p (List.mem_append_left _ z)) (h p), I.hok, I.len⟩

theorem nodup_ix {N : List Str} (hN : N.Nodup) {i j : Nat} {x : Str} (a : N[i]? = some x) (b : N[j]? = some x) : i = j := by
  obtain ⟨h1, e1⟩ := List.getElem?_eq_some_iff.mp a
  obtain ⟨h2, e2⟩ := List.getElem?_eq_some_iff.mp b
  exact (List.getElem_inj hN).mp (e1.trans e2.symm)

/-- a name is stored; what changed -/
theorem store_ok2 {M : Model} {A : Around} {E : Value → Shared → Prop} {i : Nat} {x : Str} {v : V} {u : Value} {Q : Unit → Shared → Prop} (I : Inv X pins σ H s) (hN : X.N.Nodup) (hi : X.N[i]? = some x) (hx : Loc X.env.scope x) (r : RelV v u)
    (h : ∀ s', Inv X pins (σ.set i (some v)) H s' → (∃ a, Heap.SameBut a s.heap s'.heap ∧ (a = X.env.locals ∨ X.env.cells.lookup x = some a)) → Q () s') (hf : X.fn x = true ∨ X.env.scope.names.lookup x = some .local := by first | exact .inl rfl | exact .inr rfl | assumption) : wpAny M A (storeName X.env x u) Q E s := by
  obtain ⟨m, hn, hl⟩ := id I.loc
  have hcls : (X.env.scope.kind == .class || (X.env.scope.kind == .module && X.env.locals != X.env.globals)) = false := by rw [I.ok.kind]; rfl
  have hiσ : i < σ.length := by rw [I.len]; exact (List.getElem?_eq_some_iff.mp hi).1
  have cne := I.cne
  have tracked : ∀ {a : Addr} {h' : Heap}, (∃ o, s.heap.get? a = some o ∧ H a = none) → Heap.SameBut a s.heap h' → HOk X.prog X.w H h' := fun {a h'} ha hs b ob e => by
    obtain ⟨_, _, hfree⟩ := ha
    refine (I.hok b ob e).stay (fun c w' hc q => (hs.2 c ?_).trans q) (fun _ q => q) fun _ _ q => q
    rintro rfl
    rcases hc with rfl | hc
    · rw [hfree] at e; cases e
    · rw [hfree] at hc; cases hc
  rcases hx with hk | hk
  · refine wpAny_storeName_local hk hn (fun h' hn' hs => ?_) hcls
    obtain ⟨oL, _, _, hoL, _⟩ := id hn
    refine h _ ⟨I.ok, I.os, I.bare, ⟨fun b o e n hb hx => ?_, fun b o e n hb hx => ?_, I.base.free, fun b o e hx => ?_, I.base.tups, I.base.frzs, I.base.tbls⟩, ⟨_, hn', fun j y v' e1 e2 e3 => ?_⟩, fun y c e => ?_, I.free, I.freeC, fun p hp => ?_, tracked ⟨oL, hoL, I.free⟩ hs, by simpa using I.len⟩ ⟨_, hs, .inl rfl⟩
    · exact (hs.2 b (Nat.ne_of_lt (Nat.lt_of_lt_of_le (Heap.lt_size e) I.ok.above))).trans (I.base.keep b o e n hb hx)
    · obtain ⟨sl, e1⟩ := I.base.slot b o e n hb hx
      exact ⟨sl, (hs.2 b (Nat.ne_of_lt (Nat.lt_of_lt_of_le (Heap.lt_size e) I.ok.above))).trans e1⟩
    · obtain ⟨o', e1⟩ := I.base.there b o e hx
      exact ⟨o', (hs.2 b (Nat.ne_of_lt (Nat.lt_of_lt_of_le (Heap.lt_size e) I.ok.above))).trans e1⟩
    · by_cases hj : j = i
      · subst hj
        rw [hi] at e1; cases e1
        rw [List.getElem?_set_self hiσ] at e2
        cases e2
        exact ⟨u, r, .inl ⟨hk, by simp⟩⟩
      · rw [List.getElem?_set_ne (Ne.symm hj)] at e2
        obtain ⟨u', r', q⟩ := hl j y v' e1 e2 e3
        refine ⟨u', r', ?_⟩
        rcases q with ⟨k, e⟩ | ⟨k, c, e, z⟩
        · refine .inl ⟨k, ?_⟩
          have : y ≠ x := fun e => hj (nodup_ix hN e1 (e ▸ hi))
          simp [this, e]
        · exact .inr ⟨k, c, e, z.sameBut hs (cne y c e)⟩
    · obtain ⟨w', z⟩ := I.cell y c e
      exact ⟨w', z.sameBut hs (cne y c e)⟩
    · obtain ⟨e, n, ne, nf, d⟩ := I.pin p hp
      exact ⟨(hs.2 p.1 ne).trans e, n, ne, nf, d⟩
  · have hfn : X.fn x = true := by
      rcases hf with z | z
      · exact z
      · rw [z] at hk; cases hk
    obtain ⟨c, hc⟩ := I.ok.has x (.inl hk)
    obtain ⟨w', z⟩ := I.cell x c hc
    refine wpAny_storeName_cell I.ok.kind hk hc z (fun h' hc' hs => ?_)
    obtain ⟨oc, hoc, hocd⟩ := id z
    refine h { s with heap := h' } ⟨I.ok, I.os, I.bare, ⟨fun b o e n hb hx => ?_, fun b o e n hb hx => ?_, I.base.free, fun b o e hx => ?_, I.base.tups, I.base.frzs, I.base.tbls⟩, ⟨m, hn.sameBut hs (Ne.symm (cne x c hc)), fun j y v' e1 e2 e3 => ?_⟩, fun y c' e => ?_, I.free, I.freeC, fun p hp => ?_, tracked ⟨oc, hoc, I.freeC x c hc⟩ hs, by simpa using I.len⟩ ⟨c, hs, .inr hc⟩
    · exact (hs.2 b (Nat.ne_of_lt (Nat.lt_of_lt_of_le (Heap.lt_size e) (I.ok.cab x c hfn hc)))).trans (I.base.keep b o e n hb hx)
    · obtain ⟨sl, e1⟩ := I.base.slot b o e n hb hx
      exact ⟨sl, (hs.2 b (Nat.ne_of_lt (Nat.lt_of_lt_of_le (Heap.lt_size e) (I.ok.cab x c hfn hc)))).trans e1⟩
    · obtain ⟨o', e1⟩ := I.base.there b o e hx
      exact ⟨o', (hs.2 b (Nat.ne_of_lt (Nat.lt_of_lt_of_le (Heap.lt_size e) (I.ok.cab x c hfn hc)))).trans e1⟩
    · by_cases hj : j = i
      · subst hj
        rw [hi] at e1; cases e1
        rw [List.getElem?_set_self hiσ] at e2
        cases e2
        exact ⟨u, r, .inr ⟨.inl hk, c, hc, hc'⟩⟩
      · rw [List.getElem?_set_ne (Ne.symm hj)] at e2
        obtain ⟨u', r', q⟩ := hl j y v' e1 e2 e3
        refine ⟨u', r', ?_⟩
        rcases q with q | ⟨k, c', e, z'⟩
        · exact .inl q
        · refine .inr ⟨k, c', e, z'.sameBut hs ?_⟩
          rintro rfl
          exact hj (nodup_ix hN e1 (I.ok.inj _ _ _ e hc ▸ hi))
    · by_cases hcc : c' = c
      · subst hcc; exact ⟨_, hc'⟩
      · obtain ⟨w2, z2⟩ := I.cell y c' e
        exact ⟨w2, z2.sameBut hs hcc⟩
    · obtain ⟨e, n, ne, nf, d⟩ := I.pin p hp
      refine ⟨(hs.2 p.1 ?_).trans e, n, ne, nf, d⟩
      intro q
      rw [q, hoc] at e
      have q' : oc = p.2 := Option.some.inj e
      exact d w' (by rw [← q']; exact hocd)
theorem store_ok {M : Model} {A : Around} {E : Value → Shared → Prop} {i : Nat} {x : Str} {v : V} {u : Value} {Q : Unit → Shared → Prop} (I : Inv X pins σ H s) (hN : X.N.Nodup) (hi : X.N[i]? = some x) (hx : Loc X.env.scope x) (r : RelV v u)
    (h : ∀ s', Inv X pins (σ.set i (some v)) H s' → Q () s') (hf : X.fn x = true ∨ X.env.scope.names.lookup x = some .local := by first | exact .inl rfl | exact .inr rfl | assumption) : wpAny M A (storeName X.env x u) Q E s :=
  store_ok2 I hN hi hx r (fun s' I' _ => h s' I') hf
/-- behind a call or a block, the state as it is -/
theorem Inv.call' {s' : Shared} {ch : List Addr} (I : Inv X pins σ H s) (ho : s'.os = s.os) (u : Un (frs X.stack) ch H H' s.heap s'.heap) (hok : HOk X.prog X.w H' s'.heap) (hg : AllBare s'.gens)
    (hch : ∀ b ∈ ch, (b ∈ X.ex ∨ X.s₀.heap.objs.size ≤ b) ∧ b ≠ X.env.locals ∧ (∀ x c, X.env.cells.lookup x = some c → c ≠ b) ∧ ∀ p ∈ X.pn ++ pins, p.1 ≠ b) : Inv X pins σ H' s' := by
  obtain ⟨h', g', d', t', o'⟩ := s'
  have e : o' = s.os := ho
  subst e
  exact I.call (g' := g') (t' := t') (d' := d') u hok hg hch
end

/-! ### the judgements -/
/-- an exception: its class, its own dict's address (where it has one), the abstract heap behind it -/
abbrev XK := Value → Option Addr → Hp → Prop
abbrev St := List (Option V)
abbrev VK := V → Hp → Prop
/-- an expression's reading; a test's; an argument list's -/
abbrev TE := St → Hp → VK → Prop
abbrev TT := St → Hp → (Bool → Hp → Prop) → Prop
abbrev TA := St → Hp → (List V → Hp → Prop) → Prop
/-- what is wanted behind a statement -/
structure Ends where
  nx : St → Hp → Prop
  rt : VK
  bk : St → Hp → Prop := fun _ _ => False
  ct : St → Hp → Prop := fun _ _ => False
abbrev TS := Ends → St → Hp → Prop

def EP (X : Cx) (pins : List (Addr × Obj)) (σ : St) (Q : VK) (u : Value) (s' : Shared) : Prop := ∃ v H', Inv X pins σ H' s' ∧ RelV v u ∧ Q v H'
def TP (X : Cx) (pins : List (Addr × Obj)) (σ : St) (Q : Bool → Hp → Prop) (b : Bool) (s' : Shared) : Prop := ∃ H', Inv X pins σ H' s' ∧ Q b H'
def AP (X : Cx) (pins : List (Addr × Obj)) (σ : St) (Q : List V → Hp → Prop) (us : List Value) (s' : Shared) : Prop := ∃ vs H', Inv X pins σ H' s' ∧ Vals vs us ∧ Q vs H'
def SP (X : Cx) (pins : List (Addr × Obj)) (D : Ends) (f : Flow) (s' : Shared) : Prop :=
  match f with
  | .next => ∃ σ' H', Inv X pins σ' H' s' ∧ D.nx σ' H'
  | .brk => ∃ σ' H', Inv X pins σ' H' s' ∧ D.bk σ' H'
  | .cont => ∃ σ' H', Inv X pins σ' H' s' ∧ D.ct σ' H'
  | .ret u => ∃ v σ' H', Inv X pins σ' H' s' ∧ RelV v u ∧ D.rt v H'

def PE (X : Cx) (e : Expr) (t : TE) : Prop :=
  ∀ (pins : List (Addr × Obj)) (s : Shared) (σ : St) (H : Hp) (Q : VK), Inv X pins σ H s → t σ H Q → wpAny (model X.prog X.w) X.A (eval e X.env) (EP X pins σ Q) X.xe s
def PT (X : Cx) (e : Expr) (t : TT) : Prop :=
  ∀ (pins : List (Addr × Obj)) (s : Shared) (σ : St) (H : Hp) (Q : Bool → Hp → Prop), Inv X pins σ H s → t σ H Q → wpAny (model X.prog X.w) X.A (isTrue e X.env (eval e X.env)) (TP X pins σ Q) X.xe s
/-- a test whatever its 'whole' is (and, or) -/
def PW (X : Cx) (e : Expr) (t : TT) : Prop :=
  ∀ (whole : Sem Value) (pins : List (Addr × Obj)) (s : Shared) (σ : St) (H : Hp) (Q : Bool → Hp → Prop), Inv X pins σ H s → t σ H Q → wpAny (model X.prog X.w) X.A (isTrue e X.env whole) (TP X pins σ Q) X.xe s
theorem PW.pt {X : Cx} {e : Expr} {t : TT} (h : PW X e t) : PT X e t := h _
/-- an argument list (no star), from the left -/
def PA (X : Cx) (es : List Expr) (t : TA) : Prop :=
  ∀ (pos : Pos) (pins : List (Addr × Obj)) (s : Shared) (σ : St) (H : Hp) (Q : List V → Hp → Prop), Inv X pins σ H s → t σ H Q → wpAny (model X.prog X.w) X.A (spliced (backTo pos (starEach es X.env))) (AP X pins σ Q) X.xe s
def PS (X : Cx) (st : Stmt) (t : TS) : Prop :=
  ∀ (pins : List (Addr × Obj)) (s : Shared) (σ : St) (H : Hp) (D : Ends), Inv X pins σ H s → t D σ H → wpAny (model X.prog X.w) X.A (exec st X.env) (SP X pins D) X.xe s
def PSs (X : Cx) (st : List Stmt) (t : TS) : Prop :=
  ∀ (pins : List (Addr × Obj)) (s : Shared) (σ : St) (H : Hp) (D : Ends), Inv X pins σ H s → t D σ H → wpAny (model X.prog X.w) X.A (execs st X.env) (SP X pins D) X.xe s
/-- weaken the end -/
theorem thn {α : Type} {t : Sem α} {Q Q' : α → Shared → Prop} {M : Model} {A : Around} {E : Value → Shared → Prop} {s : Shared} (h : wpAny M A t Q E s) (hQ : ∀ a s, Q a s → Q' a s) : wpAny M A t Q' E s := wpAny_mono h hQ fun _ _ x => x
end L2

namespace L2
open PySem PySem.Spec PyProof.Rows
section
variable {X : Cx}

/-! ### names and constants -/
def tVar (i : Nat) : TE := fun σ H Q => ∃ v, σ[i]? = some (some v) ∧ Q v H
def tC (v : V) : TE := fun _ H Q => Q v H
theorem pe_var {i : Nat} {x : Str} {pos : Pos} (hN : X.N[i]? = some x) (hv : Vis X.env.scope x) (hd : (x == ("__debug__" : Str)) = false := by decide) (hcd : (x == ("__classdict__" : Str)) = false := by decide) : PE X (.Name x pos) (tVar i) := by
  intro pins s σ H Q I h
  obtain ⟨v, e, h⟩ := h
  obtain ⟨m, hn, hl⟩ := I.loc
  obtain ⟨u, r, l⟩ := hl i x v hN e hv
  have fin : EP X pins σ Q u s := ⟨v, H, I, r, h⟩
  rcases l with ⟨hk, hm⟩ | ⟨hk, c, hc, hcell⟩
  · exact wpAny_Name (wpAny_loadName_local I.ok.kind hk hn hm fin) hd
  · rcases hk with hk | hk
    · exact wpAny_Name (wpAny_loadName_cell I.ok.kind hk hc hcell fin) hd
    · exact wpAny_Name (wpAny_loadName_free I.ok.kind hk hc hcell fin hcd) hd
theorem pe_int {i j pos} : PE X (.Constant (.int i) j pos) (tC (.int i)) := fun _ _ _ H _ I h => wpAny_Constant_int ⟨.int i, H, I.tok _, ⟨_, rfl⟩, h⟩
theorem pe_bl {b j pos} : PE X (.Constant (.bool b) j pos) (tC (.bl b)) := fun _ _ _ H _ I h => Constant_bool ⟨.bl b, H, I, rfl, h⟩
theorem pe_non {j pos} : PE X (.Constant .none j pos) (tC .non) := fun _ _ _ H _ I h => Constant_none ⟨.non, H, I, rfl, h⟩
theorem pe_str {x j pos} : PE X (.Constant (.str x) j pos) (tC (.str x)) := fun _ _ _ H _ I h => Calls.Constant_str ⟨.str x, H, I.tok _, ⟨_, rfl⟩, h⟩

/-- a global name of the def -/
def Gl (X : Cx) (x : Str) : Prop := X.env.kindOf x = some .globalImplicit
theorem ld_glob {E : Value → Shared → Prop} {pins : List (Addr × Obj)} {s : Shared} {σ : St} {H : Hp} {x : Str} {u : Value} {pos : Pos} {Q : Value → Shared → Prop} (I : Inv X pins σ H s) (hg : Gl X x) (hm : X.mg x = some u) (h : Q u s)
    (hd : (x == ("__debug__" : Str)) = false := by decide) : wpAny (model X.prog X.w) X.A (eval (.Name x pos) X.env) Q E s :=
  Calls.Name_function_global I.ok.kind hg (Calls.loadGlobal_global (by rw [I.ok.glob]; exact I.mod.glob.keeps I.bk) hm h) hd
theorem ld_blt {E : Value → Shared → Prop} {pins : List (Addr × Obj)} {s : Shared} {σ : St} {H : Hp} {x : Str} {u : Value} {pos : Pos} {Q : Value → Shared → Prop} (I : Inv X pins σ H s) (hg : Gl X x) (hm : X.mg x = none) (hv : bootBuiltins x = some u) (h : Q u s)
    (hn : x ≠ "__name__" := by decide) (hd : (x == ("__debug__" : Str)) = false := by decide) : wpAny (model X.prog X.w) X.A (eval (.Name x pos) X.env) Q E s := by
  obtain ⟨mb, h1, h2⟩ := I.mod.blt
  exact Calls.Name_function_global I.ok.kind hg (Calls.loadGlobal_builtin (by rw [I.ok.glob]; exact I.mod.glob.keeps I.bk) hm (by rw [I.ok.blt]; exact h1.keeps I.bk) ((h2 x hn).trans hv) h) hd
/-- a module's constant, a class, a function, as a value -/
theorem pe_glob {x : Str} {v : V} {u : Value} {pos : Pos} (hg : Gl X x) (hm : X.mg x = some u) (r : RelV v u) (hd : (x == ("__debug__" : Str)) = false := by decide) : PE X (.Name x pos) (tC v) :=
  fun _ _ _ H _ I h => ld_glob I hg hm ⟨v, H, I, r, h⟩ hd
theorem pe_bltn {x : Str} {v : V} {u : Value} {pos : Pos} (hg : Gl X x) (hm : X.mg x = none) (hv : bootBuiltins x = some u) (r : RelV v u) (hn : x ≠ "__name__" := by decide) (hd : (x == ("__debug__" : Str)) = false := by decide) : PE X (.Name x pos) (tC v) :=
  fun _ _ _ H _ I h => ld_blt I hg hm hv ⟨v, H, I, r, h⟩ hn hd

/-! ### arithmetic -/
variable {a b : Expr} {ta tb : TE} {pos : Pos}
/-! ### comparisons -/
def PC (X : Cx) (op : CmpOp) (a b : Expr) (t : TE) : Prop :=
  ∀ (pins : List (Addr × Obj)) (s : Shared) (σ : St) (H : Hp) (Q : VK), Inv X pins σ H s → t σ H Q →
    wpAny (model X.prog X.w) X.A (eval a X.env) (fun v s₁ => wpAny (model X.prog X.w) X.A (eval b X.env) (fun u s₂ => wpAny (model X.prog X.w) X.A (compareOp op v u) (EP X pins σ Q) X.xe s₂) X.xe s₁) X.xe s
theorem nobehind (b : Expr) {op : CmpOp} (h : op ≠ .In) (h2 : op ≠ .NotIn) : behindInMarks op b = false := by
  have e1 : (op == CmpOp.In) = false := by cases op <;> first | rfl | exact absurd rfl h
  have e2 : (op == CmpOp.NotIn) = false := by cases op <;> first | rfl | exact absurd rfl h2
  cases b <;> simp [behindInMarks, e1, e2]
/-- is None -/
def tIsN (ta : TE) : TE := fun σ H Q => ta σ H fun x H1 => Q (.bl (decide (x = .non))) H1
theorem RelV.none_iff {x : V} {v : Value} (r : RelV x v) : (v == Value.none) = decide (x = .non) := by
  cases x with
  | non => cases r; rfl
  | bl _ => cases r; rfl
  | int _ => obtain ⟨t, rfl⟩ := r; rfl
  | str _ => obtain ⟨t, rfl⟩ := r; rfl
  | byt _ => obtain ⟨t, rfl⟩ := r; rfl
  | flt _ => obtain ⟨t, rfl⟩ := r; rfl
  | ref _ => cases r; rfl
  | ty _ => cases r; rfl
theorem pc_isN {j pos'} (ha : PE X a ta) : PC X .Is a (.Constant .none j pos') (tIsN ta) := by
  intro pins s σ H Q I h
  refine thn (ha pins s σ H _ I h) fun v s1 ⟨x, H1, I1, r1, q1⟩ => ?_
  exact Constant_none (is_none_gen ⟨.bl _, H1, I1, by rw [r1.none_iff]; rfl, q1⟩)
/-- a comparison as a value, as a test -/
def tB (t : TE) : TT := fun σ H Q => t σ H fun x H1 => ∃ c, x = .bl c ∧ Q c H1
theorem pt_cmp {op : CmpOp} {t : TE} (h : PC X op a b t) (h1 : behindInMarks op b = false := by first | exact nobehind _ (by decide) (by decide) | rfl) : PT X (.Compare a [op] [b] pos) (tB t) := by
  intro pins s σ H Q I hw
  refine wpAny_isTrue_Compare1 (thn (h pins s σ H _ I hw) fun v s1 h1 => thn h1 fun u s2 h2 => thn h2 fun c s3 ⟨x, H1, I1, r1, q1⟩ => ?_) h1
  obtain ⟨d, rfl, q⟩ := q1
  cases r1
  exact wpAny_truthy_bool ⟨H1, I1, q⟩
/-- an expression whose value is a bool, as a test -/
theorem pt_val {e : Expr} {t : TE} (h : PE X e t) (he : ∀ whole, isTrue e X.env whole = (do let v ← whole; standAt e.pos; holding [v] (truthy v)) := by intro _; rfl) : PT X e (tB t) := by
  intro pins s σ H Q I hw
  refine isTrue_plain (thn (h pins s σ H _ I hw) fun v s1 ⟨x, H1, I1, r1, q1⟩ => ?_) (he _)
  obtain ⟨d, rfl, q⟩ := q1
  cases r1
  exact wpAny_truthy_bool ⟨H1, I1, q⟩

/-! ### and, or, not -/
variable {tA tB' : TT} {rest : List Expr}
def tAnd (t u : TT) : TT := fun σ H Q => t σ H fun c H1 => if c = true then u σ H1 Q else Q false H1
def tOr (t u : TT) : TT := fun σ H Q => t σ H fun c H1 => if c = true then Q true H1 else u σ H1 Q
def tNot (t : TT) : TT := fun σ H Q => t σ H fun c H1 => Q (!c) H1
theorem pw_and1 (ha : PT X a tA) : PW X (.BoolOp .And [a] pos) tA := by
  intro wh pins s σ H Q I h
  refine isTrue_and (thn (ha pins s σ H Q I h) fun c s1 e => ?_)
  cases c with
  | true => exact isTrue_and_nil e
  | false => exact e
theorem pw_or1 (ha : PT X a tA) : PW X (.BoolOp .Or [a] pos) tA := by
  intro wh pins s σ H Q I h
  refine isTrue_or (thn (ha pins s σ H Q I h) fun c s1 e => ?_)
  cases c with
  | false => exact isTrue_or_nil e
  | true => exact e
theorem pw_and (ha : PT X a tA) (hb : PW X (.BoolOp .And (b :: rest) pos) tB') : PW X (.BoolOp .And (a :: b :: rest) pos) (tAnd tA tB') := by
  intro wh pins s σ H Q I h
  refine isTrue_and (thn (ha pins s σ H _ I h) fun c s1 ⟨H1, I1, q1⟩ => ?_)
  cases c with
  | true => exact hb wh pins s1 σ H1 Q I1 q1
  | false => exact ⟨H1, I1, q1⟩
theorem pw_or (ha : PT X a tA) (hb : PW X (.BoolOp .Or (b :: rest) pos) tB') : PW X (.BoolOp .Or (a :: b :: rest) pos) (tOr tA tB') := by
  intro wh pins s σ H Q I h
  refine isTrue_or (thn (ha pins s σ H _ I h) fun c s1 ⟨H1, I1, q1⟩ => ?_)
  cases c with
  | true => exact ⟨H1, I1, q1⟩
  | false => exact hb wh pins s1 σ H1 Q I1 q1
theorem pt_not (ha : PT X a tA) : PT X (.UnaryOp .Not a pos) (tNot tA) := by
  intro pins s σ H Q I h
  exact isTrue_not (ha pins s σ H (fun c H1 => Q (!c) H1) I h)
/-- .. as values (bools) -/
def tAndV (ta tb : TE) : TE := fun σ H Q => ta σ H fun x H1 => ∃ c, x = .bl c ∧ if c = true then tb σ H1 Q else Q (.bl false) H1
def tNotV (ta : TE) : TE := fun σ H Q => ta σ H fun x H1 => ∃ c, x = .bl c ∧ Q (.bl (!c)) H1
theorem pe_one {op} {t : TE} (h : PE X a t) : PE X (.BoolOp op [a] pos) t := fun pins s σ H Q I hw => BoolOp_one (h pins s σ H Q I hw)
theorem pe_and (ha : PE X a ta) (hb : PE X (.BoolOp .And (b :: rest) pos) tb) : PE X (.BoolOp .And (a :: b :: rest) pos) (tAndV ta tb) := by
  intro pins s σ H Q I h
  refine BoolOp_and (thn (ha pins s σ H _ I h) fun v s1 ⟨x, H1, I1, r1, q1⟩ => ?_)
  obtain ⟨c, rfl, q1⟩ := q1
  cases r1
  refine wpAny_truthy_bool ?_
  cases c with
  | true => exact hb pins s1 σ H1 Q I1 q1
  | false => exact ⟨.bl false, H1, I1, rfl, q1⟩
theorem pe_not (ha : PE X a ta) : PE X (.UnaryOp .Not a pos) (tNotV ta) := by
  intro pins s σ H Q I h
  refine UnaryOp_ (thn (ha pins s σ H _ I h) fun v s1 ⟨x, H1, I1, r1, q1⟩ => ?_)
  obtain ⟨c, rfl, q1⟩ := q1
  cases r1
  exact not_of (wpAny_truthy_bool ⟨.bl (!c), H1, I1, rfl, q1⟩)
/-- a if t else b -/
def tIf (t : TT) (ta tb : TE) : TE := fun σ H Q => t σ H fun c H1 => if c = true then ta σ H1 Q else tb σ H1 Q
theorem pe_ifExp {c : Expr} (hc : PT X c tA) (ha : PE X a ta) (hb : PE X b tb) : PE X (.IfExp c a b pos) (tIf tA ta tb) := by
  intro pins s σ H Q I h
  refine wpAny_IfExp (thn (hc pins s σ H _ I h) fun d s1 ⟨H1, I1, q1⟩ => ?_)
  cases d with
  | true => exact ha pins s1 σ H1 Q I1 q1
  | false => exact hb pins s1 σ H1 Q I1 q1
end
end L2

namespace L2
open PySem PySem.Spec PyProof.Rows

/-! ### a list, a tuple that is read: tracked, frozen, or an object of the module -/
def SqL (K : PySem.W.Frag) (H : Hp) (a : Addr) (xs : List V) : Prop :=
  Rd H a (.lst xs) ∨
    ∃ (o : Obj) (its : Array Value) (n : Nat), K.lookup a = some o ∧ o.cls = .type "list" ∧ o.dict = none ∧ o.data = .seq its n ∧ its.size ≤ sizeLine ∧ Vals xs its.toList
def SqT (K : PySem.W.Frag) (H : Hp) (a : Addr) (xs : List V) : Prop :=
  Rd H a (.tup xs) ∨
    ∃ (o : Obj) (its : Array Value) (n : Nat), K.lookup a = some o ∧ o.cls = .type "tuple" ∧ o.data = .seq its n ∧ its.size ≤ sizeLine ∧ Vals xs its.toList
def absV : Value → Option V
  | .none => some .non
  | .bool b => some (.bl b)
  | .int i _ => some (.int i)
  | .str x _ => some (.str x)
  | .bytes b _ => some (.byt b)
  | .float b _ => some (.flt b)
  | .ref a => some (.ref a)
  | .type n => some (.ty n)
  | _ => none
theorem RelV.abs {x : V} {u : Value} (r : RelV x u) : absV u = some x := by
  cases x with
  | non => cases r; rfl
  | bl _ => cases r; rfl
  | int _ => obtain ⟨t, rfl⟩ := r; rfl
  | str _ => obtain ⟨t, rfl⟩ := r; rfl
  | byt _ => obtain ⟨t, rfl⟩ := r; rfl
  | flt _ => obtain ⟨t, rfl⟩ := r; rfl
  | ref _ => cases r; rfl
  | ty _ => cases r; rfl
theorem RelV.inj {x y : V} {u : Value} (r : RelV x u) (q : RelV y u) : x = y := Option.some.inj (r.abs.symm.trans q.abs)
theorem Vals.inj : ∀ {xs ys : List V} {us : List Value}, Vals xs us → Vals ys us → xs = ys
  | _, _, _, .nil, .nil => rfl
  | _, _, _, .cons r t, .cons r' t' => by rw [r.inj r', Vals.inj t t']
section
variable {X : Cx} {pins : List (Addr × Obj)} {σ : St} {H : Hp} {s : Shared} {a : Addr} {xs ys : List V}
theorem SqL.of {K : PySem.W.Frag} (h : H a = some (.lst xs)) : SqL K H a xs := .inl (.inl h)
theorem SqT.of {K : PySem.W.Frag} (h : H a = some (.tup xs)) : SqT K H a xs := .inl (.inl h)
theorem Inv.list (I : Inv X pins σ H s) (h : SqL X.K H a xs) : ∃ its : List Value, Vals xs its ∧ PlainL s.heap a its.toArray ∧ xs.length ≤ sizeLine := by
  rcases h with h | ⟨o, its, n, hk, hc, hd, hs, hz, r⟩
  · obtain ⟨z, its, n, r, e⟩ := h.ok I.hok
    exact ⟨its, r, ⟨_, n, e, rfl, rfl, rfl⟩, z⟩
  · refine ⟨its.toList, r, ⟨o, n, I.kIn a o hk, hc, hd, by simpa using hs⟩, ?_⟩
    have e := r.length
    simp only [Array.length_toList] at e
    omega
theorem Inv.tuple (I : Inv X pins σ H s) (h : SqT X.K H a xs) : ∃ its : List Value, Vals xs its ∧ IsTup s.heap a its.toArray ∧ xs.length ≤ sizeLine := by
  rcases h with h | ⟨o, its, n, hk, hc, hs, hz, r⟩
  · obtain ⟨z, its, r, p⟩ := h.ok I.hok
    exact ⟨its, r, p, z⟩
  · refine ⟨its.toList, r, ⟨o, I.kIn a o hk, hc, n, by simpa using hs⟩, ?_⟩
    have e := r.length
    simp only [Array.length_toList] at e
    omega
theorem Inv.list_inj (I : Inv X pins σ H s) (h : SqL X.K H a xs) (h' : SqL X.K H a ys) : xs = ys := by
  obtain ⟨its, r, ⟨o, n, e, _, _, d⟩, _⟩ := I.list h
  obtain ⟨its', r', ⟨o', n', e', _, _, d'⟩, _⟩ := I.list h'
  rw [e] at e'; cases e'
  rw [d] at d'
  injection d' with d1 _
  have : its = its' := by simpa using congrArg Array.toList d1
  subst this
  exact r.inj r'
end

/-! ### another wish about exceptions -/
abbrev Cx.wish (X : Cx) (E : Value → Shared → Prop) : Cx := { X with xe := E }
/-- no exception leaves -/
abbrev Cx.nox (X : Cx) : Cx := X.wish fun _ _ => False
theorem Cx.Ok.wish {X : Cx} (ok : X.Ok) (E : Value → Shared → Prop) : (X.wish E).Ok :=
  ⟨ok.mod, ok.kind, ok.glob, ok.blt, ok.above, ok.inj, ok.has, ok.cab, ok.hd, ok.frames, ok.stk, ok.exf, ok.bs, ok.bsz, ok.noex, ok.exfs, ok.funs, ok.frf⟩
theorem Cx.Ok.unwish {X : Cx} {E : Value → Shared → Prop} (ok : (X.wish E).Ok) : X.Ok :=
  ⟨ok.mod, ok.kind, ok.glob, ok.blt, ok.above, ok.inj, ok.has, ok.cab, ok.hd, ok.frames, ok.stk, ok.exf, ok.bs, ok.bsz, ok.noex, ok.exfs, ok.funs, ok.frf⟩
section
variable {X : Cx} {pins : List (Addr × Obj)} {σ : St} {H : Hp} {s : Shared} {E : Value → Shared → Prop}
theorem Inv.wish (I : Inv X pins σ H s) (E : Value → Shared → Prop) : Inv (X.wish E) pins σ H s := ⟨I.ok.wish E, I.os, I.bare, I.base, I.loc, I.cell, I.free, I.freeC, I.pin, I.hok, I.len⟩
theorem Inv.unwish (I : Inv (X.wish E) pins σ H s) : Inv X pins σ H s := ⟨I.ok.unwish, I.os, I.bare, I.base, I.loc, I.cell, I.free, I.freeC, I.pin, I.hok, I.len⟩
theorem SP.unwish {D : Ends} {f : Flow} {s' : Shared} (h : SP (X.wish E) pins D f s') : SP X pins D f s' := by
  cases f with
  | next => obtain ⟨σ', H', I, q⟩ := h; exact ⟨σ', H', I.unwish, q⟩
  | brk => obtain ⟨σ', H', I, q⟩ := h; exact ⟨σ', H', I.unwish, q⟩
  | cont => obtain ⟨σ', H', I, q⟩ := h; exact ⟨σ', H', I.unwish, q⟩
  | ret u => obtain ⟨v, σ', H', I, r, q⟩ := h; exact ⟨v, σ', H', I.unwish, r, q⟩
theorem PE.nox {e : Expr} {t : TE} (h : PE X.nox e t) : PE X e t := fun pins s σ H Q I hw =>
  wpAny_mono (h pins s σ H Q (I.wish _) hw) (fun _ _ ⟨v, H', I', r, q⟩ => ⟨v, H', I'.unwish, r, q⟩) fun _ _ z => False.elim z
theorem PT.nox {e : Expr} {t : TT} (h : PT X.nox e t) : PT X e t := fun pins s σ H Q I hw =>
  wpAny_mono (h pins s σ H Q (I.wish _) hw) (fun _ _ ⟨H', I', q⟩ => ⟨H', I'.unwish, q⟩) fun _ _ z => False.elim z
theorem PSs.nox {st : List Stmt} {t : TS} (h : PSs X.nox st t) : PSs X st t := fun pins s σ H D I hw =>
  wpAny_mono (h pins s σ H D (I.wish _) hw) (fun _ _ q => q.unwish) fun _ _ z => False.elim z
end

/-! ### blocks and small statements -/
section
variable {X : Cx} {st : Stmt} {rest : List Stmt} {t u : TS} {e : Expr} {te : TE} {pos : Pos}
def tNext : TS := fun D σ H => D.nx σ H
def tSeq (t u : TS) : TS := fun D σ H => t { D with nx := u D } σ H
theorem pss_nil : PSs X [] tNext := fun _ _ σ H _ I h => wpAny_execs_nil ⟨σ, H, I, h⟩
theorem pss_cons (h1 : PS X st t) (h2 : PSs X rest u) : PSs X (st :: rest) (tSeq t u) := by
  intro pins s σ H D I h
  refine wpAny_execs_cons (thn (h1 pins s σ H { D with nx := u D } I h) fun f s1 q => ?_)
  cases f with
  | next =>
    obtain ⟨σ', H', I', q⟩ := q
    exact h2 pins s1 σ' H' D I' q
  | ret v => exact q
  | brk => exact q
  | cont => exact q
theorem pss_one (h1 : PS X st t) : PSs X [st] t := by
  intro pins s σ H D I h
  refine wpAny_execs_cons (thn (h1 pins s σ H D I h) fun f s1 q => ?_)
  cases f with
  | next => exact wpAny_execs_nil q
  | ret v => exact q
  | brk => exact q
  | cont => exact q
/-- in a def's body nothing is shown -/
theorem Inv.quiet {pins : List (Addr × Obj)} {σ : St} {H : Hp} {s : Shared} (I : Inv X pins σ H s) : interactive X.env = false := by simp [interactive, I.ok.kind]
/-- an expression whose value is dropped -/
def tDrop (te : TE) : TS := fun D σ H => te σ H fun _ H1 => D.nx σ H1
theorem ps_expr (he : PE X e te) (hs : swapsWith e none pos.line X.env = pure false := by rfl) : PS X (.Expr e pos) (tDrop te) := by
  intro pins s σ H D I h
  exact wpAny_Expr_any (thn (he pins s σ H _ I h) fun v s1 ⟨x, H1, I1, r1, q1⟩ => ⟨σ, H1, I1, q1⟩) I.quiet hs
def tRet (te : TE) : TS := fun D σ H => te σ H D.rt
theorem ps_ret (he : PE X e te) : PS X (.Return (some e) pos) (tRet te) := by
  intro pins s σ H D I h
  exact wpAny_Return_some (thn (he pins s σ H _ I h) fun v s1 ⟨x, H1, I1, r1, q1⟩ => ⟨x, σ, H1, I1, r1, q1⟩)
def tIfS (c : TT) (t u : TS) : TS := fun D σ H => c σ H fun b H1 => if b = true then t D σ H1 else u D σ H1
theorem ps_if {c : Expr} {a b : List Stmt} {tc : TT} (hc : PT X c tc) (ha : PSs X a t) (hb : PSs X b u) : PS X (.If c a b pos) (tIfS tc t u) := by
  intro pins s σ H D I h
  refine wpAny_If (thn (hc pins s σ H _ I h) fun d s1 ⟨H1, I1, q1⟩ => ?_)
  cases d with
  | true => exact ha pins s1 σ H1 D I1 q1
  | false => exact hb pins s1 σ H1 D I1 q1
/-- code that the proof never comes to -/
def tNever : TS := fun _ _ _ => False
theorem pss_never {sts : List Stmt} : PSs X sts tNever := fun _ _ _ _ _ _ h => h.elim
end

/-! ### targets -/
abbrev TG := V → St → Hp → (St → Hp → Prop) → Prop
abbrev TGs := List V → St → Hp → (St → Hp → Prop) → Prop
def PG (X : Cx) (target : Expr) (t : TG) : Prop :=
  ∀ (pins : List (Addr × Obj)) (s : Shared) (σ : St) (H : Hp) (v : V) (u : Value) (Q : St → Hp → Prop), Inv X pins σ H s → RelV v u → t v σ H Q →
    wpAny (model X.prog X.w) X.A (assign target X.env u) (fun _ s' => ∃ σ' H', Inv X pins σ' H' s' ∧ Q σ' H') X.xe s
/-- several targets, one after another -/
def PGs (X : Cx) (ts : List Expr) (t : TGs) : Prop :=
  ∀ (pins : List (Addr × Obj)) (s : Shared) (σ : St) (H : Hp) (vs : List V) (us : List Value) (Q : St → Hp → Prop), Inv X pins σ H s → Vals vs us → t vs σ H Q →
    wpAny (model X.prog X.w) X.A (assignInOrder ((assignEach ts X.env).map (·.2)) us) (fun _ s' => ∃ σ' H', Inv X pins σ' H' s' ∧ Q σ' H') X.xe s
/-- o[i] = v, by values -/
abbrev TSet := V → V → V → Hp → (Hp → Prop) → Prop
def PSet (X : Cx) (t : TSet) : Prop :=
  ∀ (pins : List (Addr × Obj)) (s : Shared) (σ : St) (H : Hp) (o i v : V) (ov iv u : Value) (Q : Hp → Prop), Inv X pins σ H s → RelV o ov → RelV i iv → RelV v u → t o i v H Q →
    wpAny (model X.prog X.w) X.A (setItem ov iv u) (fun _ s' => ∃ H', Inv X pins σ H' s' ∧ Q H') X.xe s
/-- a op= b, by values -/
abbrev TIp := V → V → Hp → VK → Prop
def PIp (X : Cx) (op : Operator) (t : TIp) : Prop :=
  ∀ (pins : List (Addr × Obj)) (s : Shared) (σ : St) (H : Hp) (x y : V) (v u : Value) (Q : VK), Inv X pins σ H s → RelV x v → RelV y u → t x y H Q →
    wpAny (model X.prog X.w) X.A (inplaceOp op v u) (EP X pins σ Q) X.xe s
section
variable {X : Cx} {pos : Pos}
def gName (i : Nat) : TG := fun v σ H Q => Q (σ.set i (some v)) H
theorem pg_name {i : Nat} {x : Str} (hN : X.N.Nodup) (hi : X.N[i]? = some x) (hx : Loc X.env.scope x) (hf : X.fn x = true ∨ X.env.scope.names.lookup x = some .local := by first | exact .inl rfl | exact .inr rfl | assumption) : PG X (.Name x pos) (gName i) := by
  intro pins s σ H v u Q I r h
  exact wpAny_assign_Name (store_ok I hN hi hx r (fun s' I' => ⟨_, H, I', h⟩) hf)
def gNil : TGs := fun vs σ H Q => vs = [] ∧ Q σ H
def gCons (t : TG) (u : TGs) : TGs := fun vs σ H Q => ∃ v r, vs = v :: r ∧ t v σ H fun σ' H' => u r σ' H' Q
theorem pgs_nil : PGs X [] gNil := by
  intro pins s σ H vs us Q I r h
  obtain ⟨e, h⟩ := h
  subst e
  cases r
  exact assignInOrder_nil ⟨σ, H, I, h⟩
theorem pgs_cons {e : Expr} {es : List Expr} {t : TG} {u : TGs} (h1 : PG X e t) (h2 : PGs X es u)
    (hs : (assignEach (e :: es) X.env).map (·.2) = assign e X.env :: (assignEach es X.env).map (·.2) := by rfl) : PGs X (e :: es) (gCons t u) := by
  intro pins s σ H vs us Q I r h
  obtain ⟨v, vr, e1, h⟩ := h
  subst e1
  cases r with
  | cons r rr =>
    rw [hs]
    refine assignInOrder_cons (thn (h1 pins s σ H _ _ _ I r h) fun _ s1 ⟨σ1, H1, I1, q1⟩ => ?_)
    exact h2 pins s1 σ1 H1 _ _ Q I1 rr q1
/-- (a, b, ..) = a tuple of that length -/
def gTup (K : PySem.W.Frag) (n : Nat) (t : TGs) : TG := fun v σ H Q => ∃ a xs, v = .ref a ∧ SqT K H a xs ∧ xs.length = n ∧ t xs σ H Q
theorem pg_tup {es : List Expr} {k : Nat} {t : TGs} {n : Nat} (hc : X.calm = true) (h : PGs X es t)
    (hn : (assignEach es X.env).length = n := by rfl) (hst : (assignEach es X.env).findIdx? (·.1) = none := by rfl) : PG X (.Tuple es k pos) (gTup X.K n t) := by
  intro pins s σ H v u Q I r hw
  obtain ⟨a, xs, e1, hq, hl, hw⟩ := hw
  subst e1
  cases r
  obtain ⟨its, rv, ht, hz⟩ := I.tuple hq
  refine assign_Tuple_tuple (I.ok.hd hc) ht (by simp [hn, ← hl, rv.length]) hst fun h' hx => ?_
  have I1 : Inv X pins σ H { s with heap := h' } := I.kept (t' := s.toks) fun b o e => hx b o (Nat.ne_of_lt (Heap.lt_size e)) e
  exact h pins _ σ H xs _ Q I1 (by simpa using rv) hw
/-- o[i] = .. -/
def gSub (to ti : TE) (t : TSet) : TG := fun v σ H Q => to σ H fun o H1 => ti σ H1 fun i H2 => t o i v H2 fun H3 => Q σ H3
theorem pg_sub {o i : Expr} {to ti : TE} {t : TSet} (ho : PE X o to) (hi : PE X i ti) (hs : PSet X t)
    (ha : ∀ v, assign (.Subscript o i pos) X.env v = (do
      let ov ← holding [v] (eval o X.env)
      let iv ← holding [v, ov] (eval i X.env)
      standAt pos
      holding [v, ov, iv] (setItem ov iv v)
      release [v, ov, iv] []) := by intro _; rfl) : PG X (.Subscript o i pos) (gSub to ti t) := by
  intro pins s σ H v u Q I r h
  rw [ha]
  refine wpAny_bind (wpAny_holding (thn (ho pins s σ H _ I h) fun ov s1 ⟨x, H1, I1, r1, q1⟩ => ?_))
  refine wpAny_bind (wpAny_holding (thn (hi pins s1 σ H1 _ I1 q1) fun iv s2 ⟨y, H2, I2, r2, q2⟩ => ?_))
  refine wpAny_bind (wpAny_standAt (wpAny_bind (wpAny_holding (thn (hs pins s2 σ H2 x y v ov iv u _ I2 r1 r2 r q2) fun _ s3 ⟨H3, I3, q3⟩ => ?_))))
  exact wpAny_release ⟨σ, H3, I3, q3⟩
/-- target = value -/
def tAsg (te : TE) (g : TG) : TS := fun D σ H => te σ H fun x H1 => g x σ H1 D.nx
theorem ps_asg {tg e : Expr} {te : TE} {g : TG} (he : PE X e te) (hg : PG X tg g) (hs : swapsWithSole [tg] e pos.line X.env = pure false := by rfl) (hw : swappedStores [tg] e X.env = pure none := by rfl)
    (h1 : (assignEach [tg] X.env).map (·.2) = [assign tg X.env] := by rfl) : PS X (.Assign [tg] e pos) (tAsg te g) := by
  intro pins s σ H D I h
  refine wpAny_Assign_stores (thn (he pins s σ H _ I h) fun v s1 ⟨x, H1, I1, r1, q1⟩ => ?_) hs hw
  rw [h1]
  exact thn (hg pins s1 σ H1 x v _ I1 r1 q1) fun _ s2 q => q
/-- name = value -/
theorem ps_set {i : Nat} {x : Str} {e : Expr} {te : TE} {pos' : Pos} (hN : X.N.Nodup) (hi : X.N[i]? = some x) (hx : Loc X.env.scope x) (he : PE X e te) (hs : swapsWith e (some (.Name x pos')) pos.line X.env = pure false := by rfl) (hf : X.fn x = true ∨ X.env.scope.names.lookup x = some .local := by first | exact .inl rfl | exact .inr rfl | assumption) :
    PS X (.Assign [.Name x pos'] e pos) (tAsg te (gName i)) := by
  intro pins s σ H D I h
  refine wpAny_Assign_Name (thn (he pins s σ H _ I h) fun v s1 ⟨y, H1, I1, r1, q1⟩ => ?_) hs
  exact store_ok I1 hN hi hx r1 (fun s2 I2 => ⟨_, H1, I2, q1⟩) hf
/-- a, b = x, y with plain local names: stored from the right; the pair itself is not tracked (the opening rows as in PyProof/Rows/TupAssign.lean:23) -/
def tPar (i j : Nat) (ta : TA) : TS := fun D σ H => ta σ H fun vs H1 => ∃ v w, vs = [v, w] ∧ D.nx ((σ.set i (some v)).set j (some w)) H1
theorem ps_par {i j : Nat} {x y : Str} {a b : Expr} {ta : TA} {px py pt : Pos} {kt k2 pt2} (hc : X.calm = true) (hN : X.N.Nodup) (hi : X.N[i]? = some x) (hj : X.N[j]? = some y) (hij : i ≠ j)
    (hx : X.env.scope.names.lookup x = some .local) (hy : X.env.scope.names.lookup y = some .local) (ha : PA X [a, b] ta)
    (hw : swappedStores [.Tuple [.Name x px, .Name y py] kt pt] (.Tuple [a, b] k2 pt2) X.env = pure (some [x, y]))
    (hs : swapsWithSole [.Tuple [.Name x px, .Name y py] kt pt] (.Tuple [a, b] k2 pt2) pos.line X.env = pure false := by rfl) :
    PS X (.Assign [.Tuple [.Name x px, .Name y py] kt pt] (.Tuple [a, b] k2 pt2) pos) (tPar i j ta) := by
  intro pins s σ H D I h
  rw [exec_Assign_arm]
  refine wpAny_bind (wpAny_standAt ?_)
  rw [hs]
  refine wpAny_bind (wpAny_pure ?_)
  rw [if_neg (by decide)]
  refine wpAny_bind (Tuple_ (thn (ha _ pins s σ H _ I h) fun us s1 ⟨vs, H1, I1, r1, q1⟩ => ?_))
  obtain ⟨v, w, e1, q1⟩ := q1
  subst e1
  obtain ⟨u1, u2, rfl, rv, rw'⟩ : ∃ u1 u2, us = [u1, u2] ∧ RelV v u1 ∧ RelV w u2 := by
    cases r1 with
    | cons p q =>
      cases q with
      | cons p' q' =>
        cases q'
        exact ⟨_, _, rfl, p, p'⟩
  refine wpAny_newObj_type ?_ (by show 2 ≤ sizeLine; decide)
  have I2 : Inv X pins σ H1 { s1 with heap := s1.heap.push { cls := .type "tuple", data := .seq [u1, u2].toArray } } := I1.kept (t' := s1.toks) fun b o e => Heap.get?_push_of_some _ e
  rw [hw]
  refine wpAny_bind (wpAny_pure ?_)
  show wpAny (model X.prog X.w) X.A (do rule "assign.swapped-stores"; let items ← unpackItems (.ref s1.heap.objs.size) 2 none; assignInOrder [fun v => bindName X.env y v, fun v => bindName X.env x v] items.reverse; pure Flow.next) _ _ _
  refine wpAny_bind (wpAny_rule (wpAny_bind (unpackItems_tuple (items := #[u1, u2]) (I.ok.hd hc) (IsTup.new s1.heap _) fun h' hx' => ?_)))
  have I3 := I2.kept (h' := h') (t' := s1.toks) fun b o e => hx' b o (Nat.ne_of_lt (Heap.lt_size e)) e
  show wpAny _ _ (assignInOrder [fun v => bindName X.env y v, fun v => bindName X.env x v] [u2, u1] >>= fun _ => pure Flow.next) _ _ _
  refine wpAny_bind (assignInOrder_cons (wpAny_bindName (store_ok I3 hN hj (.inl hy) rw' (fun s2 I4 => ?_) (.inr hy))))
  refine assignInOrder_cons (wpAny_bindName (store_ok I4 hN hi (.inl hx) rv (fun s3 I5 => assignInOrder_nil (wpAny_pure ?_)) (.inr hx)))
  rw [List.set_comm _ _ (Ne.symm hij)] at I5
  exact ⟨_, H1, I5, q1⟩
/-- name op= e -/
def tAug (i : Nat) (te : TE) (ti : TIp) : TS := fun D σ H => ∃ x, σ[i]? = some (some x) ∧ te σ H fun y H1 => ti x y H1 fun z H2 => D.nx (σ.set i (some z)) H2
theorem ps_aug {i : Nat} {x : Str} {e : Expr} {te : TE} {op : Operator} {ti : TIp} {pos' : Pos} (hN : X.N.Nodup) (hi : X.N[i]? = some x) (hx : Loc X.env.scope x) (he : PE X e te) (ho : PIp X op ti) (hf : X.fn x = true ∨ X.env.scope.names.lookup x = some .local := by first | exact .inl rfl | exact .inr rfl | assumption) :
    PS X (.AugAssign (.Name x pos') op e pos) (tAug i te ti) := by
  intro pins s σ H D I h
  obtain ⟨v, e1, h⟩ := h
  obtain ⟨m, hn, hl⟩ := I.loc
  have vis : Vis X.env.scope x := by rcases hx with k | k; exact .inl k; exact .inr (.inl k)
  obtain ⟨u, r, l⟩ := hl i x v hi e1 vis
  refine wpAny_AugAssign_Name ?_
  have go : wpAny (model X.prog X.w) X.A (eval e X.env) (fun w s₂ => wpAny (model X.prog X.w) X.A (inplaceOp op u w) (fun r s₃ => wpAny (model X.prog X.w) X.A (storeName X.env x r) (fun _ => SP X pins D .next) X.xe s₃) X.xe s₂) X.xe s := by
    refine thn (he pins s σ H _ I h) fun w s1 ⟨y, H1, I1, r1, q1⟩ => ?_
    refine thn (ho pins s1 σ H1 v y u w _ I1 r r1 q1) fun z s2 ⟨zv, H2, I2, r2, q2⟩ => ?_
    exact store_ok I2 hN hi hx r2 (fun s3 I3 => ⟨_, H2, I3, q2⟩) hf
  rcases l with ⟨hk, hm⟩ | ⟨hk, c, hc, hcell⟩
  · exact wpAny_loadName_local I.ok.kind hk hn hm go
  · rcases hk with hk | hk
    · exact wpAny_loadName_cell I.ok.kind hk hc hcell go
    · rcases hx with k | k
      · have : X.env.scope.names.lookup x = some .free := hk
        rw [k] at this; cases this
      · have : X.env.scope.names.lookup x = some .free := hk
        rw [k] at this; cases this
/-- ints -/
def ipI (f : Int → Int → Int) : TIp := fun x y H Q => ∃ i j, x = .int i ∧ y = .int j ∧ Q (.int (f i j)) H
theorem ip_add : PIp X .Add (ipI fun i j => i + j) := by
  intro pins s σ H x y v u Q I r1 r2 h
  obtain ⟨i, j, e1, e2, q⟩ := h
  subst e1; subst e2
  obtain ⟨t, rfl⟩ := r1
  obtain ⟨t', rfl⟩ := r2
  exact iadd_int ⟨.int _, H, I.tok _, ⟨_, rfl⟩, q⟩
end

/-! ### while -/
section
variable {X : Cx} {pos : Pos}
/-- the invariant W with its measure -/
def tWhile (c : TT) (tb : TS) : TS := fun D σ H => ∃ W : Nat → St → Hp → Prop, (∃ m, W m σ H) ∧ ∀ m σ H, W m σ H →
  c σ H fun b H1 => if b = true then ∃ N : St → Hp → Prop, (∀ σ' H', N σ' H' → ∃ m', m' < m ∧ W m' σ' H') ∧ tb { D with nx := N, ct := N, bk := D.nx } σ H1 else D.nx σ H1
theorem ps_while {c : Expr} {body : List Stmt} {tc : TT} {tb : TS} (hp : PassesOwn (model X.prog X.w) X.A X.env X.xe) (hc : PT X c tc) (hb : PSs X body tb) : PS X (.While c body [] pos) (tWhile tc tb) := by
  intro pins s σ H D I h
  obtain ⟨W, ⟨m0, w0⟩, turn⟩ := h
  refine wpAny_While (codeAny_whileLoop (fun n s' => ∃ σ' H', Inv X pins σ' H' s' ∧ W n σ' H') ?_ m0 ⟨σ, H, I, w0⟩)
  rintro n s1 ⟨σ1, H1, I1, w1⟩
  refine wpAny_passesOwn hp (thn (hc pins s1 σ1 H1 _ I1 (turn n σ1 H1 w1)) fun b s2 ⟨H2, I2, q2⟩ => ?_)
  cases b with
  | true =>
    obtain ⟨N, hN, q2⟩ := q2
    rw [if_pos rfl]
    refine wpAny_passesOwn hp (thn (hb pins s2 σ1 H2 _ I2 q2) fun f s3 q3 => ?_)
    cases f with
    | next =>
      obtain ⟨σ3, H3, I3, n3⟩ := q3
      obtain ⟨m', hm, w3⟩ := hN σ3 H3 n3
      exact ⟨m', hm, σ3, H3, I3, w3⟩
    | cont =>
      obtain ⟨σ3, H3, I3, n3⟩ := q3
      obtain ⟨m', hm, w3⟩ := hN σ3 H3 n3
      exact ⟨m', hm, σ3, H3, I3, w3⟩
    | brk => exact q3
    | ret v => exact q3
  | false =>
    rw [if_neg Bool.false_ne_true]
    exact wpAny_execs_nil ⟨σ1, H2, I2, q2⟩
end

/-! ### what a loop or a comprehension walks -/
/-- at turn i: it yields x (the heap may grow), or it stops -/
structure It where
  go : Nat → Hp → Prop
  yld : Nat → Hp → V → Hp → Prop
  stop : Nat → Hp → Prop
/-- the iterator's own objects may turn: they are not the frame's, not pinned, younger than the entry (or a comprehension's own) -/
def FpOk (X : Cx) (pins : List (Addr × Obj)) (H : Hp) (b : Addr) : Prop :=
  H b = none ∧ b ≠ X.env.locals ∧ b ∉ X.fs ∧ (b ∈ X.ex ∨ X.s₀.heap.objs.size ≤ b) ∧ (∀ x c, X.env.cells.lookup x = some c → c ≠ b) ∧ ∀ p ∈ X.pn ++ pins, p.1 ≠ b
theorem Inv.fpOk {X : Cx} {pins : List (Addr × Obj)} {σ : St} {H H' : Hp} {s : Shared} {b : Addr} (I : Inv X pins σ H s) (hb : s.heap.objs.size ≤ b) (hn : H' b = none) : FpOk X pins H' b := by
  refine ⟨hn, Nat.ne_of_gt (Nat.lt_of_lt_of_le I.lt hb), I.nofs hb, .inr (Nat.le_trans I.sz hb), fun x c e z => ?_, fun p hp z => ?_⟩
  · obtain ⟨v, q⟩ := I.cell x c e
    exact absurd (Nat.lt_of_lt_of_le q.lt (by rw [z]; exact hb)) (Nat.lt_irrefl _)
  · exact absurd (Nat.lt_of_lt_of_le (Heap.lt_size (I.pin p hp).1) (by rw [z]; exact hb)) (Nat.lt_irrefl _)
structure Turn (P : Program) (w : World) (K : PySem.W.Frag) (tg : Expr) (J : It) (fp : List Addr) (it : Addr) (tn : Nat → Heap → Prop) : Prop where
  mem : it ∈ fp
  obj : ∀ i h, tn i h → ∀ b ∈ fp, ∃ o, h.get? b = some o ∧ ∀ v, o.data ≠ .cell v
  keep : ∀ i h h', tn i h → (∀ b ∈ fp, ∀ o, h.get? b = some o → h'.get? b = some o) → tn i h'
  item : ∀ (X : Cx), X.prog = P → X.w = w → X.K = K → X.calm = true → ∀ (i : Nat) (pins : List (Addr × Obj)) (s : Shared) (σ : St) (H : Hp) (E : Value → Shared → Prop), Inv X pins σ H s → (∀ b ∈ fp, FpOk X pins H b) → tn i s.heap → J.go i H →
    wpAny (model P w) X.A (pyNext (.ref it)) (fun r s1 => ∃ u, r = some u ∧
      wpAny (model P w) X.A (letOwnedTupleGo tg (.ref it) u) (fun _ s2 => ∃ x H', Inv X pins σ H' s2 ∧ RelV x u ∧ J.yld i H x H' ∧ tn (i + 1) s2.heap ∧ ∀ b ∈ fp, H' b = none) E s1) E s
  done : ∀ (X : Cx), X.prog = P → X.w = w → X.K = K → X.calm = true → ∀ (i : Nat) (pins : List (Addr × Obj)) (s : Shared) (σ : St) (H : Hp) (E : Value → Shared → Prop), Inv X pins σ H s → (∀ b ∈ fp, FpOk X pins H b) → tn i s.heap → J.stop i H →
    wpAny (model P w) X.A (pyNext (.ref it)) (fun r s1 => r = none ∧ Inv X pins σ H s1) E s
  self : ∀ (A : Around) (i : Nat) (s : Shared) (Q : Value → Shared → Prop) (E : Value → Shared → Prop), tn i s.heap → Q (.ref it) s → wpAny (model P w) A (pyIter (.ref it)) Q E s
abbrev TI := St → Hp → (It → Hp → Prop) → Prop
/-- an iterator has come -/
def PIE (X : Cx) (pins : List (Addr × Obj)) (σ : St) (tg : Expr) (R : It → Hp → Prop) (itv : Value) (s2 : Shared) : Prop :=
  ∃ (it : Addr) (fp : List Addr) (tn : Nat → Heap → Prop) (J : It) (H' : Hp), itv = .ref it ∧ Inv X pins σ H' s2 ∧ Turn X.prog X.w X.K tg J fp it tn ∧ tn 0 s2.heap ∧ (∀ b ∈ fp, FpOk X pins H' b) ∧ R J H'
def PI (X : Cx) (tg iter : Expr) (wi : TI) : Prop :=
  ∀ (pins : List (Addr × Obj)) (s : Shared) (σ : St) (H : Hp) (R : It → Hp → Prop), Inv X pins σ H s → wi σ H R →
    wpAny (model X.prog X.w) X.A (eval iter X.env) (fun v s1 => wpAny (model X.prog X.w) X.A (pyIter v) (PIE X pins σ tg R) X.xe s1) X.xe s

/-- the step ahead of the store is nothing for an iterator that keeps no tuple -/
theorem go_of {M : Model} {A : Around} {E : Value → Shared → Prop} {s : Shared} {tg : Expr} {it : Addr} {u : Value} {o : Obj} {n : String} {vs : Array Value} {Q : Unit → Shared → Prop} (ho : s.heap.get? it = some o) (hc : o.cls = .type n) (hd : o.data = .fields vs)
    (hn : ["enumerate", "zip", "dict_itemiterator", "dict_reverseitemiterator", "odict_iterator", "itertools.zip_longest", "itertools.pairwise"].contains n = false) (hQ : Q () s) : wpAny M A (letOwnedTupleGo tg (.ref it) u) Q E s := by
  unfold letOwnedTupleGo
  cases tg <;> first
    | exact wpAny_pure hQ
    | (cases u <;> first
        | exact wpAny_pure hQ
        | (refine wpAny_bind (wpAny_load ho ?_)
           rw [hc, hd]
           show wpAny M A (if (["enumerate", "zip", "dict_itemiterator", "dict_reverseitemiterator", "odict_iterator", "itertools.zip_longest", "itertools.pairwise"].contains n && vs[0]? == some (rawInt _)) = true then _ else _) Q E s
           rw [if_neg (by intro h; rw [hn, Bool.false_and] at h; cases h)]
           exact wpAny_pure hQ))

/-- the list at a, as it stands at each turn (a loop may append to it) -/
def Itl (K : PySem.W.Frag) (a : Addr) : It :=
  ⟨fun i H => ∃ xs x, SqL K H a xs ∧ xs[i]? = some x, fun i H x H' => H' = H ∧ ∀ xs, SqL K H a xs → xs[i]? = some x, fun i H => ∃ xs, SqL K H a xs ∧ xs.length ≤ i⟩
/-- lo, lo + 1, .. (n of them) -/
def Itr (lo : Int) (n : Nat) : It := ⟨fun i _ => i < n, fun i H x H' => H' = H ∧ x = .int (lo + i), fun i _ => n ≤ i⟩
theorem turn_list {P : Program} {w : World} {K : PySem.W.Frag} {tg : Expr} (a it : Addr) : Turn P w K tg (Itl K a) [it] it (fun i h => h.IsListIter it a i) where
  mem := by simp
  obj := fun i h st b hb => by
    have e : b = it := by simpa using hb
    subst e
    obtain ⟨o, e, c, d⟩ := st
    exact ⟨o, e, fun v z => by rw [d] at z; cases z⟩
  keep := fun i h h' st k => st.at fun o e => k it (by simp) o e
  item := by
    intro X hP hw hK hc i pins s σ H E I hf st hg
    subst hP hw hK
    obtain ⟨xs, x, hq, hx⟩ := hg
    obtain ⟨its, rv, p, hz⟩ := I.list hq
    obtain ⟨u, hu, ru⟩ := rv.get hx
    obtain ⟨f0, f1, f2, f3, f4, f5⟩ := hf it (by simp)
    refine wpAny_pyNext_list_item st p.isList (x := u) (by simpa using hu) fun h' st' sb => ?_
    have I1 : Inv X pins σ H { s with heap := h' } := I.turned (t' := s.toks) (fun b o hb e => (sb.2 b hb).trans e) f0 f1 f3 f4 f5
    obtain ⟨o, e, c, d⟩ := id st'
    exact ⟨u, rfl, go_of (s := { s with heap := h' }) e c d (by decide) ⟨x, H, I1, ru, ⟨rfl, fun ys hy => by rw [I.list_inj hy hq]; exact hx⟩, st', fun b hb => (hf b hb).1⟩⟩
  done := by
    intro X hP hw hK hc i pins s σ H E I hf st hg
    subst hP hw hK
    obtain ⟨xs, hq, hx⟩ := hg
    obtain ⟨its, rv, p, hz⟩ := I.list hq
    obtain ⟨f0, f1, f2, f3, f4, f5⟩ := hf it (by simp)
    have hl := rv.length
    exact wpAny_pyNext_list_end (I.ok.hd hc) st p.isList (by simp; omega) fun h' eb => ⟨rfl, I.turned (t' := s.toks) (fun b o hb e => eb b o hb e) f0 f1 f3 f4 f5⟩
  self := fun _ _ _ _ _ st h => wpAny_pyIter_listiter st h
theorem turn_range {P : Program} {w : World} {K : PySem.W.Frag} {tg : Expr} (it : Addr) (lo : Int) (n : Nat) : Turn P w K tg (Itr lo n) [it] it (fun i h => IsRangeIter h it (lo + (i : Nat) * 1) ((n : Int) - (i : Nat)) 1) where
  mem := by simp
  obj := fun i h st b hb => by
    have e : b = it := by simpa using hb
    subst e
    exact ⟨_, st, fun v z => by
      have z' : Data.fields _ = Data.cell v := z
      cases z'⟩
  keep := fun i h h' st k => k it (by simp) _ st
  item := by
    intro X hP hw hK hc i pins s σ H E I hf st hg
    subst hP hw hK
    obtain ⟨f0, f1, f2, f3, f4, f5⟩ := hf it (by simp)
    have W := Walks.range (prog := X.prog) (w := X.w) (I.ok.hd hc) it lo 1 n
    refine W.item i s _ _ hg st fun v h' tk hv st' kk => ?_
    obtain ⟨t, rfl⟩ := hv
    have I1 : Inv X pins σ H { s with heap := h', toks := tk } := I.turned (fun b o hb e => kk b o (by simpa using hb) e) f0 f1 f3 f4 f5
    refine ⟨_, rfl, go_of (s := { s with heap := h', toks := tk }) (n := "range_iterator") st' rfl rfl (by decide) ⟨.int (lo + i), H, I1, ⟨t, ?_⟩, ⟨rfl, rfl⟩, st', fun b hb => (hf b hb).1⟩⟩
    rw [Int.mul_one]
  done := by
    intro X hP hw hK hc i pins s σ H E I hf st hg
    subst hP hw hK
    obtain ⟨f0, f1, f2, f3, f4, f5⟩ := hf it (by simp)
    exact wpAny_pyNext_range_end (I.ok.hd hc) st (by have : n ≤ i := hg; omega) fun h' eb => ⟨rfl, I.turned (t' := s.toks) (fun b o hb e => eb b o hb e) f0 f1 f3 f4 f5⟩
  self := fun _ _ _ _ _ st h => wpAny_pyIter_rangeiter st h
end L2

namespace L2
open PySem PySem.Spec PyProof.Rows
section
variable {X : Cx} {tg : Expr}
def iList (K : PySem.W.Frag) (tl : TE) : TI := fun σ H R => tl σ H fun x H1 => ∃ a, x = .ref a ∧ (∃ xs, SqL K H1 a xs) ∧ R (Itl K a) H1
theorem pi_list {l : Expr} {tl : TE} (hl : PE X l tl) : PI X tg l (iList X.K tl) := by
  intro pins s σ H R I h
  refine thn (hl pins s σ H _ I h) fun v s1 ⟨x, H1, I1, r1, q1⟩ => ?_
  obtain ⟨a, e, ⟨xs, hq⟩, q⟩ := q1
  subst e
  cases r1
  obtain ⟨its, rv, p, hz⟩ := I1.list hq
  refine wpAny_pyIter_list p.isList ?_
  refine ⟨s1.heap.objs.size, [s1.heap.objs.size], _, _, H1, rfl, I1.kept (t' := s1.toks) fun b o e => Heap.get?_push_of_some _ e, turn_list a _, ⟨_, Heap.get?_push_size _ rfl, rfl, rfl⟩, fun b hb => ?_, q⟩
  have e : b = s1.heap.objs.size := by simpa using hb
  subst e
  exact I1.fpOk (Nat.le_refl _) (I1.hok.fresh (Nat.le_refl _))
/-- a range object just made, walked -/
theorem range_it {pins : List (Addr × Obj)} {σ : St} {H : Hp} {s : Shared} {R : It → Hp → Prop} {E : Value → Shared → Prop} {lo hi : Int} {t u v : Tok} {tk : Nat} (I : Inv X pins σ H s) (h1 : -(2 ^ 62) ≤ lo) (h2 : lo < 2 ^ 62) (h3 : -(2 ^ 62) ≤ hi) (h4 : hi < 2 ^ 62)
    (q : R (Itr lo (hi - lo).toNat) H) : wpAny (model X.prog X.w) X.A (pyIter (.ref s.heap.objs.size)) (PIE X pins σ tg R) E { s with heap := s.heap.push { cls := .type "range", data := .fields #[.int lo t, .int hi u, .int 1 v] }, toks := tk } := by
  refine wpAny_pyIter_range (IsRange.new ..) (small_one h1 h2 h3 h4) ?_
  have I1 : Inv X pins σ H { s with heap := s.heap.push { cls := .type "range", data := .fields #[.int lo t, .int hi u, .int 1 v] }, toks := tk } := I.kept fun b o e => Heap.get?_push_of_some _ e
  refine ⟨(s.heap.push { cls := .type "range", data := .fields #[.int lo t, .int hi u, .int 1 v] }).objs.size, [(s.heap.push { cls := .type "range", data := .fields #[.int lo t, .int hi u, .int 1 v] }).objs.size], _, _, H, rfl,
    I1.kept (t' := tk) fun b o e => Heap.get?_push_of_some _ e, turn_range _ lo (hi - lo).toNat, ?_, fun b hb => ?_, q⟩
  · have e1 : lo + ((0 : Nat) : Int) * 1 = lo := by simp
    have e2 : (((hi - lo).toNat : Nat) : Int) - ((0 : Nat) : Int) = Builtin.Range.rangeSize lo hi 1 := by rw [rangeSize_one]; split <;> omega
    show IsRangeIter _ _ (lo + ((0 : Nat) : Int) * 1) ((((hi - lo).toNat : Nat) : Int) - ((0 : Nat) : Int)) 1
    rw [e1, e2]
    exact Heap.get?_push_size _ rfl
  · have e : b = (s.heap.push { cls := .type "range", data := .fields #[.int lo t, .int hi u, .int 1 v] }).objs.size := by simpa using hb
    subst e
    exact I1.fpOk (Nat.le_refl _) (I1.hok.fresh (Nat.le_refl _))
def iRng1 (ta : TA) : TI := fun σ H R => ta σ H fun vs H1 => ∃ j : Int, vs = [.int j] ∧ -(2 ^ 62) ≤ j ∧ j < 2 ^ 62 ∧ R (Itr 0 j.toNat) H1
def iRng2 (ta : TA) : TI := fun σ H R => ta σ H fun vs H1 => ∃ i j : Int, vs = [.int i, .int j] ∧ (-(2 ^ 62) ≤ i ∧ i < 2 ^ 62 ∧ -(2 ^ 62) ≤ j ∧ j < 2 ^ 62) ∧ R (Itr i (j - i).toNat) H1
theorem pi_range1 {a : Expr} {ta : TA} {p pos : Pos} (hg : Gl X "range") (hm : X.mg "range" = none) (ha : PA X [a] ta) (hs : starEach [a] X.env = [(false, eval a X.env)] := by rfl) : PI X tg (.Call (.Name "range" p) [a] [] pos) (iRng1 ta) := by
  intro pins s σ H R I h
  refine Call_ (ld_blt I hg hm boot_range (PyProof.Rows.callWith_type1 (thn (ha pos pins s σ H _ I h) fun us s1 ⟨vs, H1, I1, r1, q1⟩ => ?_) hs rfl))
  obtain ⟨j, e, q1, q2, q⟩ := q1
  subst e
  cases r1 with
  | cons r rr =>
    cases rr
    obtain ⟨t, rfl⟩ := r
    exact call_range_1 (range_it I1 (by omega) (by omega) q1 q2 (by simpa using q))
theorem pi_range2 {a b : Expr} {ta : TA} {p pos : Pos} (hg : Gl X "range") (hm : X.mg "range" = none) (ha : PA X [a, b] ta) (hs : starEach [a, b] X.env = [(false, eval a X.env), (false, eval b X.env)] := by rfl) (hs2 : starEach [b] X.env = [(false, eval b X.env)] := by rfl) :
    PI X tg (.Call (.Name "range" p) [a, b] [] pos) (iRng2 ta) := by
  intro pins s σ H R I h
  refine Call_ (ld_blt I hg hm boot_range (PyProof.Rows.callWith_type1 (thn (ha pos pins s σ H _ I h) fun us s1 ⟨vs, H1, I1, r1, q1⟩ => ?_) (by rw [hs, hs2]) (by rw [hs2]; rfl)))
  obtain ⟨i, j, e, ⟨q1, q2, q3, q4⟩, q⟩ := q1
  subst e
  cases r1 with
  | cons r rr =>
    cases rr with
    | cons r' rr =>
      cases rr
      obtain ⟨t, rfl⟩ := r
      obtain ⟨t', rfl⟩ := r'
      exact call_range_2 (range_it I1 q1 q2 q3 q4 q)

/-! ### for -/
/-- W: the invariant by the turn and a measure; N: what the body is to reach -/
def tFor (wi : TI) (g : TG) (tb : TS) : TS := fun D σ H => wi σ H fun J H1 => ∃ W : Nat → Nat → St → Hp → Prop, (∃ m, W 0 m σ H1) ∧ ∀ i m σ H, W i m σ H →
  (J.stop i H ∧ D.nx σ H) ∨ (J.go i H ∧ ∃ N : St → Hp → Prop, (∀ σ' H', N σ' H' → ∃ m', m' < m ∧ W (i + 1) m' σ' H') ∧ ∀ x H', J.yld i H x H' → g x σ H' fun σ2 H2 => tb { D with nx := N, ct := N, bk := D.nx } σ2 H2)
/-- the records at fp as they stand -/
def pinsAt (fp : List Addr) (h : Heap) : List (Addr × Obj) := fp.filterMap fun b => (h.get? b).map fun o => (b, o)
theorem mem_pinsAt {fp : List Addr} {h : Heap} {b : Addr} {o : Obj} (hb : b ∈ fp) (e : h.get? b = some o) : (b, o) ∈ pinsAt fp h := List.mem_filterMap.mpr ⟨b, hb, by rw [e]; rfl⟩
theorem of_pinsAt {fp : List Addr} {h : Heap} {p : Addr × Obj} (hp : p ∈ pinsAt fp h) : p.1 ∈ fp ∧ h.get? p.1 = some p.2 := by
  obtain ⟨b, hb, e⟩ := List.mem_filterMap.mp hp
  cases q : h.get? b with
  | none => rw [q] at e; cases e
  | some o =>
    rw [q] at e
    have e' : (b, o) = p := Option.some.inj e
    subst e'
    exact ⟨hb, q⟩
theorem Inv.pinned {pins : List (Addr × Obj)} {σ : St} {H : Hp} {s : Shared} {fp : List Addr} (I : Inv X pins σ H s) (hf : ∀ b ∈ fp, FpOk X pins H b) (ho : ∀ b ∈ fp, ∃ o, s.heap.get? b = some o ∧ ∀ v, o.data ≠ .cell v) : Inv X (pins ++ pinsAt fp s.heap) σ H s :=
  I.pins_of fun p hp => (List.mem_append.mp hp).elim (fun z => I.pin p (List.mem_append_right _ z)) fun z => by
    obtain ⟨hb, e⟩ := of_pinsAt z
    obtain ⟨f0, f1, f2, _⟩ := hf p.1 hb
    obtain ⟨o, e', d⟩ := ho p.1 hb
    rw [e] at e'; cases e'
    exact ⟨e, f0, f1, f2, d⟩
theorem Inv.unpinned {pins pl : List (Addr × Obj)} {σ : St} {H : Hp} {s : Shared} (I : Inv X (pins ++ pl) σ H s) : Inv X pins σ H s := I.pins_of fun p hp => I.pin p (List.mem_append_right _ (List.mem_append_left _ hp))
theorem ps_for {iter : Expr} {body : List Stmt} {wi : TI} {g : TG} {tb : TS} {pos : Pos} (hp : PassesOwn (model X.prog X.w) X.A X.env X.xe) (hc : X.calm = true) (hi : PI X tg iter wi) (hg : PG X tg g) (hb : PSs X body tb)
    (hs : ∀ x, foldedSetIterable iter X.env x = pure x := by intro _; rfl) : PS X (.For tg iter body [] pos) (tFor wi g tb) := by
  intro pins s σ H D I h
  refine wpAny_For (thn (hi pins s σ H _ I h) fun v s1 h1 => thn h1 fun itv s2 h2 => ?_) hs
  obtain ⟨it, fp, tn, J, H2, e, I2, T, st2, f2, W, ⟨m0, w0⟩, turn⟩ := h2
  subst e
  -- what stays true of the iterator's objects through the loop
  have stat : ∀ {H' : Hp}, (∀ b ∈ fp, H' b = none) → ∀ b ∈ fp, FpOk X pins H' b := fun hn b hb => ⟨hn b hb, (f2 b hb).2⟩
  refine codeAny_forLoop_any (fun n s' => ∃ i σ' H', Inv X pins σ' H' s' ∧ tn i s'.heap ∧ (∀ b ∈ fp, H' b = none) ∧ W i n σ' H') ?_ m0 ⟨0, σ, H2, I2, st2, fun b hb => (f2 b hb).1, w0⟩
  rintro n s3 ⟨i, σ3, H3, I3, st3, fr3, w3⟩
  rcases turn i n σ3 H3 w3 with ⟨stop, qn⟩ | ⟨go, N, hN, step⟩
  · refine wpAny_passesOwn hp (thn (T.done X rfl rfl rfl hc i pins s3 σ3 H3 X.xe I3 (stat fr3) st3 stop) fun r s4 ⟨hr, I4⟩ => ?_)
    subst hr
    exact wpAny_execs_nil ⟨σ3, H3, I4, qn⟩
  · refine wpAny_passesOwn hp (thn (T.item X rfl rfl rfl hc i pins s3 σ3 H3 X.xe I3 (stat fr3) st3 go) fun r s4 ⟨u, hr, h4⟩ => ?_)
    subst hr
    refine wpAny_passesOwn hp (thn h4 fun _ s5 ⟨x, H5, I5, r5, y5, st5, fr5⟩ => ?_)
    have I5' := I5.pinned (stat fr5) (T.obj _ _ st5)
    refine wpAny_passesOwn hp (thn (hg _ s5 σ3 H5 x u _ I5' r5 (step x H5 y5)) fun _ s6 ⟨σ6, H6, I6, q6⟩ => ?_)
    refine wpAny_passesOwn hp (thn (hb _ s6 σ6 H6 _ I6 q6) fun f s7 q7 => ?_)
    have again : ∀ {σ7 : St} {H7 : Hp}, Inv X (pins ++ pinsAt fp s5.heap) σ7 H7 s7 → N σ7 H7 → ∃ m, m < n ∧ ∃ i σ' H', Inv X pins σ' H' s7 ∧ tn i s7.heap ∧ (∀ b ∈ fp, H' b = none) ∧ W i m σ' H' := fun {σ7 H7} I7 n7 => by
      obtain ⟨m', hm, w7⟩ := hN σ7 H7 n7
      refine ⟨m', hm, i + 1, σ7, H7, I7.unpinned, T.keep _ _ _ st5 fun b hb o e => (I7.pin (b, o) (List.mem_append_right _ (List.mem_append_right _ (mem_pinsAt hb e)))).1, fun b hb => ?_, w7⟩
      obtain ⟨o, e, d⟩ := T.obj _ _ st5 b hb
      exact (I7.pin (b, o) (List.mem_append_right _ (List.mem_append_right _ (mem_pinsAt hb e)))).2.1
    cases f with
    | next => obtain ⟨σ7, H7, I7, n7⟩ := q7; exact again I7 n7
    | cont => obtain ⟨σ7, H7, I7, n7⟩ := q7; exact again I7 n7
    | brk => obtain ⟨σ7, H7, I7, q7⟩ := q7; exact ⟨σ7, H7, I7.unpinned, q7⟩
    | ret v => obtain ⟨x7, σ7, H7, I7, r7, q7⟩ := q7; exact ⟨x7, σ7, H7, I7.unpinned, r7, q7⟩
end

/-! ### the forms one uses -/
/-- over a list that the body leaves as it is -/
theorem for_list {K : PySem.W.Frag} {a : Addr} {xs : List V} {g : TG} {tb : TS} {D : Ends} {σ : St} {H : Hp} (Pv : Nat → St → Hp → Prop) (h0 : Pv 0 σ H) (hl : ∀ i σ H, i ≤ xs.length → Pv i σ H → SqL K H a xs)
    (hs : ∀ i x σ H, xs[i]? = some x → Pv i σ H → g x σ H fun σ2 H2 => tb { D with nx := Pv (i + 1), ct := Pv (i + 1), bk := D.nx } σ2 H2) (hd : ∀ σ H, Pv xs.length σ H → D.nx σ H) :
    ∃ W : Nat → Nat → St → Hp → Prop, (∃ m, W 0 m σ H) ∧ ∀ i m σ H, W i m σ H →
      ((Itl K a).stop i H ∧ D.nx σ H) ∨ ((Itl K a).go i H ∧ ∃ N : St → Hp → Prop, (∀ σ' H', N σ' H' → ∃ m', m' < m ∧ W (i + 1) m' σ' H') ∧ ∀ x H', (Itl K a).yld i H x H' → g x σ H' fun σ2 H2 => tb { D with nx := N, ct := N, bk := D.nx } σ2 H2) := by
  refine ⟨fun i m σ H => m = xs.length - i ∧ i ≤ xs.length ∧ Pv i σ H, ⟨xs.length, by simp, Nat.zero_le _, h0⟩, ?_⟩
  rintro i m σ H ⟨rfl, hi, p⟩
  have q := hl i σ H hi p
  by_cases hlt : i < xs.length
  · refine .inr ⟨⟨xs, xs[i], q, by simp [hlt]⟩, Pv (i + 1), fun σ' H' p' => ⟨xs.length - (i + 1), by omega, rfl, hlt, p'⟩, fun x H' y => ?_⟩
    obtain ⟨e, y⟩ := y
    subst e
    exact hs i x σ _ (y xs q) p
  · have e : i = xs.length := by omega
    subst e
    exact .inl ⟨⟨xs, q, Nat.le_refl _⟩, hd σ H p⟩
theorem for_range {lo : Int} {n : Nat} {g : TG} {tb : TS} {D : Ends} {σ : St} {H : Hp} (Pv : Nat → St → Hp → Prop) (h0 : Pv 0 σ H)
    (hs : ∀ i σ H, i < n → Pv i σ H → g (.int (lo + i)) σ H fun σ2 H2 => tb { D with nx := Pv (i + 1), ct := Pv (i + 1), bk := D.nx } σ2 H2) (hd : ∀ σ H, Pv n σ H → D.nx σ H) :
    ∃ W : Nat → Nat → St → Hp → Prop, (∃ m, W 0 m σ H) ∧ ∀ i m σ H, W i m σ H →
      ((Itr lo n).stop i H ∧ D.nx σ H) ∨ ((Itr lo n).go i H ∧ ∃ N : St → Hp → Prop, (∀ σ' H', N σ' H' → ∃ m', m' < m ∧ W (i + 1) m' σ' H') ∧ ∀ x H', (Itr lo n).yld i H x H' → g x σ H' fun σ2 H2 => tb { D with nx := N, ct := N, bk := D.nx } σ2 H2) := by
  refine ⟨fun i m σ H => m = n - i ∧ i ≤ n ∧ Pv i σ H, ⟨n, by simp, Nat.zero_le _, h0⟩, ?_⟩
  rintro i m σ H ⟨rfl, hi, p⟩
  by_cases hlt : i < n
  · refine .inr ⟨hlt, Pv (i + 1), fun σ' H' p' => ⟨n - (i + 1), by omega, rfl, hlt, p'⟩, fun x H' y => ?_⟩
    obtain ⟨e, y⟩ := y
    subst e y
    exact hs i σ _ hlt p
  · have e : i = n := by omega
    subst e
    exact .inl ⟨Nat.le_refl _, hd σ H p⟩
end L2

namespace L2
open PySem PySem.Spec PyProof.Rows

abbrev R2 := V → V → Hp → VK → Prop
/-- a two-place operation on values: f is binaryOp op, inplaceOp op or compareOp op -/
def OpR (X : Cx) (f : Value → Value → Sem Value) (r : R2) : Prop :=
  ∀ (pins : List (Addr × Obj)) (s : Shared) (σ : St) (H : Hp) (x y : V) (v u : Value) (Q : VK), Inv X pins σ H s → RelV x v → RelV y u → r x y H Q →
    wpAny (model X.prog X.w) X.A (f v u) (EP X pins σ Q) X.xe s
/-- a call of a value that is known (a builtin, a type) with values -/
def CallR (X : Cx) (f : Value) (r : List V → Hp → VK → Prop) : Prop :=
  ∀ (pins : List (Addr × Obj)) (s : Shared) (σ : St) (H : Hp) (xs : List V) (us : List Value) (Q : VK), Inv X pins σ H s → Vals xs us → r xs H Q →
    wpAny (model X.prog X.w) X.A (call f us) (EP X pins σ Q) X.xe s
def tOp (r : R2) (ta tb : TE) : TE := fun σ H Q => ta σ H fun x H1 => tb σ H1 fun y H2 => r x y H2 Q
/-- ints in, under C, and a value out -/
def rI (C : Int → Int → Prop) (g : Int → Int → V) : R2 := fun x y H Q => ∃ i j, x = .int i ∧ y = .int j ∧ C i j ∧ Q (g i j) H
def rI0 (g : Int → Int → V) : R2 := fun x y H Q => ∃ i j, x = .int i ∧ y = .int j ∧ Q (g i j) H
section
variable {X : Cx} {a b c : Expr} {ta tb tc : TE} {pos : Pos}

theorem binT (ha : PE X a ta) (hb : PE X b tb) {pins : List (Addr × Obj)} {s : Shared} {σ : St} {H : Hp} {R : V → V → Hp → Prop} (I : Inv X pins σ H s)
    (h : ta σ H fun x H1 => tb σ H1 fun y H2 => R x y H2) {Q : Value → Shared → Prop} {f : Value → Value → Sem Value}
    (hf : ∀ v u s2 x y H2, Inv X pins σ H2 s2 → RelV x v → RelV y u → R x y H2 → wpAny (model X.prog X.w) X.A (f v u) Q X.xe s2) :
    wpAny (model X.prog X.w) X.A (eval a X.env) (fun v s₁ => wpAny (model X.prog X.w) X.A (eval b X.env) (fun u s₂ => wpAny (model X.prog X.w) X.A (f v u) Q X.xe s₂) X.xe s₁) X.xe s := by
  refine thn (ha pins s σ H _ I h) fun v s1 ⟨x, H1, I1, r1, q1⟩ => ?_
  refine thn (hb pins s1 σ H1 _ I1 q1) fun u s2 ⟨y, H2, I2, r2, q2⟩ => ?_
  exact hf v u s2 x y H2 I2 r1 r2 q2

theorem pe_op {op : Operator} {r : R2} (ho : OpR X (binaryOp op) r) (ha : PE X a ta) (hb : PE X b tb) : PE X (.BinOp a op b pos) (tOp r ta tb) := by
  intro pins s σ H Q I h
  exact wpAny_BinOp (binT ha hb I h fun v u s2 x y H2 I2 rx ry q => ho pins s2 σ H2 x y v u Q I2 rx ry q)
/-! ### ints -/
theorem opI {f : Value → Value → Sem Value} {C : Int → Int → Prop} {g : Int → Int → Int}
    (rule : ∀ (i j : Int) (t u : Tok) (s : Shared) (Q : Value → Shared → Prop) (E : Value → Shared → Prop), C i j → Q (.int (g i j) s.toks) { s with toks := s.toks + 1 } → wpAny (model X.prog X.w) X.A (f (.int i t) (.int j u)) Q E s) :
    OpR X f (rI C fun i j => .int (g i j)) := by
  intro pins s σ H x y v u Q I rx ry h
  obtain ⟨i, j, rfl, rfl, hc, q⟩ := h
  obtain ⟨t, rfl⟩ := rx
  obtain ⟨t', rfl⟩ := ry
  exact rule i j t t' s _ _ hc ⟨.int (g i j), H, I.tok _, ⟨_, rfl⟩, q⟩
theorem opI0 {f : Value → Value → Sem Value} {g : Int → Int → Int}
    (rule : ∀ (i j : Int) (t u : Tok) (s : Shared) (Q : Value → Shared → Prop) (E : Value → Shared → Prop), Q (.int (g i j) s.toks) { s with toks := s.toks + 1 } → wpAny (model X.prog X.w) X.A (f (.int i t) (.int j u)) Q E s) :
    OpR X f (rI0 fun i j => .int (g i j)) := by
  intro pins s σ H x y v u Q I rx ry h
  obtain ⟨i, j, rfl, rfl, q⟩ := h
  obtain ⟨t, rfl⟩ := rx
  obtain ⟨t', rfl⟩ := ry
  exact rule i j t t' s _ _ ⟨.int (g i j), H, I.tok _, ⟨_, rfl⟩, q⟩
theorem opB0 {f : Value → Value → Sem Value} {g : Int → Int → Bool}
    (rule : ∀ (i j : Int) (t u : Tok) (s : Shared) (Q : Value → Shared → Prop) (E : Value → Shared → Prop), Q (.bool (g i j)) s → wpAny (model X.prog X.w) X.A (f (.int i t) (.int j u)) Q E s) :
    OpR X f (rI0 fun i j => .bl (g i j)) := by
  intro pins s σ H x y v u Q I rx ry h
  obtain ⟨i, j, rfl, rfl, q⟩ := h
  obtain ⟨t, rfl⟩ := rx
  obtain ⟨t', rfl⟩ := ry
  exact rule i j t t' s _ _ ⟨.bl (g i j), H, I, rfl, q⟩

def CMul (i j : Int) : Prop := (-(2 ^ 64) < i ∧ i < 2 ^ 64) ∨ (-(2 ^ 64) < j ∧ j < 2 ^ 64)
theorem CMul.ok {i j : Int} (h : CMul i j) : IntMulOk i j := by
  rcases h with ⟨h1, h2⟩ | ⟨h1, h2⟩
  · exact .of_left (intBits_le_64 h1 h2)
  · exact .of_right (intBits_le_64 h1 h2)
theorem op_add : OpR X (binaryOp .Add) (rI0 fun i j => .int (i + j)) := opI0 fun _ _ _ _ _ _ _ q => add_int q
theorem op_sub : OpR X (binaryOp .Sub) (rI0 fun i j => .int (i - j)) := opI0 fun _ _ _ _ _ _ _ q => sub_int q
theorem op_mul : OpR X (binaryOp .Mult) (rI CMul fun i j => .int (i * j)) := opI fun _ _ _ _ _ _ _ hc q => mul_int q hc.ok
/-- % by a positive divisor of any size -/
theorem op_mod : OpR X (binaryOp .Mod) (rI (fun _ j => 0 < j) fun i j => .int (i % j)) := opI fun i j _ _ _ _ _ hc q => by
  have h1 : (0 : Int) < j := hc
  exact mod_int' (by omega) (by rw [Int.fmod_eq_emod_of_nonneg i (by omega)]; exact q)
/-! ### bools among ints: n += (a < b) -/
end

/-! ### comparisons -/
/-- the scalars that == tells apart as data does -/
def scal : V → V → Bool
  | .non, .non => true | .non, .int _ => true | .int _, .non => true | .non, .bl _ => true | .bl _, .non => true | .non, .str _ => true | .str _, .non => true
  | .int _, .int _ => true | .bl _, .bl _ => true | .str _, .str _ => true | .byt _, .byt _ => true
  | .int _, .str _ => true | .str _, .int _ => true | .bl _, .str _ => true | .str _, .bl _ => true
  | _, _ => false
def rEq : R2 := fun x y H Q => scal x y = true ∧ Q (.bl (decide (x = y))) H
def rNe : R2 := fun x y H Q => scal x y = true ∧ Q (.bl (!decide (x = y))) H

theorem dec_int {i j : Int} : decide (V.int i = V.int j) = (i == j) := by
  rw [Bool.eq_iff_iff]
  simp
theorem dec_bl {i j : Bool} : decide (V.bl i = V.bl j) = (i == j) := by
  rw [Bool.eq_iff_iff]
  simp
theorem dec_str {i j : Str} : decide (V.str i = V.str j) = (i == j) := by
  rw [Bool.eq_iff_iff]
  simp
theorem dec_byt {i j : Array UInt8} : decide (V.byt i = V.byt j) = (i.toList == j.toList) := by
  rw [Bool.eq_iff_iff]
  cases i
  cases j
  simp

section
variable {X : Cx} {a b c : Expr} {ta tb tc : TE} {pos : Pos}
theorem fin_bl {pins : List (Addr × Obj)} {σ : St} {H : Hp} {s : Shared} {Q : VK} {k k' : Bool} (I : Inv X pins σ H s) (q : Q (.bl k) H) (e : k = k') : EP X pins σ Q (.bool k') s := by
  subst e
  exact ⟨.bl k, H, I, rfl, q⟩
theorem op_eq : OpR X (compareOp .Eq) rEq := by
  intro pins s σ H x y v u Q I rx ry h
  obtain ⟨hs, q⟩ := h
  cases x with
  | non =>
    cases rx
    cases y with
    | non => cases ry; exact PySem.EqNone.eq_none_none (fin_bl I q (by simp))
    | bl j => cases ry; exact PySem.EqNone.eq_none_bool (fin_bl I q (by simp))
    | int j => obtain ⟨t', rfl⟩ := ry; exact PySem.EqNone.eq_none_int (fin_bl I q (by simp))
    | str j => obtain ⟨t', rfl⟩ := ry; exact PySem.EqNone.eq_none_str (fin_bl I q (by simp))
    | _ => exact absurd (show false = true from hs) Bool.false_ne_true
  | bl i =>
    cases rx
    cases y with
    | non => cases ry; exact PySem.EqNone.eq_bool_none (fin_bl I q (by simp))
    | bl j => cases ry; exact eq_bool (fin_bl I q dec_bl)
    | str j => obtain ⟨t', rfl⟩ := ry; exact PySem.EqMixed.eq_bool_str (fin_bl I q (by simp))
    | _ => exact absurd (show false = true from hs) Bool.false_ne_true
  | int i =>
    obtain ⟨t, rfl⟩ := rx
    cases y with
    | non => cases ry; exact PySem.EqNone.eq_int_none (fin_bl I q (by simp))
    | int j => obtain ⟨t', rfl⟩ := ry; exact eq_int (fin_bl I q dec_int)
    | str j => obtain ⟨t', rfl⟩ := ry; exact PySem.EqMixed.eq_int_str (fin_bl I q (by simp))
    | _ => exact absurd (show false = true from hs) Bool.false_ne_true
  | str i =>
    obtain ⟨t, rfl⟩ := rx
    cases y with
    | non => cases ry; exact PySem.EqNone.eq_str_none (fin_bl I q (by simp))
    | bl j => cases ry; exact PySem.EqMixed.eq_str_bool (fin_bl I q (by simp))
    | int j => obtain ⟨t', rfl⟩ := ry; exact PySem.EqMixed.eq_str_int (fin_bl I q (by simp))
    | str j => obtain ⟨t', rfl⟩ := ry; exact eq_str (fin_bl I q dec_str)
    | _ => exact absurd (show false = true from hs) Bool.false_ne_true
  | byt i =>
    obtain ⟨t, rfl⟩ := rx
    cases y with
    | byt j => obtain ⟨t', rfl⟩ := ry; exact PySem.W.eq_bytes (fin_bl I q dec_byt)
    | _ => exact absurd (show false = true from hs) Bool.false_ne_true
  | _ => cases y <;> exact absurd (show false = true from hs) Bool.false_ne_true
theorem op_ne : OpR X (compareOp .NotEq) rNe := by
  intro pins s σ H x y v u Q I rx ry h
  obtain ⟨hs, q⟩ := h
  cases x with
  | non =>
    cases rx
    cases y with
    | non => cases ry; exact PySem.EqNone.ne_none_none (fin_bl I q (by simp))
    | bl j => cases ry; exact PySem.EqNone.ne_none_bool (fin_bl I q (by simp))
    | int j => obtain ⟨t', rfl⟩ := ry; exact PySem.EqNone.ne_none_int (fin_bl I q (by simp))
    | str j => obtain ⟨t', rfl⟩ := ry; exact PySem.EqNone.ne_none_str (fin_bl I q (by simp))
    | _ => exact absurd (show false = true from hs) Bool.false_ne_true
  | bl i =>
    cases rx
    cases y with
    | non => cases ry; exact PySem.EqNone.ne_bool_none (fin_bl I q (by simp))
    | bl j => cases ry; exact ne_bool (fin_bl I q (congrArg not dec_bl))
    | str j => obtain ⟨t', rfl⟩ := ry; exact PySem.EqMixed.ne_bool_str (fin_bl I q (by simp))
    | _ => exact absurd (show false = true from hs) Bool.false_ne_true
  | int i =>
    obtain ⟨t, rfl⟩ := rx
    cases y with
    | non => cases ry; exact PySem.EqNone.ne_int_none (fin_bl I q (by simp))
    | int j => obtain ⟨t', rfl⟩ := ry; exact ne_int (fin_bl I q (congrArg not dec_int))
    | str j => obtain ⟨t', rfl⟩ := ry; exact PySem.EqMixed.ne_int_str (fin_bl I q (by simp))
    | _ => exact absurd (show false = true from hs) Bool.false_ne_true
  | str i =>
    obtain ⟨t, rfl⟩ := rx
    cases y with
    | non => cases ry; exact PySem.EqNone.ne_str_none (fin_bl I q (by simp))
    | bl j => cases ry; exact PySem.EqMixed.ne_str_bool (fin_bl I q (by simp))
    | int j => obtain ⟨t', rfl⟩ := ry; exact PySem.EqMixed.ne_str_int (fin_bl I q (by simp))
    | str j => obtain ⟨t', rfl⟩ := ry; exact ne_str (fin_bl I q (congrArg not dec_str))
    | _ => exact absurd (show false = true from hs) Bool.false_ne_true
  | byt i =>
    obtain ⟨t, rfl⟩ := rx
    cases y with
    | byt j => obtain ⟨t', rfl⟩ := ry; exact PySem.W.ne_bytes (fin_bl I q (congrArg not dec_byt))
    | _ => exact absurd (show false = true from hs) Bool.false_ne_true
  | _ => cases y <;> exact absurd (show false = true from hs) Bool.false_ne_true

theorem op_lt : OpR X (compareOp .Lt) (rI0 fun i j => .bl (decide (i < j))) := opB0 fun _ _ _ _ _ _ _ q => lt_int q
theorem op_le : OpR X (compareOp .LtE) (rI0 fun i j => .bl (decide (i ≤ j))) := opB0 fun _ _ _ _ _ _ _ q => le_int q
theorem op_gt : OpR X (compareOp .Gt) (rI0 fun i j => .bl (decide (j < i))) := opB0 fun _ _ _ _ _ _ _ q => gt_int q
theorem op_ge : OpR X (compareOp .GtE) (rI0 fun i j => .bl (decide (j ≤ i))) := opB0 fun _ _ _ _ _ _ _ q => ge_int q
/-- the one string within the other -/
theorem op_in_str : OpR X (compareOp .In) (fun x y H Q => ∃ i j, x = .str i ∧ y = .str j ∧ Q (.bl (!(Builtin.Str.occurrences j i 0 j.length 1).isEmpty)) H) := by
  intro pins s σ H x y v u Q I rx ry h
  obtain ⟨i, j, rfl, rfl, q⟩ := h
  obtain ⟨t, rfl⟩ := rx
  obtain ⟨t', rfl⟩ := ry
  exact in_str (fin_bl I q rfl)

/-- two rules for one operation: by cases -/
theorem OpR.or {f : Value → Value → Sem Value} {r r' : R2} (h : OpR X f r) (h' : OpR X f r') : OpR X f (fun x y H Q => r x y H Q ∨ r' x y H Q) := by
  intro pins s σ H x y v u Q I rx ry q
  rcases q with q | q
  · exact h pins s σ H x y v u Q I rx ry q
  · exact h' pins s σ H x y v u Q I rx ry q

theorem nomark (b : Expr) {op : CmpOp} (h : op ≠ .In := by decide) (h2 : op ≠ .NotIn := by decide) : behindInMarks op b = false := by
  have e1 : (op == CmpOp.In) = false := by cases op <;> first | rfl | exact absurd rfl h
  have e2 : (op == CmpOp.NotIn) = false := by cases op <;> first | rfl | exact absurd rfl h2
  cases b <;> simp [behindInMarks, e1, e2]
/-- a comparison as a value; hm: nomark b, or (for in, not in) by with_unfolding_all rfl -/
theorem pe_cmpR {op : CmpOp} {r : R2} (ho : OpR X (compareOp op) r) (ha : PE X a ta) (hb : PE X b tb) (hm : behindInMarks op b = false) : PE X (.Compare a [op] [b] pos) (tOp r ta tb) := by
  intro pins s σ H Q I h
  exact wpAny_Compare1 (binT ha hb I h fun v u s2 x y H2 I2 rx ry q => ho pins s2 σ H2 x y v u Q I2 rx ry q) hm
/-- a reading of a value as a test -/
def tTest (t : TE) : TT := fun σ H Q => t σ H fun x H' => ∃ k, x = .bl k ∧ Q k H'
theorem pt_cmpR {op : CmpOp} {r : R2} (ho : OpR X (compareOp op) r) (ha : PE X a ta) (hb : PE X b tb) (hm : behindInMarks op b = false) : PT X (.Compare a [op] [b] pos) (tTest (tOp r ta tb)) := by
  intro pins s σ H Q I h
  refine wpAny_isTrue_Compare1 (thn (ha pins s σ H _ I h) fun v s1 ⟨x, H1, I1, r1, q1⟩ => thn (hb pins s1 σ H1 _ I1 q1) fun u s2 ⟨y, H2, I2, r2, q2⟩ =>
    thn (ho pins s2 σ H2 x y v u _ I2 r1 r2 q2) fun c s3 ⟨z, H3, I3, r3, k, e, q3⟩ => ?_) hm
  subst e
  cases r3
  exact wpAny_truthy_bool ⟨H3, I3, q3⟩
/-- a op1 b op2 c -/
def tChain (r r' : R2) (ta tb tc : TE) : TE := fun σ H Q => ta σ H fun x H1 => tb σ H1 fun y H2 => r x y H2 fun z H3 => ∃ k, z = .bl k ∧
  (if k = true then tc σ H3 fun w' H4 => r' y w' H4 Q else Q (.bl false) H3)
theorem pt_chain {op op' : CmpOp} {r r' : R2} (ho : OpR X (compareOp op) r) (ho' : OpR X (compareOp op') r') (ha : PE X a ta) (hb : PE X b tb) (hc : PE X c tc)
    (hm : lastMarks [op, op'] [b, c] = false := by with_unfolding_all rfl) : PT X (.Compare a [op, op'] [b, c] pos) (tTest (tChain r r' ta tb tc)) := by
  intro pins s σ H Q I h
  refine isTrue_chain (thn (ha pins s σ H _ I h) fun v s1 ⟨x, H1, I1, r1, q1⟩ => test_link (thn (hb pins s1 σ H1 _ I1 q1) fun u s2 ⟨y, H2, I2, r2, q2⟩ =>
    thn (ho pins s2 σ H2 x y v u _ I2 r1 r2 q2) fun d s3 ⟨z, H3, I3, r3, k, e, q3⟩ => ?_)) hm
  subst e
  cases r3
  refine wpAny_truthy_bool ?_
  cases k with
  | false =>
    obtain ⟨k', e', q'⟩ := q3
    cases e'
    exact ite_ff ⟨H3, I3, q'⟩
  | true =>
    refine ite_tt (test_last (thn (hc pins s3 σ H3 _ I3 q3) fun w' s4 ⟨z', H4, I4, r4, q4⟩ => thn (ho' pins s4 σ H4 y z' u w' _ I4 r2 r4 q4) fun d' s5 ⟨z2, H5, I5, r5, k2, e2, q5⟩ => ?_))
    subst e2
    cases r5
    exact wpAny_truthy_bool ⟨H5, I5, q5⟩

/-! ### truth -/
theorem line63 : (sizeLine : Nat) < 2 ^ 63 := by rw [sizeLine_eq]; decide
/-! ### strs and bytes -/
theorem op_add_str : OpR X (binaryOp .Add) (fun x y H Q => ∃ i j, x = .str i ∧ y = .str j ∧ i.length + j.length ≤ sizeLine ∧ Q (.str (i ++ j)) H) := by
  intro pins s σ H x y v u Q I rx ry h
  obtain ⟨i, j, rfl, rfl, hz, q⟩ := h
  obtain ⟨t, rfl⟩ := rx
  obtain ⟨t', rfl⟩ := ry
  exact add_str (fun t' tk => ⟨.str (i ++ j), H, I.tok _, ⟨_, rfl⟩, q⟩) hz
/-! ### scalar builtins, by CallR -/
theorem vals1 {x : V} {us : List Value} (r : Vals [x] us) : ∃ u, us = [u] ∧ RelV x u := by
  cases r with
  | cons r1 r2 => cases r2; exact ⟨_, rfl, r1⟩
theorem vals2 {x y : V} {us : List Value} (r : Vals [x, y] us) : ∃ u w', us = [u, w'] ∧ RelV x u ∧ RelV y w' := by
  cases r with
  | cons r1 r2 =>
    cases r2 with
    | cons r3 r4 => cases r4; exact ⟨_, _, rfl, r1, r3⟩
theorem call_str_int : CallR X (.type "str") (fun xs H Q => ∃ i, xs = [.int i] ∧ i.natAbs.log2 < 1920 ∧ Q (.str (toString i)) H) := by
  intro pins s σ H xs us Q I r h
  obtain ⟨i, rfl, hz, q⟩ := h
  obtain ⟨u, rfl, t, rfl⟩ := vals1 r
  exact PySem.P.str_of_int hz ⟨.str _, H, I.tok _, ⟨_, rfl⟩, q⟩
end
end L2

namespace L2
open PySem PySem.Spec PyProof.Rows

/-! ### an instance, its attributes a map -/
structure ObjM (h : Heap) (x dx C : Addr) (mA : Str → Option Value) : Prop where
  obj : h.get? x = some (PySem.W.instObj C dx)
  ns : h.Ns1 dx mA
  ne : dx ≠ x

theorem lookIn_ns {h : Heap} {dx : Addr} {mA : Str → Option Value} (n : h.Ns1 dx mA) : ∃ od, h.get? dx = some od ∧ ∀ name, PySem.W.lookIn name od = some (mA name) := by
  obtain ⟨o, es, ep, ho, hd, hk, _, hm⟩ := n
  refine ⟨o, ho, fun name => ?_⟩
  have e := hm name
  unfold nsFind findBy at e
  rw [← Array.find?_toList] at e
  unfold PySem.W.lookIn
  rw [hd]
  dsimp only
  split
  · rename_i y q
    rw [q] at e
    exact congrArg some e
  · rename_i q
    rw [q] at e
    have a : es.toList.any (·.refKey) = false := by
      rw [List.any_eq_false]
      intro y hy
      obtain ⟨z, t, hkey⟩ := hk y (Array.mem_toList_iff.mp hy)
      simp [DictEntry.refKey, hkey]
    have a' : ¬ es.toList.any (·.refKey) = true := by rw [a]; exact Bool.false_ne_true
    rw [if_neg a']
    exact congrArg some e

theorem ObjM.look {h : Heap} {x dx C : Addr} {mA : Str → Option Value} (I : ObjM h x dx C mA) : ∃ od, PySem.W.InstAt h x (PySem.W.instObj C dx) C (some od) ∧ ∀ name, PySem.W.lookIn name od = some (mA name) :=
  let ⟨od, ho, hl⟩ := lookIn_ns I.ns
  ⟨od, ⟨I.obj, rfl, rfl, ho⟩, hl⟩

section
variable {prog : Program} {w : World} {A : Around} {E : Value → Shared → Prop} {s : Shared} {K : PySem.W.Frag} {x dx C f : Addr} {mA : Str → Option Value} {name : Str} {v : Value}

end

/-! ### the attributes as a list of pairs -/
def putF (f : Str) (v : V) : List (Str × V) → List (Str × V)
  | [] => [(f, v)]
  | (g, x) :: r => if g = f then (g, v) :: r else (g, x) :: putF f v r
section
variable {P : Program} {w : World} {H H' : Hp} {h h' : Heap} {a C dx : Addr} {fs fs' : List (Str × V)}
theorem ins_get (hok : HOk P w H h) (e : H a = some (.ins C dx fs)) : ∃ mA, ObjM h a dx C mA ∧ (∀ f, RelO (fs.lookup f) (mA f)) ∧ PySem.Within mA (fs.map (·.1)) ∧ fs.length ≤ 1000 ∧ H dx = some (.own a) := by
  obtain ⟨d, z, ne, ob, mA, n, r, q⟩ := (show ObjOk P w H h a (.ins C dx fs) from hok a _ e)
  exact ⟨mA, ⟨ob, n, ne⟩, r, q, z, d⟩
end

/-! ### what of the text a class must have -/
structure Cls (K : PySem.W.Frag) (C : Addr) : Prop where
  pg : PySem.W.plainGet K C Str.empty = true
  hd : PySem.W.hasDictIn K C = true
  po : PySem.W.plainOver K C = true
  sa : PySem.W.findIn K (.ref C) "__setattr__" = some (some (.builtin "object.__setattr__"))
theorem Cls.get {K : PySem.W.Frag} {C : Addr} (c : Cls K C) (f : Str) : PySem.W.plainGet K C f = true := c.pg
/-- no class of it has the name -/
def NoAttr (K : PySem.W.Frag) (C : Addr) (f : Str) : Prop := PySem.W.findIn K (.ref C) f = some none
/-- a constant of the class -/
structure Con (K : PySem.W.Frag) (C : Addr) (f : Str) (v : V) (u : Value) : Prop where
  at_ : PySem.W.findIn K (.ref C) f = some (some u)
  rel : RelV v u
  get : PySem.W.specialIn K u "__get__" = some none
  cp : PySem.W.copiedNames.contains f = false
/-- a method: a plain def of the class or of one above it -/
structure Meth (K : PySem.W.Frag) (C : Addr) (m : Str) (f : Addr) : Prop where
  at_ : PySem.W.findIn K (.ref C) m = some (some (.ref f))
  fn : PySem.W.isFn K (.ref f) = true
  kp : PySem.W.keepIn K (.ref f) = true

section
variable {X : Cx} {pins : List (Addr × Obj)} {σ : St} {H : Hp} {s : Shared} {a C dx : Addr} {fs : List (Str × V)} {f : Str} {v : V} {A : Around} {E : Value → Shared → Prop}

/-- a new instance, tracked, without attributes -/
theorem Inv.made (I : Inv X pins σ H s) : Inv X pins σ (upd (upd H s.heap.objs.size (.own (s.heap.objs.size + 1))) (s.heap.objs.size + 1) (.ins C s.heap.objs.size []))
    { s with heap := (s.heap.push PySem.W.emptyDict).push (PySem.W.instObj C s.heap.objs.size) } := by
  have e1 : (s.heap.push PySem.W.emptyDict).get? s.heap.objs.size = some PySem.W.emptyDict := Heap.get?_push_size s.heap rfl
  have e2 : ((s.heap.push PySem.W.emptyDict).push (PySem.W.instObj C s.heap.objs.size)).get? (s.heap.objs.size + 1) = some (PySem.W.instObj C s.heap.objs.size) := by
    have := Heap.get?_push_size (s.heap.push PySem.W.emptyDict) (o := PySem.W.instObj C s.heap.objs.size) rfl
    rwa [Heap.size_push] at this
  have e3 : (s.heap.push PySem.W.emptyDict).Ns s.heap.objs.size (fun _ => none) := ⟨PySem.W.emptyDict, #[], _, e1, rfl, (fun e he => absurd he (by simp)), fun _ => rfl⟩
  have I1 := I.laid (a := s.heap.objs.size) (o := .own (s.heap.objs.size + 1)) (h' := s.heap.push PySem.W.emptyDict) (t' := s.toks) (fun b u q => Heap.get?_push_of_some _ q) (Nat.le_refl _) ⟨_, e1⟩
  refine I1.laid (a := s.heap.objs.size + 1) (o := .ins C s.heap.objs.size []) (t' := s.toks) (fun b u q => Heap.get?_push_of_some _ q) (Nat.le_of_eq (Heap.size_push _ _)) ?_
  have ne : s.heap.objs.size ≠ s.heap.objs.size + 1 := Nat.ne_of_lt (Nat.lt_succ_self _)
  refine ⟨by rw [upd_ne ne, upd_same], Nat.zero_le _, ne, e2, fun _ => none, (Heap.Ns1.of_empty e3).at fun o q => Heap.get?_push_of_some _ q, fun _ => True.intro, fun y hy => absurd rfl hy⟩

end

/-! ### readings and rules -/
section
variable {X : Cx} {o e value : Expr} {f : Str} {pos pos' tpos : Pos} {ta tv : TE}
end

/-! ### isinstance -/
section
variable {X : Cx} {pins : List (Addr × Obj)} {σ : St} {H : Hp} {s : Shared} {A : Around} {E : Value → Shared → Prop} {Q : Value → Shared → Prop} {c : Value} {b : Bool}
/-- the type of a value, as the fragment's deciders take it; for an instance its class -/
inductive TyOf (K : PySem.W.Frag) (H : Hp) : V → Value → Prop where
  | non : TyOf K H .non (.type "NoneType")
  | bl (x : Bool) : TyOf K H (.bl x) (.type "bool")
  | int (i : Int) : TyOf K H (.int i) (.type "int")
  | str (x : Str) : TyOf K H (.str x) (.type "str")
  | flt (x : UInt64) : TyOf K H (.flt x) (.type "float")
  | lst {a : Addr} {xs : List V} (e : H a = some (.lst xs)) : TyOf K H (.ref a) (.type "list")
  | frz {a : Addr} {o : Obj} {xs : List V} (e : H a = some (.frz o (.lst xs))) : TyOf K H (.ref a) (.type "list")
  | tup {a : Addr} {xs : List V} (e : H a = some (.tup xs)) : TyOf K H (.ref a) (.type "tuple")
  | dK {a : Addr} {kvs : List (Key × V)} (e : H a = some (.dK kvs)) : TyOf K H (.ref a) (.type "dict")
  | dT {a : Addr} {kvs : List (List Key × V)} (e : H a = some (.dT kvs)) : TyOf K H (.ref a) (.type "dict")
  | ins {a C dx : Addr} {fs : List (Str × V)} (e : H a = some (.ins C dx fs)) (cl : Cls K C) (ha : PySem.W.findIn K (.ref C) "__class__" = some (some (.builtin "object.__class__")))
      (hn : PySem.W.specialIn K (.builtin "object.__class__") "__get__" = some (some (.builtin "getset_descriptor.__get__"))) (htk : PySem.W.takesIn K (.builtin "object.__class__") = some true)
      (hm : PySem.W.mroIn K C (.type "object") = some true) : TyOf K H (.ref a) (.ref C)
/-- isinstance(x, c) for one class c, a built-in or an own one: kitOne's answer -/
theorem isinst_ok {x : V} {u t : Value} (I : Inv X pins σ H s) (rx : RelV x u) (ty : TyOf X.K H x t) (e : PySem.W.kitOne X.K t c = some b) (h : ∀ tk, Q (.bool b) { s with toks := tk }) :
    wpAny (model X.prog X.w) A (call (.builtin "isinstance") [u, c]) Q E s := by
  cases ty with
  | non => cases (show u = Value.none from rx); exact PySem.W.kia_one PySem.W.kitx_none I.kIn True.intro e (fun z => nomatch z) h
  | bl y => cases (show u = Value.bool y from rx); exact PySem.W.kia_one PySem.W.kitx_bool I.kIn True.intro e (fun z => nomatch z) h
  | int i => obtain ⟨t, q⟩ := (show ∃ t, u = Value.int i t from rx); cases q; exact PySem.W.kia_one PySem.W.kitx_int I.kIn True.intro e (fun z => nomatch z) h
  | str y => obtain ⟨t, q⟩ := (show ∃ t, u = Value.str y t from rx); cases q; exact PySem.W.kia_one PySem.W.kitx_str I.kIn True.intro e (fun z => nomatch z) h
  | flt y => obtain ⟨t, q⟩ := (show ∃ t, u = Value.float y t from rx); cases q; exact PySem.W.kia_one PySem.W.kitx_float I.kIn True.intro e (fun z => nomatch z) h
  | @lst a xs ea =>
    cases (show u = Value.ref a from rx)
    obtain ⟨_, _, n, _, h1⟩ := (show ObjOk X.prog X.w H s.heap a (.lst xs) from I.hok a _ ea)
    exact PySem.W.kia_one PySem.W.kitx_list I.kIn ⟨_, h1, rfl⟩ e (fun z => nomatch z) h
  | @frz a ob xs ea =>
    cases (show u = Value.ref a from rx)
    obtain ⟨_, _, _, n, _, h1⟩ := (show ObjOk X.prog X.w H s.heap a (.frz ob (.lst xs)) from I.hok a _ ea)
    exact PySem.W.kia_one PySem.W.kitx_list I.kIn ⟨_, h1, rfl⟩ e (fun z => nomatch z) h
  | @tup a xs ea =>
    cases (show u = Value.ref a from rx)
    obtain ⟨_, _, _, p⟩ := (show ObjOk X.prog X.w H s.heap a (.tup xs) from I.hok a _ ea)
    obtain ⟨o, h1, h2, _⟩ := p
    exact PySem.W.kia_one PySem.W.kitx_tuple I.kIn ⟨o, h1, h2⟩ e (fun z => nomatch z) h
  | @dK a kvs ea =>
    cases (show u = Value.ref a from rx)
    obtain ⟨_, _, vs, _, p⟩ := (show ObjOk X.prog X.w H s.heap a (.dK kvs) from I.hok a _ ea)
    obtain ⟨o, es, ep, h1, h2, _⟩ := p
    exact PySem.W.kia_one PySem.W.kitx_dict I.kIn ⟨o, h1, h2.1⟩ e (fun z => nomatch z) h
  | @dT a kvs ea =>
    cases (show u = Value.ref a from rx)
    obtain ⟨_, _, xs, _, o, es, ep, h1, h2, _⟩ := (show ObjOk X.prog X.w H s.heap a (.dT kvs) from I.hok a _ ea)
    exact PySem.W.kia_one PySem.W.kitx_dict I.kIn ⟨o, h1, h2.1⟩ e (fun z => nomatch z) h
  | @ins a C dx fs ea cl ha hn htk hm =>
    cases (show u = Value.ref a from rx)
    obtain ⟨mA, O, _⟩ := ins_get I.hok ea
    obtain ⟨od, J, _⟩ := O.look
    exact PySem.W.kia_one (PySem.W.kitx_own (cl.get _) cl.hd ha hn htk hm) I.kIn J e (fun z => nomatch z) h
end
end L2

namespace L2
open PySem PySem.Spec PyProof.Rows

/-! ### room -/
structure Room (k : Nat) (A : Around) : Prop where
  hd : A.handled = none
  dp : A.depth + 3 * k + 5 < recursionLimit
  un : A.units + 16 * k + 200 < cLine
theorem Room.mono {j k : Nat} {A : Around} (r : Room k A) (h : j ≤ k) : Room j A := ⟨r.hd, by have := r.dp; omega, by have := r.un; omega⟩
theorem Room.deeper {k : Nat} {A : Around} (r : Room (k + 1) A) (env : Env) : Room k (A.deeper env) :=
  ⟨r.hd, by have := r.dp; show A.depth + 1 + 3 * k + 5 < _; omega, by have := r.un; show A.units + 3 + 16 * k + 200 < _; omega⟩
theorem Room.in1 {k : Nat} {A : Around} (r : Room (k + 1) A) : Room k A.in1 :=
  ⟨r.hd, by have := r.dp; show A.depth + 3 * k + 5 < _; omega, by have := r.un; show A.units + 1 + 16 * k + 200 < _; omega⟩
theorem Room.depth {k : Nat} {A : Around} (r : Room k A) : A.depth < recursionLimit := by have := r.dp; omega
theorem Room.units {k : Nat} {A : Around} (r : Room k A) : A.units + 64 < cLine := by have := r.un; omega
/-! ### argument lists and displays -/
def tNil : TA := fun _ H Q => Q [] H
def tCons (ta : TE) (tr : TA) : TA := fun σ H Q => ta σ H fun x H1 => tr σ H1 fun xs H2 => Q (x :: xs) H2
section
variable {X : Cx} {e : Expr} {es : List Expr} {te : TE} {t : TA} {pos : Pos}
theorem pa_nil : PA X [] tNil := fun _ _ _ _ H Q I h => Calls.spliced_nil ⟨[], H, I, .nil, h⟩
theorem pa_cons (ha : PE X e te) (hr : PA X es t) (hs : starEach (e :: es) X.env = (false, eval e X.env) :: starEach es X.env := by rfl) : PA X (e :: es) (tCons te t) := by
  intro pos pins s σ H Q I h
  rw [hs]
  show wpAny _ _ (spliced ((false, eval e X.env) :: backTo pos (starEach es X.env))) _ _ s
  refine Calls.spliced_cons (thn (ha pins s σ H _ I h) fun u s1 ⟨x, H1, I1, r1, q1⟩ => ?_)
  exact thn (hr pos pins s1 σ H1 _ I1 q1) fun us s2 ⟨xs, H2, I2, r2, q2⟩ => ⟨x :: xs, H2, I2, .cons r1 r2, q2⟩

/-- a tuple, a list of written items -/
def tTup (t : TA) : TE := fun σ H Q => t σ H fun xs H1 => xs.length ≤ sizeLine ∧ ∀ p, H1 p = none → Q (.ref p) (upd H1 p (.tup xs))
def tLst (t : TA) : TE := fun σ H Q => t σ H fun xs H1 => xs.length ≤ sizeLine ∧ ∀ p, H1 p = none → Q (.ref p) (upd H1 p (.lst xs))
theorem pe_tup {x1} (h : PA X es t) : PE X (.Tuple es x1 pos) (tTup t) := by
  intro pins s σ H Q I hq
  refine wpAny_Tuple_spliced (thn (h pos pins s σ H _ I hq) fun us s1 ⟨xs, H1, I1, r, z, q⟩ => ⟨by rw [← r.length]; exact z, ?_⟩)
  have hf : H1 s1.heap.objs.size = none := I1.hok.fresh (Nat.le_refl _)
  refine ⟨.ref s1.heap.objs.size, upd H1 s1.heap.objs.size (.tup xs), I1.laid (t' := s1.toks) (fun b u e => Heap.get?_push_of_some _ e) (Nat.le_refl _) ?_, rfl, q _ hf⟩
  exact ⟨z, us, r, ⟨_, Heap.get?_push_size _ rfl, rfl, _, rfl⟩⟩
theorem pe_lst (h : PA X es t) : PE X (.List es pos) (tLst t) := by
  intro pins s σ H Q I hq
  refine wpAny_List_spliced (thn (h pos pins s σ H _ I hq) fun us s1 ⟨xs, H1, I1, r, z, q⟩ => ⟨by rw [← r.length]; exact z, ?_⟩)
  have hf : H1 s1.heap.objs.size = none := I1.hok.fresh (Nat.le_refl _)
  refine ⟨.ref s1.heap.objs.size, upd H1 s1.heap.objs.size (.lst xs), I1.laid (t' := s1.toks) (fun b u e => Heap.get?_push_of_some _ e) (Nat.le_refl _) ?_, rfl, q _ hf⟩
  exact ⟨z, us, 0, r, Heap.get?_push_size _ rfl⟩
end

/-! ### what a def promises -/
/-- a def's promise: the bound arguments in the parameters' order, the heap, the wanted end, the wanted exception -/
abbrev Sp := List V → Hp → VK → XK → Prop
/-- how an exception lies behind a call (file 08 gives it): the callers' frames, abstract heap and state ahead of the call, the wish, the exception, the state -/
abbrev CXT := List Env → Hp → Shared → XK → Value → Shared → Prop

/-- the state at a call -/
structure Env0 (P : Program) (w : World) (K : PySem.W.Frag) (mg : Str → Option Value) (base : Heap) (A : Around) (outer : List Env) (s : Shared) (H : Hp) : Prop where
  frames : A.frames = some outer
  mod : Mod K mg base
  bs : ∀ b o, base.get? b = some o → s.heap.get? b = some o ∧ H b = none
  bsz : base.objs.size ≤ s.heap.objs.size
  funs : s.heap.FunFrames base outer
  frf : ∀ b ∈ frs outer, H b = none
  hok : HOk P w H s.heap
  bare : AllBare s.gens
/-- a call's end -/
def CE (outer : List Env) (P : Program) (w : World) (H : Hp) (s : Shared) (Q : VK) (u : Value) (s' : Shared) : Prop :=
  ∃ v H', s'.os = s.os ∧ AllBare s'.gens ∧ Un (frs outer) [] H H' s.heap s'.heap ∧ HOk P w H' s'.heap ∧ RelV v u ∧ Q v H'
def CR (CX : CXT) (outer : List Env) (P : Program) (w : World) (H : Hp) (s : Shared) (Q : VK) (E : XK) (r : Result) (s' : Shared) : Prop :=
  match r with
  | .ok (.ret u) => CE outer P w H s Q u s'
  | .ok _ => False
  | .error e => CX outer H s E e s'
structure FnOk (P : Program) (w : World) (K : PySem.W.Frag) (mg : Str → Option Value) (base : Heap) (CX : CXT) (k : Nat) (f : Addr) (fd : FuncData) (ps : List Str) (sp : Sp) : Prop where
  len : ∀ vs H Q E, sp vs H Q E → vs.length = ps.length
  run : ∀ (A : Around) (outer : List Env) (s : Shared) (H : Hp) (args : Args) (us : List Value) (vs : List V) (Q : VK) (E : XK), Room k A → Env0 P w K mg base A outer s H → BindsTo s fd args (ps.zip us) → Vals vs us → sp vs H Q E →
    codeAny (model P w) A (.call (.ref f) args) (CR CX outer P w H s Q E) s
theorem FnOk.mono {P : Program} {w : World} {K : PySem.W.Frag} {mg : Str → Option Value} {base : Heap} {CX : CXT} {j k : Nat} {f : Addr} {fd : FuncData} {ps : List Str} {sp : Sp} (F : FnOk P w K mg base CX j f fd ps sp) (h : j ≤ k) :
    FnOk P w K mg base CX k f fd ps sp := ⟨F.len, fun A outer s H args us vs Q E hr => F.run A outer s H args us vs Q E (hr.mono h)⟩
/-- a weaker promise -/
theorem FnOk.imp {P : Program} {w : World} {K : PySem.W.Frag} {mg : Str → Option Value} {base : Heap} {CX : CXT} {k : Nat} {f : Addr} {fd : FuncData} {ps : List Str} {sp sp' : Sp} (F : FnOk P w K mg base CX k f fd ps sp)
    (h : ∀ vs H Q E, sp' vs H Q E → sp vs H Q E) : FnOk P w K mg base CX k f fd ps sp' :=
  ⟨fun vs H Q E q => F.len vs H Q E (h _ _ _ _ q), fun A outer s H args us vs Q E hr he hb hv hs => F.run A outer s H args us vs Q E hr he hb hv (h _ _ _ _ hs)⟩

theorem Env0.in1 {P : Program} {w : World} {K : PySem.W.Frag} {mg : Str → Option Value} {base : Heap} {A : Around} {outer : List Env} {s : Shared} {H : Hp} (e : Env0 P w K mg base A outer s H) :
    Env0 P w K mg base A.in1 outer s H := ⟨e.frames, e.mod, e.bs, e.bsz, e.funs, e.frf, e.hok, e.bare⟩

section
variable {X : Cx} {pins : List (Addr × Obj)} {σ : St} {H : Hp} {s s' : Shared}
/-- from a body: what a callee wants -/
theorem Inv.env0 (I : Inv X pins σ H s) : Env0 X.prog X.w X.K X.mg X.base X.A X.stack s H :=
  ⟨I.ok.frames, I.ok.mod, I.bs, Nat.le_trans I.ok.bsz I.sz, I.stack, I.stkFree, I.hok, I.bare⟩
/-- behind a call -/
theorem Inv.after {Q : VK} {u : Value} (I : Inv X pins σ H s) (h : CE X.stack X.prog X.w H s Q u s') : EP X pins σ Q u s' := by
  obtain ⟨v, H', os, bare, un, hok, r, q⟩ := h
  obtain ⟨hh, g, d, t, os'⟩ := s'
  obtain rfl : os' = s.os := os
  exact ⟨v, H', I.call (h' := hh) (g' := g) (d' := d) (t' := t) (ch := []) un hok bare (fun b z => absurd z (by simp)), r, q⟩
end

/-! ### calls -/
/-- f(..): the written arguments, then the defaults dvs; E: what is wanted of an exception -/
def tCall (sp : Sp) (dvs : List V) (E : XK) (t : TA) : TE := fun σ H Q => t σ H fun vs H1 => sp (vs ++ dvs) H1 Q E
/-- how the parameters are bound: us the positional arguments, kw the keywords' values by name, ds the defaults that fill up -/
def Binds (K : PySem.W.Frag) (fd : FuncData) (ps : List Str) (ds : List Value) : Prop :=
  ∀ (s : Shared) (us : List Value), K.In s.heap → (us ++ ds).length = ps.length → BindsTo s fd ⟨us, []⟩ (ps.zip (us ++ ds))
/-- every parameter is given -/
theorem Binds.all {K : PySem.W.Frag} {fd : FuncData} {ps : List Str} (h : ∀ us : List Value, us.length = ps.length → bindArgs fd ⟨us, []⟩ = pure (ps.zip us)) : Binds K fd ps [] := fun s us _ hl => by
  rw [List.append_nil] at hl ⊢
  exact .of_eq (h us hl)

/-- an exception of a callee reaches what this body wants of exceptions -/
def Passes (CX : CXT) (X : Cx) (E : XK) : Prop := ∀ (pins : List (Addr × Obj)) (σ : St) (H : Hp) (s : Shared) (e : Value) (s' : Shared), Inv X pins σ H s → CX X.stack H s E e s' → X.xe e s'

section
variable {X : Cx} {CX : CXT} {k : Nat} {f C : Addr} {fd : FuncData} {ps : List Str} {sp : Sp} {dvs : List V} {ds : List Value} {E : XK} {x m : Str} {p pos apos : Pos} {e o : Expr} {es : List Expr} {ta : TE} {t : TA}

/-- the callee runs -/
theorem run_fn {pins : List (Addr × Obj)} {σ : St} {H : Hp} {s : Shared} {Q : VK} {us : List Value} {vs : List V} (F : FnOk X.prog X.w X.K X.mg X.base CX k f fd ps sp) (hr : Room k X.A) (hb : Binds X.K fd ps ds) (hd : Vals dvs ds) (hx : Passes CX X E)
    (I : Inv X pins σ H s) (r : Vals vs us) (h : sp (vs ++ dvs) H Q E) : wpAny (model X.prog X.w) X.A (call (.ref f) us) (EP X pins σ Q) X.xe s := by
  have r2 : Vals (vs ++ dvs) (us ++ ds) := r.append hd
  have hl : (us ++ ds).length = ps.length := by rw [← r2.length]; exact F.len _ _ _ _ h
  refine wpAny_call (codeAny_mono (F.run X.A X.stack s H ⟨us, []⟩ (us ++ ds) (vs ++ dvs) Q E hr I.env0 (hb s us I.kIn hl) r2 h) fun r s' hq => ?_)
  cases r with
  | error e => exact hx pins σ H s e s' I hq
  | ok fl =>
    cases fl with
    | ret u => exact I.after hq
    | next => exact False.elim hq
    | brk => exact False.elim hq
    | cont => exact False.elim hq

theorem pe_call (F : FnOk X.prog X.w X.K X.mg X.base CX k f fd ps sp) (hr : Room k X.A) (hg : Gl X x) (hm : X.mg x = some (.ref f)) (hk : PySem.W.keepIn X.K (.ref f) = true) (hb : Binds X.K fd ps ds) (hd : Vals dvs ds) (hx : Passes CX X E)
    (ha : PA X (e :: es) t) (hdb : (x == ("__debug__" : Str)) = false := by decide) (he : starEach (e :: es) X.env = (false, eval e X.env) :: starEach es X.env := by rfl) (hpl : (backTo pos (starEach es X.env)).any (·.1) = false := by rfl) :
    PE X (.Call (.Name x p) (e :: es) [] pos) (tCall sp dvs E t) := by
  intro pins s σ H Q I h
  refine wpAny_Call_Name_kw (ld_glob I hg hm ?_ hdb)
  refine PySem.W.callWith_K (h₀ := X.base) I.ok.mod.kin hk (thn (ha pos pins s σ H _ I h) fun us s1 ⟨vs, H1, I1, r, q⟩ => ⟨I1.kIn, ?_⟩) he hpl
  exact run_fn F hr hb hd hx I1 r q
theorem pe_call0 (F : FnOk X.prog X.w X.K X.mg X.base CX k f fd ps sp) (hr : Room k X.A) (hg : Gl X x) (hm : X.mg x = some (.ref f)) (hk : PySem.W.keepIn X.K (.ref f) = true) (hb : Binds X.K fd ps ds) (hd : Vals dvs ds) (hx : Passes CX X E)
    (hdb : (x == ("__debug__" : Str)) = false := by decide) : PE X (.Call (.Name x p) [] [] pos) (tCall sp dvs E tNil) := by
  intro pins s σ H Q I h
  refine wpAny_Call_Name_kw (ld_glob I hg hm ?_ hdb)
  exact PySem.W.callWith_K0 I.kIn hk (run_fn (us := []) F hr hb hd hx I .nil h)

/-- what a class must have to be made -/
structure Mk (K : PySem.W.Frag) (C f : Addr) : Prop where
  makes : PySem.W.makesIn K C = true
  init : PySem.W.findIn K (.ref C) "__init__" = some (some (.ref f))
  fn : PySem.W.isFn K (.ref f) = true
  kp : PySem.W.keepIn K (.ref C) = true

end

/-! ### keywords -/
section
variable {X : Cx} {CX : CXT} {k : Nat} {f C : Addr} {fd : FuncData} {ps ks : List Str} {sp : Sp} {E : XK} {x m : Str} {p pos apos kpos : Pos} {e o : Expr} {es : List Expr} {kws : List Keyword} {te ta : TE} {t tk : TA} {nm : Option Str}
/-- how a call with keywords binds: g puts the positional values us and the keywords' values ws (names ks) in the parameters' order, defaults among them -/
structure KBinds (K : PySem.W.Frag) (fd : FuncData) (ps ks : List Str) (g : List Value → List Value → List Value) (gV : List V → List V → List V) : Prop where
  to : ∀ (s : Shared) (us ws : List Value), K.In s.heap → (g us ws).length = ps.length → BindsTo s fd ⟨us, ks.zip ws⟩ (ps.zip (g us ws))
  rel : ∀ {vs : List V} {us : List Value} {zs : List V} {ws : List Value}, Vals vs us → Vals zs ws → Vals (gV vs zs) (g us ws)
variable {g : List Value → List Value → List Value} {gV : List V → List V → List V}
end

/-! ### a def's body keeps its promise -/
/-- names: the parameters first -/
structure FnScope (N P : List Str) (sc : Scope) : Prop where
  kind : sc.kind = .function
  co : sc.isCoroutine = false
  gen : sc.isGenerator = false
  nd : N.Nodup
  pre : N.take P.length = P
  par : ∀ x ∈ P, sc.names.lookup x = some .local ∨ sc.names.lookup x = some .cell
  nofree : ∀ y ∈ sc.names, y.2 ≠ .free

theorem bindL_out {kindOf : Str → Option NameKind} {x : Str} : ∀ {binds : List (Str × Value)} {m : Str → Option Value}, (∀ v, (x, v) ∉ binds) → bindL kindOf binds m x = m x
  | [], _, _ => rfl
  | (n, v) :: r, m, h => by
    unfold bindL
    rw [bindL_out fun w hw => h w (List.mem_cons_of_mem _ hw)]
    split
    · have : x ≠ n := by rintro rfl; exact h v List.mem_cons_self
      simp [this]
    · rfl
theorem bindC_out {kindOf : Str → Option NameKind} {x : Str} : ∀ {binds : List (Str × Value)} {m : Str → Option Value}, (∀ v, (x, v) ∉ binds) → bindC kindOf binds m x = m x
  | [], _, _ => rfl
  | (n, v) :: r, m, h => by
    unfold bindC
    rw [bindC_out fun w hw => h w (List.mem_cons_of_mem _ hw)]
    split
    · rfl
    · have : x ≠ n := by rintro rfl; exact h v List.mem_cons_self
      simp [this]
theorem bindL_get {kindOf : Str → Option NameKind} {x : Str} {v : Value} : ∀ {P : List Str} {vs : List Value} {i : Nat} {m : Str → Option Value}, P.Nodup → P[i]? = some x → vs[i]? = some v → kindOf x = some .local →
    bindL kindOf (P.zip vs) m x = some v
  | [], _, _, _, _, h, _, _ => by simp at h
  | _ :: _, [], _, _, _, _, h, _ => by simp at h
  | p :: P, w :: vs, 0, m, nd, h1, h2, hk => by
    simp at h1 h2; subst h1; subst h2
    show bindL kindOf ((p, w) :: P.zip vs) m p = _
    unfold bindL
    rw [bindL_out fun v hv => (List.nodup_cons.mp nd).1 (List.of_mem_zip hv).1, if_pos hk]
    simp
  | p :: P, w :: vs, i + 1, m, nd, h1, h2, hk => by
    show bindL kindOf ((p, w) :: P.zip vs) m x = _
    unfold bindL
    exact bindL_get (i := i) (List.nodup_cons.mp nd).2 (by simpa using h1) (by simpa using h2) hk
theorem bindC_get {kindOf : Str → Option NameKind} {x : Str} {v : Value} : ∀ {P : List Str} {vs : List Value} {i : Nat} {m : Str → Option Value}, P.Nodup → P[i]? = some x → vs[i]? = some v → kindOf x ≠ some .local →
    bindC kindOf (P.zip vs) m x = some v
  | [], _, _, _, _, h, _, _ => by simp at h
  | _ :: _, [], _, _, _, _, h, _ => by simp at h
  | p :: P, w :: vs, 0, m, nd, h1, h2, hk => by
    simp at h1 h2; subst h1; subst h2
    show bindC kindOf ((p, w) :: P.zip vs) m p = _
    unfold bindC
    rw [bindC_out fun v hv => (List.nodup_cons.mp nd).1 (List.of_mem_zip hv).1, if_neg hk]
    simp
  | p :: P, w :: vs, i + 1, m, nd, h1, h2, hk => by
    show bindC kindOf ((p, w) :: P.zip vs) m x = _
    unfold bindC
    exact bindC_get (i := i) (List.nodup_cons.mp nd).2 (by simpa using h1) (by simpa using h2) hk

/-- the names' values at the entry -/
def start (N : List Str) (vs : List V) : St := vs.map some ++ List.replicate (N.length - vs.length) none

/-- the context of a def's body, at its entry; an exception leaves the frame, then lies as CX says -/
def cxOf (CX : CXT) (P : Program) (w : World) (K : PySem.W.Frag) (mg : Str → Option Value) (base : Heap) (N : List Str) (qual : Str) (scope : Scope) (f : Addr) (cd : Value) (A : Around) (outer : List Env) (s : Shared) (H : Hp) (E : XK) : Cx where
  prog := P
  w := w
  K := K
  mg := mg
  base := base
  A := A.deeper (envOfC qual scope s.heap.objs.size f cd)
  N := N
  s₀ := s
  H₀ := H
  env := envOfC qual scope s.heap.objs.size f cd
  outer := outer
  stack := envOfC qual scope s.heap.objs.size f cd :: outer
  ex := []
  calm := true
  fn := fun _ => true
  pn := []
  xe := fun e s' => wpAny (model P w) (A.deeper (envOfC qual scope s.heap.objs.size f cd)) (leaving (envOfC qual scope s.heap.objs.size f cd) e) (fun _ s'' => CX outer H s E e s'') (fun e' s'' => CX outer H s E e' s'') s'

theorem cell_has {sc : Scope} {n : Nat} {x : Str} (h : sc.names.lookup x = some .cell) : ∃ c, (cellsFrom n sc.names []).lookup x = some c := by
  have q := PySem.W.cellsFrom_some sc.names n [] (.inl h)
  exact Option.isSome_iff_exists.mp q

theorem inv_start {CX : CXT} {P : Program} {w : World} {K : PySem.W.Frag} {mg : Str → Option Value} {base : Heap} {N ps : List Str} {qual : Str} {scope : Scope} {f : Addr} {cd : Value} {A : Around} {outer : List Env} {s s1 : Shared} {H : Hp} {E : XK} {us : List Value} {vs : List V}
    (S : FnScope N ps scope) (hd : A.handled = none) (e0 : Env0 P w K mg base A outer s H) (hl : vs.length = ps.length) (r : Vals vs us)
    (x : InCallC s s.heap.objs.size (bindL (envOfC qual scope s.heap.objs.size f cd).kindOf (ps.zip us) fun _ => none) (cellsFrom (s.heap.objs.size + 1) scope.names []) (bindC (envOfC qual scope s.heap.objs.size f cd).kindOf (ps.zip us) fun _ => none) s1) :
    Inv (cxOf CX P w K mg base N qual scope f cd A outer s H E) [] (start N vs) H s1 := by
  have hpl : ps.length ≤ N.length := by have := congrArg List.length S.pre; rw [List.length_take] at this; omega
  obtain ⟨h1, tk, rfl, hk⟩ := x.done
  have noA : ∀ b : Addr, b ∉ (cxOf CX P w K mg base N qual scope f cd A outer s H E).ex := fun b z => absurd (show b ∈ ([] : List Addr) from z) (by simp)
  refine ⟨⟨e0.mod, S.kind, rfl, rfl, Nat.le_refl _, fun y z c h1 h2 => ?_, fun y hy => ?_, fun y c _ h => ?_, fun _ => hd, Around.frames_deeper e0.frames, .inr ⟨rfl, rfl⟩, fun b z => absurd z (noA b), e0.bs, e0.bsz, fun b _ _ => noA b, fun b z => absurd z (noA b), e0.funs, e0.frf⟩,
    rfl, e0.bare, Un.kept hk, ⟨_, x.toInCall.ns, fun i y v h1 h2 h3 => ?_⟩, fun y c h => ⟨_, x.cell y c h⟩, e0.hok.fresh (Nat.le_refl _), fun y c h => ?_, fun p hp => absurd (show p ∈ ([] : List (Addr × Obj)) from hp) (by simp), e0.hok.kept hk, ?_⟩
  · exact name_of_addr x.apart (PySem.mem_of_lookup h1) (PySem.mem_of_lookup h2)
  · have hy : scope.names.lookup y = some .cell ∨ scope.names.lookup y = some .free := hy
    rcases hy with hy | hy
    · exact cell_has hy
    · exact absurd rfl (S.nofree _ (PySem.mem_of_lookup hy))
  · exact Nat.le_of_lt (x.above y c (PySem.mem_of_lookup h))
  · have hi : i < vs.length := by
      unfold start at h2
      by_cases hi : i < vs.length
      · exact hi
      · rw [List.getElem?_append_right (by simpa using hi)] at h2
        rw [List.getElem?_replicate] at h2
        split at h2 <;> cases h2
    have ha : vs[i]? = some v := by
      unfold start at h2
      rw [List.getElem?_append_left (by simpa using hi), List.getElem?_map] at h2
      cases e : vs[i]? with
      | none => rw [e] at h2; cases h2
      | some a => rw [e] at h2; cases h2; rfl
    obtain ⟨u, hu, rv⟩ := r.get ha
    have hp : ps[i]? = some y := by
      rw [← S.pre, List.getElem?_take_of_lt (by omega)]; exact h1
    have ndP : ps.Nodup := by rw [← S.pre]; exact S.nd.sublist (List.take_sublist _ _)
    refine ⟨u, rv, ?_⟩
    rcases S.par y (List.mem_of_getElem? hp) with k | k
    · exact .inl ⟨k, bindL_get ndP hp hu k⟩
    · obtain ⟨c, e⟩ := cell_has (n := s.heap.objs.size + 1) k
      refine .inr ⟨.inl k, c, e, ?_⟩
      have q := x.cell y c e
      rw [bindC_get ndP hp hu (by show scope.names.lookup y ≠ _; rw [k]; decide)] at q
      exact q
  · exact e0.hok.fresh (Nat.le_of_lt (x.above y c (PySem.mem_of_lookup h)))
  · unfold start
    show _ = N.length
    rw [List.length_append, List.length_map, List.length_replicate]
    omega

/-- THE RULE: a def (or a method) of the text, by its body. The body's reading t is chosen for each entry; it is run at the parameters' values -/
theorem fn_of {CX : CXT} {P : Program} {w : World} {K : PySem.W.Frag} {mg : Str → Option Value} {base : Heap} {k : Nat} {f : Addr} {name qual : Str} {params : Arguments} {body : List Stmt} {scope : Scope} {dV kV doc pm cdv ct oc : Value} {an od : Option Addr}
    {osl : Array (Option Value)} {N ps : List Str} {sp : Sp} (lk : K.lookup f = some ⟨oc, od, .func (PySem.W.fnOf name qual params body scope dV kV doc pm an cdv ct), osl⟩) (hcd : PySem.W.codeIn K cdv qual = true) (S : FnScope N ps scope)
    (len : ∀ vs H Q E, sp vs H Q E → vs.length = ps.length)
    (hbody : ∀ (A : Around) (outer : List Env) (s : Shared) (H : Hp) (vs : List V) (Q : VK) (E : XK), Room k (A.deeper (envOfC qual scope s.heap.objs.size f cdv)) → sp vs H Q E →
      ∃ t, PSs (cxOf CX P w K mg base N qual scope f cdv A outer s H E) body t ∧ t { nx := fun _ H' => Q .non H', rt := Q } (start N vs) H) :
    FnOk P w K mg base CX (k + 1) f (PySem.W.fnOf name qual params body scope dV kV doc pm an cdv ct) ps sp := by
  refine ⟨len, fun A outer s H args us vs Q E hr e0 hb r hsp => ?_⟩
  have hl := len _ _ _ _ hsp
  have KX : K.In s.heap := e0.mod.kin.keeps fun b o e => (e0.bs b o e).1
  have lim : s.heap.NoLimit := e0.mod.nolimit.keeps fun b o e => (e0.bs b o e).1
  have hkind : ∀ y ∈ ps.zip us, scope.names.lookup y.1 = some .local ∨ (scope.names.lookup y.1 = some .cell ∧ ((cellsFrom (s.heap.objs.size + 1) scope.names []).lookup y.1).isSome = true) := fun ⟨n, v⟩ hy => by
    rcases S.par n (List.of_mem_zip hy).1 with q | q
    · exact .inl q
    · exact .inr ⟨q, PySem.W.cellsFrom_some _ _ _ (.inl q)⟩
  refine codeAny_call_function hr.depth (KX _ _ lk) rfl S.co S.gen rfl (PySem.W.codeRec_of KX hcd) (hb _ _ _ _ ?_)
  refine wpAny_newFunctionEnv_cells S.kind hkind fun env he s1 x => ?_
  subst he
  refine ⟨lim.keeps x.toInCall.keep, codeAny_func ?_⟩
  obtain ⟨t, ht, hq⟩ := hbody A outer s H vs Q E (hr.deeper _) hsp
  have I : Inv (cxOf CX P w K mg base N qual scope f cdv A outer s H E) [] (start N vs) H s1 := inv_start S hr.hd e0 hl r x
  refine wpAny_mono (ht [] s1 (start N vs) H _ I hq) (fun fl s' hs => ?_) fun e s' hs => hs
  have fin : ∀ {σ' : St} {H' : Hp} {v : V} {u : Value}, Inv (cxOf CX P w K mg base N qual scope f cdv A outer s H E) [] σ' H' s' → RelV v u → Q v H' → CE outer P w H s Q u s' :=
    fun {σ' H' v u} J rv q => ⟨v, H', J.os, J.bare, J.base, J.hok, rv, q⟩
  cases fl with
  | ret u =>
    obtain ⟨v, σ', H', J, rv, q⟩ := hs
    exact fin J rv q
  | next =>
    obtain ⟨σ', H', J, q⟩ := hs
    exact fin (v := V.non) (u := Value.none) J rfl q
  | brk =>
    obtain ⟨_, _, _, q⟩ := hs
    exact False.elim q
  | cont =>
    obtain ⟨_, _, _, q⟩ := hs
    exact False.elim q
end L2

namespace L2
open PySem PySem.Spec PyProof.Rows
section
variable {X : Cx} {x : Str} {p pos : Pos} {e : Expr} {es : List Expr} {t : TA} {id T : String} {r : List V → Hp → VK → Prop}

def tCB (r : List V → Hp → VK → Prop) (t : TA) : TE := fun σ H Q => t σ H fun vs H1 => r vs H1 Q
/-- f(e, ..), f a built-in function -/
theorem pe_callB (hc : CallR X (.builtin id) r) (hg : Gl X x) (hm : X.mg x = none) (hv : bootBuiltins x = some (.builtin id)) (ha : PA X (e :: es) t) (hn : x ≠ "__name__" := by decide) (hdb : (x == ("__debug__" : Str)) = false := by decide)
    (he : starEach (e :: es) X.env = (false, eval e X.env) :: starEach es X.env := by rfl) (hpl : (backTo pos (starEach es X.env)).any (·.1) = false := by rfl) : PE X (.Call (.Name x p) (e :: es) [] pos) (tCB r t) := by
  intro pins s σ H Q I h
  refine wpAny_Call_Name_kw (ld_blt I hg hm hv ?_ hn hdb)
  exact PyProof.Rows.callWith_builtin1 (thn (ha pos pins s σ H _ I h) fun us s1 ⟨vs, H1, I1, r1, q1⟩ => hc pins s1 σ H1 vs us Q I1 r1 q1) he hpl
/-- T(e, ..), T a built-in type -/
theorem pe_callTy (hc : CallR X (.type T) r) (hg : Gl X x) (hm : X.mg x = none) (hv : bootBuiltins x = some (.type T)) (ha : PA X (e :: es) t) (hn : x ≠ "__name__" := by decide) (hdb : (x == ("__debug__" : Str)) = false := by decide)
    (he : starEach (e :: es) X.env = (false, eval e X.env) :: starEach es X.env := by rfl) (hpl : (backTo pos (starEach es X.env)).any (·.1) = false := by rfl) : PE X (.Call (.Name x p) (e :: es) [] pos) (tCB r t) := by
  intro pins s σ H Q I h
  refine wpAny_Call_Name_kw (ld_blt I hg hm hv ?_ hn hdb)
  exact PyProof.Rows.callWith_type1 (thn (ha pos pins s σ H _ I h) fun us s1 ⟨vs, H1, I1, r1, q1⟩ => hc pins s1 σ H1 vs us Q I1 r1 q1) he hpl
end
end L2

namespace HT
open PySem PyProof.Rows

section
open PySem.SeqAt
open PySem.AutoSeq1 (wpAny_loadPart')
open PySem.MeetsSeq PySem.MeetsSeq2 PySem.MeetsSeq3

end

section
variable {prog : Program} {w : World} {A : Around} {E : Value → Shared → Prop} {s : Shared}

/-! ### t[a:b], not the whole -/
/-- a slice's bound as a place among n (d where it is left out) -/
def sIx (n d : Nat) : Option Int → Nat
  | none => d
  | some v => if v < 0 then (v + (n : Int)).toNat else min v.toNat n
theorem sIx_none (n d : Nat) : sIx n d none = d := rfl
theorem sIx_nat (n d k : Nat) : sIx n d (some (k : Int)) = min k n := by
  show (if (k : Int) < 0 then ((k : Int) + (n : Int)).toNat else min (k : Int).toNat n) = min k n
  rw [if_neg (by omega), Int.toNat_natCast]
end
end HT

namespace L2
open PySem PySem.Spec PyProof.Rows

/-! ### the parts of a slice -/
abbrev TO := St → Hp → (Option Int → Hp → Prop) → Prop
/-- a slice's part (left out, or an int) -/
def PO (X : Cx) (e : Option Expr) (t : TO) : Prop :=
  ∀ (pins : List (Addr × Obj)) (s : Shared) (σ : St) (H : Hp) (Q : Option Int → Hp → Prop), Inv X pins σ H s → t σ H Q →
    wpAny (model X.prog X.w) X.A (evalPart e X.env) (fun u s' => ∃ o H', Inv X pins σ H' s' ∧ IsPart u o ∧ Q o H') X.xe s
def tNoPart : TO := fun _ H Q => Q none H
def tPart (t : TE) : TO := fun σ H Q => t σ H fun x H1 => ∃ i, x = .int i ∧ Q (some i) H1

theorem intsAre_of {ns : List Int} : ∀ {us : List Value}, Vals (ns.map V.int) us → IntsAre us ns := by
  induction ns with
  | nil => intro us r; rw [List.map_nil] at r; cases r; exact .nil
  | cons n ns ih =>
    intro us r
    rw [List.map_cons] at r
    cases r with
    | cons r1 r2 =>
      obtain ⟨t, e⟩ := r1
      subst e
      exact .cons n t (ih r2)

section
variable {X : Cx} {e : Expr} {te : TE} {lo hi : Option Expr} {tl th : TO} {pos p2 : Pos}

theorem po_none : PO X none tNoPart := by
  intro pins s σ H Q I h
  rw [evalPart_none]
  exact wpAny_pure ⟨none, H, I, .none, h⟩
theorem po_some (h : PE X e te) : PO X (some e) (tPart te) := by
  intro pins s σ H Q I hw
  rw [evalPart_some]
  refine thn (h pins s σ H _ I hw) fun u s1 ⟨x, H1, I1, r1, q1⟩ => ?_
  obtain ⟨i, rfl, q⟩ := q1
  obtain ⟨t, rfl⟩ := r1
  exact ⟨some i, H1, I1, .int i t, q⟩

/-- what a slice of a value is, by values: the slice object stands at sl -/
def SlR (X : Cx) (r : V → Option Int → Option Int → Hp → VK → Prop) : Prop :=
  ∀ (pins : List (Addr × Obj)) (s : Shared) (σ : St) (H : Hp) (x : V) (v vl vu : Value) (lo hi : Option Int) (sl : Addr) (Q : VK), Inv X pins σ H s → RelV x v → s.heap.IsSliceOf sl vl vu .none → IsPart vl lo → IsPart vu hi → r x lo hi H Q →
    ∃ T id, typeLookup (.type T) "__getitem__" = pure (some (.builtin id)) ∧ s.TypeIs v T ∧ wpAny (model X.prog X.w) X.A (getItem v (.ref sl)) (EP X pins σ Q) X.xe s
theorem SlR.or {r r' : V → Option Int → Option Int → Hp → VK → Prop} (h : SlR X r) (h' : SlR X r') : SlR X (fun x lo hi H Q => r x lo hi H Q ∨ r' x lo hi H Q) := by
  intro pins s σ H x v vl vu lo hi sl Q I rx hs pl pu q
  rcases q with q | q
  · exact h pins s σ H x v vl vu lo hi sl Q I rx hs pl pu q
  · exact h' pins s σ H x v vl vu lo hi sl Q I rx hs pl pu q
def tSl (r : V → Option Int → Option Int → Hp → VK → Prop) (te : TE) (tl th : TO) : TE := fun σ H Q => te σ H fun x H1 => tl σ H1 fun l H2 => th σ H2 fun u H3 => r x l u H3 Q
/-- a[lo:hi], any a -/
theorem pe_slice {r : V → Option Int → Option Int → Hp → VK → Prop} (hr : SlR X r) (he : PE X e te) (hl : PO X lo tl) (hu : PO X hi th) : PE X (.Subscript e (.Slice lo hi none p2) pos) (tSl r te tl th) := by
  intro pins s σ H Q I h
  refine Subscript_ (thn (he pins s σ H _ I h) fun v s1 ⟨x, H1, I1, r1, q1⟩ => ?_)
  refine wpAny_Slice (thn (hl pins s1 σ H1 _ I1 q1) fun vl s2 ⟨l, H2, I2, pl, q2⟩ => thn (hu pins s2 σ H2 _ I2 q2) fun vu s3 ⟨u, H3, I3, pu, q3⟩ => ?_)
  rw [evalPart_none]
  refine wpAny_pure ?_
  have I4 : Inv X pins σ H3 { s3 with heap := s3.heap.push { cls := .type "slice", data := .fields #[vl, vu, .none] } } := I3.kept (t' := s3.toks) fun b ob q => Heap.get?_push_of_some _ q
  obtain ⟨T, id, hT, ht, hg⟩ := hr pins { s3 with heap := s3.heap.push { cls := .type "slice", data := .fields #[vl, vu, .none] } } σ H3 x v vl vu l u s3.heap.objs.size Q I4 r1 (Heap.IsSliceOf.new ..) pl pu q3
  show wpAny (model X.prog X.w) X.A (subscriptTail e (.Slice lo hi none p2) v (.ref s3.heap.objs.size)) (EP X pins σ Q) X.xe { s3 with heap := s3.heap.push { cls := .type "slice", data := .fields #[vl, vu, .none] } }
  exact tail_any (ops := [.ref s3.heap.objs.size, v]) ht hT hg (by with_unfolding_all rfl)

/-- the items of xs[lo:hi] -/
def cutV (xs : List V) (lo hi : Option Int) : List V := (xs.drop (HT.sIx xs.length 0 lo)).take (HT.sIx xs.length xs.length hi - HT.sIx xs.length 0 lo)
theorem cutV_length (xs : List V) (lo hi : Option Int) : (cutV xs lo hi).length ≤ xs.length := by
  unfold cutV
  rw [List.length_take, List.length_drop]
  omega
/-! ### t < u, t + u -/
end
end L2

namespace L2
open PySem PySem.Spec PyProof.Rows

/-! ### places -/
/-- the place that an index of any sign means -/
def ixN (n : Nat) (i : Int) : Option Nat := if 0 ≤ i then (if i < n then some i.toNat else none) else if -(n : Int) ≤ i then some (i + n).toNat else none
def atI {α : Type} (xs : List α) (i : Int) : Option α := (ixN xs.length i).bind fun j => xs[j]?
theorem ixN_seq {n : Nat} {i : Int} {j : Nat} (h : ixN n i = some j) : seqIndex? i n = some j ∧ j < n ∧ -(n : Int) ≤ i ∧ i < n := by
  unfold ixN at h
  by_cases h0 : 0 ≤ i
  · rw [if_pos h0] at h
    by_cases h1 : i < n
    · rw [if_pos h1] at h
      have e : i.toNat = j := Option.some.inj h
      exact ⟨by rw [seqIndex_of h0 h1, e], by omega, by omega, h1⟩
    · rw [if_neg h1] at h; cases h
  · rw [if_neg h0] at h
    by_cases h1 : -(n : Int) ≤ i
    · rw [if_pos h1] at h
      have e : (i + n).toNat = j := Option.some.inj h
      exact ⟨by rw [seqIndex_neg (by omega) h1, e], by omega, h1, by omega⟩
    · rw [if_neg h1] at h; cases h
theorem atI_get {α : Type} {xs : List α} {i : Int} {v : α} (h : atI xs i = some v) : ∃ j, seqIndex? i xs.length = some j ∧ xs[j]? = some v ∧ j < xs.length ∧ -(xs.length : Int) ≤ i ∧ i < xs.length := by
  unfold atI at h
  cases e : ixN xs.length i with
  | none => rw [e] at h; cases h
  | some j =>
    rw [e] at h
    obtain ⟨h1, h2, h3, h4⟩ := ixN_seq e
    exact ⟨j, h1, h, h2, h3, h4⟩
theorem atI_nat {α : Type} {xs : List α} {j : Nat} {v : α} (h : xs[j]? = some v) : atI xs (j : Int) = some v := by
  have hj : j < xs.length := (List.getElem?_eq_some_iff.mp h).1
  have e : ixN xs.length (j : Int) = some j := by
    unfold ixN
    rw [if_pos (by omega), if_pos (by omega)]; simp
  unfold atI; rw [e]; exact h
/-! ### what may be subscripted -/
/-- what stands as an index of a plain subscript -/
def PlainIx (b : Expr) : Prop := ∀ o i, subscripted b false o i = operate [o, i] (getItem o i)
/-- a subscript by values -/
def IxR (X : Cx) (r : R2) : Prop :=
  ∀ (value slice : Expr) (pins : List (Addr × Obj)) (s : Shared) (σ : St) (H : Hp) (x y : V) (v u : Value) (Q : VK), Inv X pins σ H s → RelV x v → RelV y u → r x y H Q →
    subscripted slice false v u = operate [v, u] (getItem v u) → wpAny (model X.prog X.w) X.A (subscriptTail value slice v u) (EP X pins σ Q) X.xe s
/-- a call of a builtin's method by values: the receiver, the arguments -/
def MtR (X : Cx) (id : String) (r : V → List V → Hp → VK → Prop) : Prop :=
  ∀ (pins : List (Addr × Obj)) (s : Shared) (σ : St) (H : Hp) (x : V) (xs : List V) (v : Value) (us : List Value) (Q : VK), Inv X pins σ H s → RelV x v → Vals xs us → r x xs H Q →
    wpAny (model X.prog X.w) X.A (call (.builtin id) (v :: us)) (EP X pins σ Q) X.xe s
section
variable {X : Cx} {a b : Expr} {ta tb : TE} {pos : Pos}
theorem IxR.or {r r' : R2} (h : IxR X r) (h' : IxR X r') : IxR X (fun x y H Q => r x y H Q ∨ r' x y H Q) := by
  intro value slice pins s σ H x y v u Q I rx ry q hs
  rcases q with q | q
  · exact h value slice pins s σ H x y v u Q I rx ry q hs
  · exact h' value slice pins s σ H x y v u Q I rx ry q hs
theorem MtR.or {id : String} {r r' : V → List V → Hp → VK → Prop} (h : MtR X id r) (h' : MtR X id r') : MtR X id (fun x xs H Q => r x xs H Q ∨ r' x xs H Q) := by
  intro pins s σ H x xs v us Q I rx rs q
  rcases q with q | q
  · exact h pins s σ H x xs v us Q I rx rs q
  · exact h' pins s σ H x xs v us Q I rx rs q
/-- a[b] -/
theorem pe_ix {r : R2} (hr : IxR X r) (ha : PE X a ta) (hb : PE X b tb) (hs : PlainIx b) : PE X (.Subscript a b pos) (tOp r ta tb) := by
  intro pins s σ H Q I h
  exact Subscript_ (binT ha hb I h fun v u s2 x y H2 I2 rx ry q => hr a b pins s2 σ H2 x y v u Q I2 rx ry q (hs _ _))

def rIxL (K : PySem.W.Frag) : R2 := fun x y H Q => ∃ p xs i v, x = .ref p ∧ y = .int i ∧ SqL K H p xs ∧ atI xs i = some v ∧ Q v H
def rIxT (K : PySem.W.Frag) : R2 := fun x y H Q => ∃ p xs i v, x = .ref p ∧ y = .int i ∧ SqT K H p xs ∧ atI xs i = some v ∧ Q v H
def rIxS : R2 := fun x y H Q => ∃ z i c, x = .str z ∧ y = .int i ∧ z.length ≤ sizeLine ∧ atI z.cps.toList i = some c ∧ Q (.str ⟨#[c]⟩) H
theorem ix_list : IxR X (rIxL X.K) := by
  intro value slice pins s σ H x y v u Q I rx ry h hs
  obtain ⟨p, xs, i, z, rfl, rfl, hq, he, q⟩ := h
  cases rx
  obtain ⟨t, rfl⟩ := ry
  obtain ⟨its, r, pl, hz⟩ := I.list hq
  obtain ⟨j, h1, h2, h3, h4, h5⟩ := atI_get he
  obtain ⟨w, ew, rw'⟩ := r.get h2
  have hl := r.length
  have hn := line63
  have fin : EP X pins σ Q w s := ⟨z, H, I, rw', q⟩
  by_cases h0 : 0 ≤ i
  · have hj : i.toNat = j := by
      rw [seqIndex_of h0 h5] at h1
      exact Option.some.inj h1
    exact item_listR pl.isList h0 (by omega) (by rw [hj]; simpa using ew) fin hs
  · have hj : (i + (its.toArray.size : Int)).toNat = j := by
      rw [seqIndex_neg (by omega) h4] at h1
      rw [List.size_toArray, ← hl]
      exact Option.some.inj h1
    exact subscriptTail_builtinR (x := w) pl.isList.typeIs slot_list_getitem.lookup
      (wpAny_getItem_list_neg (Q := fun r s' => r = w ∧ EP X pins σ Q r s') pl.isList (by omega) (by rw [List.size_toArray] <;> omega) (by omega) (by rw [hj]; simpa using ew) ⟨rfl, fin⟩) hs
theorem ix_tup : IxR X (rIxT X.K) := by
  intro value slice pins s σ H x y v u Q I rx ry h hs
  obtain ⟨p, xs, i, z, rfl, rfl, hq, he, q⟩ := h
  cases rx
  obtain ⟨t, rfl⟩ := ry
  obtain ⟨its, r, pl, hz⟩ := I.tuple hq
  obtain ⟨j, h1, h2, h3, h4, h5⟩ := atI_get he
  obtain ⟨w, ew, rw'⟩ := r.get h2
  have hl := r.length
  have hn := line63
  have fin : EP X pins σ Q w s := ⟨z, H, I, rw', q⟩
  exact subscriptTail_builtinR (x := w) pl.typeIs slot_tuple_getitem.lookup
    (getItem_tuple (j := j) (Q := fun r s' => r = w ∧ EP X pins σ Q r s') pl (by omega) (by omega) (by rw [List.size_toArray, ← hl]; exact h1) (by simpa using ew) ⟨rfl, fin⟩) hs
theorem ix_str : IxR X rIxS := by
  intro value slice pins s σ H x y v u Q I rx ry h hs
  obtain ⟨z, i, c, rfl, rfl, hz, he, q⟩ := h
  obtain ⟨t, rfl⟩ := rx
  obtain ⟨t', rfl⟩ := ry
  obtain ⟨j, h1, h2, h3, h4, h5⟩ := atI_get he
  have hl : z.cps.toList.length = z.length := by simp [Str.length]
  rw [hl] at h1 h4 h5
  have hn := line63
  exact tail_any (typeIs_str s z t) slot_str_getitem.lookup (getItem_str (c := c) (by
    have e1 : decide (i < -(2 ^ 63 : Int)) = false := decide_eq_false (by omega)
    have e2 : decide (i ≥ 2 ^ 63) = false := decide_eq_false (by omega)
    rw [e1, e2, Bool.or_false]) (by rw [h1]; simpa using h2) ⟨.str ⟨#[c]⟩, H, I.tok _, ⟨_, rfl⟩, q⟩) hs
/-! ### xs[i] = v, any sign -/
/-- the list's object behind a store -/
theorem mapSeq_set (its : List Value) (n j : Nat) (u : Value) : Obj.mapSeq (·.setIfInBounds j u) { cls := .type "list", data := .seq its.toArray n } = { cls := .type "list", data := .seq (its.set j u).toArray n } := by
  simp [Obj.mapSeq]
theorem Inv.lst {pins : List (Addr × Obj)} {σ : St} {H : Hp} {s : Shared} {p : Addr} {xs : List V} (I : Inv X pins σ H s) (h : H p = some (.lst xs)) :
    ∃ (its : List Value) (n : Nat), Vals xs its ∧ s.heap.get? p = some { cls := .type "list", data := .seq its.toArray n } ∧ xs.length ≤ sizeLine := by
  obtain ⟨z, its, n, r, e⟩ := I.hok p _ h
  exact ⟨its, n, r, e, z⟩
/-- the list at p is written by an update of its object -/
theorem Inv.lstUpd {pins : List (Addr × Obj)} {σ : St} {H : Hp} {s : Shared} {p : Addr} {xs ys : List V} {its its' : List Value} {n n' : Nat} {f : Obj → Obj} (I : Inv X pins σ H s) (h : H p = some (.lst xs))
    (ho : s.heap.get? p = some { cls := .type "list", data := .seq its.toArray n }) (hf : f { cls := .type "list", data := .seq its.toArray n } = { cls := .type "list", data := .seq its'.toArray n' }) (r : Vals ys its') (hz : ys.length ≤ sizeLine) (t : Nat) :
    Inv X pins σ (upd H p (.lst ys)) { s with heap := s.heap.update p f, toks := t } := by
  have e : (s.heap.update p f).get? p = some { cls := .type "list", data := .seq its'.toArray n' } := by
    rw [Heap.get?_update_self f ho (by rw [hf] <;> rfl), hf]
  refine I.write (x := p) (e := p) (by rw [h]; trivial) (.inl rfl) (fun b u hb q => (Heap.get?_update_other _ _ (Ne.symm hb)).trans q) ⟨_, e⟩ ?_
  exact ⟨hz, its', n', r, e⟩
def rSetL : V → V → V → Hp → (Hp → Prop) → Prop := fun o i v H Q => ∃ p xs k j, o = .ref p ∧ i = .int k ∧ H p = some (.lst xs) ∧ ixN xs.length k = some j ∧ Q (upd H p (.lst (xs.set j v)))
theorem set_list : PSet X rSetL := by
  intro pins s σ H o i v ov iv u Q I ro ri rv h
  obtain ⟨p, xs, k, j, rfl, rfl, hp, hj, q⟩ := h
  cases ro
  obtain ⟨t, rfl⟩ := ri
  obtain ⟨its, n, r, ho, hz⟩ := I.lst hp
  obtain ⟨h1, h2, h3, h4⟩ := ixN_seq hj
  have hl := r.length
  have hn := line63
  have I' : Inv X pins σ (upd H p (.lst (xs.set j v))) { s with heap := s.heap.update p (Obj.mapSeq (·.setIfInBounds j u)) } :=
    I.lstUpd hp ho (mapSeq_set its n j u) (r.set rv j) (by rw [List.length_set]; exact hz) s.toks
  by_cases h0 : 0 ≤ k
  · have hk : k.toNat = j := by
      rw [seqIndex_of h0 h4] at h1
      exact Option.some.inj h1
    exact PySem.W.ki_setAt ho h0 (by omega) (by rw [List.size_toArray, ← hl]; exact h4) (by rw [hk]; exact ⟨_, I', q⟩)
  · have hk : (k + (its.toArray.size : Int)).toNat = j := by
      rw [seqIndex_neg (by omega) h3] at h1
      rw [List.size_toArray, ← hl]
      exact Option.some.inj h1
    exact PySem.W.ki_setBack ho (by omega) (by rw [List.size_toArray, ← hl]; exact h3) (by omega) (by rw [hk]; exact ⟨_, I', q⟩)

/-! ### slices -/
theorem slice_bounds (lo hi : Option Int) (n : Nat) : (sliceBounds lo hi none n).1 = ((HT.sIx n 0 lo : Nat) : Int) ∧ (sliceBounds lo hi none n).2.1 = ((HT.sIx n n hi : Nat) : Int) ∧ (sliceBounds lo hi none n).2.2 = 1 := by
  refine ⟨?_, ?_, rfl⟩
  · cases lo with
    | none => simp [sliceBounds, HT.sIx]
    | some i =>
      simp only [sliceBounds, HT.sIx, Option.getD_none, show (1 : Int) > 0 by decide, if_true]
      by_cases h : i < 0
      · simp only [h, if_true] <;> omega
      · simp only [h, if_false] <;> omega
  · cases hi with
    | none => simp [sliceBounds, HT.sIx]
    | some i =>
      simp only [sliceBounds, HT.sIx, Option.getD_none, show (1 : Int) > 0 by decide, if_true]
      by_cases h : i < 0
      · simp only [h, if_true] <;> omega
      · simp only [h, if_false] <;> omega
theorem slicePick_cut (its : List Value) (lo hi : Option Int) : slicePick its.toArray lo hi none = ((its.drop (HT.sIx its.length 0 lo)).take (HT.sIx its.length its.length hi - HT.sIx its.length 0 lo)).toArray := by
  obtain ⟨h1, h2, h3⟩ := slice_bounds lo hi its.toArray.size
  unfold slicePick
  rw [h1, h2, h3]
  simp only [sliceRange_one, pick_run, List.size_toArray] <;> rfl
/-- xs[lo:hi] of a list: a new list -/
def rSlL (K : PySem.W.Frag) : V → Option Int → Option Int → Hp → VK → Prop := fun x lo hi H Q => ∃ a xs, x = .ref a ∧ SqL K H a xs ∧ ∀ p, H p = none → Q (.ref p) (upd H p (.lst (cutV xs lo hi)))
theorem sl_list : SlR X (rSlL X.K) := by
  intro pins s σ H x v vl vu lo hi sl Q I rx hs pl pu h
  obtain ⟨a, xs, rfl, hx, q⟩ := h
  cases rx
  obtain ⟨its, r, ht, hz⟩ := I.list hx
  have hlen := r.length
  refine ⟨"list", _, slot_list_getitem.lookup, ht.isList.typeIs, ?_⟩
  refine wpAny_getItem_list_slice ht.isList hs pl pu .none (by simp) ?_ (by rw [List.size_toArray] <;> omega)
  rw [slicePick_cut, ← hlen]
  refine ⟨.ref s.heap.objs.size, _, I.laid (t' := s.toks) (o := .lst (cutV xs lo hi)) (fun b ob q => Heap.get?_push_of_some _ q) (Nat.le_refl _) ?_, rfl, q _ (I.hok.fresh (Nat.le_refl _))⟩
  exact ⟨Nat.le_trans (cutV_length xs lo hi) hz, _, 0, (r.drop (HT.sIx xs.length 0 lo)).take (HT.sIx xs.length xs.length hi - HT.sIx xs.length 0 lo), Heap.get?_push_size _ rfl⟩

/-! ### in, not in: flat items -/
def flatV : V → Bool
  | .non => true
  | .bl _ => true
  | .int _ => true
  | .str _ => true
  | _ => false
/-- == of flat values -/
def eqV : V → V → Bool
  | .non, .non => true
  | .bl a, .bl b => a == b
  | .bl a, .int b => (if a then 1 else 0) == b
  | .int a, .bl b => a == (if b then 1 else 0)
  | .int a, .int b => a == b
  | .str a, .str b => a == b
  | _, _ => false
theorem eqAt_V {A : Around} {s : Shared} {y x : V} {u v : Value} (ry : RelV y u) (rx : RelV x v) (fy : flatV y = true) (fx : flatV x = true) : SeqAt.EqAt A s u v (eqV y x) := by
  cases y with
  | non =>
    cases ry
    cases x with
    | non => cases rx; exact SeqAt.EqAt.same _
    | bl b => cases rx; exact SeqAt.EqAt.none_bool b
    | int b => obtain ⟨t, rfl⟩ := rx; exact SeqAt.EqAt.none_int b t
    | str b => obtain ⟨t, rfl⟩ := rx; exact SeqAt.EqAt.none_str b t
    | _ => exact absurd (show false = true from fx) Bool.false_ne_true
  | bl a =>
    cases ry
    cases x with
    | non => cases rx; exact SeqAt.EqAt.bool_none a
    | bl b => cases rx; exact SeqAt.EqAt.bool_bool a b
    | int b => obtain ⟨t, rfl⟩ := rx; exact SeqAt.EqAt.bool_int a b t
    | str b => obtain ⟨t, rfl⟩ := rx; exact SeqAt.EqAt.bool_str a b t
    | _ => exact absurd (show false = true from fx) Bool.false_ne_true
  | int a =>
    obtain ⟨t', rfl⟩ := ry
    cases x with
    | non => cases rx; exact SeqAt.EqAt.int_none a t'
    | bl b => cases rx; exact SeqAt.EqAt.int_bool a t' b
    | int b => obtain ⟨t, rfl⟩ := rx; exact SeqAt.EqAt.int_int a t' b t
    | str b => obtain ⟨t, rfl⟩ := rx; exact SeqAt.EqAt.int_str a t' b t
    | _ => exact absurd (show false = true from fx) Bool.false_ne_true
  | str a =>
    obtain ⟨t', rfl⟩ := ry
    cases x with
    | non => cases rx; exact SeqAt.EqAt.str_none a t'
    | bl b => cases rx; exact SeqAt.EqAt.str_bool a t' b
    | int b => obtain ⟨t, rfl⟩ := rx; exact SeqAt.EqAt.str_int a t' b t
    | str b => obtain ⟨t, rfl⟩ := rx; exact SeqAt.EqAt.str_str a t' b t
    | _ => exact absurd (show false = true from fx) Bool.false_ne_true
  | _ => exact absurd (show false = true from fy) Bool.false_ne_true
/-- the items' answers, read off the values (a value's own answer does not lean on its token) -/
def eqU (x : V) (u : Value) : Bool := match u with
  | .none => eqV .non x
  | .bool b => eqV (.bl b) x
  | .int i _ => eqV (.int i) x
  | .str z _ => eqV (.str z) x
  | _ => false
theorem eqU_of {x y : V} {u : Value} (r : RelV y u) (f : flatV y = true) : eqU x u = eqV y x := by
  cases y with
  | non => cases r; rfl
  | bl b => cases r; rfl
  | int i => obtain ⟨t, rfl⟩ := r; rfl
  | str z => obtain ⟨t, rfl⟩ := r; rfl
  | _ => exact absurd (show false = true from f) Bool.false_ne_true
theorem any_eqU {x : V} : ∀ {xs : List V} {us : List Value}, Vals xs us → xs.all flatV = true → us.any (eqU x) = xs.any fun y => eqV y x
  | _, _, .nil, _ => rfl
  | y :: xs, u :: us, .cons r t, f => by
    rw [List.all_cons, Bool.and_eq_true] at f
    rw [List.any_cons, List.any_cons, eqU_of r f.1, any_eqU t f.2]
theorem mem_eqAt {A : Around} {s : Shared} {x : V} {v : Value} (rx : RelV x v) (fx : flatV x = true) : ∀ {xs : List V} {us : List Value}, Vals xs us → xs.all flatV = true → ∀ u ∈ us, SeqAt.EqAt A s u v (eqU x u)
  | _, _, .nil, _ => fun u hu => by cases hu
  | y :: xs, u :: us, .cons r t, f => fun u' hu => by
    rw [List.all_cons, Bool.and_eq_true] at f
    rcases List.mem_cons.mp hu with rfl | hu
    · rw [eqU_of r f.1]; exact eqAt_V r rx f.1 fx
    · exact mem_eqAt rx fx t f.2 u' hu
def inV (x : V) (xs : List V) : Bool := xs.any fun y => eqV y x
/-- x in a list or tuple of flat items -/
def rIn (K : PySem.W.Frag) (neg : Bool) : R2 := fun x y H Q => ∃ p xs, y = .ref p ∧ (SqL K H p xs ∨ SqT K H p xs) ∧ flatV x = true ∧ xs.all flatV = true ∧ Q (.bl (if neg then !inV x xs else inV x xs)) H
theorem op_in_seq : OpR X (compareOp .In) (rIn X.K false) := by
  intro pins s σ H x y v u Q I rx ry h
  obtain ⟨p, xs, rfl, hq, fx, fs, q⟩ := h
  cases ry
  rcases hq with hq | hq
  · obtain ⟨its, r, pl, hz⟩ := I.list hq
    refine SeqAt.in_listAt (eqU x) pl.isList (fun w hw => mem_eqAt rx fx r fs w (by simpa using hw)) ⟨.bl _, H, I, rfl, ?_⟩
    rw [show its.toArray.any (eqU x) = its.any (eqU x) by simp, any_eqU r fs]
    exact q
  · obtain ⟨its, r, pl, hz⟩ := I.tuple hq
    refine SeqAt.in_tupleAt (eqU x) pl (fun w hw => mem_eqAt rx fx r fs w (by simpa using hw)) ⟨.bl _, H, I, rfl, ?_⟩
    rw [show its.toArray.any (eqU x) = its.any (eqU x) by simp, any_eqU r fs]
    exact q
/-! ### len, list(x), tuple(x) of any list or tuple that is read -/
theorem call_len_seq : CallR X (.builtin "len") (fun xs H Q => ∃ p ys, xs = [.ref p] ∧ (SqL X.K H p ys ∨ SqT X.K H p ys) ∧ Q (.int ys.length) H) := by
  intro pins s σ H xs us Q I r h
  obtain ⟨p, ys, rfl, hq, q⟩ := h
  obtain ⟨u, rfl, rx⟩ := vals1 r
  cases rx
  have hn := line63
  rcases hq with hq | hq
  · obtain ⟨its, r', pl, hz⟩ := I.list hq
    have hlen := r'.length
    exact Calls.call_len_list pl.isList (by simp only [List.size_toArray] <;> omega) ⟨.int ys.length, H, I.tok _, ⟨s.toks + 1, by rw [List.size_toArray, hlen]⟩, q⟩
  · obtain ⟨its, r', pl, hz⟩ := I.tuple hq
    have hlen := r'.length
    exact len_tuple pl (by simp only [List.size_toArray] <;> omega) ⟨.int ys.length, H, I.tok _, ⟨s.toks + 1, by rw [List.size_toArray, hlen]⟩, q⟩
theorem call_len_str : CallR X (.builtin "len") (fun xs H Q => ∃ z, xs = [.str z] ∧ z.length ≤ sizeLine ∧ Q (.int z.length) H) := by
  intro pins s σ H xs us Q I r h
  obtain ⟨z, rfl, hz, q⟩ := h
  obtain ⟨u, rfl, t, rfl⟩ := vals1 r
  have hn := line63
  exact len_str (by omega) ⟨.int z.length, H, I.tok _, ⟨_, rfl⟩, q⟩
theorem CallR.or {f : Value} {r r' : List V → Hp → VK → Prop} (h : CallR X f r) (h' : CallR X f r') : CallR X f (fun xs H Q => r xs H Q ∨ r' xs H Q) := by
  intro pins s σ H xs us Q I rs q
  rcases q with q | q
  · exact h pins s σ H xs us Q I rs q
  · exact h' pins s σ H xs us Q I rs q
theorem call_list_of : CallR X (.type "list") (fun xs H Q => ∃ p ys, xs = [.ref p] ∧ (SqL X.K H p ys ∨ SqT X.K H p ys) ∧ ∀ l, H l = none → Q (.ref l) (upd H l (.lst ys))) := by
  intro pins s σ H xs us Q I r h
  obtain ⟨p, ys, rfl, hq, q⟩ := h
  obtain ⟨u, rfl, rx⟩ := vals1 r
  cases rx
  have fin : ∀ (its : List Value), Vals ys its → ys.length ≤ sizeLine → ∀ (h' : Heap) (c' : Nat), (∀ b o', s.heap.get? b = some o' → h'.get? b = some o') →
      h'.get? s.heap.objs.size = some { cls := .type "list", dict := none, data := .seq its.toArray c', slots := #[] } → EP X pins σ Q (.ref s.heap.objs.size) { s with heap := h' } := fun its r' hz h' c' kp e =>
    ⟨.ref s.heap.objs.size, _, I.laid (t' := s.toks) kp (Nat.le_refl _) (show ObjOk X.prog X.w _ h' _ (.lst ys) from ⟨hz, its, c', r', e⟩), rfl, q _ (I.hok.fresh (Nat.le_refl _))⟩
  rcases hq with hq | hq
  · obtain ⟨its, r', pl, hz⟩ := I.list hq
    have hlen := r'.length
    obtain ⟨o, ho, hc, n, hd⟩ := pl.isList
    exact call_list_seq p (.inl rfl) ho hc hd (fun h' c' kp e => fin its r' hz h' c' kp e) (by simp only [List.size_toArray] <;> omega)
  · obtain ⟨its, r', pl, hz⟩ := I.tuple hq
    have hlen := r'.length
    obtain ⟨o, ho, hc, n, hd⟩ := pl
    exact call_list_seq p (.inr rfl) ho hc hd (fun h' c' kp e => fin its r' hz h' c' kp e) (by simp only [List.size_toArray] <;> omega)
/-! ### the call of a builtin's method: o.m(..) -/
/-- the value is of that builtin type -/
def tyV (K : PySem.W.Frag) (T : String) (x : V) (H : Hp) : Prop := match x with
  | .str _ => T = "str"
  | .int _ => T = "int"
  | .ref p => (T = "list" ∧ ∃ xs, SqL K H p xs) ∨ (T = "tuple" ∧ ∃ o, K.lookup p = some o ∧ o.cls = .type "tuple" ∧ o.dict = none) ∨
      (T = "dict" ∧ ((∃ kvs, H p = some (.dK kvs)) ∨ ∃ kvs, H p = some (.dT kvs))) ∨ (T = "set" ∧ ∃ S n, H p = some (.set S n))
  | _ => False
theorem tyV_is {pins : List (Addr × Obj)} {σ : St} {H : Hp} {s : Shared} {T : String} {x : V} {v : Value} (I : Inv X pins σ H s) (r : RelV x v) (ty : tyV X.K T x H) :
    s.TypeIs v T ∧ ∀ a, v = .ref a → ∃ ob, s.heap.get? a = some ob ∧ ob.dict = none := by
  cases x with
  | str z =>
    obtain ⟨t, rfl⟩ := r
    cases (show T = "str" from ty)
    exact ⟨typeIs_str s z t, fun _ e => nomatch e⟩
  | int i =>
    obtain ⟨t, rfl⟩ := r
    cases (show T = "int" from ty)
    exact ⟨typeIs_int s i t, fun _ e => nomatch e⟩
  | ref p =>
    cases r
    rcases ty with ⟨rfl, xs, hq⟩ | ⟨rfl, o, hk, hc, hd⟩ | ⟨rfl, hk⟩ | ⟨rfl, S, n, hk⟩
    · obtain ⟨its, _, pl, _⟩ := I.list hq
      refine ⟨pl.isList.typeIs, fun a e => ?_⟩
      cases e
      obtain ⟨o, n, e, c, hd, _⟩ := pl
      exact ⟨o, e, hd⟩
    · refine ⟨⟨o, I.kIn p o hk, hc⟩, fun a e => ?_⟩
      cases e
      exact ⟨o, I.kIn _ o hk, hd⟩
    · have z : ∃ o, s.heap.get? p = some o ∧ o.ExactDict := by
        rcases hk with ⟨kvs, hk⟩ | ⟨kvs, hk⟩
        · obtain ⟨_, _, _, _, o, _, _, e, ex, _⟩ := I.hok p _ hk
          exact ⟨o, e, ex⟩
        · obtain ⟨_, _, _, _, o, _, _, e, ex, _⟩ := I.hok p _ hk
          exact ⟨o, e, ex⟩
      obtain ⟨o, e, ex⟩ := z
      refine ⟨⟨o, e, ex.1⟩, fun a e2 => ?_⟩
      cases e2
      exact ⟨o, e, ex.2.1⟩
    · obtain ⟨o, _, _, _, e, ex, _⟩ := I.hok p _ hk
      refine ⟨⟨o, e, ex.1⟩, fun a e2 => ?_⟩
      cases e2
      exact ⟨o, e, ex.2.1⟩
  | _ => exact False.elim ty
def tBM (K : PySem.W.Frag) (T : String) (r : V → List V → Hp → VK → Prop) (to : TE) (t : TA) : TE := fun σ H Q => to σ H fun x H1 => tyV K T x H1 ∧ t σ H1 fun xs H2 => r x xs H2 Q
variable {o e : Expr} {es : List Expr} {to : TE} {t : TA} {name : Str} {apos cpos : Pos} {T id : String} {r : V → List V → Hp → VK → Prop}
theorem pe_bm (pa : PlainAttrs T) (slot : Slot T name id) (hty : typeOf (.builtin id) = pure (.type "method_descriptor")) (hm : MtR X id r) (ho : PE X o to) (ha : PA X (e :: es) t)
    (hbase : attributeBase o name X.env (eval o X.env) = eval o X.env := by rfl)
    (hfew : ((backTo cpos (starEach (e :: es) X.env)).all (fun x => !x.1) && (backToKw cpos (keywordEach [] X.env)).all (fun x => x.1.isSome)
      && decide ((e :: es).length + ([] : List Keyword).length + (if ([] : List Keyword).isEmpty then 0 else 1) < 30)) = true := by rfl)
    (hline : (apos.endLine == cpos.line) = true := by rfl) (hs : starEach (e :: es) X.env = (false, eval e X.env) :: starEach es X.env := by rfl) (hplain : (backTo cpos (starEach es X.env)).any (·.1) = false := by rfl) :
    PE X (.Call (.Attribute o name apos) (e :: es) [] cpos) (tBM X.K T r to t) := by
  intro pins s σ H Q I h
  refine wpAny_Call_method_late hbase hfew hline rfl (thn (ho pins s σ H _ I h) fun v s1 ⟨x, H1, I1, r1, ty, q1⟩ => ?_)
  obtain ⟨h1, h2⟩ := tyV_is I1 r1 ty
  refine ⟨T, id, pa, slot, hty, h1, h2, ?_⟩
  have hA := ha cpos pins s1 σ H1 _ I1 q1
  rw [hs] at hA ⊢
  refine Calls.callWith_builtin (by show (false || (backTo cpos (starEach es X.env)).any (·.1)) = false; rw [hplain] <;> rfl) (Calls.evalArgs_plain ?_)
  exact thn hA fun us s2 ⟨vs, H2, I2, r2, q2⟩ => hm pins s2 σ H2 x vs v us Q I2 r1 r2 q2
/- xs.append(e), list.index on a module's tuple .. are MtR facts of 06m -/
end
end L2

namespace L2
open PySem PySem.Spec PyProof.Rows

def MtM (X : Cx) (id : String) (r : V → List V → Hp → VK → Prop) : Prop :=
  ∀ (pins : List (Addr × Obj)) (s : Shared) (σ : St) (H : Hp) (x : V) (xs : List V) (v : Value) (us : List Value) (Q : VK), Inv X pins σ H s → RelV x v → Vals xs us → r x xs H Q →
    wpAny (model X.prog X.w) X.A (call (.builtin id) (v :: us)) (EP X pins σ Q) X.xe s

/-! ### lists of values -/
theorem Vals.one : ∀ {x : V} {us : List Value}, Vals [x] us → ∃ u, us = [u] ∧ RelV x u
  | _, _, .cons r .nil => ⟨_, rfl, r⟩
theorem Vals.two : ∀ {x y : V} {us : List Value}, Vals [x, y] us → ∃ u v, us = [u, v] ∧ RelV x u ∧ RelV y v
  | _, _, _, .cons r (.cons q .nil) => ⟨_, _, rfl, r, q⟩
theorem Vals.zero : ∀ {us : List Value}, Vals [] us → us = []
  | _, .nil => rfl
theorem Vals.reverse {xs : List V} {us : List Value} (h : Vals xs us) : Vals xs.reverse us.reverse := by
  induction h with
  | nil => exact .nil
  | cons r t ih => rw [List.reverse_cons, List.reverse_cons]; exact Vals.append ih (.cons r .nil)
section
variable {X : Cx} {pins : List (Addr × Obj)} {σ : St} {H : Hp} {s : Shared} {l b : Addr} {xs ys zs : List V}

/-! ### the two steps: a tracked list is rewritten, a new list is laid -/
theorem Inv.lset {its its' : List Value} {n : Nat} {f : Array Value → Array Value} {t' : Nat} (I : Inv X pins σ H s) (hH : H l = some (.lst xs))
    (e : s.heap.get? l = some { cls := .type "list", data := .seq its.toArray n }) (hf : f its.toArray = its'.toArray) (hv : Vals ys its') (hz : ys.length ≤ sizeLine) :
    Inv X pins σ (upd H l (.lst ys)) { s with heap := s.heap.update l (Obj.mapSeq f), toks := t' } := by
  have q := PySem.IsL.update e f
  rw [hf] at q
  refine I.write (x := l) (e := l) (by rw [hH]; exact trivial) (.inl rfl) (fun b' u hb hu => (Heap.get?_update_other s.heap (Obj.mapSeq f) (Ne.symm hb)).trans hu) ⟨_, q⟩ ?_
  exact ⟨hz, its', _, hv, q⟩
theorem Inv.lnew {its : List Value} {t' : Nat} (I : Inv X pins σ H s) (hv : Vals ys its) (hz : ys.length ≤ sizeLine) :
    Inv X pins σ (upd H s.heap.objs.size (.lst ys)) { s with heap := s.heap.push { cls := .type "list", data := .seq its.toArray }, toks := t' } :=
  I.laid (fun _ _ q => Heap.get?_push_of_some _ q) (Nat.le_refl _) ⟨hz, its, 0, hv, Heap.get?_push_size _ rfl⟩
theorem Inv.fresh (I : Inv X pins σ H s) : H s.heap.objs.size = none := I.hok.fresh (Nat.le_refl _)
theorem Inv.lstM (I : Inv X pins σ H s) (hH : H l = some (.lst xs)) : xs.length ≤ sizeLine ∧ ∃ (its : List Value) (n : Nat), Vals xs its ∧ xs.length = its.length ∧ s.heap.get? l = some { cls := .type "list", data := .seq its.toArray n } := by
  obtain ⟨z, its, n, r, e⟩ := I.hok l _ hH
  exact ⟨z, its, n, r, r.length, e⟩

end

section
variable {X : Cx}

/-! ### methods -/
def rAppend : V → List V → Hp → VK → Prop := fun x vs H Q => ∃ l xs y, x = .ref l ∧ vs = [y] ∧ H l = some (.lst xs) ∧ xs.length < sizeLine ∧ Q .non (upd H l (.lst (xs ++ [y])))
theorem mt_append : MtM X "list.append" rAppend := by
  intro pins s σ H x vs v us Q I rx rv h
  obtain ⟨l, xs, y, rfl, rfl, hH, hz, q⟩ := h
  cases rx
  obtain ⟨u, rfl, ru⟩ := rv.one
  obtain ⟨z, its, n, r, hl, e⟩ := I.lstM hH
  refine call_meets F.slot_list_append ⟨_, e, rfl⟩ F.entry_list_append (F.args_list_append_2 _ _) (PySem.list_append l its.toArray n u (by rw [List.size_toArray]; omega)) ⟨e, ?_⟩
  refine ⟨.non, _, I.lset (its' := its ++ [u]) hH e (by simp) (r.append (.cons ru .nil)) ?_, rfl, q⟩
  rw [List.length_append, List.length_singleton]
  omega

/-! ### list + list, list += list, list * int -/
def rCat : R2 := fun x y H Q => ∃ l b xs zs, x = .ref l ∧ y = .ref b ∧ H l = some (.lst xs) ∧ H b = some (.lst zs) ∧ xs.length + zs.length ≤ sizeLine ∧ ∀ p, H p = none → Q (.ref p) (upd H p (.lst (xs ++ zs)))
theorem op_cat : OpR X (binaryOp .Add) rCat := by
  intro pins s σ H x y v u Q I rx ry h
  obtain ⟨l, b, xs, zs, rfl, rfl, hH, hB, hz, q⟩ := h
  cases rx
  cases ry
  obtain ⟨z, its, n, r, hl, e⟩ := I.lstM hH
  obtain ⟨z2, its2, n2, r2, hl2, e2⟩ := I.lstM hB
  refine PySem.P.add_list e e2 ?_ (by rw [List.size_toArray, List.size_toArray]; omega)
  have ea : its.toArray ++ its2.toArray = (its ++ its2).toArray := by simp
  rw [ea]
  exact ⟨.ref _, _, I.lnew (t' := s.toks) (r.append r2) (by rw [List.length_append]; omega), rfl, q _ I.fresh⟩
/-! ### del xs[i] -/
end

/-! ### xs[a:b] = ys -/
section
variable {prog : Program} {w : World} {A : Around} {E : Value → Shared → Prop} {s : Shared}
end

section
variable {X : Cx}
end
end L2

namespace Att
open PySem PySem.W PySem.Calls PyProof.Rows

/-! ### the script -/
theorem ints_of_wellAll {P : Params} {h : Heap} : ∀ (ns : List Int) (vs : List Value), WellAll P h vs (ns.map WData.int) → IntsAre vs ns := by
  intro ns
  induction ns with
  | nil =>
    intro vs w
    rw [List.map_nil] at w
    cases w
    exact .nil
  | cons n ns ih =>
    intro vs w
    rw [List.map_cons] at w
    cases w with
    | cons a b =>
      cases a
      exact .cons _ _ (ih _ b)

theorem script_of {l : OpenLaw} {n : Nat} (hn : l.most = some n) {P : Params} {h : Heap} {args : List WData} {vals : List Value}
    (hpre : l.row.toRowW.claim.pre args = true) (hwl : WellAll P h vals args) :
    ∃ a vs ns, vals = [Value.ref a] ∧ args = [WData.list (ns.map WData.int)] ∧ h.get? a = some { cls := .type "list", data := .seq vs.toArray } ∧ IntsAre vs ns ∧ ns.length ≤ n := by
  have hsh : WShape.hasAll [] args [.list .int] = true := (pre_splitW hpre).1
  have hc : l.pre.holds [] { args := args } = true := (pre_splitW hpre).2
  obtain ⟨d, r, rfl, h1, h2⟩ := hasAllW_cons hsh
  obtain rfl := hasAllW_nil h2
  obtain ⟨xs, rfl, h3⟩ := hasW_list h1
  obtain ⟨ns, rfl⟩ := items_int h3
  have hlen : ns.length ≤ n := by
    unfold OpenLaw.pre at hc
    have h4 : (WTm.not (.lt (.lit (.int (n : Int))) (.len (.arg 0)))).holds [] { args := [.list (ns.map .int)] } = true := by
      have h4 := (holds_andW hc).1
      rw [hn] at h4
      exact h4
    have h5 := condW_of h4 (w_not (w_lt w_lit (w_len_list (w_arg rfl))))
    rw [List.length_map] at h5
    refine Nat.le_of_not_lt fun q => ?_
    have q' : (n : Int) < ((ns.length : Nat) : Int) := by omega
    first
      | (rw [decide_eq_true q'] at h5; exact absurd h5 (by decide))
      | (simp at h5; omega)
  cases hwl with
  | cons w1 w2 =>
    cases w2
    cases w1 with
    | list ho hall => exact ⟨_, _, ns, rfl, rfl, ho, ints_of_wellAll ns _ hall, hlen⟩

theorem post_true (l : OpenLaw) (args : List WData) : l.row.toRowW.claim.post args (.bool true) args = true :=
  postW_of (r := l.row.toRowW) (X := (true == true))
    (show WShape.has [] (.bool true) .bool = true by first | rfl | decide | simp [WShape.has, WShape.arms, WShape.armsAll])
    (show (WTm.eq .res (.lit (.bool true))).value [] { args := args, res := some (.bool true), after := args } = some (.bool (true == true)) from w_eq_bool (w_res rfl) w_lit) rfl

/-! ### the attachment: holds_open's last premise (the goal 'hc' behind k_head) from a wpAny of the law's body -/
/-- the same from a codeAny of the CALL (for a layer whose function contracts speak of calls) -/
theorem attach_call {l : OpenLaw} {n : Nat} {q : Program} {loose : List Str} {XP : (Str → Option Value) → Heap → Prop} {YP : World → Heap → Prop} {d : DefRec}
    (hn : l.most = some n) (hdf : d.params.defaults = [])
    (call : ∀ (w : World) (s₀ s₁ : Shared) (mg mb : Str → Option Value) (fa : Addr) (o : Obj) (pm cd doc : Value) (a : Addr) (vs : List Value) (ns : List Int),
      Ground q loose [] XP w s₀ mg mb s₁.heap → YP w s₁.heap →
      s₁.heap.get? fa = some o → o.data = .func (docDef d.name d.params d.body d.scope pm cd doc) → s₁.heap.CodeRec cd d.name → mg d.name = some (.ref fa) →
      s₁.heap.get? a = some { cls := .type "list", data := .seq vs.toArray } → IntsAre vs ns → ns.length ≤ n → s₁.gens = #[] →
      codeAny (model l.prog w) callerA (.call (.ref fa) ⟨[.ref a], []⟩) (fun r s' => r = .ok (.ret (.bool true)) ∧ OldK s₁.heap s'.heap ∧ s'.os = s₁.os ∧ AllBare s'.gens) s₁) :
    WalkO q loose XP YP l.row.toRowW d [] (fun f vs => PySem.call f vs) := by
  intro w s₀ s₁ mg mb G Y fa o pm cd doc dV kV ho hd hcd hD hmg hg args vals as hpre hlay hrd hwl hlo
  obtain rfl : dV = .none := Dflts.none hD hdf
  obtain rfl : kV = .none := Dflts.noKw hD
  obtain ⟨a, vs, ns, rfl, rfl, hobj, hints, hlen⟩ := script_of hn hpre hwl
  refine enter_call (codeAny_mono (call w s₀ s₁ mg mb fa o pm cd doc a vs ns G Y ho (fd_plain hd) hcd hmg hobj hints hlen hg) fun r s' hq => ?_)
  obtain ⟨rfl, h2, h3, h4⟩ := hq
  exact ⟨.inl ⟨.bool true, .bool true, [], rfl, fun _ => rfl, .bool true, post_true l _, fun _ => ⟨List.Pairwise.nil, fun _ hm => (nomatch hm)⟩⟩, h2, h3, h4⟩

/-! ### rules over ANY heap (no ledger) from facts about the written part K: the library's own take a ledger (News) for what they write -/
section
variable {prog : Program} {w : World} {A : Around} {E : Value → Shared → Prop} {s : Shared} {K : Frag}

/-! the whole heap as the ledger: makes every rule that writes through a ledger a rule over any heap -/
def ledger (h : Heap) (L d : Addr) : List (Addr × Obj) := (List.range h.objs.size).filterMap fun a => if a = L ∨ a = d then none else (h.get? a).map fun o => (a, o)
end
end Att

namespace L2
open PySem PySem.Spec PyProof.Rows

theorem vals_ints : ∀ {vs : List Value} {ns : List Int}, IntsAre vs ns → Vals (ns.map V.int) vs
  | _, _, .nil => .nil
  | _, _, .cons n t h => .cons ⟨t, rfl⟩ (vals_ints h)

/-- nothing is tracked but the script, known to the object (or it is an object of the module) -/
def Only (H : Hp) : Prop := ∀ b, H b = none ∨ ∃ o xs, H b = some (.frz o (.lst xs))

/-- THE HEAD: the law's promise, at the heap behind the top. F, the promise of the law's def, may use that base is part of the heap (so K.In base, base.Ns mainGlobals mg stand in Mod) -/
theorem law_call {P : Program} {w : World} {K : PySem.W.Frag} {mg mb : Str → Option Value} {CX : CXT} {k : Nat} {fa a : Addr} {fd : FuncData} {x : Str} {sp : Sp} {s₁ : Shared} {vs : List Value} {ns : List Int}
    (KX : K.In s₁.heap) (hns : s₁.heap.Ns mainGlobals mg) (hb : s₁.heap.Ns builtinsNs mb) (hbb : ∀ x : Str, x ≠ "__name__" → mb x = bootBuiltins x) (hlim : s₁.heap.NoLimit) (hg : s₁.gens = #[])
    (ha : s₁.heap.get? a = some { cls := .type "list", data := .seq vs.toArray }) (hi : IntsAre vs ns) (hl : ns.length ≤ sizeLine) (hr : Room k callerA)
    (F : ∀ base : Heap, K.In base → base.Ns mainGlobals mg → FnOk P w K mg base CX k fa fd [x] sp) (hbind : ∀ (s : Shared) (u : Value), BindsTo s fd ⟨[u], []⟩ [(x, u)])
    (hsp : ∀ H : Hp, Only H → SqL K H a (ns.map V.int) → sp [.ref a] H (fun v _ => v = .bl true) fun _ _ _ => False)
    (hCX : ∀ H e s', CX [] H s₁ (fun _ _ _ => False) e s' → False) :
    codeAny (model P w) callerA (.call (.ref fa) ⟨[.ref a], []⟩) (fun r s' => r = .ok (.ret (.bool true)) ∧ OldK s₁.heap s'.heap ∧ s'.os = s₁.os ∧ AllBare s'.gens) s₁ := by
  have rv := vals_ints hi
  have lenV := hi.length
  -- from an abstract heap in which nothing but the script may be tracked
  have core : ∀ H : Hp, Only H → SqL K H a (ns.map V.int) → HOk P w H s₁.heap → (∀ b, H b ≠ none → b = a) → (H a ≠ none → K.lookup a = none) →
      codeAny (model P w) callerA (.call (.ref fa) ⟨[.ref a], []⟩) (fun r s' => r = .ok (.ret (.bool true)) ∧ OldK s₁.heap s'.heap ∧ s'.os = s₁.os ∧ AllBare s'.gens) s₁ := by
    intro H hO hS hok hA hK
    have base_of : ∀ {b : Addr} {o : Obj}, s₁.heap.get? b = some o → H b = none → (hidT s₁.heap H).get? b = some o := fun e n => hidT_get e n
    have noA : ∀ {b : Addr} {o : Obj} {es : Array DictEntry} {ep : Nat}, s₁.heap.get? b = some o → o.data = .dict es ep → H b = none := fun {b o es ep} e d => by
      cases q : H b with
      | none => rfl
      | some u =>
        have e' : b = a := hA b (by rw [q]; simp)
        subst e'
        rw [ha] at e; cases e
        have d' : Data.seq vs.toArray _ = Data.dict es ep := d
        cases d'
    have nsK : ∀ {b : Addr} {m : Str → Option Value}, s₁.heap.Ns b m → (hidT s₁.heap H).Ns b m := fun {b m} ⟨o, es, ep, e, d, r⟩ => ⟨o, es, ep, base_of e (noA e d), d, r⟩
    have hKb : K.In (hidT s₁.heap H) := fun b o e => base_of (KX b o e) (by
      cases q : H b with
      | none => rfl
      | some u =>
        have e' : b = a := hA b (by rw [q]; simp)
        subst e'
        rw [hK (by rw [q]; simp)] at e; cases e)
    have hM : Mod K mg (hidT s₁.heap H) := ⟨hKb, nsK hns, ⟨mb, nsK hb, hbb⟩, let ⟨mc, h1, h2⟩ := hlim; ⟨mc, nsK h1, h2⟩⟩
    have e0 : Env0 P w K mg (hidT s₁.heap H) callerA [] s₁ H := ⟨rfl, hM, fun b o e => of_hidT e, Nat.le_of_eq (hidT_size _ _), trivial, fun b hb => absurd (show b ∈ ([] : List Addr) from hb) (by simp), hok, .of_eq hg⟩
    refine codeAny_mono ((F _ hKb (nsK hns)).run callerA [] s₁ H ⟨[.ref a], []⟩ [.ref a] [.ref a] _ _ hr e0 (hbind s₁ (.ref a)) (.cons rfl .nil) (hsp H hO hS)) fun r s' h => ?_
    cases r with
    | error e => exact (hCX H e s' h).elim
    | ok fl =>
      cases fl with
      | next => exact False.elim h
      | brk => exact False.elim h
      | cont => exact False.elim h
      | ret u =>
        obtain ⟨v, H', os, bare, un, hok', r', q⟩ := h
        have q' : v = .bl true := q
        subst q'
        obtain rfl : u = Value.bool true := r'
        refine ⟨rfl, OldK.of_keep fun b o e => ?_, os, bare⟩
        cases q : H b with
        | none => exact un.keep b o e q (by intro z; exact absurd (show b ∈ ([] : List Addr) from z) (by simp)) (by simp)
        | some u =>
          rcases hO b with z | ⟨ob, xs, z⟩
          · rw [q] at z; cases z
          · have z2 := un.frzs b ob _ z
            obtain ⟨e1, _⟩ := hok b _ z
            obtain ⟨e2, _⟩ := hok' b _ z2
            rw [e] at e1; cases e1
            exact e2
  cases hk : K.lookup a with
  | some o =>
    -- the script is one of the module's own objects
    have e := KX a o hk
    rw [ha] at e
    cases e
    refine core (fun _ => none) (fun _ => .inl rfl) (.inr ⟨_, vs.toArray, _, hk, rfl, rfl, rfl, by rw [List.size_toArray, lenV]; exact hl, by simpa using rv⟩) (fun b u z => by have z' : (none : Option HO) = some u := z; cases z') (fun b z => absurd rfl z) fun z => absurd rfl z
  | none =>
    refine core (fun b => if b = a then some (.frz { cls := .type "list", data := .seq vs.toArray } (.lst (ns.map V.int))) else none) (fun b => ?_) (.inl (.inr ⟨{ cls := .type "list", data := .seq vs.toArray }, if_pos rfl⟩)) (fun b u z => ?_) (fun b z => ?_) fun _ => hk
    · by_cases hb : b = a
      · exact .inr ⟨_, _, if_pos hb⟩
      · exact .inl (if_neg hb)
    · by_cases hb : b = a
      · have z' := (if_pos hb).symm.trans z
        cases z'
        subst hb
        exact ⟨ha, by rw [List.length_map]; exact hl, vs, _, rv, ha⟩
      · have z' := (if_neg hb).symm.trans z
        cases z'
    · by_cases hb : b = a
      · exact hb
      · exact absurd (if_neg hb) z
end L2

namespace L2
open PySem PySem.Spec PyProof.Rows

abbrev KOf {K : PySem.W.Frag} {h : Heap} (_ : K.In h) : PySem.W.Frag := K

/-- the goal that k_head leaves (case hc), from the law's promise. F gives the function object fd (K's own) once, then the promise over every base -/
theorem walk_of {l : PySem.W.OpenLaw} {n k : Nat} {q : Program} {loose : List Str} {XP : (Str → Option Value) → Heap → Prop} {YP : World → Heap → Prop} {d : DefRec} {K : Params → PySem.W.Frag} {CX : World → CXT} {sp : World → Sp} {x : Str}
    (hn : l.most = some n) (hn2 : n ≤ sizeLine) (hdf : d.params.defaults = []) (hr : Room k callerA)
    (hY : ∀ (w : World) (h : Heap), YP w h → (K w.params).In h)
    (F : ∀ (w : World) (mg : Str → Option Value) (fa : Addr) (h : Heap), (K w.params).In h → h.Ns mainGlobals mg → mg d.name = some (.ref fa) →
      ∃ fd : FuncData, (∀ (s : Shared) (u : Value), BindsTo s fd ⟨[u], []⟩ [(x, u)]) ∧
        ∀ base : Heap, (K w.params).In base → base.Ns mainGlobals mg → FnOk l.prog w (K w.params) mg base (CX w) k fa fd [x] (sp w))
    (hsp : ∀ (w : World) (H : Hp) (a : Addr) (ns : List Int), ns.length ≤ n → Only H → SqL (K w.params) H a (ns.map V.int) → sp w [.ref a] H (fun v _ => v = .bl true) fun _ _ _ => False)
    (hCX : ∀ (w : World) (H : Hp) (s : Shared) (e : Value) (s' : Shared), CX w [] H s (fun _ _ _ => False) e s' → False) :
    PySem.W.WalkO q loose XP YP l.row.toRowW d [] (fun f vs => PySem.call f vs) := by
  refine Att.attach_call hn hdf fun w s₀ s₁ mg mb fa o pm cd doc a vs ns G Y ho hd hcd hmg hobj hints hlen hg => ?_
  have KX := hY w _ Y
  obtain ⟨fd, hb, hF⟩ := F w mg fa _ KX G.T.g hmg
  exact law_call KX G.T.g G.T.b G.T.builtins G.T.nolimit hg hobj hints (Nat.le_trans hlen hn2) hr hF hb (fun H hO hS => hsp w H a ns hlen hO hS) fun H e s' => hCX w H s₁ e s'
end L2

/- THE LAST THEOREM (shape; LID, My.* are yours):
   My.Adr: a structure of the addresses that your layer names (classes, functions); My.Txt K t: a structure (Prop) of the equations over K;
   My.txt_mk : {K} {implicit addresses ..} (e1 : nsIn K mainGlobals "law" = some (some (.ref f))) (e2 : K.lookup f = some ⟨oc, od, .func (fnOf "law" "law" params body scope dV kV doc pm an cdv ct), sl⟩) (e3 : codeIn K cdv "law" = true) .. : ∃ t, My.Txt K t

set_option maxRecDepth 100000 in
set_option maxHeartbeats 0 in
theorem PySem.Challenge.cw_LID_holds : PySem.Challenge.rw_LID.Holds := by
  w_on; o_law; k_head; (case hw => w_witness2)
  k_fill
  refine L2.walk_of (l := PySem.Challenge.rw_LID) (n := 63) (k := 40) (x := "script") (CX := fun w => ..) (sp := fun _ => My.sp_law) rfl (by decide) rfl ⟨rfl, by decide, by decide⟩ (fun w h Y => PySem.W.kIn_of Y) ?F ?S ?C
  case F =>
    intro w mg fa h KX G hmg
    have T : ∃ t, My.Txt (L2.KOf KX) t := by
      dsimp only [L2.KOf]                          -- K must stand as «<heap const> w.params» for k_is
      refine' My.txt_mk ?e1 ?e2 ?e3 ..
      (case e1 => PySem.W.k_is)                    -- in the order: a name -> its address -> its object -> its parts
      (case e2 => PySem.W.k_is)
      ..
    obtain ⟨t, T⟩ := T
    have e0 := hmg.symm.trans (PySem.W.mg_of KX G T.law)
    cases e0                                       -- fa is the law's own address
    exact ⟨_, fun s u => .of_eq rfl, fun base kb nb => My.law_fn T kb nb⟩     -- if «.of_eq rfl» comes too early: refine' ⟨_, ?b, fun base kb nb => My.law_fn T kb nb⟩; exact fun s u => .of_eq rfl
  case S => exact fun w H a ns hl hO hS => ..
  case C => exact ..
(the tactic k_is has no namespace: write k_is) -/

/-! SHORT WORDS over the layer: a def of the text, its body, what a loop and a test want. -/
namespace L2
open PySem PySem.Spec PyProof.Rows

/-! ### the text by places -/
def defArgs (s : Stmt) : Arguments := match s with
  | .FunctionDef _ a _ _ _ _ _ _ _ _ => a
  | _ => { posonlyargs := [], args := [], vararg := none, kwonlyargs := [], kw_defaults := [], kwarg := none, defaults := [] }
def defBody (s : Stmt) : List Stmt := match s with
  | .FunctionDef _ _ b _ _ _ _ _ _ _ => b
  | _ => []
def defScope (s : Stmt) : Scope := match s with
  | .FunctionDef _ _ _ _ _ _ sc _ _ _ => sc
  | _ => { kind := .function, names := [], isGenerator := false, isCoroutine := false }

/-! ### no exception leaves a def -/
abbrev CX0 : CXT := fun _ _ _ _ _ _ => False
abbrev E0 : XK := fun _ _ _ => False
theorem pass0 {X : Cx} : Passes CX0 X E0 := fun _ _ _ _ _ _ _ h => h.elim

/-! ### a def (or method) of the text as it stands behind the top -/
structure Fun (K : PySem.W.Frag) (x qual : Str) (st : Stmt) (f : Addr) (fd : FuncData) : Prop where
  ex : ∃ (oc : Value) (od : Option Addr) (kV doc pm : Value) (an : Option Addr) (cdv ct : Value) (osl : Array (Option Value)),
    fd = PySem.W.fnOf x qual (defArgs st) (defBody st) (defScope st) .none kV doc pm an cdv ct ∧ K.lookup f = some ⟨oc, od, .func fd, osl⟩ ∧ PySem.W.codeIn K cdv qual = true
  kp : PySem.W.keepIn K (.ref f) = true
section
variable {P : Program} {w : World} {K : PySem.W.Frag} {mg : Str → Option Value} {base : Heap}
/-- THE RULE for a def: its body as a term of rules, and the reading of that term -/
theorem Fun.ok {x qual : Str} {st : Stmt} {f : Addr} {fd : FuncData} {N ps : List Str} {k : Nat} {sp : Sp} (F : Fun K x qual st f fd) (S : FnScope N ps (defScope st)) (len : ∀ vs H Q E, sp vs H Q E → vs.length = ps.length)
    (hbody : ∀ (cdv : Value) (A : Around) (outer : List Env) (s : Shared) (H : Hp) (vs : List V) (Q : VK) (E : XK), Room k (A.deeper (envOfC qual (defScope st) s.heap.objs.size f cdv)) → sp vs H Q E →
      ∃ t, PSs (cxOf CX0 P w K mg base N qual (defScope st) f cdv A outer s H E).nox (defBody st) t ∧ t { nx := fun _ H' => Q .non H', rt := Q } (start N vs) H) : FnOk P w K mg base CX0 (k + 1) f fd ps sp := by
  obtain ⟨oc, od, kV, doc, pm, an, cdv, ct, osl, rfl, lk, hcd⟩ := F.ex
  refine fn_of lk hcd S len fun A outer s H vs Q E hr hsp => ?_
  obtain ⟨t, h, q⟩ := hbody cdv A outer s H vs Q E hr hsp
  exact ⟨t, h.nox, q⟩
/-- how its arguments bind (no defaults): h is «fun _ _ _ _ _ _ us hl => match us, hl with | [_, _], _ => rfl», one _ a parameter -/
theorem Fun.binds {x qual : Str} {st : Stmt} {f : Addr} {fd : FuncData} {ps : List Str} (F : Fun K x qual st f fd)
    (h : ∀ (kV doc pm : Value) (an : Option Addr) (cdv ct : Value) (us : List Value), us.length = ps.length → bindArgs (PySem.W.fnOf x qual (defArgs st) (defBody st) (defScope st) .none kV doc pm an cdv ct) ⟨us, []⟩ = pure (ps.zip us)) : Binds K fd ps [] := by
  obtain ⟨oc, od, kV, doc, pm, an, cdv, ct, osl, rfl, lk, hcd⟩ := F.ex
  exact .all (h kV doc pm an cdv ct)
theorem fun_mk {x qual : Str} {st : Stmt} {f : Addr} {oc : Value} {od an : Option Addr} {osl : Array (Option Value)} {kV doc pm cdv ct : Value} (l : K.lookup f = some ⟨oc, od, .func (PySem.W.fnOf x qual (defArgs st) (defBody st) (defScope st) .none kV doc pm an cdv ct), osl⟩)
    (c : PySem.W.codeIn K cdv qual = true) (k : PySem.W.keepIn K (.ref f) = true) : Fun K x qual st f (PySem.W.fnOf x qual (defArgs st) (defBody st) (defScope st) .none kV doc pm an cdv ct) := ⟨⟨oc, od, kV, doc, pm, an, cdv, ct, osl, rfl, l, c⟩, k⟩
end
/-! ### expressions in short: the name that stands in the i-th slot -/
section
variable {X : Cx}
theorem pv (i : Nat) {x : Str} {pos : Pos} (hN : X.N[i]? = some x := by rfl) (hv : Vis X.env.scope x := by first | exact Or.inl rfl | exact Or.inr (Or.inl rfl) | exact Or.inr (Or.inr rfl)) (hd : (x == ("__debug__" : Str)) = false := by decide)
    (hcd : (x == ("__classdict__" : Str)) = false := by decide) : PE X (.Name x pos) (tVar i) := pe_var hN hv hd hcd
end

/-! ### tests -/
theorem iteF {A B : Prop} (h : B) : if false = true then A else B := by
  rw [if_neg Bool.false_ne_true]
  exact h
theorem iteT {A B : Prop} (h : A) : if true = true then A else B := by
  rw [if_pos rfl]
  exact h
theorem ite2 {c A B : Prop} [Decidable c] (h1 : c → A) (h2 : ¬ c → B) : if c then A else B := by
  by_cases h : c
  · rw [if_pos h]
    exact h1 h
  · rw [if_neg h]
    exact h2 h
/-! ### heaps -/
/-- all that was tracked is as it was -/
def Same (H H' : Hp) : Prop := ∀ b o, H b = some o → H' b = some o
theorem Same.refl (H : Hp) : Same H H := fun _ _ h => h
theorem Same.trans {H H1 H2 : Hp} (a : Same H H1) (b : Same H1 H2) : Same H H2 := fun c o h => b c o (a c o h)
theorem Same.free {H H' : Hp} (e : Same H H') {l : Addr} (h : H' l = Option.none) : H l = Option.none := by
  cases q : H l with
  | none => rfl
  | some o =>
    rw [e l o q] at h
    cases h
theorem Same.seq {K : PySem.W.Frag} {H H' : Hp} {a : Addr} {xs : List V} (e : Same H H') (h : SqL K H a xs) : SqL K H' a xs := by
  rcases h with (h | ⟨o, h⟩) | h
  · exact .inl (.inl (e _ _ h))
  · exact .inl (.inr ⟨o, e _ _ h⟩)
  · exact .inr h

end L2

set_option Elab.async false
set_option linter.all false
set_option maxRecDepth 100000
/-! The layer, grown: comprehensions, pairs, more iterators, more calls. -/
namespace L2
open PySem PySem.Spec PyProof.Rows

/-! ### untracked records turn; an object that stands there is tracked from now on -/
section
variable {X : Cx} {pins : List (Addr × Obj)} {σ : St} {H H' : Hp} {s : Shared} {h' : Heap}
theorem Inv.turnedL {t' : Nat} {ch : List Addr} (I : Inv X pins σ H s) (k : ∀ b o, b ∉ ch → s.heap.get? b = some o → h'.get? b = some o) (hf : ∀ b ∈ ch, FpOk X pins H b) :
    Inv X pins σ H { s with heap := h', toks := t' } := by
  have nch : ∀ b u, H b = some u → b ∉ ch := fun b u e z => by
    have q := (hf b z).1
    rw [q] at e
    cases e
  refine I.step (g' := s.gens) (d' := s.drawn) (ch := ch) (fun b hb => ?_) (fun b o _ _ hc e _ => k b o hc e) (fun b o _ _ hc e _ => ⟨o.slots, k b o hc e⟩) (fun _ _ _ _ n => n)
    (fun b o hc e => ⟨o, k b o hc e⟩) (fun _ _ e => e) (fun _ _ _ e => e) (fun b ps e => ⟨#[], by rw [e]; simp⟩) (fun m hm => ?_) (fun b u e => ?_) I.bare
  · obtain ⟨_, f1, _, f3, f4, f5⟩ := hf b hb
    exact ⟨f3, f1, f4, f5⟩
  · obtain ⟨o, es, ep, ho, r⟩ := hm
    exact ⟨o, es, ep, k _ o (fun z => (hf _ z).2.1 rfl) ho, r⟩
  · refine (I.hok b u e).stay (fun c v hc q => k c v ?_ q) (fun _ q => q) fun _ _ q => q
    rcases hc with z | z
    · rw [z]
      exact nch b u e
    · exact nch c _ z
theorem Inv.track {a : Addr} {o : HO} (I : Inv X pins σ H s) (f : FpOk X pins H a) (new : ObjOk X.prog X.w (upd H a o) s.heap a o) : Inv X pins σ (upd H a o) s := by
  have hn := f.1
  obtain ⟨hh, g, d, t, os⟩ := s
  refine I.step (h' := hh) (g' := g) (d' := d) (t' := t) (ch := [a]) (fun b hb => ?_) (fun b ob _ _ _ e _ => e) (fun b ob _ _ _ e _ => ⟨ob.slots, e⟩) (fun b ob hc e n => ?_)
    (fun b ob _ e => ⟨ob, e⟩) (fun b xs e => ?_) (fun b ob u e => ?_) (fun b ps e => ⟨#[], ?_⟩) (fun m hm => hm) (fun b u e => ?_) I.bare
  · obtain rfl : b = a := by simpa using hb
    obtain ⟨_, f1, _, f3, f4, f5⟩ := f
    exact ⟨f3, f1, f4, f5⟩
  · rw [upd_ne (fun z => hc (by simp [z]))]
    exact n
  · rw [upd_ne (ne_of_none e hn)]
    exact e
  · rw [upd_ne (ne_of_none e hn)]
    exact e
  · rw [upd_ne (ne_of_none e hn), e]
    simp
  · by_cases hb : b = a
    · subst hb
      rw [upd_same] at e
      cases e
      exact new
    · rw [upd_ne hb] at e
      exact (I.hok b u e).stay (fun c v _ q => q) (fun c q => by rw [upd_ne (ne_of_none q hn)]; exact q) fun c xs q => by rw [upd_ne (ne_of_none q hn)]; exact q
end

/-! ### captured names -/
def isCap : Option NameKind → Bool
  | some .cell => true
  | some .free => true
  | _ => false
def capB (N : List Str) (osc rsc : Scope) (js : List Nat) : Bool := js.all fun j => match N[j]? with
  | some x => isCap (osc.names.lookup x) && isCap (rsc.names.lookup x)
  | none => false
def selN (own : List Str) (js : List Nat) (N : List Str) : List Str := own ++ js.filterMap fun j => N[j]?
def selS (k : Nat) (js : List Nat) (σ : St) : St := List.replicate k none ++ js.map fun j => (σ[j]?).join
theorem isCap_or {o : Option NameKind} (h : isCap o = true) : o = some .cell ∨ o = some .free := by
  cases o with
  | none => exact absurd h Bool.false_ne_true
  | some k => cases k <;> first | exact .inl rfl | exact .inr rfl | exact absurd h Bool.false_ne_true
theorem capB_cons {N : List Str} {osc rsc : Scope} {j : Nat} {js : List Nat} (h : capB N osc rsc (j :: js) = true) :
    (∃ x, N[j]? = some x ∧ isCap (osc.names.lookup x) = true ∧ isCap (rsc.names.lookup x) = true) ∧ capB N osc rsc js = true := by
  unfold capB at h
  rw [List.all_cons, Bool.and_eq_true] at h
  refine ⟨?_, h.2⟩
  have h1 := h.1
  cases e : N[j]? with
  | none => rw [e] at h1; exact absurd h1 Bool.false_ne_true
  | some x =>
    rw [e] at h1
    have h2 := (Bool.and_eq_true _ _).mp h1
    exact ⟨x, rfl, h2.1, h2.2⟩
theorem capB_len {N : List Str} {osc rsc : Scope} : ∀ {js : List Nat}, capB N osc rsc js = true → (js.filterMap fun j => N[j]?).length = js.length
  | [], _ => rfl
  | j :: js, h => by
    obtain ⟨⟨x, e, _⟩, h2⟩ := capB_cons h
    rw [List.filterMap_cons, e]
    show (js.filterMap fun j => N[j]?).length + 1 = js.length + 1
    rw [capB_len h2]
theorem capB_at {N : List Str} {osc rsc : Scope} : ∀ {js : List Nat} {i : Nat} {x : Str}, capB N osc rsc js = true → (js.filterMap fun j => N[j]?)[i]? = some x →
    ∃ j, js[i]? = some j ∧ N[j]? = some x ∧ isCap (osc.names.lookup x) = true ∧ isCap (rsc.names.lookup x) = true
  | [], _, _, _, h => by simp at h
  | j :: js, i, x, h, hi => by
    obtain ⟨⟨y, e, c1, c2⟩, h2⟩ := capB_cons h
    rw [List.filterMap_cons, e] at hi
    cases i with
    | zero =>
      have z : y = x := by simpa using hi
      subst z
      exact ⟨j, rfl, e, c1, c2⟩
    | succ i =>
      have hi' : (js.filterMap fun j => N[j]?)[i]? = some x := by simpa using hi
      obtain ⟨j', e1, e2⟩ := capB_at (i := i) h2 hi'
      exact ⟨j', by simpa using e1, e2⟩
theorem selS_own {k : Nat} {js : List Nat} {σ : St} {i : Nat} (h : i < k) : (selS k js σ)[i]? = some none := by
  unfold selS
  rw [List.getElem?_append_left (by simpa using h), List.getElem?_replicate, if_pos h]
theorem selS_cap {k : Nat} {js : List Nat} {σ : St} {i : Nat} {v : V} (h : (selS k js σ)[i]? = some (some v)) : ∃ j, k ≤ i ∧ js[i - k]? = some j ∧ σ[j]? = some (some v) := by
  by_cases hi : i < k
  · rw [selS_own hi] at h
    cases h
  · unfold selS at h
    rw [List.getElem?_append_right (by simpa using hi), List.length_replicate, List.getElem?_map] at h
    cases e : js[i - k]? with
    | none => rw [e] at h; cases h
    | some j =>
      rw [e] at h
      refine ⟨j, by omega, rfl, ?_⟩
      have h2 : (σ[j]?).join = some v := by simpa using h
      cases e2 : σ[j]? with
      | none => rw [e2] at h2; cases h2
      | some o =>
        rw [e2] at h2
        have h3 : o = some v := by simpa using h2
        rw [h3]
theorem selS_len {k : Nat} {js : List Nat} {σ : St} : (selS k js σ).length = k + js.length := by
  unfold selS
  rw [List.length_append, List.length_replicate, List.length_map]

/-- the cells that a comprehension's block takes along -/
theorem closure_go (env : Env) : ∀ (names : List (Str × NameKind)) (cs : List (Str × Addr)), (∀ x, (x, NameKind.free) ∈ names → ∃ c, env.cells.lookup x = some c) →
    (∀ x c, cs.lookup x = some c → env.cells.lookup x = some c) →
    ∃ cl, (forIn names cs (fun (p : Str × NameKind) (r : List (Str × Addr)) => match p with
      | (name, kind) => if (kind == NameKind.free) = true then (do let a ← cellOf env name; pure (ForInStep.yield ((name, a) :: r))) else pure (ForInStep.yield r)) : Sem (List (Str × Addr))) = pure cl ∧
      (∀ x c, cl.lookup x = some c → env.cells.lookup x = some c) ∧ (∀ x, (x, NameKind.free) ∈ names → ∃ c, cl.lookup x = some c) ∧ ∀ x, (∃ c, cs.lookup x = some c) → ∃ c, cl.lookup x = some c
  | [], cs, _, hc => ⟨cs, by simp only [List.forIn_nil], hc, (fun _ h => (nomatch h)), fun _ h => h⟩
  | (n, k) :: r, cs, h, hc => by
    by_cases hk : k = NameKind.free
    · subst hk
      obtain ⟨c, e⟩ := h n List.mem_cons_self
      have hc' : ∀ x d, ((n, c) :: cs).lookup x = some d → env.cells.lookup x = some d := fun x d q => by
        rw [List.lookup_cons] at q
        cases z : x == n with
        | true =>
          rw [z] at q
          have q' : c = d := by simpa using q
          have zx : x = n := by simpa using z
          rw [zx, e, q']
        | false =>
          rw [z] at q
          exact hc x d (by simpa using q)
      obtain ⟨cl, h1, h2, h3, h4⟩ := closure_go env r ((n, c) :: cs) (fun x hx => h x (List.mem_cons_of_mem _ hx)) hc'
      have head : ∃ d, ((n, c) :: cs).lookup n = some d := ⟨c, by simp [List.lookup_cons]⟩
      refine ⟨cl, ?_, h2, fun x hx => ?_, fun x ⟨d, hd⟩ => h4 x ?_⟩
      · rw [List.forIn_cons]
        have ec : cellOf env n = pure c := by unfold cellOf; rw [e]
        simp only [beq_self_eq_true, if_true, ec, pure_bind]
        exact h1
      · rcases List.mem_cons.mp hx with z | z
        · obtain ⟨rfl, _⟩ := Prod.mk.inj z
          exact h4 _ head
        · exact h3 x z
      · rw [List.lookup_cons]
        cases z : x == n with
        | true => exact ⟨c, rfl⟩
        | false => exact ⟨d, hd⟩
    · have hb : (k == NameKind.free) = false := by simpa using hk
      obtain ⟨cl, h1, h2, h3, h4⟩ := closure_go env r cs (fun x hx => h x (List.mem_cons_of_mem _ hx)) hc
      refine ⟨cl, ?_, h2, fun x hx => ?_, h4⟩
      · rw [List.forIn_cons]
        simp only [hb, Bool.false_eq_true, if_false, pure_bind]
        exact h1
      · rcases List.mem_cons.mp hx with z | z
        · exact absurd (Prod.mk.inj z).2.symm hk
        · exact h3 x z
theorem closure_of {env : Env} {scope : Scope} (h : ∀ x, (x, NameKind.free) ∈ scope.names → ∃ c, env.cells.lookup x = some c) :
    ∃ cl, closureFor scope env = pure cl ∧ (∀ x c, cl.lookup x = some c → env.cells.lookup x = some c) ∧ ∀ x, (x, NameKind.free) ∈ scope.names → ∃ c, cl.lookup x = some c := by
  obtain ⟨cl, h1, h2, h3, _⟩ := closure_go env scope.names [] h (fun x c q => by simp at q)
  refine ⟨cl, ?_, h2, h3⟩
  unfold closureFor
  first
    | exact h1
    | (simp only [bind_pure]; exact h1)
    | (simp only [bind_pure_comp, map_pure, id_map']; exact h1)
    | (rw [← h1]; rfl)
end L2

set_option Elab.async false
set_option linter.all false
set_option maxRecDepth 100000
namespace L2
open PySem PySem.Spec PyProof.Rows

/-! ### the block of a comprehension as a context -/
abbrev cxC (X : Cx) (own : List Str) (js : List Nat) (scope : Scope) (cl : List (Str × Addr)) (C : Addr) (s₂ : Shared) (H₂ : Hp) (fp : List Addr) : Cx :=
  { X with N := selN own js X.N, s₀ := s₂, H₀ := H₂, env := compEnvC scope cl C X.env, outer := X.stack, stack := X.stack, ex := fp, fn := fun _ => false, pn := [], xe := fun _ _ => False }

theorem relabel_lookup {env : Env} {x : Str} {scope : Scope} (hc : ∀ y ∈ scope.names, y.2 ≠ .cell) (h : (relabel scope env).names.lookup x = some .cell ∨ (relabel scope env).names.lookup x = some .free) : (x, NameKind.free) ∈ scope.names := by
  have key : ∀ k, (relabel scope env).names.lookup x = some k → k = .cell ∨ k = .free → (x, NameKind.free) ∈ scope.names := fun k e hk => by
    have hm : (x, k) ∈ scope.names.map fun (n, k) => if (k == .free && env.scope.kind == .function && env.kindOf n == some .cell) then (n, .cell) else (n, k) := PySem.mem_of_lookup e
    obtain ⟨⟨n, k'⟩, hp, hq⟩ := List.mem_map.mp hm
    by_cases hz : (k' == NameKind.free && env.scope.kind == .function && env.kindOf n == some .cell) = true
    · have hkf : k' = .free := by
        have := (Bool.and_eq_true _ _).mp ((Bool.and_eq_true _ _).mp hz).1
        simpa using this.1
      have q : (n, NameKind.cell) = (x, k) := by
        have hq' : (if (k' == NameKind.free && env.scope.kind == .function && env.kindOf n == some .cell) = true then (n, NameKind.cell) else (n, k')) = (x, k) := hq
        rw [if_pos hz] at hq'
        exact hq'
      obtain ⟨rfl, _⟩ := Prod.mk.inj q
      rw [hkf] at hp
      exact hp
    · have q : (n, k') = (x, k) := by
        have hq' : (if (k' == NameKind.free && env.scope.kind == .function && env.kindOf n == some .cell) = true then (n, NameKind.cell) else (n, k')) = (x, k) := hq
        rw [if_neg hz] at hq'
        exact hq'
      obtain ⟨rfl, rfl⟩ := Prod.mk.inj q
      rcases hk with rfl | rfl
      · exact absurd rfl (hc _ hp)
      · exact hp
  rcases h with h | h
  · exact key _ h (.inl rfl)
  · exact key _ h (.inr rfl)

section
variable {X : Cx} {pins : List (Addr × Obj)} {σ : St} {H : Hp} {s2 s5 : Shared} {own : List Str} {js : List Nat} {scope : Scope} {cl : List (Str × Addr)} {C D : Addr} {fp : List Addr} {oD : Obj}
theorem inv_comp (I : Inv X pins σ H s2) (hcap : capB X.N X.env.scope (relabel scope X.env) js = true) (hkind : scope.kind = .function)
    (hclL : ∀ x c, cl.lookup x = some c → X.env.cells.lookup x = some c)
    (hclR : ∀ x, ((relabel scope X.env).names.lookup x = some .cell ∨ (relabel scope X.env).names.lookup x = some .free) → ∃ c, cl.lookup x = some c)
    (hfp : ∀ b ∈ fp, FpOk X pins H b) (hfo : ∀ b ∈ fp, ∃ o, s2.heap.get? b = some o) (hC : s2.heap.objs.size ≤ C) (hk : ∀ b o, s2.heap.get? b = some o → s5.heap.get? b = some o)
    (hns : ∃ m, s5.heap.Ns C m) (hos : s5.os = s2.os) (hg : s5.gens = s2.gens) (hD : s5.heap.get? D = some oD) (hDs : s2.heap.objs.size ≤ D) (hDC : D ≠ C) (hDd : ∀ v, oD.data ≠ .cell v) :
    Inv (cxC X own js scope cl C s2 H fp) [(D, oD)] (selS own.length js σ) H s5 := by
  have lt2 : ∀ {b : Addr} {o : Obj}, s2.heap.get? b = some o → b < s2.heap.objs.size := fun e => Heap.lt_size e
  have hfs : ∀ b ∈ fp, b ∉ frs X.stack := fun b hb z => by
    obtain ⟨_, f1, f2, _⟩ := hfp b hb
    rcases List.mem_cons.mp (I.stkSub b z) with q | q
    · exact f1 q
    · exact f2 q
  have ok : (cxC X own js scope cl C s2 H fp).Ok := by
    refine ⟨I.ok.mod, hkind, I.ok.glob, I.ok.blt, hC, fun x y c h1 h2 => I.ok.inj x y c (hclL x c h1) (hclL y c h2), fun x hx => hclR x hx, fun x c hf _ => absurd (show false = true from hf) Bool.false_ne_true, I.ok.hd, I.ok.frames, .inl rfl,
      fun b hb => ⟨?_, fun x c e => ?_⟩, I.bs, Nat.le_trans I.ok.bsz I.sz, fun b o e hb => ?_, hfs, I.stack, I.stkFree⟩
    · obtain ⟨o, e⟩ := hfo b hb
      exact Nat.ne_of_lt (Nat.lt_of_lt_of_le (lt2 e) hC)
    · exact (hfp b hb).2.2.2.2.1 x c (hclL x c e)
    · rcases (hfp b hb).2.2.2.1 with q | q
      · exact I.ok.noex b o e q
      · exact absurd (Nat.lt_of_lt_of_le (Heap.lt_size e) (Nat.le_trans I.ok.bsz q)) (Nat.lt_irrefl _)
  have hlen : (js.filterMap fun j => X.N[j]?).length = js.length := capB_len hcap
  refine ⟨ok, hos, by rw [hg]; exact I.bare, Un.kept hk, ?_, fun x c e => ?_, I.hok.fresh hC, fun x c e => I.freeC x c (hclL x c e), fun p hp => ?_, I.hok.kept hk, ?_⟩
  · obtain ⟨m, hm⟩ := hns
    refine ⟨m, hm, fun i x v h1 h2 h3 => ?_⟩
    obtain ⟨j, hik, hj, hv⟩ := selS_cap h2
    have h1' : (js.filterMap fun j => X.N[j]?)[i - own.length]? = some x := by
      have q : (own ++ js.filterMap fun j => X.N[j]?)[i]? = some x := h1
      rw [List.getElem?_append_right hik] at q
      exact q
    obtain ⟨j', e1, e2, c1, c2⟩ := capB_at hcap h1'
    rw [hj] at e1
    cases e1
    obtain ⟨m0, hm0, hl⟩ := I.loc
    have vis : Vis X.env.scope x := by
      rcases isCap_or c1 with q | q
      · exact .inr (.inl q)
      · exact .inr (.inr q)
    obtain ⟨u, ru, l⟩ := hl j x v e2 hv vis
    refine ⟨u, ru, ?_⟩
    rcases l with ⟨hloc, _⟩ | ⟨_, c, hc, hcell⟩
    · have q : X.env.scope.names.lookup x = some .local := hloc
      rw [q] at c1
      exact absurd c1 Bool.false_ne_true
    · have kd : (relabel scope X.env).names.lookup x = some .cell ∨ (relabel scope X.env).names.lookup x = some .free := isCap_or c2
      obtain ⟨c', hc'⟩ := hclR x kd
      have e := hclL x c' hc'
      rw [hc] at e
      cases e
      obtain ⟨o, ho, hd⟩ := hcell
      exact .inr ⟨kd, c, hc', o, hk c o ho, hd⟩
  · obtain ⟨v, o, ho, hd⟩ := I.cell x c (hclL x c e)
    exact ⟨v, o, hk c o ho, hd⟩
  · have e : p = (D, oD) := by simpa using hp
    subst e
    refine ⟨hD, I.hok.fresh hDs, hDC, fun z => ?_, hDd⟩
    obtain ⟨_, o, ho, _⟩ := I.stack.mem z
    exact absurd (Nat.lt_of_lt_of_le (lt2 ho) hDs) (Nat.lt_irrefl _)
  · show (selS own.length js σ).length = (own ++ js.filterMap fun j => X.N[j]?).length
    rw [selS_len, List.length_append, hlen]
end

/-- a target leaves the captured slots -/
def GKeep (k : Nat) (g : TG) : Prop := ∀ (x : V) (σ0 : St) (H : Hp) (Q : St → Hp → Prop), g x σ0 H Q →
  g x σ0 H (fun σ2 H2 => (σ2.length = σ0.length ∧ ∀ (i : Nat) (v : V), k ≤ i → σ0[i]? = some (some v) → σ2[i]? = some (some v)) ∧ Q σ2 H2)
theorem gk_name {k i : Nat} (h : i < k) : GKeep k (gName i) := fun x σ0 H Q q =>
  ⟨⟨List.length_set, fun j v hj e => by rw [List.getElem?_set_ne (by omega)]; exact e⟩, q⟩
theorem gk_pair {K : PySem.W.Frag} {k i j : Nat} (hi : i < k) (hj : j < k) : GKeep k (gTup K 2 (gCons (gName i) (gCons (gName j) gNil))) := fun x σ0 H Q q => by
  obtain ⟨a, xs, e1, hq, hl, v, r, e2, v2, r2, e3, e4, q⟩ := q
  refine ⟨a, xs, e1, hq, hl, v, r, e2, v2, r2, e3, e4, ⟨by rw [List.length_set, List.length_set], fun m w hm e => ?_⟩, q⟩
  rw [List.getElem?_set_ne (by omega), List.getElem?_set_ne (by omega)]
  exact e

/-- the reading of [elt for target in iter] -/
def CompR (J : It) (σ0 : St) (g : TG) (te : TE) (H1 : Hp) (R : List V → Hp → Prop) : Prop :=
  ∃ (n : Nat) (W : Nat → List V → Hp → Prop), n ≤ sizeLine ∧ W 0 [] H1 ∧
    (∀ i ys H, i < n → ys.length = i → W i ys H → J.go i H ∧ ∀ x H', J.yld i H x H' → g x σ0 H' fun σ2 H2 => te σ2 H2 fun y H3 => W (i + 1) (ys ++ [y]) H3) ∧
    ∀ ys H, ys.length = n → W n ys H → J.stop n H ∧ R ys H
def tComp (wi : TI) (k : Nat) (js : List Nat) (g : TG) (te : TE) : TE := fun σ H Q => wi σ H fun J H1 =>
  CompR J (selS k js σ) g te H1 fun ys H2 => ∀ p, H2 p = none → Q (.ref p) (upd H2 p (.lst ys))

theorem app_plain {prog : Program} {w : World} {A : Around} {E : Value → Shared → Prop} {s : Shared} {l : Addr} {its : List Value} {n : Nat} {u : Value} {Q : Value → Shared → Prop}
    (e : s.heap.get? l = some { cls := .type "list", data := .seq its.toArray n }) (hz : its.length ≤ sizeLine)
    (h : ∀ h' n', h'.get? l = some { cls := .type "list", data := .seq (its ++ [u]).toArray n' } → (∀ b o, b ≠ l → s.heap.get? b = some o → h'.get? b = some o) → Q .none { s with heap := h' }) :
    wpAny (model prog w) A (call (.builtin "list.append") [.ref l, u]) Q E s := by
  refine call_meets F.slot_list_append ⟨_, e, rfl⟩ F.entry_list_append (F.args_list_append_2 _ _) (PySem.list_append l its.toArray n u (by rw [List.size_toArray]; omega)) ⟨e, ?_⟩
  have q := PySem.IsL.update e (·.push u)
  have q2 : its.toArray.push u = (its ++ [u]).toArray := by simp
  rw [q2] at q
  exact h _ _ q fun b o hb hu => (Heap.get?_update_other s.heap (Obj.mapSeq (·.push u)) (Ne.symm hb)).trans hu

section
variable {X : Cx} {own : List Str} {js : List Nat} {scope : Scope} {elt tg iter : Expr} {g : TG} {te : TE} {pos : Pos}
/-- the block runs: a new list, a new frame, the turns -/
theorem comp_run {pins : List (Addr × Obj)} {σ : St} {H1 : Hp} {s2 : Shared} {it : Addr} {fp : List Addr} {tn : Nat → Heap → Prop} {J : It} {cl : List (Str × Addr)} {R : List V → Hp → Prop} {RR : Value → Addr → Result → Shared → Prop}
    {E : Value → Shared → Prop} (hc : X.calm = true) (I : Inv X pins σ H1 s2) (T : Turn X.prog X.w X.K tg J fp it tn) (st : tn 0 s2.heap) (hfp : ∀ b ∈ fp, FpOk X pins H1 b)
    (hcap : capB X.N X.env.scope (relabel scope X.env) js = true) (hkind : scope.kind = .function) (hcell : ∀ y ∈ scope.names, y.2 ≠ .cell)
    (hclL : ∀ x c, cl.lookup x = some c → X.env.cells.lookup x = some c)
    (hclR : ∀ x, (x, NameKind.free) ∈ scope.names → ∃ c, cl.lookup x = some c)
    (hg : ∀ C s₂ H₂ fp, PG (cxC X own js scope cl C s₂ H₂ fp) tg g) (hgk : GKeep own.length g) (he : ∀ C s₂ H₂ fp, PE (cxC X own js scope cl C s₂ H₂ fp) elt te)
    (hR : CompR J (selS own.length js σ) g te H1 R)
    (hRR : ∀ D C ys H' s' m, Inv X pins σ (upd H' D (.lst ys)) s' → FpOk X pins (upd H' D (.lst ys)) C → s'.heap.Ns C m → H' D = none → R ys H' → RR (.ref D) C (.ok .next) s') :
    wpAny (model X.prog X.w) X.A (newList []) (fun acc s₃ => wpAny (model X.prog X.w) X.A (newFunctionEnv scope X.env.globals cl [] X.env.qual none .none (some X.env)) (fun cenv s₄ =>
      codeAny (model X.prog X.w) X.A (.compStart (.ListComp elt [⟨tg, iter, [], 0⟩] scope pos) 0 (.ref it) acc { cenv with scope := relabel scope X.env }) (RR acc cenv.locals) s₄) E s₃) E s2 := by
  obtain ⟨n, W, hz, w0, turn, fin⟩ := hR
  refine wpAny_newObj_type (wpAny_newFunctionEnv hcell (by intro y hy; simp at hy) (fun h₁ hns₁ hsb₁ => ?_) hkind)
  dsimp only at hns₁ hsb₁ ⊢
  generalize hH2 : s2.heap.push { cls := .type "list", dict := none, data := .seq ([] : List Value).toArray } = G2 at hns₁ hsb₁ ⊢
  have hC : G2.objs.size = s2.heap.objs.size + 1 := by rw [← hH2, Heap.size_push]
  have hDC : s2.heap.objs.size ≠ G2.objs.size := by rw [hC]; exact Nat.ne_of_lt (Nat.lt_succ_self _)
  have hCle : s2.heap.objs.size ≤ G2.objs.size := by rw [hC]; exact Nat.le_succ _
  have old : ∀ b o, s2.heap.get? b = some o → h₁.get? b = some o := fun b o e =>
    hsb₁.extBut b o (by rw [hC]; exact Nat.ne_of_lt (Nat.lt_succ_of_lt (Heap.lt_size e))) (Heap.get?_push_of_some _ (hH2 ▸ Heap.get?_push_of_some _ e))
  have hacc : h₁.get? s2.heap.objs.size = some { cls := .type "list", dict := none, data := .seq ([] : List Value).toArray } := hsb₁.extBut _ _ hDC (Heap.get?_push_of_some _ (hH2 ▸ Heap.get?_push_size _ rfl))
  have hrel : ∀ x, ((relabel scope X.env).names.lookup x = some .cell ∨ (relabel scope X.env).names.lookup x = some .free) → ∃ c, cl.lookup x = some c := fun x h => hclR x (relabel_lookup hcell h)
  have I0 : Inv (cxC X own js scope cl G2.objs.size s2 H1 fp) [(s2.heap.objs.size, { cls := .type "list", dict := none, data := .seq ([] : List Value).toArray })] (selS own.length js σ) H1
      { s2 with heap := h₁, toks := s2.toks + ([] : List (Str × Value)).length } :=
    inv_comp (s5 := { s2 with heap := h₁, toks := s2.toks + ([] : List (Str × Value)).length }) I hcap hkind hclL hrel hfp (fun b hb => let ⟨o, e, _⟩ := T.obj 0 _ st b hb; ⟨o, e⟩) hCle old ⟨_, hns₁⟩ rfl rfl hacc (Nat.le_refl _) hDC
      (fun v z => by cases (show Data.seq _ _ = Data.cell v from z))
  generalize hXe : cxC X own js scope cl G2.objs.size s2 H1 fp = X' at I0
  have hXP : X'.prog = X.prog := by rw [← hXe]
  have hXw : X'.w = X.w := by rw [← hXe]
  have hXK : X'.K = X.K := by rw [← hXe]
  have hXA : X'.A = X.A := by rw [← hXe]
  have hXc : X'.calm = true := by rw [← hXe]; exact hc
  have hXenv : X'.env = compEnvC scope cl G2.objs.size X.env := by rw [← hXe]
  have hXs : X'.s₀ = s2 := by rw [← hXe]
  have hXex : X'.ex = fp := by rw [← hXe]
  have hXfs : X'.fs = frs X.stack := by rw [← hXe]
  have hXpn : X'.pn = [] := by rw [← hXe]
  have hXe0 : X'.xe = fun _ _ => False := by rw [← hXe]
  have hXcl : X'.env.cells = cl := by rw [hXenv]; rfl
  have hXl : X'.env.locals = G2.objs.size := by rw [hXenv]; rfl
  have ltD : ∀ b ∈ fp, b ≠ s2.heap.objs.size := fun b hb => let ⟨o, e, _⟩ := T.obj 0 _ st b hb; Nat.ne_of_lt (Heap.lt_size e)
  -- what stays true of the iterator's records in the block
  have fpX : ∀ {pl : List (Addr × Obj)} {H' : Hp}, (∀ p ∈ pl, p.1 = s2.heap.objs.size) → (∀ b ∈ fp, H' b = none) → ∀ b ∈ fp, FpOk X' pl H' b := fun {pl H'} hpl hn b hb => by
    refine ⟨hn b hb, ?_, ?_, .inl (by rw [hXex]; exact hb), fun x c e => ?_, fun p hp => ?_⟩
    · obtain ⟨o, e, _⟩ := T.obj 0 _ st b hb
      rw [hXl]
      exact Nat.ne_of_lt (Nat.lt_of_lt_of_le (Heap.lt_size e) hCle)
    · rw [hXfs]
      intro z
      obtain ⟨_, f1, f2, _⟩ := hfp b hb
      exact (List.mem_cons.mp (I.stkSub b z)).elim f1 f2
    · rw [hXcl] at e
      exact (hfp b hb).2.2.2.2.1 x c (hclL x c e)
    · rw [hXpn] at hp
      rw [hpl p (by simpa using hp)]
      exact (ltD b hb).symm
  have dX : ∀ {pl : List (Addr × Obj)} {H' : Hp}, (∀ p ∈ pl, p.1 ∈ fp) → H' s2.heap.objs.size = none → FpOk X' pl H' s2.heap.objs.size := fun {pl H'} hpl hn => by
    refine ⟨hn, by rw [hXl]; exact hDC, ?_, .inr (by rw [hXs]; exact Nat.le_refl _), fun x c e => ?_, fun p hp => ?_⟩
    · rw [hXfs]
      exact fun z => by
        obtain ⟨_, o, ho, _⟩ := I.stack.mem z
        exact absurd (Heap.lt_size ho) (Nat.lt_irrefl _)
    · rw [hXcl] at e
      obtain ⟨v, o, ho, _⟩ := I.cell x c (hclL x c e)
      exact Nat.ne_of_lt (Heap.lt_size ho)
    · rw [hXpn] at hp
      exact ltD p.1 (hpl p (by simpa using hp))
  let obD : List Value → Nat → Obj := fun its k => { cls := .type "list", dict := none, data := .seq its.toArray k }
  have loop : codeAny (model X.prog X.w) X.A (.compLoop (.ListComp elt [⟨tg, iter, [], 0⟩] scope pos) 0 (.ref it) (.ref s2.heap.objs.size) (compEnvC scope cl G2.objs.size X.env))
      (RR (.ref s2.heap.objs.size) G2.objs.size) { s2 with heap := h₁, toks := s2.toks + ([] : List (Str × Value)).length } := by
    refine PySem.W.kcp_loop (fun k s => ∃ i ys its c H, k = n + 1 - i ∧ i ≤ n ∧ ys.length = i ∧ Vals ys its ∧ Inv X' [(s2.heap.objs.size, obD its c)] (selS own.length js σ) H s ∧ tn i s.heap ∧ (∀ b ∈ fp, H b = none) ∧ W i ys H) ?_ (n + 1)
      ⟨0, [], [], 0, H1, rfl, Nat.zero_le _, rfl, .nil, I0, T.keep _ _ _ st (fun b _ o e => old b o e), fun b hb => (hfp b hb).1, w0⟩
    rintro k s ⟨i, ys, its, c, H, rfl, hi, hl, rv, I1, st1, fr1, w1⟩
    have pl1 : ∀ p ∈ [(s2.heap.objs.size, obD its c)], p.1 = s2.heap.objs.size := fun p hp => by rw [show p = _ by simpa using hp]
    by_cases hlt : i < n
    · obtain ⟨go, step⟩ := turn i ys H hlt hl w1
      rw [← hXA]
      refine thn (T.item X' hXP hXw hXK hXc i _ s _ H _ I1 (fpX pl1 fr1) st1 go) fun r s3 ⟨u, hr, h3⟩ => ?_
      subst hr
      refine thn h3 fun _ s4 ⟨x, H4, I4, r4, y4, st4, fr4⟩ => ?_
      have I4' := I4.pinned (fpX pl1 fr4) (T.obj _ _ st4)
      have hgX : PG X' tg g := by rw [← hXe]; exact hg _ _ _ _
      have heX : PE X' elt te := by rw [← hXe]; exact he _ _ _ _
      rw [← hXP, ← hXw, ← hXenv]
      have up : ∀ {α : Type} {t : Sem α} {Q : α → Shared → Prop} {E' : Value → Shared → Prop} {s : Shared}, wpAny (model X'.prog X'.w) X'.A t Q X'.xe s → wpAny (model X'.prog X'.w) X'.A t Q E' s := fun h =>
        wpAny_mono h (fun _ _ q => q) fun _ _ q => by rw [hXe0] at q; exact q.elim
      refine thn (up (hgX _ s4 _ H4 x u _ I4' r4 (hgk _ _ _ _ (step x H4 y4)))) fun _ s5 ⟨σ5, H5, I5, ⟨hl5, hk5⟩, q5⟩ => ?_
      refine thn (up (heX _ s5 σ5 H5 _ I5 q5)) fun y s6 ⟨yv, H6, I6, r6, q6⟩ => ?_
      have eD := I6.pin (s2.heap.objs.size, obD its c) (List.mem_append_right _ (List.mem_append_left _ (List.mem_singleton.mpr rfl)))
      have efp : ∀ b ∈ fp, ∀ o, s4.heap.get? b = some o → s6.heap.get? b = some o ∧ H6 b = none := fun b hb o e =>
        let q := I6.pin (b, o) (List.mem_append_right _ (List.mem_append_right _ (mem_pinsAt hb e)))
        ⟨q.1, q.2.1⟩
      have fr6 : ∀ b ∈ fp, H6 b = none := fun b hb => let ⟨o, e, _⟩ := T.obj _ _ st4 b hb; (efp b hb o e).2
      have st6 : tn (i + 1) s6.heap := T.keep _ _ _ st4 fun b hb o e => (efp b hb o e).1
      have hlen := rv.length
      refine app_plain (n := c) eD.1 (by omega) fun h' n' e' k' => ?_
      have I7 : Inv X' [] σ5 H6 s6 := I6.pins_of fun p hp => nomatch hp
      have I8 : Inv X' [] σ5 H6 { s6 with heap := h' } := by
        obtain ⟨f0, f1, _, f3, f4, f5⟩ := dX (pl := []) (H' := H6) (fun p hp => nomatch hp) eD.2.1
        exact I7.turned (t' := s6.toks) k' f0 f1 f3 f4 f5
      have I9 : Inv X' [(s2.heap.objs.size, obD (its ++ [y]) n')] (selS own.length js σ) H6 { s6 with heap := h' } := by
        refine (I8.weak (σ' := selS own.length js σ) hl5.symm fun j v e => ?_).pins_of fun p hp => ?_
        · obtain ⟨_, hj, _⟩ := selS_cap e
          exact hk5 j v hj e
        · have ep : p = (s2.heap.objs.size, obD (its ++ [y]) n') := by simpa using hp
          subst ep
          obtain ⟨f0, f1, f2, _⟩ := dX (pl := []) (H' := H6) (fun p hp => nomatch hp) eD.2.1
          exact ⟨e', f0, f1, f2, fun v z => by cases (show Data.seq _ _ = Data.cell v from z)⟩
      refine ⟨n + 1 - (i + 1), by omega, i + 1, ys ++ [yv], its ++ [y], n', H6, rfl, hlt, by rw [List.length_append, hl]; rfl, rv.append (.cons r6 .nil), I9, ?_, fr6, q6⟩
      exact T.keep _ _ _ st6 fun b hb o e => k' b o (ltD b hb) e
    · have hin : i = n := by omega
      subst hin
      obtain ⟨stop, q⟩ := fin ys H hl w1
      rw [← hXA]
      refine thn (T.done X' hXP hXw hXK hXc i _ s _ H _ I1 (fpX pl1 fr1) st1 stop) fun r s3 ⟨hr, I3⟩ => ?_
      subst hr
      have eD := I3.pin (s2.heap.objs.size, obD its c) (List.mem_append_right _ (List.mem_singleton.mpr rfl))
      have un : Un (frs X.stack) fp H1 H s2.heap s3.heap := by
        have b := I3.base
        rw [hXfs, hXex, hXs] at b
        rw [← hXe] at b
        exact b
      have hok : HOk X.prog X.w H s3.heap := by
        have b := I3.hok
        rw [hXP, hXw] at b
        exact b
      have os : s3.os = s2.os := by rw [I3.os, hXs]
      have IX : Inv X pins σ H s3 := I.call' (ch := fp) os un hok I3.bare fun b hb => by
        obtain ⟨_, f1, _, f3, f4, f5⟩ := hfp b hb
        exact ⟨f3, f1, f4, f5⟩
      have lens := rv.length
      have nD := eD.2.1
      have nC : H G2.objs.size = none := by
        have q := I3.free
        rw [hXl] at q
        exact q
      have fD : FpOk X pins H s2.heap.objs.size := I.fpOk (Nat.le_refl _) nD
      have I4 : Inv X pins σ (upd H s2.heap.objs.size (.lst ys)) s3 := IX.track fD ⟨by omega, its, c, rv, eD.1⟩
      have fC : FpOk X pins (upd H s2.heap.objs.size (.lst ys)) G2.objs.size := I.fpOk hCle (by rw [upd_ne (Ne.symm hDC)]; exact nC)
      obtain ⟨m, hm, _⟩ := I3.loc
      rw [hXl] at hm
      exact hRR _ _ ys H s3 m I4 fC hm nD q
  exact codeAny_compStart_list loop (T.self _ 0 _ _ _ (T.keep _ _ _ st fun b _ o e => old b o e) loop)
end

section
variable {X : Cx} {own : List Str} {js : List Nat} {scope : Scope} {elt tg iter : Expr} {g : TG} {te : TE} {pos : Pos} {wi : TI}
theorem hasFree {pins : List (Addr × Obj)} {σ : St} {H : Hp} {s : Shared} (I : Inv X pins σ H s) (hfree : (scope.names.all fun p => !(p.2 == NameKind.free) || isCap (X.env.scope.names.lookup p.1)) = true) :
    ∀ x, (x, NameKind.free) ∈ scope.names → ∃ c, X.env.cells.lookup x = some c := fun x hx => by
  have q := List.all_eq_true.mp hfree (x, .free) hx
  have q2 : isCap (X.env.scope.names.lookup x) = true := by simpa using q
  exact I.ok.has x (isCap_or q2)
/-- [elt for target in iter] as a value -/
theorem pe_comp (own : List Str) (js : List Nat) (hc : X.calm = true) (hi : PI X tg iter wi) (hg : ∀ cl C s₂ H₂ fp, PG (cxC X own js scope cl C s₂ H₂ fp) tg g) (hgk : GKeep own.length g) (he : ∀ cl C s₂ H₂ fp, PE (cxC X own js scope cl C s₂ H₂ fp) elt te)
    (hcap : capB X.N X.env.scope (relabel scope X.env) js = true := by kernel_rfl) (hfree : (scope.names.all fun p => !(p.2 == NameKind.free) || isCap (X.env.scope.names.lookup p.1)) = true := by kernel_rfl)
    (hkind : scope.kind = .function := by rfl) (hcell : ∀ y ∈ scope.names, y.2 ≠ .cell := by decide +kernel) (hnames : ∀ x ∈ scope.names, x.2 = .local → scope.names.lookup x.1 = some .local := by decide +kernel)
    (hs : ∀ x, foldedSetIterable iter X.env x = pure x := by intro _; rfl) :
    PE X (.ListComp elt [⟨tg, iter, [], 0⟩] scope pos) (tComp wi own.length js g te) := by
  intro pins s σ H Q I h
  obtain ⟨cl, h1, h2, h3⟩ := closure_of (env := X.env) (scope := scope) (hasFree I hfree)
  rw [eval_ListComp]
  refine wpAny_comprehension_free (use := none) rfl hs h1 hkind hnames (thn (hi pins s σ H _ I h) fun v s1 q1 => thn q1 fun itv s2 q2 => ?_)
  obtain ⟨it, fp, tn, J, H1, rfl, I2, T, st, hfp, hR⟩ := q2
  refine comp_run (own := own) (js := js) (RR := fun acc C => compPost (model X.prog X.w) X.A X.xe none (EP X pins σ Q) acc C) hc I2 T st hfp hcap hkind hcell h2 h3 (hg cl) hgk (he cl) hR ?_
  intro D C ys H' s' m I' fC hm hD q
  obtain ⟨f0, f1, _, f3, f4, f5⟩ := fC
  exact ⟨m, hm, fun h' hs' => ⟨.ref D, _, I'.turned (t' := s'.toks) (fun b o hb e => hs'.extBut b o hb e) f0 f1 f3 f4 f5, rfl, q D hD⟩⟩
/-- name = [elt for target in iter], where the name is stored ahead of the block's end -/
theorem ps_setC {i : Nat} {y : Str} {py spos : Pos} (own : List Str) (js : List Nat) (hc : X.calm = true) (hN : X.N.Nodup) (hiy : X.N[i]? = some y) (hy : X.env.scope.names.lookup y = some .local)
    (hi : PI X tg iter wi) (hg : ∀ cl C s₂ H₂ fp, PG (cxC X own js scope cl C s₂ H₂ fp) tg g) (hgk : GKeep own.length g) (he : ∀ cl C s₂ H₂ fp, PE (cxC X own js scope cl C s₂ H₂ fp) elt te)
    (hsw : swapsWith (.ListComp elt [⟨tg, iter, [], 0⟩] scope pos) (some (.Name y py)) spos.line X.env = pure true := by kernel_rfl)
    (hcap : capB X.N X.env.scope (relabel scope X.env) js = true := by kernel_rfl) (hfree : (scope.names.all fun p => !(p.2 == NameKind.free) || isCap (X.env.scope.names.lookup p.1)) = true := by kernel_rfl)
    (hkind : scope.kind = .function := by rfl) (hcell : ∀ y ∈ scope.names, y.2 ≠ .cell := by decide +kernel) (hnames : ∀ x ∈ scope.names, x.2 = .local → scope.names.lookup x.1 = some .local := by decide +kernel)
    (hs : ∀ x, foldedSetIterable iter X.env x = pure x := by intro _; rfl) :
    PS X (.Assign [.Name y py] (.ListComp elt [⟨tg, iter, [], 0⟩] scope pos) spos) (tAsg (tComp wi own.length js g te) (gName i)) := by
  intro pins s σ H D I h
  obtain ⟨cl, h1, h2, h3⟩ := closure_of (env := X.env) (scope := scope) (hasFree I hfree)
  rw [exec_Assign_Name_used _ _ _ _ hsw]
  refine wpAny_bind (wpAny_standAt (wpAny_bind ?_))
  show wpAny _ _ (do let _ ← comprehension (.ListComp elt [⟨tg, iter, [], 0⟩] scope pos) scope X.env _ (newList []) false (eval iter X.env) (some (assign (.Name y py) X.env))) _ _ s
  refine wpAny_bind (wpAny_mono (wpAny_comprehension_free (use := some (assign (.Name y py) X.env)) (Q := fun _ s' => SP X pins D .next s') rfl hs h1 hkind hnames
    (thn (hi pins s σ H _ I h) fun v s1 q1 => thn q1 fun itv s2 q2 => ?_)) (fun _ s' hq => wpAny_pure (wpAny_pure hq)) fun _ _ e => e)
  obtain ⟨it, fp, tn, J, H1, rfl, I2, T, st, hfp, hR⟩ := q2
  refine comp_run (own := own) (js := js) (RR := fun acc C => compPost (model X.prog X.w) X.A X.xe (some (assign (.Name y py) X.env)) (fun _ s' => SP X pins D .next s') acc C) hc I2 T st hfp hcap hkind hcell h2 h3 (hg cl) hgk (he cl) hR ?_
  intro A C ys H' s' m I' fC hm hA q
  obtain ⟨f0, f1, _, f3, f4, f5⟩ := fC
  show wpAny _ _ (assign (.Name y py) X.env (.ref A)) _ _ s'
  refine wpAny_assign_Name (store_ok2 I' hN hiy (.inl hy) (v := .ref A) rfl (fun s'' I'' hsb => ?_) (.inr hy))
  obtain ⟨a, sb, ha⟩ := hsb
  have hCa : C ≠ a := by
    rcases ha with z | z
    · rw [z]; exact f1
    · exact (f4 _ _ z).symm
  exact ⟨m, hm.sameBut sb hCa, fun h' hs' => ⟨_, _, I''.turned (t' := s''.toks) (fun b o hb e => hs'.extBut b o hb e) f0 f1 f3 f4 f5, q A hA⟩⟩
end

/-! ### the form one uses: all that is tracked stays, the i-th item is f i -/
theorem snocF {f : Nat → V} {i : Nat} {y : V} (h : y = f i) : (List.range i).map f ++ [y] = (List.range (i + 1)).map f := by
  rw [List.range_succ, List.map_append, h]
  rfl
theorem comp_by {J : It} {σ0 : St} {g : TG} {te : TE} {H1 : Hp} {R : List V → Hp → Prop} (n : Nat) (f : Nat → V) (hz : n ≤ sizeLine)
    (hgo : ∀ i H, i < n → Same H1 H → J.go i H) (hst : ∀ H, Same H1 H → J.stop n H)
    (ht : ∀ i H x H', i < n → Same H1 H → J.yld i H x H' → g x σ0 H' fun σ2 H2 => te σ2 H2 fun y H3 => (List.range i).map f ++ [y] = (List.range (i + 1)).map f ∧ Same H1 H3)
    (hR : ∀ H, Same H1 H → R ((List.range n).map f) H) : CompR J σ0 g te H1 R := by
  refine ⟨n, fun i ys H => ys = (List.range i).map f ∧ Same H1 H, hz, ⟨rfl, Same.refl _⟩, fun i ys H hi hl w => ⟨hgo i H hi w.2, fun x H' y => ?_⟩, fun ys H hl w => ⟨hst H w.2, ?_⟩⟩
  · obtain ⟨rfl, sm⟩ := w
    exact ht i H x H' hi sm y
  · obtain ⟨rfl, sm⟩ := w
    exact hR H sm
/-- over range(lo, ..), n turns -/
theorem comp_range {lo : Int} {n : Nat} {σ0 : St} {te : TE} {H1 : Hp} {R : List V → Hp → Prop} (f : Nat → V) (hz : n ≤ sizeLine)
    (ht : ∀ i H, i < n → Same H1 H → te (σ0.set 0 (some (.int (lo + i)))) H fun y H3 => (List.range i).map f ++ [y] = (List.range (i + 1)).map f ∧ Same H1 H3)
    (hR : ∀ H, Same H1 H → R ((List.range n).map f) H) : CompR (Itr lo n) σ0 (gName 0) te H1 R :=
  comp_by n f hz (fun i H hi _ => hi) (fun H _ => Nat.le_refl n) (fun i H x H' hi sm y => by
    obtain ⟨e1, e2⟩ := y
    subst e1 e2
    exact ht i _ hi sm) hR
/-- over a list -/
theorem comp_list {K : PySem.W.Frag} {a : Addr} {xs : List V} {σ0 : St} {te : TE} {H1 : Hp} {R : List V → Hp → Prop} (hq : SqL K H1 a xs) (f : Nat → V) (hz : xs.length ≤ sizeLine)
    (ht : ∀ i x H, xs[i]? = some x → Same H1 H → te (σ0.set 0 (some x)) H fun y H3 => (List.range i).map f ++ [y] = (List.range (i + 1)).map f ∧ Same H1 H3)
    (hR : ∀ H, Same H1 H → R ((List.range xs.length).map f) H) : CompR (Itl K a) σ0 (gName 0) te H1 R :=
  comp_by xs.length f hz (fun i H hi sm => ⟨xs, xs[i], sm.seq hq, by simp [hi]⟩) (fun H sm => ⟨xs, sm.seq hq, Nat.le_refl _⟩) (fun i H x H' hi sm y => by
    obtain ⟨e1, e2⟩ := y
    subst e1
    exact ht i x _ (e2 xs (sm.seq hq)) sm) hR
end L2

set_option Elab.async false
set_option linter.all false
set_option maxRecDepth 100000
namespace L2
open PySem PySem.Spec PyProof.Rows

theorem same_new {H : Hp} {p : Addr} (h : H p = none) (o : HO) : Same H (upd H p o) := fun b u q => by
  rw [upd_ne (ne_of_none q h)]
  exact q
abbrev gPair (K : PySem.W.Frag) : TG := gTup K 2 (gCons (gName 0) (gCons (gName 1) gNil))
theorem pair_go {K : PySem.W.Frag} {H : Hp} {p : Addr} {a b : V} {σ : St} {Q : St → Hp → Prop} (h : H p = some (.tup [a, b])) (q : Q ((σ.set 0 (some a)).set 1 (some b)) H) : gPair K (.ref p) σ H Q :=
  ⟨p, [a, b], rfl, SqT.of h, rfl, a, [b], rfl, b, [], rfl, rfl, q⟩

section
variable {X : Cx} {pins : List (Addr × Obj)} {σ : St} {H : Hp} {s : Shared}
/-- a pair that was just laid, untracked yet -/
theorem Inv.pairAt {T : Addr} {a b : V} {u v : Value} (I : Inv X pins σ H s) (f : FpOk X pins H T) (h : s.heap.get? T = some { cls := .type "tuple", data := .seq #[u, v] }) (ra : RelV a u) (rb : RelV b v) :
    Inv X pins σ (upd H T (.tup [a, b])) s :=
  I.track f ⟨by show 2 ≤ sizeLine; decide, [u, v], .cons ra (.cons rb .nil), ⟨_, h, rfl, _, rfl⟩⟩
end

/-! ### enumerate(a list) -/
def Ite (K : PySem.W.Frag) (a : Addr) : It :=
  ⟨fun i H => ∃ xs x, SqL K H a xs ∧ xs[i]? = some x, fun i H v H' => ∃ p, H p = none ∧ v = .ref p ∧ ∀ xs x, SqL K H a xs → xs[i]? = some x → H' = upd H p (.tup [.int i, x]), fun i H => ∃ xs, SqL K H a xs ∧ xs.length ≤ i⟩
theorem turn_enum {P : Program} {w : World} {K : PySem.W.Frag} {elts : List Expr} {k : Nat} {tp : Pos} (a e it : Addr) (hne : e ≠ it) :
    Turn P w K (.Tuple elts k tp) (Ite K a) [e, it] e (fun i h => (∃ old, IsEnum h e it (i : Nat) old) ∧ h.IsListIter it a i) where
  mem := by simp
  obj := fun i h st b hb => by
    obtain ⟨⟨old, h1⟩, o, h2, _, h3⟩ := st
    rcases List.mem_cons.mp hb with q | q
    · subst q
      exact ⟨_, h1, fun v z => by cases (show Data.fields _ = Data.cell v from z)⟩
    · have q' : b = it := by simpa using q
      subst q'
      exact ⟨o, h2, fun v z => by rw [h3] at z; cases z⟩
  keep := fun i h h' st kk => by
    obtain ⟨⟨old, h1⟩, h2⟩ := st
    exact ⟨⟨old, kk e (by simp) _ h1⟩, h2.at fun o q => kk it (by simp) o q⟩
  item := by
    intro X hP hw hK hc i pins s σ H E I hf st hg
    subst hP hw hK
    obtain ⟨⟨old, h1⟩, h2⟩ := st
    obtain ⟨xs, x, hq, hx⟩ := hg
    obtain ⟨its, rv, p, hz⟩ := I.list hq
    obtain ⟨u, hu, ru⟩ := rv.get hx
    have elt : e < s.heap.objs.size := Heap.lt_size h1
    have ilt : it < s.heap.objs.size := by obtain ⟨_, q, _⟩ := h2; exact Heap.lt_size q
    refine wpAny_pyNext_enum_item h1 h2 p.isList (x := u) (by simpa using hu) hne fun h' ho hit hT hsz kk => ⟨_, rfl, ?_⟩
    have I1 : Inv X pins σ H { s with heap := h', toks := s.toks + 1 } := I.turnedL (ch := [e, it]) (fun b o hb q => kk b o (fun z => hb (by simp [z])) (fun z => hb (by simp [z])) q) hf
    refine wpAny_letOwnedTupleGo_enum ho fun h2' he' hs' => ?_
    have I2 := I1.turnedL (h' := h2') (t' := s.toks + 1) (ch := [e]) (fun b o hb q => hs'.extBut b o (fun z => hb (by simp [z])) q) fun b hb => hf b (by
      rcases List.mem_singleton.mp hb with rfl
      simp)
    have nT : H s.heap.objs.size = none := I.hok.fresh (Nat.le_refl _)
    have I3 := I2.pairAt (T := s.heap.objs.size) (a := .int i) (b := x) (I.fpOk (Nat.le_refl _) nT) (hs'.extBut _ _ (Nat.ne_of_gt elt) hT) ⟨_, rfl⟩ ru
    refine ⟨.ref s.heap.objs.size, _, I3, rfl, ⟨_, nT, rfl, fun ys y hy hyi => ?_⟩, ⟨⟨u, ?_⟩, ?_⟩, fun b hb => ?_⟩
    · have e1 := I.list_inj hy hq
      subst e1
      rw [hx] at hyi
      cases hyi
      rfl
    · have ec : ((i + 1 : Nat) : Int) = (i : Int) + 1 := by omega
      rw [ec]
      exact he'
    · exact hit.at fun o q => hs'.extBut it o (Ne.symm hne) q
    · rw [upd_ne ?_]
      · exact (hf b hb).1
      · rcases List.mem_cons.mp hb with q | q
        · rw [q]
          exact Nat.ne_of_lt elt
        · rw [show b = it by simpa using q]
          exact Nat.ne_of_lt ilt
  done := by
    intro X hP hw hK hc i pins s σ H E I hf st hg
    subst hP hw hK
    obtain ⟨⟨old, h1⟩, h2⟩ := st
    obtain ⟨xs, hq, hx⟩ := hg
    obtain ⟨its, rv, p, hz⟩ := I.list hq
    have hl := rv.length
    refine wpAny_pyNext_enum_end (I.ok.hd hc) h1 h2 p.isList (by simp; omega) fun h' eb => ⟨rfl, ?_⟩
    exact I.turnedL (t' := s.toks) (ch := [e, it]) (fun b o hb q => eb b o (fun z => hb (by simp [z])) q) hf
  self := fun _ _ _ _ _ st h => by
    obtain ⟨⟨old, h1⟩, _⟩ := st
    exact wpAny_pyIter_enum h1 h

section
variable {X : Cx} {elts : List Expr} {k : Nat} {tp : Pos}
/-- enumerate(l), l tracked or the script -/
def iEnum (K : PySem.W.Frag) (ta : TA) : TI := fun σ H R => ta σ H fun vs H1 => ∃ a, vs = [.ref a] ∧ (∃ xs, Rd H1 a (.lst xs)) ∧ R (Ite K a) H1
theorem pi_enum {e : Expr} {ta : TA} {p pos : Pos} (hg : Gl X "enumerate") (hm : X.mg "enumerate" = none) (ha : PA X [e] ta) (hs : starEach [e] X.env = [(false, eval e X.env)] := by rfl) :
    PI X (.Tuple elts k tp) (.Call (.Name "enumerate" p) [e] [] pos) (iEnum X.K ta) := by
  intro pins s σ H R I h
  refine Call_ (ld_blt I hg hm (by decide +kernel : bootBuiltins "enumerate" = some (.type "enumerate")) (PyProof.Rows.callWith_type1 (thn (ha pos pins s σ H _ I h) fun us s1 ⟨vs, H1, I1, r1, q1⟩ => ?_) hs rfl))
  obtain ⟨a, e1, ⟨xs, hr⟩, q⟩ := q1
  subst e1
  obtain ⟨u, rfl, ru⟩ := vals1 r1
  cases ru
  obtain ⟨z, its, n, rv, ho⟩ := hr.ok I1.hok
  refine call_enumerate_1 ho fun h' he hit hsz kk => ?_
  refine wpAny_pyIter_enum he ?_
  have I2 : Inv X pins σ H1 { s1 with heap := h' } := I1.kept (t' := s1.toks) kk
  refine ⟨s1.heap.objs.size + 1, [s1.heap.objs.size + 1, s1.heap.objs.size], _, _, H1, rfl, I2, turn_enum a _ _ (Nat.ne_of_gt (Nat.lt_succ_self _)), ⟨⟨.none, he⟩, hit⟩, fun b hb => ?_, q⟩
  rcases List.mem_cons.mp hb with z1 | z1
  · rw [z1]
    exact I1.fpOk (Nat.le_succ _) (I1.hok.fresh (Nat.le_succ _))
  · rw [show b = s1.heap.objs.size by simpa using z1]
    exact I1.fpOk (Nat.le_refl _) (I1.hok.fresh (Nat.le_refl _))
end
theorem comp_enum {K : PySem.W.Frag} {a : Addr} {xs : List V} {σ0 : St} {te : TE} {H1 : Hp} {R : List V → Hp → Prop} (hq : SqL K H1 a xs) (f : Nat → V) (hz : xs.length ≤ sizeLine)
    (ht : ∀ (i : Nat) x H, xs[i]? = some x → Same H1 H → te ((σ0.set 0 (some (.int (i : Int)))).set 1 (some x)) H fun y H3 => (List.range i).map f ++ [y] = (List.range (i + 1)).map f ∧ Same H1 H3)
    (hR : ∀ H, Same H1 H → R ((List.range xs.length).map f) H) : CompR (Ite K a) σ0 (gPair K) te H1 R :=
  comp_by xs.length f hz (fun i H hi sm => ⟨xs, xs[i], sm.seq hq, by simp [hi]⟩) (fun H sm => ⟨xs, sm.seq hq, Nat.le_refl _⟩) (fun i H x H' hi sm y => by
    obtain ⟨p, hp, e1, e2⟩ := y
    have hx : xs[i]? = some xs[i] := by simp [hi]
    have e3 := e2 xs _ (sm.seq hq) hx
    subst e1 e3
    exact pair_go upd_same (ht i _ _ hx (sm.trans (same_new hp _)))) hR
/-! ### reversed(a list) -/
section
variable {X : Cx} {x : Str} {xp : Pos}
end
/-! ### range(a, b, c), c > 0, and reversed(range(n)) -/
end L2

set_option Elab.async false
set_option linter.all false
set_option maxRecDepth 100000
namespace L2
open PySem PySem.Spec PyProof.Rows

/-! ### sum, all, any of a list -/
section
variable {X : Cx}
theorem call_sum (hc : X.calm = true) : CallR X (.builtin "sum") (fun xs H Q => ∃ (p : Addr) (ns : List Int), xs = [.ref p] ∧ SqL X.K H p (ns.map V.int) ∧ Q (.int (List.sum ns)) H) := by
  intro pins s σ H xs us Q I r h
  obtain ⟨p, ns, rfl, hq, q⟩ := h
  obtain ⟨u, rfl, rx⟩ := vals1 r
  cases rx
  obtain ⟨its, rv, pl, hz⟩ := I.list hq
  have hi : IntsAre its ns := intsAre_of rv
  obtain ⟨ys, hx⟩ := hi.allInts.items
  have hl' : s.heap.IsList p (intItems ys) := hx ▸ pl.isList
  refine sum_intListG (I.ok.hd hc) hl' fun h' tk t' hk => ⟨.int ns.sum, H, I.kept hk, ⟨t', ?_⟩, q⟩
  have e1 : ns = ys.toList.map (·.1) := by
    rw [← nums_intItems, ← hx]
    exact (show numsOf its.toArray.toList = ns from hi.numsOf).symm
  rw [preSum_eq, List.take_of_length_le (by simp), e1]
theorem bools_of {bs : List Bool} : ∀ {us : List Value}, Vals (bs.map V.bl) us → LSm.BoolsAre us bs := by
  induction bs with
  | nil => intro us r; rw [List.map_nil] at r; cases r; exact .nil
  | cons b bs ih =>
    intro us r
    rw [List.map_cons] at r
    cases r with
    | cons r1 r2 =>
      cases (show _ = Value.bool b from r1)
      exact .cons b (ih r2)
theorem call_all (hc : X.calm = true) : CallR X (.builtin "all") (fun xs H Q => ∃ (p : Addr) (bs : List Bool), xs = [.ref p] ∧ SqL X.K H p (bs.map V.bl) ∧ Q (.bl (bs.all id)) H) := by
  intro pins s σ H xs us Q I r h
  obtain ⟨p, bs, rfl, hq, q⟩ := h
  obtain ⟨u, rfl, rx⟩ := vals1 r
  cases rx
  obtain ⟨its, rv, pl, hz⟩ := I.list hq
  have hb := bools_of rv
  have hl := pl.isList
  have hlt : p < s.heap.objs.size := by obtain ⟨_, e, _⟩ := hl; exact Heap.lt_size e
  refine call_all_walk (wpAny_pyIter_list hl ⟨s.heap.objs.size, [s.heap.objs.size, p], [s.heap.objs.size], its.toArray.size, _, _, fun i => (bs[i]?).getD true, rfl,
    Walks.list (A := X.A.in1) (I.ok.hd hc) _ p (Nat.ne_of_lt hlt) its.toArray, ⟨⟨_, Heap.get?_push_size _ rfl, rfl, rfl⟩, hl.push _⟩, fun i v s' Q' E' hP hQ => ?_, fun h' tk hk => ?_⟩)
  · obtain ⟨b, e, rfl⟩ := hb.get i v (by simpa using hP)
    simp only [e, Option.getD_some] at hQ
    exact wpAny_truthy_bool hQ
  · refine ⟨.bl (bs.all id), H, I.kept (LSm.kept_iter hk), ?_, q⟩
    show Value.bool _ = Value.bool _
    rw [List.size_toArray, hb.length, LSm.range_all]
theorem call_any (hc : X.calm = true) : CallR X (.builtin "any") (fun xs H Q => ∃ (p : Addr) (bs : List Bool), xs = [.ref p] ∧ SqL X.K H p (bs.map V.bl) ∧ Q (.bl (bs.any id)) H) := by
  intro pins s σ H xs us Q I r h
  obtain ⟨p, bs, rfl, hq, q⟩ := h
  obtain ⟨u, rfl, rx⟩ := vals1 r
  cases rx
  obtain ⟨its, rv, pl, hz⟩ := I.list hq
  have hb := bools_of rv
  have hl := pl.isList
  have hlt : p < s.heap.objs.size := by obtain ⟨_, e, _⟩ := hl; exact Heap.lt_size e
  refine call_any_walk (wpAny_pyIter_list hl ⟨s.heap.objs.size, [s.heap.objs.size, p], [s.heap.objs.size], its.toArray.size, _, _, fun i => (bs[i]?).getD false, rfl,
    Walks.list (A := X.A.in1) (I.ok.hd hc) _ p (Nat.ne_of_lt hlt) its.toArray, ⟨⟨_, Heap.get?_push_size _ rfl, rfl, rfl⟩, hl.push _⟩, fun i v s' Q' E' hP hQ => ?_, fun h' tk hk => ?_⟩)
  · obtain ⟨b, e, rfl⟩ := hb.get i v (by simpa using hP)
    simp only [e, Option.getD_some] at hQ
    exact wpAny_truthy_bool hQ
  · refine ⟨.bl (bs.any id), H, I.kept (LSm.kept_iter hk), ?_, q⟩
    show Value.bool _ = Value.bool _
    rw [List.size_toArray, hb.length, LSm.range_any]

/-! ### isinstance -/
theorem call_isi : CallR X (.builtin "isinstance") (fun xs H Q => ∃ x T t b, xs = [x, .ty T] ∧ TyOf X.K H x t ∧ PySem.W.kitOne X.K t (.type T) = some b ∧ Q (.bl b) H) := by
  intro pins s σ H xs us Q I r h
  obtain ⟨x, T, t, b, rfl, ty, e, q⟩ := h
  obtain ⟨u, w', rfl, rx, ry⟩ := vals2 r
  cases (show w' = Value.type T from ry)
  exact isinst_ok I rx ty e fun tk => ⟨.bl b, H, I.tok tk, rfl, q⟩
/-- a built-in type's name as a value -/
theorem pe_ty {x : Str} {T : String} {pos : Pos} (hg : Gl X x) (hm : X.mg x = none) (hv : bootBuiltins x = some (.type T)) (hn : x ≠ "__name__" := by decide) (hd : (x == ("__debug__" : Str)) = false := by decide) :
    PE X (.Name x pos) (tC (.ty T)) := pe_bltn hg hm hv rfl hn hd

/-! ### is True, is not True -/
/-! ### lists of ints compared; lists of two such -/
theorem op_neL (hu : X.A.units + 64 < cLine) : OpR X (compareOp .NotEq) (fun x y H Q => ∃ (a b : Addr) (ns ms : List Int), x = .ref a ∧ y = .ref b ∧ SqL X.K H a (ns.map V.int) ∧ SqL X.K H b (ms.map V.int) ∧ Q (.bl (!decide (ns = ms))) H) := by
  intro pins s σ H x y v u Q I rx ry h
  obtain ⟨a, b, ns, ms, rfl, rfl, ha, hb, q⟩ := h
  cases rx
  cases ry
  obtain ⟨its, r1, p1, _⟩ := I.list ha
  obtain ⟨its2, r2, p2, _⟩ := I.list hb
  exact PySem.W.ke_ne_ints p1.isList p2.isList (intsAre_of r1) (intsAre_of r2) hu ⟨.bl _, H, I, rfl, q⟩
/-- a list of two lists of ints -/
def Two (K : PySem.W.Frag) (H : Hp) (a : Addr) (ns ms : List Int) : Prop := ∃ b c, SqL K H a [.ref b, .ref c] ∧ SqL K H b (ns.map V.int) ∧ SqL K H c (ms.map V.int)
theorem Two.reads {pins : List (Addr × Obj)} {σ : St} {H : Hp} {s : Shared} {a : Addr} {ns ms : List Int} (I : Inv X pins σ H s) (h : Two X.K H a ns ms) :
    ∃ as, Reads s.heap (.ref a) (.list [.list (ns.map PyData.int), .list (ms.map PyData.int)]) as := by
  obtain ⟨b, c, h1, h2, h3⟩ := h
  obtain ⟨its, r1, ⟨o, n, e1, e2, _, e4⟩, _⟩ := I.list h1
  obtain ⟨i2, r2, p2, _⟩ := I.list h2
  obtain ⟨i3, r3, p3, _⟩ := I.list h3
  obtain ⟨u, v, rfl, ru, rv⟩ := r1.two
  cases (show u = Value.ref b from ru)
  cases (show v = Value.ref c from rv)
  exact ⟨_, reads_list_at e1 e2 e4 (.cons (reads_newData p2.isList (PySem.W.ke_carried (intsAre_of r2))) (.cons (reads_newData p3.isList (PySem.W.ke_carried (intsAre_of r3))) .nil))⟩
/-! ### xs[::-1] -/
/-! ### range(a, b, c) with c > 0; reversed(range(n)) -/
variable {tg : Expr}
end
end L2

set_option Elab.async false
set_option linter.all false
set_option maxRecDepth 100000
namespace L2
open PySem PySem.Spec PyProof.Rows

/-! ### the next item of a reversed list, as zip asks for it -/
section
variable {prog : Program} {w : World} {A : Around} {E : Value → Shared → Prop} {s : Shared}
end

/-! ### zip(a reversed list's iterator, a list) -/
structure ZA (z TI TO i1 i2 : Addr) : Prop where
  TIz : TI ≠ z
  TOz : TO ≠ z
  i1z : i1 ≠ z
  i2z : i2 ≠ z
  TITO : TI ≠ TO
  TIi1 : TI ≠ i1
  TIi2 : TI ≠ i2
  TOi1 : TO ≠ i1
  TOi2 : TO ≠ i2
  i12 : i1 ≠ i2
structure ZL (z TO i1 i2 l : Addr) : Prop where
  z : l ≠ z
  TO : l ≠ TO
  i1 : l ≠ i1
  i2 : l ≠ i2
section
variable {prog : Program} {w : World} {A : Around} {E : Value → Shared → Prop} {s : Shared}
end
end L2

set_option Elab.async false
set_option linter.all false
set_option maxRecDepth 100000
namespace L2
open PySem PySem.Spec PyProof.Rows

section
variable {prog : Program} {w : World} {A : Around} {E : Value → Shared → Prop} {s : Shared}
end

section
variable {X : Cx} {elts : List Expr} {k : Nat} {tp : Pos}
end
end L2

set_option Elab.async false
set_option linter.all false
set_option maxRecDepth 100000
namespace L2
open PySem PySem.Spec PyProof.Rows

/-! ### reversed(range(n)) -/
section
variable {prog : Program} {w : World} {A : Around} {E : Value → Shared → Prop} {s : Shared}
end
section
variable {X : Cx} {tg : Expr}
end
end L2

set_option Elab.async false
set_option linter.all false
set_option maxRecDepth 100000
/-! exceptions: the trace's entries, step by step, at the level of the heap -/
namespace L2
open PySem PySem.Spec PyProof.Rows
/-- frames change in their slots alone, ch may change, all else stays -/
structure MvR (fr ch : List Addr) (h h' : Heap) : Prop where
  keep : ∀ b o, h.get? b = some o → b ∉ ch → b ∉ fr → h'.get? b = some o
  slot : ∀ b o, h.get? b = some o → b ∈ fr → ∃ sl, h'.get? b = some { o with slots := sl }
theorem MvR.trans {fr ch ch2 ch3 : List Addr} {h h1 h2 : Heap} (a : MvR fr ch h h1) (b : MvR fr ch2 h1 h2) (h3 : ∀ x ∈ ch, x ∈ ch3) (h4 : ∀ x ∈ ch2, x ∈ ch3 ∨ h.get? x = none) : MvR fr ch3 h h2 where
  keep := fun x o e hc hf => b.keep x o (a.keep x o e (fun z => hc (h3 x z)) hf) (fun z => (h4 x z).elim hc fun n => by rw [n] at e; cases e) hf
  slot := fun x o e hf => by
    obtain ⟨s1, e1⟩ := a.slot x o e hf
    obtain ⟨s2, e2⟩ := b.slot x _ e1 hf
    exact ⟨s2, e2⟩
/-- an exception and the head of its trace; fl: the frame that has it in flight -/
def TrR (h : Heap) (ea T : Addr) (cls fl : Value) : Prop :=
  ∃ (oe : Obj) (vs : Array Value) (oT : Obj) (ts : Array Value), h.get? ea = some oe ∧ (oe.cls = cls ∧ oe.dict = none) ∧ oe.data = .fields vs ∧ vs[1]? = some (.ref T) ∧ vs[2]? = some .none ∧ T ≠ ea ∧ h.get? T = some oT ∧ oT.data = .fields ts ∧ ts[3]? = some fl
theorem dict_mapFields (o : Obj) (f : Array Value → Array Value) : (o.mapFields f).dict = o.dict := by
  obtain ⟨c, d, dt, sl⟩ := o
  cases dt <;> rfl
section
variable {M : Model} {A : Around} {E : Value → Shared → Prop} {s : Shared} {Q : Unit → Shared → Prop} {base : Heap} {env : Env} {outer : List Env} {L ea T : Addr} {oe : Obj} {vs : Array Value} {cls fl : Value}
theorem entry_laid {head : Value} {had : Bool} (hfr : A.frames = some (env :: outer)) (hl : s.heap.FunFrames base (env :: outer)) (hf : env.frame = some L) (he : s.heap.get? ea = some oe) (hd : oe.data = .fields vs) (h2 : vs[2]? = some .none) (hdi : oe.dict = none)
    (h : ∀ (h' : Heap) (T : Addr), MvR (frs (env :: outer)) [ea] s.heap h' → s.heap.get? T = none → TrR h' ea T oe.cls (rawInt L) → Q () { s with heap := h' }) :
    wpAny M A (do let a ← frameOf env; let pl ← entryPlaceOf L had; let b ← EntryCells.newEntry head a .none (rawInt L) .none pl; setField (.ref ea) 1 b) Q E s := by
  have sz : 2 < vs.size := (Array.getElem?_eq_some_iff.mp h2).1
  have nf : ea ∉ frs (env :: outer) := fun z => by
    obtain ⟨_, o, e, hn⟩ := hl.mem z
    rw [he] at e
    cases e
    exact hn vs hd
  refine wpAny_bind (wpAny_frameOf_fun hfr hl hf fun h1 so => ?_)
  refine wpAny_bind (wpAny_entryPlaceOf fun pl hpl => ?_)
  unfold EntryCells.newEntry newFields
  refine wpAny_bind (wpAny_newObj_type ?_ (hpl.sizeOk5 _ _ _ _ _))
  have e1 : h1.get? ea = some oe := (so.2.1 ea nf).trans he
  generalize hO : ({ cls := .type "traceback", dict := none, data := .fields ([head, .ref L, .none, rawInt L, .none] ++ (if pl.isEmpty then List.replicate 6 Value.none else pl)).toArray } : Obj) = O
  have hOd : O.data = .fields ([head, .ref L, .none, rawInt L, .none] ++ (if pl.isEmpty then List.replicate 6 Value.none else pl)).toArray := by rw [← hO]
  have hOf : O.isFreed = false := Obj.isFreed_of_fields hOd
  have e2 : (h1.push O).get? ea = some oe := Heap.get?_push_of_some _ e1
  refine wpAny_setField e2 hd (by omega) (h _ h1.objs.size ?_ ?_ ?_)
  · refine ⟨fun b o e hc hb => ?_, fun b o e hb => ?_⟩
    · rw [Heap.get?_update_other _ _ (fun z => hc (by simp [z]))]
      exact Heap.get?_push_of_some _ ((so.2.1 b hb).trans e)
    · obtain ⟨sl, q⟩ := so.2.2 b o e
      refine ⟨sl, ?_⟩
      rw [Heap.get?_update_other _ _ (fun (z : ea = b) => nf (by rw [z]; exact hb))]
      exact Heap.get?_push_of_some _ q
  · cases q : s.heap.get? h1.objs.size with
    | none => rfl
    | some o =>
      obtain ⟨sl, q2⟩ := so.2.2 _ o q
      exact absurd (Heap.lt_size q2) (Nat.lt_irrefl _)
  · have hne : h1.objs.size ≠ ea := Nat.ne_of_gt (Heap.lt_size e1)
    have d3 := Obj.data_mapFields hd (·.setIfInBounds 1 (Value.ref h1.objs.size))
    refine ⟨_, _, O, _, Heap.get?_update_self _ e2 (Obj.isFreed_of_fields d3), ⟨Obj.cls_mapFields _ _, (dict_mapFields _ _).trans hdi⟩, d3, by simp [show 1 < vs.size by omega], ?_, hne, ?_, hOd, by simp⟩
    · rw [Array.getElem?_setIfInBounds_ne (by decide)]
      exact h2
    · rw [Heap.get?_update_other _ _ (Ne.symm hne)]
      exact Heap.get?_push_at rfl hOf
/-- the first entry -/
theorem note_made (hfr : A.frames = some (env :: outer)) (hl : s.heap.FunFrames base (env :: outer)) (hf : env.frame = some L) (he : s.heap.get? ea = some oe) (hd : oe.data = .fields vs) (h1 : vs[1]? = some .none) (h2 : vs[2]? = some .none) (hdi : oe.dict = none)
    (h : ∀ (h' : Heap) (T : Addr), MvR (frs (env :: outer)) [ea] s.heap h' → s.heap.get? T = none → TrR h' ea T oe.cls (rawInt L) → Q () { s with heap := h' }) : wpAny M A (noteFrame (.ref ea) env) Q E s := by
  unfold noteFrame
  simp only [hf]
  refine wpAny_bind (wpAny_field he hd h1 ?_)
  rw [if_neg (by decide)]
  exact entry_laid hfr hl hf he hd h2 hdi h
/-- a further entry -/
theorem note_next (hfr : A.frames = some (env :: outer)) (hl : s.heap.FunFrames base (env :: outer)) (hf : env.frame = some L) (t : TrR s.heap ea T cls .none)
    (h : ∀ (h' : Heap) (T' : Addr), MvR (frs (env :: outer)) [ea, T] s.heap h' → s.heap.get? T' = none → TrR h' ea T' cls (rawInt L) → Q () { s with heap := h' }) : wpAny M A (noteFrame (.ref ea) env) Q E s := by
  obtain ⟨oe, vs, oT, ts, x1, ⟨rfl, xd⟩, x3, x4, x5, x6, x7, x8, x9⟩ := t
  have sz := (Array.getElem?_eq_some_iff.mp x9).1
  unfold noteFrame
  simp only [hf]
  refine wpAny_bind (wpAny_field x1 x3 x4 ?_)
  rw [if_pos (show (Value.ref T != Value.none) = true by simp)]
  refine wpAny_bind (wpAny_field x7 x8 x9 ?_)
  rw [if_neg (show ¬ ((Value.none == rawInt L) = true) by simp [rawInt])]
  refine wpAny_bind (wpAny_setField x7 x8 sz ?_)
  have oth : ∀ b, b ≠ T → (s.heap.update T (Obj.mapFields (·.setIfInBounds 3 Value.none))).get? b = s.heap.get? b := fun b hb => Heap.get?_update_other _ _ (Ne.symm hb)
  have nT : T ∉ frs (env :: outer) := fun z => by
    obtain ⟨_, o, e, hn⟩ := hl.mem z
    rw [x7] at e
    cases e
    exact hn ts x8
  have up : (s.heap.update T (Obj.mapFields (·.setIfInBounds 3 Value.none))).get? T = some (oT.mapFields (·.setIfInBounds 3 Value.none)) := Heap.get?_update_self _ x7 (Obj.isFreed_of_fields (Obj.data_mapFields x8 _))
  refine entry_laid (s := { s with heap := s.heap.update T (Obj.mapFields (·.setIfInBounds 3 Value.none)) }) hfr (hl.of_keeps fun b o e hn => ⟨o, (oth b fun z => ?_).trans e, rfl⟩) hf ((oth ea (Ne.symm x6)).trans x1) x3 x5 xd fun h' T' m n t => ?_
  · rw [z, x7] at e
    cases e
    exact hn ts x8
  · refine h h' T' ⟨fun b o e hc hb => m.keep b o ((oth b fun z => hc (by simp [z])).trans e) (fun z => hc (by rw [List.mem_singleton.mp z]; simp)) hb, fun b o e hb => m.slot b o ((oth b fun z => nT (z ▸ hb)).trans e) hb⟩ ?_ t
    by_cases c : T' = T
    · rw [c] at n
      have n' : (s.heap.update T (Obj.mapFields (·.setIfInBounds 3 Value.none))).get? T = none := n
      rw [up] at n'
      cases n'
    · exact (oth T' c).symm.trans n
/-- the flight's end -/
theorem flight_end {fr : List Addr} (t : TrR s.heap ea T cls fl) (hn : T ∉ fr) (h : ∀ h' : Heap, MvR fr [T] s.heap h' → TrR h' ea T cls .none → Q () { s with heap := h' }) : wpAny M A (setFlight (.ref ea) none) Q E s := by
  obtain ⟨oe, vs, oT, ts, x1, ⟨rfl, xd⟩, x3, x4, x5, x6, x7, x8, x9⟩ := t
  have sz := (Array.getElem?_eq_some_iff.mp x9).1
  unfold setFlight
  refine wpAny_bind (wpAny_field x1 x3 x4 ?_)
  rw [if_pos (show (Value.ref T != Value.none) = true by simp)]
  refine wpAny_setField x7 x8 sz (h _ ?_ ?_)
  · exact ⟨fun b o e hc _ => (Heap.get?_update_other _ _ fun z => hc (by simp [z])).trans e, fun b o e hb => ⟨o.slots, (Heap.get?_update_other _ _ fun (z : T = b) => hn (by rw [z]; exact hb)).trans e⟩⟩
  · exact ⟨oe, vs, _, _, (Heap.get?_update_other _ _ x6).trans x1, ⟨rfl, xd⟩, x3, x4, x5, x6, Heap.get?_update_self _ x7 (Obj.isFreed_of_fields (Obj.data_mapFields x8 _)), Obj.data_mapFields x8 _, by simp [sz]⟩
end
end L2

set_option Elab.async false
set_option linter.all false
set_option maxRecDepth 100000
/-! exceptions: how one lies behind a call, how it leaves a def -/
namespace L2
open PySem PySem.Spec PyProof.Rows

/-- an exception on its way: its class; it and its trace are new since h0, and untracked -/
def Trac (h0 : Heap) (H : Hp) (h : Heap) (ea : Addr) (cls : Value) : Prop := ∃ T : Addr, TrR h ea T cls .none ∧ (h0.get? ea = none ∧ h0.get? T = none) ∧ H ea = none ∧ H T = none
theorem none_back {h0 h1 : Heap} {b : Addr} (k : ∀ b o, h0.get? b = some o → ∃ o', h1.get? b = some o') (e : h1.get? b = none) : h0.get? b = none := by
  cases q : h0.get? b with
  | none => rfl
  | some o =>
    obtain ⟨o', e'⟩ := k b o q
    rw [e] at e'
    cases e'
theorem Trac.back {h0 h1 h : Heap} {H : Hp} {ea : Addr} {cls : Value} (t : Trac h1 H h ea cls) (k : ∀ b o, h0.get? b = some o → ∃ o', h1.get? b = some o') : Trac h0 H h ea cls := by
  obtain ⟨T, x, ⟨y1, y2⟩, z⟩ := t
  exact ⟨T, x, ⟨none_back k y1, none_back k y2⟩, z⟩
/-- how an exception lies behind a call -/
def CX1 (P : Program) (w : World) : CXT := fun outer H s E e s' => ∃ (ea : Addr) (cls : Value) (H' : Hp), e = .ref ea ∧ s'.os = s.os ∧ AllBare s'.gens ∧ Un (frs outer) [] H H' s.heap s'.heap ∧ HOk P w H' s'.heap ∧ Trac s.heap H' s'.heap ea cls ∧ E cls none H'
theorem ObjOk.has {P : Program} {w : World} {H : Hp} {h : Heap} {a : Addr} {o : HO} (x : ObjOk P w H h a o) : ∃ u, h.get? a = some u := by
  cases o with
  | lst _ => obtain ⟨_, _, _, _, q⟩ := x; exact ⟨_, q⟩
  | tup _ => obtain ⟨_, _, _, _, q, _⟩ := x; exact ⟨_, q⟩
  | dK _ => obtain ⟨_, _, _, _, _, _, _, q, _⟩ := x; exact ⟨_, q⟩
  | dT _ => obtain ⟨_, _, _, _, _, _, _, q, _⟩ := x; exact ⟨_, q⟩
  | set _ _ => obtain ⟨_, _, _, _, q, _⟩ := x; exact ⟨_, q⟩
  | ins _ _ _ => obtain ⟨_, _, _, q, _⟩ := x; exact ⟨_, q⟩
  | own _ => exact x
  | xd _ => obtain ⟨_, ⟨_, _, _, q, _⟩, _⟩ := x; exact ⟨_, q⟩
  | rng _ _ => obtain ⟨_, _, _, q⟩ := x; exact ⟨_, q⟩
  | frz _ _ => exact ⟨_, x.1⟩
  | tbl _ => exact ⟨_, x⟩
  | met _ _ => exact ⟨_, x⟩
  | ext _ => exact x.2.1
section
variable {X : Cx} {pins : List (Addr × Obj)} {σ : St} {H H' : Hp} {s s' : Shared} {ea : Addr} {cls : Value} {h' : Heap}
/-- only frames' slots, and some untracked new records, have changed -/
structure Moved (X : Cx) (H : Hp) (h h' : Heap) (ch : List Addr) : Prop where
  keep : ∀ b o, h.get? b = some o → b ∉ ch → b ∉ frs X.stack → h'.get? b = some o
  slot : ∀ b o, h.get? b = some o → b ∈ frs X.stack → ∃ sl, h'.get? b = some { o with slots := sl }
  new : ∀ b ∈ ch, X.s₀.heap.get? b = none ∧ H b = none
theorem Moved.un {ch : List Addr} (J : Inv X pins σ H s) (hex : X.ex = []) (m : Moved X H s.heap h' ch) : Un X.fs [] X.H₀ H X.s₀.heap h' := by
  have U := J.base
  rw [hex] at U
  have nc : ∀ b o, X.s₀.heap.get? b = some o → b ∉ ch := fun b o e z => by
    rw [(m.new b z).1] at e
    cases e
  have nf : ∀ b o, X.s₀.heap.get? b = some o → b ∉ X.fs → b ∉ frs X.stack := fun b o e hb z => by
    rcases List.mem_cons.mp (J.stkSub b z) with q | q
    · have l1 := Heap.lt_size e
      have l2 := J.ok.above
      rw [q] at l1
      exact absurd l1 (Nat.not_lt.mpr l2)
    · exact hb q
  have sl : ∀ b o, s.heap.get? b = some o → b ∉ ch → ∃ sl, h'.get? b = some { o with slots := sl } := fun b o e hc => by
    by_cases hb : b ∈ frs X.stack
    · exact m.slot b o e hb
    · exact ⟨o.slots, m.keep b o e hc hb⟩
  refine ⟨fun b o e n hb hx => m.keep b o (U.keep b o e n hb hx) (nc b o e) (nf b o e hb), fun b o e n hb hx => ?_, fun b o e n hx => U.free b o e n hx, fun b o e hx => ?_, U.tups, U.frzs, U.tbls⟩
  · obtain ⟨sl1, q⟩ := U.slot b o e n hb hx
    obtain ⟨sl2, q2⟩ := sl b _ q (nc b o e)
    exact ⟨sl2, q2⟩
  · obtain ⟨o1, q⟩ := U.there b o e hx
    obtain ⟨sl2, q2⟩ := sl b _ q (nc b o e)
    exact ⟨_, q2⟩
theorem Moved.hok {ch : List Addr} (J : Inv X pins σ H s) (m : Moved X H s.heap h' ch) : HOk X.prog X.w H h' := fun a o e =>
  (J.hok a o e).stay (fun b u hb q => m.keep b u q (fun z => by
    rcases hb with rfl | hb
    · rw [(m.new _ z).2] at e; cases e
    · rw [(m.new _ z).2] at hb; cases hb) (fun z => by
    rcases hb with rfl | hb
    · rw [J.stkFree _ z] at e; cases e
    · rw [J.stkFree _ z] at hb; cases hb)) (fun _ q => q) fun _ _ q => q
/-- what is not there at a state is new since the entry, and untracked -/
theorem Inv.away (J : Inv X pins σ H s) (hex : X.ex = []) {b : Addr} (e : s.heap.get? b = none) : X.s₀.heap.get? b = none ∧ H b = none := by
  refine ⟨none_back (fun c o q => J.base.there c o q (by rw [hex]; simp)) e, ?_⟩
  cases q : H b with
  | none => rfl
  | some o =>
    obtain ⟨u, e'⟩ := (J.hok b o q).has
    rw [e] at e'
    cases e'
theorem MvR.moved {ch : List Addr} (m : MvR (frs X.stack) ch s.heap h') (n : ∀ b ∈ ch, X.s₀.heap.get? b = none ∧ H b = none) : Moved X H s.heap h' ch := ⟨m.keep, m.slot, n⟩
/-- an exception on its way leaves the def -/
theorem leave_on {E : Value → Shared → Prop} {Q : Unit → Shared → Prop} (J : Inv X pins σ H s) (hst : X.stack = X.env :: X.outer) (hfr : X.env.frame = some X.env.locals) (hex : X.ex = []) (t : Trac X.s₀.heap H s.heap ea cls)
    (hQ : ∀ s'' : Shared, s''.os = X.s₀.os → AllBare s''.gens → Un X.fs [] X.H₀ H X.s₀.heap s''.heap → HOk X.prog X.w H s''.heap → Trac X.s₀.heap H s''.heap ea cls → Q () s'') :
    wpAny (model X.prog X.w) X.A (leaving X.env (.ref ea)) Q E s := by
  obtain ⟨T, x, ⟨y1, y2⟩, z1, z2⟩ := t
  have F := J.stack
  rw [hst] at F
  unfold leaving
  refine wpAny_bind (note_next (by rw [J.ok.frames, hst]) F hfr x fun h1 T1 m1 n1 t1 => ?_)
  have nf : T1 ∉ frs (X.env :: X.outer) := fun z => by
    obtain ⟨_, o, e, _⟩ := F.mem z
    rw [n1] at e
    cases e
  refine flight_end (s := { s with heap := h1 }) (fr := frs (X.env :: X.outer)) t1 nf fun h2 m2 t2 => ?_
  have m := m1.trans m2 (ch3 := [ea, T]) (fun _ z => z) fun b hb => .inr (by rw [List.mem_singleton.mp hb]; exact n1)
  rw [← hst] at m
  have mv : Moved X H s.heap h2 [ea, T] := m.moved fun b hb => by
    rcases List.mem_cons.mp hb with rfl | hb
    · exact ⟨y1, z1⟩
    · rw [List.mem_singleton.mp hb]
      exact ⟨y2, z2⟩
  have a1 := J.away hex n1
  exact hQ { s with heap := h2 } J.os J.bare (mv.un J hex) (mv.hok J) ⟨T1, t2, ⟨y1, a1.1⟩, z1, a1.2⟩
/-- an exception just made leaves the def -/
theorem leave_made {E : Value → Shared → Prop} {Q : Unit → Shared → Prop} {args : List Value} (J : Inv X pins σ H s) (hst : X.stack = X.env :: X.outer) (hfr : X.env.frame = some X.env.locals) (hex : X.ex = []) (mx : Heap.MadeExcOf s.heap h' ea cls args)
    (hQ : ∀ s'' : Shared, s''.os = X.s₀.os → AllBare s''.gens → Un X.fs [] X.H₀ H X.s₀.heap s''.heap → HOk X.prog X.w H s''.heap → Trac X.s₀.heap H s''.heap ea cls → Q () s'') :
    wpAny (model X.prog X.w) X.A (leaving X.env (.ref ea)) Q E { s with heap := h' } := by
  obtain ⟨t, he, _, _⟩ := mx.there
  have J2 : Inv X pins σ H { s with heap := h', toks := s.toks } := J.kept mx.keeps
  have F := J2.stack
  rw [hst] at F
  unfold leaving
  refine wpAny_bind (note_made (s := { s with heap := h' }) (by rw [J.ok.frames, hst]) F hfr he rfl rfl rfl rfl fun h1 T1 m1 n1 t1 => ?_)
  have nf : T1 ∉ frs (X.env :: X.outer) := fun z => by
    obtain ⟨_, o, e, _⟩ := F.mem z
    rw [n1] at e
    cases e
  refine flight_end (s := { s with heap := h1 }) (fr := frs (X.env :: X.outer)) t1 nf fun h2 m2 t2 => ?_
  have m := m1.trans m2 (ch3 := [ea]) (fun _ z => z) fun b hb => .inr (by rw [List.mem_singleton.mp hb]; exact n1)
  rw [← hst] at m
  have a0 := J.away hex mx.new
  have a1 := J2.away hex n1
  have mv : Moved X H h' h2 [ea] := MvR.moved (s := { s with heap := h' }) m fun b hb => by
    rw [List.mem_singleton.mp hb]
    exact a0
  exact hQ { s with heap := h2 } J.os J.bare (mv.un J2 hex) (mv.hok J2) ⟨T1, t2, ⟨a0.1, a1.1⟩, a0.2, a1.2⟩
end
section
variable {P : Program} {w : World} {K : PySem.W.Frag} {mg : Str → Option Value} {base : Heap} {N : List Str} {qual : Str} {scope : Scope} {f : Addr} {cd : Value} {A : Around} {outer : List Env} {s0 : Shared} {H0 : Hp} {E : XK}
/-- a callee's exception passes on through a def that wishes the same of it -/
theorem pass1 : Passes (CX1 P w) (cxOf (CX1 P w) P w K mg base N qual scope f cd A outer s0 H0 E) E := by
  intro pins σ H s e s' I h
  obtain ⟨ea, cls, H', rfl, os, bare, un, ok, t, q⟩ := h
  have J : Inv (cxOf (CX1 P w) P w K mg base N qual scope f cd A outer s0 H0 E) pins σ H' s' := I.call' (ch := []) os un ok bare fun b z => absurd z (by simp)
  have t0 := t.back fun b o e => I.base.there b o e (by intro z; cases z)
  exact leave_on J rfl rfl rfl t0 fun s'' o1 o2 o3 o4 o5 => ⟨ea, cls, H', rfl, o1, o2, o3, o4, o5, q⟩
end
end L2

set_option Elab.async false
set_option linter.all false
set_option maxRecDepth 100000
namespace L2
open PySem PySem.Spec PyProof.Rows

/-- the classes behind an own exception's class that are built in -/
abbrev veMro : List Value := [.type "ValueError", .type "Exception", .type "BaseException", .type "object"]
/-- an own exception class of the text: what stands behind it in its order -/
structure XC (K : PySem.W.Frag) (C : Addr) (bm : List Value) : Prop where
  lk : ∃ nm q N bs hdct sn sub ab col dd k0 k1 k2 k3 k5, K.lookup C = some (excClassObj nm q C N bs bm hdct sn sub ab col dd k0 k1 k2 k3 k5 "ValueError.__new__") ∧ PySem.W.nsOkIn K N = true ∧ PySem.W.nsIn K N "__init__" = some none
  tl : PySem.W.tailIn K veMro bm = true
/-- an exception just made reaches what is wished -/
def Lands (X : Cx) (E : XK) : Prop := ∀ (pins : List (Addr × Obj)) (σ : St) (H : Hp) (s : Shared) (h' : Heap) (ea C : Addr) (args : List Value), Inv X pins σ H s → Heap.MadeExcOf s.heap h' ea (.ref C) args → E (.ref C) none H → X.xe (.ref ea) { s with heap := h' }
section
variable {X : Cx} {x : Str} {C : Addr} {bm : List Value} {e : Expr} {es : List Expr} {t : TA} {E : XK} {np cpos pos : Pos}
theorem ps_raise (c : XC X.K C bm) (hm : X.mg x = some (.ref C)) (hL : Lands X E) (ha : PA X (e :: es) t) (hg : Gl X x := by rfl) (hc : X.calm = true := by rfl) (hd : (x == ("__debug__" : Str)) = false := by decide)
    (he : starEach (e :: es) X.env = (false, eval e X.env) :: starEach es X.env := by rfl) (hpl : (backTo cpos (starEach es X.env)).any (·.1) = false := by rfl) :
    PS X (.Raise (some (.Call (.Name x np) (e :: es) [] cpos)) none pos) (fun _ σ H => t σ H fun vs H1 => vs.length ≤ sizeLine ∧ E (.ref C) none H1) := by
  intro pins s σ H D I h
  obtain ⟨⟨nm, q, N, bs, hdct, sn, sub, ab, col, dd, k0, k1, k2, k3, k5, lk, hok, hin⟩, tl⟩ := c
  have T0 : OwnTail s.heap veMro bm := PySem.W.tail_of_in I.kIn tl
  refine wpAny_Raise_call_subT (C := C) (nm := nm) (q := q) (N := N) (bs := bs) (bm := bm) (hdct := hdct) (sn := sn) (sub := sub) (ab := ab) (col := col) (dd := dd) (k0 := k0) (k1 := k1) (k2 := k2) (k3 := k3) (k5 := k5)
    F.excBase_ValueError (mN := X.base.nsMap N) (T0.hasType F.excBase_ValueError.hasBase) (I.ok.hd hc) (by rw [he]; show (false || (backTo cpos (starEach es X.env)).any (·.1)) = false; rw [hpl]; rfl)
    (PySem.W.nsMap_none_of_in I.ok.mod.kin hok hin) (ld_glob I hg hm ⟨rfl, ?_⟩ hd)
  have hA := ha cpos pins s σ H _ I h
  rw [he] at hA ⊢
  refine Calls.evalArgs_plain (thn hA fun us s2 ⟨vs, H2, I2, r2, z2, q2⟩ => ⟨rfl, by rw [← r2.length]; exact z2, I2.kIn _ _ lk, ?_, PySem.W.tail_of_in I2.kIn tl, fun h' ea hx => hL pins σ H2 s2 h' ea C us I2 hx q2⟩)
  exact (Heap.Ns.of_isNs (PySem.W.isNs_of_in I.ok.mod.kin hok)).keeps I2.bk
end
section
variable {P : Program} {w : World} {K : PySem.W.Frag} {mg : Str → Option Value} {base : Heap} {N : List Str} {qual : Str} {scope : Scope} {f : Addr} {cd : Value} {A : Around} {outer : List Env} {s0 : Shared} {H0 : Hp} {E : XK}
/-- .. and leaves the def -/
theorem lands1 : Lands (cxOf (CX1 P w) P w K mg base N qual scope f cd A outer s0 H0 E) E := by
  intro pins σ H s h' ea C args I mx hE
  exact leave_made I rfl rfl rfl mx fun s'' o1 o2 o3 o4 o5 => ⟨ea, .ref C, H, rfl, o1, o2, o3, o4, o5, hE⟩
end
end L2

set_option Elab.async false
set_option linter.all false
set_option maxRecDepth 100000
/-! exceptions: try, with a name for what is caught -/
namespace L2
open PySem PySem.Spec PyProof.Rows
section
variable {X : Cx} {pins pins2 : List (Addr × Obj)} {σ : St} {H H' : Hp} {s s' : Shared} {ea : Addr} {cls : Value} {h' : Heap}
/-- new since the entry, untracked, none of ours -/
def Away (X : Cx) (pins : List (Addr × Obj)) (H : Hp) (b : Addr) : Prop := (X.s₀.heap.get? b = none ∧ H b = none) ∧ b ≠ X.env.locals ∧ (∀ x c, X.env.cells.lookup x = some c → c ≠ b) ∧ ∀ p ∈ X.pn ++ pins, p.1 ≠ b
theorem Inv.awayN (I : Inv X pins σ H s) (hex : X.ex = []) {b : Addr} (e : s.heap.get? b = none) (hn : H' b = none) : Away X pins H' b := by
  refine ⟨⟨(I.away hex e).1, hn⟩, fun z => ?_, fun x c hc z => ?_, fun p hp z => ?_⟩
  · obtain ⟨m, ⟨o, _, _, ho, _⟩, _⟩ := I.loc
    rw [← z, e] at ho
    cases ho
  · obtain ⟨v, o, ho, _⟩ := I.cell x c hc
    rw [z, e] at ho
    cases ho
  · have := (I.pin p hp).1
    rw [z, e] at this
    cases this
/-- frames' slots and records of ours that are away have changed -/
theorem Inv.moved {ch : List Addr} (J : Inv X pins σ H s) (hex : X.ex = []) (m : MvR (frs X.stack) ch s.heap h') (n : ∀ b ∈ ch, Away X pins H b) : Inv X pins σ H { s with heap := h' } := by
  have mv : Moved X H s.heap h' ch := m.moved fun b hb => (n b hb).1
  have no : ∀ b o, X.s₀.heap.get? b = some o → b ∉ ch := fun b o e z => by
    rw [(n b z).1.1] at e
    cases e
  have k := J.ok
  have ok2 : ({ X with ex := ch } : Cx).Ok := ⟨k.mod, k.kind, k.glob, k.blt, k.above, k.inj, k.has, k.cab, k.hd, k.frames, k.stk, fun b hb => ⟨(n b hb).2.1, (n b hb).2.2.1⟩, k.bs, k.bsz, fun b o e => no b o (k.bs b o e).1, fun b hb z => by
    obtain ⟨_, o, e, _⟩ := k.funs.mem z
    exact no b o e hb, k.funs, k.frf⟩
  have J2 : Inv { X with ex := ch } pins σ H s := ⟨ok2, J.os, J.bare, J.base.mono (fun _ z => z) (fun b z => by rw [hex] at z; cases z), J.loc, J.cell, J.free, J.freeC, J.pin, J.hok, J.len⟩
  have un : Un (frs X.stack) ch H H s.heap h' := by
    refine ⟨fun b o e _ hb hx => m.keep b o e hx hb, fun b o e _ hb _ => m.slot b o e hb, fun _ _ _ z _ => z, fun b o e hx => ?_, fun _ _ q => q, fun _ _ _ q => q, fun _ ps q => ⟨#[], by rw [q]; simp⟩⟩
    by_cases hb : b ∈ frs X.stack
    · obtain ⟨sl, q⟩ := m.slot b o e hb
      exact ⟨_, q⟩
    · exact ⟨_, m.keep b o e hx hb⟩
  have hk : HOk X.prog X.w H h' := mv.hok J
  have J3 : Inv { X with ex := ch } pins σ H { s with heap := h' } := J2.call' (ch := ch) rfl un hk J.bare fun b hb => ⟨.inl hb, (n b hb).2.1, (n b hb).2.2.1, (n b hb).2.2.2⟩
  exact ⟨J.ok, J3.os, J3.bare, hex ▸ mv.un J hex, J3.loc, J3.cell, J3.free, J3.freeC, J3.pin, J3.hok, J3.len⟩
/-- the loops' records of the statement are named, for all that runs within it -/
abbrev Cx.pinned (X : Cx) (pins : List (Addr × Obj)) (A : Around) (calm : Bool) (xe : Value → Shared → Prop) : Cx := { X with pn := X.pn ++ pins, A := A, calm := calm, xe := xe }
theorem Inv.atTry (I : Inv X pins σ H s) {A : Around} {calm : Bool} {xe : Value → Shared → Prop} (h1 : calm = true → A.handled = none) (h2 : A.frames = X.A.frames) : Inv (X.pinned pins A calm xe) [] σ H s := by
  have k := I.ok
  exact ⟨⟨k.mod, k.kind, k.glob, k.blt, k.above, k.inj, k.has, k.cab, h1, h2.trans k.frames, k.stk, k.exf, k.bs, k.bsz, k.noex, k.exfs, k.funs, k.frf⟩, I.os, I.bare, I.base, I.loc, I.cell, I.free, I.freeC, fun p hp => I.pin p (by simpa using hp), I.hok, I.len⟩
theorem Inv.offTry {A : Around} {calm : Bool} {xe : Value → Shared → Prop} (ok : X.Ok) (I : Inv (X.pinned pins A calm xe) pins2 σ H s) : Inv X pins σ H s :=
  ⟨ok, I.os, I.bare, I.base, I.loc, I.cell, I.free, I.freeC, fun p hp => I.pin p (List.mem_append_left _ hp), I.hok, I.len⟩
/-- an exception that comes to a try, with what is wished of it there -/
def Comes (X : Cx) (pins : List (Addr × Obj)) (E : St → XK) (e : Value) (s' : Shared) : Prop :=
  ∃ (σ : St) (H : Hp) (ea T : Addr) (cls : Value), e = .ref ea ∧ Inv X pins σ H s' ∧ TrR s'.heap ea T cls .none ∧ Away X pins H ea ∧ Away X pins H T ∧ E σ cls none H
/-- the context of a try's body -/
abbrev Cx.catch (X : Cx) (pins : List (Addr × Obj)) (E : St → XK) : Cx := X.pinned pins X.A X.calm (Comes X pins E)
end
/-- a call's wish about an exception may hang on the names' values -/
def tCallS (sp : Sp) (E : St → XK) (t : TA) : TE := fun σ H Q => t σ H fun vs H1 => sp vs H1 Q (E σ)
section
variable {X : Cx} {pins : List (Addr × Obj)} {E : St → XK} {k : Nat} {f : Addr} {fd : FuncData} {ps : List Str} {sp : Sp} {x : Str} {p pos : Pos} {e : Expr} {es : List Expr} {t : TA}
theorem pe_callS (ok : X.Ok) (hex : X.ex = []) (F : FnOk X.prog X.w X.K X.mg X.base (CX1 X.prog X.w) k f fd ps sp) (hr : Room k X.A) (hm : X.mg x = some (.ref f)) (hk : PySem.W.keepIn X.K (.ref f) = true) (hb : Binds X.K fd ps [])
    (ha : PA (X.catch pins E) (e :: es) t) (hg : Gl X x := by rfl) (hdb : (x == ("__debug__" : Str)) = false := by decide) (he : starEach (e :: es) X.env = (false, eval e X.env) :: starEach es X.env := by rfl) (hpl : (backTo pos (starEach es X.env)).any (·.1) = false := by rfl) :
    PE (X.catch pins E) (.Call (.Name x p) (e :: es) [] pos) (tCallS sp E t) := by
  intro pins2 s σ H Q I h
  refine wpAny_Call_Name_kw (ld_glob I hg hm ?_ hdb)
  refine PySem.W.callWith_K (h₀ := X.base) I.ok.mod.kin hk (thn (ha pos pins2 s σ H _ I h) fun us s1 ⟨vs, H1, I1, r, q⟩ => ⟨I1.kIn, ?_⟩) he hpl
  have hl : (us ++ []).length = ps.length := by rw [List.append_nil, ← r.length]; exact F.len _ _ _ _ q
  have hbb := hb s1 us I1.kIn hl
  rw [List.append_nil] at hbb
  refine wpAny_call (codeAny_mono (F.run X.A X.stack s1 H1 ⟨us, []⟩ us vs Q (E σ) hr I1.env0 hbb r q) fun r s' hq => ?_)
  cases r with
  | error e =>
    obtain ⟨ea, cls, H', rfl, os, bare, un, ok', ⟨T, t1, ⟨y1, y2⟩, z1, z2⟩, hE⟩ := hq
    have J : Inv (X.catch pins E) pins2 σ H' s' := I1.call' (ch := []) os un ok' bare fun b z => absurd z (by simp)
    have w1 : Inv X pins σ H1 s1 := I1.offTry ok
    exact ⟨σ, H', ea, T, cls, rfl, J.offTry ok, t1, w1.awayN hex y1 z1, w1.awayN hex y2 z2, hE⟩
  | ok fl =>
    cases fl with
    | ret u => exact I1.after hq
    | next => exact False.elim hq
    | brk => exact False.elim hq
    | cont => exact False.elim hq
end
end L2

set_option Elab.async false
set_option linter.all false
set_option maxRecDepth 100000
namespace L2
open PySem PySem.Spec PyProof.Rows
section
variable {X : Cx} {pins : List (Addr × Obj)} {σ : St} {H H' : Hp} {s s' : Shared} {ea : Addr} {cls : Value} {h' : Heap}
/-- an object of ours that is away is tracked from now on -/
theorem Inv.trackA {a : Addr} {o : HO} (I : Inv X pins σ H s) (hex : X.ex = []) (w : Away X pins H a) (new : ObjOk X.prog X.w (upd H a o) s.heap a o) : Inv X pins σ (upd H a o) s := by
  obtain ⟨⟨w1, w2⟩, w3, w4, w5⟩ := w
  have ne : ∀ b u, H b = some u → b ≠ a := fun b u e z => by rw [z, w2] at e; cases e
  have U := I.base
  rw [hex] at U
  have n0 : ∀ b o, X.s₀.heap.get? b = some o → b ≠ a := fun b o e z => by rw [z, w1] at e; cases e
  refine ⟨I.ok, I.os, I.bare, ?_, I.loc, I.cell, (upd_ne (Ne.symm w3)).trans I.free, fun x c e => (upd_ne (w4 x c e)).trans (I.freeC x c e), fun p hp => ?_, fun b u e => ?_, I.len⟩
  · rw [hex]
    refine ⟨U.keep, U.slot, fun b o e n hx => (upd_ne (n0 b o e)).trans (U.free b o e n hx), U.there, fun b xs q => ?_, fun b ob u q => ?_, fun b ps q => ?_⟩
    · have := U.tups b xs q
      exact (upd_ne (ne _ _ this)).trans this
    · have := U.frzs b ob u q
      exact (upd_ne (ne _ _ this)).trans this
    · obtain ⟨more, this⟩ := U.tbls b ps q
      exact ⟨more, (upd_ne (ne _ _ this)).trans this⟩
  · obtain ⟨y1, y2, y3⟩ := I.pin p hp
    exact ⟨y1, (upd_ne (w5 p hp)).trans y2, y3⟩
  · by_cases c : b = a
    · subst c
      rw [upd_same] at e
      cases e
      exact new
    · rw [upd_ne c] at e
      exact (I.hok b u e).stay (fun _ _ _ q => q) (fun d q => (upd_ne (ne _ _ q)).trans q) fun d xs q => (upd_ne (ne _ _ q)).trans q
/-- the names are given up -/
theorem Inv.lost {m' : Str → Option Value} {t' : Nat} (I : Inv X pins σ H s) (hn : h'.Ns X.env.locals m') (sb : Heap.SameBut X.env.locals s.heap h') : Inv X pins (List.replicate X.N.length none) H { s with heap := h', toks := t' } := by
  have U := I.base
  have n0 : ∀ b o, X.s₀.heap.get? b = some o → b ≠ X.env.locals := fun b o e z => by
    have l1 := Heap.lt_size e
    rw [z] at l1
    exact absurd l1 (Nat.not_lt.mpr I.ok.above)
  have oth : ∀ b, b ≠ X.env.locals → h'.get? b = s.heap.get? b := fun b hb => sb.2 b hb
  have tr : ∀ b u, H b = some u → b ≠ X.env.locals := fun b u e z => by rw [z, I.free] at e; cases e
  refine ⟨I.ok, I.os, I.bare, ⟨fun b o e n hb hx => (oth b (n0 b o e)).trans (U.keep b o e n hb hx), fun b o e n hb hx => ?_, U.free, fun b o e hx => ?_, U.tups, U.frzs, U.tbls⟩, ⟨m', hn, fun i x v _ h2 _ => ?_⟩, fun x c e => ?_, I.free, I.freeC, fun p hp => ?_, fun b u e => ?_, List.length_replicate⟩
  · obtain ⟨sl, q⟩ := U.slot b o e n hb hx
    exact ⟨sl, (oth b (n0 b o e)).trans q⟩
  · obtain ⟨o', q⟩ := U.there b o e hx
    exact ⟨o', (oth b (n0 b o e)).trans q⟩
  · rw [List.getElem?_replicate] at h2
    split at h2 <;> cases h2
  · obtain ⟨v, o, q1, q2⟩ := I.cell x c e
    exact ⟨v, o, (oth c (I.cne x c e)).trans q1, q2⟩
  · obtain ⟨y1, y2, y3, y4⟩ := I.pin p hp
    exact ⟨(oth p.1 y3).trans y1, y2, y3, y4⟩
  · refine (I.hok b u e).stay (fun c v hc q => (oth c ?_).trans q) (fun _ q => q) fun _ _ q => q
    rcases hc with rfl | hc
    · exact tr _ _ e
    · exact tr _ _ hc
/-- what is known of a caught exception -/
def excIs (ea : Addr) (cls : Value) (h : Heap) : Prop := ∃ (o : Obj) (vs : Array Value), h.get? ea = some o ∧ (o.cls = cls ∧ o.dict = none) ∧ o.data = .fields vs ∧ vs[2]? = some .none
theorem excIs.ok {P : Program} {w : World} {H : Hp} {h : Heap} (x : excIs ea cls h) : ObjOk P w H h ea (.ext (excIs ea cls)) := by
  refine ⟨x, ?_, fun h1 h2 ⟨o, vs, e, r⟩ k => ⟨o, vs, k o e, r⟩⟩
  obtain ⟨o, _, e, _⟩ := x
  exact ⟨o, e⟩
end
/-- the context of an except suite -/
abbrev Cx.suite (X : Cx) (pins : List (Addr × Obj)) (ea : Addr) : Cx := X.pinned pins (X.A.mark (some (.ref ea))) false fun _ _ => False
/-- a try whose suite returns; E: how an exception is met -/
def tMeet (K : PySem.W.Frag) (C : Addr) (i : Nat) (ts : Addr → TS) (D : Ends) : St → XK := fun σ cls _ H => PySem.W.exmOne K cls (.ref C) = some true ∧ ∀ ea, H ea = none → ts ea { nx := fun _ _ => False, rt := D.rt } (σ.set i (some (.ref ea))) (upd H ea (.ext (excIs ea cls)))
section
variable {X : Cx} {body : List Stmt} {b₀ : Stmt} {suite : List Stmt} {cx n : Str} {C : Addr} {np hpos pos : Pos} {i : Nat} {tb : (St → XK) → TS} {ts : Addr → TS}
theorem ps_tryAs (hst : X.stack = X.env :: X.outer) (hfr : X.env.frame = some X.env.locals) (hex : X.ex = []) (hN : X.N.Nodup) (hi : X.N[i]? = some n) (hloc : X.env.scope.names.lookup n = some .local) (hm : X.mg cx = some (.ref C))
    (hb : ∀ pins (E : St → XK), X.Ok → PSs (X.catch pins E) body (tb E)) (hs : ∀ pins ea, PSs (X.suite pins ea) (b₀ :: suite) (ts ea)) (hg : Gl X cx := by rfl) (hk : X.env.kindOf n = some .local := by rfl) (hd : (cx == ("__debug__" : Str)) = false := by decide) :
    PS X (.Try body [.ExceptHandler (some (.Name cx np)) (some n) (b₀ :: suite) hpos] [] [] pos) (fun D σ H => tb (tMeet X.K C i ts D) D σ H) := by
  intro pins s σ H D I h
  refine wpAny_Try_except (wpAny_mono (hb pins (tMeet X.K C i ts D) I.ok [] s σ H D (I.atTry I.ok.hd rfl) h) (fun f s1 q => ?_) fun e s1 q => ?_)
  · cases f with
    | next =>
      obtain ⟨σ1, H1, J, q⟩ := q
      exact pss_nil pins s1 σ1 H1 D (J.offTry I.ok) q
    | brk => obtain ⟨σ1, H1, J, q⟩ := q; exact ⟨σ1, H1, J.offTry I.ok, q⟩
    | cont => obtain ⟨σ1, H1, J, q⟩ := q; exact ⟨σ1, H1, J.offTry I.ok, q⟩
    | ret u => obtain ⟨v, σ1, H1, J, r, q⟩ := q; exact ⟨v, σ1, H1, J.offTry I.ok, r, q⟩
  obtain ⟨σ1, H1, ea, T, cls, rfl, J, t, aE, aT, hE, hS⟩ := q
  have F := J.stack
  rw [hst] at F
  refine note_next (by rw [J.ok.frames, hst]) F hfr t fun h1 T1 m1 n1 t1 => ?_
  have aT1 : Away X pins H1 T1 := J.awayN hex n1 (J.away hex n1).2
  have nf : T1 ∉ frs (X.env :: X.outer) := fun z => by
    obtain ⟨_, o, e, _⟩ := F.mem z
    rw [n1] at e
    cases e
  rw [← hst] at m1 nf
  have J1 : Inv X pins σ1 H1 { s1 with heap := h1 } := J.moved hex m1 fun b hb => by
    rcases List.mem_cons.mp hb with rfl | hb
    · exact aE
    · rw [List.mem_singleton.mp hb]; exact aT
  have aw : ∀ b ∈ [T1], Away X pins H1 b := fun b hb => by rw [List.mem_singleton.mp hb]; exact aT1
  refine flight_end (s := { s1 with heap := h1 }) (fr := frs X.stack) t1 nf fun h2 m2 t2 => ?_
  have J2 : Inv X pins σ1 H1 { s1 with heap := h2 } := J1.moved hex m2 aw
  refine wpAny_handleBy_cons (codeAny_handlers_test ?_) (by intro q; cases q)
  have I2 : Inv (X.suite pins ea) [] σ1 H1 { s1 with heap := h2 } := J2.atTry (fun z => by cases z) rfl
  refine ld_glob (X := X.suite pins ea) I2 hg hm ?_ hd
  have LT : PySem.W.Looks (model X.prog X.w) h2 (typeOf (.ref ea)) cls := by
    obtain ⟨oe, vs, _, _, e1, e2, _⟩ := t2
    exact e2.1 ▸ (PySem.W.Looks.ld e1).andThen .now
  refine PySem.W.exm_one (K := X.K) J2.kIn LT hE _ _ _ _ (fun _ _ e => e) ?_
  refine codeAny_handlers_suite_as ?_
  refine flight_end (s := { s1 with heap := h2 }) (fr := frs X.stack) t2 nf fun h3 m3 t3 => ?_
  have J3 : Inv X pins σ1 H1 { s1 with heap := h3 } := J2.moved hex m3 aw
  have x3 : excIs ea cls h3 := by
    obtain ⟨oe, vs, _, _, e1, e2, e3, _, e5, _⟩ := t3
    exact ⟨oe, vs, e1, e2, e3, e5⟩
  have J4 := J3.trackA hex aE (o := .ext (excIs ea cls)) x3.ok
  refine store_ok J4 hN hi (.inl hloc) (v := .ref ea) rfl (fun s4 J5 => ?_) (.inr hloc)
  refine wpAny_mono (hs pins ea [] s4 _ _ _ (J5.atTry (fun z => by cases z) rfl) (hS ea aE.1.2)) (fun f s5 q => ?_) fun _ _ z => False.elim z
  cases f with
  | next => obtain ⟨_, _, _, q⟩ := q; exact False.elim q
  | brk => obtain ⟨_, _, _, q⟩ := q; exact False.elim q
  | cont => obtain ⟨_, _, _, q⟩ := q; exact False.elim q
  | ret u =>
    obtain ⟨v, σ6, H6, J6, r, q⟩ := q
    have J7 : Inv X pins σ6 H6 s5 := J6.offTry I.ok
    obtain ⟨m, hn, _⟩ := id J7.loc
    exact wpAny_nameGoes hk hn (by rw [J7.ok.kind]; rfl) fun h8 m8 hn8 sb8 => ⟨v, _, H6, J7.lost hn8 sb8, r, q⟩
end
end L2

set_option Elab.async false
set_option linter.all false
set_option maxRecDepth 100000
/-! isinstance of a caught exception -/
namespace L2
open PySem PySem.Spec PySem.Calls PyProof.Rows PySem.W
section
variable {prog : Program} {w : World} {A : Around} {E : Value → Shared → Prop} {h : Heap} {g : Array GenState} {d : Drawn} {t : Nat} {os : OsState} {K : Frag} {a C : Addr} {ox : Obj}
/-- what the written part tells of an own exception class -/
structure XI (K : Frag) (C : Addr) : Prop where
  ga : findIn K (.ref C) "__getattribute__" = some (some (.builtin "BaseException.__getattribute__"))
  gt : findIn K (.ref C) "__getattr__" = some none
  cl : findIn K (.ref C) "__class__" = some (some (.builtin "object.__class__"))
  ob : mroIn K C (.type "object") = some true
  be : subIn K (.ref C) (.type "BaseException") = some true
theorem xi_entry {tk : Tok} {Q : Fin → Shared → Prop} (X : K.In h) (I : InstAt h a ox C none) (c : XI K C) (hq : Q (.done (.ret (.ref C))) ⟨h, g, d, t, os⟩) :
    wpAny (model prog w) A (Builtin.«object.__getattribute__» ⟨[.ref a, .str "__class__" tk], []⟩) Q E ⟨h, g, d, t, os⟩ := by
  have l0 := I.type (M := model prog w)
  have l1 := looks_findIn (M := model prog w) X c.cl
  have f5 := F.typeOf_object_class
  have f6 := F.slot_gs_get.lookup
  have f7 := F.slot_gs_set.lookup
  have hT5 : (⟨h, g, d, t, os⟩ : Shared).TypeIs (.builtin "object.__class__") "getset_descriptor" := F.typeOf_object_class
  repeat (any_goals (first | assumption | (with_reducible refine Looks.at l0 ?_) | (with_reducible refine Looks.at l1 ?_) | wp_step))
  refine class_get X I c.ob ?_
  repeat (any_goals (first | assumption | wp_step))
theorem xi_check {M : Model} {nameV : Value} {Q : Unit → Shared → Prop} (X : K.In h) (I : InstAt h a ox C none) (c : XI K C) (hq : Q () ⟨h, g, d, t, os⟩) : wpAny M A (checkBuiltinCall "BaseException.__getattribute__" ⟨[.ref a, nameV], []⟩) Q E ⟨h, g, d, t, os⟩ := by
  have l0 := I.type (M := M)
  have l1 : Looks M h (isSubtype (.ref C) (.type "BaseException")) true := looks_subIn X c.be
  have k1 : builtinKind "BaseException.__getattribute__" = some .slot := by decide +kernel
  have k2 : splitId "BaseException.__getattribute__" = some ("BaseException", "__getattribute__") := by decide +kernel
  have k3 := F.args_bexc_ga (.ref a) nameV
  simp only [checkBuiltinCall, k1, k2]
  refine wpAny_bind ?_
  unfold isInstance
  repeat (first | (with_reducible refine Looks.at l0 ?_) | (with_reducible refine Looks.at l1 ?_) | wp_step)
  exact hq
theorem xi_call {tk : Tok} {R : Result → Shared → Prop} (X : K.In h) (I : InstAt h a ox C none) (c : XI K C) (hq : R (.ok (.ret (.ref C))) ⟨h, g, d, t, os⟩) :
    codeAny (model prog w) A (.call (.builtin "BaseException.__getattribute__") ⟨[.ref a, .str "__class__" tk], []⟩) R ⟨h, g, d, t, os⟩ :=
  codeAny_call_builtin (F.attrBase_ValueError.ga.plain) F.entry_bexc_ga (xi_check X I c (xi_entry X I c hq))
theorem xi_by {tk : Tok} {Q : Value → Shared → Prop} (X : K.In h) (I : InstAt h a ox C none) (c : XI K C) (hq : Q (.ref C) ⟨h, g, d, t, os⟩) : wpAny (model prog w) A (getAttrBy (.ref a) (.str "__class__" tk) false) Q E ⟨h, g, d, t, os⟩ := by
  have l0 := I.type (M := model prog w)
  have l1 := looks_findIn (M := model prog w) X c.ga
  have l2 := looks_findIn (M := model prog w) X c.gt
  have f3 := F.attrBase_ValueError.ga.bind (.ref a)
  have x2 : (Value.builtin "BaseException.__getattribute__" == Value.builtin "object.__getattribute__") = false := by decide +kernel
  have x1 : (onTheHeap (Value.ref C) && Value.builtin "BaseException.__getattribute__" == Value.builtin "object.__getattribute__") = false := by rw [x2]; rfl
  repeat (any_goals (first | assumption | (with_reducible refine Looks.at l0 ?_) | (with_reducible refine Looks.at l1 ?_) | (with_reducible refine Looks.at l2 ?_) | wp_step))
  refine xi_call X I c ?_
  repeat (any_goals (first | assumption | wp_step))
theorem xi_attr {Q : Option Value → Shared → Prop} (X : K.In h) (I : InstAt h a ox C none) (c : XI K C) (hq : Q (some (.ref C)) ⟨h, g, d, t + 1, os⟩) : wpAny (model prog w) A (getAttr? (.ref a) "__class__") Q E ⟨h, g, d, t, os⟩ := by
  unfold getAttr? getAttrBy?
  repeat (any_goals (first | assumption | with_reducible apply xi_by X I c | wp_step))
/-- a caught exception, as an instance -/
theorem inst_of {h : Heap} {ea : Addr} (x : excIs ea (.ref C) h) : ∃ ox, InstAt h ea ox C none := by
  obtain ⟨o, vs, e, ⟨c, di⟩, da, _⟩ := x
  refine ⟨o, e, c, ?_, ?_⟩
  · obtain ⟨c1, d1, dt1, sl1⟩ := o
    cases da
    rfl
  · rw [di]
    trivial
theorem kitx_exc {bm : List Value} {ea : Addr} (xc : XC K C bm) (c : XI K C) : KitX K (.ref ea) (.ref C) (excIs ea (.ref C)) where
  ty := fun _ _ _ x => by
    obtain ⟨_, I⟩ := inst_of x
    exact I.type
  it := fun _ _ X _ => by
    obtain ⟨⟨nm, q, N, bs, hdct, sn, sub, ab, col, dd, k0, k1, k2, k3, k5, lk, _⟩, _⟩ := xc
    intro A' Q' E' s' k q
    unfold isType loadHead
    exact wpAny_bind (wpAny_loadPart (k _ _ (X _ _ lk)) (wpAny_pure q))
  ne := fun h tp dd' its n sl X htp => by
    obtain ⟨⟨nm, q, N, bs, hdct, sn, sub, ab, col, dd, k0, k1, k2, k3, k5, lk, _⟩, _⟩ := xc
    refine Bool.eq_false_iff.mpr fun q => ?_
    have e : C = tp := Value.ref.inj (beq_iff_eq.mp q)
    rw [← e, X _ _ lk] at htp
    have z : Value.type "type" = Value.type "tuple" := congrArg Obj.cls (Option.some.inj htp)
    exact absurd (Value.type.inj z) (by decide)
  ca := fun {_ _ _ _ _ s} X x k => by
    obtain ⟨ox, I⟩ := inst_of x
    obtain ⟨h, g, d, t, os⟩ := s
    exact xi_attr X I c k
end
/-- a class of the text, or a built-in one, as a value -/
inductive ClsV : V → Value → Prop where
  | own (C : Addr) : ClsV (.ref C) (.ref C)
  | ty (T : String) : ClsV (.ty T) (.type T)
theorem call_isiX {X : Cx} : CallR X (.builtin "isinstance") (fun xs H Q => ∃ (ea C : Addr) (bm : List Value) (y : V) (c : Value) (b : Bool), xs = [.ref ea, y] ∧ ClsV y c ∧ H ea = some (.ext (excIs ea (.ref C))) ∧ XC X.K C bm ∧ XI X.K C ∧ kitOne X.K (.ref C) c = some b ∧ Q (.bl b) H) := by
  intro pins s σ H xs us Q I r h
  obtain ⟨ea, C, bm, y, c, b, rfl, hy, hH, xc, xi, e, q⟩ := h
  obtain ⟨u, w', rfl, rx, ry⟩ := vals2 r
  cases (show u = Value.ref ea from rx)
  have x : excIs ea (.ref C) s.heap := (I.hok ea _ hH).1
  have hc : w' = c := by
    cases hy with
    | own C => exact ry
    | ty T => exact ry
  subst hc
  exact kia_one (kitx_exc xc xi) I.kIn x e (fun z => nomatch z) fun tk => ⟨.bl b, H, I.tok tk, rfl, q⟩
/-- the same, with the written part named -/
theorem isiXK {X : Cx} {K : Frag} (h : X.K = K) : CallR X (.builtin "isinstance") (fun xs H Q => ∃ (ea C : Addr) (bm : List Value) (y : V) (c : Value) (b : Bool), xs = [.ref ea, y] ∧ ClsV y c ∧ H ea = some (.ext (excIs ea (.ref C))) ∧ XC K C bm ∧ XI K C ∧ kitOne K (.ref C) c = some b ∧ Q (.bl b) H) := h ▸ call_isiX
end L2

set_option Elab.async false
set_option linter.all false
set_option maxRecDepth 100000
/-! any(..) of a list within an except suite -/
namespace L2
open PySem PySem.Spec PySem.Calls PyProof.Rows PySem.W
theorem entry_unchain : entryFor table "proto.unchain" = some Builtin.«proto.unchain» := entryFor_of_tree (by kernel_rfl)
section
variable {prog : Program} {w : World} {A : Around} {E : Value → Shared → Prop} {s : Shared} {ea : Addr} {oe : Obj} {vs : Array Value}
/-- a new exception is raised while another, of no context, is handled -/
theorem raise_new_h {α : Type} {e : Addr} {on : Obj} {ws : Array Value} {Q : α → Shared → Prop} (hh : A.handled = some (.ref ea)) (x1 : s.heap.get? ea = some oe) (x2 : oe.data = .fields vs) (x3 : vs[2]? = some .none) (hne : e ≠ ea) (y1 : s.heap.get? e = some on) (y2 : on.data = .fields ws) (y3 : 2 < ws.size)
    (h : E (.ref e) { s with heap := s.heap.update e (Obj.mapFields (·.setIfInBounds 2 (.ref ea))) }) : wpAny (model prog w) A (raiseNew (.ref e) : Sem α) Q E s := by
  unfold raiseNew
  refine wpAny_bind (wpAny_handled ?_)
  rw [hh]
  have d1 : (Value.ref ea != Value.ref e) = true := by simp [Ne.symm hne]
  simp only [d1, if_true]
  refine wpAny_bind (wpAny_holding (wpAny_runValue (codeAny_builtin entry_unchain ?_)))
  unfold Builtin.«proto.unchain»
  refine wpAny_bind (wpAny_field x1 x2 x3 ?_)
  refine wpAny_pure ?_
  show wpAny _ _ (setField (.ref e) 2 (.ref ea) >>= fun _ => throw (Value.ref e)) _ _ s
  exact wpAny_bind (wpAny_setField y1 y2 y3 (wpAny_throw h))
/-- a list's iterator at its end, while an exception is handled -/
theorem next_end_h {it l : Addr} {i : Nat} {items : Array Value} {Q : Option Value → Shared → Prop} (hh : A.handled = some (.ref ea)) (x1 : s.heap.get? ea = some oe) (x2 : oe.data = .fields vs) (x3 : vs[2]? = some .none) (hie : it ≠ ea)
    (hit : s.heap.IsListIter it l i) (hl : s.heap.IsList l items) (hx : items[i]? = none) (hQ : ∀ h', (∀ b o, b ≠ it → s.heap.get? b = some o → h'.get? b = some o) → Q none { s with heap := h' }) : wpAny (model prog w) A (pyNext (.ref it)) Q E s := by
  obtain ⟨o, ho, hc, hd⟩ := id hit
  obtain ⟨ol, hol, _, nl, hdl⟩ := hl
  unfold pyNext
  refine wpAny_bind (wpAny_attempt (wpAny_callSpecial?_slot (name := Str.ofString "__next__") hit.typeIs slot_listiter_next (wpAny_call_entry slot_listiter_next hit.typeIs entry_listiter_next ?_ (args_listiter_next _))))
  show wpAny _ _ (field (.ref it) 0 >>= fun _ => _) _ _ s
  refine wpAny_bind (wpAny_field ho hd (x := Value.ref l) rfl ?_)
  show wpAny _ _ (if (Value.ref l == Value.none) = true then _ else _) _ _ _
  rw [if_neg (by intro z; cases z)]
  show wpAny _ _ (field (.ref it) 1 >>= fun _ => _) _ _ _
  refine wpAny_bind (wpAny_field ho hd (x := Value.int i 0) rfl ?_)
  show wpAny _ _ (seqItems? (.ref l) >>= fun _ => _) _ _ _
  refine wpAny_bind (wpAny_seqItems hol hdl ?_)
  simp only [Int.toNat_natCast, hx]
  have d0 := Obj.data_mapFields hd (·.setIfInBounds 0 Value.none)
  refine wpAny_bind (wpAny_rule (wpAny_bind (wpAny_setField ho hd (by simp) ?_)))
  show wpAny _ _ (newExc (.type "StopIteration") [] >>= fun _ => _) _ _ _
  refine wpAny_bind ?_
  simp only [newExc, newTuple]
  refine wpAny_bind (wpAny_newObj_type ?_ (by size_fits))
  refine wpAny_bind (m := firstArgMember _ _) (wpAny_of_eq (a := Value.none) (by first | rfl | (simp only [firstArgMember]; rfl)) ?_)
  refine wpAny_newObj_type ?_ (by size_fits)
  have k1 : ∀ b u, b ≠ it → s.heap.get? b = some u → (s.heap.update it (Obj.mapFields (·.setIfInBounds 0 Value.none))).get? b = some u := fun b u hb e => (Heap.get?_update_other _ _ (Ne.symm hb)).trans e
  generalize s.heap.update it (Obj.mapFields (·.setIfInBounds 0 Value.none)) = h1 at k1 ⊢
  generalize hT : ({ cls := .type "tuple", data := .seq (List.toArray []) } : Obj) = oT
  have k2 : ∀ b u, b ≠ it → s.heap.get? b = some u → (h1.push oT).get? b = some u := fun b u hb e => Heap.get?_push_of_some _ (k1 b u hb e)
  generalize hO : ({ cls := .type "StopIteration", data := .fields _ } : Obj) = oN
  have nea : (h1.push oT).objs.size ≠ ea := Nat.ne_of_gt (Heap.lt_size (k2 ea oe (Ne.symm hie) x1))
  have hN : ((h1.push oT).push oN).get? (h1.push oT).objs.size = some oN := Heap.get?_push_size _ (by rw [← hO]; rfl)
  have hNd : ∃ ws, oN.data = .fields ws ∧ 2 < ws.size ∧ oN.cls = .type "StopIteration" := by
    rw [← hO]
    exact ⟨_, rfl, by simp; omega, rfl⟩
  obtain ⟨ws, w1, w2, w3⟩ := hNd
  refine raise_new_h (s := { s with heap := (h1.push oT).push oN }) hh (Heap.get?_push_of_some _ (k2 ea oe (Ne.symm hie) x1)) x2 x3 nea hN w1 w2 ?_
  refine wpAny_bind (wpAny_isInstance (T := "StopIteration") (b := true) ⟨_, Heap.get?_update_self _ hN (Obj.isFreed_of_fields (Obj.data_mapFields w1 _)), (Obj.cls_mapFields _ _).trans w3⟩ isSubtype_stop ?_)
  refine wpAny_pure (hQ _ fun b u hb e => ?_)
  have q := k2 b u hb e
  rw [Heap.get?_update_other _ _ (Nat.ne_of_gt (Heap.lt_size q))]
  exact Heap.get?_push_of_some _ q
/-- a list walked while an exception is handled -/
theorem walks_h {cls : Value} (hh : A.handled = some (.ref ea)) (I ax : Addr) (hne : ax ≠ I) (hIe : I ≠ ea) (items : Array Value) :
    Walks prog w A I [I, ax, ea] [I] items.size (fun i v => items[i]? = some v) (fun i h => (h.IsListIter I ax i ∧ h.IsList ax items) ∧ excIs ea cls h) where
  sub := fun b hb => by rw [List.mem_singleton.mp hb]; simp
  frame := fun _ _ _ st hk => by
    refine ⟨⟨st.1.1.at fun o e => hk I (by simp) o e, st.1.2.at fun o e => hk ax (by simp) o e⟩, ?_⟩
    obtain ⟨o, vs, e, r⟩ := st.2
    exact ⟨o, vs, hk ea (by simp) o e, r⟩
  item := fun i s Q E hi st hQ => by
    refine wpAny_pyNext_list_item st.1.1 st.1.2 (x := items[i]) (by simp [hi]) fun h' hit' hs' => ?_
    refine hQ _ h' s.toks (by simp [hi]) ⟨⟨hit', st.1.2.extBut hs'.extBut hne⟩, ?_⟩ fun b o hb e => hs'.extBut b o (fun z => hb (by simp [z])) e
    obtain ⟨o, vs, e, r⟩ := st.2
    exact ⟨o, vs, hs'.extBut ea o (Ne.symm hIe) e, r⟩
  done := fun s Q E st hQ => by
    obtain ⟨o, vs, e, _, r1, r2⟩ := st.2
    exact next_end_h hh e r1 r2 hIe st.1.1 st.1.2 (by simp) fun h' k => hQ h' s.toks fun b u hb q => k b u (fun z => hb (by simp [z])) q
  self := fun _ _ _ _ st hQ => wpAny_pyIter_listiter st.1.1 hQ
end
/-- any(..) of a list of bools within an except suite -/
theorem call_anyH {X : Cx} {ea : Addr} (hh : X.A.handled = some (.ref ea)) : CallR X (.builtin "any") (fun xs H Q => ∃ (p : Addr) (bs : List Bool) (cls : Value), xs = [.ref p] ∧ SqL X.K H p (bs.map V.bl) ∧ H ea = some (.ext (excIs ea cls)) ∧ Q (.bl (bs.any id)) H) := by
  intro pins s σ H xs us Q I r h
  obtain ⟨p, bs, cls, rfl, hq, hH, q⟩ := h
  obtain ⟨u, rfl, rx⟩ := vals1 r
  cases rx
  obtain ⟨its, rv, pl, hz⟩ := I.list hq
  have hb := bools_of rv
  have hl := pl.isList
  have x : excIs ea cls s.heap := (I.hok ea _ hH).1
  have lt1 : p < s.heap.objs.size := by
    obtain ⟨_, e, _⟩ := hl
    exact Heap.lt_size e
  have lt2 : ea < s.heap.objs.size := (I.hok ea _ hH).lt
  refine call_any_walk (wpAny_pyIter_list hl ⟨s.heap.objs.size, [s.heap.objs.size, p, ea], [s.heap.objs.size], its.toArray.size, _, _, fun i => (bs[i]?).getD false, rfl,
    walks_h (A := X.A.in1) (cls := cls) hh _ p (Nat.ne_of_lt lt1) (Nat.ne_of_gt lt2) its.toArray, ⟨⟨⟨_, Heap.get?_push_size _ rfl, rfl, rfl⟩, hl.push _⟩, ?_⟩, fun i v s' Q' E' hP hQ => ?_, fun h' tk hk => ?_⟩)
  · obtain ⟨o, vs, e, r⟩ := x
    exact ⟨o, vs, Heap.get?_push_of_some _ e, r⟩
  · obtain ⟨b, e, rfl⟩ := hb.get i v (by simpa using hP)
    simp only [e, Option.getD_some] at hQ
    exact wpAny_truthy_bool hQ
  · refine ⟨.bl (bs.any id), H, I.kept (LSm.kept_iter hk), ?_, q⟩
    show Value.bool _ = Value.bool _
    rw [List.size_toArray, hb.length, LSm.range_any]
theorem anyHK {X : Cx} {K : Frag} {ea : Addr} (h : X.K = K) (hh : X.A.handled = some (.ref ea)) : CallR X (.builtin "any") (fun xs H Q => ∃ (p : Addr) (bs : List Bool) (cls : Value), xs = [.ref p] ∧ SqL K H p (bs.map V.bl) ∧ H ea = some (.ext (excIs ea cls)) ∧ Q (.bl (bs.any id)) H) := h ▸ call_anyH hh
end L2

set_option Elab.async false
set_option linter.all false
set_option maxRecDepth 100000
/-! enumerate(l, start=k); isinstance of an own object -/
namespace L2
open PySem PySem.Spec PySem.Calls PyProof.Rows
section
variable {prog : Program} {w : World} {A : Around} {E : Value → Shared → Prop} {s : Shared}
end
/-! ### the iterator -/
section
variable {X : Cx} {elts : List Expr} {k : Nat} {tp : Pos}
end
/-! ### isinstance of an own object -/
structure TyC (K : PySem.W.Frag) (C : Addr) : Prop where
  ha : PySem.W.findIn K (.ref C) "__class__" = some (some (.builtin "object.__class__"))
  hn : PySem.W.specialIn K (.builtin "object.__class__") "__get__" = some (some (.builtin "getset_descriptor.__get__"))
  ht : PySem.W.takesIn K (.builtin "object.__class__") = some true
  hm : PySem.W.mroIn K C (.type "object") = some true
theorem TyC.of {K : PySem.W.Frag} {C : Addr} (t : TyC K C) {H : Hp} {x dx : Addr} {fs : List (Str × V)} (e : H x = some (.ins C dx fs)) (c : Cls K C) : TyOf K H (.ref x) (.ref C) := .ins e c t.ha t.hn t.ht t.hm
end L2

set_option Elab.async false
set_option linter.all false
set_option maxRecDepth 100000
/-! a, b, c = x, y, z -/
namespace L2
open PySem PySem.Spec PySem.Calls PyProof.Rows
section
variable {X : Cx} {pos : Pos}
end
end L2

set_option Elab.async false
set_option linter.all false
set_option maxRecDepth 100000
/-! a block cut in two: what holds between is said -/
namespace L2
open PySem PySem.Spec PySem.Calls PyProof.Rows
section
variable {X : Cx} {st : Stmt} {rest : List Stmt} {t : TS} {u : TS}
end
end L2

set_option Elab.async false
set_option linter.all false
set_option maxRecDepth 100000
/-! a comprehension whose element may raise -/
namespace L2
open PySem PySem.Spec PyProof.Rows
section
variable {M : Model} {A : Around} {E : Value → Shared → Prop} {s : Shared} {Q : Unit → Shared → Prop} {base : Heap} {env env' : Env} {outer : List Env} {L ea T : Addr} {cls fl : Value}
theorem note_env {e : Value} (h : env'.frame = env.frame) : noteFrame e env' = noteFrame e env := by
  unfold noteFrame PySem.frameOf
  rw [h]
/-- an entry, or none if the frame has noted it -/
theorem note_any (hfr : A.frames = some (env :: outer)) (hl : s.heap.FunFrames base (env :: outer)) (hf : env.frame = some L) (t : TrR s.heap ea T cls fl)
    (h : ∀ (h' : Heap) (T' : Addr) (fl' : Value), MvR (frs (env :: outer)) [ea, T] s.heap h' → (T' = T ∨ s.heap.get? T' = none) → TrR h' ea T' cls fl' → Q () { s with heap := h' }) : wpAny M A (noteFrame (.ref ea) env) Q E s := by
  have t0 := t
  obtain ⟨oe, vs, oT, ts, x1, ⟨rfl, xd⟩, x3, x4, x5, x6, x7, x8, x9⟩ := t
  have sz := (Array.getElem?_eq_some_iff.mp x9).1
  unfold noteFrame
  simp only [hf]
  refine wpAny_bind (wpAny_field x1 x3 x4 ?_)
  rw [if_pos (show (Value.ref T != Value.none) = true by simp)]
  refine wpAny_bind (wpAny_field x7 x8 x9 ?_)
  by_cases hc : (fl == rawInt L) = true
  · rw [if_pos hc]
    exact wpAny_pure (h s.heap T fl ⟨fun b o e _ _ => e, fun b o e _ => ⟨o.slots, e⟩⟩ (.inl rfl) t0)
  rw [if_neg hc]
  refine wpAny_bind (wpAny_setField x7 x8 sz ?_)
  have oth : ∀ b, b ≠ T → (s.heap.update T (Obj.mapFields (·.setIfInBounds 3 Value.none))).get? b = s.heap.get? b := fun b hb => Heap.get?_update_other _ _ (Ne.symm hb)
  have nT : T ∉ frs (env :: outer) := fun z => by
    obtain ⟨_, o, e, hn⟩ := hl.mem z
    rw [x7] at e
    cases e
    exact hn ts x8
  have up : (s.heap.update T (Obj.mapFields (·.setIfInBounds 3 Value.none))).get? T = some (oT.mapFields (·.setIfInBounds 3 Value.none)) := Heap.get?_update_self _ x7 (Obj.isFreed_of_fields (Obj.data_mapFields x8 _))
  refine entry_laid (s := { s with heap := s.heap.update T (Obj.mapFields (·.setIfInBounds 3 Value.none)) }) hfr (hl.of_keeps fun b o e hn => ⟨o, (oth b fun z => ?_).trans e, rfl⟩) hf ((oth ea (Ne.symm x6)).trans x1) x3 x5 xd fun h' T' m n t => ?_
  · rw [z, x7] at e
    cases e
    exact hn ts x8
  · refine h h' T' _ ⟨fun b o e hc hb => m.keep b o ((oth b fun z => hc (by simp [z])).trans e) (fun z => hc (by rw [List.mem_singleton.mp z]; simp)) hb, fun b o e hb => m.slot b o ((oth b fun z => nT (z ▸ hb)).trans e) hb⟩ (.inr ?_) t
    by_cases c : T' = T
    · rw [c] at n
      have n' : (s.heap.update T (Obj.mapFields (·.setIfInBounds 3 Value.none))).get? T = none := n
      rw [up] at n'
      cases n'
    · exact (oth T' c).symm.trans n
/-- the exception is thrown on -/
theorem pass_on {fr : List Addr} {what : String} {cenv : Env} (t : TrR s.heap ea T cls fl) (hn : T ∉ fr) (h : ∀ (h' : Heap) (fl' : Value), MvR fr [T] s.heap h' → TrR h' ea T cls fl' → E (.ref ea) { s with heap := h' }) :
    wpAny M A (PySem.passOn what (.ref ea) cenv : Sem Value) (fun _ _ => False) E s := by
  obtain ⟨oe, vs, oT, ts, x1, ⟨rfl, xd⟩, x3, x4, x5, x6, x7, x8, x9⟩ := t
  have sz := (Array.getElem?_eq_some_iff.mp x9).1
  unfold PySem.passOn setFlight
  refine wpAny_bind (wpAny_field x1 x3 x4 ?_)
  rw [if_neg (show ¬ ((Value.ref T == Value.none) = true) by simp)]
  refine wpAny_bind (wpAny_bind (wpAny_field x1 x3 x4 ?_))
  rw [if_pos (show (Value.ref T != Value.none) = true by simp)]
  refine wpAny_setField x7 x8 sz (wpAny_throw (h _ (cenv.frame.elim .none fun f => rawInt f) ?_ ?_))
  · exact ⟨fun b o e hc _ => (Heap.get?_update_other _ _ fun z => hc (by simp [z])).trans e, fun b o e hb => ⟨o.slots, (Heap.get?_update_other _ _ fun (z : T = b) => hn (by rw [z]; exact hb)).trans e⟩⟩
  · exact ⟨oe, vs, _, _, (Heap.get?_update_other _ _ x6).trans x1, ⟨rfl, xd⟩, x3, x4, x5, x6, Heap.get?_update_self _ x7 (Obj.isFreed_of_fields (Obj.data_mapFields x8 _)), Obj.data_mapFields x8 _, by simp [sz]⟩
end
/-- an exception that has been on its way reaches what is wished -/
def LandsOn (X : Cx) (E : XK) : Prop := ∀ (pins : List (Addr × Obj)) (σ : St) (H : Hp) (s : Shared) (ea T : Addr) (cls fl : Value), Inv X pins σ H s → TrR s.heap ea T cls fl → Away X pins H ea → Away X pins H T → E cls none H → X.xe (.ref ea) s
section
variable {P : Program} {w : World} {K : PySem.W.Frag} {mg : Str → Option Value} {base : Heap} {N : List Str} {qual : Str} {scope : Scope} {f : Addr} {cd : Value} {A : Around} {outer : List Env} {s0 : Shared} {H0 : Hp} {E : XK}
theorem landsOn1 : LandsOn (cxOf (CX1 P w) P w K mg base N qual scope f cd A outer s0 H0 E) E := by
  intro pins σ H s ea T cls fl J t a1 a2 q
  generalize hX : cxOf (CX1 P w) P w K mg base N qual scope f cd A outer s0 H0 E = X at J a1 a2
  have hst : X.stack = X.env :: X.outer := by rw [← hX]; rfl
  have hfr : X.env.frame = some X.env.locals := by rw [← hX]; rfl
  have hex : X.ex = [] := by rw [← hX]; rfl
  have key : wpAny (model X.prog X.w) X.A (leaving X.env (.ref ea)) (fun _ s'' => CX1 X.prog X.w X.outer X.H₀ X.s₀ E (.ref ea) s'') (fun e' s'' => CX1 X.prog X.w X.outer X.H₀ X.s₀ E e' s'') s := by
    have F := J.stack
    rw [hst] at F
    unfold leaving
    refine wpAny_bind (note_any (by rw [J.ok.frames, hst]) F hfr t fun h1 T1 fl1 m1 n1 t1 => ?_)
    have m1' := m1
    rw [← hst] at m1'
    have J1 : Inv X pins σ H { s with heap := h1 } := J.moved hex m1' fun b hb => by
      rcases List.mem_cons.mp hb with rfl | hb
      · exact a1
      · rw [List.mem_singleton.mp hb]
        exact a2
    have a3 : Away X pins H T1 := by
      rcases n1 with rfl | n1
      · exact a2
      · exact J.awayN hex n1 (J.away hex n1).2
    have F1 := J1.stack
    have nf : T1 ∉ frs (X.env :: X.outer) := fun z => by
      rw [← hst] at z
      obtain ⟨_, o, e, hn⟩ := F1.mem z
      obtain ⟨_, _, _, ts, _, _, _, _, _, _, x7, x8, _⟩ := t1
      rw [x7] at e
      cases e
      exact hn ts x8
    refine flight_end (s := { s with heap := h1 }) (fr := frs (X.env :: X.outer)) t1 nf fun h2 m2 t2 => ?_
    rw [← hst] at m2
    have J2 : Inv X pins σ H { s with heap := h2 } := J1.moved hex m2 fun b hb => by
      rw [List.mem_singleton.mp hb]
      exact a3
    have U := J2.base
    rw [hex] at U
    exact ⟨ea, cls, H, rfl, J2.os, J2.bare, U, J2.hok, ⟨T1, t2, ⟨a1.1.1, a3.1.1⟩, a1.1.2, a3.1.2⟩, q⟩
  subst hX
  exact key
end
/-- the block of a comprehension, with what is wished of an exception -/
abbrev cxCX (X : Cx) (own : List Str) (js : List Nat) (scope : Scope) (cl : List (Str × Addr)) (C : Addr) (s₂ : Shared) (H₂ : Hp) (fp : List Addr) (xe : Value → Shared → Prop) : Cx := { cxC X own js scope cl C s₂ H₂ fp with xe := xe }
theorem Inv.xe' {X : Cx} {pins : List (Addr × Obj)} {σ : St} {H : Hp} {s : Shared} {xe : Value → Shared → Prop} (I : Inv X pins σ H s) : Inv { X with xe := xe } pins σ H s :=
  ⟨⟨I.ok.mod, I.ok.kind, I.ok.glob, I.ok.blt, I.ok.above, I.ok.inj, I.ok.has, I.ok.cab, I.ok.hd, I.ok.frames, I.ok.stk, I.ok.exf, I.ok.bs, I.ok.bsz, I.ok.noex, I.ok.exfs, I.ok.funs, I.ok.frf⟩, I.os, I.bare, I.base, I.loc, I.cell, I.free, I.freeC, I.pin, I.hok, I.len⟩
section
variable {X : Cx} {own : List Str} {js : List Nat} {scope : Scope} {elt tg iter : Expr} {g : TG} {te : TE} {pos : Pos}
/-- the block runs: a new list, a new frame, the turns -/
theorem comp_runX {EX : XK} {pins : List (Addr × Obj)} {σ : St} {H1 : Hp} {s2 : Shared} {it : Addr} {fp : List Addr} {tn : Nat → Heap → Prop} {J : It} {cl : List (Str × Addr)} {R : List V → Hp → Prop} {RR : Value → Addr → Result → Shared → Prop}
    {E : Value → Shared → Prop} (hc : X.calm = true) (I : Inv X pins σ H1 s2) (T : Turn X.prog X.w X.K tg J fp it tn) (st : tn 0 s2.heap) (hfp : ∀ b ∈ fp, FpOk X pins H1 b)
    (hcap : capB X.N X.env.scope (relabel scope X.env) js = true) (hkind : scope.kind = .function) (hcell : ∀ y ∈ scope.names, y.2 ≠ .cell)
    (hclL : ∀ x c, cl.lookup x = some c → X.env.cells.lookup x = some c)
    (hclR : ∀ x, (x, NameKind.free) ∈ scope.names → ∃ c, cl.lookup x = some c)
    (hg : ∀ C s₂ H₂ fp xe, PG (cxCX X own js scope cl C s₂ H₂ fp xe) tg g) (hgk : GKeep own.length g) (he : ∀ C s₂ H₂ fp xe, Passes (CX1 X.prog X.w) (cxCX X own js scope cl C s₂ H₂ fp xe) EX → PE (cxCX X own js scope cl C s₂ H₂ fp xe) elt te) (hst : X.stack = X.env :: X.outer) (hfr : X.env.frame = some X.env.locals) (hex : X.ex = [])
    (hR : CompR J (selS own.length js σ) g te H1 R)
    (hRR : ∀ D C ys H' s' m, Inv X pins σ (upd H' D (.lst ys)) s' → FpOk X pins (upd H' D (.lst ys)) C → s'.heap.Ns C m → H' D = none → R ys H' → RR (.ref D) C (.ok .next) s')
    (hRE : ∀ acc C H' s' m ea T cls fl, Inv X pins σ H' s' → FpOk X pins H' C → s'.heap.Ns C m → TrR s'.heap ea T cls fl → Away X pins H' ea → Away X pins H' T → ea ≠ C → T ≠ C → EX cls none H' → RR acc C (.error (.ref ea)) s') :
    wpAny (model X.prog X.w) X.A (newList []) (fun acc s₃ => wpAny (model X.prog X.w) X.A (newFunctionEnv scope X.env.globals cl [] X.env.qual none .none (some X.env)) (fun cenv s₄ =>
      codeAny (model X.prog X.w) X.A (.compStart (.ListComp elt [⟨tg, iter, [], 0⟩] scope pos) 0 (.ref it) acc { cenv with scope := relabel scope X.env }) (RR acc cenv.locals) s₄) E s₃) E s2 := by
  obtain ⟨n, W, hz, w0, turn, fin⟩ := hR
  refine wpAny_newObj_type (wpAny_newFunctionEnv hcell (by intro y hy; simp at hy) (fun h₁ hns₁ hsb₁ => ?_) hkind)
  dsimp only at hns₁ hsb₁ ⊢
  generalize hH2 : s2.heap.push { cls := .type "list", dict := none, data := .seq ([] : List Value).toArray } = G2 at hns₁ hsb₁ ⊢
  have hC : G2.objs.size = s2.heap.objs.size + 1 := by rw [← hH2, Heap.size_push]
  have hDC : s2.heap.objs.size ≠ G2.objs.size := by rw [hC]; exact Nat.ne_of_lt (Nat.lt_succ_self _)
  have hCle : s2.heap.objs.size ≤ G2.objs.size := by rw [hC]; exact Nat.le_succ _
  have old : ∀ b o, s2.heap.get? b = some o → h₁.get? b = some o := fun b o e =>
    hsb₁.extBut b o (by rw [hC]; exact Nat.ne_of_lt (Nat.lt_succ_of_lt (Heap.lt_size e))) (Heap.get?_push_of_some _ (hH2 ▸ Heap.get?_push_of_some _ e))
  have hacc : h₁.get? s2.heap.objs.size = some { cls := .type "list", dict := none, data := .seq ([] : List Value).toArray } := hsb₁.extBut _ _ hDC (Heap.get?_push_of_some _ (hH2 ▸ Heap.get?_push_size _ rfl))
  have hrel : ∀ x, ((relabel scope X.env).names.lookup x = some .cell ∨ (relabel scope X.env).names.lookup x = some .free) → ∃ c, cl.lookup x = some c := fun x h => hclR x (relabel_lookup hcell h)
  have I0 : Inv (cxCX X own js scope cl G2.objs.size s2 H1 fp (notedBy (model X.prog X.w) X.A (compEnvC scope cl G2.objs.size X.env) fun e s' => RR (.ref s2.heap.objs.size) G2.objs.size (.error e) s')) [(s2.heap.objs.size, { cls := .type "list", dict := none, data := .seq ([] : List Value).toArray })] (selS own.length js σ) H1
      { s2 with heap := h₁, toks := s2.toks + ([] : List (Str × Value)).length } :=
    Inv.xe' (inv_comp (s5 := { s2 with heap := h₁, toks := s2.toks + ([] : List (Str × Value)).length }) I hcap hkind hclL hrel hfp (fun b hb => let ⟨o, e, _⟩ := T.obj 0 _ st b hb; ⟨o, e⟩) hCle old ⟨_, hns₁⟩ rfl rfl hacc (Nat.le_refl _) hDC
      (fun v z => by cases (show Data.seq _ _ = Data.cell v from z)))
  generalize hXe : cxCX X own js scope cl G2.objs.size s2 H1 fp (notedBy (model X.prog X.w) X.A (compEnvC scope cl G2.objs.size X.env) fun e s' => RR (.ref s2.heap.objs.size) G2.objs.size (.error e) s') = X' at I0
  have hXP : X'.prog = X.prog := by rw [← hXe]
  have hXw : X'.w = X.w := by rw [← hXe]
  have hXK : X'.K = X.K := by rw [← hXe]
  have hXA : X'.A = X.A := by rw [← hXe]
  have hXc : X'.calm = true := by rw [← hXe]; exact hc
  have hXenv : X'.env = compEnvC scope cl G2.objs.size X.env := by rw [← hXe]
  have hXs : X'.s₀ = s2 := by rw [← hXe]
  have hXex : X'.ex = fp := by rw [← hXe]
  have hXfs : X'.fs = frs X.stack := by rw [← hXe]
  have hXpn : X'.pn = [] := by rw [← hXe]
  have hXe0 : X'.xe = notedBy (model X.prog X.w) X.A (compEnvC scope cl G2.objs.size X.env) (fun e s' => RR (.ref s2.heap.objs.size) G2.objs.size (.error e) s') := by rw [← hXe]
  have hXcl : X'.env.cells = cl := by rw [hXenv]; rfl
  have hXl : X'.env.locals = G2.objs.size := by rw [hXenv]; rfl
  have ltD : ∀ b ∈ fp, b ≠ s2.heap.objs.size := fun b hb => let ⟨o, e, _⟩ := T.obj 0 _ st b hb; Nat.ne_of_lt (Heap.lt_size e)
  -- what stays true of the iterator's records in the block
  have fpX : ∀ {pl : List (Addr × Obj)} {H' : Hp}, (∀ p ∈ pl, p.1 = s2.heap.objs.size) → (∀ b ∈ fp, H' b = none) → ∀ b ∈ fp, FpOk X' pl H' b := fun {pl H'} hpl hn b hb => by
    refine ⟨hn b hb, ?_, ?_, .inl (by rw [hXex]; exact hb), fun x c e => ?_, fun p hp => ?_⟩
    · obtain ⟨o, e, _⟩ := T.obj 0 _ st b hb
      rw [hXl]
      exact Nat.ne_of_lt (Nat.lt_of_lt_of_le (Heap.lt_size e) hCle)
    · rw [hXfs]
      intro z
      obtain ⟨_, f1, f2, _⟩ := hfp b hb
      exact (List.mem_cons.mp (I.stkSub b z)).elim f1 f2
    · rw [hXcl] at e
      exact (hfp b hb).2.2.2.2.1 x c (hclL x c e)
    · rw [hXpn] at hp
      rw [hpl p (by simpa using hp)]
      exact (ltD b hb).symm
  have dX : ∀ {pl : List (Addr × Obj)} {H' : Hp}, (∀ p ∈ pl, p.1 ∈ fp) → H' s2.heap.objs.size = none → FpOk X' pl H' s2.heap.objs.size := fun {pl H'} hpl hn => by
    refine ⟨hn, by rw [hXl]; exact hDC, ?_, .inr (by rw [hXs]; exact Nat.le_refl _), fun x c e => ?_, fun p hp => ?_⟩
    · rw [hXfs]
      exact fun z => by
        obtain ⟨_, o, ho, _⟩ := I.stack.mem z
        exact absurd (Heap.lt_size ho) (Nat.lt_irrefl _)
    · rw [hXcl] at e
      obtain ⟨v, o, ho, _⟩ := I.cell x c (hclL x c e)
      exact Nat.ne_of_lt (Heap.lt_size ho)
    · rw [hXpn] at hp
      exact ltD p.1 (hpl p (by simpa using hp))
  -- what an exception of the element meets
  have passX : Passes (CX1 X'.prog X'.w) X' EX := by
    intro pins' σ' H' s' e s'' J h
    have hst' : X'.stack = X.stack := by rw [← hXe]
    obtain ⟨ea, cls, H'', rfl, os, bare, un, ok, ⟨T, t, ⟨y1, y2⟩, z1, z2⟩, q⟩ := h
    have J2 : Inv X' pins' σ' H'' s'' := J.call' (ch := []) os un ok bare fun b z => absurd z (by simp)
    have un2 : Un (frs X.stack) fp H1 H'' s2.heap s''.heap := by
      have b := J2.base
      rw [hXfs, hXex, hXs] at b
      rw [← hXe] at b
      exact b
    have hok : HOk X.prog X.w H'' s''.heap := by
      have b := J2.hok
      rw [hXP, hXw] at b
      exact b
    have os2 : s''.os = s2.os := by rw [J2.os, hXs]
    have IX : Inv X pins σ H'' s'' := I.call' (ch := fp) os2 un2 hok J2.bare fun b hb => by
      obtain ⟨_, f1, _, f3, f4, f5⟩ := hfp b hb
      exact ⟨f3, f1, f4, f5⟩
    have aw : ∀ b, s'.heap.get? b = none → H'' b = none → Away X pins H'' b := fun b e hn => by
      by_cases hb : b ∈ fp
      · obtain ⟨_, f1, _, f3, f4, f5⟩ := hfp b hb
        refine ⟨⟨?_, hn⟩, f1, f4, f5⟩
        rcases f3 with z | z
        · rw [hex] at z
          cases z
        · cases q2 : X.s₀.heap.get? b with
          | none => rfl
          | some o => exact absurd (Nat.lt_of_lt_of_le (Heap.lt_size q2) z) (Nat.lt_irrefl _)
      · refine I.awayN hex ?_ hn
        cases q2 : s2.heap.get? b with
        | none => rfl
        | some o =>
          have bb := J.base
          rw [hXfs, hXex, hXs] at bb
          obtain ⟨o', e'⟩ := bb.there b o q2 hb
          rw [e] at e'
          cases e'
    have nC : ∀ b, s'.heap.get? b = none → b ≠ G2.objs.size := fun b e z => by
      obtain ⟨m, ⟨o, _, _, ho, _⟩, _⟩ := J.loc
      rw [hXl, ← z, e] at ho
      cases ho
    have hA : X'.A.frames = some (X.env :: X.outer) := by rw [hXA, I.ok.frames, hst]
    have Fs := IX.stack
    rw [hst] at Fs
    rw [hXe0]
    show wpAny _ X.A (noteFrame (.ref ea) (compEnvC scope cl G2.objs.size X.env)) _ _ s''
    rw [note_env (env := X.env) (env' := compEnvC scope cl G2.objs.size X.env) rfl]
    refine note_next (by rw [I.ok.frames, hst]) Fs hfr t fun h1 T1 m1 n1 t1 => ?_
    rw [← hst] at m1
    have a1 := aw ea y1 z1
    have a2 := aw T y2 z2
    have IX1 : Inv X pins σ H'' { s'' with heap := h1 } := IX.moved hex m1 fun b hb => by
      rcases List.mem_cons.mp hb with rfl | hb
      · exact a1
      · rw [List.mem_singleton.mp hb]
        exact a2
    have HT1 : H'' T1 = none := (IX.away hex n1).2
    have a3 : Away X pins H'' T1 := IX.awayN hex n1 HT1
    obtain ⟨m, hm, _⟩ := J2.loc
    rw [hXl] at hm
    have e1 := nC ea y1
    have e2 := nC T y2
    have e3 : T1 ≠ G2.objs.size := fun z => by
      obtain ⟨o, _, _, ho, _⟩ := hm
      rw [← z, n1] at ho
      cases ho
    have nfC : G2.objs.size ∉ frs X.stack := fun z => by
      obtain ⟨_, o, ho, _⟩ := I.stack.mem z
      exact absurd (Nat.lt_of_lt_of_le (Heap.lt_size ho) hCle) (Nat.lt_irrefl _)
    have hm1 : h1.Ns G2.objs.size m := by
      obtain ⟨o, x1, x2, ho, x3⟩ := hm
      exact ⟨o, x1, x2, m1.keep _ _ ho (by simp; exact ⟨fun z => e1 z.symm, fun z => e2 z.symm⟩) nfC, x3⟩
    have nC2 : H'' G2.objs.size = none := by
      have q := J2.free
      rw [hXl] at q
      exact q
    exact hRE _ _ H'' { s'' with heap := h1 } m ea T1 cls _ IX1 (I.fpOk hCle nC2) hm1 t1 a1 a3 e1 e3 q
  let obD : List Value → Nat → Obj := fun its k => { cls := .type "list", dict := none, data := .seq its.toArray k }
  have loop : codeAny (model X.prog X.w) X.A (.compLoop (.ListComp elt [⟨tg, iter, [], 0⟩] scope pos) 0 (.ref it) (.ref s2.heap.objs.size) (compEnvC scope cl G2.objs.size X.env))
      (RR (.ref s2.heap.objs.size) G2.objs.size) { s2 with heap := h₁, toks := s2.toks + ([] : List (Str × Value)).length } := by
    refine PySem.W.kcp_loop (fun k s => ∃ i ys its c H, k = n + 1 - i ∧ i ≤ n ∧ ys.length = i ∧ Vals ys its ∧ Inv X' [(s2.heap.objs.size, obD its c)] (selS own.length js σ) H s ∧ tn i s.heap ∧ (∀ b ∈ fp, H b = none) ∧ W i ys H) ?_ (n + 1)
      ⟨0, [], [], 0, H1, rfl, Nat.zero_le _, rfl, .nil, I0, T.keep _ _ _ st (fun b _ o e => old b o e), fun b hb => (hfp b hb).1, w0⟩
    rintro k s ⟨i, ys, its, c, H, rfl, hi, hl, rv, I1, st1, fr1, w1⟩
    have pl1 : ∀ p ∈ [(s2.heap.objs.size, obD its c)], p.1 = s2.heap.objs.size := fun p hp => by rw [show p = _ by simpa using hp]
    by_cases hlt : i < n
    · obtain ⟨go, step⟩ := turn i ys H hlt hl w1
      rw [← hXA]
      refine thn (T.item X' hXP hXw hXK hXc i _ s _ H _ I1 (fpX pl1 fr1) st1 go) fun r s3 ⟨u, hr, h3⟩ => ?_
      subst hr
      refine thn h3 fun _ s4 ⟨x, H4, I4, r4, y4, st4, fr4⟩ => ?_
      have I4' := I4.pinned (fpX pl1 fr4) (T.obj _ _ st4)
      have hgX : PG X' tg g := by rw [← hXe]; exact hg _ _ _ _ _
      have heX : PE X' elt te := by
        have hP := passX
        rw [← hXe] at hP ⊢
        exact he _ _ _ _ _ hP
      rw [← hXP, ← hXw, ← hXenv]
      rw [← hXP, ← hXw, ← hXenv, ← hXA] at hXe0
      rw [← hXe0]
      refine thn (hgX _ s4 _ H4 x u _ I4' r4 (hgk _ _ _ _ (step x H4 y4))) fun _ s5 ⟨σ5, H5, I5, ⟨hl5, hk5⟩, q5⟩ => ?_
      refine thn (heX _ s5 σ5 H5 _ I5 q5) fun y s6 ⟨yv, H6, I6, r6, q6⟩ => ?_
      have eD := I6.pin (s2.heap.objs.size, obD its c) (List.mem_append_right _ (List.mem_append_left _ (List.mem_singleton.mpr rfl)))
      have efp : ∀ b ∈ fp, ∀ o, s4.heap.get? b = some o → s6.heap.get? b = some o ∧ H6 b = none := fun b hb o e =>
        let q := I6.pin (b, o) (List.mem_append_right _ (List.mem_append_right _ (mem_pinsAt hb e)))
        ⟨q.1, q.2.1⟩
      have fr6 : ∀ b ∈ fp, H6 b = none := fun b hb => let ⟨o, e, _⟩ := T.obj _ _ st4 b hb; (efp b hb o e).2
      have st6 : tn (i + 1) s6.heap := T.keep _ _ _ st4 fun b hb o e => (efp b hb o e).1
      have hlen := rv.length
      refine app_plain (n := c) eD.1 (by omega) fun h' n' e' k' => ?_
      have I7 : Inv X' [] σ5 H6 s6 := I6.pins_of fun p hp => nomatch hp
      have I8 : Inv X' [] σ5 H6 { s6 with heap := h' } := by
        obtain ⟨f0, f1, _, f3, f4, f5⟩ := dX (pl := []) (H' := H6) (fun p hp => nomatch hp) eD.2.1
        exact I7.turned (t' := s6.toks) k' f0 f1 f3 f4 f5
      have I9 : Inv X' [(s2.heap.objs.size, obD (its ++ [y]) n')] (selS own.length js σ) H6 { s6 with heap := h' } := by
        refine (I8.weak (σ' := selS own.length js σ) hl5.symm fun j v e => ?_).pins_of fun p hp => ?_
        · obtain ⟨_, hj, _⟩ := selS_cap e
          exact hk5 j v hj e
        · have ep : p = (s2.heap.objs.size, obD (its ++ [y]) n') := by simpa using hp
          subst ep
          obtain ⟨f0, f1, f2, _⟩ := dX (pl := []) (H' := H6) (fun p hp => nomatch hp) eD.2.1
          exact ⟨e', f0, f1, f2, fun v z => by cases (show Data.seq _ _ = Data.cell v from z)⟩
      refine ⟨n + 1 - (i + 1), by omega, i + 1, ys ++ [yv], its ++ [y], n', H6, rfl, hlt, by rw [List.length_append, hl]; rfl, rv.append (.cons r6 .nil), I9, ?_, fr6, q6⟩
      exact T.keep _ _ _ st6 fun b hb o e => k' b o (ltD b hb) e
    · have hin : i = n := by omega
      subst hin
      obtain ⟨stop, q⟩ := fin ys H hl w1
      rw [← hXA]
      refine thn (T.done X' hXP hXw hXK hXc i _ s _ H _ I1 (fpX pl1 fr1) st1 stop) fun r s3 ⟨hr, I3⟩ => ?_
      subst hr
      have eD := I3.pin (s2.heap.objs.size, obD its c) (List.mem_append_right _ (List.mem_singleton.mpr rfl))
      have un : Un (frs X.stack) fp H1 H s2.heap s3.heap := by
        have b := I3.base
        rw [hXfs, hXex, hXs] at b
        rw [← hXe] at b
        exact b
      have hok : HOk X.prog X.w H s3.heap := by
        have b := I3.hok
        rw [hXP, hXw] at b
        exact b
      have os : s3.os = s2.os := by rw [I3.os, hXs]
      have IX : Inv X pins σ H s3 := I.call' (ch := fp) os un hok I3.bare fun b hb => by
        obtain ⟨_, f1, _, f3, f4, f5⟩ := hfp b hb
        exact ⟨f3, f1, f4, f5⟩
      have lens := rv.length
      have nD := eD.2.1
      have nC : H G2.objs.size = none := by
        have q := I3.free
        rw [hXl] at q
        exact q
      have fD : FpOk X pins H s2.heap.objs.size := I.fpOk (Nat.le_refl _) nD
      have I4 : Inv X pins σ (upd H s2.heap.objs.size (.lst ys)) s3 := IX.track fD ⟨by omega, its, c, rv, eD.1⟩
      have fC : FpOk X pins (upd H s2.heap.objs.size (.lst ys)) G2.objs.size := I.fpOk hCle (by rw [upd_ne (Ne.symm hDC)]; exact nC)
      obtain ⟨m, hm, _⟩ := I3.loc
      rw [hXl] at hm
      exact hRR _ _ ys H s3 m I4 fC hm nD q
  exact codeAny_compStart_list loop (T.self _ 0 _ _ _ (T.keep _ _ _ st fun b _ o e => old b o e) loop)
end
section
variable {X : Cx} {own : List Str} {js : List Nat} {scope : Scope} {elt tg iter : Expr} {g : TG} {te : TE} {pos : Pos} {wi : TI} {EX : XK}
/-- the exception leaves the block -/
theorem comp_err {use : Option (Value → Sem Unit)} {Q : Value → Shared → Prop} (hex : X.ex = []) (hL : LandsOn X EX) {pins : List (Addr × Obj)} {σ : St} {H' : Hp} {s' : Shared} {m : Str → Option Value} {ea T C : Addr} {cls fl acc : Value} (I' : Inv X pins σ H' s') (fC : FpOk X pins H' C) (hm : s'.heap.Ns C m)
    (t : TrR s'.heap ea T cls fl) (a1 : Away X pins H' ea) (a2 : Away X pins H' T) (n1 : ea ≠ C) (n2 : T ≠ C) (q : EX cls none H') : compPost (model X.prog X.w) X.A X.xe use Q acc C (.error (.ref ea)) s' := by
  have key : ∃ m, s'.heap.Ns C m ∧ ∀ h', Heap.SameBut C s'.heap h' → ∀ cenv : Env, cenv.locals = C → wpAny (model X.prog X.w) X.A (PySem.passOn "comprehension.variables-let-go" (.ref ea) cenv : Sem Value) (fun _ _ => False) X.xe { s' with heap := h' } := by
    refine ⟨m, hm, fun h' hs' cenv _ => ?_⟩
    obtain ⟨f0, f1, _, f3, f4, f5⟩ := fC
    have I2 : Inv X pins σ H' { s' with heap := h' } := I'.turned (t' := s'.toks) (fun b o hb e => hs'.extBut b o hb e) f0 f1 f3 f4 f5
    obtain ⟨oe, vs, oT, ts, x1, x2, x3, x4, x5, x6, x7, x8, x9⟩ := t
    have t2 : TrR h' ea T cls fl := ⟨oe, vs, oT, ts, hs'.extBut _ _ n1 x1, x2, x3, x4, x5, x6, hs'.extBut _ _ n2 x7, x8, x9⟩
    refine pass_on (s := { s' with heap := h' }) (fr := frs X.stack) t2 (fun z => ?_) fun h'' fl' m3 t3 => ?_
    · obtain ⟨_, o, e, hn⟩ := I2.stack.mem z
      have e7 : h'.get? T = some oT := hs'.extBut _ _ n2 x7
      have e' : h'.get? T = some o := e
      rw [e7] at e'
      cases e'
      exact hn ts x8
    · have I3 : Inv X pins σ H' { s' with heap := h'' } := I2.moved hex m3 fun b hb => by
        rw [List.mem_singleton.mp hb]
        exact a2
      exact hL pins σ H' _ ea T cls fl' I3 t3 a1 a2 q
  cases use <;> exact key
/-- name = [elt for target in iter], where elt may raise -/
theorem ps_setCX {i : Nat} {y : Str} {py spos : Pos} (own : List Str) (js : List Nat) (hc : X.calm = true) (hN : X.N.Nodup) (hiy : X.N[i]? = some y) (hy : X.env.scope.names.lookup y = some .local)
    (hst : X.stack = X.env :: X.outer) (hfr : X.env.frame = some X.env.locals) (hex : X.ex = []) (hL : LandsOn X EX)
    (hi : PI X tg iter wi) (hg : ∀ cl C s₂ H₂ fp xe, PG (cxCX X own js scope cl C s₂ H₂ fp xe) tg g) (hgk : GKeep own.length g) (he : ∀ cl C s₂ H₂ fp xe, Passes (CX1 X.prog X.w) (cxCX X own js scope cl C s₂ H₂ fp xe) EX → PE (cxCX X own js scope cl C s₂ H₂ fp xe) elt te)
    (hsw : swapsWith (.ListComp elt [⟨tg, iter, [], 0⟩] scope pos) (some (.Name y py)) spos.line X.env = pure true := by kernel_rfl)
    (hcap : capB X.N X.env.scope (relabel scope X.env) js = true := by kernel_rfl) (hfree : (scope.names.all fun p => !(p.2 == NameKind.free) || isCap (X.env.scope.names.lookup p.1)) = true := by kernel_rfl)
    (hkind : scope.kind = .function := by rfl) (hcell : ∀ y ∈ scope.names, y.2 ≠ .cell := by decide +kernel) (hnames : ∀ x ∈ scope.names, x.2 = .local → scope.names.lookup x.1 = some .local := by decide +kernel)
    (hs : ∀ x, foldedSetIterable iter X.env x = pure x := by intro _; rfl) :
    PS X (.Assign [.Name y py] (.ListComp elt [⟨tg, iter, [], 0⟩] scope pos) spos) (tAsg (tComp wi own.length js g te) (gName i)) := by
  intro pins s σ H D I h
  obtain ⟨cl, h1, h2, h3⟩ := closure_of (env := X.env) (scope := scope) (hasFree I hfree)
  rw [exec_Assign_Name_used _ _ _ _ hsw]
  refine wpAny_bind (wpAny_standAt (wpAny_bind ?_))
  show wpAny _ _ (do let _ ← comprehension (.ListComp elt [⟨tg, iter, [], 0⟩] scope pos) scope X.env _ (newList []) false (eval iter X.env) (some (assign (.Name y py) X.env))) _ _ s
  refine wpAny_bind (wpAny_mono (wpAny_comprehension_free (use := some (assign (.Name y py) X.env)) (Q := fun _ s' => SP X pins D .next s') rfl hs h1 hkind hnames
    (thn (hi pins s σ H _ I h) fun v s1 q1 => thn q1 fun itv s2 q2 => ?_)) (fun _ s' hq => wpAny_pure (wpAny_pure hq)) fun _ _ e => e)
  obtain ⟨it, fp, tn, J, H1, rfl, I2, T, st, hfp, hR⟩ := q2
  refine comp_runX (EX := EX) (own := own) (js := js) (RR := fun acc C => compPost (model X.prog X.w) X.A X.xe (some (assign (.Name y py) X.env)) (fun _ s' => SP X pins D .next s') acc C) hc I2 T st hfp hcap hkind hcell h2 h3 (hg cl) hgk (he cl) hst hfr hex hR ?_ ?_
  · intro A C ys H' s' m I' fC hm hA q
    obtain ⟨f0, f1, _, f3, f4, f5⟩ := fC
    show wpAny _ _ (assign (.Name y py) X.env (.ref A)) _ _ s'
    refine wpAny_assign_Name (store_ok2 I' hN hiy (.inl hy) (v := .ref A) rfl (fun s'' I'' hsb => ?_) (.inr hy))
    obtain ⟨a, sb, ha⟩ := hsb
    have hCa : C ≠ a := by
      rcases ha with z | z
      · rw [z]; exact f1
      · exact (f4 _ _ z).symm
    exact ⟨m, hm.sameBut sb hCa, fun h' hs' => ⟨_, _, I''.turned (t' := s''.toks) (fun b o hb e => hs'.extBut b o hb e) f0 f1 f3 f4 f5, q A hA⟩⟩
  · intro acc C H' s' m ea T cls fl I' fC hm t a1 a2 n1 n2 q
    exact comp_err hex hL I' fC hm t a1 a2 n1 n2 q
end
end L2

set_option Elab.async false
set_option linter.all false
/-! a text split at one sign -/
namespace ST
open PySem PySem.Builtin.Str PySem.StrLaws
/-- a list of signs split at c -/
def spl (c : Nat) : List Nat → List (List Nat)
  | [] => [[]]
  | x :: r => if x = c then [] :: spl c r else match spl c r with
    | [] => [[x]]
    | p :: ps => (x :: p) :: ps
theorem spl_ne (c : Nat) (l : List Nat) : spl c l ≠ [] := by
  cases l with
  | nil => simp [spl]
  | cons x r =>
    unfold spl
    split
    · simp
    · split <;> simp
def cutsOf (c : Nat) : List Nat → Nat → List Nat
  | [], _ => []
  | x :: r, k => if x = c then k :: cutsOf c r (k + 1) else cutsOf c r (k + 1)
theorem occ_from (x : Str) (c : Nat) : ∀ (l : List Nat) (k : Nat) (arr : Array Nat) (free : Nat), x.cps.toList.drop k = l → arr.size ≤ k → free ≤ k →
    (forIn (List.range' k (l.length + 1)) (arr, free) (occBody x ⟨#[c]⟩ x.length (x.length + 1))).run.fst.toList = arr.toList ++ cutsOf c l k
  | [], k, arr, free, hl, ha, hf => by
    have hk : x.length ≤ k := by
      have := congrArg List.length hl
      simp [Str.length] at this ⊢
      omega
    rw [show ([] : List Nat).length + 1 = 1 from rfl, List.range'_succ, List.range'_zero, List.forIn_cons]
    unfold occBody
    rw [if_neg (fun h => by have := h.1.2; have e : (⟨#[c]⟩ : Str).length = 1 := rfl; rw [e] at this; omega)]
    simp [cutsOf]
  | a :: r, k, arr, free, hl, ha, hf => by
    have hk : k < x.length := by
      have := congrArg List.length hl
      simp [Str.length] at this ⊢
      omega
    have hat : x.cps.toList[k]? = some a := by
      have : (x.cps.toList.drop k)[0]? = some a := by rw [hl]; rfl
      rwa [List.getElem?_drop, Nat.add_zero] at this
    have hdr : x.cps.toList.drop (k + 1) = r := by
      have := congrArg (List.drop 1) hl
      rw [List.drop_drop] at this
      simpa [Nat.add_comm] using this
    rw [show (a :: r).length + 1 = (r.length + 1) + 1 from rfl, List.range'_succ, List.forIn_cons]
    by_cases hc : a = c
    · have hs := (subAt_one x c k).mpr (by rw [hat, hc])
      unfold occBody
      rw [if_pos ⟨⟨⟨by show arr.size < x.length + 1; omega, hf⟩, hs.1⟩, hs.2⟩]
      have ih := occ_from x c r (k + 1) (arr.push k) (k + 1) hdr (by simp; omega) (Nat.le_refl _)
      show (forIn (List.range' (k + 1) (r.length + 1)) (arr.push k, k + (⟨#[c]⟩ : Str).length) (occBody x ⟨#[c]⟩ x.length (x.length + 1))).run.fst.toList = _
      rw [show k + (⟨#[c]⟩ : Str).length = k + 1 from rfl, ih]
      simp [cutsOf, hc]
    · have hs : ¬ (k + (⟨#[c]⟩ : Str).length ≤ x.length ∧ subAt x ⟨#[c]⟩ k = true) := fun z => hc (by
        have := (subAt_one x c k).mp z
        rw [hat] at this
        exact Option.some.inj this)
      unfold occBody
      rw [if_neg (fun h => hs ⟨h.1.2, h.2⟩)]
      have ih := occ_from x c r (k + 1) arr free hdr (by omega) (by omega)
      show (forIn (List.range' (k + 1) (r.length + 1)) (arr, free) (occBody x ⟨#[c]⟩ x.length (x.length + 1))).run.fst.toList = _
      rw [ih]
      simp [cutsOf, hc]
theorem occ_one (x : Str) (c : Nat) : occurrences x ⟨#[c]⟩ 0 x.length (x.length + 1) = cutsOf c x.cps.toList 0 := by
  rw [occ_eq]
  have := occ_from x c x.cps.toList 0 #[] 0 rfl (by simp) (Nat.le_refl _)
  rw [show x.length + 1 - 0 = x.cps.toList.length + 1 by simp [Str.length], this]
  rfl
def headCat (h : List Nat) : List (List Nat) → List (List Nat)
  | [] => []
  | p :: ps => (h ++ p) :: ps
theorem headCat_nil (l : List (List Nat)) : headCat [] l = l := by
  cases l <;> rfl
theorem parts_from (x : Str) (c : Nat) : ∀ (l : List Nat) (k a : Nat), x.cps.toList.drop k = l → a ≤ k → k ≤ x.length → (partsFrom x 1 a (cutsOf c l k)).map (fun p => p.cps.toList) = headCat ((x.cps.toList.drop a).take (k - a)) (spl c l)
  | [], k, a, hl, ha, hk => by
    have e : k = x.length := by
      have := congrArg List.length hl
      simp [Str.length] at this hk ⊢
      omega
    show [(strSub x a x.length).cps.toList] = [_ ++ []]
    rw [strSub_toList, e, List.append_nil]
  | y :: r, k, a, hl, ha, hk => by
    have hkl : k < x.length := by
      have := congrArg List.length hl
      simp [Str.length] at this ⊢
      omega
    have hat : x.cps.toList[k]? = some y := by
      have : (x.cps.toList.drop k)[0]? = some y := by rw [hl]; rfl
      rwa [List.getElem?_drop, Nat.add_zero] at this
    have hdr : x.cps.toList.drop (k + 1) = r := by
      have := congrArg (List.drop 1) hl
      rw [List.drop_drop] at this
      simpa [Nat.add_comm] using this
    by_cases hc : y = c
    · have ih := parts_from x c r (k + 1) (k + 1) hdr (Nat.le_refl _) hkl
      rw [Nat.sub_self, List.take_zero, headCat_nil] at ih
      have e1 : cutsOf c (y :: r) k = k :: cutsOf c r (k + 1) := by simp [cutsOf, hc]
      have e2 : spl c (y :: r) = [] :: spl c r := by simp [spl, hc]
      rw [e1, e2]
      show (strSub x a k).cps.toList :: (partsFrom x 1 (k + 1) (cutsOf c r (k + 1))).map _ = (_ ++ []) :: spl c r
      rw [ih, strSub_toList, List.append_nil]
    · have ih := parts_from x c r (k + 1) a hdr (by omega) hkl
      have e1 : cutsOf c (y :: r) k = cutsOf c r (k + 1) := by simp [cutsOf, hc]
      rw [e1, ih]
      have e3 : (x.cps.toList.drop a).take (k + 1 - a) = (x.cps.toList.drop a).take (k - a) ++ [y] := by
        rw [show k + 1 - a = (k - a) + 1 by omega, List.take_add_one, List.getElem?_drop, show a + (k - a) = k by omega, hat]
        rfl
      rw [e3]
      cases e : spl c r with
      | nil => exact absurd e (spl_ne c r)
      | cons p ps =>
        have e2 : spl c (y :: r) = (y :: p) :: ps := by simp [spl, hc, e]
        rw [e2]
        show (((x.cps.toList.drop a).take (k - a) ++ [y]) ++ p) :: ps = ((x.cps.toList.drop a).take (k - a) ++ (y :: p)) :: ps
        rw [List.append_assoc]
        rfl
theorem kind_pos (x : Str) : 1 ≤ Builtin.Str.strKind x := by
  unfold Builtin.Str.strKind
  split
  · exact Nat.le_refl _
  · split <;> decide
/-- x.split(c) -/
theorem split_one (x : Str) (c : Nat) (hc : c < 256) : (Txt.split x ⟨#[c]⟩).map (fun p => p.cps.toList) = spl c x.cps.toList := by
  unfold Txt.split
  have hk : Builtin.Str.strKind ⟨#[c]⟩ = 1 := by
    unfold Builtin.Str.strKind
    rw [if_pos (by simp [hc])]
  by_cases h0 : x.length < 1
  · rw [if_pos (by rw [Bool.or_eq_true]; exact .inl (decide_eq_true h0))]
    have e : x.cps.toList = [] := by
      apply List.eq_nil_of_length_eq_zero
      simp [Str.length] at h0 ⊢
      exact h0
    show [x.cps.toList] = _
    rw [e]
    rfl
  · rw [if_neg (by
      rw [Bool.or_eq_true, decide_eq_true_eq, decide_eq_true_eq, hk]
      have := kind_pos x
      have e : (⟨#[c]⟩ : Str).length = 1 := rfl
      rw [e]
      omega)]
    rw [occ_one]
    have key := parts_from x c x.cps.toList 0 0 rfl (Nat.le_refl _) (Nat.zero_le _)
    rw [Nat.sub_self, List.take_zero, headCat_nil] at key
    split
    · rename_i he
      have hnil : cutsOf c x.cps.toList 0 = [] := by simpa using he
      rw [hnil] at key
      show [x.cps.toList] = _
      rw [← key]
      show _ = [(strSub x 0 x.length).cps.toList]
      rw [sub_whole]
    · rw [partsBetween_eq]
      exact key
end ST

set_option Elab.async false
set_option linter.all false
/-! texts as lists of signs -/
namespace ST
open PySem PySem.Builtin.Str PySem.StrLaws PySem.NumText
def tx (l : List Nat) : Str := ⟨l.toArray⟩
theorem tx_cps (x : Str) : tx x.cps.toList = x := by
  unfold tx
  rw [Array.toArray_toList]
theorem cps_tx (l : List Nat) : (tx l).cps.toList = l := rfl
theorem tx_len (l : List Nat) : (tx l).length = l.length := rfl
theorem tx_inj {a b : List Nat} (h : tx a = tx b) : a = b := by
  have := congrArg (fun z => z.cps.toList) h
  exact this
theorem of_cps {x : Str} {l : List Nat} (h : x.cps.toList = l) : x = tx l := by
  rw [← h, tx_cps]
theorem tx_app (a b : List Nat) : tx a ++ tx b = tx (a ++ b) := by
  refine of_cps ?_
  rw [Str.cps_append, Array.toList_append]
  rfl
/-! ### the first cut -/
theorem occ_lim (x : Str) (c lim : Nat) : ∀ (l : List Nat) (k : Nat) (arr : Array Nat) (free : Nat), x.cps.toList.drop k = l → free ≤ k →
    (forIn (List.range' k (l.length + 1)) (arr, free) (occBody x ⟨#[c]⟩ x.length lim)).run.fst.toList = arr.toList ++ (cutsOf c l k).take (lim - arr.size)
  | [], k, arr, free, hl, hf => by
    have hk : x.length ≤ k := by
      have := congrArg List.length hl
      simp [Str.length] at this ⊢
      omega
    rw [show ([] : List Nat).length + 1 = 1 from rfl, List.range'_succ, List.range'_zero, List.forIn_cons]
    unfold occBody
    rw [if_neg (fun h => by have := h.1.2; have e : (⟨#[c]⟩ : Str).length = 1 := rfl; rw [e] at this; omega)]
    simp [cutsOf]
  | a :: r, k, arr, free, hl, hf => by
    have hk : k < x.length := by
      have := congrArg List.length hl
      simp [Str.length] at this ⊢
      omega
    have hat : x.cps.toList[k]? = some a := by
      have : (x.cps.toList.drop k)[0]? = some a := by rw [hl]; rfl
      rwa [List.getElem?_drop, Nat.add_zero] at this
    have hdr : x.cps.toList.drop (k + 1) = r := by
      have := congrArg (List.drop 1) hl
      rw [List.drop_drop] at this
      simpa [Nat.add_comm] using this
    rw [show (a :: r).length + 1 = (r.length + 1) + 1 from rfl, List.range'_succ, List.forIn_cons]
    by_cases hc : a = c
    · have hs := (subAt_one x c k).mpr (by rw [hat, hc])
      by_cases hlim : arr.size < lim
      · unfold occBody
        rw [if_pos ⟨⟨⟨hlim, hf⟩, hs.1⟩, hs.2⟩]
        have ih := occ_lim x c lim r (k + 1) (arr.push k) (k + 1) hdr (Nat.le_refl _)
        show (forIn (List.range' (k + 1) (r.length + 1)) (arr.push k, k + (⟨#[c]⟩ : Str).length) (occBody x ⟨#[c]⟩ x.length lim)).run.fst.toList = _
        rw [show k + (⟨#[c]⟩ : Str).length = k + 1 from rfl, ih]
        have e : lim - arr.size = (lim - (arr.push k).size) + 1 := by rw [Array.size_push]; omega
        rw [e]
        simp [cutsOf, hc]
      · unfold occBody
        rw [if_neg (fun h => hlim h.1.1.1)]
        have ih := occ_lim x c lim r (k + 1) arr free hdr (by omega)
        show (forIn (List.range' (k + 1) (r.length + 1)) (arr, free) (occBody x ⟨#[c]⟩ x.length lim)).run.fst.toList = _
        rw [ih, show lim - arr.size = 0 by omega, List.take_zero, List.take_zero]
    · have hs : ¬ (k + (⟨#[c]⟩ : Str).length ≤ x.length ∧ subAt x ⟨#[c]⟩ k = true) := fun z => hc (by
        have := (subAt_one x c k).mp z
        rw [hat] at this
        exact Option.some.inj this)
      unfold occBody
      rw [if_neg (fun h => hs ⟨h.1.2, h.2⟩)]
      have ih := occ_lim x c lim r (k + 1) arr free hdr (by omega)
      show (forIn (List.range' (k + 1) (r.length + 1)) (arr, free) (occBody x ⟨#[c]⟩ x.length lim)).run.fst.toList = _
      rw [ih]
      simp [cutsOf, hc]
theorem occ_first (x : Str) (c : Nat) : occurrences x ⟨#[c]⟩ 0 x.length 1 = (cutsOf c x.cps.toList 0).take 1 := by
  rw [occ_eq]
  have := occ_lim x c 1 x.cps.toList 0 #[] 0 rfl (Nat.le_refl _)
  rw [show x.length + 1 - 0 = x.cps.toList.length + 1 by simp [Str.length], this]
  rfl
/-- what stands ahead of the first c, c, what stands behind it -/
def part (c : Nat) : List Nat → List Nat × List Nat × List Nat
  | [] => ([], [], [])
  | x :: r => if x = c then ([], [c], r) else (x :: (part c r).1, (part c r).2.1, (part c r).2.2)
theorem part_cut (c : Nat) : ∀ (l : List Nat) (k : Nat), (cutsOf c l k = [] ∧ part c l = (l, [], [])) ∨ ∃ i r, cutsOf c l k = (k + i) :: r ∧ part c l = (l.take i, [c], l.drop (i + 1))
  | [], k => .inl ⟨rfl, rfl⟩
  | x :: l, k => by
    by_cases hc : x = c
    · exact .inr ⟨0, cutsOf c l (k + 1), by simp [cutsOf, hc], by simp [part, hc]⟩
    · rcases part_cut c l (k + 1) with ⟨h1, h2⟩ | ⟨i, r, h1, h2⟩
      · exact .inl ⟨by simp [cutsOf, hc, h1], by simp [part, hc, h2]⟩
      · refine .inr ⟨i + 1, r, ?_, by simp [part, hc, h2]⟩
        simp only [cutsOf, hc, if_false, h1]
        congr 1
        omega
theorem partition_eq (l : List Nat) (c : Nat) : Txt.partition (tx l) (tx [c]) = (tx (part c l).1, tx (part c l).2.1, tx (part c l).2.2) := by
  have e0 : (tx [c] : Str) = ⟨#[c]⟩ := rfl
  unfold Txt.partition
  rw [e0, occ_first, cps_tx]
  rcases part_cut c l 0 with ⟨h1, h2⟩ | ⟨i, r, h1, h2⟩
  · rw [h1, h2]
    rfl
  · rw [h1, h2]
    show (strSub (tx l) 0 (0 + i), (⟨#[c]⟩ : Str), strSub (tx l) (0 + i + 1) (tx l).length) = _
    have e1 : strSub (tx l) 0 (0 + i) = tx (l.take i) := of_cps (by rw [strSub_toList, cps_tx]; simp)
    have e2 : strSub (tx l) (0 + i + 1) (tx l).length = tx (l.drop (i + 1)) := of_cps (by
      rw [strSub_toList, cps_tx, tx_len, Nat.zero_add]
      rw [List.take_of_length_le (by simp)])
    rw [e1, e2]
    rfl
theorem split_tx (l : List Nat) (c : Nat) (hc : c < 256) : Txt.split (tx l) (tx [c]) = (spl c l).map tx := by
  have h := split_one (tx l) c hc
  rw [cps_tx] at h
  have e0 : (tx [c] : Str) = ⟨#[c]⟩ := rfl
  rw [e0, ← h, List.map_map]
  refine (List.map_id' _).symm.trans (List.map_congr_left fun x _ => ?_)
  exact (tx_cps x).symm
/-! ### laws of cuts -/
theorem part_at {c : Nat} {r : List Nat} : ∀ {a : List Nat}, c ∉ a → part c (a ++ c :: r) = (a, [c], r)
  | [], _ => by simp [part]
  | x :: a, h => by
    have h1 : x ≠ c := fun e => h (by rw [e]; simp)
    have h2 : c ∉ a := fun e => h (List.mem_cons_of_mem _ e)
    simp [part, h1, part_at h2]
theorem part_back {c : Nat} : ∀ {l : List Nat}, (part c l).2.1 ≠ [] → l = (part c l).1 ++ c :: (part c l).2.2
  | [], h => absurd rfl h
  | x :: l, h => by
    by_cases hc : x = c
    · subst hc
      simp [part]
    · have h' : (part c l).2.1 ≠ [] := by simpa [part, hc] using h
      have := part_back h'
      simp only [part, hc, if_false]
      rw [List.cons_append, ← this]
theorem spl_not {c : Nat} : ∀ {l : List Nat}, c ∉ l → spl c l = [l]
  | [], _ => rfl
  | x :: l, h => by
    have h1 : x ≠ c := fun e => h (by rw [e]; simp)
    have h2 : c ∉ l := fun e => h (List.mem_cons_of_mem _ e)
    simp [spl, h1, spl_not h2]
theorem spl_at {c : Nat} {r : List Nat} : ∀ {a : List Nat}, c ∉ a → spl c (a ++ c :: r) = a :: spl c r
  | [], _ => by simp [spl]
  | x :: a, h => by
    have h1 : x ≠ c := fun e => h (by rw [e]; simp)
    have h2 : c ∉ a := fun e => h (List.mem_cons_of_mem _ e)
    simp [spl, h1, spl_at h2]
/-- the words, each behind a c -/
def tl (c : Nat) (ws : List (List Nat)) : List Nat := ws.flatMap fun w => c :: w
theorem spl_back {c : Nat} : ∀ {l : List Nat} {w : List Nat} {ws : List (List Nat)}, spl c l = w :: ws → l = w ++ tl c ws
  | [], w, ws, h => by
    simp [spl] at h
    obtain ⟨rfl, rfl⟩ := h
    rfl
  | x :: l, w, ws, h => by
    by_cases hc : x = c
    · subst hc
      have h' : [] :: spl x l = w :: ws := by simpa [spl] using h
      injection h' with e1 e2
      subst e1
      cases e : spl x l with
      | nil => exact absurd e (spl_ne _ _)
      | cons v vs =>
        rw [e] at e2
        subst e2
        have := spl_back e
        simp [tl] at this ⊢
        exact this
    · cases e : spl c l with
      | nil => exact absurd e (spl_ne _ _)
      | cons v vs =>
        have h' : (x :: v) :: vs = w :: ws := by simpa [spl, hc, e] using h
        injection h' with e1 e2
        subst e1 e2
        rw [List.cons_append, ← spl_back e]
theorem spl_tl {c : Nat} : ∀ {ws : List (List Nat)} {w : List Nat}, c ∉ w → (∀ v ∈ ws, c ∉ v) → spl c (w ++ tl c ws) = w :: ws
  | [], w, h, _ => by
    rw [show tl c [] = [] from rfl, List.append_nil, spl_not h]
  | v :: ws, w, h, hs => by
    have e : tl c (v :: ws) = c :: (v ++ tl c ws) := rfl
    rw [e, spl_at h, spl_tl (hs v (by simp)) (fun u hu => hs u (List.mem_cons_of_mem _ hu))]
/-! ### numbers -/
def isNum (l : List Nat) : Bool := decide (0 < l.length) && decide (l.length ≤ 3) && !(decide (1 < l.length) && decide (l.head? = some 48)) && l.all fun c => decide (48 ≤ c) && decide (c ≤ 57)
def txt (n : Int) : List Nat := (Str.ofString (toString n)).cps.toList
theorem txt_tx (n : Int) : Str.ofString (toString n) = tx (txt n) := (tx_cps _).symm
theorem txt_nat (m : Nat) : txt (m : Int) = (Nat.toDigits 10 m).map Char.toNat := PySem.W.KIN.signs_num m
theorem all_digits {l : List Nat} (h : (l.all fun c => decide (48 ≤ c) && decide (c ≤ 57)) = true) : AllDigits l := fun c hc => by
  have := List.all_eq_true.mp h c hc
  simpa using this
theorem isNum_digits {l : List Nat} (h : isNum l = true) : AllDigits l ∧ l ≠ [] ∧ l.length ≤ 3 ∧ ¬ (1 < l.length ∧ l.head? = some 48) := by
  unfold isNum at h
  simp only [Bool.and_eq_true, decide_eq_true_eq, Bool.not_eq_true', Bool.and_eq_false_iff, decide_eq_false_iff_not] at h
  obtain ⟨⟨⟨h1, h2⟩, h3⟩, h4⟩ := h
  refine ⟨all_digits h4, fun e => ?_, h2, fun ⟨a, b⟩ => ?_⟩
  · rw [e] at h1
    exact absurd h1 (Nat.lt_irrefl _)
  · rcases h3 with z | z
    · exact z a
    · exact z b
theorem txt_num_nat : ∀ m : Nat, m < 1000 → isNum ((Nat.toDigits 10 m).map Char.toNat) = true := by decide +kernel
theorem txt_num {n : Int} (h0 : 0 ≤ n) (h1 : n < 1000) : isNum (txt n) = true := by
  obtain ⟨m, rfl⟩ := Int.eq_ofNat_of_zero_le h0
  rw [txt_nat]
  exact txt_num_nat m (by omega)
theorem txt_val {n : Int} (h0 : 0 ≤ n) : ((digitsVal (txt n) : Nat) : Int) = n := by
  obtain ⟨m, rfl⟩ := Int.eq_ofNat_of_zero_le h0
  rw [txt_nat, PySem.W.KIN.val_back]
theorem char_back : ∀ c : Nat, c < 58 → (Char.ofNat c).toNat = c := by decide
theorem txt_back {l : List Nat} (h : isNum l = true) : txt ((digitsVal l : Nat) : Int) = l := by
  obtain ⟨hd, hne, h3, hz⟩ := isNum_digits h
  rw [txt_nat]
  obtain ⟨n, hn⟩ : ∃ n, l.length = n + 1 := ⟨l.length - 1, by have := List.length_pos_iff.mpr hne; omega⟩
  rw [toDigits_digitsVal n l hn hd (by
    by_cases h0 : n = 0
    · exact .inl h0
    · refine .inr ?_
      cases l with
      | nil => exact absurd rfl hne
      | cons c r =>
        refine ⟨c, r, rfl, ?_⟩
        have := hd.head
        have z : c ≠ 48 := fun e => hz ⟨by omega, by rw [e]; rfl⟩
        omega), List.map_map]
  refine (List.map_congr_left fun c hc => ?_).trans (List.map_id' l)
  exact char_back c (by have := hd c hc; omega)
theorem val_lt {l : List Nat} (h : isNum l = true) : digitsVal l < 1000 := by
  obtain ⟨hd, hne, h3, _⟩ := isNum_digits h
  match l, h3 with
  | [], _ => exact absurd rfl hne
  | [a], _ =>
    have := hd a (by simp)
    show 0 * 10 + (a - 48) < 1000
    omega
  | [a, b], _ =>
    have := hd a (by simp)
    have := hd b (by simp)
    show (0 * 10 + (a - 48)) * 10 + (b - 48) < 1000
    omega
  | [a, b, c], _ =>
    have := hd a (by simp)
    have := hd b (by simp)
    have := hd c (by simp)
    show ((0 * 10 + (a - 48)) * 10 + (b - 48)) * 10 + (c - 48) < 1000
    omega
theorem txt_no {n : Int} (h0 : 0 ≤ n) (h1 : n < 1000) {c : Nat} (hc : c < 48 ∨ 57 < c) : c ∉ txt n := fun z => by
  have := (isNum_digits (txt_num h0 h1)).1 c z
  omega
theorem txt_inj {n m : Int} (h0 : 0 ≤ n) (h1 : 0 ≤ m) (e : txt n = txt m) : n = m := by
  have := txt_val h0
  rw [e, txt_val h1] at this
  exact this.symm
end ST

set_option Elab.async false
set_option linter.all false
set_option maxRecDepth 100000
/-! texts: walked, split, joined, read -/
namespace L2
open PySem PySem.Spec PyProof.Rows ST
/-- a text walked, sign by sign -/
def Itx (l : List Nat) : It := ⟨fun i _ => i < l.length, fun i H x H' => H' = H ∧ ∃ c, l[i]? = some c ∧ x = .str (tx [c]), fun i _ => l.length ≤ i⟩
theorem turn_txt {P : Program} {w : World} {K : PySem.W.Frag} {tg : Expr} (l : List Nat) (t : Tok) (it : Addr) (ty : String) (hty : ty = "str_ascii_iterator" ∨ ty = "str_iterator") : Turn P w K tg (Itx l) [it] it (fun i h => h.IsStrIter it ty (tx l) t i) where
  mem := by simp
  obj := fun i h st b hb => by
    have e : b = it := by simpa using hb
    subst e
    obtain ⟨o, e, c, d⟩ := st
    exact ⟨o, e, fun v z => by rw [d] at z; cases z⟩
  keep := fun i h h' st k => let ⟨o, e, r⟩ := st; ⟨o, k it (by simp) o e, r⟩
  item := by
    intro X hP hw hK hc i pins s σ H E I hf st hg
    subst hP hw hK
    have hg' : i < l.length := hg
    obtain ⟨c, hx⟩ : ∃ c, l[i]? = some c := ⟨l[i], by simp [hg']⟩
    have hx2 : (tx l).cps[i]? = some c := by
      show l.toArray[i]? = some c
      simpa using hx
    obtain ⟨f0, f1, f2, f3, f4, f5⟩ := hf it (by simp)
    rcases hty with rfl | rfl
    · refine wpAny_pyNext_ascii_item st hx2 fun h' st' sb => ?_
      have I1 : Inv X pins σ H { s with heap := h', toks := s.toks + 1 } := I.turned (t' := s.toks + 1) (fun b o hb e => (sb.2 b hb).trans e) f0 f1 f3 f4 f5
      obtain ⟨o, e, cc, d⟩ := id st'
      exact ⟨_, rfl, go_of (s := { s with heap := h', toks := s.toks + 1 }) e cc d (by decide) ⟨.str (tx [c]), H, I1, ⟨_, rfl⟩, ⟨rfl, c, hx, rfl⟩, st', fun b hb => (hf b hb).1⟩⟩
    · refine wpAny_pyNext_wide_item st hx2 fun h' st' sb => ?_
      have I1 : Inv X pins σ H { s with heap := h', toks := s.toks + 1 } := I.turned (t' := s.toks + 1) (fun b o hb e => (sb.2 b hb).trans e) f0 f1 f3 f4 f5
      obtain ⟨o, e, cc, d⟩ := id st'
      exact ⟨_, rfl, go_of (s := { s with heap := h', toks := s.toks + 1 }) e cc d (by decide) ⟨.str (tx [c]), H, I1, ⟨_, rfl⟩, ⟨rfl, c, hx, rfl⟩, st', fun b hb => (hf b hb).1⟩⟩
  done := by
    intro X hP hw hK hc i pins s σ H E I hf st hg
    subst hP hw hK
    have hg' : l.length ≤ i := hg
    have hx2 : (tx l).cps[i]? = none := by
      show l.toArray[i]? = none
      simpa using hg'
    obtain ⟨f0, f1, f2, f3, f4, f5⟩ := hf it (by simp)
    rcases hty with rfl | rfl
    · exact wpAny_pyNext_ascii_end (I.ok.hd hc) st hx2 fun h' eb => ⟨rfl, I.turned (t' := s.toks) (fun b o hb e => eb b o hb e) f0 f1 f3 f4 f5⟩
    · exact wpAny_pyNext_wide_end (I.ok.hd hc) st hx2 fun h' eb => ⟨rfl, I.turned (t' := s.toks) (fun b o hb e => eb b o hb e) f0 f1 f3 f4 f5⟩
  self := fun _ _ _ _ _ st h => by
    rcases hty with rfl | rfl
    · exact wpAny_pyIter_striter_ascii st h
    · exact wpAny_pyIter_striter_wide st h
def iTx (tl : TE) : TI := fun σ H R => tl σ H fun x H1 => ∃ l, x = .str (tx l) ∧ R (Itx l) H1
section
variable {X : Cx} {tg : Expr}
theorem pi_txt {l : Expr} {tl : TE} (hl : PE X l tl) : PI X tg l (iTx tl) := by
  intro pins s σ H R I h
  refine thn (hl pins s σ H _ I h) fun v s1 ⟨x, H1, I1, r1, q1⟩ => ?_
  obtain ⟨l, e, q⟩ := q1
  subst e
  obtain ⟨t, rfl⟩ := r1
  have fin : ∀ ty, (ty = "str_ascii_iterator" ∨ ty = "str_iterator") → PIE X pins σ tg R (.ref s1.heap.objs.size) { s1 with heap := s1.heap.push { cls := .type ty, data := .fields #[.str (tx l) t, .int 0 0] } } := fun ty hty => by
    refine ⟨s1.heap.objs.size, [s1.heap.objs.size], _, _, H1, rfl, I1.kept (t' := s1.toks) fun b o e => Heap.get?_push_of_some _ e, turn_txt l t _ ty hty, ⟨_, Heap.get?_push_size _ rfl, rfl, rfl⟩, fun b hb => ?_, q⟩
    have e : b = s1.heap.objs.size := by simpa using hb
    subst e
    exact I1.fpOk (Nat.le_refl _) (I1.hok.fresh (Nat.le_refl _))
  cases ha : (tx l).cps.all (· < 128)
  · exact wpAny_pyIter_wide ha (fin _ (.inr rfl))
  · exact wpAny_pyIter_ascii ha (fin _ (.inl rfl))
theorem comp_txt {l : List Nat} {σ0 : St} {te : TE} {H1 : Hp} {R : List V → Hp → Prop} (f : Nat → V) (hz : l.length ≤ sizeLine)
    (ht : ∀ i c H, l[i]? = some c → Same H1 H → te (σ0.set 0 (some (.str (tx [c])))) H fun y H3 => (List.range i).map f ++ [y] = (List.range (i + 1)).map f ∧ Same H1 H3)
    (hR : ∀ H, Same H1 H → R ((List.range l.length).map f) H) : CompR (Itx l) σ0 (gName 0) te H1 R :=
  comp_by l.length f hz (fun i H hi _ => hi) (fun H _ => Nat.le_refl _) (fun i H x H' hi sm y => by
    obtain ⟨e1, c, e2, e3⟩ := y
    subst e1 e3
    exact ht i c _ e2 sm) hR

/-! ### split, partition, join, strip, int -/
theorem vals_str : ∀ l : List (Str × Tok), Vals ((l.map (·.1)).map V.str) (strValues l)
  | [] => .nil
  | p :: r => .cons (show RelV (.str p.1) (.str p.1 p.2) from ⟨p.2, rfl⟩) (vals_str r)
theorem spl_len (c : Nat) : ∀ l : List Nat, (spl c l).length ≤ l.length + 1
  | [] => Nat.le_refl _
  | x :: l => by
    have ih := spl_len c l
    by_cases h : x = c
    · simp [spl, h] at ih ⊢
      omega
    · cases e : spl c l with
      | nil => exact absurd e (spl_ne _ _)
      | cons p ps =>
        rw [e] at ih
        simp [spl, h, e] at ih ⊢
        omega
def rSplit : V → List V → Hp → VK → Prop := fun x vs H Q => ∃ l c, x = .str (tx l) ∧ vs = [.str (tx [c])] ∧ c < 256 ∧ l.length + 2 ≤ sizeLine ∧ ∀ p, H p = none → Q (.ref p) (upd H p (.lst ((spl c l).map fun w => V.str (tx w))))
theorem mt_split : MtM X "str.split" rSplit := by
  intro pins s σ H x vs v us Q I rx rv h
  obtain ⟨l, c, rfl, rfl, hc, hz, q⟩ := h
  obtain ⟨t, rfl⟩ := rx
  obtain ⟨u, rfl, ru⟩ := rv.one
  obtain ⟨t', rfl⟩ := ru
  have fin : ∀ (lst : List (Str × Tok)) (k : Nat), lst.map (·.1) = Txt.split (tx l) (tx [c]) → EP X pins σ Q (.ref s.heap.objs.size) { s with heap := s.heap.push { cls := .type "list", data := .seq (strValues lst).toArray }, toks := k } := fun lst k e => by
    have r := vals_str lst
    rw [e, split_tx l c hc, List.map_map] at r
    have hl : ((spl c l).map (V.str ∘ tx)).length ≤ sizeLine := by
      rw [List.length_map]
      have := spl_len c l
      omega
    exact ⟨.ref _, _, I.lnew (t' := k) r hl, rfl, q _ I.fresh⟩
  have hn : (Builtin.Str.partsBetween (tx l) (Builtin.Str.occurrences (tx l) (tx [c]) 0 (tx l).length ((tx l).length + 1)) (tx [c]).length).length ≤ sizeLine := by
    have e1 := StrLaws.occ_length_le (tx l) (tx [c]) 0 (tx l).length ((tx l).length + 1)
    rw [length_partsBetween]
    rw [tx_len] at e1 ⊢
    omega
  have hy : ((tx [c]).length == 0) = false := rfl
  have hx : (tx l).length ≤ sizeLine := by rw [tx_len]; omega
  cases h1 : (decide ((tx l).length < (tx [c]).length) || decide (Builtin.Str.strKind (tx l) < Builtin.Str.strKind (tx [c])))
  · cases hf : (Builtin.Str.occurrences (tx l) (tx [c]) 0 (tx l).length ((tx l).length + 1)).isEmpty
    · refine call_meets F.slot_str_split (typeIs_str _ _ _) F.entry_str_split (F.args_str_split_2 _ _) (meets_str_split_sep (tx l) (tx [c]) t t' h1 hy hf hx hn) ?_
      show wants (EP X pins σ Q) X.xe _ { s with toks := _, heap := s.heap.push { cls := .type "list", data := .seq (strsFrom s.toks (Builtin.Str.partsBetween (tx l) (Builtin.Str.occurrences (tx l) (tx [c]) 0 (tx l).length ((tx l).length + 1)) (tx [c]).length)).toArray } }
      rw [strsFrom_eq]
      exact fin (numbered s.toks _) _ ((numbered_texts _ _).trans ((if_neg (ne_true_of_eq_false h1)).trans (if_neg (ne_true_of_eq_false hf))).symm)
    · exact call_meets F.slot_str_split (typeIs_str _ _ _) F.entry_str_split (F.args_str_split_2 _ _) (meets_str_split_not_found (tx l) (tx [c]) t t' h1 hy hf)
        (fin [(tx l, t)] s.toks ((if_neg (ne_true_of_eq_false h1)).trans (if_pos hf)).symm)
  · exact call_meets F.slot_str_split (typeIs_str _ _ _) F.entry_str_split (F.args_str_split_2 _ _) (meets_str_split_cannot_occur (tx l) (tx [c]) t t' h1)
      (fin [(tx l, t)] s.toks (if_pos h1).symm)
def rPart : V → List V → Hp → VK → Prop := fun x vs H Q => ∃ l c, x = .str (tx l) ∧ vs = [.str (tx [c])] ∧ l.length ≤ sizeLine ∧ ∀ p, H p = none → Q (.ref p) (upd H p (.tup [.str (tx (part c l).1), .str (tx (part c l).2.1), .str (tx (part c l).2.2)]))
theorem mt_part : MtM X "str.partition" rPart := by
  intro pins s σ H x vs v us Q I rx rv h
  obtain ⟨l, c, rfl, rfl, hz, q⟩ := h
  obtain ⟨t, rfl⟩ := rx
  obtain ⟨u, rfl, ru⟩ := rv.one
  obtain ⟨t', rfl⟩ := ru
  have fin : ∀ (ta tb tc : Tok) (k : Nat), EP X pins σ Q (.ref s.heap.objs.size) { s with heap := s.heap.push { cls := .type "tuple", data := .seq [.str (Txt.partition (tx l) (tx [c])).1 ta, .str (Txt.partition (tx l) (tx [c])).2.1 tb, .str (Txt.partition (tx l) (tx [c])).2.2 tc].toArray }, toks := k } := fun ta tb tc k => by
    rw [partition_eq]
    refine ⟨.ref _, _, I.laid (t' := k) (o := .tup [.str (tx (part c l).1), .str (tx (part c l).2.1), .str (tx (part c l).2.2)]) (fun b o e => Heap.get?_push_of_some _ e) (Nat.le_refl _) ?_, rfl, q _ I.fresh⟩
    exact ⟨(by show 3 ≤ sizeLine; decide), _, .cons ⟨ta, rfl⟩ (.cons ⟨tb, rfl⟩ (.cons ⟨tc, rfl⟩ .nil)), IsTup.new _ _⟩
  refine call_meets F.slot_str_partition (typeIs_str _ _ _) F.entry_str_partition (F.args_str_partition_2 _ _) (meets_str_partition (tx l) (tx [c]) t t' rfl hz) ?_
  have h' := fin
  unfold Txt.partition at h'
  revert h'
  cases Builtin.Str.occurrences (tx l) (tx [c]) 0 (tx l).length 1 with
  | nil => intro h'; exact h' _ _ _ _
  | cons i r => intro h'; exact h' _ _ _ _
def rStrip : V → List V → Hp → VK → Prop := fun x vs H Q => ∃ l d, x = .str (tx l) ∧ vs = [.str (tx d)] ∧ l.length ≤ sizeLine ∧ ∀ z, (z = [] ↔ ∀ c ∈ l, c ∈ d) → Q (.str (tx z)) H
theorem takeWhile_full {p : Nat → Bool} : ∀ {l : List Nat}, (l.takeWhile p).length = l.length ↔ ∀ c ∈ l, p c = true
  | [] => by simp
  | x :: l => by
    by_cases h : p x = true
    · rw [List.takeWhile_cons, if_pos h, List.length_cons, List.length_cons]
      constructor
      · intro e c hc
        rcases List.mem_cons.mp hc with rfl | hc
        · exact h
        · exact takeWhile_full.mp (by omega) c hc
      · intro e
        rw [takeWhile_full.mpr fun c hc => e c (List.mem_cons_of_mem _ hc)]
    · rw [List.takeWhile_cons, if_neg h]
      constructor
      · intro e
        simp at e
      · intro e
        exact absurd (e x (by simp)) h
theorem takeWhile_le {p : Nat → Bool} : ∀ {l : List Nat}, (l.takeWhile p).length ≤ l.length
  | [] => Nat.le_refl _
  | x :: l => by
    rw [List.takeWhile_cons]
    split
    · have := takeWhile_le (p := p) (l := l)
      simp
      omega
    · simp
theorem dropWhile_head {p : Nat → Bool} : ∀ {l : List Nat} (h : ¬ ∀ c ∈ l, p c = true), ∃ x r, l.drop (l.takeWhile p).length = x :: r ∧ p x = false
  | [], h => absurd (by simp) h
  | x :: l, h => by
    by_cases hx : p x = true
    · rw [List.takeWhile_cons, if_pos hx]
      have h' : ¬ ∀ c ∈ l, p c = true := fun z => h fun c hc => by
        rcases List.mem_cons.mp hc with rfl | hc
        · exact hx
        · exact z c hc
      obtain ⟨y, r, e, hy⟩ := dropWhile_head h'
      exact ⟨y, r, by simpa using e, hy⟩
    · rw [List.takeWhile_cons, if_neg hx]
      exact ⟨x, l, rfl, by simpa using hx⟩
theorem strip_nil (l d : List Nat) : (Txt.stripChars (tx l) (tx d)).cps.toList = [] ↔ ∀ c ∈ l, c ∈ d := by
  have hp : ∀ c, (tx d).cps.contains c = true ↔ c ∈ d := fun c => by
    show d.toArray.contains c = true ↔ _
    simp
  have e : Txt.stripChars (tx l) (tx d) = (if stripSame (tx d).cps.contains true true (tx l) = true then tx l else stripped (tx d).cps.contains true true (tx l)) := rfl
  generalize (tx d).cps.contains = p at hp e
  have hlo : stripLo p true (tx l) = (l.takeWhile p).length := rfl
  have hhi : stripHi p true (tx l) (stripLo p true (tx l)) = l.length - ((l.drop (l.takeWhile p).length).reverse.takeWhile p).length := rfl
  have hsub : (stripped p true true (tx l)).cps.toList = (l.drop (l.takeWhile p).length).take (l.length - ((l.drop (l.takeWhile p).length).reverse.takeWhile p).length - (l.takeWhile p).length) := by
    unfold stripped
    rw [StrLaws.strSub_toList, hlo, cps_tx]
    rfl
  rw [e]
  by_cases hall : ∀ c ∈ l, p c = true
  · have h1 : (l.takeWhile p).length = l.length := takeWhile_full.mpr hall
    refine iff_of_true ?_ fun c hc => (hp c).mp (hall c hc)
    split
    · rename_i hs
      have hs' : (stripLo p true (tx l) == 0 && stripHi p true (tx l) (stripLo p true (tx l)) == (tx l).length) = true := hs
      rw [hlo, h1, Bool.and_eq_true, beq_iff_eq] at hs'
      exact List.length_eq_zero_iff.mp hs'.1
    · rw [hsub, h1]
      simp
  · refine iff_of_false (fun z => ?_) fun z => hall fun c hc => (hp c).mpr (z c hc)
    obtain ⟨x, r, hd, hx⟩ := dropWhile_head hall
    have hlen : l.length - (l.takeWhile p).length = r.length + 1 := by
      have := congrArg List.length hd
      rw [List.length_drop, List.length_cons] at this
      exact this
    split at z
    · rw [cps_tx] at z
      rw [z] at hlen
      simp at hlen
    · rw [hsub, hd] at z
      have hb : ((x :: r).reverse.takeWhile p).length < (x :: r).length := by
        rcases Nat.lt_or_ge ((x :: r).reverse.takeWhile p).length (x :: r).length with h | h
        · exact h
        · have h2 : ((x :: r).reverse.takeWhile p).length = (x :: r).reverse.length := Nat.le_antisymm takeWhile_le (by rw [List.length_reverse]; exact h)
          have := takeWhile_full.mp h2 x (by simp)
          rw [hx] at this
          cases this
      rw [List.length_cons] at hb
      have : 0 < l.length - ((x :: r).reverse.takeWhile p).length - (l.takeWhile p).length := by omega
      obtain ⟨k, hk⟩ : ∃ k, l.length - ((x :: r).reverse.takeWhile p).length - (l.takeWhile p).length = k + 1 := ⟨_, (Nat.succ_pred_eq_of_pos this).symm⟩
      rw [hk, List.take_succ_cons] at z
      cases z
theorem mt_strip : MtM X "str.strip" rStrip := by
  intro pins s σ H x vs v us Q I rx rv h
  obtain ⟨l, d, rfl, rfl, hz, q⟩ := h
  obtain ⟨t, rfl⟩ := rx
  obtain ⟨u, rfl, ru⟩ := rv.one
  obtain ⟨t', rfl⟩ := ru
  refine SC.stripChars (fun t2 k => ⟨.str (tx (Txt.stripChars (tx l) (tx d)).cps.toList), H, I.tok _, ?_, q _ (strip_nil l d)⟩) hz
  rw [tx_cps]
  exact ⟨t2, rfl⟩
theorem join_tx : ∀ ws : List (List Nat), Str.join (tx []) (ws.map tx) = tx ws.flatten
  | [] => rfl
  | [w] => by simp [Str.join]
  | w :: v :: ws => by
    have ih := join_tx (v :: ws)
    show tx w ++ tx [] ++ Str.join (tx []) ((v :: ws).map tx) = _
    rw [ih, tx_app, tx_app, List.append_nil]
    rfl
theorem carried_str : ∀ {ws : List (List Nat)} {us : List Value}, Vals (ws.map fun w => V.str (tx w)) us → CarriedAll us ((ws.map tx).map PyData.str)
  | [], _, .nil => .nil
  | w :: ws, _, .cons r t => by
    obtain ⟨tk, rfl⟩ := r
    exact .cons (.str _ tk) (carried_str t)
def rJoin (K : PySem.W.Frag) : V → List V → Hp → VK → Prop := fun x vs H Q => ∃ (a : Addr) (ws : List (List Nat)), x = .str (tx []) ∧ vs = [.ref a] ∧ SqL K H a (ws.map fun w => V.str (tx w)) ∧ (∀ w ∈ ws, w.length ≤ 16) ∧ ws.length ≤ 1000000 ∧ Q (.str (tx ws.flatten)) H
theorem mt_join : MtM X "str.join" (rJoin X.K) := by
  intro pins s σ H x vs v us Q I rx rv h
  obtain ⟨a, ws, rfl, rfl, hq, hB, hn, q⟩ := h
  obtain ⟨t, rfl⟩ := rx
  obtain ⟨u, rfl, ru⟩ := rv.one
  cases ru
  obtain ⟨its, r, pl, hz⟩ := I.list hq
  refine join_madeW (g := tx) 16 pl.isList (by simpa using carried_str r) hB (by omega) (by decide) fun t' k => ⟨.str (tx ws.flatten), H, I.tok _, ?_, q⟩
  have e : Txt.join (tx []) (ws.map tx) = tx ws.flatten := (StrLaws.glued_eq_join _ _).trans (join_tx ws)
  rw [e]
  exact ⟨t', rfl⟩
theorem call_int_txt : CallR X (.type "int") (fun xs H Q => ∃ l, xs = [.str (tx l)] ∧ NumText.AllDigits l ∧ l ≠ [] ∧ l.length ≤ 640 ∧ Q (.int ((NumText.digitsVal l : Nat) : Int)) H) := by
  intro pins s σ H xs us Q I r h
  obtain ⟨l, rfl, hd, hne, hl, q⟩ := h
  obtain ⟨u, rfl, t, rfl⟩ := vals1 r
  refine PySem.W.KIN.call_text (PySem.intText_digits (x := tx l) hd hne (Nat.le_trans hl (by decide))) hl ⟨.int _, H, I.tok _, ⟨_, rfl⟩, q⟩
/-! ### max of a list -/
theorem call_maxL (hc : X.calm = true) : CallR X (.builtin "max") (fun xs H Q => ∃ (p : Addr) (ns : List Int), xs = [.ref p] ∧ SqL X.K H p (ns.map V.int) ∧ 0 < ns.length ∧ ∀ M, M ∈ ns → (∀ a ∈ ns, a ≤ M) → Q (.int M) H) := by
  intro pins s σ H xs us Q I r h
  obtain ⟨p, ns, rfl, hq, hne, q⟩ := h
  obtain ⟨u, rfl, rx⟩ := vals1 r
  cases rx
  obtain ⟨its, rv, pl, hz⟩ := I.list hq
  have hi := intsAre_of rv
  obtain ⟨xs, e⟩ := hi.allInts.items
  have hns : ns = xs.toList.map (·.1) := by
    rw [← hi.numsOf, ← nums_intItems, ← e]
  have hsz : 0 < xs.size := by
    have h3 := hne; rw [hns, List.length_map, Array.length_toList] at h3; exact h3
  have hl := pl.isList
  rw [e] at hl
  refine max_intList (I.ok.hd hc) hl hsz fun v h' tk hv hk => ?_
  obtain ⟨t, rfl⟩ := intItems_at hv
  obtain ⟨h1, h2⟩ := argBest_gt (numAt xs) (xs.size - 1)
  refine ⟨.int _, H, I.kept hk, ⟨t, rfl⟩, q _ ?_ fun a ha => ?_⟩
  · rw [hns, numAt_eq]; exact getD_mem (by rw [List.length_map, Array.length_toList]; omega)
  · rw [hns] at ha
    obtain ⟨j, hj, rfl⟩ := mem_getD ha
    rw [List.length_map, Array.length_toList] at hj
    rw [← numAt_eq]; exact h2 j (by omega)
end
end L2

set_option Elab.async false
set_option linter.all false
set_option maxRecDepth 100000
/-! texts: formatted, sliced, repeated; tuples of a number and a list compared -/
namespace L2
open PySem PySem.Spec PyProof.Rows ST
section
variable {X : Cx}
theorem log_small {i : Int} (h0 : 0 ≤ i) (h1 : i < 1000) : i.natAbs.log2 < 1920 := by
  have h : i.natAbs < 1000 := by omega
  by_cases hz : i.natAbs = 0
  · rw [hz]; decide
  · exact Nat.lt_trans ((Nat.log2_lt hz).mpr (Nat.lt_of_lt_of_le h (by decide : 1000 ≤ 2 ^ 10))) (by decide)
theorem txt_len {i : Int} (h0 : 0 ≤ i) (h1 : i < 1000) : (txt i).length ≤ 3 := (isNum_digits (txt_num h0 h1)).2.2.1
/-- f"{e}x" -/
theorem pe_fmtL {e : Expr} {te : TE} {y : Str} {j : Nat} {p1 p2 pos : Pos} (he : PE X e te) :
    PE X (.JoinedStr [.FormattedValue e (-1) none p1, .Constant (.str y) j p2] pos) (fun σ H Q => te σ H fun v H1 => ∃ i d, v = .int i ∧ 0 ≤ i ∧ i < 1000 ∧ y = tx d ∧ d.length ≤ 100 ∧ Q (.str (tx (txt i ++ d))) H1) := by
  intro pins s σ H Q I h
  refine wpAny_JoinedStr (Joins_cons (wpAny_FormattedValue_plain (thn (he pins s σ H _ I h) fun v s1 ⟨x, H1, I1, r1, q1⟩ => ?_)))
  obtain ⟨i, d, rfl, h0, h1, rfl, hd, q⟩ := q1
  obtain ⟨t, rfl⟩ := r1
  have hl := txt_len h0 h1
  refine wpAny_formatField_int (log_small h0 h1) ⟨_, _, rfl, ?_, ?_⟩
  · rw [txt_tx, show (Str.empty : Str) = tx [] from rfl, tx_app, tx_len, sizeLine_eq, List.nil_append]
    omega
  rw [txt_tx, show (Str.empty : Str) = tx [] from rfl, tx_app, List.nil_append]
  refine Joins_cons (Calls.Constant_str ⟨_, _, rfl, ?_, Joins_nil ⟨?_, ?_⟩⟩)
  · rw [tx_app, tx_len, sizeLine_eq, List.length_append]
    omega
  · rw [tx_app, tx_len, sizeLine_eq, List.length_append]
    omega
  · rw [tx_app]
    exact ⟨.str (tx (txt i ++ d)), H1, I1.tok _, ⟨_, rfl⟩, q⟩
/-- f"x{e}" -/
theorem pe_fmtR {e : Expr} {te : TE} {y : Str} {j : Nat} {p1 p2 pos : Pos} (he : PE X e te) (hy : y.length ≤ 1000 := by decide) :
    PE X (.JoinedStr [.Constant (.str y) j p2, .FormattedValue e (-1) none p1] pos) (fun σ H Q => te σ H fun v H1 => ∃ i d, v = .int i ∧ 0 ≤ i ∧ i < 1000 ∧ y = tx d ∧ d.length ≤ 100 ∧ Q (.str (tx (d ++ txt i))) H1) := by
  intro pins s σ H Q I h
  refine wpAny_JoinedStr (Joins_cons (Calls.Constant_str ⟨_, _, rfl, ?_, Joins_cons (wpAny_FormattedValue_plain (thn (he pins { s with toks := s.toks + 1 } σ H _ (I.tok _) h) fun v s1 ⟨x, H1, I1, r1, q1⟩ => ?_))⟩))
  · rw [Str.length_append, sizeLine_eq]
    show 0 + y.length ≤ _
    omega
  obtain ⟨i, d, rfl, h0, h1, rfl, hd, q⟩ := q1
  obtain ⟨t, rfl⟩ := r1
  have hl := txt_len h0 h1
  refine wpAny_formatField_int (log_small h0 h1) ⟨_, _, rfl, ?_, Joins_nil ⟨?_, ?_⟩⟩
  · rw [txt_tx, show (Str.empty : Str) = tx [] from rfl, tx_app, tx_app, tx_len, sizeLine_eq, List.length_append, List.nil_append]
    omega
  · rw [txt_tx, show (Str.empty : Str) = tx [] from rfl, tx_app, tx_app, tx_len, sizeLine_eq, List.length_append, List.nil_append]
    omega
  · rw [txt_tx, show (Str.empty : Str) = tx [] from rfl, tx_app, tx_app, List.nil_append]
    exact ⟨.str (tx (d ++ txt i)), H1, I1.tok _, ⟨_, rfl⟩, q⟩
/-! ### x[lo:hi] of a text; x * n -/
def rSlS : V → Option Int → Option Int → Hp → VK → Prop := fun x lo hi H Q => ∃ l, x = .str (tx l) ∧ l.length ≤ sizeLine ∧ ∀ z, z.length ≤ l.length → Q (.str (tx z)) H
theorem sl_str : SlR X rSlS := by
  intro pins s σ H x v vl vu lo hi sl Q I rx hs pl pu h
  obtain ⟨l, rfl, hz, q⟩ := h
  obtain ⟨t, rfl⟩ := rx
  refine ⟨"str", _, F.slot_str_getitem.lookup, typeIs_str _ _ _, ?_⟩
  have fin : ∀ t' k, EP X pins σ Q (.str (Txt.slice (tx l) lo hi) t') { s with toks := k } := fun t' k => by
    refine ⟨.str (tx (Txt.slice (tx l) lo hi).cps.toList), H, I.tok _, ?_, q _ (Txt.slice_le (tx l) lo hi)⟩
    rw [tx_cps]
    exact ⟨t', rfl⟩
  have hl : (Txt.slice (tx l) lo hi).length ≤ sizeLine := Nat.le_trans (Txt.slice_le _ _ _) hz
  obtain ⟨o, e1, e2, e3⟩ := hs
  cases pl with
  | none =>
    cases pu with
    | none => exact wpAny_getItem_str_slice (l := none) (u := none) (st := none) ⟨o, e1, e2, e3⟩ rfl (post_val_or_str ⟨hl, fin⟩)
    | int j tj => exact wpAny_getItem_str_slice (l := none) (u := some (j, tj)) (st := none) ⟨o, e1, e2, e3⟩ rfl (post_val_or_str ⟨hl, fin⟩)
  | int i ti =>
    cases pu with
    | none => exact wpAny_getItem_str_slice (l := some (i, ti)) (u := none) (st := none) ⟨o, e1, e2, e3⟩ rfl (post_val_or_str ⟨hl, fin⟩)
    | int j tj => exact wpAny_getItem_str_slice (l := some (i, ti)) (u := some (j, tj)) (st := none) ⟨o, e1, e2, e3⟩ rfl (post_val_or_str ⟨hl, fin⟩)
theorem op_mul_str : OpR X (binaryOp .Mult) (fun x y H Q => ∃ c n, x = .str (tx [c]) ∧ y = .int n ∧ 2 ≤ n ∧ n ≤ 10000 ∧ ∀ z, z.length ≤ n.toNat → Q (.str (tx z)) H) := by
  intro pins s σ H x y v u Q I rx ry h
  obtain ⟨c, n, rfl, rfl, h0, h1, q⟩ := h
  obtain ⟨t, rfl⟩ := rx
  obtain ⟨t', rfl⟩ := ry
  have hb : ∀ k : Nat, (((List.replicate k (tx [c]).cps).foldl (· ++ ·) #[]) : Array Nat).size = k := fun k => by
    have key : ∀ (k : Nat) (acc : Array Nat), ((List.replicate k (tx [c]).cps).foldl (· ++ ·) acc).size = acc.size + k := fun k => by
      induction k with
      | zero => intro acc; rfl
      | succ k ih =>
        intro acc
        rw [List.replicate_succ, List.foldl_cons, ih, Array.size_append]
        show acc.size + 1 + k = _
        omega
    rw [key]
    simp
  refine PySem.P.mul_str ?_ (fun _ _ => ?_) (fun _ _ => ?_) ?_
  · rw [decide_eq_false (by omega), decide_eq_false (by omega)]
    rfl
  · show ¬ ((1 : Int) > (2 ^ 63 - 1) / n)
    have : 1 ≤ (2 ^ 63 - 1 : Int) / n := (Int.le_ediv_iff_mul_le (by omega)).mpr (by omega)
    omega
  · unfold Builtin.Str.tooLong
    show decide _ = false
    refine decide_eq_false ?_
    show ¬ (1 * n.toNat > _)
    rw [Nat.one_mul, sizeLine_eq]
    omega
  · rw [if_neg (by omega), if_neg (by
      have e : (n == 1) = false := beq_eq_false_iff_ne.mpr (by omega)
      rw [e]
      show ¬ ((false || (1 == 0)) = true)
      decide)]
    refine ⟨?_, ⟨.str (tx ((List.replicate n.toNat (tx [c]).cps).foldl (· ++ ·) #[]).toList), H, I.tok _, ?_, q _ ?_⟩⟩
    · show ((List.replicate n.toNat (tx [c]).cps).foldl (· ++ ·) #[]).size ≤ _
      rw [hb, sizeLine_eq]
      omega
    · exact ⟨_, congrArg (fun z => Value.str z _) (tx_cps ⟨_⟩).symm⟩
    · rw [Array.length_toList, hb]
      exact Nat.le_refl _
/-! ### a tuple of a number and a list of numbers -/
def Pair (K : PySem.W.Frag) (H : Hp) (a : Addr) (n : Int) (ns : List Int) : Prop := ∃ b, SqT K H a [.int n, .ref b] ∧ SqL K H b (ns.map V.int)
theorem Pair.reads {pins : List (Addr × Obj)} {σ : St} {H : Hp} {s : Shared} {a : Addr} {n : Int} {ns : List Int} (I : Inv X pins σ H s) (h : Pair X.K H a n ns) :
    ∃ as, Reads s.heap (.ref a) (.tuple [.int n, .list (ns.map PyData.int)]) as := by
  obtain ⟨b, h1, h2⟩ := h
  obtain ⟨its, r1, p1, _⟩ := I.tuple h1
  obtain ⟨i2, r2, p2, _⟩ := I.list h2
  obtain ⟨u, v, rfl, ru, rv⟩ := r1.two
  obtain ⟨t, rfl⟩ := (show ∃ t, u = Value.int n t from ru)
  cases (show v = Value.ref b from rv)
  obtain ⟨o, e1, e2, n', e3⟩ := p1
  exact ⟨_, reads_tuple_at e1 e2 e3 (.cons (.int n t) (.cons (reads_newData p2.isList (PySem.W.ke_carried (intsAre_of r2))) .nil))⟩
theorem pair_shaped (n : Int) (ns : List Int) : SeqAt.shaped (.tuple [.int n, .list (ns.map PyData.int)]) = true := by
  simp [SeqAt.shaped, PyData.canLay0, PyData.canLayAll0, PyData.depth, PyData.depthAll, PySem.W.ke_canLayAll0, PySem.W.ke_depthAll]
theorem pair_eqv (a c : Int) (b d : List Int) : PyData.eqv (.tuple [.int a, .list (b.map PyData.int)]) (.tuple [.int c, .list (d.map PyData.int)]) = (decide (a = c) && decide (b = d)) := by
  simp [PyData.eqv, PyData.eqvAll, PySem.W.ked_eqvAll]
  rw [Bool.eq_iff_iff]
  simp
theorem op_eqPair (hu : X.A.units + 64 < cLine) : OpR X (compareOp .Eq) (fun x y H Q => ∃ (a b : Addr) (n m : Int) (ns ms : List Int), x = .ref a ∧ y = .ref b ∧ Pair X.K H a n ns ∧ Pair X.K H b m ms ∧ Q (.bl (decide (n = m) && decide (ns = ms))) H) := by
  intro pins s σ H x y v u Q I rx ry h
  obtain ⟨a, b, n, m, ns, ms, rfl, rfl, ha, hb, q⟩ := h
  cases rx
  cases ry
  obtain ⟨as, r1⟩ := ha.reads I
  obtain ⟨bs, r2⟩ := hb.reads I
  exact eq_dataH r1 r2 (pair_shaped _ _) (pair_shaped _ _) hu ⟨.bl _, H, I, by rw [pair_eqv]; rfl, q⟩
theorem op_nePair (hu : X.A.units + 64 < cLine) : OpR X (compareOp .NotEq) (fun x y H Q => ∃ (a b : Addr) (n m : Int) (ns ms : List Int), x = .ref a ∧ y = .ref b ∧ Pair X.K H a n ns ∧ Pair X.K H b m ms ∧ Q (.bl (!(decide (n = m) && decide (ns = ms)))) H) := by
  intro pins s σ H x y v u Q I rx ry h
  obtain ⟨a, b, n, m, ns, ms, rfl, rfl, ha, hb, q⟩ := h
  cases rx
  cases ry
  obtain ⟨as, r1⟩ := ha.reads I
  obtain ⟨bs, r2⟩ := hb.reads I
  exact ne_dataH r1 r2 (pair_shaped _ _) (pair_shaped _ _) hu ⟨.bl _, H, I, by rw [pair_eqv]; rfl, q⟩
end
end L2

/-! Sums, congruences, convolutions: plain mathematics. -/
namespace RM
/-- f 0 + .. + f (n - 1) -/
def sm : Nat → (Nat → Int) → Int
  | 0, _ => 0
  | n + 1, f => sm n f + f n
theorem sm_congr {n : Nat} {f g : Nat → Int} (h : ∀ i, i < n → f i = g i) : sm n f = sm n g := by
  induction n with
  | zero => rfl
  | succ n ih => rw [sm, sm, ih fun i hi => h i (by omega), h n (by omega)]
theorem sm_zero {n : Nat} {f : Nat → Int} (h : ∀ i, i < n → f i = 0) : sm n f = 0 := by
  induction n with
  | zero => rfl
  | succ n ih => rw [sm, ih fun i hi => h i (by omega), h n (by omega)]; rfl
theorem sm_add (n : Nat) (f g : Nat → Int) : sm n (fun i => f i + g i) = sm n f + sm n g := by
  induction n with
  | zero => rfl
  | succ n ih => simp only [sm]; rw [ih]; omega
theorem sm_mul (n : Nat) (c : Int) (f : Nat → Int) : sm n (fun i => c * f i) = c * sm n f := by
  induction n with
  | zero => simp [sm]
  | succ n ih => simp only [sm]; rw [ih, Int.mul_add]
theorem sm_mulr (n : Nat) (c : Int) (f : Nat → Int) : sm n (fun i => f i * c) = sm n f * c := by
  rw [Int.mul_comm, ← sm_mul]
  exact sm_congr fun i _ => Int.mul_comm _ _
/-- one more at the front -/
theorem sm_front (n : Nat) (f : Nat → Int) : sm (n + 1) f = f 0 + sm n (fun i => f (i + 1)) := by
  induction n with
  | zero => simp [sm]
  | succ n ih =>
    rw [sm, ih]
    simp only [sm]
    omega
/-- told from behind -/
theorem sm_rev (n : Nat) (f : Nat → Int) : sm n (fun i => f (n - 1 - i)) = sm n f := by
  induction n with
  | zero => rfl
  | succ n ih =>
    rw [sm_front, sm]
    have e : sm n (fun i => f (n + 1 - 1 - (i + 1))) = sm n (fun i => f (n - 1 - i)) := sm_congr fun i _ => by
      have : n + 1 - 1 - (i + 1) = n - 1 - i := by omega
      rw [this]
    rw [e, ih]
    simp only [Nat.add_sub_cancel, Nat.sub_zero]
    omega
theorem sm_cut {n m : Nat} {f : Nat → Int} (h : n ≤ m) (h0 : ∀ i, n ≤ i → i < m → f i = 0) : sm m f = sm n f := by
  induction m with
  | zero => have : n = 0 := by omega
            subst this; rfl
  | succ m ih =>
    by_cases e : n = m + 1
    · rw [e]
    · rw [sm, ih (by omega) fun i a b => h0 i a (by omega), h0 m (by omega) (by omega)]
      omega
/-- a triangle told by its rows or by its diagonals -/
theorem sm_tri (F : Nat → Nat → Int) (n : Nat) : sm (n + 1) (fun i => sm (n - i + 1) (fun j => F i j)) = sm (n + 1) (fun k => sm (k + 1) (fun i => F i (k - i))) := by
  induction n with
  | zero => rfl
  | succ n ih =>
    rw [show sm (n + 1 + 1) (fun k => sm (k + 1) (fun i => F i (k - i))) = sm (n + 1) (fun k => sm (k + 1) (fun i => F i (k - i))) + sm (n + 1 + 1) (fun i => F i (n + 1 - i)) from rfl, ← ih]
    rw [sm]
    have e1 : sm (n + 1) (fun i => sm (n + 1 - i + 1) (fun j => F i j)) = sm (n + 1) (fun i => sm (n - i + 1) (fun j => F i j)) + sm (n + 1) (fun i => F i (n + 1 - i)) := by
      rw [← sm_add]
      refine sm_congr fun i hi => ?_
      have e : n + 1 - i + 1 = (n - i + 1) + 1 := by omega
      have e' : n - i + 1 = n + 1 - i := by omega
      rw [e, sm, e']
    have e2 : sm (n + 1 - (n + 1) + 1) (fun j => F (n + 1) j) = F (n + 1) (n + 1 - (n + 1)) := by
      rw [Nat.sub_self]
      simp [sm]
    rw [e1, e2]
    rw [show sm (n + 1 + 1) (fun i => F i (n + 1 - i)) = sm (n + 1) (fun i => F i (n + 1 - i)) + F (n + 1) (n + 1 - (n + 1)) from rfl]
    omega

/-! ### equal up to p -/
def Cg (p a b : Int) : Prop := p ∣ a - b
theorem Cg.refl (p a : Int) : Cg p a a := ⟨0, by omega⟩
theorem Cg.of_eq {p a b : Int} (h : a = b) : Cg p a b := h ▸ Cg.refl p a
theorem Cg.symm {p a b : Int} (h : Cg p a b) : Cg p b a := by
  obtain ⟨k, e⟩ := h
  exact ⟨-k, by rw [Int.mul_neg]; omega⟩
theorem Cg.trans {p a b c : Int} (h : Cg p a b) (h' : Cg p b c) : Cg p a c := by
  obtain ⟨k, e⟩ := h
  obtain ⟨l, e'⟩ := h'
  exact ⟨k + l, by rw [Int.mul_add]; omega⟩
theorem Cg.add {p a b c d : Int} (h : Cg p a b) (h' : Cg p c d) : Cg p (a + c) (b + d) := by
  obtain ⟨k, e⟩ := h
  obtain ⟨l, e'⟩ := h'
  exact ⟨k + l, by rw [Int.mul_add]; omega⟩
theorem Cg.neg {p a b : Int} (h : Cg p a b) : Cg p (-a) (-b) := by
  obtain ⟨k, e⟩ := h
  exact ⟨-k, by rw [Int.mul_neg]; omega⟩
theorem Cg.mul {p a b c d : Int} (h : Cg p a b) (h' : Cg p c d) : Cg p (a * c) (b * d) := by
  obtain ⟨k, e⟩ := h
  obtain ⟨l, e'⟩ := h'
  have e1 : a = b + p * k := by omega
  have e2 : c = d + p * l := by omega
  refine ⟨b * l + k * d + k * (p * l), ?_⟩
  rw [e1, e2]
  rw [Int.add_mul, Int.mul_add, Int.mul_add, Int.mul_add, Int.mul_add]
  have q1 : b * (p * l) = p * (b * l) := by rw [← Int.mul_assoc, Int.mul_comm b p, Int.mul_assoc]
  have q2 : p * k * d = p * (k * d) := Int.mul_assoc ..
  have q3 : p * k * (p * l) = p * (k * (p * l)) := Int.mul_assoc ..
  rw [q1, q2, q3]
  omega
theorem Cg.emod (p a : Int) : Cg p (a % p) a := by
  refine ⟨-(a / p), ?_⟩
  have := Int.emod_add_mul_ediv a p
  rw [Int.mul_neg]
  omega
theorem Cg.eq {p a b : Int} (hp : 0 < p) (h : Cg p a b) : a % p = b % p := by
  obtain ⟨k, e⟩ := h
  have e1 : a = b + p * k := by omega
  rw [e1, Int.add_mul_emod_self_left]
theorem Cg.sm {p : Int} {n : Nat} {f g : Nat → Int} (h : ∀ i, i < n → Cg p (f i) (g i)) : Cg p (sm n f) (sm n g) := by
  induction n with
  | zero => exact Cg.refl _ _
  | succ n ih => exact (ih fun i hi => h i (by omega)).add (h n (by omega))
/-- a rest is its own rest -/
theorem rest_eq {p a b : Int} (h0 : 0 ≤ a) (h1 : a < p) (h2 : 0 ≤ b) (h3 : b < p) (h : Cg p a b) : a = b := by
  have := h.eq (by omega)
  rw [Int.emod_eq_of_lt h0 h1, Int.emod_eq_of_lt h2 h3] at this
  exact this
theorem mod_rest {a p : Int} (hp : 0 < p) : 0 ≤ a % p ∧ a % p < p := ⟨Int.emod_nonneg _ (by omega), Int.emod_lt_of_pos _ hp⟩

/-! ### convolution -/
def cv (f g : Nat → Int) (n : Nat) : Int := sm (n + 1) fun i => f i * g (n - i)
theorem cv_comm (f g : Nat → Int) (n : Nat) : cv f g n = cv g f n := by
  unfold cv
  rw [← sm_rev (n + 1) (fun i => g i * f (n - i))]
  refine sm_congr fun i hi => ?_
  have e1 : n + 1 - 1 - i = n - i := by omega
  have e2 : n - (n - i) = i := by omega
  rw [e1, e2, Int.mul_comm]
theorem cv_assoc (f g h : Nat → Int) (n : Nat) : cv f (cv g h) n = cv (cv f g) h n := by
  have e1 : cv f (cv g h) n = sm (n + 1) (fun i => sm (n - i + 1) (fun j => f i * (g j * h (n - i - j)))) := sm_congr fun i _ => by
    unfold cv
    rw [sm_mul]
  have e2 : cv (cv f g) h n = sm (n + 1) (fun k => sm (k + 1) (fun i => f i * (g (k - i) * h (n - i - (k - i))))) := sm_congr fun k hk => by
    unfold cv
    rw [← sm_mulr]
    refine sm_congr fun i hi => ?_
    have e : n - i - (k - i) = n - k := by omega
    rw [e, Int.mul_assoc]
  rw [e1, e2]
  exact sm_tri (fun i j => f i * (g j * h (n - i - j))) n
theorem cv_congr {p : Int} {f f' g g' : Nat → Int} {n : Nat} (h : ∀ i, i ≤ n → Cg p (f i) (f' i)) (h' : ∀ i, i ≤ n → Cg p (g i) (g' i)) : Cg p (cv f g n) (cv f' g' n) :=
  Cg.sm fun i hi => (h i (by omega)).mul (h' (n - i) (by omega))
theorem cv_eq {f f' g g' : Nat → Int} {n : Nat} (h : ∀ i, i ≤ n → f i = f' i) (h' : ∀ i, i ≤ n → g i = g' i) : cv f g n = cv f' g' n :=
  sm_congr fun i hi => by rw [h i (by omega), h' (n - i) (by omega)]
/-- the sign of -1 to the n -/
def sg (n : Nat) : Int := if n % 2 = 0 then 1 else -1
theorem sg_mul (m n : Nat) : sg m * sg n = sg (m + n) := by
  unfold sg
  rcases Nat.mod_two_eq_zero_or_one m with hm | hm <;> rcases Nat.mod_two_eq_zero_or_one n with hn | hn
  · rw [if_pos hm, if_pos hn, if_pos (by omega)]; rfl
  · rw [if_pos hm, if_neg (by omega), if_neg (by omega)]; rfl
  · rw [if_neg (by omega), if_pos hn, if_neg (by omega)]; rfl
  · rw [if_neg (by omega), if_neg (by omega), if_pos (by omega)]; rfl
/-- q(x) q(-x) has even powers alone -/
theorem mirror_odd (q : Nat → Int) (n : Nat) (hn : n % 2 = 1) : cv q (fun i => sg i * q i) n = 0 := by
  have e1 : cv q (fun i => sg i * q i) n = -cv (fun i => sg i * q i) q n := by
    unfold cv
    rw [← Int.neg_one_mul, ← sm_mul]
    refine sm_congr fun i hi => ?_
    have e : sg (n - i) = -sg i := by
      have h1 : sg i * sg (n - i) = sg n := by rw [sg_mul, show i + (n - i) = n by omega]
      have h2 : sg n = -1 := by unfold sg; rw [if_neg (by omega)]
      rw [h2] at h1
      unfold sg at h1 ⊢
      by_cases c1 : i % 2 = 0 <;> by_cases c2 : (n - i) % 2 = 0 <;> simp only [c1, c2, if_true, if_false] at h1 ⊢ <;> omega
    show q i * (sg (n - i) * q (n - i)) = -1 * (sg i * q i * q (n - i))
    rw [e, Int.neg_mul, Int.mul_neg, Int.neg_one_mul, ← Int.mul_assoc, Int.mul_comm (q i) (sg i)]
  have e2 := cv_comm q (fun i => sg i * q i) n
  omega
/-- only even places count -/
theorem sm_even (e : Nat) (he : e < 2) (m : Nat) (f : Nat → Int) (h : ∀ i, i % 2 = 1 → f i = 0) : sm (2 * m + e + 1) f = sm (m + 1) (fun j => f (2 * j)) := by
  induction m with
  | zero =>
    rcases (by omega : e = 0 ∨ e = 1) with r | r
    · subst r; rfl
    · subst r
      show sm 2 f = sm 1 fun j => f (2 * j)
      simp only [sm]
      rw [h 1 rfl]
      simp
  | succ m ih =>
    have q : 2 * (m + 1) + e + 1 = (2 * m + e + 1) + 1 + 1 := by omega
    rw [q, sm, sm, ih]
    rw [show sm (m + 1 + 1) (fun j => f (2 * j)) = sm (m + 1) (fun j => f (2 * j)) + f (2 * (m + 1)) from rfl]
    rcases (by omega : e = 0 ∨ e = 1) with r | r
    · subst r
      rw [h (2 * m + 0 + 1) (by omega), show 2 * m + 0 + 1 + 1 = 2 * (m + 1) by omega]
      omega
    · subst r
      rw [h (2 * m + 1 + 1 + 1) (by omega), show 2 * m + 1 + 1 = 2 * (m + 1) by omega]
      omega
/-- ONE ROUND of halving: if q * a = u up to p then with v(x^2) = q(x) q(-x) and the half w of u(x) q(-x): v * (a at 2 n + e) = w up to p -/
theorem halve {p : Int} {q a u v w : Nat → Int} {e : Nat} (he : e < 2) (h : ∀ n, Cg p (cv q a n) (u n)) (hv : ∀ j, Cg p (v j) (cv q (fun i => sg i * q i) (2 * j))) (hw : ∀ m, Cg p (w m) (cv u (fun i => sg i * q i) (2 * m + e))) :
    ∀ m, Cg p (cv v (fun n => a (2 * n + e)) m) (w m) := fun m => by
  let s : Nat → Int := fun i => sg i * q i
  have h1 : Cg p (cv u s (2 * m + e)) (cv (cv q s) a (2 * m + e)) := by
    have a1 : Cg p (cv u s (2 * m + e)) (cv (cv q a) s (2 * m + e)) := cv_congr (fun i _ => (h i).symm) fun i _ => Cg.refl _ _
    refine a1.trans (Cg.of_eq ?_)
    rw [cv_comm, cv_assoc, cv_eq (fun i _ => cv_comm s q i) fun i _ => rfl]
  have h2 : cv (cv q s) a (2 * m + e) = sm (m + 1) (fun j => cv q s (2 * j) * a (2 * (m - j) + e)) := by
    unfold cv
    rw [sm_even e he m (fun i => sm (i + 1) (fun k => q k * s (i - k)) * a (2 * m + e - i)) fun i hi => by
      have z : sm (i + 1) (fun k => q k * s (i - k)) = 0 := mirror_odd q i hi
      rw [z, Int.zero_mul]]
    refine sm_congr fun j hj => ?_
    have z : 2 * m + e - 2 * j = 2 * (m - j) + e := by omega
    show sm (2 * j + 1) _ * a (2 * m + e - 2 * j) = _
    rw [z]
  have h3 : Cg p (cv v (fun n => a (2 * n + e)) m) (sm (m + 1) (fun j => cv q s (2 * j) * a (2 * (m - j) + e))) := Cg.sm fun j _ => (hv j).mul (Cg.refl _ _)
  exact (h3.trans (Cg.of_eq h2.symm)).trans (h1.symm.trans (hw m).symm)
end RM

namespace RM
/-! ### rules and rows as plain lists -/
def gt (l : List Int) (i : Nat) : Int := l.getD i 0
theorem gt_lt {l : List Int} {i : Nat} (h : i < l.length) : gt l i = l[i] := by unfold gt; rw [List.getD_eq_getElem?_getD, List.getElem?_eq_getElem h]; rfl
theorem gt_some {l : List Int} {i : Nat} {x : Int} (h : l[i]? = some x) : gt l i = x := by unfold gt; rw [List.getD_eq_getElem?_getD, h]; rfl
theorem gt_ge {l : List Int} {i : Nat} (h : l.length ≤ i) : gt l i = 0 := by unfold gt; rw [List.getD_eq_getElem?_getD, List.getElem?_eq_none h]; rfl
theorem gt_app {l r : List Int} {i : Nat} (h : i < l.length) : gt (l ++ r) i = gt l i := by unfold gt; rw [List.getD_eq_getElem?_getD, List.getD_eq_getElem?_getD, List.getElem?_append_left h]
theorem gt_last {l : List Int} {x : Int} : gt (l ++ [x]) l.length = x := by unfold gt; rw [List.getD_eq_getElem?_getD, List.getElem?_append_right (Nat.le_refl _)]; simp
theorem gt_map {n i : Nat} {f : Nat → Int} (h : i < n) : gt ((List.range n).map f) i = f i := by unfold gt; rw [List.getD_eq_getElem?_getD, List.getElem?_map, List.getElem?_range h]; rfl
theorem len_map {n : Nat} {f : Nat → Int} : ((List.range n).map f).length = n := by rw [List.length_map, List.length_range]
theorem gt_map0 {n i : Nat} {f : Nat → Int} (h : n ≤ i) : gt ((List.range n).map f) i = 0 := gt_ge (by rw [len_map]; exact h)
theorem gt_mapf {l : List Int} {f : Int → Int} {i : Nat} (h : i < l.length) : gt (l.map f) i = f (gt l i) := by
  rw [gt_lt h, gt_lt (by rw [List.length_map]; exact h), List.getElem_map]
theorem gt_map_all {l : List Int} {f : Int → Int} (h0 : f 0 = 0) (i : Nat) : gt (l.map f) i = f (gt l i) := by
  by_cases h : i < l.length
  · exact gt_mapf h
  · rw [gt_ge (by rw [List.length_map]; omega), gt_ge (by omega), h0]
theorem list_sum (l : List Int) : l.sum = sm l.length (gt l) := by
  induction l with
  | nil => rfl
  | cons x r ih =>
    rw [List.sum_cons, ih, List.length_cons, sm_front]
    rfl
theorem sum_range (n : Nat) (f : Nat → Int) : ((List.range n).map f).sum = sm n f := by
  rw [list_sum, len_map]
  exact sm_congr fun i hi => gt_map hi
/-- rests -/
def Rests (p : Int) (l : List Int) : Prop := ∀ x ∈ l, 0 ≤ x ∧ x < p
theorem Rests.at {p : Int} {l : List Int} (h : Rests p l) (hp : 0 < p) (i : Nat) : 0 ≤ gt l i ∧ gt l i < p := by
  by_cases hi : i < l.length
  · rw [gt_lt hi]; exact h _ (List.getElem_mem hi)
  · rw [gt_ge (by omega)]; omega
theorem Rests.map {p : Int} {n : Nat} {f : Nat → Int} (h : ∀ i, i < n → 0 ≤ f i ∧ f i < p) : Rests p ((List.range n).map f) := fun x hx => by
  obtain ⟨i, hi, rfl⟩ := List.mem_map.mp hx
  exact h i (List.mem_range.mp hi)
theorem Rests.app {p : Int} {l r : List Int} (h : Rests p l) (h' : Rests p r) : Rests p (l ++ r) := fun x hx => (List.mem_append.mp hx).elim (h x) (h' x)
theorem Rests.drop {p : Int} {l : List Int} (h : Rests p l) (k : Nat) : Rests p (l.drop k) := fun x hx => h x (List.mem_of_mem_drop hx)
theorem Rests.take {p : Int} {l : List Int} (h : Rests p l) (k : Nat) : Rests p (l.take k) := fun x hx => h x (List.mem_of_mem_take hx)
theorem Rests.one {p x : Int} (h : 0 ≤ x ∧ x < p) : Rests p [x] := fun y hy => by rw [List.mem_singleton.mp hy]; exact h
theorem Rests.nil {p : Int} : Rests p [] := fun _ h => nomatch h

/-- what is due at a place -/
def dueN (p : Int) (rule row : List Int) (k : Nat) : Int := sm rule.length (fun i => gt rule i * gt row (k - 1 - i)) % p
theorem dueN_rest {p : Int} (hp : 0 < p) (rule row : List Int) (k : Nat) : 0 ≤ dueN p rule row k ∧ dueN p rule row k < p := mod_rest hp
/-- whether a rule makes a row -/
def makesN (p : Int) (rule row : List Int) : Bool := (List.range (row.length - rule.length)).all fun i => gt row (rule.length + i) == dueN p rule row (rule.length + i)
/-- the row gone on, m numbers more -/
def ext (p : Int) (rule row : List Int) : Nat → List Int
  | 0 => row
  | m + 1 => ext p rule row m ++ [dueN p rule (ext p rule row m) (ext p rule row m).length]
theorem ext_len (p : Int) (rule row : List Int) (m : Nat) : (ext p rule row m).length = row.length + m := by
  induction m with
  | zero => rfl
  | succ m ih => rw [ext, List.length_append, ih]; rfl
theorem ext_pre (p : Int) (rule row : List Int) (m d : Nat) {i : Nat} (h : i < row.length + m) : gt (ext p rule row (m + d)) i = gt (ext p rule row m) i := by
  induction d with
  | zero => rfl
  | succ d ih => rw [← Nat.add_assoc, ext, gt_app (by rw [ext_len]; omega), ih]
/-- the number at a place of the row gone on for ever -/
def seq (p : Int) (rule row : List Int) (i : Nat) : Int := gt (ext p rule row (i + 1)) i
theorem seq_ext {p : Int} {rule row : List Int} {m i : Nat} (h : i < row.length + m) : gt (ext p rule row m) i = seq p rule row i := by
  unfold seq
  rcases Nat.le_total m (i + 1) with q | q
  · obtain ⟨d, e⟩ := Nat.exists_eq_add_of_le q
    rw [e, ext_pre _ _ _ _ _ h]
  · obtain ⟨d, e⟩ := Nat.exists_eq_add_of_le q
    rw [e, ext_pre _ _ _ _ _ (by omega)]
theorem seq_row {p : Int} {rule row : List Int} {i : Nat} (h : i < row.length) : seq p rule row i = gt row i := by
  rw [← seq_ext (m := 0) (by omega)]
  rfl
/-- it goes by the rule behind the row -/
theorem seq_rec {p : Int} {rule row : List Int} {n : Nat} (hl : rule.length ≤ row.length) (h : row.length ≤ n) : seq p rule row n = sm rule.length (fun i => gt rule i * seq p rule row (n - 1 - i)) % p := by
  obtain ⟨m, rfl⟩ := Nat.exists_eq_add_of_le h
  rw [← seq_ext (m := m + 1) (by omega)]
  have e := ext_len p rule row m
  have e2 : row.length + m = (ext p rule row m).length := by omega
  rw [ext, e2, gt_last, dueN]
  congr 1
  refine sm_congr fun i hi => ?_
  rw [seq_ext (by omega)]
/-! ### products of polynomials, the program's road -/
def prodAt (p : Int) (one other : List Int) (k : Nat) : Int := cv (gt one) (gt other) k % p
def polyN (p : Int) (rule : List Int) : List Int := 1 :: rule.map fun r => (-r) % p
theorem polyN_len (p : Int) (rule : List Int) : (polyN p rule).length = rule.length + 1 := by unfold polyN; rw [List.length_cons, List.length_map]
theorem polyN_0 (p : Int) (rule : List Int) : gt (polyN p rule) 0 = 1 := rfl
theorem polyN_s (p : Int) (rule : List Int) (i : Nat) : gt (polyN p rule) (i + 1) = (-gt rule i) % p := by
  have e : gt (polyN p rule) (i + 1) = gt (rule.map fun r => (-r) % p) i := rfl
  rw [e, gt_map_all (by simp)]
def mirN (p : Int) (l : List Int) : List Int := (List.range l.length).map fun i => if i % 2 = 0 then gt l i else (-gt l i) % p
theorem mirN_cg (p : Int) (l : List Int) (i : Nat) : Cg p (gt (mirN p l) i) (sg i * gt l i) := by
  by_cases h : i < l.length
  · unfold mirN sg
    rw [gt_map h]
    by_cases c : i % 2 = 0
    · rw [if_pos c, if_pos c, Int.one_mul]; exact Cg.refl _ _
    · rw [if_neg c, if_neg c, Int.neg_one_mul]; exact Cg.emod _ _
  · unfold mirN
    rw [gt_map0 (by omega), gt_ge (l := l) (by omega), Int.mul_zero]
    exact Cg.refl _ _
theorem mirN_len (p : Int) (l : List Int) : (mirN p l).length = l.length := len_map
theorem cv_high {f g : List Int} {k : Nat} (h : f.length + g.length ≤ k + 1) : cv (gt f) (gt g) k = 0 := sm_zero fun i hi => by
  by_cases c : i < f.length
  · rw [gt_ge (l := g) (by omega), Int.mul_zero]
  · rw [gt_ge (l := f) (by omega), Int.zero_mul]
/-- the state between two rounds: lower * a = upper up to p, lower begins with 1, and a at left is what is sought -/
structure NI (p : Int) (L : Nat) (goal : Int) (left : Nat) (lower upper : List Int) : Prop where
  ll : lower.length = L + 1
  lu : upper.length = L
  rl : Rests p lower
  ru : Rests p upper
  one : Cg p (gt lower 0) 1
  ex : ∃ a : Nat → Int, (∀ n, Cg p (cv (gt lower) a n) (gt upper n)) ∧ Cg p (a left) goal
def upN (p : Int) (L : Nat) (left : Nat) (lower upper : List Int) : List Int := (List.range L).map fun m => prodAt p upper (mirN p lower) (2 * m + left % 2)
def loN (p : Int) (L : Nat) (lower : List Int) : List Int := (List.range (L + 1)).map fun m => prodAt p lower (mirN p lower) (2 * m)
theorem NI.step {p : Int} {L : Nat} {goal : Int} {left : Nat} {lower upper : List Int} (hp : 0 < p) (h : NI p L goal left lower upper) : NI p L goal (left / 2) (loN p L lower) (upN p L left lower upper) := by
  have e2 : left % 2 < 2 := Nat.mod_lt _ (by decide)
  refine ⟨len_map, len_map, Rests.map fun _ _ => mod_rest hp, Rests.map fun _ _ => mod_rest hp, ?_, ?_⟩
  · unfold loN
    rw [gt_map (by omega)]
    refine (Cg.emod _ _).trans ?_
    show Cg p (0 + gt lower 0 * gt (mirN p lower) 0) 1
    have q : Cg p (gt (mirN p lower) 0) (gt lower 0) := (mirN_cg p lower 0).trans (Cg.of_eq (by unfold sg; simp))
    have := h.one.mul (q.trans h.one)
    rw [Int.zero_add]
    simpa using this
  · obtain ⟨a, ha, hg⟩ := h.ex
    refine ⟨fun n => a (2 * n + left % 2), halve e2 ha (fun j => ?_) (fun m => ?_), ?_⟩
    · by_cases c : j < L + 1
      · unfold loN
        rw [gt_map c]
        exact (Cg.emod _ _).trans (cv_congr (fun i _ => Cg.refl _ _) fun i _ => mirN_cg p lower i)
      · unfold loN
        rw [gt_map0 (by omega)]
        have z := cv_high (f := lower) (g := mirN p lower) (k := 2 * j) (by rw [mirN_len, h.ll]; omega)
        refine (Cg.of_eq z.symm).trans (cv_congr (fun i _ => Cg.refl _ _) fun i _ => mirN_cg p lower i)
    · by_cases c : m < L
      · unfold upN
        rw [gt_map c]
        exact (Cg.emod _ _).trans (cv_congr (fun i _ => Cg.refl _ _) fun i _ => mirN_cg p lower i)
      · unfold upN
        rw [gt_map0 (by omega)]
        have z := cv_high (f := upper) (g := mirN p lower) (k := 2 * m + left % 2) (by rw [mirN_len, h.ll, h.lu]; omega)
        refine (Cg.of_eq z.symm).trans (cv_congr (fun i _ => Cg.refl _ _) fun i _ => mirN_cg p lower i)
    · show Cg p (a (2 * (left / 2) + left % 2)) goal
      rw [show 2 * (left / 2) + left % 2 = left by omega]
      exact hg
theorem NI.done {p : Int} {L : Nat} {goal : Int} {lower upper : List Int} (hp : 0 < p) (hg : 0 ≤ goal ∧ goal < p) (h : NI p L goal 0 lower upper) : gt upper 0 = goal := by
  obtain ⟨a, ha, hl⟩ := h.ex
  have q := ha 0
  have q2 : cv (gt lower) a 0 = gt lower 0 * a 0 := by show 0 + gt lower 0 * a 0 = _; rw [Int.zero_add]
  rw [q2] at q
  have q3 : Cg p (gt lower 0 * a 0) (1 * goal) := h.one.mul hl
  rw [Int.one_mul] at q3
  have r := h.ru.at hp 0
  exact rest_eq r.1 r.2 hg.1 hg.2 (q.symm.trans q3)
theorem NI.start {p : Int} {rule start : List Int} (hp : 0 < p) (h1 : 1 < p) (hl : start.length = rule.length) (hL : 0 < rule.length) (place : Nat) :
    NI p rule.length (seq p rule start place) place (polyN p rule) ((List.range rule.length).map fun m => prodAt p start (polyN p rule) m) := by
  refine ⟨polyN_len p rule, len_map, ?_, Rests.map fun _ _ => mod_rest hp, Cg.of_eq (polyN_0 p rule), seq p rule start, fun n => ?_, Cg.refl _ _⟩
  · intro x hx
    rcases List.mem_cons.mp hx with rfl | hx
    · omega
    · obtain ⟨r, _, rfl⟩ := List.mem_map.mp hx
      exact mod_rest hp
  · by_cases c : n < rule.length
    · rw [gt_map c, cv_comm]
      refine (Cg.of_eq ?_).trans (Cg.emod _ _).symm
      exact cv_eq (fun i hi => seq_row (by omega)) fun _ _ => rfl
    · rw [gt_map0 (by omega)]
      have e1 : cv (gt (polyN p rule)) (seq p rule start) n = seq p rule start n + sm rule.length (fun i => (-gt rule i) % p * seq p rule start (n - 1 - i)) := by
        unfold cv
        rw [sm_front, polyN_0, Int.one_mul, Nat.sub_zero]
        congr 1
        have e : sm n (fun i => gt (polyN p rule) (i + 1) * seq p rule start (n - (i + 1))) = sm rule.length (fun i => gt (polyN p rule) (i + 1) * seq p rule start (n - (i + 1))) :=
          sm_cut (by omega) fun i a b => by rw [polyN_s, gt_ge a]; simp
        rw [e]
        refine sm_congr fun i hi => ?_
        rw [polyN_s, show n - (i + 1) = n - 1 - i by omega]
      rw [e1]
      have e2 : Cg p (sm rule.length (fun i => (-gt rule i) % p * seq p rule start (n - 1 - i))) (-sm rule.length (fun i => gt rule i * seq p rule start (n - 1 - i))) := by
        rw [← Int.neg_one_mul, ← sm_mul]
        refine Cg.sm fun i _ => ?_
        have q := (Cg.emod p (-gt rule i)).mul (Cg.refl p (seq p rule start (n - 1 - i)))
        rw [Int.neg_mul] at q
        rw [Int.neg_one_mul]
        exact q
      have e3 : Cg p (seq p rule start n) (sm rule.length (fun i => gt rule i * seq p rule start (n - 1 - i))) := by
        rw [seq_rec (by omega) (by omega)]
        exact Cg.emod _ _
      have := e3.add e2
      rw [Int.add_right_neg] at this
      exact this
end RM

namespace RM
/-! ### powers of a step -/
/-- a sum of steps, at a row -/
def phi (a : Nat → Int) (f : List Int) (n : Nat) : Int := sm f.length fun k => gt f k * a (n + k)
theorem sm_one {n j : Nat} (h : j < n) (f : Nat → Int) (x : Int) : sm n (fun k => if k = j then f k + x else f k) = sm n f + x := by
  induction n with
  | zero => omega
  | succ n ih =>
    simp only [sm]
    by_cases c : j = n
    · subst c
      rw [if_pos rfl, sm_congr (g := f) fun i hi => by rw [if_neg (by omega)]]
      omega
    · rw [ih (by omega), if_neg (Ne.symm c)]
      omega
/-- a row that goes on by the rule from its length on -/
def Rec (p : Int) (rule : List Int) (a : Nat → Int) : Prop := ∀ m, rule.length ≤ m → Cg p (a m) (sm rule.length fun k => gt rule k * a (m - 1 - k))
/-- what two sums of steps multiplied are, at a row -/
def prodPhi (a : Nat → Int) (one other : List Int) (n : Nat) : Int := sm one.length fun i => gt one i * phi a other (n + i)
/-- the first loops: i whole turns, then k turns -/
def part (a : Nat → Int) (one other : List Int) (i k n : Nat) : Int := sm i (fun i' => gt one i' * phi a other (n + i')) + gt one i * sm k (fun k' => gt other k' * a (n + i + k'))
/-- what the law's times hands back -/
structure TimesOk (p : Int) (rule one other f : List Int) : Prop where
  rests : Rests p f
  lo : 1 ≤ f.length
  hi : f.length ≤ rule.length
  val : ∀ a, Rec p rule a → ∀ n, Cg p (phi a f n) (prodPhi a one other n)
theorem TimesOk.steps {p : Int} {rule one other f : List Int} (h : TimesOk p rule one other f) {a : Nat → Int} (hr : Rec p rule a) {e1 e2 : Nat} (h1 : ∀ n, Cg p (phi a one n) (a (n + e1))) (h2 : ∀ n, Cg p (phi a other n) (a (n + e2))) :
    ∀ n, Cg p (phi a f n) (a (n + (e1 + e2))) := fun n => by
  refine (h.val a hr n).trans ?_
  have q : Cg p (prodPhi a one other n) (phi a one (n + e2)) := Cg.sm fun i _ => (Cg.refl _ _).mul ((h2 (n + i)).trans (Cg.of_eq (by rw [show n + i + e2 = n + e2 + i by omega])))
  refine q.trans ((h1 (n + e2)).trans (Cg.of_eq ?_))
  rw [show n + e2 + e1 = n + (e1 + e2) by omega]
end RM

set_option Elab.async false
set_option linter.all false
/-! rules put together, rules told backwards -/
namespace RM
theorem Cg.sub {p a b c d : Int} (h : Cg p a b) (h' : Cg p c d) : Cg p (a - c) (b - d) := by
  have := h.add h'.neg
  rw [← Int.sub_eq_add_neg, ← Int.sub_eq_add_neg] at this
  exact this
theorem Cg.zero_of {p a b : Int} (h : Cg p a b) : Cg p (a - b) 0 := by
  unfold Cg at h ⊢
  rw [Int.sub_zero]
  exact h
theorem Cg.of_zero {p a b : Int} (h : Cg p (a - b) 0) : Cg p a b := by
  unfold Cg at h ⊢
  rw [Int.sub_zero] at h
  exact h
theorem cv_poly (p : Int) (rule : List Int) (a : Nat → Int) (n : Nat) (h : rule.length ≤ n) : Cg p (cv (gt (polyN p rule)) a n) (a n - sm rule.length fun i => gt rule i * a (n - 1 - i)) := by
  unfold cv
  rw [sm_front, polyN_0, Int.one_mul, Nat.sub_zero]
  have e : sm n (fun i => gt (polyN p rule) (i + 1) * a (n - (i + 1))) = sm rule.length (fun i => gt (polyN p rule) (i + 1) * a (n - (i + 1))) := sm_cut h fun i h1 _ => by
    rw [polyN_s, gt_ge h1]
    simp
  rw [e, Int.sub_eq_add_neg]
  refine (Cg.refl _ _).add ?_
  have e2 : -(sm rule.length fun i => gt rule i * a (n - 1 - i)) = sm rule.length fun i => (-1) * (gt rule i * a (n - 1 - i)) := by
    rw [sm_mul, Int.neg_one_mul]
  rw [e2]
  refine Cg.sm fun i hi => ?_
  rw [polyN_s, show n - (i + 1) = n - 1 - i by omega, ← Int.mul_assoc, Int.neg_one_mul]
  exact (Cg.emod _ _).mul (Cg.refl _ _)
/-- a row goes by a rule, up to p -/
def Goes (p : Int) (rule row : List Int) : Prop := ∀ n, rule.length ≤ n → n < row.length → Cg p (cv (gt (polyN p rule)) (gt row) n) 0
theorem Goes.makes {p : Int} {rule row : List Int} (hp : 0 < p) (hr : Rests p row) (h : Goes p rule row) : makesN p rule row = true := by
  unfold makesN
  rw [List.all_eq_true]
  intro i hi
  have hi' := List.mem_range.mp hi
  rw [beq_iff_eq]
  have c := (cv_poly p rule (gt row) (rule.length + i) (by omega)).symm.trans (h (rule.length + i) (by omega) (by omega))
  have b := hr.at hp (rule.length + i)
  have b2 := dueN_rest hp rule row (rule.length + i)
  exact rest_eq b.1 b.2 b2.1 b2.2 ((Cg.of_zero c).trans (Cg.emod _ _).symm)
/-! ### put together -/
/-! ### told backwards -/
/-! ### the share of one, by powers -/
end RM

set_option Elab.async false
set_option linter.all false
/-! the shortest rule: rules mixed, the walk over a row -/
namespace RM
theorem sm_parts (n m : Nat) (f : Nat → Int) : sm (n + m) f = sm n f + sm m (fun i => f (n + i)) := by
  induction m with
  | zero => show sm n f = sm n f + 0; omega
  | succ m ih =>
    show sm (n + m) f + f (n + m) = sm n f + (sm m (fun i => f (n + i)) + f (n + m))
    rw [ih]
    omega
theorem sm_at {n j : Nat} (h : j < n) (x : Int) : sm n (fun k => if k = j then x else 0) = x := by
  have e := sm_one h (fun _ => 0) x
  rw [sm_zero (fun _ _ => rfl)] at e
  rw [← Int.zero_add x, ← e]
  refine sm_congr fun i _ => ?_
  show (if i = j then _ else _) = (if i = j then _ else _)
  by_cases q : i = j
  · rw [if_pos q, if_pos q, e]
  · rw [if_neg q, if_neg q]
/-- a rule with so many times another one, so far back: as far as k of its rests are in -/
def mixK (p : Int) (rule shorter : List Int) (shift : Nat) (share : Int) (k : Nat) : List Int :=
  (List.range (max rule.length (shift + shorter.length))).map fun i => (gt rule i + (if i + 1 = shift then share else 0) - (if shift ≤ i ∧ i < shift + k then share * gt shorter (i - shift) else 0)) % p
def mixL (p : Int) (rule shorter : List Int) (shift : Nat) (share : Int) : List Int := mixK p rule shorter shift share shorter.length
theorem mixL_len (p : Int) (rule shorter : List Int) (shift : Nat) (share : Int) : (mixL p rule shorter shift share).length = max rule.length (shift + shorter.length) := len_map
theorem mixK_rests {p : Int} (hp : 0 < p) (rule shorter : List Int) (shift : Nat) (share : Int) (k : Nat) : Rests p (mixK p rule shorter shift share k) := Rests.map fun _ _ => mod_rest hp
/-- what is due by the mixed rule -/
theorem mix_due {p : Int} {rule shorter row : List Int} {shift j : Nat} {share : Int} (hp : 0 < p) (hs : 1 ≤ shift) (hj : max rule.length (shift + shorter.length) ≤ j) :
    Cg p (sm (mixL p rule shorter shift share).length fun i => gt (mixL p rule shorter shift share) i * gt row (j - 1 - i))
      (sm rule.length (fun i => gt rule i * gt row (j - 1 - i)) + share * (gt row (j - shift) - sm shorter.length fun i => gt shorter i * gt row (j - shift - 1 - i))) := by
  rw [mixL_len]
  generalize hL : max rule.length (shift + shorter.length) = L
  have e1 : Cg p (sm L fun i => gt (mixL p rule shorter shift share) i * gt row (j - 1 - i))
      (sm L fun i => gt rule i * gt row (j - 1 - i) + ((if i = shift - 1 then share * gt row (j - shift) else 0) + -(if shift ≤ i then share * (gt shorter (i - shift) * gt row (j - 1 - i)) else 0))) := by
    refine Cg.sm fun i hi => ?_
    unfold mixL mixK
    rw [gt_map (by omega)]
    refine (Cg.mul (Cg.emod _ _) (Cg.refl _ _)).trans (Cg.of_eq ?_)
    rw [Int.sub_eq_add_neg, Int.add_mul, Int.add_mul, Int.add_assoc]
    congr 1
    congr 1
    · by_cases q : i = shift - 1
      · rw [if_pos (by omega), if_pos q, show j - 1 - i = j - shift by omega]
      · rw [if_neg (by omega), if_neg q, Int.zero_mul]
    · by_cases q : shift ≤ i
      · by_cases q2 : i < shift + shorter.length
        · rw [if_pos ⟨q, q2⟩, if_pos q, Int.neg_mul, Int.mul_assoc]
        · rw [if_neg (by omega), if_pos q, gt_ge (l := shorter) (by omega)]
          simp
      · rw [if_neg (by omega), if_neg q]
        simp
  refine e1.trans (Cg.of_eq ?_)
  rw [sm_add, sm_add, sm_cut (n := rule.length) (by omega) (fun i h1 _ => by rw [gt_ge h1, Int.zero_mul])]
  congr 1
  rw [sm_at (by omega), Int.mul_sub, Int.sub_eq_add_neg]
  congr 1
  have e2 : sm L (fun i => -(if shift ≤ i then share * (gt shorter (i - shift) * gt row (j - 1 - i)) else 0)) = (-1) * sm L (fun i => if shift ≤ i then share * (gt shorter (i - shift) * gt row (j - 1 - i)) else 0) := by
    rw [← sm_mul]
    exact sm_congr fun i _ => by omega
  rw [e2, show L = shift + (L - shift) by omega, sm_parts, sm_zero (n := shift) (fun i hi => if_neg (by omega)), Int.zero_add, sm_cut (n := shorter.length) (m := L - shift) (by omega) (fun i h1 _ => by
    rw [if_pos (by omega), gt_ge (l := shorter) (by omega)]; simp)]
  rw [Int.neg_mul, Int.one_mul]
  congr 1
  rw [← sm_mul]
  refine sm_congr fun i _ => ?_
  rw [if_pos (by omega), Nat.add_sub_cancel_left, show j - 1 - (shift + i) = j - shift - 1 - i by omega]
theorem mix_row {p : Int} {rule shorter row : List Int} {shift j : Nat} {share d e : Int} (hp : 0 < p) (hr : Rests p row) (hs : 1 ≤ shift) (hj : max rule.length (shift + shorter.length) ≤ j) (h1 : Cg p (gt row j - sm rule.length fun i => gt rule i * gt row (j - 1 - i)) d)
    (h2 : Cg p (gt row (j - shift) - sm shorter.length fun i => gt shorter i * gt row (j - shift - 1 - i)) e) (h3 : Cg p (share * e) d) : gt row j = dueN p (mixL p rule shorter shift share) row j := by
  have a := hr.at hp j
  have b := dueN_rest hp (mixL p rule shorter shift share) row j
  refine rest_eq a.1 a.2 b.1 b.2 (Cg.symm ?_)
  unfold dueN
  refine (Cg.emod _ _).trans ((mix_due (row := row) (share := share) hp hs hj).trans ?_)
  have c := (Cg.refl p (sm rule.length fun i => gt rule i * gt row (j - 1 - i))).add (((Cg.refl p share).mul h2).trans (h3.trans h1.symm))
  refine c.trans (Cg.of_eq ?_)
  rw [Int.add_comm, Int.sub_add_cancel]
theorem lack_zero {p : Int} {rule row : List Int} {j : Nat} (h : gt row j = dueN p rule row j) : Cg p (gt row j - sm rule.length fun i => gt rule i * gt row (j - 1 - i)) 0 := by
  refine Cg.zero_of ?_
  rw [h]
  exact Cg.emod _ _
theorem lack_miss (p : Int) (rule row : List Int) (j : Nat) : Cg p (gt row j - sm rule.length fun i => gt rule i * gt row (j - 1 - i)) ((gt row j - dueN p rule row j) % p) := Cg.symm ((Cg.emod _ _).trans (Cg.sub (Cg.refl _ _) (Cg.emod _ _)))
/-! ### whether an answer shows what it tells -/
def restsB (p : Int) (l : List Int) : Bool := l.all fun x => decide (0 ≤ x) && decide (x < p)
theorem restsB_iff {p : Int} {l : List Int} : restsB p l = true ↔ Rests p l := by
  unfold restsB Rests
  rw [List.all_eq_true]
  simp
def firstB (p : Int) (row shorter : List Int) (q : Nat) : Bool := (!(gt row q == dueN p shorter row q)) && makesN p shorter (row.take q)
def leastB (p : Int) (row rule shorter : List Int) (place : Int) : Bool :=
  restsB p rule && restsB p shorter && makesN p rule row &&
    (if rule.length = 0 then decide (shorter.length = 0) && decide (place = -1)
     else decide (shorter.length < rule.length) && decide ((rule.length : Int) + shorter.length = place + 1) && decide ((shorter.length : Int) ≤ place ∧ place < row.length) && firstB p row shorter place.toNat)
theorem makes_iff {p : Int} {rule row : List Int} : makesN p rule row = true ↔ ∀ j, rule.length ≤ j → j < row.length → gt row j = dueN p rule row j := by
  unfold makesN
  rw [List.all_eq_true]
  constructor
  · intro h j h1 h2
    have := h (j - rule.length) (List.mem_range.mpr (by omega))
    rw [show rule.length + (j - rule.length) = j by omega] at this
    exact beq_iff_eq.mp this
  · intro h i hi
    have := List.mem_range.mp hi
    exact beq_iff_eq.mpr (h _ (by omega) (by omega))
theorem gt_takeM {l : List Int} {k i : Nat} (h : i < k) : gt (l.take k) i = gt l i := by
  unfold gt
  rw [List.getD_eq_getElem?_getD, List.getD_eq_getElem?_getD, List.getElem?_take_of_lt h]
theorem dueN_take {p : Int} {rule row : List Int} {j q : Nat} (h0 : rule.length ≤ j) (h : j ≤ q) : dueN p rule (row.take q) j = dueN p rule row j := by
  unfold dueN
  congr 1
  refine sm_congr fun i hi => ?_
  rw [gt_takeM (by omega)]
theorem makes_take {p : Int} {rule row : List Int} {q : Nat} (hq : q ≤ row.length) : makesN p rule (row.take q) = true ↔ ∀ j, rule.length ≤ j → j < q → gt row j = dueN p rule row j := by
  rw [makes_iff, List.length_take, Nat.min_eq_left hq]
  constructor
  · intro h j h1 h2
    have := h j h1 h2
    rwa [gt_takeM h2, dueN_take h1 (by omega)] at this
  · intro h j h1 h2
    rw [gt_takeM h2, dueN_take h1 (by omega)]
    exact h j h1 h2
/-! ### the walk -/
structure BM (p : Int) (row : List Int) (n : Nat) (rule shorter : List Int) (place miss : Int) : Prop where
  r1 : Rests p rule
  r2 : Rests p shorter
  all : ∀ j, rule.length ≤ j → j < n → gt row j = dueN p rule row j
  st : (rule = [] ∧ shorter = [] ∧ place = -1 ∧ miss = 1) ∨ ∃ q : Nat, place = (q : Int) ∧ q < n ∧ shorter.length < rule.length ∧ rule.length + shorter.length = q + 1 ∧ shorter.length ≤ q ∧
    (∀ j, shorter.length ≤ j → j < q → gt row j = dueN p shorter row j) ∧ miss = (gt row q - dueN p shorter row q) % p ∧ miss ≠ 0
theorem BM.start (p : Int) (row : List Int) : BM p row 0 [] [] (-1) 1 := ⟨Rests.nil, Rests.nil, fun j _ h => absurd h (Nat.not_lt_zero _), .inl ⟨rfl, rfl, rfl, rfl⟩⟩
section
variable {p : Int} {row : List Int} {n : Nat} {rule shorter : List Int} {place miss : Int}
theorem BM.len (h : BM p row n rule shorter place miss) : rule.length ≤ n := by
  rcases h.st with ⟨h1, _⟩ | ⟨q, _, h1, _, h2, _⟩
  · rw [h1]; exact Nat.zero_le _
  · omega
theorem BM.lo (h : BM p row n rule shorter place miss) : -1 ≤ place ∧ place < n := by
  rcases h.st with ⟨_, _, h1, _⟩ | ⟨q, h0, h1, _⟩
  · omega
  · omega
/-- the mixed rule makes what is ahead, and the next one -/
theorem BM.mixed (hp : 0 < p) (hr : Rests p row) (h : BM p row n rule shorter place miss) {share lack : Int} (hl : lack = (gt row n - dueN p rule row n) % p) (hs : Cg p (share * miss) lack) :
    ∀ j, (mixL p rule shorter ((n : Int) - place).toNat share).length ≤ j → j < n + 1 → gt row j = dueN p (mixL p rule shorter ((n : Int) - place).toNat share) row j := by
  intro j h1 h2
  rcases h.st with ⟨hr0, hs0, hpl, hm⟩ | ⟨q, hq, hqn, hlt, hsum, hle, hmk, hm, hm0⟩
  · rw [mixL_len, hr0, hs0, hpl] at h1
    have : ((n : Int) - -1).toNat = n + 1 := by omega
    rw [this] at h1
    have : max ([] : List Int).length (n + 1 + ([] : List Int).length) = n + 1 := by simp
    omega
  have hsh : ((n : Int) - place).toNat = n - q := by omega
  rw [hsh] at h1 ⊢
  rw [mixL_len] at h1
  by_cases hj : j < n
  · refine mix_row hp hr (by omega) h1 (lack_zero (h.all j (by omega) hj)) (lack_zero (hmk (j - (n - q)) (by omega) (by omega))) ?_
    rw [Int.mul_zero]
    exact Cg.refl _ _
  · have : j = n := by omega
    subst this
    have c2 := lack_miss p shorter row q
    rw [← hm] at c2
    have c1 := lack_miss p rule row j
    rw [← hl] at c1
    refine mix_row (e := miss) hp hr (by omega) h1 c1 ?_ hs
    rw [show j - (j - q) = q by omega]
    exact c2
theorem BM.same (hp : 0 < p) (hr : Rests p row) (h : BM p row n rule shorter place miss) {share lack : Int} (hl : lack = (gt row n - dueN p rule row n) % p) (h0 : lack ≠ 0) (hs : Cg p (share * miss) lack)
    (hg : ¬ rule.length < (mixL p rule shorter ((n : Int) - place).toNat share).length) : BM p row (n + 1) (mixL p rule shorter ((n : Int) - place).toNat share) shorter place miss := by
  refine ⟨mixK_rests hp _ _ _ _ _, h.r2, h.mixed hp hr hl hs, ?_⟩
  rw [mixL_len] at hg ⊢
  rcases h.st with ⟨hr0, hs0, hpl, hm⟩ | ⟨q, hq, hqn, hlt, hsum, hle, hmk, hm, hm0⟩
  · exfalso
    rw [hr0, hs0, hpl] at hg
    simp at hg
  · exact .inr ⟨q, hq, by omega, by omega, by omega, hle, hmk, hm, hm0⟩
theorem miss_ne (hp : 0 < p) {x y : Int} (h : (x - y) % p ≠ 0) : x ≠ y := fun e => h (by rw [e, Int.sub_self, Int.zero_emod])
theorem BM.least (hp : 0 < p) (h : BM p row row.length rule shorter place miss) : leastB p row rule shorter place = true := by
  unfold leastB
  rw [restsB_iff.mpr h.r1, restsB_iff.mpr h.r2, makes_iff.mpr h.all]
  rcases h.st with ⟨hr0, hs0, hpl, hm⟩ | ⟨q, hq, hqn, hlt, hsum, hle, hmk, hm, hm0⟩
  · rw [hr0, hs0, hpl]
    rfl
  · rw [if_neg (by omega), decide_eq_true (by omega : shorter.length < rule.length), decide_eq_true (by omega : (rule.length : Int) + shorter.length = place + 1), decide_eq_true (by omega : (shorter.length : Int) ≤ place ∧ place < row.length), hq]
    have e : firstB p row shorter q = true := by
      unfold firstB
      rw [(makes_take (by omega)).mpr hmk]
      have : gt row q ≠ dueN p shorter row q := by
        rw [hm] at hm0
        exact miss_ne hp hm0
      simp [this]
    rw [show ((q : Int)).toNat = q from rfl, e]
    rfl
/-- another one as short -/
theorem BM.other (hp : 1 < p) (hr : Rests p row) (h : BM p row row.length rule shorter place miss) (h2 : row.length < 2 * rule.length) :
    (mixL p rule shorter (rule.length - shorter.length) 1).length = rule.length ∧ mixL p rule shorter (rule.length - shorter.length) 1 ≠ rule ∧ leastB p row (mixL p rule shorter (rule.length - shorter.length) 1) shorter place = true := by
  rcases h.st with ⟨hr0, hs0, hpl, hm⟩ | ⟨q, hq, hqn, hlt, hsum, hle, hmk, hm, hm0⟩
  · exfalso
    rw [hr0] at h2
    simp at h2
  have hL : (mixL p rule shorter (rule.length - shorter.length) 1).length = rule.length := by rw [mixL_len]; omega
  refine ⟨hL, fun e => ?_, ?_⟩
  · have e1 : gt (mixL p rule shorter (rule.length - shorter.length) 1) (rule.length - shorter.length - 1) = gt rule (rule.length - shorter.length - 1) := by rw [e]
    unfold mixL mixK at e1
    rw [gt_map (by omega), if_pos (by omega), if_neg (by omega), Int.sub_zero] at e1
    have a := h.r1.at (by omega : 0 < p) (rule.length - shorter.length - 1)
    generalize gt rule (rule.length - shorter.length - 1) = x at e1 a
    by_cases hx : x + 1 < p
    · rw [Int.emod_eq_of_lt (by omega) hx] at e1
      omega
    · have : x + 1 = p := by omega
      rw [this, Int.emod_self] at e1
      omega
  · have key : BM p row row.length (mixL p rule shorter (rule.length - shorter.length) 1) shorter place miss := by
      refine ⟨mixK_rests (by omega) _ _ _ _ _, h.r2, fun j h1 h3 => ?_, .inr ⟨q, hq, hqn, by omega, by omega, hle, hmk, hm, hm0⟩⟩
      rw [mixL_len] at h1
      refine mix_row (by omega) hr (by omega) h1 (lack_zero (h.all j (by omega) h3)) (lack_zero (hmk (j - (rule.length - shorter.length)) (by omega) (by omega))) ?_
      rw [Int.mul_zero]
      exact Cg.refl _ _
    exact key.least (by omega)
end
/-! ### answers with one rest more show nothing -/
end RM

set_option Elab.async false
set_option linter.all false
/-! whether an answer shows what it tells, way by way -/
namespace RM
section
variable {p : Int} {row rule shorter : List Int} {pl : Int}
end
theorem restsB_no {p : Int} {ns : List Int} {i : Nat} (hi : i < ns.length) (h : (decide (0 ≤ gt ns i) && decide (gt ns i < p)) = false) : restsB p ns = false := by
  rw [Bool.eq_false_iff]
  intro z
  have := restsB_iff.mp z _ (List.getElem_mem hi)
  rw [← gt_lt hi] at this
  rw [decide_eq_true this.1, decide_eq_true this.2] at h
  cases h
theorem restsB_yes {p : Int} {ns : List Int} (h : ∀ i, i < ns.length → (decide (0 ≤ gt ns i) && decide (gt ns i < p)) = true) : restsB p ns = true := by
  rw [restsB_iff]
  intro x hx
  obtain ⟨i, hi, rfl⟩ := List.getElem_of_mem hx
  have := h i hi
  rw [gt_lt hi] at this
  simpa using this
end RM

set_option Elab.async false
set_option linter.all false
set_option maxRecDepth 100000
/-! what the program's defs and the laws' own helpers promise -/
namespace Rr
open PySem L2 RM

/-- a tracked list of ints -/
def Ls (H : Hp) (a : Addr) (ns : List Int) : Prop := H a = some (.lst (ns.map V.int))
theorem Ls.sq {K : PySem.W.Frag} {H : Hp} {a : Addr} {ns : List Int} (h : Ls H a ns) : SqL K H a (ns.map V.int) := SqL.of h
theorem Ls.same {H H' : Hp} {a : Addr} {ns : List Int} (h : Ls H a ns) (s : Same H H') : Ls H' a ns := s _ _ h
theorem Ls.new {H : Hp} {p : Addr} {ns : List Int} {xs : List V} (e : xs = ns.map V.int) : Ls (upd H p (.lst xs)) p ns := by
  unfold Ls
  rw [upd_same, e]
theorem at_int {ns : List Int} {i : Nat} {x : V} (h : (ns.map V.int)[i]? = some x) : x = .int (gt ns i) ∧ i < ns.length := by
  rw [List.getElem?_map] at h
  cases e : ns[i]? with
  | none => rw [e] at h; cases h
  | some n =>
    rw [e] at h
    rw [gt_some e]
    exact ⟨(Option.some.inj h).symm, (List.getElem?_eq_some_iff.mp e).1⟩
theorem atI_int {ns : List Int} {i : Int} {k : Nat} (hi : i = (k : Int)) (h : k < ns.length) : atI (ns.map V.int) i = some (.int (gt ns k)) := by
  subst hi
  refine atI_nat ?_
  rw [List.getElem?_map, List.getElem?_eq_getElem h, gt_lt h]
  rfl
theorem mapInt {n : Nat} (f : Nat → Int) : (List.range n).map (fun i => V.int (f i)) = ((List.range n).map f).map V.int := by
  rw [List.map_map]
  rfl
theorem mapBl {n : Nat} (f : Nat → Bool) : (List.range n).map (fun i => V.bl (f i)) = ((List.range n).map f).map V.bl := by
  rw [List.map_map]
  rfl
theorem small {n : Nat} (h : n ≤ 10000) : n ≤ sizeLine := Nat.le_trans h (by decide)
/-- a prime of ours, as the program looks at it -/
def PrimeOk (p : Int) : Prop := 2 ≤ p ∧ p ≤ 997 ∧ ∀ d : Int, 2 ≤ d → d * d ≤ p → p % d ≠ 0
theorem PrimeOk.pos {p : Int} (h : PrimeOk p) : 0 < p := by have := h.1; omega
theorem ones_of {p : Int} (h : p = 2 ∨ p = 3 ∨ p = 5 ∨ p = 7 ∨ p = 11 ∨ p = 31 ∨ p = 997) : PrimeOk p := by
  refine ⟨by omega, by omega, fun d h1 h2 => ?_⟩
  have hd : d ≤ 31 := by
    refine Int.not_lt.mp fun q => ?_
    have q1 : (32 : Int) * 32 ≤ d * d := Int.mul_le_mul (by omega) (by omega) (by omega) (by omega)
    omega
  obtain ⟨n, rfl⟩ : ∃ n : Nat, d = (n : Int) := ⟨d.toNat, by omega⟩
  have hn : n < 32 := by omega
  have key : ∀ n : Nat, n < 32 → 2 ≤ n → ∀ q ∈ [(2 : Int), 3, 5, 7, 11, 31, 997], (n : Int) * n ≤ q → q % (n : Int) ≠ 0 := by decide +kernel
  exact key n hn (by omega) p (by simp; omega) h2
/-! ### the sorts of promises -/
abbrev Args := List V → Hp → Prop
section
variable (K : PySem.W.Frag)
/-- is_whole of an int -/
def spWhole : Sp := fun vs H Q _ => ∃ (i : Int), vs = [.int i] ∧ Q (.bl true) H
def spPrime : Sp := fun vs H Q _ => ∃ (p : Int), vs = [.int p] ∧ PrimeOk p ∧ Q (.bl true) H
def spAre : Sp := fun vs H Q _ => ∃ (p : Int) (a : Addr) (ns : List Int), vs = [.int p, .ref a] ∧ Ls H a ns ∧ Rests p ns ∧ Q (.bl true) H
def spNeedPrime : Sp := fun vs H Q _ => ∃ (p : Int), vs = [.int p] ∧ PrimeOk p ∧ Q .non H
def spNeed : Sp := fun vs H Q _ => ∃ (p : Int) (a : Addr) (ns : List Int), vs = [.int p, .ref a] ∧ Ls H a ns ∧ Rests p ns ∧ Q .non H
/-- a rule and a row, in their places -/
structure RR (p : Int) (rule row : List Int) : Prop where
  pr : PrimeOk p
  r1 : Rests p rule
  r2 : Rests p row
  l1 : rule.length ≤ 100
  l2 : row.length ≤ 1000
def spDue : Sp := fun vs H Q _ => ∃ (p : Int) (a : Addr) (b : Addr) (rule : List Int) (row : List Int) (k : Nat), vs = [.int p, .ref a, .ref b, .int ((k : Nat) : Int)] ∧ Ls H a rule ∧ Ls H b row ∧ RR p rule row ∧ rule.length ≤ k ∧ k ≤ row.length ∧ ∀ H', Same H H' → Q (.int (dueN p rule row k)) H'
/-! ### the laws' helpers -/
def spCell : Sp := fun vs H Q _ => ∃ (a : Addr) (ns : List Int) (k : Nat), vs = [.ref a, .int ((k : Nat) : Int)] ∧ SqL K H a (ns.map V.int) ∧ ns.length ≤ 1000 ∧ Q (.int (gt ns k)) H
def spDraw : Sp := fun vs H Q _ => ∃ (c : Int) (k : Nat) (m : Int), vs = [.int c, .int ((k : Nat) : Int), .int m] ∧ 0 < m ∧ ∀ v H', 0 ≤ v → v < m → Same H H' → Q (.int v) H'
def spPrimeL : Sp := fun vs H Q _ => ∃ (a : Addr) (ns : List Int), vs = [.ref a] ∧ SqL K H a (ns.map V.int) ∧ ns.length ≤ 1000 ∧ ∀ p H', (p = 2 ∨ p = 3 ∨ p = 5 ∨ p = 7 ∨ p = 11 ∨ p = 31 ∨ p = 997) → Same H H' → Q (.int p) H'
def spRests : Sp := fun vs H Q _ => ∃ (a : Addr) (ns : List Int) (b : Nat) (p : Int) (m : Nat), vs = [.ref a, .int ((b : Nat) : Int), .int p, .int ((m : Nat) : Int)] ∧ SqL K H a (ns.map V.int) ∧ ns.length ≤ 1000 ∧ 0 < p ∧ m ≤ 1000 ∧
  ∀ (r : Addr) (H' : Hp) (l : List Int), Same H H' → H r = none → Ls H' r l → Rests p l → l.length = m → Q (.ref r) H'
def spRow : Sp := fun vs H Q _ => ∃ (a : Addr) (ns : List Int) (p : Int), vs = [.ref a, .int p] ∧ SqL K H a (ns.map V.int) ∧ ns.length ≤ 1000 ∧ PrimeOk p ∧ ∀ (r : Addr) (H' : Hp) (l : List Int), Same H H' → H r = none → Ls H' r l → Rests p l → l.length = ns.length → Q (.ref r) H'
def spLaw : Sp := fun vs H Q _ => ∃ (a : Addr) (ns : List Int), vs = [.ref a] ∧ SqL K H a (ns.map V.int) ∧ ns.length ≤ 63 ∧ ∀ H', Q (.bl true) H'
end
/-! ### a def of the text, with its name and how it binds -/
structure Def (K : PySem.W.Frag) (mg : Str → Option Value) (x : Str) (st : Stmt) (ps : List Str) (f : Addr) (fd : FuncData) : Prop where
  F : Fun K x x st f fd
  b : Binds K fd ps []
  m : mg x = some (.ref f)
/-- Python's own names that the text does not bind -/
structure Own (mg : Str → Option Value) : Prop where
  isinstance : mg "isinstance" = none
  int : mg "int" = none
  bool : mg "bool" = none
  list : mg "list" = none
  len : mg "len" = none
  range : mg "range" = none
  sum : mg "sum" = none
  zip : mg "zip" = none
  reversed : mg "reversed" = none
  enumerate : mg "enumerate" = none
  max : mg "max" = none
  min : mg "min" = none
  all : mg "all" = none
  any : mg "any" = none
  abs : mg "abs" = none
theorem boot_isi : bootBuiltins "isinstance" = some (.builtin "isinstance") := by decide +kernel
theorem boot_intT : bootBuiltins "int" = some (.type "int") := by decide +kernel
theorem boot_boolT : bootBuiltins "bool" = some (.type "bool") := by decide +kernel
theorem boot_listT : bootBuiltins "list" = some (.type "list") := by decide +kernel
theorem boot_sumB : bootBuiltins "sum" = some (.builtin "sum") := by decide +kernel
theorem boot_maxB : bootBuiltins "max" = some (.builtin "max") := by decide +kernel
theorem boot_allB : bootBuiltins "all" = some (.builtin "all") := by decide +kernel
theorem boot_anyB : bootBuiltins "any" = some (.builtin "any") := by decide +kernel
section
variable {X : Cx} {x : Str} {st : Stmt} {ps : List Str} {f : Addr} {fd : FuncData} {j k : Nat} {sp : Sp} {e : Expr} {es : List Expr} {t : TA} {p pos : Pos}
/-- a call of a def of the text -/
theorem pcall (D : Def X.K X.mg x st ps f fd) (G : FnOk X.prog X.w X.K X.mg X.base CX0 j f fd ps sp) (hr : Room k X.A) (ha : PA X (e :: es) t) (hj : j ≤ k := by decide) (hg : Gl X x := by rfl) (hdb : (x == ("__debug__" : Str)) = false := by decide)
    (he : starEach (e :: es) X.env = (false, eval e X.env) :: starEach es X.env := by rfl) (hpl : (backTo pos (starEach es X.env)).any (·.1) = false := by rfl) :
    PE X (.Call (.Name x p) (e :: es) [] pos) (tCall sp [] E0 t) := pe_call (G.mono hj) hr hg D.m D.F.kp D.b .nil pass0 ha hdb he hpl
theorem pint {i : Int} {j : Nat} {pos : Pos} : PE X (.Constant (.int i) j pos) (tC (.int i)) := pe_int
theorem plen (o : Own X.mg) {e : Expr} {te : TE} {p pos : Pos} (h : PE X e te) (hg : Gl X "len" := by rfl) (hs : starEach [e] X.env = [(false, eval e X.env)] := by rfl) :
    PE X (.Call (.Name "len" p) [e] [] pos) (tCB (fun xs H Q => ∃ p ys, xs = [.ref p] ∧ (SqL X.K H p ys ∨ SqT X.K H p ys) ∧ Q (.int ys.length) H) (tCons te tNil)) :=
  pe_callB call_len_seq hg o.len PySem.boot_len (pa_cons h pa_nil (by rw [hs]; rfl)) (by decide) (by decide) (by rw [hs]; rfl) rfl
theorem pgn (i : Nat) {x : Str} {pos : Pos} (hN : X.N.Nodup := by exact of_decide_eq_true (by kernel_rfl)) (hi : X.N[i]? = some x := by rfl) (hx : Loc X.env.scope x := by exact Or.inl rfl)
    (hf : X.fn x = true ∨ X.env.scope.names.lookup x = some .local := by first | exact .inl rfl | exact .inr rfl) : PG X (.Name x pos) (gName i) := pg_name hN hi hx hf
theorem pgp {x y : Str} {px py pos : Pos} {k : Nat} (hc : X.calm = true := by rfl) (hN : X.N.Nodup := by exact of_decide_eq_true (by kernel_rfl)) (h0 : X.N[0]? = some x := by rfl) (h1 : X.N[1]? = some y := by rfl) (hx : X.env.scope.names.lookup x = some .local := by rfl)
    (hy : X.env.scope.names.lookup y = some .local := by rfl) : PG X (.Tuple [.Name x px, .Name y py] k pos) (gPair X.K) :=
  pg_tup hc (pgs_cons (pg_name hN h0 (.inl hx) (.inr hx)) (pgs_cons (pg_name hN h1 (.inl hy) (.inr hy)) pgs_nil))
end
/-! ### the same, with the written part named (inside a comprehension) -/
theorem ixK {X : Cx} {K : PySem.W.Frag} (h : X.K = K) : IxR X (rIxL K) := h ▸ ix_list
theorem cut_from {ns : List Int} {lo : Nat} (h1 : lo ≤ ns.length) : cutV (ns.map V.int) (some (lo : Int)) none = (ns.drop lo).map V.int := by
  unfold cutV
  rw [HT.sIx_nat, HT.sIx_none, List.length_map, show min lo ns.length = lo by omega, List.map_drop, List.take_of_length_le (by rw [List.length_drop, List.length_map]; omega)]
theorem sput {H H1 : Hp} {l : Addr} {o : HO} (h : Same H H1) (hn : H l = none) : Same H (upd H1 l o) := fun b u q => by
  rw [upd_ne (ne_of_none q hn)]
  exact h b u q
theorem iteFd {c A B : Prop} [Decidable c] (hc : ¬ c) (h : B) : if decide c = true then A else B := by
  rw [decide_eq_false hc]
  exact iteF h
theorem iteTd {c A B : Prop} [Decidable c] (hc : c) (h : A) : if decide c = true then A else B := by
  rw [decide_eq_true hc]
  exact iteT h
/-- not equal, told as a truth -/
theorem iteNd {c A B : Prop} [Decidable c] (hc : c) (h : B) : if (!decide c) = true then A else B := by
  rw [decide_eq_true hc]
  exact iteF h
theorem iteYd {c A B : Prop} [Decidable c] (hc : ¬ c) (h : A) : if (!decide c) = true then A else B := by
  rw [decide_eq_false hc]
  exact iteT h
theorem kit_int_int (K : PySem.W.Frag) : PySem.W.kitOne K (.type "int") (.type "int") = some true := by
  unfold PySem.W.kitOne
  exact if_pos (by decide)
theorem kit_int_bool (K : PySem.W.Frag) : PySem.W.kitOne K (.type "int") (.type "bool") = some false := by
  kernel_rfl
theorem kit_list_list (K : PySem.W.Frag) : PySem.W.kitOne K (.type "list") (.type "list") = some true := by
  unfold PySem.W.kitOne
  exact if_pos (by decide)
end Rr

set_option Elab.async false
set_option linter.all false
set_option maxRecDepth 100000
/-! what the answers, least and unlike promise -/
namespace Rr
open PySem L2 RM
def Seven (p : Int) : Prop := p = 2 ∨ p = 3 ∨ p = 5 ∨ p = 7 ∨ p = 11 ∨ p = 31 ∨ p = 997
theorem Seven.ok {p : Int} (h : Seven p) : PrimeOk p := ones_of h
theorem Seven.two {p : Int} (h : Seven p) : 1 < p := by unfold Seven at h; omega
def spRestB : Sp := fun vs H Q _ => ∃ (p : Int) (i : Int), vs = [.int p, .int i] ∧ Q (.bl (decide (0 ≤ i) && decide (i < p))) H
def spAreB : Sp := fun vs H Q _ => ∃ (p : Int) (a : Addr) (ns : List Int), vs = [.int p, .ref a] ∧ Ls H a ns ∧ Q (.bl (restsB p ns)) H
/-- a row, and what an answer to it holds -/
structure LR (p : Int) (row rule shorter : List Int) : Prop where
  pr : PrimeOk p
  r : Rests p row
  l1 : row.length ≤ 1000
  l2 : rule.length ≤ 100
  l3 : shorter.length ≤ 100
/-- a reading that a lemma closes -/
inductive Tag (p : Prop) : Prop where
  | mk (h : p) : Tag p
/-! ### answers as objects -/
def flds3 (r s : Addr) (pl : Int) : List (Str × V) := putF "place" (.int pl) (putF "shorter" (.ref s) (putF "rule" (.ref r) []))
def flds4 (r t s : Addr) (pl : Int) : List (Str × V) := putF "place" (.int pl) (putF "shorter" (.ref s) (putF "other" (.ref t) (putF "one" (.ref r) [])))
/-- Least, Only -/
structure Ans3 (C : Addr) (H : Hp) (x ra sa : Addr) (rule shorter : List Int) (pl : Int) : Prop where
  ob : ∃ dx, H x = some (.ins C dx (flds3 ra sa pl))
  r : Ls H ra rule
  s : Ls H sa shorter
  ne : ra ≠ sa
theorem Ans3.same {C : Addr} {H H' : Hp} {x r s : Addr} {rule shorter : List Int} {pl : Int} (h : Ans3 C H x r s rule shorter pl) (q : Same H H') : Ans3 C H' x r s rule shorter pl :=
  ⟨let ⟨dx, e⟩ := h.ob; ⟨dx, q _ _ e⟩, h.r.same q, h.s.same q, h.ne⟩
/-- Another -/
structure Ans4 (C : Addr) (H : Hp) (x ra ta sa : Addr) (one other shorter : List Int) (pl : Int) : Prop where
  ob : ∃ dx, H x = some (.ins C dx (flds4 ra ta sa pl))
  r : Ls H ra one
  t : Ls H ta other
  s : Ls H sa shorter
  n1 : ra ≠ ta
  n2 : ra ≠ sa
  n3 : ta ≠ sa
theorem Ans4.same {C : Addr} {H H' : Hp} {x r t s : Addr} {one other shorter : List Int} {pl : Int} (h : Ans4 C H x r t s one other shorter pl) (q : Same H H') : Ans4 C H' x r t s one other shorter pl :=
  ⟨let ⟨dx, e⟩ := h.ob; ⟨dx, q _ _ e⟩, h.r.same q, h.t.same q, h.s.same q, h.n1, h.n2, h.n3⟩
/-- what of the text a class of answers has -/
structure Cl3 (K : PySem.W.Frag) (C : Addr) : Prop where
  cl : Cls K C
  r : NoAttr K C "rule"
  s : NoAttr K C "shorter"
  p : NoAttr K C "place"
structure Cl4 (K : PySem.W.Frag) (C : Addr) : Prop where
  cl : Cls K C
  r : NoAttr K C "one"
  t : NoAttr K C "other"
  s : NoAttr K C "shorter"
  p : NoAttr K C "place"
end Rr

set_option Elab.async false
set_option linter.all false
set_option maxRecDepth 100000
namespace Rr
open PySem L2 RM
def top (i : Nat) : Stmt := PySem.Challenge.pw_rulerow_k06_written.main.body.getD i (.Pass ⟨0, 0, 0, 0⟩)

abbrev sWhole : Stmt := top 12
abbrev sPrime : Stmt := top 13
abbrev sRest : Stmt := top 14
abbrev sAre : Stmt := top 15
abbrev sNeedPrime : Stmt := top 16
abbrev sNeedRow : Stmt := top 17
abbrev sWritten : Stmt := top 21
abbrev sRead : Stmt := top 22
abbrev sNum : Stmt := top 23
abbrev sIsNum : Stmt := top 24
abbrev lCell : Stmt := top 26
abbrev lDraw : Stmt := top 27
abbrev lPrime : Stmt := top 28
abbrev lRests : Stmt := top 29
abbrev lRow : Stmt := top 30
abbrev lDue : Stmt := top 31
abbrev lNum : Stmt := top 35
abbrev lIn : Stmt := top 36
abbrev lRefused : Stmt := top 37
abbrev lRight : Stmt := top 38
abbrev lFew : Stmt := top 39
abbrev lLaw : Stmt := top 40
section
variable {P : Program} {w : World} {K : PySem.W.Frag} {mg : Str → Option Value} {base : Heap} {f g : Addr} {fd gd : FuncData}
theorem scWhole : FnScope ["value"] ["value"] (defScope sWhole) := ⟨rfl, rfl, rfl, by decide +kernel, rfl, by decide +kernel, by decide +kernel⟩
theorem ok_whole (D : Def K mg "is_whole" sWhole ["value"] f fd) (o : Own mg) : FnOk P w K mg base CX0 1 f fd ["value"] spWhole := by
  refine D.F.ok scWhole (fun vs H Q E h => ?_) (fun cdv A outer s H vs Q E hr h => ?_)
  · obtain ⟨i, rfl, _⟩ := h
    rfl
  obtain ⟨i, rfl, q⟩ := h
  refine ⟨_, pss_one (ps_ret (pe_and (pe_callB call_isi rfl o.isinstance boot_isi (pa_cons (pv 0) (pa_cons (pe_ty rfl o.int boot_intT) pa_nil)))
    (pe_one (pe_not (pe_callB call_isi rfl o.isinstance boot_isi (pa_cons (pv 0) (pa_cons (pe_ty rfl o.bool boot_boolT) pa_nil))))))), ?_⟩
  refine ⟨_, rfl, _, _, _, _, rfl, TyOf.int i, kit_int_int _, true, rfl, iteT ?_⟩
  exact ⟨_, rfl, _, _, _, _, rfl, TyOf.int i, kit_int_bool _, false, rfl, q⟩
theorem scPrime : FnScope ["value", "divisor"] ["value"] (defScope sPrime) := ⟨rfl, rfl, rfl, by decide +kernel, rfl, by decide +kernel, by decide +kernel⟩
end
end Rr

set_option Elab.async false
set_option linter.all false
set_option maxRecDepth 100000
namespace Rr
open PySem L2 RM
section
variable {P : Program} {w : World} {K : PySem.W.Frag} {mg : Str → Option Value} {base : Heap} {f g : Addr} {fd gd : FuncData}
theorem scRest : FnScope ["prime", "value"] ["prime", "value"] (defScope sRest) := ⟨rfl, rfl, rfl, by decide +kernel, rfl, by decide +kernel, by decide +kernel⟩
theorem ok_restB (D : Def K mg "is_rest" sRest ["prime", "value"] f fd) (DW : Def K mg "is_whole" sWhole ["value"] g gd) (GW : FnOk P w K mg base CX0 1 g gd ["value"] spWhole) : FnOk P w K mg base CX0 2 f fd ["prime", "value"] spRestB := by
  refine D.F.ok scRest (fun vs H Q E h => ?_) (fun cdv A outer s H vs Q E hr h => ?_)
  · obtain ⟨p, i, rfl, _⟩ := h
    rfl
  obtain ⟨p, i, rfl, q⟩ := h
  refine ⟨_, pss_one (ps_ret (pe_and (pcall DW GW hr (pa_cons (pv 1) pa_nil)) (pe_and (pe_cmpR op_ge (pv 1) pint (nomark _)) (pe_one (pe_cmpR op_lt (pv 1) (pv 0) (nomark _)))))), ?_⟩
  refine ⟨_, rfl, i, rfl, true, rfl, iteT ?_⟩
  refine ⟨_, rfl, _, _, rfl, rfl, _, rfl, ?_⟩
  by_cases h0 : 0 ≤ i
  · refine iteTd h0 ⟨_, rfl, _, rfl, _, _, rfl, rfl, ?_⟩
    rw [decide_eq_true h0, Bool.true_and] at q
    exact q
  · refine iteFd h0 ?_
    rw [decide_eq_false h0, Bool.false_and] at q
    exact q
theorem scAre : FnScope ["prime", "value", "number"] ["prime", "value"] (defScope sAre) := ⟨rfl, rfl, rfl, by decide +kernel, rfl, by decide +kernel, by decide +kernel⟩
theorem ok_areB (D : Def K mg "are_rests" sAre ["prime", "value"] f fd) (o : Own mg) (DR : Def K mg "is_rest" sRest ["prime", "value"] g gd) (GR : FnOk P w K mg base CX0 2 g gd ["prime", "value"] spRestB) : FnOk P w K mg base CX0 3 f fd ["prime", "value"] spAreB := by
  refine D.F.ok scAre (fun vs H Q E h => ?_) (fun cdv A outer s H vs Q E hr h => ?_)
  · obtain ⟨p, a, ns, rfl, _⟩ := h
    rfl
  obtain ⟨p, a, ns, rfl, hL, q⟩ := h
  refine ⟨_, pss_cons (ps_if (pt_not (pt_val (pe_callB call_isi rfl o.isinstance boot_isi (pa_cons (pv 1) (pa_cons (pe_ty rfl o.list boot_listT) pa_nil))))) (pss_one (ps_ret pe_bl)) pss_nil)
    (pss_cons (ps_for PassesOwn.never rfl (pi_list (pv 1)) (pg_name (i := 2) scAre.nd rfl (Or.inl rfl))
      (pss_one (ps_if (pt_not (pt_val (pcall DR GR hr (pa_cons (pv 0) (pa_cons (pv 2) pa_nil))))) (pss_one (ps_ret pe_bl)) pss_nil)))
    (pss_one (ps_ret pe_bl))), ?_⟩
  refine ⟨_, rfl, _, _, _, _, rfl, TyOf.lst hL, kit_list_list _, true, rfl, iteF ?_⟩
  refine ⟨_, rfl, a, rfl, ⟨_, hL.sq⟩, for_list (xs := ns.map V.int) (fun i σ H' => H' = H ∧ (∀ j, j < i → (decide (0 ≤ gt ns j) && decide (gt ns j < p)) = true) ∧ ∃ x, σ = [some (.int p), some (.ref a), x]) ⟨rfl, fun _ h => absurd h (Nat.not_lt_zero _), none, rfl⟩ (fun i σ H' _ h => by rw [h.1]; exact hL.sq) ?_ (fun σ H' h => ?_)⟩
  · rintro i x σ H' hx ⟨rfl, hall, y, rfl⟩
    obtain ⟨rfl, hi⟩ := at_int hx
    refine ⟨_, rfl, _, rfl, p, gt ns i, rfl, _, rfl, ?_⟩
    cases e : (decide (0 ≤ gt ns i) && decide (gt ns i < p)) with
    | true =>
      refine iteF ⟨rfl, fun j hj => ?_, _, rfl⟩
      by_cases hj' : j < i
      · exact hall j hj'
      · have : j = i := by omega
        subst this
        exact e
    | false =>
      refine iteT ?_
      rw [restsB_no hi e] at q
      exact q
  · obtain ⟨rfl, hall, _⟩ := h
    rw [List.length_map] at hall
    rw [restsB_yes hall] at q
    exact q
theorem ok_are (G : FnOk P w K mg base CX0 3 f fd ["prime", "value"] spAreB) : FnOk P w K mg base CX0 3 f fd ["prime", "value"] spAre := G.imp fun vs H Q E h => by
  obtain ⟨p, a, ns, rfl, hL, hR, q⟩ := h
  exact ⟨p, a, ns, rfl, hL, by rw [restsB_iff.mpr hR]; exact q⟩
end
end Rr

set_option Elab.async false
set_option linter.all false
set_option maxRecDepth 100000
namespace Rr
open PySem L2 RM
section
variable {P : Program} {w : World} {K : PySem.W.Frag} {mg : Str → Option Value} {base : Heap} {f g g2 g3 g4 g5 : Addr} {fd gd gd2 gd3 gd4 gd5 : FuncData}
theorem scNeedPrime : FnScope ["prime"] ["prime"] (defScope sNeedPrime) := ⟨rfl, rfl, rfl, by decide +kernel, rfl, by decide +kernel, by decide +kernel⟩
theorem ok_needPrime (D : Def K mg "need_prime" sNeedPrime ["prime"] f fd) (DP : Def K mg "is_prime" sPrime ["value"] g gd) (GP : FnOk P w K mg base CX0 2 g gd ["value"] spPrime) : FnOk P w K mg base CX0 3 f fd ["prime"] spNeedPrime := by
  refine D.F.ok scNeedPrime (fun vs H Q E h => ?_) (fun cdv A outer s H vs Q E hr h => ?_)
  · obtain ⟨p, rfl, _⟩ := h
    rfl
  obtain ⟨p, rfl, hp, q⟩ := h
  refine ⟨_, pss_one (ps_if (pt_not (pt_val (pcall DP GP hr (pa_cons (pv 0) pa_nil)))) pss_never pss_nil), ?_⟩
  exact ⟨_, rfl, p, rfl, hp, true, rfl, iteF q⟩
theorem scNeedRow : FnScope ["prime", "row"] ["prime", "row"] (defScope sNeedRow) := ⟨rfl, rfl, rfl, by decide +kernel, rfl, by decide +kernel, by decide +kernel⟩
theorem ok_needRow (D : Def K mg "need_row" sNeedRow ["prime", "row"] f fd) (DP : Def K mg "are_rests" sAre ["prime", "value"] g gd) (GP : FnOk P w K mg base CX0 3 g gd ["prime", "value"] spAre) : FnOk P w K mg base CX0 4 f fd ["prime", "row"] spNeed := by
  refine D.F.ok scNeedRow (fun vs H Q E h => ?_) (fun cdv A outer s H vs Q E hr h => ?_)
  · obtain ⟨p, a, ns, rfl, _⟩ := h
    rfl
  obtain ⟨p, a, ns, rfl, hL, hR, q⟩ := h
  refine ⟨_, pss_one (ps_if (pt_not (pt_val (pcall DP GP hr (pa_cons (pv 0) (pa_cons (pv 1) pa_nil))))) pss_never pss_nil), ?_⟩
  exact ⟨_, rfl, _, rfl, p, a, ns, rfl, hL, hR, true, rfl, iteF q⟩
end
end Rr

set_option Elab.async false
set_option linter.all false
set_option maxRecDepth 100000
set_option maxHeartbeats 800000
namespace Rr
open PySem L2 RM
theorem cut_fromA {ns : List Int} {lo : Nat} : cutV (ns.map V.int) (some (lo : Int)) none = (ns.drop lo).map V.int := by
  by_cases h : lo ≤ ns.length
  · exact cut_from h
  · unfold cutV
    rw [HT.sIx_nat, HT.sIx_none, List.length_map, show min lo ns.length = ns.length by omega, Nat.sub_self, List.take_zero, List.drop_eq_nil_of_le (show ns.length ≤ lo by omega)]
    rfl
/-- written ints, as arguments or items -/
def constI : Expr → Option Int
  | .Constant (.int i) _ _ => some i
  | _ => none
theorem nn_some {i : Int} (h : (none : Option Int) = some i) : False := by cases h
theorem constI_inv {e : Expr} {i : Int} (h : constI e = some i) : ∃ j pos, e = .Constant (.int i) j pos := by
  cases e with
  | Constant c j pos =>
    cases c with
    | int k =>
      have e : k = i := Option.some.inj h
      rw [e]
      exact ⟨j, pos, rfl⟩
    | _ => exact (nn_some h).elim
  | _ => exact (nn_some h).elim
theorem pa_consts {X : Cx} {es : List Expr} : (es.all fun e => (constI e).isSome) = true → PA X es (fun _ H Q => Q ((es.filterMap constI).map V.int) H) := by
  induction es with
  | nil => exact fun _ => pa_nil
  | cons e es ih =>
    intro h
    rw [List.all_cons, Bool.and_eq_true] at h
    obtain ⟨i, hi⟩ := Option.isSome_iff_exists.mp h.1
    obtain ⟨j, pos, rfl⟩ := constI_inv hi
    exact pa_cons (pe_int (i := i) (j := j) (pos := pos)) (ih h.2)
section
variable {P : Program} {w : World} {K : PySem.W.Frag} {mg : Str → Option Value} {base : Heap} {f g g2 g3 g4 g5 g6 : Addr} {fd gd gd2 gd3 gd4 gd5 gd6 : FuncData}
theorem scCell : FnScope ["_law_script", "_law_k"] ["_law_script", "_law_k"] (defScope lCell) := ⟨rfl, rfl, rfl, by decide +kernel, rfl, by decide +kernel, by decide +kernel⟩
theorem ok_cell (D : Def K mg "_law_cell_at" lCell ["_law_script", "_law_k"] f fd) (o : Own mg) : FnOk P w K mg base CX0 1 f fd ["_law_script", "_law_k"] (spCell K) := by
  refine D.F.ok scCell (fun vs H Q E h => ?_) (fun cdv A outer s H vs Q E hr h => ?_)
  · obtain ⟨a, ns, k, rfl, _⟩ := h
    rfl
  obtain ⟨a, ns, k, rfl, h1, hl, q⟩ := h
  refine ⟨_, pss_cons (ps_if (pt_cmpR op_lt (pv 1) (plen o (pv 0)) (nomark _)) (pss_one (ps_ret (pe_ix ix_list (pv 0) (pv 1) (fun _ _ => rfl)))) pss_nil) (pss_one (ps_ret pint)), ?_⟩
  refine ⟨_, rfl, _, rfl, a, _, rfl, .inl h1, _, _, rfl, rfl, _, rfl, ?_⟩
  rw [List.length_map]
  by_cases hc : k < ns.length
  · exact iteTd (by omega) ⟨_, rfl, _, rfl, a, _, _, _, rfl, rfl, h1, atI_int rfl hc, q⟩
  · refine iteFd (by omega) ?_
    rw [gt_ge (by omega)] at q
    exact q
theorem scRests : FnScope ["_law_script", "_law_by", "_law_prime_here", "_law_many"] ["_law_script", "_law_by", "_law_prime_here", "_law_many"] (defScope lRests) := ⟨rfl, rfl, rfl, by decide +kernel, rfl, by decide +kernel, by decide +kernel⟩
theorem ok_rests (D : Def K mg "_law_rests" lRests ["_law_script", "_law_by", "_law_prime_here", "_law_many"] f fd) (o : Own mg) (DC : Def K mg "_law_cell_at" lCell ["_law_script", "_law_k"] g gd) (GC : FnOk P w K mg base CX0 1 g gd ["_law_script", "_law_k"] (spCell K))
    (DD : Def K mg "_law_draw" lDraw ["_law_cell", "_law_k", "_law_many"] g2 gd2) (GD : FnOk P w K mg base CX0 1 g2 gd2 ["_law_cell", "_law_k", "_law_many"] spDraw) : FnOk P w K mg base CX0 2 f fd ["_law_script", "_law_by", "_law_prime_here", "_law_many"] (spRests K) := by
  refine D.F.ok scRests (fun vs H Q E h => ?_) (fun cdv A outer s H vs Q E hr h => ?_)
  · obtain ⟨a, ns, b, p, m, rfl, _⟩ := h
    rfl
  obtain ⟨a, ns, b, p, m, rfl, h1, hl, hp, hm, q⟩ := h
  refine ⟨_, pss_one (ps_ret (pe_comp ["_law_k"] [0, 1, 2] rfl (pi_range1 rfl o.range (pa_cons (pv 3) pa_nil)) (fun cl C s₂ H₂ fp => pgn 0) (gk_name (by decide))
    (fun cl C s₂ H₂ fp => pcall DD GD hr (pa_cons (pcall DC GC hr (pa_cons (pv 1) (pa_cons (pv 0) pa_nil))) (pa_cons (pe_op op_add (pe_op op_mod (pv 0) pint) (pv 2)) (pa_cons (pv 3) pa_nil)))))), ?_⟩
  refine ⟨_, rfl, _, rfl, by omega, by omega, ?_⟩
  refine ⟨m, fun i ys H' => ∃ l : List Int, ys = l.map V.int ∧ l.length = i ∧ Rests p l ∧ Same H H', small (by omega), ⟨[], rfl, rfl, Rests.nil, Same.refl _⟩, fun i ys H' hi hl' wi => ⟨hi, fun x H2 y => ?_⟩, fun ys H' hl' wi => ⟨Nat.le_refl _, fun r hr' => ?_⟩⟩
  · obtain ⟨l, rfl, hl2, hR, sm⟩ := wi
    obtain ⟨e1, e2⟩ := y
    subst e1 e2
    refine ⟨_, rfl, _, rfl, a, ns, i, congrArg (fun z => [V.ref a, V.int z]) (Int.zero_add _), sm.seq h1, hl, ?_⟩
    refine ⟨_, rfl, _, _, rfl, rfl, (by show (0 : Int) < 5; decide), _, rfl, _, _, rfl, rfl, _, rfl, gt ns i, i % 5 + b, p, ?_, hp, fun v H3 h0 h2 sm3 => ?_⟩
    · exact congrArg (fun z => [V.int (gt ns i), V.int z, V.int p]) (by omega)
    · exact ⟨l ++ [v], by rw [List.map_append]; rfl, by rw [List.length_append, hl2]; rfl, hR.app (.one ⟨h0, h2⟩), sm.trans sm3⟩
  · obtain ⟨l, rfl, hl2, hR, sm⟩ := wi
    exact q r _ l (sm.trans (same_new hr' _)) (sm.free hr') (Ls.new rfl) hR hl2
theorem scDueL : FnScope ["_law_prime_here", "_law_rule", "_law_row_here", "_law_place"] ["_law_prime_here", "_law_rule", "_law_row_here", "_law_place"] (defScope lDue) := ⟨rfl, rfl, rfl, by decide +kernel, rfl, by decide +kernel, by decide +kernel⟩
theorem ok_dueL (D : Def K mg "_law_due" lDue ["_law_prime_here", "_law_rule", "_law_row_here", "_law_place"] f fd) (o : Own mg) : FnOk P w K mg base CX0 1 f fd ["_law_prime_here", "_law_rule", "_law_row_here", "_law_place"] spDue := by
  refine D.F.ok scDueL (fun vs H Q E h => ?_) (fun cdv A outer s H vs Q E hr h => ?_)
  · obtain ⟨p, a, b, rule, row, k, rfl, _⟩ := h
    rfl
  obtain ⟨p, a, b, rule, row, k, rfl, h1, h2, rr, hk, hk2, q⟩ := h
  have hp := rr.pr.pos
  have hp2 := rr.pr.2.1
  have l1 := rr.l1
  refine ⟨_, pss_one (ps_ret (pe_op op_mod (pe_callB (call_sum rfl) rfl o.sum boot_sumB (pa_cons (pe_comp ["_law_k", "_law_rest"] [2, 3] rfl (pi_enum rfl o.enumerate (pa_cons (pv 1) pa_nil)) (fun cl C s₂ H₂ fp => pgp) (gk_pair (by decide) (by decide))
    (fun cl C s₂ H₂ fp => pe_op op_mul (pv 1) (pe_ix (ixK (K := K) rfl) (pv 2) (pe_op op_sub (pe_op op_sub (pv 3) pint) (pv 0)) (fun _ _ => rfl)))) pa_nil)) (pv 0))), ?_⟩
  refine ⟨_, rfl, a, rfl, ⟨_, Rd.of h1⟩, ?_⟩
  refine comp_enum h1.sq (fun i => V.int (gt rule i * gt row (k - 1 - i))) (by rw [List.length_map]; exact small (by omega)) (fun i x H' hx sm => ?_) (fun H' sm r hr' => ?_)
  · obtain ⟨rfl, hi⟩ := at_int hx
    have b1 := rr.r1.at hp i
    exact ⟨_, rfl, _, rfl, _, rfl, _, _, rfl, rfl, _, rfl, _, _, rfl, rfl, b, _, _, _, rfl, rfl, (h2.same sm).sq, atI_int (k := k - 1 - i) (by omega) (by omega), _, _, rfl, rfl, .inl ⟨by omega, by omega⟩, snocF rfl, sm⟩
  · rw [List.length_map]
    refine ⟨r, (List.range rule.length).map (fun i => gt rule i * gt row (k - 1 - i)), rfl, ?_, _, rfl, _, _, rfl, rfl, hp, ?_⟩
    · rw [← mapInt]
      exact SqL.of upd_same
    · have ev : ((List.range rule.length).map (fun i => gt rule i * gt row (k - 1 - i))).sum % p = dueN p rule row k := by
        rw [sum_range]
        rfl
      show Q (.int (((List.range rule.length).map (fun i => gt rule i * gt row (k - 1 - i))).sum % p)) _
      rw [ev]
      exact q _ (sm.trans (same_new hr' _))
theorem all_true {n : Nat} : ((List.range n).map fun _ => true).all id = true := by
  rw [List.all_eq_true]
  intro x hx
  obtain ⟨_, _, rfl⟩ := List.mem_map.mp hx
  rfl
end
end Rr

set_option Elab.async false
set_option linter.all false
set_option maxRecDepth 100000
set_option maxHeartbeats 800000
namespace Rr
open PySem L2 RM
section
variable {P : Program} {w : World} {K : PySem.W.Frag} {mg : Str → Option Value} {base : Heap} {f g g2 g3 g4 g5 g6 : Addr} {fd gd gd2 gd3 gd4 gd5 gd6 : FuncData}
theorem scDraw : FnScope ["_law_cell", "_law_k", "_law_many", "_law_primes"] ["_law_cell", "_law_k", "_law_many"] (defScope lDraw) := ⟨rfl, rfl, rfl, by decide +kernel, rfl, by decide +kernel, by decide +kernel⟩
def primes16 : List Int := [1000003, 1000033, 1000037, 1000039, 1000081, 1000099, 1000117, 1000121, 1000133, 1000151, 1000159, 1000171, 1000183, 1000187, 1000193, 1000199]
theorem primes16_pos : ∀ j : Nat, j < 16 → 0 < gt primes16 j := by decide +kernel
/-- the written items of the tuple in a statement -/
def tupOf : Stmt → List Expr
  | .Assign _ (.Tuple es _ _) _ => es
  | .Return (some (.Subscript (.Tuple es _ _) _ _)) _ => es
  | _ => []
theorem draw_body : ∃ p' k tp pos b, defBody lDraw = [.Assign [.Name "_law_primes" p'] (.Tuple (tupOf ((defBody lDraw).getD 0 (.Pass ⟨0, 0, 0, 0⟩))) k tp) pos, b] ∧ b = (defBody lDraw).getD 1 (.Pass ⟨0, 0, 0, 0⟩) := ⟨_, _, _, _, _, rfl, rfl⟩
theorem draw_all : ((tupOf ((defBody lDraw).getD 0 (.Pass ⟨0, 0, 0, 0⟩))).all fun e => (constI e).isSome) = true := by kernel_rfl
theorem draw_vals : (tupOf ((defBody lDraw).getD 0 (.Pass ⟨0, 0, 0, 0⟩))).filterMap constI = primes16 := by kernel_rfl
theorem ok_draw (D : Def K mg "_law_draw" lDraw ["_law_cell", "_law_k", "_law_many"] f fd) : FnOk P w K mg base CX0 1 f fd ["_law_cell", "_law_k", "_law_many"] spDraw := by
  refine D.F.ok scDraw (fun vs H Q E h => ?_) (fun cdv A outer s H vs Q E hr h => ?_)
  · obtain ⟨c, k, m, rfl, _⟩ := h
    rfl
  obtain ⟨c, k, m, rfl, hm, q⟩ := h
  obtain ⟨p', kk, tp, pos, b, eb, e2⟩ := draw_body
  have hall := draw_all
  have hval := draw_vals
  rw [eb]
  clear eb
  generalize tupOf ((defBody lDraw).getD 0 (.Pass ⟨0, 0, 0, 0⟩)) = es at hall hval ⊢
  subst e2
  refine ⟨_, pss_cons (ps_set (i := 3) scDraw.nd rfl (Or.inl rfl) (pe_tup (pa_consts hall)))
    (pss_one (ps_ret (pe_op op_mod (pe_op op_mod (pe_op op_add (pe_op op_mul (pv 0) pint) (pe_op op_mul (pv 1) pint)) (pe_ix ix_tup (pv 3) (pe_op op_mod (pv 1) pint) (fun _ _ => rfl))) (pv 2)))), ?_⟩
  rw [hval]
  refine ⟨(by show 16 ≤ sizeLine; decide), fun t ht => ?_⟩
  have hk : k % 16 < 16 := Nat.mod_lt _ (by decide)
  refine ⟨_, rfl, _, _, rfl, rfl, .inr ⟨by omega, by omega⟩, _, rfl, _, _, rfl, rfl, .inr ⟨by omega, by omega⟩, _, _, rfl, rfl, _, rfl, _, rfl, _, _, rfl, rfl, (by show (0 : Int) < 16; decide), ?_⟩
  refine ⟨t, primes16.map V.int, _, _, rfl, rfl, SqT.of upd_same, atI_int (k := k % 16) (by omega) hk, _, _, rfl, rfl, primes16_pos _ hk, _, rfl, _, _, rfl, rfl, hm, ?_⟩
  have r := mod_rest (a := (c * 48271 + (k : Int) * 69621) % gt primes16 (k % 16)) hm
  exact q _ _ r.1 r.2 (same_new ht _)
theorem scPrimeL : FnScope ["_law_script"] ["_law_script"] (defScope lPrime) := ⟨rfl, rfl, rfl, by decide +kernel, rfl, by decide +kernel, by decide +kernel⟩
def primes10 : List Int := [2, 3, 2, 5, 7, 2, 997, 11, 31, 3]
theorem primes10_of : ∀ j : Nat, j < 10 → gt primes10 j = 2 ∨ gt primes10 j = 3 ∨ gt primes10 j = 5 ∨ gt primes10 j = 7 ∨ gt primes10 j = 11 ∨ gt primes10 j = 31 ∨ gt primes10 j = 997 := by decide +kernel
theorem prime_body : ∃ k tp pos pos2 idx, defBody lPrime = [.Return (some (.Subscript (.Tuple (tupOf ((defBody lPrime).getD 0 (.Pass ⟨0, 0, 0, 0⟩))) k tp) idx pos)) pos2] := ⟨_, _, _, _, _, rfl⟩
theorem prime_all : ((tupOf ((defBody lPrime).getD 0 (.Pass ⟨0, 0, 0, 0⟩))).all fun e => (constI e).isSome) = true := by kernel_rfl
theorem prime_vals : (tupOf ((defBody lPrime).getD 0 (.Pass ⟨0, 0, 0, 0⟩))).filterMap constI = primes10 := by kernel_rfl
/-- what stands in the brackets -/
def ixOf : Stmt → Expr
  | .Return (some (.Subscript _ i _)) _ => i
  | _ => .Constant .none 0 ⟨0, 0, 0, 0⟩
theorem prime_ix {k : Nat} {tp pos pos2 : Pos} {idx : Expr} {es : List Expr} (h : defBody lPrime = [.Return (some (.Subscript (.Tuple es k tp) idx pos)) pos2]) : idx = ixOf ((defBody lPrime).getD 0 (.Pass ⟨0, 0, 0, 0⟩)) := by
  rw [h]
  rfl
theorem ok_primeL (D : Def K mg "_law_prime" lPrime ["_law_script"] f fd) (DC : Def K mg "_law_cell_at" lCell ["_law_script", "_law_k"] g gd) (GC : FnOk P w K mg base CX0 1 g gd ["_law_script", "_law_k"] (spCell K))
    (DD : Def K mg "_law_draw" lDraw ["_law_cell", "_law_k", "_law_many"] g2 gd2) (GD : FnOk P w K mg base CX0 1 g2 gd2 ["_law_cell", "_law_k", "_law_many"] spDraw) : FnOk P w K mg base CX0 2 f fd ["_law_script"] (spPrimeL K) := by
  refine D.F.ok scPrimeL (fun vs H Q E h => ?_) (fun cdv A outer s H vs Q E hr h => ?_)
  · obtain ⟨a, ns, rfl, _⟩ := h
    rfl
  obtain ⟨a, ns, rfl, h1, hl, q⟩ := h
  obtain ⟨kk, tp, pos, pos2, idx, eb⟩ := prime_body
  have hall := prime_all
  have hval := prime_vals
  have ei := prime_ix eb
  rw [eb]
  clear eb
  generalize tupOf ((defBody lPrime).getD 0 (.Pass ⟨0, 0, 0, 0⟩)) = es at hall hval ⊢
  subst ei
  refine ⟨_, pss_one (ps_ret (pe_ix ix_tup (pe_tup (pa_consts hall))
    (pcall DD GD hr (pa_cons (pcall DC GC hr (pa_cons (pv 0) (pa_cons pint pa_nil))) (pa_cons pint (pa_cons pint pa_nil)))) (fun _ _ => rfl))), ?_⟩
  rw [hval]
  refine ⟨(by show 10 ≤ sizeLine; decide), fun t ht => ?_⟩
  have sm1 := same_new ht (.tup [.int 2, .int 3, .int 2, .int 5, .int 7, .int 2, .int 997, .int 11, .int 31, .int 3])
  refine ⟨_, rfl, a, ns, 0, rfl, sm1.seq h1, hl, _, 6, 10, rfl, by decide, fun v H' h0 h2 sm => ?_⟩
  refine ⟨t, primes10.map V.int, _, _, rfl, rfl, SqT.of (sm _ _ upd_same), atI_int (k := v.toNat) (by omega) (by show v.toNat < 10; omega), ?_⟩
  exact q _ _ (primes10_of _ (by omega)) (sm1.trans sm)
end
end Rr

set_option Elab.async false
set_option linter.all false
set_option maxRecDepth 100000
set_option maxHeartbeats 800000
namespace Rr
open PySem L2 RM
theorem ixN_nat {n j : Nat} {k : Int} (hk : k = (j : Int)) (h : j < n) : ixN n k = some j := by
  subst hk
  unfold ixN
  rw [if_pos (by omega), if_pos (by omega)]
  simp
theorem map_set {l : List Int} {j : Nat} {x : Int} : (l.map V.int).set j (.int x) = (l.set j x).map V.int := by
  rw [List.map_set]
theorem Rests.set {p : Int} {l : List Int} {j : Nat} {x : Int} (h : RM.Rests p l) (hx : 0 ≤ x ∧ x < p) : RM.Rests p (l.set j x) := fun y hy => by
  rcases List.mem_or_eq_of_mem_set hy with z | z
  · exact h y z
  · rw [z]; exact hx
def four : List Int := [0, 0, 0, 2]
theorem four_le : ∀ j : Nat, j < 4 → 0 ≤ gt four j ∧ gt four j ≤ 2 := by decide +kernel
section
variable {P : Program} {w : World} {K : PySem.W.Frag} {mg : Str → Option Value} {base : Heap} {f g g2 g3 g4 g5 g6 : Addr} {fd gd gd2 gd3 gd4 gd5 gd6 : FuncData}
theorem scRow : FnScope ["_law_script", "_law_prime_here", "_law_kind", "_law_many", "_law_drawn", "_law_rule", "_law_place"] ["_law_script", "_law_prime_here"] (defScope lRow) := ⟨rfl, rfl, rfl, by decide +kernel, rfl, by decide +kernel, by decide +kernel⟩
theorem ok_row (D : Def K mg "_law_row" lRow ["_law_script", "_law_prime_here"] f fd) (o : Own mg) (DC : Def K mg "_law_cell_at" lCell ["_law_script", "_law_k"] g gd) (GC : FnOk P w K mg base CX0 1 g gd ["_law_script", "_law_k"] (spCell K))
    (DD : Def K mg "_law_draw" lDraw ["_law_cell", "_law_k", "_law_many"] g2 gd2) (GD : FnOk P w K mg base CX0 1 g2 gd2 ["_law_cell", "_law_k", "_law_many"] spDraw)
    (DR : Def K mg "_law_rests" lRests ["_law_script", "_law_by", "_law_prime_here", "_law_many"] g3 gd3) (GR : FnOk P w K mg base CX0 2 g3 gd3 ["_law_script", "_law_by", "_law_prime_here", "_law_many"] (spRests K))
    (DU : Def K mg "_law_due" lDue ["_law_prime_here", "_law_rule", "_law_row_here", "_law_place"] g4 gd4) (GU : FnOk P w K mg base CX0 1 g4 gd4 ["_law_prime_here", "_law_rule", "_law_row_here", "_law_place"] spDue) :
    FnOk P w K mg base CX0 3 f fd ["_law_script", "_law_prime_here"] (spRow K) := by
  refine D.F.ok scRow (fun vs H Q E h => ?_) (fun cdv A outer s H vs Q E hr h => ?_)
  · obtain ⟨a, ns, p, rfl, _⟩ := h
    rfl
  obtain ⟨a, ns, p, rfl, h1, hl, pr, q⟩ := h
  have hp := pr.pos
  refine ⟨_, pss_cons (ps_par (i := 2) (j := 3) rfl scRow.nd rfl rfl (by decide) rfl rfl (pa_cons (pcall DD GD hr (pa_cons (pcall DC GC hr (pa_cons (pv 0) (pa_cons pint pa_nil))) (pa_cons pint (pa_cons pint pa_nil)))) (pa_cons (plen o (pv 0)) pa_nil)) (by kernel_rfl))
    (pss_cons (ps_set (i := 4) scRow.nd rfl (Or.inl rfl) (pcall DR GR hr (pa_cons (pv 0) (pa_cons pint (pa_cons (pv 1) (pa_cons (pv 3) pa_nil))))))
    (pss_cons (ps_if (pt_cmpR op_eq (pv 2) pint (nomark _)) (pss_one (ps_ret (pe_comp ["_law_k", "_law_number_here"] [0] rfl (pi_enum rfl o.enumerate (pa_cons (pv 4) pa_nil)) (fun cl C s₂ H₂ fp => pgp) (gk_pair (by decide) (by decide))
        (fun cl C s₂ H₂ fp => pe_ifExp (pt_cmpR op_eq (pcall DD GD hr (pa_cons (pe_ix (ixK (K := K) rfl) (pv 2) (pv 0) (fun _ _ => rfl)) (pa_cons pint (pa_cons pint pa_nil)))) pint (nomark _)) (pv 1) pint)))) pss_nil)
    (pss_cons (ps_if (pt_cmpR op_lt (pv 2) pint (nomark _))
      (pss_cons (ps_set (i := 5) scRow.nd rfl (Or.inl rfl) (pcall DR GR hr (pa_cons (pe_slice sl_list (pv 0) (po_some pint) po_none) (pa_cons pint (pa_cons (pv 1) (pa_cons (pe_op op_add pint (pcall DD GD hr (pa_cons (pcall DC GC hr (pa_cons (pv 0) (pa_cons pint pa_nil))) (pa_cons pint (pa_cons pint pa_nil))))) pa_nil))))))
      (pss_one (ps_for PassesOwn.never rfl (pi_range2 rfl o.range (pa_cons (plen o (pv 5)) (pa_cons (pe_op op_sub (pv 3) (pe_ix ix_tup (pe_tup (pa_cons pint (pa_cons pint (pa_cons pint (pa_cons pint pa_nil))))) (pv 2) (fun _ _ => rfl))) pa_nil))) (pgn 6)
        (pss_one (ps_asg (pcall DU GU hr (pa_cons (pv 1) (pa_cons (pv 5) (pa_cons (pv 4) (pa_cons (pv 6) pa_nil))))) (pg_sub (pv 4) (pv 6) set_list))))))
      pss_nil)
    (pss_one (ps_ret (pv 4)))))), ?_⟩
  refine ⟨_, rfl, a, ns, 1, rfl, h1, hl, gt ns 1, 7, 5, rfl, by decide, fun kind H1 k0 k5 s1 => ?_⟩
  refine ⟨_, rfl, a, _, rfl, .inl (s1.seq h1), _, _, rfl, ?_⟩
  rw [List.length_map]
  refine ⟨_, rfl, _, rfl, _, rfl, a, ns, 1, p, ns.length, rfl, s1.seq h1, hl, hp, by omega, fun d H2 l s2 nd hd hR hL => ?_⟩
  have s12 := s1.trans s2
  refine ⟨_, rfl, rfl, _, rfl, ?_⟩
  by_cases hk0 : kind = 0
  · subst hk0
    refine iteTd rfl ?_
    refine ⟨_, rfl, d, rfl, ⟨_, Rd.of hd⟩, ?_⟩
    refine ⟨l.length, fun i ys H' => ∃ l' : List Int, ys = l'.map V.int ∧ l'.length = i ∧ Rests p l' ∧ Same H2 H', small (by omega), ⟨[], rfl, rfl, Rests.nil, Same.refl _⟩, fun i ys H' hi hl' wi => ?_, fun ys H' hl' wi => ?_⟩
    · obtain ⟨l', rfl, hl2, hR', sm⟩ := wi
      have hx : (l.map V.int)[i]? = some (.int (gt l i)) := by rw [List.getElem?_map, List.getElem?_eq_getElem hi, gt_lt hi]; rfl
      refine ⟨⟨_, _, (hd.same sm).sq, hx⟩, fun x H3 y => ?_⟩
      obtain ⟨t, nt, e1, e2⟩ := y
      have e3 := e2 _ _ (hd.same sm).sq hx
      subst e1 e3
      have s3 := sm.trans (same_new nt (.tup [.int i, .int (gt l i)]))
      refine pair_go upd_same ?_
      refine ⟨_, rfl, _, rfl, a, _, _, _, rfl, rfl, (s12.trans s3).seq h1, atI_int (k := i) rfl (by omega), gt ns i, 9, 5, rfl, by decide, fun v H4 v0 v5 s4 => ?_⟩
      refine ⟨rfl, _, rfl, ite2 (fun _ => ?_) (fun _ => ?_)⟩
      · exact ⟨_, rfl, l' ++ [gt l i], by rw [List.map_append]; rfl, by rw [List.length_append, hl2]; rfl, hR'.app (.one (hR.at hp i)), s3.trans s4⟩
      · exact ⟨l' ++ [0], by rw [List.map_append]; rfl, by rw [List.length_append, hl2]; rfl, hR'.app (.one ⟨by omega, hp⟩), s3.trans s4⟩
    · obtain ⟨l', rfl, hl2, hR', sm⟩ := wi
      refine ⟨⟨_, (hd.same sm).sq, by rw [List.length_map]; exact Nat.le_refl _⟩, fun r nr => ?_⟩
      exact q r _ l' ((s12.trans sm).trans (same_new nr _)) ((s12.trans sm).free nr) (Ls.new rfl) hR' (by omega)
  refine iteFd (fun z => hk0 (by injection z)) ?_
  refine ⟨_, rfl, _, _, rfl, rfl, _, rfl, ?_⟩
  by_cases hk4 : kind < 4
  · refine iteTd hk4 ?_
    refine ⟨_, rfl, _, rfl, a, _, rfl, s12.seq h1, fun c nc => ?_⟩
    rw [show cutV (ns.map V.int) (some 1) none = (ns.drop 1).map V.int from cut_fromA (lo := 1)]
    have s3 := same_new nc (.lst ((ns.drop 1).map V.int))
    refine ⟨_, rfl, _, rfl, a, ns, 2, rfl, (s12.trans s3).seq h1, hl, gt ns 2, 8, 6, rfl, by decide, fun v H4 v0 v6 s4 => ?_⟩
    refine ⟨_, _, rfl, rfl, c, ns.drop 1, 3, p, (1 + v).toNat, congrArg (fun z => [V.ref c, V.int 3, V.int p, V.int z]) (by omega), s4.seq (SqL.of upd_same), by rw [List.length_drop]; omega, hp, by omega, fun rl H5 rule s5 nrl hrl hRr hLr => ?_⟩
    have s25 := (s3.trans s4).trans s5
    have hd5 : Ls H5 d l := hd.same s25
    have nerl : rl ≠ d := fun z => by
      subst z
      have := (s3.trans s4) _ _ hd
      rw [nrl] at this
      cases this
    have hkn : kind.toNat < 4 := by omega
    refine ⟨_, rfl, rl, _, rfl, .inl hrl.sq, _, rfl, (by show 4 ≤ sizeLine; decide), fun t nt => ?_⟩
    have s6 := same_new nt (.tup [.int 0, .int 0, .int 0, .int 2])
    refine ⟨_, rfl, t, four.map V.int, _, _, rfl, rfl, SqT.of upd_same, atI_int (k := kind.toNat) (by omega) hkn, _, _, rfl, rfl, _, _, rfl, ?_⟩
    have f4 := four_le _ hkn
    rw [List.length_map]
    refine ⟨⟨by omega, by omega, by omega, by omega⟩, for_range (fun i σ Hw => ∃ lw x, σ = [some (.ref a), some (.int p), some (.int kind), some (.int ns.length), some (.ref d), some (.ref rl), x] ∧ Same H Hw ∧ Ls Hw d lw ∧ Ls Hw rl rule ∧ Rests p lw ∧ lw.length = ns.length)
      ⟨l, none, rfl, (s12.trans s25).trans s6, hd5.same s6, hrl.same s6, hR, hL⟩ ?_ ?_⟩
    · rintro i σ Hw hi ⟨lw, x, rfl, sw, hdw, hrw, hRw, hLw⟩
      have ei : (rule.length : Int) + (i : Int) = ((rule.length + i : Nat) : Int) := by omega
      have hin : rule.length + i < ns.length := by omega
      refine ⟨_, rfl, _, rfl, _, rfl, _, rfl, p, rl, d, rule, lw, rule.length + i, congrArg (fun z => [V.int p, V.ref rl, V.ref d, V.int z]) ei, hrw, hdw, ⟨pr, hRr, hRw, by omega, by omega⟩, by omega, by omega, fun H7 s7 => ?_⟩
      refine ⟨_, rfl, _, rfl, d, _, _, rule.length + i, rfl, rfl, hdw.same s7, ixN_nat ei (by rw [List.length_map]; omega), lw.set (rule.length + i) (dueN p rule lw (rule.length + i)), _, rfl, ?_, Ls.new map_set, ?_, Rests.set hRw (dueN_rest hp _ _ _), by rw [List.length_set]; exact hLw⟩
      · exact sput (sw.trans s7) (s1.free nd)
      · show upd H7 d _ rl = _
        rw [upd_ne nerl]
        exact hrw.same s7
    · rintro σ Hw ⟨lw, x, rfl, sw, hdw, hrw, hRw, hLw⟩
      exact ⟨_, rfl, q d Hw lw sw (s1.free nd) hdw hRw hLw⟩
  · refine iteFd hk4 ⟨_, rfl, q d H2 l s12 (s1.free nd) hd hR hL⟩
end
end Rr

set_option Elab.async false
set_option linter.all false
set_option maxRecDepth 100000
namespace L2
open PySem PySem.Spec PyProof.Rows
/-- the rule for a def that may raise -/
theorem Fun.ok1 {P : Program} {w : World} {K : PySem.W.Frag} {mg : Str → Option Value} {base : Heap} {x qual : Str} {st : Stmt} {f : Addr} {fd : FuncData} {N ps : List Str} {k : Nat} {sp : Sp} (F : Fun K x qual st f fd) (S : FnScope N ps (defScope st)) (len : ∀ vs H Q E, sp vs H Q E → vs.length = ps.length)
    (hbody : ∀ (cdv : Value) (A : Around) (outer : List Env) (s : Shared) (H : Hp) (vs : List V) (Q : VK) (E : XK), Room k (A.deeper (envOfC qual (defScope st) s.heap.objs.size f cdv)) → sp vs H Q E →
      ∃ t, PSs (cxOf (CX1 P w) P w K mg base N qual (defScope st) f cdv A outer s H E) (defBody st) t ∧ t { nx := fun _ H' => Q .non H', rt := Q } (start N vs) H) : FnOk P w K mg base (CX1 P w) (k + 1) f fd ps sp := by
  obtain ⟨oc, od, kV, doc, pm, an, cdv, ct, osl, rfl, lk, hcd⟩ := F.ex
  exact fn_of lk hcd S len fun A outer s H vs Q E hr hsp => hbody cdv A outer s H vs Q E hr hsp
end L2
namespace Rr
open PySem L2 RM ST PySem.NumText
/-- the number that a word writes -/
def val (l : List Nat) : Int := ((digitsVal l : Nat) : Int)
def rowT (row : List Int) : List Nat := tl 32 (row.map txt)
/-- the text of a prime and a row -/
def wr (p : Int) (row : List Int) : List Nat := txt p ++ 58 :: rowT row
structure Good (l : List Nat) (p : Int) (row : List Int) : Prop where
  pr : PrimeOk p
  rs : Rests p row
  e : l = wr p row
theorem val_rng {w : List Nat} (h : isNum w = true) : 0 ≤ val w ∧ val w < 1000 := by
  have := val_lt h
  unfold val
  omega
theorem val_txt {n : Int} (h0 : 0 ≤ n) : val (txt n) = n := txt_val h0
theorem txt_of {w : List Nat} (h : isNum w = true) : txt (val w) = w := txt_back h
theorem rest_lt {p : Int} {row : List Int} (hp : PrimeOk p) (hr : Rests p row) : ∀ n ∈ row, 0 ≤ n ∧ n < 1000 := fun n hn => by
  have h1 := hr n hn
  have h2 := hp.2.1
  omega
theorem rowT_no {row : List Int} (h : ∀ n ∈ row, 0 ≤ n ∧ n < 1000) : 58 ∉ rowT row := fun z => by
  unfold rowT tl at z
  obtain ⟨w, hw, hz⟩ := List.mem_flatMap.mp z
  obtain ⟨n, hn, rfl⟩ := List.mem_map.mp hw
  rcases List.mem_cons.mp hz with e | hz
  · cases e
  · exact txt_no (h n hn).1 (h n hn).2 (.inr (by decide)) hz
theorem rowT_spl {row : List Int} (h : ∀ n ∈ row, 0 ≤ n ∧ n < 1000) : spl 32 (rowT row) = [] :: row.map txt := by
  have := spl_tl (c := 32) (ws := row.map txt) (w := []) (by simp) (fun v hv => by
    obtain ⟨n, hn, rfl⟩ := List.mem_map.mp hv
    exact txt_no (h n hn).1 (h n hn).2 (.inl (by decide)))
  rw [List.nil_append] at this
  exact this
theorem Good.prs {l : List Nat} {p : Int} {row : List Int} (g : Good l p row) : 0 ≤ p ∧ p < 1000 := by
  have := g.pr.1
  have := g.pr.2.1
  omega
theorem Good.part {l : List Nat} {p : Int} {row : List Int} (g : Good l p row) : part 58 l = (txt p, [58], rowT row) := by
  rw [g.e]
  exact part_at (txt_no g.prs.1 g.prs.2 (.inr (by decide)))
theorem Good.spl {l : List Nat} {p : Int} {row : List Int} (g : Good l p row) : spl 58 l = [txt p, rowT row] := by
  rw [g.e]
  unfold wr
  rw [spl_at (txt_no g.prs.1 g.prs.2 (.inr (by decide))), spl_not (rowT_no (rest_lt g.pr g.rs))]
theorem Good.words {l : List Nat} {p : Int} {row : List Int} (g : Good l p row) : ST.spl 32 (rowT row) = [] :: row.map txt := rowT_spl (rest_lt g.pr g.rs)
theorem Good.num {l : List Nat} {p : Int} {row : List Int} (g : Good l p row) : isNum (txt p) = true := txt_num g.prs.1 g.prs.2
theorem Good.nums {l : List Nat} {p : Int} {row : List Int} (g : Good l p row) : ∀ w ∈ row.map txt, isNum w = true := fun w hw => by
  obtain ⟨n, hn, rfl⟩ := List.mem_map.mp hw
  have := rest_lt g.pr g.rs n hn
  exact txt_num this.1 this.2
theorem map_val {row : List Int} (h : ∀ n ∈ row, 0 ≤ n) : (row.map txt).map val = row := by
  rw [List.map_map]
  refine (List.map_congr_left fun n hn => ?_).trans (List.map_id' row)
  exact val_txt (h n hn)
theorem Good.vals {l : List Nat} {p : Int} {row : List Int} (g : Good l p row) : (row.map txt).map val = row := map_val fun n hn => (rest_lt g.pr g.rs n hn).1
theorem good_of {l a c : List Nat} {ws : List (List Nat)} (e : l = a ++ 58 :: c) (ha : isNum a = true) (hc : ST.spl 32 c = [] :: ws) (hw : ∀ w ∈ ws, isNum w = true) (hp : PrimeOk (val a)) (hr : Rests (val a) (ws.map val)) : Good l (val a) (ws.map val) := by
  refine ⟨hp, hr, ?_⟩
  have h1 := spl_back hc
  rw [List.nil_append] at h1
  have h2 : (ws.map val).map txt = ws := by
    rw [List.map_map]
    refine (List.map_congr_left fun w hw' => ?_).trans (List.map_id' ws)
    exact txt_of (hw w hw')
  unfold wr rowT
  rw [txt_of ha, h2, e, h1]
theorem Good.uniq {l : List Nat} {p q : Int} {row r2 : List Int} (g : Good l p row) (g2 : Good l q r2) : p = q ∧ row = r2 := by
  have h1 := g.part
  rw [g2.part] at h1
  have e1 : txt q = txt p := congrArg (·.1) h1
  have e2 : rowT r2 = rowT row := congrArg (·.2.2) h1
  have h2 := g.words
  rw [← e2, g2.words] at h2
  refine ⟨txt_inj g.prs.1 g2.prs.1 e1.symm, ?_⟩
  have h3 : r2.map txt = row.map txt := (List.cons.inj h2).2
  rw [← g.vals, ← h3, g2.vals]
theorem wr_len {p : Int} {row : List Int} (hp : PrimeOk p) (hr : Rests p row) : (wr p row).length ≤ 4 + 4 * row.length := by
  have h1 : (txt p).length ≤ 3 := txt_len (by have := hp.1; omega) (by have := hp.2.1; omega)
  have h2 := rest_lt hp hr
  have key : ∀ r : List Int, (∀ n ∈ r, 0 ≤ n ∧ n < 1000) → (rowT r).length ≤ 4 * r.length := fun r => by
    induction r with
    | nil => intro _; exact Nat.le_refl _
    | cons n r ih =>
      intro h
      have a := txt_len (h n (by simp)).1 (h n (by simp)).2
      have b := ih fun m hm => h m (List.mem_cons_of_mem _ hm)
      have e : rowT (n :: r) = 32 :: txt n ++ rowT r := rfl
      rw [e, List.length_append, List.length_cons, List.length_cons]
      omega
  have := key row h2
  unfold wr
  rw [List.length_append, List.length_cons]
  omega
/-! ### texts of the program and the law, as lists of signs -/
theorem lit_colon : (":" : Str) = tx [58] := by decide
theorem lit_blank : (" " : Str) = tx [32] := by decide
theorem lit_empty : ("" : Str) = tx [] := by decide
theorem lit_nought : ("0" : Str) = tx [48] := by decide
theorem lit_figs : ("0123456789" : Str) = tx [48, 49, 50, 51, 52, 53, 54, 55, 56, 57] := by decide
theorem fig_iff (c : Nat) : c ∈ [48, 49, 50, 51, 52, 53, 54, 55, 56, 57] ↔ 48 ≤ c ∧ c ≤ 57 := by
  simp only [List.mem_cons, List.not_mem_nil, or_false]
  omega
/-! ### what the program's defs promise -/
abbrev LenOk (l : List Nat) : Prop := l.length ≤ 100000
def spPrimeB : Sp := fun vs H Q _ => ∃ p : Int, vs = [.int p] ∧ (PrimeOk p → Q (.bl true) H) ∧ (¬ PrimeOk p → Q (.bl false) H)
def spIsNum : Sp := fun vs H Q _ => ∃ l : List Nat, vs = [.str (tx l)] ∧ LenOk l ∧ ∀ H', Same H H' → Q (.bl (isNum l)) H'
def spNumT (CT : Addr) : Sp := fun vs H Q E => ∃ l : List Nat, vs = [.str (tx l)] ∧ LenOk l ∧ (isNum l = true → ∀ H', Same H H' → Q (.int (val l)) H') ∧ (isNum l = false → ∀ H', Same H H' → E (.ref CT) none H')
def spWritten : Sp := fun vs H Q _ => ∃ (p : Int) (a : Addr) (row : List Int), vs = [.int p, .ref a] ∧ Ls H a row ∧ PrimeOk p ∧ Rests p row ∧ row.length ≤ 100000 ∧ ∀ H', Same H H' → Q (.str (tx (wr p row))) H'
/-- a text read: a new tuple of its prime and its row, a new list -/
def spRead (CT : Addr) : Sp := fun vs H Q E => ∃ l : List Nat, vs = [.str (tx l)] ∧ LenOk l ∧
  (∀ p row, Good l p row → ∀ (r a : Addr) (H' : Hp), Same H H' → H r = none → H a = none → H' r = some (.tup [.int p, .ref a]) → Ls H' a row → Q (.ref r) H') ∧
  ((¬ ∃ p row, Good l p row) → ∀ H', Same H H' → E (.ref CT) none H')
/-- no text -/
inductive NoText (H : Hp) : V → Value → Prop where
  | non : NoText H .non (.type "NoneType")
  | int (i : Int) : NoText H (.int i) (.type "int")
  | bl (b : Bool) : NoText H (.bl b) (.type "bool")
  | lst {a : Addr} {xs : List V} (e : H a = some (.lst xs)) : NoText H (.ref a) (.type "list")
def spReadN (CT : Addr) : Sp := fun vs H Q E => ∃ (x : V) (t : Value), vs = [x] ∧ NoText H x t ∧ E (.ref CT) none H
def spReadA (CT : Addr) : Sp := fun vs H Q E => spRead CT vs H Q E ∨ spReadN CT vs H Q E
def spLNum : Sp := fun vs H Q _ => ∃ l : List Nat, vs = [.str (tx l)] ∧ LenOk l ∧ Q (if isNum l = true then .int (val l) else .non) H
def spLIn : Sp := fun vs H Q _ => ∃ l : List Nat, vs = [.str (tx l)] ∧ LenOk l ∧
  (∀ p row, Good l p row → ∀ (r a : Addr) (H' : Hp), Same H H' → H r = none → H a = none → H' r = some (.tup [.int p, .ref a]) → Ls H' a row → Q (.ref r) H') ∧
  ((¬ ∃ p row, Good l p row) → ∀ H', Same H H' → Q .non H')
def spLRef : Sp := fun vs H Q _ => (∃ l : List Nat, vs = [.str (tx l)] ∧ LenOk l ∧ (¬ ∃ p row, Good l p row) ∧ ∀ H', Same H H' → Q (.bl true) H') ∨ ∃ (x : V) (t : Value), vs = [x] ∧ NoText H x t ∧ ∀ H', Same H H' → Q (.bl true) H'
def spLRight : Sp := fun vs H Q _ => ∃ l : List Nat, vs = [.str (tx l)] ∧ LenOk l ∧ ∀ H', Same H H' → Q (.bl true) H'
def spLFew : Sp := fun vs H Q _ => vs = [] ∧ ∀ (r : Addr) (H' : Hp) (ts : List (List Nat)), Same H H' → H r = none → H' r = some (.lst (ts.map fun t => V.str (tx t))) → (∀ t ∈ ts, LenOk t) → ts.length ≤ 100 → Q (.ref r) H'
section
variable {X : Cx} {x : Str} {st : Stmt} {ps : List Str} {f : Addr} {fd : FuncData} {j k : Nat} {sp : Sp} {e : Expr} {es : List Expr} {t : TA} {p pos : Pos} {E : XK}
/-- a call of a def of the text that may raise -/
theorem pcallX (D : Def X.K X.mg x st ps f fd) (G : FnOk X.prog X.w X.K X.mg X.base (CX1 X.prog X.w) j f fd ps sp) (hr : Room k X.A) (hx : Passes (CX1 X.prog X.w) X E) (ha : PA X (e :: es) t) (hj : j ≤ k := by decide) (hg : Gl X x := by rfl) (hdb : (x == ("__debug__" : Str)) = false := by decide)
    (he : starEach (e :: es) X.env = (false, eval e X.env) :: starEach es X.env := by rfl) (hpl : (backTo pos (starEach es X.env)).any (·.1) = false := by rfl) :
    PE X (.Call (.Name x p) (e :: es) [] pos) (tCall sp [] E t) := pe_call (G.mono hj) hr hg D.m D.F.kp D.b .nil hx ha hdb he hpl
end
theorem kit_str_str (K : PySem.W.Frag) : PySem.W.kitOne K (.type "str") (.type "str") = some true := by
  unfold PySem.W.kitOne
  exact if_pos (by decide)
theorem kit_tup_tup (K : PySem.W.Frag) : PySem.W.kitOne K (.type "tuple") (.type "tuple") = some true := by
  unfold PySem.W.kitOne
  exact if_pos (by decide)
theorem kit_non_str (K : PySem.W.Frag) : PySem.W.kitOne K (.type "NoneType") (.type "str") = some false := by kernel_rfl
theorem kit_int_str (K : PySem.W.Frag) : PySem.W.kitOne K (.type "int") (.type "str") = some false := by kernel_rfl
theorem kit_bool_str (K : PySem.W.Frag) : PySem.W.kitOne K (.type "bool") (.type "str") = some false := by kernel_rfl
theorem kit_list_str (K : PySem.W.Frag) : PySem.W.kitOne K (.type "list") (.type "str") = some false := by kernel_rfl
theorem boot_strT : bootBuiltins "str" = some (.type "str") := by decide +kernel
theorem boot_tupT : bootBuiltins "tuple" = some (.type "tuple") := by decide +kernel
end Rr

set_option Elab.async false
set_option linter.all false
set_option maxRecDepth 100000
namespace Rr
open PySem L2 RM ST PySem.NumText
section
variable {P : Program} {w : World} {K : PySem.W.Frag} {mg : Str → Option Value} {base : Heap} {f g g2 : Addr} {fd gd gd2 : FuncData} {CT : Addr} {bm : List Value}
theorem ok_primeB (D : Def K mg "is_prime" sPrime ["value"] f fd) (o : Own mg) (DW : Def K mg "is_whole" sWhole ["value"] g gd) (GW : FnOk P w K mg base CX0 1 g gd ["value"] spWhole) {t1 t2 : Tok} (hlo : mg "LOWEST_PRIME" = some (.int 2 t1)) (hhi : mg "HIGHEST_PRIME" = some (.int 997 t2)) :
    FnOk P w K mg base CX0 2 f fd ["value"] spPrimeB := by
  refine D.F.ok scPrime (fun vs H Q E h => ?_) (fun cdv A outer s H vs Q E hr h => ?_)
  · obtain ⟨i, rfl, _⟩ := h
    rfl
  obtain ⟨p, rfl, qT, qF⟩ := h
  refine ⟨_, pss_cons (ps_if (pw_or (pt_not (pt_val (pcall DW GW hr (pa_cons (pv 0) pa_nil)))) (pw_or (pt_cmpR op_lt (pv 0) (pe_glob (v := .int 2) (by rfl) hlo ⟨_, rfl⟩) (nomark _)) (pw_or1 (pt_cmpR op_gt (pv 0) (pe_glob (v := .int 997) (by rfl) hhi ⟨_, rfl⟩) (nomark _))))).pt (pss_one (ps_ret pe_bl)) pss_nil)
    (pss_cons (ps_set (i := 1) scPrime.nd rfl (Or.inl rfl) pint)
    (pss_cons (ps_while PassesOwn.never (pt_cmpR op_le (pe_op op_mul (pv 1) (pv 1)) (pv 0) (nomark _))
      (pss_cons (ps_if (pt_cmpR op_eq (pe_op op_mod (pv 0) (pv 1)) pint (nomark _)) (pss_one (ps_ret pe_bl)) pss_nil)
        (pss_one (ps_aug (i := 1) scPrime.nd rfl (Or.inl rfl) pint ip_add))))
    (pss_one (ps_ret pe_bl)))), ?_⟩
  refine ⟨_, rfl, p, rfl, true, rfl, iteF ?_⟩
  refine ⟨_, rfl, _, _, rfl, rfl, _, rfl, ?_⟩
  by_cases h1 : p < 2
  · exact iteTd h1 (qF fun z => by have := z.1; omega)
  refine iteFd h1 ⟨_, rfl, _, _, rfl, rfl, _, rfl, ?_⟩
  by_cases h2 : 997 < p
  · exact iteTd h2 (qF fun z => by have := z.2.1; omega)
  refine iteFd h2 ?_
  refine ⟨fun m σ H' => H' = H ∧ ∃ d : Int, σ = [some (.int p), some (.int d)] ∧ 2 ≤ d ∧ d ≤ 1000 ∧ m = (1000 - d).toNat ∧ ∀ e : Int, 2 ≤ e → e < d → p % e ≠ 0, ⟨998, rfl, 2, rfl, by omega, by omega, rfl, fun e a b => by omega⟩, ?_⟩
  rintro m σ H' ⟨rfl, d, rfl, hd, hd2, rfl, hall⟩
  refine ⟨_, rfl, _, rfl, _, _, rfl, rfl, .inl ⟨by omega, by omega⟩, _, rfl, _, _, rfl, rfl, _, rfl, ?_⟩
  by_cases hle : d * d ≤ p
  · have hd31 : d < 1000 := by
      refine Int.not_le.mp fun z => ?_
      have q1 : (1000 : Int) * 1000 ≤ d * d := Int.mul_le_mul z z (by omega) (by omega)
      omega
    refine iteTd hle ⟨_, fun σ' H' z => z, ?_⟩
    refine ⟨_, rfl, _, rfl, _, _, rfl, rfl, (by show 0 < d; omega), rfl, _, rfl, ?_⟩
    by_cases hz : p % d = 0
    · exact iteTd (congrArg V.int hz) (qF fun z => z.2.2 d hd hle hz)
    refine iteFd (fun z => hz (by injection z)) ?_
    refine ⟨_, rfl, _, _, rfl, rfl, _, (by show (1000 - (d + 1)).toNat < (1000 - d).toNat; omega), rfl, d + 1, rfl, by omega, by omega, rfl, fun e a b => ?_⟩
    by_cases hed : e = d
    · rw [hed]; exact hz
    · exact hall e a (by omega)
  · refine iteFd hle (qT ⟨by omega, by omega, fun e a b => ?_⟩)
    refine hall e a (Int.not_le.mp fun z => hle ?_)
    exact Int.le_trans (Int.mul_le_mul z z (by omega) (by omega)) b
theorem ok_prime6 (G : FnOk P w K mg base CX0 2 f fd ["value"] spPrimeB) : FnOk P w K mg base CX0 2 f fd ["value"] spPrime := G.imp fun vs H Q E h => by
  obtain ⟨p, rfl, hp, q⟩ := h
  exact ⟨p, rfl, fun _ => q, fun z => absurd hp z⟩
/-! ### numbers -/
theorem plenS (o : Own mg) {X : Cx} (hX : X.mg = mg) {e : Expr} {te : TE} {p pos : Pos} (h : PE X e te) (hg : Gl X "len" := by rfl) (hs : starEach [e] X.env = [(false, eval e X.env)] := by rfl) :
    PE X (.Call (.Name "len" p) [e] [] pos) (tCB (fun xs H Q => ∃ z, xs = [.str z] ∧ z.length ≤ sizeLine ∧ Q (.int z.length) H) (tCons te tNil)) :=
  pe_callB call_len_str hg (by rw [hX]; exact o.len) PySem.boot_len (pa_cons h pa_nil (by rw [hs]; rfl)) (by decide) (by decide) (by rw [hs]; rfl) rfl
theorem scIsNum : FnScope ["word"] ["word"] (defScope sIsNum) := ⟨rfl, rfl, rfl, by decide +kernel, rfl, by decide +kernel, by decide +kernel⟩
theorem ok_isNum (D : Def K mg "is_number" sIsNum ["word"] f fd) (o : Own mg) {t1 t2 : Tok} (hfi : mg "FIGURES" = some (.str "0123456789" t1)) (hmo : mg "MOST_FIGURES" = some (.int 3 t2)) :
    FnOk P w K mg base CX0 1 f fd ["word"] spIsNum := by
  refine D.F.ok scIsNum (fun vs H Q E h => ?_) (fun cdv A outer s H vs Q E hr h => ?_)
  · obtain ⟨i, rfl, _⟩ := h
    rfl
  obtain ⟨l, rfl, hL, q⟩ := h
  refine ⟨_, pss_cons (ps_if (pw_or (pt_cmpR op_eq (plenS o rfl (pv 0)) pint (nomark _)) (pw_or1 (pt_cmpR op_gt (plenS o rfl (pv 0)) (pe_glob (v := .int 3) (by rfl) hmo ⟨_, rfl⟩) (nomark _)))).pt (pss_one (ps_ret pe_bl)) pss_nil)
    (pss_cons (ps_if (pw_and (pt_cmpR op_gt (plenS o rfl (pv 0)) pint (nomark _)) (pw_and1 (pt_cmpR op_eq (pe_ix ix_str (pv 0) pint (fun _ _ => rfl)) pe_str (nomark _)))).pt (pss_one (ps_ret pe_bl)) pss_nil)
    (pss_one (ps_ret (pe_callB (call_all rfl) rfl o.all boot_allB (pa_cons (pe_comp ["sign"] [] rfl (pi_txt (pv 0)) (fun cl C s₂ H₂ fp => pgn 0) (gk_name (by decide))
      (fun cl C s₂ H₂ fp => pe_cmpR op_in_str (pv 0) (pe_glob (v := .str "0123456789") (by rfl) hfi ⟨_, rfl⟩) rfl)) pa_nil))))), ?_⟩
  have hz : l.length ≤ sizeLine := Nat.le_trans hL (by decide)
  refine ⟨_, rfl, tx l, rfl, hz, rfl, _, rfl, ?_⟩
  rw [tx_len]
  have nope : isNum l = false → ∀ H', Same H H' → Q (.bl false) H' := fun e H' sm => by
    have := q H' sm
    rw [e] at this
    exact this
  by_cases h0 : l.length = 0
  · refine iteTd (by rw [h0]; rfl) (nope ?_ _ (Same.refl _))
    unfold isNum
    rw [h0]
    rfl
  refine iteFd (fun z => h0 (by injection z with z; omega)) ⟨_, rfl, tx l, rfl, hz, _, _, rfl, rfl, _, rfl, ?_⟩
  rw [tx_len]
  by_cases h3 : 3 < l.length
  · refine iteTd (by omega) (nope ?_ _ (Same.refl _))
    unfold isNum
    rw [decide_eq_false (show ¬ l.length ≤ 3 by omega), Bool.and_false, Bool.false_and, Bool.false_and]
  refine iteFd (by omega) ⟨_, rfl, tx l, rfl, hz, _, _, rfl, rfl, _, rfl, ?_⟩
  rw [tx_len]
  obtain ⟨c, r, rfl⟩ : ∃ c r, l = c :: r := by
    cases l with
    | nil => exact absurd rfl h0
    | cons c r => exact ⟨c, r, rfl⟩
  have last : ¬ (1 < (c :: r).length ∧ c = 48) → tRet (tCB (fun xs H Q => ∃ (p : Addr) (bs : List Bool), xs = [.ref p] ∧ SqL K H p (bs.map V.bl) ∧ Q (.bl (bs.all id)) H) (tCons (tComp (iTx (tVar 0)) ["sign"].length [] (gName 0) (tOp (fun x y H Q => ∃ i j, x = .str i ∧ y = .str j ∧ Q (.bl (!(Builtin.Str.occurrences j i 0 j.length 1).isEmpty)) H) (tVar 0) (tC (.str "0123456789")))) tNil)) { nx := fun _ H' => Q .non H', rt := Q } [some (.str (tx (c :: r)))] H := fun hh => by
    refine ⟨_, rfl, c :: r, rfl, comp_txt (fun i => V.bl (decide (48 ≤ (c :: r).getD i 0) && decide ((c :: r).getD i 0 ≤ 57))) hz (fun i d H' hd sm => ?_) (fun H' sm p hp => ?_)⟩
    · refine ⟨_, rfl, _, _, rfl, rfl, snocF ?_, sm⟩
      have e0 : (tx [d] : Str) = ⟨#[d]⟩ := rfl
      rw [e0, StrLaws.found_one, lit_figs, cps_tx]
      have e1 : (c :: r).getD i 0 = d := by
        rw [List.getD_eq_getElem?_getD, hd]
        rfl
      rw [e1]
      congr 1
      rw [Bool.eq_iff_iff, decide_eq_true_eq, fig_iff, Bool.and_eq_true, decide_eq_true_eq, decide_eq_true_eq]
    · refine ⟨p, (List.range (c :: r).length).map (fun i => decide (48 ≤ (c :: r).getD i 0) && decide ((c :: r).getD i 0 ≤ 57)), rfl, by rw [← mapBl]; exact SqL.of upd_same, ?_⟩
      have e2 : ((List.range (c :: r).length).map (fun i => decide (48 ≤ (c :: r).getD i 0) && decide ((c :: r).getD i 0 ≤ 57))).all id = isNum (c :: r) := by
        have e3 : ((List.range (c :: r).length).map (fun i => decide (48 ≤ (c :: r).getD i 0) && decide ((c :: r).getD i 0 ≤ 57))).all id = (c :: r).all fun c => decide (48 ≤ c) && decide (c ≤ 57) := by
          rw [List.all_map, Bool.eq_iff_iff, List.all_eq_true, List.all_eq_true]
          constructor
          · intro h x hx
            obtain ⟨i, hi, e⟩ := List.getElem_of_mem hx
            have := h i (List.mem_range.mpr hi)
            simp only [Function.comp, id, List.getD_eq_getElem?_getD, List.getElem?_eq_getElem hi, Option.getD_some, e] at this
            exact this
          · intro h i hi
            have hi' := List.mem_range.mp hi
            have := h _ (List.getElem_mem hi')
            simp only [Function.comp, id, List.getD_eq_getElem?_getD, List.getElem?_eq_getElem hi', Option.getD_some]
            exact this
        unfold isNum
        rw [e3, decide_eq_true (show 0 < (c :: r).length from Nat.succ_pos _), decide_eq_true (show (c :: r).length ≤ 3 by omega)]
        have e4 : (decide (1 < (c :: r).length) && decide ((c :: r).head? = some 48)) = false := by
          rw [Bool.and_eq_false_iff, decide_eq_false_iff_not, decide_eq_false_iff_not]
          by_cases z : 1 < (c :: r).length
          · exact .inr fun e => hh ⟨z, by injection e⟩
          · exact .inl z
        rw [e4]
        rfl
      rw [e2]
      exact q _ (sm.trans (same_new hp _))
  by_cases h1 : 1 < (c :: r).length
  · refine iteTd (by omega) ⟨_, rfl, tx (c :: r), _, c, rfl, rfl, hz, (show atI (c :: r) ((0 : Nat) : Int) = some c from atI_nat rfl), rfl, _, rfl, ?_⟩
    by_cases hc : c = 48
    · subst hc
      refine iteTd (by rw [lit_nought]; rfl) (nope ?_ _ (Same.refl _))
      unfold isNum
      rw [decide_eq_true h1]
      simp
    · refine iteFd (fun z => hc ?_) (last fun z => hc z.2)
      rw [lit_nought] at z
      have z' : V.str (tx [c]) = V.str (tx [48]) := z
      injection z' with z'
      have := tx_inj z'
      injection this
  · exact iteFd (by omega) (last fun z => h1 z.1)
theorem scNum6 : FnScope ["word"] ["word"] (defScope sNum) := ⟨rfl, rfl, rfl, by decide +kernel, rfl, by decide +kernel, by decide +kernel⟩
theorem ok_numT (D : Def K mg "number_of" sNum ["word"] f fd) (o : Own mg) (DI : Def K mg "is_number" sIsNum ["word"] g gd) (GI : FnOk P w K mg base CX0 1 g gd ["word"] spIsNum) (hc : XC K CT bm) (mT : mg "BadText" = some (.ref CT)) :
    FnOk P w K mg base (CX1 P w) 2 f fd ["word"] (spNumT CT) := by
  refine D.F.ok1 scNum6 (fun vs H Q E h => ?_) (fun cdv A outer s H vs Q E hr h => ?_)
  · obtain ⟨i, rfl, _⟩ := h
    rfl
  obtain ⟨l, rfl, hL, qT, qF⟩ := h
  refine ⟨_, pss_cons (ps_if (pt_not (pt_val (pcall DI GI hr (pa_cons (pv 0) pa_nil)))) (pss_one (ps_raise hc mT lands1 (pa_cons pe_str pa_nil))) pss_nil)
    (pss_one (ps_ret (pe_callTy call_int_txt rfl o.int boot_intT (pa_cons (pv 0) pa_nil)))), ?_⟩
  refine ⟨_, rfl, l, rfl, hL, fun H1 s1 => ⟨_, rfl, ?_⟩⟩
  cases e : isNum l with
  | true =>
    obtain ⟨hd, hne, h3, _⟩ := isNum_digits e
    exact iteF ⟨_, rfl, l, rfl, hd, hne, by omega, qT e H1 s1⟩
  | false => exact iteT ⟨(by show 1 ≤ sizeLine; decide), qF e H1 s1⟩
end
end Rr

set_option Elab.async false
set_option linter.all false
set_option maxRecDepth 100000
namespace Rr
open PySem L2 RM ST PySem.NumText
structure Own6 (mg : Str → Option Value) : Prop where
  str : mg "str" = none
  tuple : mg "tuple" = none
theorem map_at (row : List Int) {α : Type} (h : Int → α) : (List.range row.length).map (fun i => h (gt row i)) = row.map h := by
  refine List.ext_getElem (by simp) fun i h1 h2 => ?_
  rw [List.length_map] at h2
  simp [gt_lt h2]
section
variable {P : Program} {w : World} {K : PySem.W.Frag} {mg : Str → Option Value} {base : Heap} {f g g2 g3 g4 : Addr} {fd gd gd2 gd3 gd4 : FuncData} {CT : Addr} {bm : List Value}
theorem scWritten : FnScope ["prime", "row"] ["prime", "row"] (defScope sWritten) := ⟨rfl, rfl, rfl, by decide +kernel, rfl, by decide +kernel, by decide +kernel⟩
theorem ok_written (D : Def K mg "written" sWritten ["prime", "row"] f fd) (DP : Def K mg "need_prime" sNeedPrime ["prime"] g gd) (GP : FnOk P w K mg base CX0 3 g gd ["prime"] spNeedPrime)
    (DR : Def K mg "need_row" sNeedRow ["prime", "row"] g2 gd2) (GR : FnOk P w K mg base CX0 4 g2 gd2 ["prime", "row"] spNeed) : FnOk P w K mg base CX0 5 f fd ["prime", "row"] spWritten := by
  refine D.F.ok scWritten (fun vs H Q E h => ?_) (fun cdv A outer s H vs Q E hr h => ?_)
  · obtain ⟨p, a, row, rfl, _⟩ := h
    rfl
  obtain ⟨p, a, row, rfl, h1, hp, hR, hl, q⟩ := h
  refine ⟨_, pss_cons (ps_expr (pcall DP GP hr (pa_cons (pv 0) pa_nil))) (pss_cons (ps_expr (pcall DR GR hr (pa_cons (pv 0) (pa_cons (pv 1) pa_nil))))
    (pss_one (ps_ret (pe_op op_add_str (pe_fmtL (pv 0)) (pe_bm PySem.F.plainAttrs_str PySem.F.slot_str_join PySem.F.type_str_join mt_join pe_str (pa_cons (pe_comp ["number"] [] rfl (pi_list (pv 1)) (fun cl C s₂ H₂ fp => pgn 0) (gk_name (by decide))
      (fun cl C s₂ H₂ fp => pe_fmtR (pv 0))) pa_nil)))))), ?_⟩
  have hp1 := hp.1
  have hp2 := hp.2.1
  have hb := rest_lt hp hR
  refine ⟨_, rfl, p, rfl, hp, ?_⟩
  refine ⟨_, rfl, _, rfl, p, a, row, rfl, h1, hR, ?_⟩
  refine ⟨_, rfl, p, [58], rfl, by omega, by omega, lit_colon, by decide, rfl, _, rfl, a, rfl, ⟨_, h1.sq⟩, ?_⟩
  refine comp_list h1.sq (fun i => V.str (tx (32 :: txt (gt row i)))) (by rw [List.length_map]; exact Nat.le_trans hl (by decide)) (fun i x H1 hx sm => ?_) (fun H1 sm r nr => ?_)
  · obtain ⟨rfl, hi⟩ := at_int hx
    have hm : gt row i ∈ row := by rw [gt_lt hi]; exact List.getElem_mem hi
    exact ⟨_, rfl, gt row i, [32], rfl, (hb _ hm).1, (hb _ hm).2, lit_blank, by decide, snocF rfl, sm⟩
  · rw [List.length_map]
    have e1 : (List.range row.length).map (fun i => V.str (tx (32 :: txt (gt row i)))) = (row.map fun n => 32 :: txt n).map (fun w => V.str (tx w)) := by
      rw [map_at row (fun n => V.str (tx (32 :: txt n))), List.map_map]
      rfl
    rw [e1]
    have s2 := sm.trans (same_new nr (.lst ((row.map fun n => 32 :: txt n).map (fun w => V.str (tx w)))))
    have e2 : (row.map fun n => 32 :: txt n).flatten = rowT row := by
      unfold rowT tl
      rw [List.flatMap_map, List.flatMap_def]
    refine ⟨r, row.map fun n => 32 :: txt n, congrArg V.str lit_empty, rfl, SqL.of upd_same, fun v hv => ?_, by rw [List.length_map]; omega, _, _, rfl, rfl, ?_, ?_⟩
    · obtain ⟨n, hn, rfl⟩ := List.mem_map.mp hv
      have := txt_len (hb n hn).1 (hb n hn).2
      rw [List.length_cons]
      omega
    · have := wr_len hp hR
      unfold wr at this
      rw [e2, tx_len, tx_len, sizeLine_eq, List.length_append]
      rw [List.length_append, List.length_cons] at this
      have e : [58].length = 1 := rfl
      rw [e]
      omega
    · rw [e2, tx_app, List.append_assoc]
      exact q _ s2
end
end Rr

set_option Elab.async false
set_option linter.all false
set_option maxRecDepth 100000
set_option maxHeartbeats 1000000
namespace L2
open PySem PySem.Spec PyProof.Rows
theorem comp_listP {K : PySem.W.Frag} {a : Addr} {xs : List V} {σ0 : St} {te : TE} {H1 : Hp} {R : List V → Hp → Prop} (hq : SqL K H1 a xs) (f : Nat → V) (Pi : Nat → Prop) (hz : xs.length ≤ sizeLine)
    (ht : ∀ i x H, xs[i]? = some x → Same H1 H → (∀ j, j < i → Pi j) → te (σ0.set 0 (some x)) H fun y H3 => (List.range i).map f ++ [y] = (List.range (i + 1)).map f ∧ Same H1 H3 ∧ ∀ j, j < i + 1 → Pi j)
    (hR : ∀ H, Same H1 H → (∀ i, i < xs.length → Pi i) → R ((List.range xs.length).map f) H) : CompR (Itl K a) σ0 (gName 0) te H1 R := by
  refine ⟨xs.length, fun i ys H => ys = (List.range i).map f ∧ Same H1 H ∧ ∀ j, j < i → Pi j, hz, ⟨rfl, Same.refl _, fun j h => absurd h (Nat.not_lt_zero _)⟩, fun i ys H hi hl w => ⟨⟨xs, xs[i], w.2.1.seq hq, by simp [hi]⟩, fun x H' y => ?_⟩, fun ys H hl w => ⟨⟨xs, w.2.1.seq hq, Nat.le_refl _⟩, ?_⟩⟩
  · obtain ⟨rfl, sm, hp⟩ := w
    obtain ⟨e1, e2⟩ := y
    subst e1
    exact ht i x _ (e2 xs (sm.seq hq)) sm hp
  · obtain ⟨rfl, sm, hp⟩ := w
    exact hR H sm hp
theorem cut_one (xs : List V) : cutV xs (some 1) none = xs.drop 1 := by
  unfold cutV
  rw [show HT.sIx xs.length 0 (some 1) = min 1 xs.length from HT.sIx_nat xs.length 0 1, HT.sIx_none]
  cases xs with
  | nil => rfl
  | cons x r =>
    rw [show min 1 (x :: r).length = 1 by rw [List.length_cons]; omega]
    exact List.take_of_length_le (by simp)
end L2
namespace Rr
open PySem L2 RM ST PySem.NumText
theorem good_cut {l a c : List Nat} {p : Int} {row : List Int} (g : Good l p row) (h : ST.spl 58 l = [a, c]) : a = txt p ∧ c = rowT row := by
  rw [g.spl] at h
  injection h with h1 h2
  injection h2 with h2 _
  exact ⟨h1.symm, h2.symm⟩
theorem good_words {l a c w : List Nat} {ws : List (List Nat)} {p : Int} {row : List Int} (g : Good l p row) (h : ST.spl 58 l = [a, c]) (hw : ST.spl 32 c = w :: ws) : w = [] ∧ ws = row.map txt := by
  rw [(good_cut g h).2, g.words] at hw
  injection hw with h1 h2
  exact ⟨h1.symm, h2.symm⟩
theorem two_of {l : List Nat} (h : (ST.spl 58 l).length = 2) : ∃ a c, ST.spl 58 l = [a, c] := by
  match ST.spl 58 l, h with
  | [a, c], _ => exact ⟨a, c, rfl⟩
theorem spl_parts {c : Nat} {l w : List Nat} {ws : List (List Nat)} (h : ST.spl c l = w :: ws) : w.length ≤ l.length ∧ ∀ v ∈ ws, v.length ≤ l.length := by
  have e := spl_back h
  have h1 : w.length ≤ l.length := by
    rw [e, List.length_append]
    omega
  refine ⟨h1, fun v hv => ?_⟩
  rw [e, List.length_append]
  have : v.length ≤ (tl c ws).length := by
    unfold tl
    clear h e h1
    induction ws with
    | nil => cases hv
    | cons u us ih =>
      rw [List.flatMap_cons, List.length_append, List.length_cons]
      rcases List.mem_cons.mp hv with rfl | hv
      · omega
      · have := ih hv
        omega
  omega
theorem atS {ws : List (List Nat)} {i : Nat} {x : V} (h : (ws.map fun w => V.str (tx w))[i]? = some x) : ∃ w, ws[i]? = some w ∧ x = .str (tx w) := by
  rw [List.getElem?_map] at h
  cases e : ws[i]? with
  | none => rw [e] at h; cases h
  | some w =>
    rw [e] at h
    exact ⟨w, rfl, (Option.some.inj h).symm⟩
section
variable {P : Program} {w : World} {K : PySem.W.Frag} {mg : Str → Option Value} {base : Heap} {f g g2 g3 g4 : Addr} {fd gd gd2 gd3 gd4 : FuncData} {CT : Addr} {bm : List Value}
theorem scRead : FnScope ["text", "parts", "prime", "words", "row"] ["text"] (defScope sRead) := ⟨rfl, rfl, rfl, by decide +kernel, rfl, by decide +kernel, by decide +kernel⟩
theorem ok_read (D : Def K mg "read" sRead ["text"] f fd) (o : Own mg) (o6 : Own6 mg) (DN : Def K mg "number_of" sNum ["word"] g gd) (GN : FnOk P w K mg base (CX1 P w) 2 g gd ["word"] (spNumT CT))
    (DP : Def K mg "is_prime" sPrime ["value"] g2 gd2) (GP : FnOk P w K mg base CX0 2 g2 gd2 ["value"] spPrimeB) (DA : Def K mg "are_rests" sAre ["prime", "value"] g3 gd3) (GA : FnOk P w K mg base CX0 3 g3 gd3 ["prime", "value"] spAreB)
    (hc : XC K CT bm) (mT : mg "BadText" = some (.ref CT)) : FnOk P w K mg base (CX1 P w) 4 f fd ["text"] (spReadA CT) := by
  refine D.F.ok1 scRead (fun vs H Q E h => ?_) (fun cdv A outer s H vs Q E hr h => ?_)
  · rcases h with ⟨l, rfl, _⟩ | ⟨x, t, rfl, _⟩
    · rfl
    · rfl
  refine ⟨_, pss_cons (ps_if (pt_not (pt_val (pe_callB call_isi rfl o.isinstance boot_isi (pa_cons (pv 0) (pa_cons (pe_ty rfl o6.str boot_strT) pa_nil))))) (pss_one (ps_raise hc mT lands1 (pa_cons pe_str pa_nil))) pss_nil)
    (pss_cons (ps_set (i := 1) scRead.nd rfl (Or.inl rfl) (pe_bm PySem.F.plainAttrs_str PySem.F.slot_str_split PySem.F.type_str_split mt_split (pv 0) (pa_cons pe_str pa_nil)))
    (pss_cons (ps_if (pt_cmpR op_ne (plen o (pv 1)) pint (nomark _)) (pss_one (ps_raise hc mT lands1 (pa_cons pe_str pa_nil))) pss_nil)
    (pss_cons (ps_set (i := 2) scRead.nd rfl (Or.inl rfl) (pcallX DN GN hr pass1 (pa_cons (pe_ix ix_list (pv 1) pint (fun _ _ => rfl)) pa_nil)))
    (pss_cons (ps_set (i := 3) scRead.nd rfl (Or.inl rfl) (pe_bm PySem.F.plainAttrs_str PySem.F.slot_str_split PySem.F.type_str_split mt_split (pe_ix ix_list (pv 1) pint (fun _ _ => rfl)) (pa_cons pe_str pa_nil)))
    (pss_cons (ps_if (pt_cmpR op_ne (pe_ix ix_list (pv 3) pint (fun _ _ => rfl)) pe_str (nomark _)) (pss_one (ps_raise hc mT lands1 (pa_cons pe_str pa_nil))) pss_nil)
    (pss_cons (ps_setCX (i := 4) ["word"] [] rfl scRead.nd rfl rfl rfl rfl rfl landsOn1 (pi_list (pe_slice sl_list (pv 3) (po_some pint) po_none)) (fun cl C s₂ H₂ fp xe => pgn 0) (gk_name (by decide)) (fun cl C s₂ H₂ fp xe hx => pcallX DN GN hr hx (pa_cons (pv 0) pa_nil)))
    (pss_cons (ps_if (pw_or (pt_not (pt_val (pcall DP GP hr (pa_cons (pv 2) pa_nil)))) (pw_or1 (pt_not (pt_val (pcall DA GA hr (pa_cons (pv 2) (pa_cons (pv 4) pa_nil))))))).pt (pss_one (ps_raise hc mT lands1 (pa_cons pe_str pa_nil))) pss_nil)
    (pss_one (ps_ret (pe_tup (pa_cons (pv 2) (pa_cons (pv 4) pa_nil)))))))))))), ?_⟩
  rcases h with ⟨l, rfl, hL, q, qE⟩ | ⟨x, t, rfl, hn, qE⟩
  rotate_left
  · cases hn with
    | non => exact ⟨_, rfl, _, _, _, _, rfl, TyOf.non, kit_non_str _, false, rfl, iteT ⟨(by show 1 ≤ sizeLine; decide), qE⟩⟩
    | int i => exact ⟨_, rfl, _, _, _, _, rfl, TyOf.int i, kit_int_str _, false, rfl, iteT ⟨(by show 1 ≤ sizeLine; decide), qE⟩⟩
    | bl b => exact ⟨_, rfl, _, _, _, _, rfl, TyOf.bl b, kit_bool_str _, false, rfl, iteT ⟨(by show 1 ≤ sizeLine; decide), qE⟩⟩
    | lst e => exact ⟨_, rfl, _, _, _, _, rfl, TyOf.lst e, kit_list_str _, false, rfl, iteT ⟨(by show 1 ≤ sizeLine; decide), qE⟩⟩
  refine ⟨_, rfl, _, _, _, _, rfl, TyOf.str _, kit_str_str _, true, rfl, iteF ?_⟩
  have hL1 : l.length + 2 ≤ sizeLine := Nat.le_trans (Nat.add_le_add_right hL 2) (by decide)
  refine ⟨_, rfl, rfl, l, 58, rfl, congrArg (fun z => [V.str z]) lit_colon, by decide, hL1, fun pa npa => ?_⟩
  have s1 := same_new npa (.lst ((ST.spl 58 l).map fun w => V.str (tx w)))
  have h1 : (upd H pa (.lst ((ST.spl 58 l).map fun w => V.str (tx w)))) pa = some (.lst ((ST.spl 58 l).map fun w => V.str (tx w))) := upd_same
  generalize upd H pa (.lst ((ST.spl 58 l).map fun w => V.str (tx w))) = H1 at s1 h1 ⊢
  refine ⟨_, rfl, pa, _, rfl, .inl (SqL.of h1), rfl, _, rfl, ?_⟩
  rw [List.length_map]
  by_cases h2 : (ST.spl 58 l).length = 2
  rotate_left
  · refine iteYd (fun z => h2 (by injection z with z; omega)) ⟨(by show 1 ≤ sizeLine; decide), qE (fun ⟨p, row, gd⟩ => h2 (by rw [gd.spl]; rfl)) _ s1⟩
  refine iteNd (by rw [h2]; rfl) ?_
  obtain ⟨a, c, hs⟩ := two_of h2
  rw [hs] at h1
  have hlen := spl_parts hs
  have la : LenOk a := Nat.le_trans hlen.1 hL
  have lc : LenOk c := Nat.le_trans (hlen.2 c (by simp)) hL
  refine ⟨_, rfl, pa, _, _, _, rfl, rfl, SqL.of h1, (show atI _ ((0 : Nat) : Int) = some (.str (tx a)) from atI_nat rfl), a, rfl, la, fun ha H2 s2 => ?_, fun ha H2 s2 => ?_⟩
  rotate_left
  · refine qE (fun ⟨p, row, gd⟩ => ?_) _ (s1.trans s2)
    have := gd.num
    rw [← (good_cut gd hs).1, ha] at this
    cases this
  have lc1 : c.length + 2 ≤ sizeLine := Nat.le_trans (Nat.add_le_add_right lc 2) (by decide)
  refine ⟨_, rfl, _, _, _, _, rfl, rfl, SqL.of (s2 _ _ h1), (show atI _ ((1 : Nat) : Int) = some (.str (tx c)) from atI_nat rfl), rfl, c, 32, rfl, congrArg (fun z => [V.str z]) lit_blank, by decide, lc1, fun pw npw => ?_⟩
  have s3 := (s1.trans s2).trans (same_new npw (.lst ((ST.spl 32 c).map fun w => V.str (tx w))))
  have h3 : (upd H2 pw (.lst ((ST.spl 32 c).map fun w => V.str (tx w)))) pw = some (.lst ((ST.spl 32 c).map fun w => V.str (tx w))) := upd_same
  generalize upd H2 pw (.lst ((ST.spl 32 c).map fun w => V.str (tx w))) = H3 at s3 h3 ⊢
  obtain ⟨w0, ws, hw⟩ : ∃ w0 ws, ST.spl 32 c = w0 :: ws := by
    cases e : ST.spl 32 c with
    | nil => exact absurd e (spl_ne _ _)
    | cons w0 ws => exact ⟨w0, ws, rfl⟩
  rw [hw] at h3
  refine ⟨_, rfl, _, _, _, _, rfl, rfl, SqL.of h3, (show atI _ ((0 : Nat) : Int) = some (.str (tx w0)) from atI_nat rfl), rfl, _, rfl, ?_⟩
  by_cases h0 : w0 = []
  rotate_left
  · refine iteYd (fun z => h0 ?_) ⟨(by show 1 ≤ sizeLine; decide), qE (fun ⟨p, row, gd⟩ => h0 (good_words gd hs hw).1) _ s3⟩
    rw [lit_empty] at z
    have z' : V.str (tx w0) = V.str (tx []) := z
    injection z' with z'
    exact tx_inj z'
  subst h0
  refine iteNd (by rw [lit_empty]) ?_
  refine ⟨_, rfl, _, rfl, pw, _, rfl, SqL.of h3, fun sl nsl => ?_⟩
  rw [cut_one]
  have e4 : ((([] :: ws).map fun w => V.str (tx w)).drop 1) = ws.map fun w => V.str (tx w) := rfl
  rw [e4]
  have s4 := s3.trans (same_new nsl (.lst (ws.map fun w => V.str (tx w))))
  have h4 : (upd H3 sl (.lst (ws.map fun w => V.str (tx w)))) sl = some (.lst (ws.map fun w => V.str (tx w))) := upd_same
  generalize upd H3 sl (.lst (ws.map fun w => V.str (tx w))) = H4 at s4 h4 ⊢
  have lws : ∀ v ∈ ws, LenOk v := fun v hv => Nat.le_trans ((spl_parts hw).2 v hv) lc
  have lw : ws.length ≤ 100001 := by
    have := spl_len 32 c
    rw [hw, List.length_cons] at this
    have h : c.length ≤ 100000 := lc
    omega
  refine ⟨sl, rfl, ⟨_, SqL.of h4⟩, comp_listP (SqL.of h4) (fun i => V.int (val (ws.getD i []))) (fun i => isNum (ws.getD i []) = true) (by rw [List.length_map]; exact Nat.le_trans lw (by decide)) (fun i x H5 hx s5 hp => ?_) (fun H5 s5 hall r nr => ?_)⟩
  · obtain ⟨v, hv, rfl⟩ := atS hx
    have ev : ws.getD i [] = v := by
      rw [List.getD_eq_getElem?_getD, hv]
      rfl
    refine ⟨_, rfl, v, rfl, lws v (List.mem_of_getElem? hv), fun hn H6 s6 => ⟨snocF (by rw [ev]), s5.trans s6, fun j hj => ?_⟩, fun hn H6 s6 => ?_⟩
    · by_cases hji : j = i
      · rw [hji, ev]; exact hn
      · exact hp j (by omega)
    · refine qE (fun ⟨p, row, gd⟩ => ?_) _ ((s4.trans s5).trans s6)
      have := gd.nums v (by rw [← (good_words gd hs hw).2]; exact List.mem_of_getElem? hv)
      rw [hn] at this
      cases this
  rw [List.length_map] at hall ⊢
  have e5 : (List.range ws.length).map (fun i => V.int (val (ws.getD i []))) = (ws.map val).map V.int := by
    refine List.ext_getElem (by simp) fun i h1 h2 => ?_
    simp at h1
    simp [List.getD_eq_getElem?_getD, List.getElem?_eq_getElem h1]
  rw [e5]
  have hnum : ∀ v ∈ ws, isNum v = true := fun v hv => by
    obtain ⟨i, hi, e⟩ := List.getElem_of_mem hv
    have := hall i hi
    rw [List.getD_eq_getElem?_getD, List.getElem?_eq_getElem hi, Option.getD_some, e] at this
    exact this
  have s6 := (s4.trans s5).trans (same_new nr (.lst ((ws.map val).map V.int)))
  have h6 : Ls (upd H5 r (.lst ((ws.map val).map V.int))) r (ws.map val) := Ls.new rfl
  have fr := (s4.trans s5).free nr
  generalize upd H5 r (.lst ((ws.map val).map V.int)) = H6 at s6 h6 ⊢
  have back : ∀ p row, Good l p row → p = val a ∧ row = ws.map val := fun p row gd => by
    have e1 := (good_cut gd hs).1
    have e2 := (good_words gd hs hw).2
    rw [e1, e2, gd.vals, val_txt gd.prs.1]
    exact ⟨rfl, rfl⟩
  refine ⟨_, rfl, val a, rfl, fun hp => ⟨_, rfl, iteF ?_⟩, fun hp => ⟨_, rfl, iteT ⟨(by show 1 ≤ sizeLine; decide), qE (fun ⟨p, row, gd⟩ => hp ((back p row gd).1 ▸ gd.pr)) _ s6⟩⟩⟩
  refine ⟨_, rfl, _, rfl, val a, r, ws.map val, rfl, h6, _, rfl, ?_⟩
  cases eR : restsB (val a) (ws.map val) with
  | false =>
    refine iteT ⟨(by show 1 ≤ sizeLine; decide), qE (fun ⟨p, row, gd⟩ => ?_) _ s6⟩
    have := restsB_iff.mpr gd.rs
    rw [(back p row gd).1, (back p row gd).2, eR] at this
    cases this
  | true =>
    have hgood : Good l (val a) (ws.map val) := good_of (by have := spl_back hs; simpa [tl] using this) ha hw hnum hp (restsB_iff.mp eR)
    refine iteF ⟨_, rfl, _, rfl, (by show 2 ≤ sizeLine; decide), fun t nt => ?_⟩
    exact q _ _ hgood t r _ (s6.trans (same_new nt _)) (s6.free nt) fr upd_same (h6.same (same_new nt _))
end
end Rr

set_option Elab.async false
set_option linter.all false
set_option maxRecDepth 100000
set_option maxHeartbeats 1000000
namespace Rr
open PySem L2 RM ST PySem.NumText
theorem prime_no {p d : Int} (h1 : 2 ≤ d) (h2 : d < p) (h3 : p % d = 0) : ¬ PrimeOk p := fun hp => by
  have e : d * (p / d) = p := Int.mul_ediv_cancel' (Int.dvd_of_emod_eq_zero h3)
  by_cases hd : d * d ≤ p
  · exact hp.2.2 d h1 hd h3
  · have hp1 := hp.1
    have e0 : 0 < p / d := by
      refine Int.not_le.mp fun z => ?_
      have : d * (p / d) ≤ d * 0 := Int.mul_le_mul_of_nonneg_left z (by omega)
      omega
    have e1 : p / d ≠ 1 := fun z => by
      rw [z] at e
      omega
    have e2 : p / d < d := by
      refine Int.not_le.mp fun z => hd ?_
      have : d * d ≤ d * (p / d) := Int.mul_le_mul_of_nonneg_left z (by omega)
      omega
    refine hp.2.2 (p / d) (by omega) ?_ ?_
    · have : p / d * (p / d) ≤ d * (p / d) := Int.mul_le_mul_of_nonneg_right (by omega) (by omega)
      omega
    · exact Int.emod_eq_zero_of_dvd ⟨d, by rw [Int.mul_comm]; exact e.symm⟩
theorem prime_yes {p : Int} (h1 : 2 ≤ p) (h2 : p ≤ 997) (h : ∀ d, 2 ≤ d → d < p → p % d ≠ 0) : PrimeOk p := by
  refine ⟨h1, h2, fun d a b => h d a ?_⟩
  have : d * 2 ≤ d * d := Int.mul_le_mul_of_nonneg_left a (by omega)
  omega
theorem isNum_iff {c : Nat} {r : List Nat} : isNum (c :: r) = true ↔ (c :: r).length ≤ 3 ∧ (∀ x ∈ c :: r, 48 ≤ x ∧ x ≤ 57) ∧ ¬ (c = 48 ∧ r ≠ []) := by
  constructor
  · intro h
    obtain ⟨hd, _, h3, hz⟩ := isNum_digits h
    refine ⟨h3, hd, fun ⟨e, hr⟩ => hz ⟨?_, by rw [e]; rfl⟩⟩
    rw [List.length_cons]
    have := List.length_pos_iff.mpr hr
    omega
  · rintro ⟨h1, h2, h3⟩
    unfold isNum
    rw [decide_eq_true (show 0 < (c :: r).length from Nat.succ_pos _), decide_eq_true h1]
    have e1 : ((c :: r).all fun c => decide (48 ≤ c) && decide (c ≤ 57)) = true := List.all_eq_true.mpr fun x hx => by
      have := h2 x hx
      simp [this.1, this.2]
    rw [e1]
    have e2 : (decide (1 < (c :: r).length) && decide ((c :: r).head? = some 48)) = false := by
      rw [Bool.and_eq_false_iff, decide_eq_false_iff_not, decide_eq_false_iff_not]
      by_cases hc : c = 48
      · refine .inl fun z => h3 ⟨hc, fun e => ?_⟩
        rw [e] at z
        exact absurd z (Nat.lt_irrefl _)
      · exact .inr fun e => hc (by injection e)
    rw [e2]
    rfl
section
variable {P : Program} {w : World} {K : PySem.W.Frag} {mg : Str → Option Value} {base : Heap} {f g g2 g3 g4 : Addr} {fd gd gd2 gd3 gd4 : FuncData} {CT : Addr} {bm : List Value}
theorem scLNum : FnScope ["_law_text"] ["_law_text"] (defScope lNum) := ⟨rfl, rfl, rfl, by decide +kernel, rfl, by decide +kernel, by decide +kernel⟩
theorem ok_lnum (D : Def K mg "_law_number" lNum ["_law_text"] f fd) (o : Own mg) : FnOk P w K mg base CX0 1 f fd ["_law_text"] spLNum := by
  refine D.F.ok scLNum (fun vs H Q E h => ?_) (fun cdv A outer s H vs Q E hr h => ?_)
  · obtain ⟨i, rfl, _⟩ := h
    rfl
  obtain ⟨l, rfl, hL, q⟩ := h
  refine ⟨_, pss_cons (ps_if (pw_or (pt_cmpR op_eq (pv 0) pe_str (nomark _)) (pw_or (pt_cmpR op_gt (plenS o rfl (pv 0)) pint (nomark _)) (pw_or (pt_cmpR op_ne (pe_bm PySem.F.plainAttrs_str PySem.F.slot_str_strip PySem.F.type_str_strip mt_strip (pv 0) (pa_cons pe_str pa_nil)) pe_str (nomark _))
      (pw_or1 (pw_and (pt_cmpR op_eq (pe_ix ix_str (pv 0) pint (fun _ _ => rfl)) pe_str (nomark _)) (pw_and1 (pt_cmpR op_ne (pv 0) pe_str (nomark _)))).pt)))).pt (pss_one (ps_ret pe_non)) pss_nil)
    (pss_one (ps_ret (pe_callTy call_int_txt rfl o.int boot_intT (pa_cons (pv 0) pa_nil)))), ?_⟩
  have hz : l.length ≤ sizeLine := Nat.le_trans hL (by decide)
  have nope : isNum l = false → Q .non H := fun e => by
    rw [e] at q
    exact q
  refine ⟨_, rfl, rfl, _, rfl, ?_⟩
  cases l with
  | nil => exact iteTd (by rw [lit_empty]) (nope rfl)
  | cons c r =>
    refine iteFd (fun z => ?_) ?_
    · rw [lit_empty] at z
      have z' : V.str (tx (c :: r)) = V.str (tx []) := z
      injection z' with z'
      cases tx_inj z'
    refine ⟨_, rfl, tx (c :: r), rfl, hz, _, _, rfl, rfl, _, rfl, ?_⟩
    rw [tx_len]
    have no : ¬ ((c :: r).length ≤ 3 ∧ (∀ x ∈ c :: r, 48 ≤ x ∧ x ≤ 57) ∧ ¬ (c = 48 ∧ r ≠ [])) → Q .non H := fun h => nope (by
      cases e : isNum (c :: r) with
      | false => rfl
      | true => exact absurd (isNum_iff.mp e) h)
    by_cases h3 : 3 < (c :: r).length
    · exact iteTd (by omega) (no fun z => by have := z.1; omega)
    refine iteFd (by omega) ⟨_, rfl, rfl, c :: r, [48, 49, 50, 51, 52, 53, 54, 55, 56, 57], rfl, congrArg (fun z => [V.str z]) lit_figs, hz, fun z hzz => ⟨rfl, _, rfl, ?_⟩⟩
    by_cases hall : ∀ x ∈ c :: r, 48 ≤ x ∧ x ≤ 57
    rotate_left
    · refine iteYd (fun e => hall ?_) (no fun z => hall z.2.1)
      rw [lit_empty] at e
      have e' : V.str (tx z) = V.str (tx []) := e
      injection e' with e'
      exact fun x hx => (fig_iff x).mp (hzz.mp (tx_inj e') x hx)
    refine iteNd (by rw [lit_empty, hzz.mpr fun x hx => (fig_iff x).mpr (hall x hx)]) ?_
    refine ⟨_, rfl, tx (c :: r), _, c, rfl, rfl, hz, (show atI (c :: r) ((0 : Nat) : Int) = some c from atI_nat rfl), rfl, _, rfl, ?_⟩
    have last : ¬ (c = 48 ∧ r ≠ []) → Q (.int (val (c :: r))) H := fun h => by
      rw [isNum_iff.mpr ⟨by omega, hall, h⟩] at q
      exact q
    have hAD : AllDigits (c :: r) := hall
    by_cases hc : c = 48
    · refine iteTd (by rw [lit_nought, hc]; rfl) ⟨_, rfl, rfl, _, rfl, ?_⟩
      by_cases hr0 : r = []
      · refine iteNd (by rw [lit_nought, hc, hr0]) ?_
        exact ⟨_, rfl, c :: r, rfl, hAD, by simp, by omega, last fun z => z.2 hr0⟩
      · refine iteYd (fun e => hr0 ?_) (no fun z => z.2.2 ⟨hc, hr0⟩)
        rw [lit_nought] at e
        have e' : V.str (tx (c :: r)) = V.str (tx [48]) := e
        injection e' with e'
        have := tx_inj e'
        injection this
    · refine iteFd (fun e => hc ?_) ?_
      · rw [lit_nought] at e
        have e' : V.str (tx [c]) = V.str (tx [48]) := e
        injection e' with e'
        have := tx_inj e'
        injection this
      exact ⟨_, rfl, c :: r, rfl, hAD, by simp, by omega, last fun z => hc z.1⟩
theorem scLIn : FnScope ["_law_text", "_law_head", "_law_colon", "_law_rest", "_law_words", "_law_prime_here", "_law_row_here"] ["_law_text"] (defScope lIn) := ⟨rfl, rfl, rfl, by decide +kernel, rfl, by decide +kernel, by decide +kernel⟩
theorem ok_lin (D : Def K mg "_law_in" lIn ["_law_text"] f fd) (o : Own mg) (DN : Def K mg "_law_number" lNum ["_law_text"] g gd) (GN : FnOk P w K mg base CX0 1 g gd ["_law_text"] spLNum) : FnOk P w K mg base CX0 2 f fd ["_law_text"] spLIn := by
  refine D.F.ok scLIn (fun vs H Q E h => ?_) (fun cdv A outer s H vs Q E hr h => ?_)
  · obtain ⟨i, rfl, _⟩ := h
    rfl
  obtain ⟨l, rfl, hL, q, qE⟩ := h
  refine ⟨_, pss_cons (ps_asg (pe_bm PySem.F.plainAttrs_str PySem.F.slot_str_partition PySem.F.type_str_partition mt_part (pv 0) (pa_cons pe_str pa_nil)) (pg_tup rfl (pgs_cons (pgn 1) (pgs_cons (pgn 2) (pgs_cons (pgn 3) pgs_nil)))))
    (pss_cons (ps_set (i := 4) scLIn.nd rfl (Or.inl rfl) (pe_bm PySem.F.plainAttrs_str PySem.F.slot_str_split PySem.F.type_str_split mt_split (pv 3) (pa_cons pe_str pa_nil)))
    (pss_cons (ps_set (i := 5) scLIn.nd rfl (Or.inr rfl) (pcall DN GN hr (pa_cons (pv 1) pa_nil)))
    (pss_cons (ps_if (pw_or (pt_cmpR op_eq (pv 2) pe_str (nomark _)) (pw_or (pt_cmpR op_ne (pe_ix ix_list (pv 4) pint (fun _ _ => rfl)) pe_str (nomark _)) (pw_or (pt_cmp (pc_isN (pv 5))) (pw_or1 (pt_not (pt_chain op_le op_le pint (pv 5) pint)))))).pt (pss_one (ps_ret pe_non)) pss_nil)
    (pss_cons (ps_if (pt_val (pe_callB (call_any rfl) rfl o.any boot_anyB (pa_cons (pe_comp ["_law_at"] [5] rfl (pi_range2 rfl o.range (pa_cons pint (pa_cons (pv 5) pa_nil))) (fun cl C s₂ H₂ fp => pgn 0) (gk_name (by decide))
        (fun cl C s₂ H₂ fp => pe_cmpR op_eq (pe_op op_mod (pv 1) (pv 0)) pint (nomark _))) pa_nil))) (pss_one (ps_ret pe_non)) pss_nil)
    (pss_cons (ps_setC (i := 6) ["_law_word"] [] rfl scLIn.nd rfl rfl (pi_list (pe_slice sl_list (pv 4) (po_some pint) po_none)) (fun cl C s₂ H₂ fp => pgn 0) (gk_name (by decide)) (fun cl C s₂ H₂ fp => pcall DN GN hr (pa_cons (pv 0) pa_nil)))
    (pss_one (ps_ret (pe_ifExp (PW.pt (pw_or (pt_cmpR op_in_seq pe_non (pv 6) rfl) (pw_or1 (pt_cmpR op_ge (pe_callB (call_maxL rfl) rfl o.max boot_maxB (pa_cons (pe_op op_cat (pe_lst (pa_cons pint pa_nil)) (pv 6)) pa_nil)) (pv 5) (nomark _))))) pe_non (pe_tup (pa_cons (pv 5) (pa_cons (pv 6) pa_nil))))))))))), ?_⟩
  have hz : l.length ≤ sizeLine := Nat.le_trans hL (by decide)
  refine ⟨_, rfl, rfl, l, 58, rfl, congrArg (fun z => [V.str z]) lit_colon, hz, fun pa npa => ?_⟩
  obtain ⟨a, b, c, hpt⟩ : ∃ a b c, part 58 l = (a, b, c) := ⟨_, _, _, rfl⟩
  rw [hpt]
  have s1 := same_new npa (.tup [.str (tx a), .str (tx b), .str (tx c)])
  refine ⟨pa, _, rfl, SqT.of upd_same, rfl, _, _, rfl, _, _, rfl, _, _, rfl, rfl, ?_⟩
  generalize upd H pa (.tup [.str (tx a), .str (tx b), .str (tx c)]) = H1 at s1 ⊢
  have cutL : a.length ≤ l.length ∧ c.length ≤ l.length := by
    rcases part_cut 58 l 0 with ⟨_, h2⟩ | ⟨i, r, _, h2⟩
    · rw [hpt] at h2
      injection h2 with e1 e2
      injection e2 with e2 e3
      rw [e1, e3]
      exact ⟨Nat.le_refl _, Nat.zero_le _⟩
    · rw [hpt] at h2
      injection h2 with e1 e2
      injection e2 with e2 e3
      rw [e1, e3, List.length_take, List.length_drop]
      omega
  have la : LenOk a := Nat.le_trans cutL.1 hL
  have lc : LenOk c := Nat.le_trans cutL.2 hL
  have lc1 : c.length + 2 ≤ sizeLine := Nat.le_trans (Nat.add_le_add_right lc 2) (by decide)
  have gp : ∀ p row, Good l p row → a = txt p ∧ b = [58] ∧ c = rowT row := fun p row gd => by
    have := gd.part
    rw [hpt] at this
    injection this with e1 e2
    injection e2 with e2 e3
    exact ⟨e1, e2, e3⟩
  refine ⟨_, rfl, rfl, c, 32, rfl, congrArg (fun z => [V.str z]) lit_blank, by decide, lc1, fun pw npw => ?_⟩
  obtain ⟨w0, ws, hw⟩ : ∃ w0 ws, ST.spl 32 c = w0 :: ws := by
    cases e : ST.spl 32 c with
    | nil => exact absurd e (spl_ne _ _)
    | cons w0 ws => exact ⟨w0, ws, rfl⟩
  rw [hw]
  have s2 := s1.trans (same_new npw (.lst ((w0 :: ws).map fun w => V.str (tx w))))
  have h2 : (upd H1 pw (.lst ((w0 :: ws).map fun w => V.str (tx w)))) pw = some (.lst ((w0 :: ws).map fun w => V.str (tx w))) := upd_same
  generalize upd H1 pw (.lst ((w0 :: ws).map fun w => V.str (tx w))) = H2 at s2 h2 ⊢
  have gw : ∀ p row, Good l p row → w0 = [] ∧ ws = row.map txt := fun p row gd => by
    rw [(gp p row gd).2.2, gd.words] at hw
    injection hw with e1 e2
    exact ⟨e1.symm, e2.symm⟩
  refine ⟨_, rfl, a, rfl, la, ?_⟩
  refine ⟨_, rfl, rfl, _, rfl, ?_⟩
  by_cases hb : b = []
  · refine iteTd (by rw [hb, lit_empty]) (qE (fun ⟨p, row, gd⟩ => ?_) _ s2)
    rw [(gp p row gd).2.1] at hb
    cases hb
  refine iteFd (fun z => hb ?_) ?_
  · rw [lit_empty] at z
    have z' : V.str (tx b) = V.str (tx []) := z
    injection z' with z'
    exact tx_inj z'
  refine ⟨_, rfl, _, _, _, _, rfl, rfl, SqL.of h2, (show atI _ ((0 : Nat) : Int) = some (.str (tx w0)) from atI_nat rfl), rfl, _, rfl, ?_⟩
  by_cases h0 : w0 = []
  rotate_left
  · refine iteYd (fun z => h0 ?_) (qE (fun ⟨p, row, gd⟩ => h0 (gw p row gd).1) _ s2)
    rw [lit_empty] at z
    have z' : V.str (tx w0) = V.str (tx []) := z
    injection z' with z'
    exact tx_inj z'
  subst h0
  refine iteNd (by rw [lit_empty]) ⟨_, rfl, _, rfl, ?_⟩
  cases hn : isNum a with
  | false =>
    refine iteTd (by rfl) (qE (fun ⟨p, row, gd⟩ => ?_) _ s2)
    have := gd.num
    rw [← (gp p row gd).1, hn] at this
    cases this
  | true =>
  refine iteFd (fun z => by cases z) ?_
  have hv := val_rng hn
  have pv1 : ∀ p row, Good l p row → p = val a := fun p row gd => by
    rw [(gp p row gd).1, val_txt gd.prs.1]
  refine ⟨_, rfl, _, _, rfl, rfl, _, rfl, ?_⟩
  by_cases h2p : 2 ≤ val a
  rotate_left
  · exact iteFd h2p ⟨_, rfl, qE (fun ⟨p, row, gd⟩ => h2p (by rw [← pv1 p row gd]; exact gd.pr.1)) _ s2⟩
  refine iteTd h2p ⟨_, _, rfl, rfl, _, rfl, ?_⟩
  by_cases h9 : val a ≤ 997
  rotate_left
  · exact iteYd h9 (qE (fun ⟨p, row, gd⟩ => h9 (by rw [← pv1 p row gd]; exact gd.pr.2.1)) _ s2)
  refine iteNd h9 ?_
  refine ⟨_, rfl, _, _, rfl, ⟨by omega, by omega, by omega, by omega⟩, ?_⟩
  refine comp_range (fun i => V.bl (decide (val a % (2 + (i : Int)) = 0))) (small (by omega)) (fun i H3 hi s3 => ?_) (fun H3 s3 r nr => ?_)
  · refine ⟨_, rfl, _, rfl, _, _, rfl, rfl, (by show (0 : Int) < 2 + (i : Int); omega), rfl, snocF ?_, s3⟩
    congr 1
    rw [Bool.eq_iff_iff, decide_eq_true_eq, decide_eq_true_eq]
    exact ⟨fun z => by injection z, fun z => congrArg V.int z⟩
  refine ⟨r, (List.range (val a - 2).toNat).map (fun (i : Nat) => decide (val a % (2 + (i : Int)) = 0)), rfl, by rw [← mapBl]; exact SqL.of upd_same, _, rfl, ?_⟩
  have s4 := (s2.trans s3).trans (same_new nr (.lst ((List.range (val a - 2).toNat).map (fun (i : Nat) => V.bl (decide (val a % (2 + (i : Int)) = 0))))))
  have h4 := (s3.trans (same_new nr (.lst ((List.range (val a - 2).toNat).map (fun (i : Nat) => V.bl (decide (val a % (2 + (i : Int)) = 0))))))) _ _ h2
  generalize upd H3 r (.lst ((List.range (val a - 2).toNat).map (fun (i : Nat) => V.bl (decide (val a % (2 + (i : Int)) = 0))))) = H4 at s4 h4 ⊢
  cases han : ((List.range (val a - 2).toNat).map (fun (i : Nat) => decide (val a % (2 + (i : Int)) = 0))).any id with
  | true =>
    refine iteT (qE (fun ⟨p, row, gd⟩ => ?_) _ s4)
    obtain ⟨bb, hbb, hbt⟩ := List.any_eq_true.mp han
    obtain ⟨i, hi, rfl⟩ := List.mem_map.mp hbb
    have hi' := List.mem_range.mp hi
    refine prime_no (p := val a) (d := 2 + (i : Int)) (by omega) (by omega) (by simpa using hbt) ?_
    rw [← pv1 p row gd]
    exact gd.pr
  | false =>
  refine iteF ?_
  have hprime : PrimeOk (val a) := prime_yes h2p h9 fun d d1 d2 hd => by
    have hm : decide (val a % (2 + (((d - 2).toNat : Nat) : Int)) = 0) ∈ (List.range (val a - 2).toNat).map (fun (i : Nat) => decide (val a % (2 + (i : Int)) = 0)) := List.mem_map.mpr ⟨(d - 2).toNat, List.mem_range.mpr (by omega), rfl⟩
    have ht : decide (val a % (2 + (((d - 2).toNat : Nat) : Int)) = 0) = true := by
      rw [decide_eq_true_eq, show 2 + (((d - 2).toNat : Nat) : Int) = d by omega]
      exact hd
    rw [List.any_eq_true.mpr ⟨_, hm, ht⟩] at han
    cases han
  clear han
  refine ⟨_, rfl, _, rfl, pw, _, rfl, SqL.of h4, fun sl nsl => ?_⟩
  rw [cut_one]
  have e4 : ((([] :: ws).map fun w => V.str (tx w)).drop 1) = ws.map fun w => V.str (tx w) := rfl
  rw [e4]
  have s5 := s4.trans (same_new nsl (.lst (ws.map fun w => V.str (tx w))))
  have h5 : (upd H4 sl (.lst (ws.map fun w => V.str (tx w)))) sl = some (.lst (ws.map fun w => V.str (tx w))) := upd_same
  generalize upd H4 sl (.lst (ws.map fun w => V.str (tx w))) = H5 at s5 h5 ⊢
  have lws : ∀ v ∈ ws, LenOk v := fun v hv => Nat.le_trans ((spl_parts hw).2 v hv) lc
  have lw : ws.length ≤ 100001 := by
    have := spl_len 32 c
    rw [hw, List.length_cons] at this
    have h : c.length ≤ 100000 := lc
    omega
  refine ⟨sl, rfl, ⟨_, SqL.of h5⟩, comp_list (SqL.of h5) (fun i => if isNum (ws.getD i []) = true then V.int (val (ws.getD i [])) else V.non) (by rw [List.length_map]; exact Nat.le_trans lw (by decide)) (fun i x H6 hx s6 => ?_) (fun H6 s6 rr nrr => ?_)⟩
  · obtain ⟨v, hv, rfl⟩ := atS hx
    have ev : ws.getD i [] = v := by
      rw [List.getD_eq_getElem?_getD, hv]
      rfl
    exact ⟨_, rfl, v, rfl, lws v (List.mem_of_getElem? hv), snocF (by rw [ev]), s6⟩
  rw [List.length_map]
  have e5 : (List.range ws.length).map (fun i => if isNum (ws.getD i []) = true then V.int (val (ws.getD i [])) else V.non) = ws.map (fun v => if isNum v = true then V.int (val v) else V.non) := by
    refine List.ext_getElem (by simp) fun i h1 h2 => ?_
    simp at h1
    simp [List.getD_eq_getElem?_getD, List.getElem?_eq_getElem h1]
  rw [e5]
  have s7 := (s5.trans s6).trans (same_new nrr (.lst (ws.map (fun v => if isNum v = true then V.int (val v) else V.non))))
  have h7 : (upd H6 rr (.lst (ws.map (fun v => if isNum v = true then V.int (val v) else V.non)))) rr = some (.lst (ws.map (fun v => if isNum v = true then V.int (val v) else V.non))) := upd_same
  have fr := (s5.trans s6).free nrr
  generalize upd H6 rr (.lst (ws.map (fun v => if isNum v = true then V.int (val v) else V.non))) = H7 at s7 h7 ⊢
  have hflat : (ws.map (fun v => if isNum v = true then V.int (val v) else V.non)).all flatV = true := List.all_eq_true.mpr fun x hx => by
    obtain ⟨v, _, rfl⟩ := List.mem_map.mp hx
    split <;> rfl
  refine ⟨_, rfl, rr, _, rfl, .inl (SqL.of h7), rfl, hflat, _, rfl, ?_⟩
  have hin : inV .non (ws.map (fun v => if isNum v = true then V.int (val v) else V.non)) = true ↔ ∃ v ∈ ws, isNum v = false := by
    unfold inV
    rw [List.any_map, List.any_eq_true]
    constructor
    · rintro ⟨v, hv, he⟩
      refine ⟨v, hv, ?_⟩
      cases e : isNum v with
      | false => rfl
      | true =>
        simp [Function.comp, e, eqV] at he
    · rintro ⟨v, hv, he⟩
      exact ⟨v, hv, by simp [Function.comp, he, eqV]⟩
  by_cases hbad : ∃ v ∈ ws, isNum v = false
  · rw [show (if (false : Bool) = true then !inV V.non (ws.map (fun v => if isNum v = true then V.int (val v) else V.non)) else inV V.non (ws.map (fun v => if isNum v = true then V.int (val v) else V.non))) = true from hin.mpr hbad]
    refine iteT (qE (fun ⟨p, row, gd⟩ => ?_) _ s7)
    obtain ⟨v, hv, he⟩ := hbad
    have := gd.nums v (by rw [← (gw p row gd).2]; exact hv)
    rw [he] at this
    cases this
  have hnum : ∀ v ∈ ws, isNum v = true := fun v hv => by
    cases e : isNum v with
    | true => rfl
    | false => exact absurd ⟨v, hv, e⟩ hbad
  have hinF : inV .non (ws.map (fun v => if isNum v = true then V.int (val v) else V.non)) = false := by
    cases e : inV .non (ws.map (fun v => if isNum v = true then V.int (val v) else V.non)) with
    | false => rfl
    | true => exact absurd (hin.mp e) hbad
  rw [show (if (false : Bool) = true then !inV V.non (ws.map (fun v => if isNum v = true then V.int (val v) else V.non)) else inV V.non (ws.map (fun v => if isNum v = true then V.int (val v) else V.non))) = false from hinF]
  refine iteF ?_
  have e7 : ws.map (fun v => if isNum v = true then V.int (val v) else V.non) = (ws.map val).map V.int := by
    rw [List.map_map]
    refine List.map_congr_left fun v hv => ?_
    rw [if_pos (hnum v hv)]
    rfl
  rw [e7] at h7
  refine ⟨(by show 1 ≤ sizeLine; decide), fun zl nzl => ?_⟩
  have h8 : (upd H7 zl (.lst [.int 0])) rr = some (.lst ((ws.map val).map V.int)) := (same_new nzl _) _ _ h7
  refine ⟨_, rfl, zl, rr, _, _, rfl, rfl, upd_same, h8, ?_, fun ml nml => ?_⟩
  · rw [List.length_map, List.length_map, sizeLine_eq]
    show 1 + ws.length ≤ _
    omega
  have s9 := (s7.trans (same_new nzl (.lst [.int 0]))).trans (same_new nml (.lst ([.int 0] ++ (ws.map val).map V.int)))
  have h9 := (same_new nml (.lst ([.int 0] ++ (ws.map val).map V.int))) _ _ h8
  refine ⟨ml, 0 :: ws.map val, rfl, SqL.of upd_same, Nat.succ_pos _, fun M hM hall => ?_⟩
  refine ⟨_, rfl, _, _, rfl, rfl, _, rfl, ?_⟩
  have back : ∀ p row, Good l p row → p = val a ∧ row = ws.map val := fun p row gd => ⟨pv1 p row gd, by rw [(gw p row gd).2, gd.vals]⟩
  by_cases hge : val a ≤ M
  · refine iteTd hge (qE (fun ⟨p, row, gd⟩ => ?_) _ s9)
    have hr := gd.rs
    rw [(back p row gd).1, (back p row gd).2] at hr
    rcases List.mem_cons.mp hM with e | hM
    · omega
    · have := hr M hM
      omega
  refine iteFd hge ⟨_, rfl, _, rfl, (by show 2 ≤ sizeLine; decide), fun t nt => ?_⟩
  have hrests : Rests (val a) (ws.map val) := fun n hn' => by
    have := hall n (List.mem_cons_of_mem _ hn')
    obtain ⟨v, hv, rfl⟩ := List.mem_map.mp hn'
    have := val_rng (hnum v hv)
    omega
  have hbn : (part 58 l).2.1 ≠ [] := by rw [hpt]; exact hb
  have hl : l = a ++ 58 :: c := by
    have := part_back hbn
    rw [hpt] at this
    exact this
  have hgood : Good l (val a) (ws.map val) := good_of hl hn hw hnum hprime hrests
  have h10 : Ls _ rr (ws.map val) := h9
  exact q _ _ hgood t rr _ (s9.trans (same_new nt _)) (s9.free nt) fr upd_same (h10.same (same_new nt _))
end
end Rr

set_option Elab.async false
set_option linter.all false
set_option maxRecDepth 100000
set_option maxHeartbeats 1000000
namespace L2
open PySem PySem.Spec PyProof.Rows
theorem passF {X : Cx} {P : Program} {w : World} : Passes (CX1 P w) X E0 := by
  intro pins σ H s e s' I h
  obtain ⟨_, _, _, _, _, _, _, _, _, q⟩ := h
  exact q.elim
end L2
namespace Rr
open PySem L2 RM ST PySem.NumText
theorem boot_VE : bootBuiltins "ValueError" = some (.type "ValueError") := by decide +kernel
/-- the program's refusals, as the law asks of them -/
structure Errs (K : PySem.W.Frag) (mg : Str → Option Value) (cR cP cW cU cL cF cN cT : Addr) (bm : List Value) : Prop where
  mR : mg "RuleError" = some (.ref cR)
  mP : mg "BadPrime" = some (.ref cP)
  mW : mg "BadRow" = some (.ref cW)
  mU : mg "BadRule" = some (.ref cU)
  mL : mg "BadPlace" = some (.ref cL)
  mF : mg "TooFew" = some (.ref cF)
  mN : mg "NoWay" = some (.ref cN)
  mT : mg "BadText" = some (.ref cT)
  mV : mg "ValueError" = none
  xc : XC K cT bm
  xi : XI K cT
  exm : PySem.W.exmOne K (.ref cT) (.ref cR) = some true
  kT : PySem.W.kitOne K (.ref cT) (.ref cT) = some true
  kV : PySem.W.kitOne K (.ref cT) (.type "ValueError") = some true
  kP : PySem.W.kitOne K (.ref cT) (.ref cP) = some false
  kW : PySem.W.kitOne K (.ref cT) (.ref cW) = some false
  kU : PySem.W.kitOne K (.ref cT) (.ref cU) = some false
  kL : PySem.W.kitOne K (.ref cT) (.ref cL) = some false
  kF : PySem.W.kitOne K (.ref cT) (.ref cF) = some false
  kN : PySem.W.kitOne K (.ref cT) (.ref cN) = some false
section
variable {P : Program} {w : World} {K : PySem.W.Frag} {mg : Str → Option Value} {base : Heap} {f g g2 g3 g4 cR cP cW cU cL cF cN cT : Addr} {fd gd gd2 gd3 gd4 : FuncData} {bm : List Value}
theorem scLRef : FnScope ["_law_text", "error", "_law_others"] ["_law_text"] (defScope lRefused) := ⟨rfl, rfl, rfl, by decide +kernel, rfl, by decide +kernel, by decide +kernel⟩
theorem ok_lref (D : Def K mg "_law_refused" lRefused ["_law_text"] f fd) (o : Own mg) (e : Errs K mg cR cP cW cU cL cF cN cT bm) (DR : Def K mg "read" sRead ["text"] g gd) (GR : FnOk P w K mg base (CX1 P w) 4 g gd ["text"] (spReadA cT)) :
    FnOk P w K mg base CX0 5 f fd ["_law_text"] spLRef := by
  refine D.F.ok scLRef (fun vs H Q E h => ?_) (fun cdv A outer s H vs Q E hr h => ?_)
  · rcases h with ⟨l, rfl, _⟩ | ⟨x, t, rfl, _⟩
    · rfl
    · rfl
  refine ⟨_, pss_cons (ps_tryAs (i := 1) rfl rfl rfl scLRef.nd rfl rfl e.mR (fun pins E ok => pss_one (ps_expr (pe_callS ok rfl GR hr DR.m DR.F.kp DR.b (pa_cons (pv 0) pa_nil))))
    (fun pins ea => pss_cons (ps_set (i := 2) scLRef.nd rfl (Or.inl rfl) (pe_lst (pa_cons (pe_callB (isiXK (K := K) rfl) rfl o.isinstance boot_isi (pa_cons (pv 1) (pa_cons (pe_glob (v := .ref cL) (by rfl) e.mL rfl) pa_nil)))
      (pa_cons (pe_callB (isiXK (K := K) rfl) rfl o.isinstance boot_isi (pa_cons (pv 1) (pa_cons (pe_glob (v := .ref cP) (by rfl) e.mP rfl) pa_nil))) (pa_cons (pe_callB (isiXK (K := K) rfl) rfl o.isinstance boot_isi (pa_cons (pv 1) (pa_cons (pe_glob (v := .ref cW) (by rfl) e.mW rfl) pa_nil))) pa_nil)))))
    (pss_cons (ps_set (i := 2) scLRef.nd rfl (Or.inl rfl) (pe_op op_cat (pv 2) (pe_lst (pa_cons (pe_callB (isiXK (K := K) rfl) rfl o.isinstance boot_isi (pa_cons (pv 1) (pa_cons (pe_glob (v := .ref cU) (by rfl) e.mU rfl) pa_nil)))
      (pa_cons (pe_callB (isiXK (K := K) rfl) rfl o.isinstance boot_isi (pa_cons (pv 1) (pa_cons (pe_glob (v := .ref cN) (by rfl) e.mN rfl) pa_nil))) (pa_cons (pe_callB (isiXK (K := K) rfl) rfl o.isinstance boot_isi (pa_cons (pv 1) (pa_cons (pe_glob (v := .ref cF) (by rfl) e.mF rfl) pa_nil))) pa_nil))))))
    (pss_one (ps_ret (pe_and (pe_callB (isiXK (K := K) rfl) rfl o.isinstance boot_isi (pa_cons (pv 1) (pa_cons (pe_glob (v := .ref cT) (by rfl) e.mT rfl) pa_nil)))
      (pe_and (pe_callB (isiXK (K := K) rfl) rfl o.isinstance boot_isi (pa_cons (pv 1) (pa_cons (pe_ty rfl e.mV boot_VE) pa_nil))) (pe_one (pe_not (pe_callB (anyHK (K := K) (ea := ea) rfl rfl) rfl o.any boot_anyB (pa_cons (pv 2) pa_nil)))))))))))
    (pss_one (ps_ret pe_bl)), ?_⟩
  obtain ⟨x, rfl, q, hsp⟩ : ∃ x, vs = [x] ∧ (∀ H', Same H H' → Q (.bl true) H') ∧ ∀ (Q' : VK) (E' : XK), (∀ H0, Same H H0 → E' (.ref cT) none H0) → spReadA cT [x] H Q' E' := by
    rcases h with ⟨l, rfl, hL, hno, q⟩ | ⟨x, t, rfl, hn, q⟩
    · exact ⟨_, rfl, q, fun Q' E' h => .inl ⟨l, rfl, hL, fun p row gd => absurd ⟨p, row, gd⟩ hno, fun _ => h⟩⟩
    · exact ⟨_, rfl, q, fun Q' E' h => .inr ⟨x, t, rfl, hn, h H (Same.refl _)⟩⟩
  refine ⟨_, rfl, hsp _ _ fun H0 s0 => ⟨e.exm, fun ea nea => ?_⟩⟩
  have hx : (upd H0 ea (.ext (excIs ea (.ref cT)))) ea = some (.ext (excIs ea (.ref cT))) := upd_same
  have s1 := s0.trans (same_new nea (.ext (excIs ea (.ref cT))))
  generalize upd H0 ea (.ext (excIs ea (.ref cT))) = H1 at hx s1 ⊢
  refine ⟨_, rfl, ea, cT, bm, _, _, _, rfl, .own _, hx, e.xc, e.xi, e.kL, ?_⟩
  refine ⟨_, rfl, ea, cT, bm, _, _, _, rfl, .own _, hx, e.xc, e.xi, e.kP, ?_⟩
  refine ⟨_, rfl, ea, cT, bm, _, _, _, rfl, .own _, hx, e.xc, e.xi, e.kW, (by show 3 ≤ sizeLine; decide), fun l nl => ?_⟩
  have s2 := same_new nl (.lst [.bl false, .bl false, .bl false])
  have hl2 : (upd H1 l (.lst [.bl false, .bl false, .bl false])) l = some (.lst [.bl false, .bl false, .bl false]) := upd_same
  have hx2 := s2 _ _ hx
  have t2 := s1.trans s2
  generalize upd H1 l (.lst [.bl false, .bl false, .bl false]) = H2 at hx2 t2 hl2 ⊢
  refine ⟨_, rfl, ?_⟩
  refine ⟨_, rfl, ea, cT, bm, _, _, _, rfl, .own _, hx2, e.xc, e.xi, e.kU, ?_⟩
  refine ⟨_, rfl, ea, cT, bm, _, _, _, rfl, .own _, hx2, e.xc, e.xi, e.kN, ?_⟩
  refine ⟨_, rfl, ea, cT, bm, _, _, _, rfl, .own _, hx2, e.xc, e.xi, e.kF, (by show 3 ≤ sizeLine; decide), fun l2 nl2 => ?_⟩
  have s3 := same_new nl2 (.lst [.bl false, .bl false, .bl false])
  refine ⟨l, l2, _, _, rfl, rfl, s3 _ _ hl2, upd_same, (by show 6 ≤ sizeLine; decide), fun l3 nl3 => ?_⟩
  have s4 := same_new nl3 (.lst ([.bl false, .bl false, .bl false] ++ [.bl false, .bl false, .bl false]))
  have hx4 := s4 _ _ (s3 _ _ hx2)
  have t4 := (t2.trans s3).trans s4
  refine ⟨_, rfl, ea, cT, bm, _, _, _, rfl, .own _, hx4, e.xc, e.xi, e.kT, true, rfl, iteT ?_⟩
  refine ⟨_, rfl, ea, cT, bm, _, _, _, rfl, .ty _, hx4, e.xc, e.xi, e.kV, true, rfl, iteT ?_⟩
  refine ⟨_, rfl, l3, [false, false, false, false, false, false], .ref cT, rfl, SqL.of upd_same, hx4, _, rfl, ?_⟩
  exact q _ t4
end
end Rr

set_option Elab.async false
set_option linter.all false
set_option maxRecDepth 100000
set_option maxHeartbeats 1000000
namespace Rr
open PySem L2 RM ST PySem.NumText
theorem tl_len (c : Nat) : ∀ ws : List (List Nat), ws.length ≤ (tl c ws).length
  | [] => Nat.le_refl _
  | w :: ws => by
    have ih := tl_len c ws
    have e : tl c (w :: ws) = c :: w ++ tl c ws := rfl
    rw [e, List.length_append, List.length_cons, List.length_cons]
    omega
theorem Good.len {l : List Nat} {p : Int} {row : List Int} (g : Good l p row) : row.length ≤ l.length := by
  have h := tl_len 32 (row.map txt)
  rw [List.length_map] at h
  rw [g.e]
  unfold wr rowT
  rw [List.length_append, List.length_cons]
  omega
section
variable {P : Program} {w : World} {K : PySem.W.Frag} {mg : Str → Option Value} {base : Heap} {f g g2 g3 g4 cT : Addr} {fd gd gd2 gd3 gd4 : FuncData} {bm : List Value}
theorem scLRight : FnScope ["_law_text", "_law_due_here", "_law_found"] ["_law_text"] (defScope lRight) := ⟨rfl, rfl, rfl, by decide +kernel, rfl, by decide +kernel, by decide +kernel⟩
theorem ok_lright (D : Def K mg "_law_right" lRight ["_law_text"] f fd) (o : Own mg) (o6 : Own6 mg) (DI : Def K mg "_law_in" lIn ["_law_text"] g gd) (GI : FnOk P w K mg base CX0 2 g gd ["_law_text"] spLIn)
    (DF : Def K mg "_law_refused" lRefused ["_law_text"] g2 gd2) (GF : FnOk P w K mg base CX0 5 g2 gd2 ["_law_text"] spLRef) (DR : Def K mg "read" sRead ["text"] g3 gd3) (GR : FnOk P w K mg base (CX1 P w) 4 g3 gd3 ["text"] (spReadA cT))
    (DW : Def K mg "written" sWritten ["prime", "row"] g4 gd4) (GW : FnOk P w K mg base CX0 5 g4 gd4 ["prime", "row"] spWritten) : FnOk P w K mg base CX0 6 f fd ["_law_text"] spLRight := by
  refine D.F.ok scLRight (fun vs H Q E h => ?_) (fun cdv A outer s H vs Q E hr h => ?_)
  · obtain ⟨i, rfl, _⟩ := h
    rfl
  obtain ⟨l, rfl, hL, q⟩ := h
  have hu := hr.units
  refine ⟨_, pss_cons (ps_set (i := 1) scLRight.nd rfl (Or.inl rfl) (pcall DI GI hr (pa_cons (pv 0) pa_nil)))
    (pss_cons (ps_if (pt_cmp (pc_isN (pv 1))) (pss_one (ps_ret (pcall DF GF hr (pa_cons (pv 0) pa_nil)))) pss_nil)
    (pss_cons (ps_set (i := 2) scLRight.nd rfl (Or.inl rfl) (pcallX DR GR hr passF (pa_cons (pv 0) pa_nil)))
    (pss_cons (ps_if (PW.pt (pw_or (pt_not (pt_val (pe_callB call_isi rfl o.isinstance boot_isi (pa_cons (pv 2) (pa_cons (pe_ty rfl o6.tuple boot_tupT) pa_nil))))) (pw_or (pt_cmpR (op_nePair hu) (pv 2) (pv 1) (nomark _))
      (pw_or1 (pt_cmpR op_ne (pcall DW GW hr (pa_cons (pe_ix ix_tup (pv 2) pint (fun _ _ => rfl)) (pa_cons (pe_ix ix_tup (pv 2) pint (fun _ _ => rfl)) pa_nil))) (pv 0) (nomark _)))))) (pss_one (ps_ret pe_bl)) pss_nil)
    (pss_cons (ps_expr (pe_bm PySem.F.plainAttrs_list PySem.F.slot_list_append PySem.F.type_list_append mt_append (pe_ix ix_tup (pv 2) pint (fun _ _ => rfl)) (pa_cons pint pa_nil)))
    (pss_one (ps_ret (pe_cmpR (op_eqPair hu) (pcallX DR GR hr passF (pa_cons (pv 0) pa_nil)) (pv 1) (nomark _)))))))), ?_⟩
  refine ⟨_, rfl, l, rfl, hL, fun p row gd r a H1 s1 nr na hr1 ha1 => ?_, fun hno H1 s1 => ⟨_, rfl, _, rfl, iteTd rfl ⟨_, rfl, .inl ⟨l, rfl, hL, hno, fun H2 s2 => q _ (s1.trans s2)⟩⟩⟩⟩
  refine ⟨_, rfl, _, rfl, iteFd (fun z => by cases z) ?_⟩
  refine ⟨_, rfl, .inl ⟨l, rfl, hL, fun p2 row2 gd2 r2 a2 H2 s2 nr2 na2 hr2 ha2 => ?_, fun hno => absurd ⟨p, row, gd⟩ hno⟩⟩
  obtain ⟨rfl, rfl⟩ := gd.uniq gd2
  have hl := gd.len
  have e1 : (!(decide (p = p) && decide (row = row))) = false := by simp
  have e2 : (decide (p = p) && decide (row = row)) = true := by simp
  refine ⟨_, rfl, _, _, _, _, rfl, TyOf.tup hr2, kit_tup_tup _, true, rfl, iteF ?_⟩
  refine ⟨_, rfl, _, rfl, r2, r, p, p, row, row, rfl, rfl, ⟨a2, SqT.of hr2, ha2.sq⟩, ⟨a, SqT.of (s2 _ _ hr1), (ha1.same s2).sq⟩, _, rfl, ?_⟩
  rw [e1]
  refine iteF ⟨_, rfl, r2, _, _, _, rfl, rfl, SqT.of hr2, (show atI _ ((0 : Nat) : Int) = some (.int p) from atI_nat rfl), _, rfl, r2, _, _, _, rfl, rfl, SqT.of hr2, (show atI _ ((1 : Nat) : Int) = some (.ref a2) from atI_nat rfl), p, a2, row, rfl, ha2, gd.pr, gd.rs, Nat.le_trans hl hL, fun H3 s3 => ?_⟩
  refine ⟨_, rfl, rfl, _, rfl, iteNd (by rw [← gd.e]) ?_⟩
  have ha3 := ha2.same s3
  refine ⟨_, rfl, r2, _, _, _, rfl, rfl, SqT.of (s3 _ _ hr2), (show atI _ ((1 : Nat) : Int) = some (.ref a2) from atI_nat rfl), .inl ⟨rfl, _, ha3.sq⟩, a2, _, _, rfl, rfl, ha3, ?_, ?_⟩
  · rw [List.length_map, sizeLine_eq]
    have : l.length ≤ 100000 := hL
    omega
  have n1 : r ≠ a2 := fun z => by rw [z, na2] at hr1; cases hr1
  have n2 : a ≠ a2 := fun z => by
    have ha1' : H1 a = _ := ha1
    rw [z, na2] at ha1'
    cases ha1'
  have s4 : Same H (upd H3 a2 (.lst (row.map V.int ++ [.int 0]))) := sput ((s1.trans s2).trans s3) (s1.free na2)
  have hr4 : (upd H3 a2 (.lst (row.map V.int ++ [.int 0]))) r = some (.tup [.int p, .ref a]) := by
    rw [upd_ne n1]
    exact s3 _ _ (s2 _ _ hr1)
  have ha4 : Ls (upd H3 a2 (.lst (row.map V.int ++ [.int 0]))) a row := by
    unfold Ls
    rw [upd_ne n2]
    exact s3 _ _ (s2 _ _ ha1)
  generalize upd H3 a2 (.lst (row.map V.int ++ [.int 0])) = H4 at s4 hr4 ha4 ⊢
  refine ⟨_, rfl, .inl ⟨l, rfl, hL, fun p3 row3 gd3 r3 a3 H5 s5 nr3 na3 hr3 ha5 => ?_, fun hno => absurd ⟨p, row, gd⟩ hno⟩⟩
  obtain ⟨rfl, rfl⟩ := gd.uniq gd3
  refine ⟨_, rfl, r3, r, p, p, row, row, rfl, rfl, ⟨a3, SqT.of hr3, ha5.sq⟩, ⟨a, SqT.of (s5 _ _ hr4), (ha4.same s5).sq⟩, ?_⟩
  rw [e2]
  exact q _ (s4.trans s5)
end
end Rr

set_option Elab.async false
set_option linter.all false
set_option maxRecDepth 100000
set_option maxHeartbeats 1000000
namespace Rr
open PySem L2 RM ST PySem.NumText
/-- a written text -/
def constS : Expr → Option Str
  | .Constant (.str x) _ _ => some x
  | _ => none
theorem ns_some {i : Str} (h : (none : Option Str) = some i) : False := by cases h
theorem constS_inv {e : Expr} {x : Str} (h : constS e = some x) : ∃ j pos, e = .Constant (.str x) j pos := by
  cases e with
  | Constant c j pos =>
    cases c with
    | str k =>
      have e : k = x := Option.some.inj h
      rw [e]
      exact ⟨j, pos, rfl⟩
    | _ => exact (ns_some h).elim
  | _ => exact (ns_some h).elim
def shortS (o : Option Str) : Bool :=
  match o with
  | some x => decide (x.length ≤ 100)
  | none => false
/-- some texts, each short enough -/
def Txs (xs : List V) (n : Nat) : Prop := ∃ ts : List (List Nat), xs = ts.map (fun t => V.str (tx t)) ∧ (∀ t ∈ ts, LenOk t) ∧ ts.length = n
theorem Txs.nil : Txs [] 0 := ⟨[], rfl, fun _ h => absurd h List.not_mem_nil, rfl⟩
theorem Txs.app {xs ys : List V} {n m : Nat} (h : Txs xs n) (k : Txs ys m) : Txs (xs ++ ys) (n + m) := by
  obtain ⟨ts, rfl, h1, rfl⟩ := h
  obtain ⟨us, rfl, k1, rfl⟩ := k
  exact ⟨ts ++ us, by rw [List.map_append], fun t ht => (List.mem_append.mp ht).elim (h1 t) (k1 t), by rw [List.length_append]⟩
theorem Txs.str {x : Str} (h : x.length ≤ 100000) : Txs [.str x] 1 := ⟨[x.cps.toList], by rw [List.map_cons, tx_cps]; rfl, fun u hu => by rw [List.mem_singleton.mp hu]; exact h, rfl⟩
theorem Txs.len {xs : List V} {n : Nat} (h : Txs xs n) : xs.length = n := by
  obtain ⟨ts, rfl, _, rfl⟩ := h
  rw [List.length_map]
theorem pa_strs {X : Cx} : ∀ {es : List Expr}, (es.all fun e => shortS (constS e)) = true → PA X es (fun _ H Q => ∀ xs, Txs xs es.length → Q xs H)
  | [], _ => fun pos pins s σ H Q I h => pa_nil pos pins s σ H Q I (h [] .nil)
  | e :: es, h => by
    rw [List.all_cons, Bool.and_eq_true] at h
    cases hc : constS e with
    | none =>
      rw [hc] at h
      exact absurd h.1 Bool.false_ne_true
    | some x =>
      rw [hc] at h
      have hl : x.length ≤ 100 := of_decide_eq_true h.1
      obtain ⟨j, pos, rfl⟩ := constS_inv hc
      have h2 := pa_cons (pe_str (X := X) (x := x) (j := j) (pos := pos)) (pa_strs (X := X) h.2)
      exact fun pos pins s σ H Q I q => h2 pos pins s σ H Q I fun xs hx => q _ (by
        have := (Txs.str (x := x) (by omega)).app hx
        rw [Nat.add_comm] at this
        exact this)
theorem pe_strs {X : Cx} {es : List Expr} {pos : Pos} (n : Nat) (h : (es.all fun e => shortS (constS e)) = true) (hl : es.length = n) (hn : n ≤ 100 := by decide) :
    PE X (.List es pos) (fun _ H Q => ∀ p xs, H p = none → Txs xs n → Q (.ref p) (upd H p (.lst xs))) :=
  fun pins s σ H Q I q => pe_lst (pa_strs h) pins s σ H Q I fun xs hx => ⟨by rw [hx.len, sizeLine_eq]; omega, fun p np => q p xs np (hl ▸ hx)⟩
/-- the written texts of a statement -/
def lstOf : Stmt → List Expr
  | .Assign _ (.List es _) _ => es
  | .Assign _ (.BinOp _ _ (.List es _) _) _ => es
  | _ => []
abbrev fs (i : Nat) : Stmt := (defBody lFew).getD i (.Pass ⟨0, 0, 0, 0⟩)
theorem few_body : ∃ a0 a1 a2 b0 b1 b2 b3 b4 c0 c1 c2 c3 c4 d0 d1 d2 d3 d4 s1 s5, (defBody lFew = [.Assign [.Name "_law_some" a0] (.List (lstOf (fs 0)) a1) a2, s1,
    .Assign [.Name "_law_some" b0] (.BinOp (.Name "_law_some" b1) .Add (.List (lstOf (fs 2)) b2) b3) b4,
    .Assign [.Name "_law_some" c0] (.BinOp (.Name "_law_some" c1) .Add (.List (lstOf (fs 3)) c2) c3) c4,
    .Assign [.Name "_law_some" d0] (.BinOp (.Name "_law_some" d1) .Add (.List (lstOf (fs 4)) d2) d3) d4, s5]) ∧ s1 = fs 1 ∧ s5 = fs 5 := ⟨_, _, _, _, _, _, _, _, _, _, _, _, _, _, _, _, _, _, _, _, rfl, rfl, rfl⟩
theorem few_0 : ((lstOf (fs 0)).all fun e => shortS (constS e)) = true := by kernel_rfl
theorem few_2 : ((lstOf (fs 2)).all fun e => shortS (constS e)) = true := by kernel_rfl
theorem few_3 : ((lstOf (fs 3)).all fun e => shortS (constS e)) = true := by kernel_rfl
theorem few_4 : ((lstOf (fs 4)).all fun e => shortS (constS e)) = true := by kernel_rfl
theorem few_0n : (lstOf (fs 0)).length = 14 := by kernel_rfl
theorem few_2n : (lstOf (fs 2)).length = 10 := by kernel_rfl
theorem few_3n : (lstOf (fs 3)).length = 10 := by kernel_rfl
theorem few_4n : (lstOf (fs 4)).length = 2 := by kernel_rfl
theorem lit_nine : ("9" : Str) = tx [57] := by decide
theorem lit_four : ("4" : Str) = tx [52] := by decide
section
variable {P : Program} {w : World} {K : PySem.W.Frag} {mg : Str → Option Value} {base : Heap} {f : Addr} {fd : FuncData}
theorem scFew : FnScope ["_law_some"] [] (defScope lFew) := ⟨rfl, rfl, rfl, by decide +kernel, rfl, by decide +kernel, by decide +kernel⟩
theorem ok_lfew (D : Def K mg "_law_few" lFew [] f fd) : FnOk P w K mg base CX0 1 f fd [] spLFew := by
  refine D.F.ok scFew (fun vs H Q E h => ?_) (fun cdv A outer s H vs Q E hr h => ?_)
  · obtain ⟨rfl, _⟩ := h
    rfl
  obtain ⟨rfl, q⟩ := h
  obtain ⟨a0, a1, a2, b0, b1, b2, b3, b4, c0, c1, c2, c3, c4, d0, d1, d2, d3, d4, s1, s5, eb, e1, e5⟩ := few_body
  have h0 := few_0
  have h2 := few_2
  have h3 := few_3
  have h4 := few_4
  have n0 := few_0n
  have n2 := few_2n
  have n3 := few_3n
  have n4 := few_4n
  rw [eb]
  clear eb
  generalize lstOf (fs 0) = l0 at h0 n0 ⊢
  generalize lstOf (fs 2) = l2 at h2 n2 ⊢
  generalize lstOf (fs 3) = l3 at h3 n3 ⊢
  generalize lstOf (fs 4) = l4 at h4 n4 ⊢
  subst e1 e5
  refine ⟨_, pss_cons (ps_set (i := 0) scFew.nd rfl (Or.inl rfl) (pe_strs 14 h0 n0))
    (pss_cons (ps_expr (pe_bm PySem.F.plainAttrs_list PySem.F.slot_list_append PySem.F.type_list_append mt_append (pv 0) (pa_cons pe_str pa_nil)))
    (pss_cons (ps_set (i := 0) scFew.nd rfl (Or.inl rfl) (pe_op op_cat (pv 0) (pe_strs 10 h2 n2)))
    (pss_cons (ps_set (i := 0) scFew.nd rfl (Or.inl rfl) (pe_op op_cat (pv 0) (pe_strs 10 h3 n3)))
    (pss_cons (ps_set (i := 0) scFew.nd rfl (Or.inl rfl) (pe_op op_cat (pv 0) (pe_strs 2 h4 n4)))
    (pss_one (ps_ret (pe_op op_cat (pv 0) (pe_lst (pa_cons pe_str (pa_cons (pe_op op_add_str (pe_op op_mul_str pe_str pint) pe_str) (pa_cons (pe_op op_add_str pe_str (pe_op op_mul_str pe_str pint)) pa_nil)))))))))))
    , fun p xs np hx => ?_⟩
  have s1 := same_new np (.lst xs)
  have k1 : (upd H p (.lst xs)) p = some (.lst xs) := upd_same
  generalize upd H p (.lst xs) = H1 at s1 k1 ⊢
  refine ⟨_, rfl, .inl ⟨rfl, _, SqL.of k1⟩, p, _, _, rfl, rfl, k1, (by rw [hx.len]; decide), ?_⟩
  have t2 := hx.app (Txs.str (x := "4: 0") (by decide))
  have s2 := sput (o := .lst (xs ++ [.str "4: 0"])) s1 np
  have k2 : (upd H1 p (.lst (xs ++ [.str "4: 0"]))) p = some (.lst (xs ++ [.str "4: 0"])) := upd_same
  generalize upd H1 p (.lst (xs ++ [.str "4: 0"])) = H2 at s2 k2 ⊢
  generalize xs ++ [V.str "4: 0"] = x2 at t2 k2
  clear hx k1 s1
  refine ⟨_, rfl, fun p3 y3 np3 hy3 => ⟨p, p3, _, _, rfl, rfl, (same_new np3 _) _ _ k2, upd_same, (by rw [t2.len, hy3.len, sizeLine_eq]; decide), fun r3 nr3 => ?_⟩⟩
  have t3 := t2.app hy3
  have s3 := (s2.trans (same_new np3 (.lst y3))).trans (same_new nr3 (.lst (x2 ++ y3)))
  have k3 : (upd (upd H2 p3 (.lst y3)) r3 (.lst (x2 ++ y3))) r3 = some (.lst (x2 ++ y3)) := upd_same
  generalize upd (upd H2 p3 (.lst y3)) r3 (.lst (x2 ++ y3)) = H3 at s3 k3 ⊢
  generalize x2 ++ y3 = x3 at t3 k3
  refine ⟨_, rfl, fun p4 y4 np4 hy4 => ⟨r3, p4, _, _, rfl, rfl, (same_new np4 _) _ _ k3, upd_same, (by rw [t3.len, hy4.len, sizeLine_eq]; decide), fun r4 nr4 => ?_⟩⟩
  have t4 := t3.app hy4
  have s4 := (s3.trans (same_new np4 (.lst y4))).trans (same_new nr4 (.lst (x3 ++ y4)))
  have k4 : (upd (upd H3 p4 (.lst y4)) r4 (.lst (x3 ++ y4))) r4 = some (.lst (x3 ++ y4)) := upd_same
  generalize upd (upd H3 p4 (.lst y4)) r4 (.lst (x3 ++ y4)) = H4 at s4 k4 ⊢
  generalize x3 ++ y4 = x4 at t4 k4
  refine ⟨_, rfl, fun p5 y5 np5 hy5 => ⟨r4, p5, _, _, rfl, rfl, (same_new np5 _) _ _ k4, upd_same, (by rw [t4.len, hy5.len, sizeLine_eq]; decide), fun r5 nr5 => ?_⟩⟩
  have t5 := t4.app hy5
  have s5 := (s4.trans (same_new np5 (.lst y5))).trans (same_new nr5 (.lst (x4 ++ y5)))
  have k5 : (upd (upd H4 p5 (.lst y5)) r5 (.lst (x4 ++ y5))) r5 = some (.lst (x4 ++ y5)) := upd_same
  generalize upd (upd H4 p5 (.lst y5)) r5 (.lst (x4 ++ y5)) = H5 at s5 k5 ⊢
  generalize x4 ++ y5 = x5 at t5 k5
  refine ⟨_, rfl, 57, 4000, congrArg V.str lit_nine, rfl, by decide, by decide, fun z hz => ⟨_, _, rfl, rfl, ?_, 52, 4000, congrArg V.str lit_four, rfl, by decide, by decide, fun z2 hz2 => ⟨_, _, rfl, rfl, ?_, (by show 3 ≤ sizeLine; decide), fun l nl => ?_⟩⟩⟩
  · have e : (4000 : Int).toNat = 4000 := rfl
    rw [e] at hz
    rw [tx_len, sizeLine_eq]
    have : (": 0" : Str).length = 3 := by decide
    omega
  · have e : (4000 : Int).toNat = 4000 := rfl
    rw [e] at hz2
    rw [tx_len, sizeLine_eq]
    have : ("5: " : Str).length = 3 := by decide
    omega
  have e : (4000 : Int).toNat = 4000 := rfl
  rw [e] at hz hz2
  have u1 : Txs [.str "2: x"] 1 := Txs.str (by decide)
  have u2 : Txs [.str (tx z ++ ": 0")] 1 := Txs.str (by
    rw [Str.length_append, tx_len]
    have : (": 0" : Str).length = 3 := by decide
    omega)
  have u3 : Txs [.str ("5: " ++ tx z2)] 1 := Txs.str (by
    rw [Str.length_append, tx_len]
    have : ("5: " : Str).length = 3 := by decide
    omega)
  have u := u1.app (u2.app u3)
  refine ⟨r5, l, _, _, rfl, rfl, (same_new nl _) _ _ k5, upd_same, ?_, fun r nr => ?_⟩
  · rw [t5.len, sizeLine_eq]
    show 14 + 1 + 10 + 10 + 2 + 3 ≤ _
    decide
  obtain ⟨ts, et, ht, hn⟩ := t5.app u
  have s6 := s5.trans (same_new nl (.lst [.str "2: x", .str (tx z ++ ": 0"), .str ("5: " ++ tx z2)]))
  refine q r _ ts (s6.trans (same_new nr _)) (s6.free nr) ?_ ht (by rw [hn]; decide)
  rw [upd_same, ← et]
  rfl
end
end Rr

set_option Elab.async false
set_option linter.all false
set_option maxRecDepth 100000
set_option maxHeartbeats 1600000
namespace Rr
open PySem L2 RM ST PySem.NumText
/-- what the law asks of the text -/
structure Kit6 (P : Program) (w : World) (K : PySem.W.Frag) (mg : Str → Option Value) (base : Heap) (f : Nat → Addr) (d : Nat → FuncData) : Prop where
  o : Own mg
  o6 : Own6 mg
  D1 : Def K mg "_law_prime" lPrime ["_law_script"] (f 1) (d 1)
  G1 : FnOk P w K mg base CX0 2 (f 1) (d 1) ["_law_script"] (spPrimeL K)
  D2 : Def K mg "_law_row" lRow ["_law_script", "_law_prime_here"] (f 2) (d 2)
  G2 : FnOk P w K mg base CX0 3 (f 2) (d 2) ["_law_script", "_law_prime_here"] (spRow K)
  D3 : Def K mg "written" sWritten ["prime", "row"] (f 3) (d 3)
  G3 : FnOk P w K mg base CX0 5 (f 3) (d 3) ["prime", "row"] spWritten
  D4 : Def K mg "_law_right" lRight ["_law_text"] (f 4) (d 4)
  G4 : FnOk P w K mg base CX0 6 (f 4) (d 4) ["_law_text"] spLRight
  D5 : Def K mg "_law_cell_at" lCell ["_law_script", "_law_k"] (f 5) (d 5)
  G5 : FnOk P w K mg base CX0 1 (f 5) (d 5) ["_law_script", "_law_k"] (spCell K)
  D6 : Def K mg "_law_draw" lDraw ["_law_cell", "_law_k", "_law_many"] (f 6) (d 6)
  G6 : FnOk P w K mg base CX0 1 (f 6) (d 6) ["_law_cell", "_law_k", "_law_many"] spDraw
  D7 : Def K mg "_law_few" lFew [] (f 7) (d 7)
  G7 : FnOk P w K mg base CX0 1 (f 7) (d 7) [] spLFew
  D8 : Def K mg "_law_refused" lRefused ["_law_text"] (f 8) (d 8)
  G8 : FnOk P w K mg base CX0 5 (f 8) (d 8) ["_law_text"] spLRef
theorem signs15 : (("0123456789: -x\n" : Str).cps.toList).length = 15 := by decide
theorem sign_at {n : Nat} (h : n < 15) : ∃ c, (("0123456789: -x\n" : Str).cps.toList)[n]? = some c := ⟨_, List.getElem?_eq_getElem (by rw [signs15]; exact h)⟩
theorem sign_of {c : Nat} {v : Int} (h0 : 0 ≤ v) (h1 : v < 2) : ∃ sg : List Nat, sg.length ≤ 1 ∧ atI [V.str "", V.str ⟨#[c]⟩] v = some (.str (tx sg)) := by
  obtain ⟨n, rfl⟩ := Int.eq_ofNat_of_zero_le h0
  match n, h1 with
  | 0, _ => exact ⟨[], by decide, atI_nat (congrArg (fun z => some (V.str z)) lit_empty)⟩
  | 1, _ => exact ⟨[c], Nat.le_refl _, atI_nat rfl⟩
  | n + 2, h => omega
section
variable {P : Program} {w : World} {K : PySem.W.Frag} {mg : Str → Option Value} {base : Heap} {f : Nat → Addr} {d : Nat → FuncData} {e : Addr} {ed : FuncData}
theorem scLaw : FnScope ["_law_script", "_law_prime_here", "_law_row_here", "_law_text", "_law_handed", "_law_cell", "_law_k", "_law_at", "_law_sign"] ["_law_script"] (defScope lLaw) := ⟨rfl, rfl, rfl, by decide +kernel, rfl, by decide +kernel, by decide +kernel⟩
theorem ok_law (D : Def K mg "law" lLaw ["_law_script"] e ed) (T : Kit6 P w K mg base f d) : FnOk P w K mg base CX0 7 e ed ["_law_script"] (spLaw K) := by
  refine D.F.ok scLaw (fun vs H Q E h => ?_) (fun cdv A outer s H vs Q E hr h => ?_)
  · obtain ⟨a, ns, rfl, _⟩ := h
    rfl
  obtain ⟨a, ns, rfl, h1, hl, q⟩ := h
  have o := T.o
  have hu := hr.units
  refine ⟨_, pss_cons (ps_set (i := 1) scLaw.nd rfl (Or.inl rfl) (pcall T.D1 T.G1 hr (pa_cons (pv 0) pa_nil)))
    (pss_cons (ps_set (i := 2) scLaw.nd rfl (Or.inl rfl) (pcall T.D2 T.G2 hr (pa_cons (pv 0) (pa_cons (pv 1) pa_nil))))
    (pss_cons (ps_set (i := 3) scLaw.nd rfl (Or.inl rfl) (pe_op op_add_str (pe_op op_add_str (pe_callTy call_str_int rfl T.o6.str boot_strT (pa_cons (pv 1) pa_nil)) pe_str)
      (pe_bm PySem.F.plainAttrs_str PySem.F.slot_str_join PySem.F.type_str_join mt_join pe_str (pa_cons (pe_comp ["_law_number_here"] [] rfl (pi_list (pv 2)) (fun cl C s₂ H₂ fp => pgn 0) (gk_name (by decide))
        (fun cl C s₂ H₂ fp => pe_op op_add_str pe_str (pe_callTy call_str_int rfl T.o6.str boot_strT (pa_cons (pv 0) pa_nil)))) pa_nil))))
    (pss_cons (ps_set (i := 4) scLaw.nd rfl (Or.inl rfl) (pe_callTy call_list_of rfl o.list boot_listT (pa_cons (pv 2) pa_nil)))
    (pss_cons (ps_if (PW.pt (pw_or (pt_cmpR op_ne (pcall T.D3 T.G3 hr (pa_cons (pv 1) (pa_cons (pv 4) pa_nil))) (pv 3) (nomark _)) (pw_or (pt_cmpR (op_neL hu) (pv 4) (pv 2) (nomark _))
      (pw_or1 (pt_not (pt_val (pcall T.D4 T.G4 hr (pa_cons (pv 3) pa_nil)))))))) (pss_one (ps_ret pe_bl)) pss_nil)
    (pss_cons (ps_set (i := 5) scLaw.nd rfl (Or.inl rfl) (pe_op op_add (pcall T.D5 T.G5 hr (pa_cons (pv 0) (pa_cons pint pa_nil))) (pe_op op_mul pint (pcall T.D5 T.G5 hr (pa_cons (pv 0) (pa_cons pint pa_nil))))))
    (pss_cons (ps_for PassesOwn.never rfl (pi_range1 rfl o.range (pa_cons pint pa_nil)) (pgn 6)
      (pss_cons (ps_set (i := 7) scLaw.nd rfl (Or.inl rfl) (pcall T.D6 T.G6 hr (pa_cons (pe_op op_add (pv 5) (pv 6)) (pa_cons pint (pa_cons (pe_op op_add (plenS o rfl (pv 3)) pint) pa_nil)))))
      (pss_cons (ps_set (i := 8) scLaw.nd rfl (Or.inl rfl) (pe_ix ix_tup (pe_tup (pa_cons pe_str (pa_cons (pe_ix ix_str pe_str (pcall T.D6 T.G6 hr (pa_cons (pe_op op_add (pv 5) (pv 6)) (pa_cons pint (pa_cons pint pa_nil)))) (fun _ _ => rfl)) pa_nil)))
        (pcall T.D6 T.G6 hr (pa_cons (pe_op op_add (pv 5) (pv 6)) (pa_cons pint (pa_cons pint pa_nil)))) (fun _ _ => rfl)))
      (pss_one (ps_if (pt_not (pt_val (pcall T.D4 T.G4 hr (pa_cons (pe_op op_add_str (pe_op op_add_str (pe_slice sl_str (pv 3) po_none (po_some (pv 7))) (pv 8))
        (pe_slice sl_str (pv 3) (po_some (pe_op op_add (pv 7) (pcall T.D6 T.G6 hr (pa_cons (pe_op op_add (pv 5) (pv 6)) (pa_cons pint (pa_cons pint pa_nil)))))) po_none)) pa_nil)))) (pss_one (ps_ret pe_bl)) pss_nil)))))
    (pss_cons (ps_if (pt_not (pt_val (pe_callB (call_all rfl) rfl o.all boot_allB (pa_cons (pe_comp ["_law_other"] [] rfl (pi_list (pe_call0 (T.G7.mono (show 1 ≤ 6 by decide)) hr rfl T.D7.m T.D7.F.kp T.D7.b .nil pass0)) (fun cl C s₂ H₂ fp => pgn 0) (gk_name (by decide))
      (fun cl C s₂ H₂ fp => pcall T.D4 T.G4 hr (pa_cons (pv 0) pa_nil))) pa_nil)))) (pss_one (ps_ret pe_bl)) pss_nil)
    (pss_one (ps_ret (pe_callB (call_all rfl) rfl o.all boot_allB (pa_cons (pe_comp ["_law_thing"] [] rfl (pi_list (pe_lst (pa_cons pe_non (pa_cons pint (pa_cons (pe_lst (pa_cons pe_str pa_nil)) (pa_cons pe_bl pa_nil)))))) (fun cl C s₂ H₂ fp => pgn 0) (gk_name (by decide))
      (fun cl C s₂ H₂ fp => pcall T.D8 T.G8 hr (pa_cons (pv 0) pa_nil))) pa_nil))))))))))), ?_⟩
  refine ⟨_, rfl, a, ns, rfl, h1, by omega, fun p H1 h7 s1 => ?_⟩
  have pok : PrimeOk p := ones_of h7
  have hp1 := pok.1
  have hp2 := pok.2.1
  refine ⟨_, rfl, _, rfl, a, ns, p, rfl, s1.seq h1, by omega, pok, fun wa H2 row s2 nw hw hR hL => ?_⟩
  have t2 := s1.trans s2
  have hb := rest_lt pok hR
  have hrow : row.length ≤ 63 := by omega
  have hwl := wr_len pok hR
  have hwl2 : (wr p row).length ≤ 300 := by omega
  refine ⟨_, rfl, p, rfl, log_small (by omega) (by omega), _, _, rfl, rfl, ?_, rfl, _, rfl, wa, rfl, ⟨_, hw.sq⟩, ?_⟩
  · have := txt_len (show 0 ≤ p by omega) (show p < 1000 by omega)
    rw [txt_tx, lit_colon, tx_len, tx_len, sizeLine_eq]
    show _ + 1 ≤ _
    omega
  refine comp_list hw.sq (fun i => V.str (tx (32 :: txt (gt row i)))) (by rw [List.length_map]; exact small (by omega)) (fun i x H3 hx sm => ?_) (fun H3 sm r nr => ?_)
  · obtain ⟨rfl, hi⟩ := at_int hx
    have hm : gt row i ∈ row := by rw [gt_lt hi]; exact List.getElem_mem hi
    have hbi := hb _ hm
    refine ⟨_, rfl, gt row i, rfl, log_small hbi.1 hbi.2, _, _, rfl, rfl, ?_, snocF ?_, sm⟩
    · have := txt_len hbi.1 hbi.2
      rw [txt_tx, lit_blank, tx_len, tx_len, sizeLine_eq]
      show 1 + _ ≤ _
      omega
    · rw [txt_tx, lit_blank, tx_app]
      rfl
  rw [List.length_map]
  have e1 : (List.range row.length).map (fun i => V.str (tx (32 :: txt (gt row i)))) = (row.map fun n => 32 :: txt n).map (fun w => V.str (tx w)) := by
    rw [map_at row (fun n => V.str (tx (32 :: txt n))), List.map_map]
    rfl
  rw [e1]
  have t3 := (t2.trans sm).trans (same_new nr (.lst ((row.map fun n => 32 :: txt n).map (fun w => V.str (tx w)))))
  have hw3 := (hw.same sm).same (same_new nr (.lst ((row.map fun n => 32 :: txt n).map (fun w => V.str (tx w)))))
  have e2 : (row.map fun n => 32 :: txt n).flatten = rowT row := by
    unfold rowT tl
    rw [List.flatMap_map, List.flatMap_def]
  refine ⟨r, row.map fun n => 32 :: txt n, congrArg V.str lit_empty, rfl, SqL.of upd_same, fun v hv => ?_, by rw [List.length_map]; omega, _, _, rfl, rfl, ?_, ?_⟩
  · obtain ⟨n, hn, rfl⟩ := List.mem_map.mp hv
    have := txt_len (hb n hn).1 (hb n hn).2
    rw [List.length_cons]
    omega
  · rw [e2, txt_tx, lit_colon, tx_app, tx_len, tx_len, sizeLine_eq, List.length_append]
    unfold wr at hwl2
    rw [List.length_append, List.length_cons] at hwl2
    show (txt p).length + 1 + _ ≤ _
    omega
  have e3 : Str.ofString (toString p) ++ (":" : Str) ++ tx (row.map fun n => 32 :: txt n).flatten = tx (wr p row) := by
    rw [e2, txt_tx, lit_colon, tx_app, tx_app, List.append_assoc]
    rfl
  rw [e3]
  clear e3 e2 e1 hw sm
  generalize upd H3 r (.lst ((row.map fun n => 32 :: txt n).map (fun w => V.str (tx w)))) = H4 at t3 hw3 ⊢
  have hLT : LenOk (wr p row) := Nat.le_trans hwl2 (by decide)
  refine ⟨_, rfl, wa, _, rfl, .inl hw3.sq, fun hd nh => ?_⟩
  have t4 := t3.trans (same_new nh (.lst (row.map V.int)))
  have hw4 := hw3.same (same_new nh (.lst (row.map V.int)))
  have hh4 : Ls (upd H4 hd (.lst (row.map V.int))) hd row := Ls.new rfl
  generalize upd H4 hd (.lst (row.map V.int)) = H5 at t4 hw4 hh4 ⊢
  refine ⟨_, rfl, _, rfl, p, hd, row, rfl, hh4, pok, hR, by omega, fun H6 s6 => ⟨_, rfl, rfl, _, rfl, iteNd rfl ?_⟩⟩
  refine ⟨_, rfl, _, rfl, hd, wa, row, row, rfl, rfl, (hh4.same s6).sq, (hw4.same s6).sq, _, rfl, iteNd rfl ?_⟩
  refine ⟨_, rfl, wr p row, rfl, hLT, fun H7 s7 => ⟨true, rfl, iteF ?_⟩⟩
  have t7 := (t4.trans s6).trans s7
  refine ⟨_, rfl, a, ns, 3, rfl, t7.seq h1, by omega, _, rfl, a, ns, 0, rfl, t7.seq h1, by omega, _, _, rfl, rfl, .inl ⟨by decide, by decide⟩, _, _, rfl, rfl, ?_⟩
  dsimp only
  generalize gt ns 3 + 7 * gt ns 0 = c
  clear hh4 hw4 hw3 t4 s6 s7 t3 s1 s2 t2 h1
  refine ⟨2, rfl, by decide, by decide, for_range (fun _ σ Hw => ∃ x6 x7 x8, σ = [some (.ref a), some (.int p), some (.ref wa), some (.str (tx (wr p row))), some (.ref hd), some (.int c), x6, x7, x8]) ⟨none, none, none, rfl⟩ ?_ ?_⟩
  · rintro i σ Hw hi ⟨x6, x7, x8, rfl⟩
    refine ⟨_, rfl, _, rfl, _, _, rfl, rfl, _, rfl, tx (wr p row), rfl, (by rw [tx_len, sizeLine_eq]; omega), _, _, rfl, rfl, _, 1, _, rfl, (by rw [tx_len]; omega), fun v1 J1 _ _ _ => ?_⟩
    refine ⟨_, rfl, _, rfl, _, _, rfl, rfl, _, 2, 15, rfl, by decide, fun v2 J2 a2 b2 _ => ?_⟩
    obtain ⟨n2, rfl⟩ := Int.eq_ofNat_of_zero_le a2
    obtain ⟨sc, hsc⟩ := sign_at (n := n2) (by omega)
    refine ⟨_, _, sc, rfl, rfl, (by decide), atI_nat hsc, (by show 2 ≤ sizeLine; decide), fun tt ntt => ?_⟩
    refine ⟨_, rfl, _, rfl, _, _, rfl, rfl, _, 3, 2, rfl, by decide, fun v3 J3 a3 b3 u3 => ?_⟩
    obtain ⟨sg, hsg, esg⟩ := sign_of (c := sc) a3 b3
    refine ⟨tt, _, _, _, rfl, rfl, SqT.of (u3 _ _ upd_same), esg, ?_⟩
    clear u3 ntt hsc
    refine ⟨_, rfl, _, rfl, _, rfl, wr p row, rfl, (by rw [sizeLine_eq]; omega), fun z1 hz1 => ⟨_, rfl, _, _, rfl, rfl, (by rw [tx_len, tx_len, sizeLine_eq]; omega), _, rfl, _, rfl, _, rfl, _, rfl, _, _, rfl, rfl, _, 4, 2, rfl, by decide, fun v4 J4 _ _ _ => ?_⟩⟩
    refine ⟨_, _, rfl, rfl, _, rfl, wr p row, rfl, (by rw [sizeLine_eq]; omega), fun z2 hz2 => ⟨_, _, rfl, rfl, (by rw [tx_app, tx_len, tx_len, List.length_append, sizeLine_eq]; omega), z1 ++ sg ++ z2, congrArg (fun z => [V.str z]) (by rw [tx_app, tx_app]), ?_, fun J5 _ => ⟨true, rfl, iteF ⟨_, _, _, rfl⟩⟩⟩⟩
    show (z1 ++ sg ++ z2).length ≤ 100000
    rw [List.length_append, List.length_append]
    omega
  rintro σ Hw ⟨x6, x7, x8, rfl⟩
  refine ⟨rfl, fun fr H8 ts s8 nfr hfr hall hlen => ⟨fr, rfl, ⟨_, SqL.of hfr⟩, comp_list (SqL.of hfr) (fun _ => V.bl true) (by rw [List.length_map]; exact small (by omega)) (fun i x H9 hx s9 => ?_) (fun H9 s9 r9 n9 => ?_)⟩⟩
  · obtain ⟨t, ht, rfl⟩ := atS hx
    exact ⟨_, rfl, t, rfl, hall t (List.mem_of_getElem? ht), fun J _ => ⟨snocF rfl, s9.trans ‹_›⟩⟩
  refine ⟨r9, (List.range ts.length).map (fun _ => true), rfl, by rw [List.length_map, ← mapBl]; exact SqL.of upd_same, _, rfl, ?_⟩
  rw [all_true]
  refine iteF ?_
  refine ⟨(by show 1 ≤ sizeLine; decide), fun il nil => ⟨(by show 4 ≤ sizeLine; decide), fun ol nol => ⟨ol, rfl, ⟨_, SqL.of upd_same⟩, ?_⟩⟩⟩
  refine comp_list (SqL.of upd_same) (fun _ => V.bl true) (by show 4 ≤ sizeLine; decide) (fun i x J hx sJ => ?_) (fun J sJ r nr => ?_)
  · have hil : J il = some (.lst [.str "2:"]) := sJ _ _ ((same_new nol _) _ _ upd_same)
    obtain ⟨t, hn⟩ : ∃ t, NoText J x t := by
      match i, hx with
      | 0, hx => rw [← Option.some.inj hx]; exact ⟨_, .non⟩
      | 1, hx => rw [← Option.some.inj hx]; exact ⟨_, .int 5⟩
      | 2, hx => rw [← Option.some.inj hx]; exact ⟨_, .lst hil⟩
      | 3, hx => rw [← Option.some.inj hx]; exact ⟨_, .bl true⟩
    exact ⟨_, rfl, .inr ⟨x, t, rfl, hn, fun J2 s2 => ⟨snocF rfl, sJ.trans s2⟩⟩⟩
  refine ⟨r, (List.range 4).map (fun _ => true), rfl, by rw [← mapBl]; exact SqL.of upd_same, ?_⟩
  rw [all_true]
  exact q _
end
end Rr

set_option Elab.async false
set_option linter.all false
set_option maxRecDepth 100000
set_option maxHeartbeats 1000000
namespace Rr
open PySem L2 RM
theorem def_mk {K : PySem.W.Frag} {h : Heap} {mg : Str → Option Value} (X : K.In h) (G : h.Ns mainGlobals mg) {x : Str} {st : Stmt} {ps : List Str} {f : Addr} {oc : Value} {od an : Option Addr} {osl : Array (Option Value)} {kV doc pm cdv ct : Value} (a : PySem.W.nsIn K mainGlobals x = some (some (.ref f)))
    (l : K.lookup f = some ⟨oc, od, .func (PySem.W.fnOf x x (defArgs st) (defBody st) (defScope st) .none kV doc pm an cdv ct), osl⟩) (c : PySem.W.codeIn K cdv x = true) (k : PySem.W.keepIn K (.ref f) = true)
    (hb : ∀ (kV doc pm : Value) (an : Option Addr) (cdv ct : Value) (us : List Value), us.length = ps.length → bindArgs (PySem.W.fnOf x x (defArgs st) (defBody st) (defScope st) .none kV doc pm an cdv ct) ⟨us, []⟩ = pure (ps.zip us)) :
    Def K mg x st ps f (PySem.W.fnOf x x (defArgs st) (defBody st) (defScope st) .none kV doc pm an cdv ct) :=
  ⟨fun_mk (st := st) l c k, (fun_mk (st := st) l c k).binds hb, PySem.W.mg_of X G a⟩

def fdOf {K : PySem.W.Frag} {mg : Str → Option Value} {x : Str} {st : Stmt} {ps : List Str} {f : Addr} {fd : FuncData} (_ : Def K mg x st ps f fd) : FuncData := fd

theorem all_mk {l : PySem.W.OpenLaw} {w : World} {K : PySem.W.Frag} {h : Heap} {mg : Str → Option Value} {fa f1 f2 f3 f4 f5 f6 f7 f8 f9 f10 f11 f12 f13 f14 f15 f16 f17 f18 f19 f20 f21 f22 : Addr} (X : K.In h) (G : h.Ns mainGlobals mg) (hfa : mg "law" = some (.ref fa))
    {od1 an1 od2 an2 od3 an3 od4 an4 od5 an5 od6 an6 od7 an7 od8 an8 od9 an9 od10 an10 od11 an11 od12 an12 od13 an13 od14 an14 od15 an15 od16 an16 od17 an17 od18 an18 od19 an19 od20 an20 od21 an21 od22 an22 : Option Addr} {sl1 sl2 sl3 sl4 sl5 sl6 sl7 sl8 sl9 sl10 sl11 sl12 sl13 sl14 sl15 sl16 sl17 sl18 sl19 sl20 sl21 sl22 : Array (Option Value)} {oc1 kV1 dc1 pm1 cd1 ct1 oc2 kV2 dc2 pm2 cd2 ct2 oc3 kV3 dc3 pm3 cd3 ct3 oc4 kV4 dc4 pm4 cd4 ct4 oc5 kV5 dc5 pm5 cd5 ct5 oc6 kV6 dc6 pm6 cd6 ct6 oc7 kV7 dc7 pm7 cd7 ct7 oc8 kV8 dc8 pm8 cd8 ct8 oc9 kV9 dc9 pm9 cd9 ct9 oc10 kV10 dc10 pm10 cd10 ct10 oc11 kV11 dc11 pm11 cd11 ct11 oc12 kV12 dc12 pm12 cd12 ct12 oc13 kV13 dc13 pm13 cd13 ct13 oc14 kV14 dc14 pm14 cd14 ct14 oc15 kV15 dc15 pm15 cd15 ct15 oc16 kV16 dc16 pm16 cd16 ct16 oc17 kV17 dc17 pm17 cd17 ct17 oc18 kV18 dc18 pm18 cd18 ct18 oc19 kV19 dc19 pm19 cd19 ct19 oc20 kV20 dc20 pm20 cd20 ct20 oc21 kV21 dc21 pm21 cd21 ct21 oc22 kV22 dc22 pm22 cd22 ct22 : Value} {t1 t2 t3 t4 : Tok} {cR cP cW cU cL cF cN cT xN : Addr} {xnm xq : Str} {xbs bm xsub : List Value} {xhd xab : Bool} {xsn : List Str} {xcol : Option Bool} {xdd : Option Addr} {xk0 xk1 xk2 xk3 xk5 : Option Value}
    (a1 : PySem.W.nsIn K mainGlobals "is_whole" = some (some (.ref f1)))
    (l1 : K.lookup f1 = some ⟨oc1, od1, .func (PySem.W.fnOf "is_whole" "is_whole" (defArgs sWhole) (defBody sWhole) (defScope sWhole) .none kV1 dc1 pm1 an1 cd1 ct1), sl1⟩)
    (c1 : PySem.W.codeIn K cd1 "is_whole" = true)
    (k1 : PySem.W.keepIn K (.ref f1) = true)
    (a2 : PySem.W.nsIn K mainGlobals "is_prime" = some (some (.ref f2)))
    (l2 : K.lookup f2 = some ⟨oc2, od2, .func (PySem.W.fnOf "is_prime" "is_prime" (defArgs sPrime) (defBody sPrime) (defScope sPrime) .none kV2 dc2 pm2 an2 cd2 ct2), sl2⟩)
    (c2 : PySem.W.codeIn K cd2 "is_prime" = true)
    (k2 : PySem.W.keepIn K (.ref f2) = true)
    (a3 : PySem.W.nsIn K mainGlobals "is_rest" = some (some (.ref f3)))
    (l3 : K.lookup f3 = some ⟨oc3, od3, .func (PySem.W.fnOf "is_rest" "is_rest" (defArgs sRest) (defBody sRest) (defScope sRest) .none kV3 dc3 pm3 an3 cd3 ct3), sl3⟩)
    (c3 : PySem.W.codeIn K cd3 "is_rest" = true)
    (k3 : PySem.W.keepIn K (.ref f3) = true)
    (a4 : PySem.W.nsIn K mainGlobals "are_rests" = some (some (.ref f4)))
    (l4 : K.lookup f4 = some ⟨oc4, od4, .func (PySem.W.fnOf "are_rests" "are_rests" (defArgs sAre) (defBody sAre) (defScope sAre) .none kV4 dc4 pm4 an4 cd4 ct4), sl4⟩)
    (c4 : PySem.W.codeIn K cd4 "are_rests" = true)
    (k4 : PySem.W.keepIn K (.ref f4) = true)
    (a5 : PySem.W.nsIn K mainGlobals "need_prime" = some (some (.ref f5)))
    (l5 : K.lookup f5 = some ⟨oc5, od5, .func (PySem.W.fnOf "need_prime" "need_prime" (defArgs sNeedPrime) (defBody sNeedPrime) (defScope sNeedPrime) .none kV5 dc5 pm5 an5 cd5 ct5), sl5⟩)
    (c5 : PySem.W.codeIn K cd5 "need_prime" = true)
    (k5 : PySem.W.keepIn K (.ref f5) = true)
    (a6 : PySem.W.nsIn K mainGlobals "need_row" = some (some (.ref f6)))
    (l6 : K.lookup f6 = some ⟨oc6, od6, .func (PySem.W.fnOf "need_row" "need_row" (defArgs sNeedRow) (defBody sNeedRow) (defScope sNeedRow) .none kV6 dc6 pm6 an6 cd6 ct6), sl6⟩)
    (c6 : PySem.W.codeIn K cd6 "need_row" = true)
    (k6 : PySem.W.keepIn K (.ref f6) = true)
    (a7 : PySem.W.nsIn K mainGlobals "written" = some (some (.ref f7)))
    (l7 : K.lookup f7 = some ⟨oc7, od7, .func (PySem.W.fnOf "written" "written" (defArgs sWritten) (defBody sWritten) (defScope sWritten) .none kV7 dc7 pm7 an7 cd7 ct7), sl7⟩)
    (c7 : PySem.W.codeIn K cd7 "written" = true)
    (k7 : PySem.W.keepIn K (.ref f7) = true)
    (a8 : PySem.W.nsIn K mainGlobals "read" = some (some (.ref f8)))
    (l8 : K.lookup f8 = some ⟨oc8, od8, .func (PySem.W.fnOf "read" "read" (defArgs sRead) (defBody sRead) (defScope sRead) .none kV8 dc8 pm8 an8 cd8 ct8), sl8⟩)
    (c8 : PySem.W.codeIn K cd8 "read" = true)
    (k8 : PySem.W.keepIn K (.ref f8) = true)
    (a9 : PySem.W.nsIn K mainGlobals "number_of" = some (some (.ref f9)))
    (l9 : K.lookup f9 = some ⟨oc9, od9, .func (PySem.W.fnOf "number_of" "number_of" (defArgs sNum) (defBody sNum) (defScope sNum) .none kV9 dc9 pm9 an9 cd9 ct9), sl9⟩)
    (c9 : PySem.W.codeIn K cd9 "number_of" = true)
    (k9 : PySem.W.keepIn K (.ref f9) = true)
    (a10 : PySem.W.nsIn K mainGlobals "is_number" = some (some (.ref f10)))
    (l10 : K.lookup f10 = some ⟨oc10, od10, .func (PySem.W.fnOf "is_number" "is_number" (defArgs sIsNum) (defBody sIsNum) (defScope sIsNum) .none kV10 dc10 pm10 an10 cd10 ct10), sl10⟩)
    (c10 : PySem.W.codeIn K cd10 "is_number" = true)
    (k10 : PySem.W.keepIn K (.ref f10) = true)
    (a11 : PySem.W.nsIn K mainGlobals "_law_cell_at" = some (some (.ref f11)))
    (l11 : K.lookup f11 = some ⟨oc11, od11, .func (PySem.W.fnOf "_law_cell_at" "_law_cell_at" (defArgs lCell) (defBody lCell) (defScope lCell) .none kV11 dc11 pm11 an11 cd11 ct11), sl11⟩)
    (c11 : PySem.W.codeIn K cd11 "_law_cell_at" = true)
    (k11 : PySem.W.keepIn K (.ref f11) = true)
    (a12 : PySem.W.nsIn K mainGlobals "_law_draw" = some (some (.ref f12)))
    (l12 : K.lookup f12 = some ⟨oc12, od12, .func (PySem.W.fnOf "_law_draw" "_law_draw" (defArgs lDraw) (defBody lDraw) (defScope lDraw) .none kV12 dc12 pm12 an12 cd12 ct12), sl12⟩)
    (c12 : PySem.W.codeIn K cd12 "_law_draw" = true)
    (k12 : PySem.W.keepIn K (.ref f12) = true)
    (a13 : PySem.W.nsIn K mainGlobals "_law_prime" = some (some (.ref f13)))
    (l13 : K.lookup f13 = some ⟨oc13, od13, .func (PySem.W.fnOf "_law_prime" "_law_prime" (defArgs lPrime) (defBody lPrime) (defScope lPrime) .none kV13 dc13 pm13 an13 cd13 ct13), sl13⟩)
    (c13 : PySem.W.codeIn K cd13 "_law_prime" = true)
    (k13 : PySem.W.keepIn K (.ref f13) = true)
    (a14 : PySem.W.nsIn K mainGlobals "_law_rests" = some (some (.ref f14)))
    (l14 : K.lookup f14 = some ⟨oc14, od14, .func (PySem.W.fnOf "_law_rests" "_law_rests" (defArgs lRests) (defBody lRests) (defScope lRests) .none kV14 dc14 pm14 an14 cd14 ct14), sl14⟩)
    (c14 : PySem.W.codeIn K cd14 "_law_rests" = true)
    (k14 : PySem.W.keepIn K (.ref f14) = true)
    (a15 : PySem.W.nsIn K mainGlobals "_law_row" = some (some (.ref f15)))
    (l15 : K.lookup f15 = some ⟨oc15, od15, .func (PySem.W.fnOf "_law_row" "_law_row" (defArgs lRow) (defBody lRow) (defScope lRow) .none kV15 dc15 pm15 an15 cd15 ct15), sl15⟩)
    (c15 : PySem.W.codeIn K cd15 "_law_row" = true)
    (k15 : PySem.W.keepIn K (.ref f15) = true)
    (a16 : PySem.W.nsIn K mainGlobals "_law_due" = some (some (.ref f16)))
    (l16 : K.lookup f16 = some ⟨oc16, od16, .func (PySem.W.fnOf "_law_due" "_law_due" (defArgs lDue) (defBody lDue) (defScope lDue) .none kV16 dc16 pm16 an16 cd16 ct16), sl16⟩)
    (c16 : PySem.W.codeIn K cd16 "_law_due" = true)
    (k16 : PySem.W.keepIn K (.ref f16) = true)
    (a17 : PySem.W.nsIn K mainGlobals "_law_number" = some (some (.ref f17)))
    (l17 : K.lookup f17 = some ⟨oc17, od17, .func (PySem.W.fnOf "_law_number" "_law_number" (defArgs lNum) (defBody lNum) (defScope lNum) .none kV17 dc17 pm17 an17 cd17 ct17), sl17⟩)
    (c17 : PySem.W.codeIn K cd17 "_law_number" = true)
    (k17 : PySem.W.keepIn K (.ref f17) = true)
    (a18 : PySem.W.nsIn K mainGlobals "_law_in" = some (some (.ref f18)))
    (l18 : K.lookup f18 = some ⟨oc18, od18, .func (PySem.W.fnOf "_law_in" "_law_in" (defArgs lIn) (defBody lIn) (defScope lIn) .none kV18 dc18 pm18 an18 cd18 ct18), sl18⟩)
    (c18 : PySem.W.codeIn K cd18 "_law_in" = true)
    (k18 : PySem.W.keepIn K (.ref f18) = true)
    (a19 : PySem.W.nsIn K mainGlobals "_law_refused" = some (some (.ref f19)))
    (l19 : K.lookup f19 = some ⟨oc19, od19, .func (PySem.W.fnOf "_law_refused" "_law_refused" (defArgs lRefused) (defBody lRefused) (defScope lRefused) .none kV19 dc19 pm19 an19 cd19 ct19), sl19⟩)
    (c19 : PySem.W.codeIn K cd19 "_law_refused" = true)
    (k19 : PySem.W.keepIn K (.ref f19) = true)
    (a20 : PySem.W.nsIn K mainGlobals "_law_right" = some (some (.ref f20)))
    (l20 : K.lookup f20 = some ⟨oc20, od20, .func (PySem.W.fnOf "_law_right" "_law_right" (defArgs lRight) (defBody lRight) (defScope lRight) .none kV20 dc20 pm20 an20 cd20 ct20), sl20⟩)
    (c20 : PySem.W.codeIn K cd20 "_law_right" = true)
    (k20 : PySem.W.keepIn K (.ref f20) = true)
    (a21 : PySem.W.nsIn K mainGlobals "_law_few" = some (some (.ref f21)))
    (l21 : K.lookup f21 = some ⟨oc21, od21, .func (PySem.W.fnOf "_law_few" "_law_few" (defArgs lFew) (defBody lFew) (defScope lFew) .none kV21 dc21 pm21 an21 cd21 ct21), sl21⟩)
    (c21 : PySem.W.codeIn K cd21 "_law_few" = true)
    (k21 : PySem.W.keepIn K (.ref f21) = true)
    (a22 : PySem.W.nsIn K mainGlobals "law" = some (some (.ref f22)))
    (l22 : K.lookup f22 = some ⟨oc22, od22, .func (PySem.W.fnOf "law" "law" (defArgs lLaw) (defBody lLaw) (defScope lLaw) .none kV22 dc22 pm22 an22 cd22 ct22), sl22⟩)
    (c22 : PySem.W.codeIn K cd22 "law" = true)
    (k22 : PySem.W.keepIn K (.ref f22) = true)
    (z1 : PySem.W.nsIn K mainGlobals "isinstance" = some none)
    (z2 : PySem.W.nsIn K mainGlobals "int" = some none)
    (z3 : PySem.W.nsIn K mainGlobals "bool" = some none)
    (z4 : PySem.W.nsIn K mainGlobals "list" = some none)
    (z5 : PySem.W.nsIn K mainGlobals "len" = some none)
    (z6 : PySem.W.nsIn K mainGlobals "range" = some none)
    (z7 : PySem.W.nsIn K mainGlobals "sum" = some none)
    (z8 : PySem.W.nsIn K mainGlobals "zip" = some none)
    (z9 : PySem.W.nsIn K mainGlobals "reversed" = some none)
    (z10 : PySem.W.nsIn K mainGlobals "enumerate" = some none)
    (z11 : PySem.W.nsIn K mainGlobals "max" = some none)
    (z12 : PySem.W.nsIn K mainGlobals "min" = some none)
    (z13 : PySem.W.nsIn K mainGlobals "all" = some none)
    (z14 : PySem.W.nsIn K mainGlobals "any" = some none)
    (z15 : PySem.W.nsIn K mainGlobals "abs" = some none)
    (z16 : PySem.W.nsIn K mainGlobals "str" = some none)
    (z17 : PySem.W.nsIn K mainGlobals "tuple" = some none)
    (mcR : PySem.W.nsIn K mainGlobals "RuleError" = some (some (.ref cR)))
    (mcP : PySem.W.nsIn K mainGlobals "BadPrime" = some (some (.ref cP)))
    (mcW : PySem.W.nsIn K mainGlobals "BadRow" = some (some (.ref cW)))
    (mcU : PySem.W.nsIn K mainGlobals "BadRule" = some (some (.ref cU)))
    (mcL : PySem.W.nsIn K mainGlobals "BadPlace" = some (some (.ref cL)))
    (mcF : PySem.W.nsIn K mainGlobals "TooFew" = some (some (.ref cF)))
    (mcN : PySem.W.nsIn K mainGlobals "NoWay" = some (some (.ref cN)))
    (mcT : PySem.W.nsIn K mainGlobals "BadText" = some (some (.ref cT)))
    (mV : PySem.W.nsIn K mainGlobals "ValueError" = some none)
    (xl : K.lookup cT = some (excClassObj xnm xq cT xN xbs bm xhd xsn xsub xab xcol xdd xk0 xk1 xk2 xk3 xk5 "ValueError.__new__"))
    (xo : PySem.W.nsOkIn K xN = true)
    (xi : PySem.W.nsIn K xN "__init__" = some none)
    (xt : PySem.W.tailIn K veMro bm = true)
    (g1 : PySem.W.findIn K (.ref cT) "__getattribute__" = some (some (.builtin "BaseException.__getattribute__")))
    (g2 : PySem.W.findIn K (.ref cT) "__getattr__" = some none)
    (g3 : PySem.W.findIn K (.ref cT) "__class__" = some (some (.builtin "object.__class__")))
    (g4 : PySem.W.mroIn K cT (.type "object") = some true)
    (g5 : PySem.W.subIn K (.ref cT) (.type "BaseException") = some true)
    (em : PySem.W.exmOne K (.ref cT) (.ref cR) = some true)
    (kT : PySem.W.kitOne K (.ref cT) (.ref cT) = some true)
    (kV : PySem.W.kitOne K (.ref cT) (.type "ValueError") = some true)
    (kcP : PySem.W.kitOne K (.ref cT) (.ref cP) = some false)
    (kcW : PySem.W.kitOne K (.ref cT) (.ref cW) = some false)
    (kcU : PySem.W.kitOne K (.ref cT) (.ref cU) = some false)
    (kcL : PySem.W.kitOne K (.ref cT) (.ref cL) = some false)
    (kcF : PySem.W.kitOne K (.ref cT) (.ref cF) = some false)
    (kcN : PySem.W.kitOne K (.ref cT) (.ref cN) = some false)
    (y1 : PySem.W.nsIn K mainGlobals "LOWEST_PRIME" = some (some (.int 2 t1)))
    (y2 : PySem.W.nsIn K mainGlobals "HIGHEST_PRIME" = some (some (.int 997 t2)))
    (y3 : PySem.W.nsIn K mainGlobals "FIGURES" = some (some (.str "0123456789" t3)))
    (y4 : PySem.W.nsIn K mainGlobals "MOST_FIGURES" = some (some (.int 3 t4))) :
    ∃ fd : FuncData, (∀ (s : Shared) (v : Value), BindsTo s fd ⟨[v], []⟩ [("_law_script", v)]) ∧ ∀ base : Heap, K.In base → base.Ns mainGlobals mg → FnOk l.prog w K mg base CX0 7 fa fd ["_law_script"] (spLaw K) := by
  have e := hfa.symm.trans (PySem.W.mg_of X G a22)
  cases e
  have D1 := def_mk (st := sWhole) (ps := ["value"]) X G a1 l1 c1 k1 fun _ _ _ _ _ _ us hl => match us, hl with | [_], _ => rfl
  have D2 := def_mk (st := sPrime) (ps := ["value"]) X G a2 l2 c2 k2 fun _ _ _ _ _ _ us hl => match us, hl with | [_], _ => rfl
  have D3 := def_mk (st := sRest) (ps := ["prime", "value"]) X G a3 l3 c3 k3 fun _ _ _ _ _ _ us hl => match us, hl with | [_, _], _ => rfl
  have D4 := def_mk (st := sAre) (ps := ["prime", "value"]) X G a4 l4 c4 k4 fun _ _ _ _ _ _ us hl => match us, hl with | [_, _], _ => rfl
  have D5 := def_mk (st := sNeedPrime) (ps := ["prime"]) X G a5 l5 c5 k5 fun _ _ _ _ _ _ us hl => match us, hl with | [_], _ => rfl
  have D6 := def_mk (st := sNeedRow) (ps := ["prime", "row"]) X G a6 l6 c6 k6 fun _ _ _ _ _ _ us hl => match us, hl with | [_, _], _ => rfl
  have D7 := def_mk (st := sWritten) (ps := ["prime", "row"]) X G a7 l7 c7 k7 fun _ _ _ _ _ _ us hl => match us, hl with | [_, _], _ => rfl
  have D8 := def_mk (st := sRead) (ps := ["text"]) X G a8 l8 c8 k8 fun _ _ _ _ _ _ us hl => match us, hl with | [_], _ => rfl
  have D9 := def_mk (st := sNum) (ps := ["word"]) X G a9 l9 c9 k9 fun _ _ _ _ _ _ us hl => match us, hl with | [_], _ => rfl
  have D10 := def_mk (st := sIsNum) (ps := ["word"]) X G a10 l10 c10 k10 fun _ _ _ _ _ _ us hl => match us, hl with | [_], _ => rfl
  have D11 := def_mk (st := lCell) (ps := ["_law_script", "_law_k"]) X G a11 l11 c11 k11 fun _ _ _ _ _ _ us hl => match us, hl with | [_, _], _ => rfl
  have D12 := def_mk (st := lDraw) (ps := ["_law_cell", "_law_k", "_law_many"]) X G a12 l12 c12 k12 fun _ _ _ _ _ _ us hl => match us, hl with | [_, _, _], _ => rfl
  have D13 := def_mk (st := lPrime) (ps := ["_law_script"]) X G a13 l13 c13 k13 fun _ _ _ _ _ _ us hl => match us, hl with | [_], _ => rfl
  have D14 := def_mk (st := lRests) (ps := ["_law_script", "_law_by", "_law_prime_here", "_law_many"]) X G a14 l14 c14 k14 fun _ _ _ _ _ _ us hl => match us, hl with | [_, _, _, _], _ => rfl
  have D15 := def_mk (st := lRow) (ps := ["_law_script", "_law_prime_here"]) X G a15 l15 c15 k15 fun _ _ _ _ _ _ us hl => match us, hl with | [_, _], _ => rfl
  have D16 := def_mk (st := lDue) (ps := ["_law_prime_here", "_law_rule", "_law_row_here", "_law_place"]) X G a16 l16 c16 k16 fun _ _ _ _ _ _ us hl => match us, hl with | [_, _, _, _], _ => rfl
  have D17 := def_mk (st := lNum) (ps := ["_law_text"]) X G a17 l17 c17 k17 fun _ _ _ _ _ _ us hl => match us, hl with | [_], _ => rfl
  have D18 := def_mk (st := lIn) (ps := ["_law_text"]) X G a18 l18 c18 k18 fun _ _ _ _ _ _ us hl => match us, hl with | [_], _ => rfl
  have D19 := def_mk (st := lRefused) (ps := ["_law_text"]) X G a19 l19 c19 k19 fun _ _ _ _ _ _ us hl => match us, hl with | [_], _ => rfl
  have D20 := def_mk (st := lRight) (ps := ["_law_text"]) X G a20 l20 c20 k20 fun _ _ _ _ _ _ us hl => match us, hl with | [_], _ => rfl
  have D21 := def_mk (st := lFew) (ps := []) X G a21 l21 c21 k21 fun _ _ _ _ _ _ us hl => match us, hl with | [], _ => rfl
  have D22 := def_mk (st := lLaw) (ps := ["_law_script"]) X G a22 l22 c22 k22 fun _ _ _ _ _ _ us hl => match us, hl with | [_], _ => rfl
  have o : Own mg := ⟨PySem.W.mg_none_of X G z1, PySem.W.mg_none_of X G z2, PySem.W.mg_none_of X G z3, PySem.W.mg_none_of X G z4, PySem.W.mg_none_of X G z5, PySem.W.mg_none_of X G z6, PySem.W.mg_none_of X G z7, PySem.W.mg_none_of X G z8, PySem.W.mg_none_of X G z9, PySem.W.mg_none_of X G z10, PySem.W.mg_none_of X G z11, PySem.W.mg_none_of X G z12, PySem.W.mg_none_of X G z13, PySem.W.mg_none_of X G z14, PySem.W.mg_none_of X G z15⟩
  have o6 : Own6 mg := ⟨PySem.W.mg_none_of X G z16, PySem.W.mg_none_of X G z17⟩
  refine ⟨PySem.W.fnOf "law" "law" (defArgs lLaw) (defBody lLaw) (defScope lLaw) .none kV22 dc22 pm22 an22 cd22 ct22, fun s v => .of_eq rfl, fun base _ _ => ?_⟩
  have xc : XC K cT bm := ⟨⟨_, _, _, _, _, _, _, _, _, _, _, _, _, _, _, xl, xo, xi⟩, xt⟩
  have er : Errs K mg cR cP cW cU cL cF cN cT bm := ⟨PySem.W.mg_of X G mcR, PySem.W.mg_of X G mcP, PySem.W.mg_of X G mcW, PySem.W.mg_of X G mcU, PySem.W.mg_of X G mcL, PySem.W.mg_of X G mcF, PySem.W.mg_of X G mcN, PySem.W.mg_of X G mcT, PySem.W.mg_none_of X G mV, xc, ⟨g1, g2, g3, g4, g5⟩, em, kT, kV, kcP, kcW, kcU, kcL, kcF, kcN⟩
  have G1 := ok_whole (P := l.prog) (w := w) (base := base) D1 o
  have G2 := ok_primeB (P := l.prog) (w := w) (base := base) D2 o D1 G1 (PySem.W.mg_of X G y1) (PySem.W.mg_of X G y2)
  have GP6 := ok_prime6 G2
  have G3 := ok_restB (P := l.prog) (w := w) (base := base) D3 D1 G1
  have G4 := ok_areB (P := l.prog) (w := w) (base := base) D4 o D3 G3
  have GA6 := ok_are G4
  have G5 := ok_needPrime (P := l.prog) (w := w) (base := base) D5 D2 GP6
  have G6 := ok_needRow (P := l.prog) (w := w) (base := base) D6 D4 GA6
  have G7 := ok_written (P := l.prog) (w := w) (base := base) D7 D5 G5 D6 G6
  have G10 := ok_isNum (P := l.prog) (w := w) (base := base) D10 o (PySem.W.mg_of X G y3) (PySem.W.mg_of X G y4)
  have G9 := ok_numT (P := l.prog) (w := w) (base := base) D9 o D10 G10 xc er.mT
  have G8 := ok_read (P := l.prog) (w := w) (base := base) D8 o o6 D9 G9 D2 G2 D4 G4 xc er.mT
  have G11 := ok_cell (P := l.prog) (w := w) (base := base) D11 o
  have G12 := ok_draw (P := l.prog) (w := w) (base := base) D12 
  have G13 := ok_primeL (P := l.prog) (w := w) (base := base) D13 D11 G11 D12 G12
  have G14 := ok_rests (P := l.prog) (w := w) (base := base) D14 o D11 G11 D12 G12
  have G16 := ok_dueL (P := l.prog) (w := w) (base := base) D16 o
  have G15 := ok_row (P := l.prog) (w := w) (base := base) D15 o D11 G11 D12 G12 D14 G14 D16 G16
  have G17 := ok_lnum (P := l.prog) (w := w) (base := base) D17 o
  have G18 := ok_lin (P := l.prog) (w := w) (base := base) D18 o D17 G17
  have G19 := ok_lref (P := l.prog) (w := w) (base := base) D19 o er D8 G8
  have G20 := ok_lright (P := l.prog) (w := w) (base := base) D20 o o6 D18 G18 D19 G19 D8 G8 D7 G7
  have G21 := ok_lfew (P := l.prog) (w := w) (base := base) D21 
  have T : Kit6 l.prog w K mg base (fun i => [f1, f13, f15, f7, f20, f11, f12, f21, f19].getD i f1) (fun i => [fdOf D1, fdOf D13, fdOf D15, fdOf D7, fdOf D20, fdOf D11, fdOf D12, fdOf D21, fdOf D19].getD i (fdOf D1)) := ⟨o, o6, D13, G13, D15, G15, D7, G7, D20, G20, D11, G11, D12, G12, D21, G21, D19, G19⟩
  exact ok_law D22 T

theorem walk {l : PySem.W.OpenLaw} {q : Program} {loose : List Str} {XP : (Str → Option Value) → Heap → Prop} {YP : World → Heap → Prop} {d : DefRec} {K : Params → PySem.W.Frag} (hn : l.most = some 63) (hdf : d.params.defaults = [])
    (hY : ∀ (w : World) (h : Heap), YP w h → (K w.params).In h)
    (F : ∀ (w : World) (mg : Str → Option Value) (fa : Addr) (h : Heap), (K w.params).In h → h.Ns mainGlobals mg → mg d.name = some (.ref fa) →
      ∃ fd : FuncData, (∀ (s : Shared) (u : Value), BindsTo s fd ⟨[u], []⟩ [("_law_script", u)]) ∧ ∀ base : Heap, (K w.params).In base → base.Ns mainGlobals mg → FnOk l.prog w (K w.params) mg base CX0 7 fa fd ["_law_script"] (spLaw (K w.params))) :
    PySem.W.WalkO q loose XP YP l.row.toRowW d [] (fun f vs => PySem.call f vs) :=
  L2.walk_of (n := 63) (k := 7) (x := "_law_script") (CX := fun _ => CX0) (sp := fun w => spLaw (K w.params)) hn (by decide) hdf ⟨rfl, by decide, by decide⟩ hY F (fun _ _ a ns hl _ hS => ⟨a, ns, rfl, hS, hl, fun _ => rfl⟩) fun _ _ _ _ _ z => z
end Rr

set_option Elab.async false
set_option linter.all false
open PySem PySem.W PyProof.Rows
set_option maxRecDepth 100000 in
set_option maxHeartbeats 0 in
theorem PySem.Challenge.cw_rulerow_k06_written_holds : PySem.Challenge.rw_rulerow_k06_written.Holds := by
  w_on; o_law; k_head; (case hw => w_witness2)
  k_fill
  refine Rr.walk (l := PySem.Challenge.rw_rulerow_k06_written) rfl rfl (fun w h Y => PySem.W.kIn_of Y) ?F
  case F =>
    intro w mg fa h KX G hmg
    refine' Rr.all_mk KX G hmg ?a1 ?l1 ?c1 ?k1 ?a2 ?l2 ?c2 ?k2 ?a3 ?l3 ?c3 ?k3 ?a4 ?l4 ?c4 ?k4 ?a5 ?l5 ?c5 ?k5 ?a6 ?l6 ?c6 ?k6 ?a7 ?l7 ?c7 ?k7 ?a8 ?l8 ?c8 ?k8 ?a9 ?l9 ?c9 ?k9 ?a10 ?l10 ?c10 ?k10 ?a11 ?l11 ?c11 ?k11 ?a12 ?l12 ?c12 ?k12 ?a13 ?l13 ?c13 ?k13 ?a14 ?l14 ?c14 ?k14 ?a15 ?l15 ?c15 ?k15 ?a16 ?l16 ?c16 ?k16 ?a17 ?l17 ?c17 ?k17 ?a18 ?l18 ?c18 ?k18 ?a19 ?l19 ?c19 ?k19 ?a20 ?l20 ?c20 ?k20 ?a21 ?l21 ?c21 ?k21 ?a22 ?l22 ?c22 ?k22 ?z1 ?z2 ?z3 ?z4 ?z5 ?z6 ?z7 ?z8 ?z9 ?z10 ?z11 ?z12 ?z13 ?z14 ?z15 ?z16 ?z17 ?mcR ?mcP ?mcW ?mcU ?mcL ?mcF ?mcN ?mcT ?mV ?xl ?xo ?xi ?xt ?g1 ?g2 ?g3 ?g4 ?g5 ?em ?kT ?kV ?kcP ?kcW ?kcU ?kcL ?kcF ?kcN ?y1 ?y2 ?y3 ?y4
    (case a1 => k_is); (case l1 => k_is); (case c1 => k_is); (case k1 => k_is)
    (case a2 => k_is); (case l2 => k_is); (case c2 => k_is); (case k2 => k_is)
    (case a3 => k_is); (case l3 => k_is); (case c3 => k_is); (case k3 => k_is)
    (case a4 => k_is); (case l4 => k_is); (case c4 => k_is); (case k4 => k_is)
    (case a5 => k_is); (case l5 => k_is); (case c5 => k_is); (case k5 => k_is)
    (case a6 => k_is); (case l6 => k_is); (case c6 => k_is); (case k6 => k_is)
    (case a7 => k_is); (case l7 => k_is); (case c7 => k_is); (case k7 => k_is)
    (case a8 => k_is); (case l8 => k_is); (case c8 => k_is); (case k8 => k_is)
    (case a9 => k_is); (case l9 => k_is); (case c9 => k_is); (case k9 => k_is)
    (case a10 => k_is); (case l10 => k_is); (case c10 => k_is); (case k10 => k_is)
    (case a11 => k_is); (case l11 => k_is); (case c11 => k_is); (case k11 => k_is)
    (case a12 => k_is); (case l12 => k_is); (case c12 => k_is); (case k12 => k_is)
    (case a13 => k_is); (case l13 => k_is); (case c13 => k_is); (case k13 => k_is)
    (case a14 => k_is); (case l14 => k_is); (case c14 => k_is); (case k14 => k_is)
    (case a15 => k_is); (case l15 => k_is); (case c15 => k_is); (case k15 => k_is)
    (case a16 => k_is); (case l16 => k_is); (case c16 => k_is); (case k16 => k_is)
    (case a17 => k_is); (case l17 => k_is); (case c17 => k_is); (case k17 => k_is)
    (case a18 => k_is); (case l18 => k_is); (case c18 => k_is); (case k18 => k_is)
    (case a19 => k_is); (case l19 => k_is); (case c19 => k_is); (case k19 => k_is)
    (case a20 => k_is); (case l20 => k_is); (case c20 => k_is); (case k20 => k_is)
    (case a21 => k_is); (case l21 => k_is); (case c21 => k_is); (case k21 => k_is)
    (case a22 => k_is); (case l22 => k_is); (case c22 => k_is); (case k22 => k_is)
    (case z1 => k_is); (case z2 => k_is); (case z3 => k_is); (case z4 => k_is)
    (case z5 => k_is); (case z6 => k_is); (case z7 => k_is); (case z8 => k_is)
    (case z9 => k_is); (case z10 => k_is); (case z11 => k_is); (case z12 => k_is)
    (case z13 => k_is); (case z14 => k_is); (case z15 => k_is); (case z16 => k_is)
    (case z17 => k_is); (case mcR => k_is); (case mcP => k_is); (case mcW => k_is)
    (case mcU => k_is); (case mcL => k_is); (case mcF => k_is); (case mcN => k_is)
    (case mcT => k_is); (case mV => k_is); (case xl => k_is); (case xo => kernel_rfl)
    (case xi => k_is); (case xt => kernel_rfl); (case g1 => k_is); (case g2 => k_is)
    (case g3 => k_is); (case g4 => k_is); (case g5 => k_is); (case em => kernel_rfl)
    (case kT => kernel_rfl); (case kV => kernel_rfl); (case kcP => kernel_rfl); (case kcW => kernel_rfl)
    (case kcU => kernel_rfl); (case kcL => kernel_rfl); (case kcF => kernel_rfl); (case kcN => kernel_rfl)
    (case y1 => k_is); (case y2 => k_is); (case y3 => k_is); (case y4 => k_is)
