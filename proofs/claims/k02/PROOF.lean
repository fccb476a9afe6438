import PyProof.Rows.All
import Wide.All
import OpenK.AllK
import Wide.FinOn
import Lean
import PyProof.EqAt
import PyProof.EqKinds
import PyProof.TupleCall
import PyProof.Draws
import PyProof.Rows.CallKwBuiltin
import OpenK.KOwn
import KE.KTryMore
import PyProof.RulesAs
import PySem.Challenge.RW_rulerow_k02_whole_others
set_option Elab.async false
set_option bootstrap.genMatcherCode false
set_option linter.all false
set_option maxRecDepth 100000
namespace L2
open PySem PySem.Spec PyProof.Rows

noncomputable abbrev Key := Sum Int Str
noncomputable def keyIs : Key → Value → Bool
  | .inl k, v => Value.isInt k v
  | .inr x, v => Value.isStrOf x v
noncomputable def keyH (w : World) : Key → Int
  | .inl k => hashInt k
  | .inr x => hashStr w x
theorem keyIs_shape : ∀ {k : Key} {v : Value}, keyIs k v = true → (∃ i t, k = Sum.inl i ∧ v = Value.int i t) ∨ (∃ x t, k = Sum.inr x ∧ v = Value.str x t)
  | .inl i, v, h => by
    obtain ⟨t, e⟩ := Value.isInt_shape (k := i) (v := v) h
    exact .inl ⟨i, t, rfl, e⟩
  | .inr x, v, h => by
    obtain ⟨t, e⟩ := Value.isStrOf_shape (x := x) (v := v) h
    exact .inr ⟨x, t, rfl, e⟩
theorem key_ll (a b : Int) : decide ((Sum.inl a : Key) = Sum.inl b) = (a == b) := by
  by_cases e : a = b
  · subst e; simp
  · have h : ¬ (Sum.inl a : Key) = Sum.inl b := fun q => e (Sum.inl.inj q)
    rw [decide_eq_false h]
    exact (beq_eq_false_iff_ne.mpr e).symm
theorem key_rr (a b : Str) : decide ((Sum.inr a : Key) = Sum.inr b) = decide (a = b) := by
  by_cases e : a = b
  · subst e; simp
  · have h : ¬ (Sum.inr a : Key) = Sum.inr b := fun q => e (Sum.inr.inj q)
    rw [decide_eq_false h, decide_eq_false e]
theorem key_lr (a : Int) (b : Str) : decide ((Sum.inl a : Key) = Sum.inr b) = false := decide_eq_false (fun q => nomatch q)
theorem key_rl (a : Str) (b : Int) : decide ((Sum.inr a : Key) = Sum.inl b) = false := decide_eq_false (fun q => nomatch q)

noncomputable def mixKind (prog : Program) (w : World) : PySem.KeyKind prog w Key where
  is := keyIs
  hash := keyH w
  inj := fun v a b ha hb => by
    rcases keyIs_shape ha with ⟨i, t, rfl, rfl⟩ | ⟨x, t, rfl, rfl⟩
    · rcases keyIs_shape hb with ⟨j, u, rfl, e⟩ | ⟨y, u, rfl, e⟩
      · injection e with e1 _; rw [e1]
      · exact nomatch e
    · rcases keyIs_shape hb with ⟨j, u, rfl, e⟩ | ⟨y, u, rfl, e⟩
      · exact nomatch e
      · injection e with e1 _; rw [e1]
  byValue := fun k v h => by
    rcases keyIs_shape h with ⟨i, t, rfl, rfl⟩ | ⟨x, t, rfl, rfl⟩ <;> rfl
  pyHash := fun hv h => by
    rcases keyIs_shape hv with ⟨i, t, rfl, rfl⟩ | ⟨x, t, rfl, rfl⟩
    · exact wpAny_pyHash_int h
    · exact wpAny_pyHash_str h
  eqBool := fun hu hv h => by
    rcases keyIs_shape hu with ⟨i, t, rfl, rfl⟩ | ⟨x, t, rfl, rfl⟩
    · rcases keyIs_shape hv with ⟨j, u, rfl, rfl⟩ | ⟨y, u, rfl, rfl⟩
      · rw [key_ll] at h; exact wpAny_eqBool_int h
      · rw [key_lr] at h; exact SeqAt.EqAt.int_str i t y u _ _ _ _ h
    · rcases keyIs_shape hv with ⟨j, u, rfl, rfl⟩ | ⟨y, u, rfl, rfl⟩
      · rw [key_rl] at h; exact SeqAt.EqAt.str_int x t j u _ _ _ _ h
      · rw [key_rr] at h; exact wpAny_eqBool_str h
  «strs» := fun k x t v h => by
    rcases keyIs_shape h with ⟨i, u, rfl, e⟩ | ⟨y, u, rfl, e⟩
    · exact nomatch e
    · injection e with e1 _
      subst e1
      cases v <;> rfl

end L2

namespace L2
open PySem PySem.Spec PyProof.Rows

inductive V where
  | non | bl (b : Bool) | int (i : Int) | str (x : Str) | byt (b : Array UInt8) | flt (b : UInt64) | ref (a : Addr) | ty (n : String)
  deriving DecidableEq

noncomputable def RelV : V → Value → Prop
  | .non, u => u = Value.none
  | .bl b, u => u = Value.bool b
  | .int i, u => ∃ t, u = Value.int i t
  | .str x, u => ∃ t, u = Value.str x t
  | .byt b, u => ∃ t, u = Value.bytes b t
  | .flt b, u => ∃ t, u = Value.float b t
  | .ref a, u => u = Value.ref a
  | .ty n, u => u = Value.type n

noncomputable abbrev Vals : List V → List Value → Prop := Paired RelV
theorem Vals.length {xs : List V} {us : List Value} (r : Vals xs us) : xs.length = us.length := Paired.length r
theorem Vals.get : ∀ {xs : List V} {us : List Value} {i : Nat} {x : V}, Vals xs us → xs[i]? = some x → ∃ u, us[i]? = some u ∧ RelV x u
  | _, _, _, _, .nil, e => by simp at e
  | _, _, 0, _, .cons r _, e => by simp at e; subst e; exact ⟨_, rfl, r⟩
  | _, _, i + 1, x, .cons _ t, e => by
    obtain ⟨u, h1, h2⟩ := Vals.get (i := i) (x := x) t (by simpa using e)
    exact ⟨u, by simpa using h1, h2⟩
theorem Vals.set {x : V} {u : Value} (r : RelV x u) : ∀ {xs : List V} {us : List Value} (i : Nat), Vals xs us → Vals (xs.set i x) (us.set i u)
  | _, _, _, .nil => .nil
  | _, _, 0, .cons _ t => .cons r t
  | _, _, i + 1, .cons q t => .cons q (Vals.set r i t)
theorem Vals.append : ∀ {xs ys : List V} {us ws : List Value}, Vals xs us → Vals ys ws → Vals (xs ++ ys) (us ++ ws)
  | _, _, _, _, .nil, s => s
  | _, _, _, _, .cons r t, s => .cons r (Vals.append t s)
theorem Vals.take : ∀ {xs : List V} {us : List Value} (n : Nat), Vals xs us → Vals (xs.take n) (us.take n)
  | _, _, 0, _ => .nil
  | _, _, _ + 1, .nil => .nil
  | _, _, n + 1, .cons r t => .cons r (Vals.take n t)
theorem Vals.drop : ∀ {xs : List V} {us : List Value} (n : Nat), Vals xs us → Vals (xs.drop n) (us.drop n)
  | _, _, 0, r => r
  | _, _, _ + 1, .nil => .nil
  | _, _, n + 1, .cons _ t => Vals.drop n t
noncomputable def RelO : Option V → Option Value → Prop
  | some v, some u => RelV v u
  | none, none => True
  | _, _ => False
noncomputable def KV {κ : Type} : List (κ × V) → List (κ × Value) → Prop := Paired fun (p : κ × V) (q : κ × Value) => p.1 = q.1 ∧ RelV p.2 q.2

noncomputable def kV : Key → V
  | .inl i => .int i
  | .inr x => .str x

inductive HO where
  /-- a list -/
  | lst (xs : List V)
  /-- a tuple (never changes) -/
  | tup (xs : List V)
  /-- a dict whose keys are ints and texts; one whose keys are tuples of ints and texts (the empty one is both) -/
  | dK (kvs : List (Key × V)) | dT (kvs : List (List Key × V))
  /-- a set of ints: its members, its size -/
  | set (S : Int → Bool) (n : Nat)
  /-- an instance of the class at C, its dict at dx, its attributes -/
  | ins (C dx : Addr) (fs : List (Str × V))
  /-- the dict of the instance at x -/
  | own (x : Addr)
  /-- the dict of an exception -/
  | xd (fs : List (Str × V))
  /-- a bound method, f of x -/
  | met (f x : Addr)
  /-- a range object lo, lo + 1, .. below hi -/
  | rng (lo hi : Int)
  /-- a thing that is known to the object (the script; a dict while a loop walks it): read, never written while it is so -/
  | frz (o : Obj) (u : HO)
  /-- a code object's table -/
  | tbl (ps : Array Value)
  /-- any other thing, by what is true of its one object (a def of one's own: SetO a S n := HO.ext fun h => ..) -/
  | ext (φ : Heap → Prop)

noncomputable abbrev Hp := Addr → Option HO
noncomputable def upd (H : Hp) (a : Addr) (o : HO) : Hp := fun b => if b = a then some o else H b
theorem upd_same {H : Hp} {a : Addr} {o : HO} : upd H a o a = some o := by unfold upd; rw [if_pos rfl]
theorem upd_ne {H : Hp} {a b : Addr} {o : HO} (h : b ≠ a) : upd H a o b = H b := by unfold upd; rw [if_neg h]
theorem ne_of {H : Hp} {a b : Addr} {o u : HO} (h : H a = some o) (h' : H b = some u) (d : o ≠ u) : a ≠ b := by
  intro e; subst e; rw [h] at h'; exact d (Option.some.inj h')
theorem ne_of_none {H : Hp} {a b : Addr} {o : HO} (h : H a = some o) (h' : H b = none) : a ≠ b := by
  intro e; subst e; rw [h] at h'; cases h'

section
variable (P : Program) (w : World)
noncomputable def ObjOk (H : Hp) (h : Heap) (a : Addr) : HO → Prop
  | .lst xs => xs.length ≤ sizeLine ∧ ∃ (its : List Value) (n : Nat), Vals xs its ∧ h.get? a = some { cls := .type "list", data := .seq its.toArray n }
  | .tup xs => xs.length ≤ sizeLine ∧ ∃ its : List Value, Vals xs its ∧ IsTup h a its.toArray
  | .dK kvs => kvs.length ≤ sizeLine ∧ (a == sysModules) = false ∧ ∃ vs, KV kvs vs ∧ h.DictOf (mixKind P w) a vs
  | .dT kvs => kvs.length ≤ sizeLine ∧ (a == sysModules) = false ∧ ∃ xs : List (List Key × Addr × Value),
      Paired (fun (p : List Key × V) (q : List Key × Addr × Value) => p.1 = q.1 ∧ H q.2.1 = some (.tup (p.1.map kV)) ∧ RelV p.2 q.2.2) kvs xs ∧
      ∃ o es ep, h.get? a = some o ∧ o.ExactDict ∧ o.data = .dict es ep ∧ es.toList = xs.map (entryOfKey (tupleKind (mixKind P w))) ∧ (xs.map (·.1)).Nodup
  | .set S n => h.SetOf (intKind P w) a S n
  | .ins C dx fs => H dx = some (.own a) ∧ fs.length ≤ 1000 ∧ dx ≠ a ∧ h.get? a = some (PySem.W.instObj C dx) ∧
      ∃ mA, h.Ns1 dx mA ∧ (∀ f, RelO (fs.lookup f) (mA f)) ∧ PySem.Within mA (fs.map (·.1))
  | .own _ => ∃ o, h.get? a = some o
  | .xd fs => ∃ mA, h.Ns1 a mA ∧ ∀ f, RelO (fs.lookup f) (mA f)
  | .rng lo hi => ∃ t u v, h.get? a = some { cls := .type "range", data := .fields #[.int lo t, .int hi u, .int 1 v] }
  | .frz o u => h.get? a = some o ∧ ObjOk H h a u
  | .tbl ps => h.get? a = some { cls := .none, data := .fields ps }
  | .met f x => h.get? a = some (PySem.W.methodObj (.ref f) (.ref x))
  | .ext φ => φ h ∧ (∃ o, h.get? a = some o) ∧ ∀ h1 h2 : Heap, φ h1 → (∀ o, h1.get? a = some o → h2.get? a = some o) → φ h2
noncomputable def HOk (H : Hp) (h : Heap) : Prop := ∀ a o, H a = some o → ObjOk P w H h a o
end

section
variable {P : Program} {w : World} {H H' : Hp} {h h' : Heap} {a : Addr} {o : HO}
theorem ObjOk.lt (x : ObjOk P w H h a o) : a < h.objs.size := by
  cases o with
  | lst xs => obtain ⟨_, _, _, _, e⟩ := x; exact Heap.lt_size e
  | tup xs => obtain ⟨_, _, _, p⟩ := x; exact p.lt
  | dK kvs => obtain ⟨_, _, _, _, o, _, _, e, _⟩ := x; exact Heap.lt_size e
  | dT kvs => obtain ⟨_, _, _, _, o, _, _, e, _⟩ := x; exact Heap.lt_size e
  | set S n => obtain ⟨o, _, _, _, e, _⟩ := x; exact Heap.lt_size e
  | ins C dx fs => obtain ⟨_, _, _, e, _⟩ := x; exact Heap.lt_size e
  | own y => obtain ⟨_, e⟩ := x; exact Heap.lt_size e
  | xd fs => obtain ⟨_, ⟨_, _, _, e, _⟩, _⟩ := x; exact Heap.lt_size e
  | rng lo hi => obtain ⟨_, _, _, e⟩ := x; exact Heap.lt_size e
  | frz ob u => obtain ⟨e, _⟩ := x; exact Heap.lt_size e
  | tbl ps => exact Heap.lt_size (show h.get? a = some _ from x)
  | met f y => exact Heap.lt_size (show h.get? a = some _ from x)
  | ext φ => obtain ⟨_, ⟨_, e⟩, _⟩ := x; exact Heap.lt_size e
theorem Paired.mapP {α β : Type} {F G : α → β → Prop} : ∀ {l₁ : List α} {l₂ : List β}, Paired F l₁ l₂ → (∀ a b, F a b → G a b) → Paired G l₁ l₂
  | _, _, .nil, _ => .nil
  | _, _, .cons r t, f => .cons (f _ _ r) (Paired.mapP t f)
theorem ObjOk.stay (x : ObjOk P w H h a o) (k : ∀ b u, (b = a ∨ H b = some (.own a)) → h.get? b = some u → h'.get? b = some u)
    (ho : ∀ b, H b = some (.own a) → H' b = some (.own a)) (ht : ∀ b xs, H b = some (.tup xs) → H' b = some (.tup xs)) : ObjOk P w H' h' a o := by
  induction o with
  | lst xs => obtain ⟨z, its, n, r, e⟩ := x; exact ⟨z, its, n, r, k _ _ (.inl rfl) e⟩
  | tup xs => obtain ⟨z, its, r, ob, e, c⟩ := x; exact ⟨z, its, r, ob, k _ _ (.inl rfl) e, c⟩
  | dK kvs => obtain ⟨z, y, vs, r, ob, es, ep, e, c⟩ := x; exact ⟨z, y, vs, r, ob, es, ep, k _ _ (.inl rfl) e, c⟩
  | dT kvs =>
    obtain ⟨z, y, xs, r, ob, es, ep, e, c⟩ := x
    exact ⟨z, y, xs, Paired.mapP r fun p q z => ⟨z.1, ht _ _ z.2.1, z.2.2⟩, ob, es, ep, k _ _ (.inl rfl) e, c⟩
  | set S n => obtain ⟨ob, es, ep, t, e, c⟩ := x; exact ⟨ob, es, ep, t, k _ _ (.inl rfl) e, c⟩
  | ins C dx fs =>
    obtain ⟨d, z, ne, e, mA, ⟨od, es, ep, e2, c⟩, r⟩ := x
    exact ⟨ho _ d, z, ne, k _ _ (.inl rfl) e, mA, ⟨od, es, ep, k _ _ (.inr d) e2, c⟩, r⟩
  | own y => obtain ⟨ob, e⟩ := x; exact ⟨ob, k _ _ (.inl rfl) e⟩
  | xd fs => obtain ⟨mA, ⟨od, es, ep, e, c⟩, r⟩ := x; exact ⟨mA, ⟨od, es, ep, k _ _ (.inl rfl) e, c⟩, r⟩
  | rng lo hi => obtain ⟨t, u, v, e⟩ := x; exact ⟨t, u, v, k _ _ (.inl rfl) e⟩
  | frz ob u ih => obtain ⟨e, q⟩ := x; exact ⟨k _ _ (.inl rfl) e, ih q⟩
  | tbl ps =>
    have e : h.get? a = some { cls := .none, data := .fields ps } := x
    show h'.get? a = some { cls := .none, data := .fields ps }
    exact k a _ (.inl rfl) e
  | met f y =>
    have e : h.get? a = some (PySem.W.methodObj (.ref f) (.ref y)) := x
    show h'.get? a = some (PySem.W.methodObj (.ref f) (.ref y))
    exact k a _ (.inl rfl) e
  | ext φ => obtain ⟨p, ⟨o, e⟩, st⟩ := x; exact ⟨st _ _ p fun o q => k _ _ (.inl rfl) q, ⟨o, k _ _ (.inl rfl) e⟩, st⟩
theorem HOk.lt (x : HOk P w H h) (e : H a = some o) : a < h.objs.size := (x a o e).lt
theorem HOk.fresh (x : HOk P w H h) (e : h.objs.size ≤ a) : H a = none := by
  cases q : H a with
  | none => rfl
  | some u => exact absurd (Nat.lt_of_lt_of_le (x.lt q) e) (Nat.lt_irrefl _)
theorem HOk.kept (x : HOk P w H h) (k : ∀ b u, h.get? b = some u → h'.get? b = some u) : HOk P w H h' := fun a o e =>
  (x a o e).stay (fun b u _ q => k b u q) (fun _ q => q) fun _ _ q => q
theorem HOk.laid (x : HOk P w H h) (k : ∀ b u, h.get? b = some u → h'.get? b = some u) (hp : h.objs.size ≤ a) (new : ObjOk P w (upd H a o) h' a o) : HOk P w (upd H a o) h' := fun b u e => by
  have hn := x.fresh hp
  by_cases hb : b = a
  · subst hb; rw [upd_same] at e; cases e; exact new
  · rw [upd_ne hb] at e
    exact (x b u e).stay (fun c v _ q => k c v q) (fun c q => by rw [upd_ne (ne_of_none q hn)]; exact q) fun c xs q => by rw [upd_ne (ne_of_none q hn)]; exact q
end

noncomputable def Rd (H : Hp) (a : Addr) (u : HO) : Prop := H a = some u ∨ ∃ o, H a = some (.frz o u)
theorem Rd.of {H : Hp} {a : Addr} {u : HO} (h : H a = some u) : Rd H a u := .inl h
theorem Rd.ok {P : Program} {w : World} {H : Hp} {h : Heap} {a : Addr} {u : HO} (r : Rd H a u) (x : HOk P w H h) : ObjOk P w H h a u := by
  rcases r with r | ⟨o, r⟩
  · exact x a u r
  · obtain ⟨_, q⟩ := x a _ r
    exact q
noncomputable def Mut : Option HO → Prop
  | some (.lst _) => True
  | some (.dK _) => True
  | some (.dT _) => True
  | some (.set _ _) => True
  | some (.ins _ _ _) => True
  | some (.ext _) => True
  | _ => False
section
variable {P : Program} {w : World} {H : Hp} {h h' : Heap} {x e : Addr} {o' : HO}
theorem HOk.write (ok : HOk P w H h) (mu : Mut (H x)) (he : e = x ∨ H e = some (.own x)) (k : ∀ b u, b ≠ e → h.get? b = some u → h'.get? b = some u) (heo : ∃ u, h'.get? e = some u)
    (new : ObjOk P w (upd H x o') h' x o') : HOk P w (upd H x o') h' := fun b u q => by
  have nown : ∀ c y, H c = some (.own y) → c ≠ x := fun c y r z => by subst z; rw [r] at mu; exact mu
  have ntup : ∀ c xs, H c = some (.tup xs) → c ≠ x := fun c xs r z => by subst z; rw [r] at mu; exact mu
  by_cases hb : b = x
  · subst hb; rw [upd_same] at q; cases q; exact new
  · rw [upd_ne hb] at q
    by_cases hbe : b = e
    · have q' : H b = some (.own x) := by
        rcases he with z | z
        · exact absurd (hbe.trans z) hb
        · rw [hbe]; exact z
      rw [q] at q'; cases q'
      obtain ⟨v, hv⟩ := heo
      exact ⟨v, by rw [hbe]; exact hv⟩
    · refine (ok b u q).stay (fun c v hc r => k c v ?_ r) (fun c r => by rw [upd_ne (nown c b r)]; exact r) fun c xs r => by rw [upd_ne (ntup c xs r)]; exact r
      rcases hc with rfl | hc
      · exact hbe
      · rintro rfl
        rcases he with z | z
        · exact nown c b hc z
        · rw [hc] at z; cases z; exact hb rfl
end

structure Un (fs ex : List Addr) (H H' : Hp) (h h' : Heap) : Prop where
  keep : ∀ b o, h.get? b = some o → H b = none → b ∉ fs → b ∉ ex → h'.get? b = some o
  slot : ∀ b o, h.get? b = some o → H b = none → b ∈ fs → b ∉ ex → ∃ sl, h'.get? b = some { o with slots := sl }
  free : ∀ b o, h.get? b = some o → H b = none → b ∉ ex → H' b = none
  there : ∀ b o, h.get? b = some o → b ∉ ex → ∃ o', h'.get? b = some o'
  tups : ∀ b xs, H b = some (.tup xs) → H' b = some (.tup xs)
  frzs : ∀ b o u, H b = some (.frz o u) → H' b = some (.frz o u)
  tbls : ∀ b ps, H b = some (.tbl ps) → ∃ more, H' b = some (.tbl (ps ++ more))
section
variable {fs fs' ex ex' : List Addr} {H H1 H2 : Hp} {h h1 h2 h' : Heap} {a x e : Addr} {o : HO}
theorem Un.any (u : Un fs ex H H1 h h1) {b : Addr} {ob : Obj} (q : h.get? b = some ob) (n : H b = none) (hx : b ∉ ex) : ∃ sl, h1.get? b = some { ob with slots := sl } := by
  by_cases hb : b ∈ fs
  · exact u.slot b ob q n hb hx
  · exact ⟨ob.slots, u.keep b ob q n hb hx⟩
theorem Un.kept (k : ∀ b u, h.get? b = some u → h'.get? b = some u) : Un fs ex H H h h' :=
  ⟨fun b ob q _ _ _ => k b ob q, fun b ob q _ _ _ => ⟨ob.slots, k b ob q⟩, fun _ _ _ n _ => n, fun b ob q _ => ⟨ob, k b ob q⟩, fun _ _ q => q, fun _ _ _ q => q, fun _ ps q => ⟨#[], by rw [q]; simp⟩⟩
theorem Un.refl : Un fs ex H H h h := Un.kept fun _ _ q => q
theorem Un.laid (k : ∀ b u, h.get? b = some u → h'.get? b = some u) (hp : h.objs.size ≤ a) (hn : H a = none) : Un fs ex H (upd H a o) h h' where
  keep := fun b u q _ _ _ => k b u q
  slot := fun b u q _ _ _ => ⟨u.slots, k b u q⟩
  free := fun b u q n _ => by rw [upd_ne (Nat.ne_of_lt (Nat.lt_of_lt_of_le (Heap.lt_size q) hp))]; exact n
  there := fun b u q _ => ⟨u, k b u q⟩
  tups := fun b xs q => by rw [upd_ne (ne_of_none q hn)]; exact q
  frzs := fun b u xs q => by rw [upd_ne (ne_of_none q hn)]; exact q
  tbls := fun b ps q => ⟨#[], by rw [upd_ne (ne_of_none q hn), q]; simp⟩
theorem Un.write (mu : Mut (H x)) (he : e = x ∨ H e = some (.own x)) (k : ∀ b u, b ≠ e → h.get? b = some u → h'.get? b = some u) (heo : ∃ u, h'.get? e = some u) : Un fs ex H (upd H x o) h h' := by
  have hx : ∀ b, H b = none → b ≠ x := fun b n z => by subst z; rw [n] at mu; exact mu
  have hb : ∀ b, H b = none → b ≠ e := fun b n z => by
    subst z
    rcases he with r | r
    · exact hx b n r
    · rw [n] at r; cases r
  have hm : ∀ b u, H b = some u → ¬ Mut (some u) → b ≠ x := fun b u q nm z => by subst z; rw [q] at mu; exact nm mu
  refine ⟨fun b u q n _ _ => k b u (hb b n) q, fun b u q n _ _ => ⟨u.slots, k b u (hb b n) q⟩, fun b u q n _ => by rw [upd_ne (hx b n)]; exact n, fun b u q _ => ?_,
    fun b xs q => by rw [upd_ne (hm b _ q fun z => z)]; exact q, fun b u xs q => by rw [upd_ne (hm b _ q fun z => z)]; exact q, fun b ps q => ⟨#[], by rw [upd_ne (hm b _ q fun z => z), q]; simp⟩⟩
  by_cases hbe : b = e
  · subst hbe; exact heo
  · exact ⟨u, k b u hbe q⟩
end

noncomputable def trk (h : Heap) (H : Hp) : List Addr := (List.range h.objs.size).filter fun a => (H a).isSome
noncomputable def hidT (h : Heap) (H : Hp) : Heap := PySem.W.hideAll h (trk h H)
theorem hidT_size (h : Heap) (H : Hp) : (hidT h H).objs.size = h.objs.size := PySem.W.hideAll_size _ _
theorem hidT_get {h : Heap} {H : Hp} {b : Addr} {o : Obj} (e : h.get? b = some o) (n : H b = none) : (hidT h H).get? b = some o :=
  PySem.W.hideAll_get _ e fun hm => by
    have q : (H b).isSome = true := (List.mem_filter.mp hm).2
    rw [n] at q; simp at q
theorem of_hidT {h : Heap} {H : Hp} {b : Addr} {o : Obj} (e : (hidT h H).get? b = some o) : h.get? b = some o ∧ H b = none := by
  have e' : h.get? b = some o := PySem.W.of_hideAll (trk h H) e
  refine ⟨e', ?_⟩
  cases q : H b with
  | none => rfl
  | some x =>
    have hm : b ∈ trk h H := List.mem_filter.mpr ⟨List.mem_range.mpr (Heap.lt_size e'), by simp [q]⟩
    have z : (hidT h H).get? b = none := PySem.W.hideAll_none (trk h H) hm
    rw [z] at e; cases e

end L2

namespace L2
open PySem PySem.Spec PyProof.Rows

structure Mod (K : PySem.W.Frag) (mg : Str → Option Value) (base : Heap) : Prop where
  kin : K.In base
  glob : base.Ns mainGlobals mg
  blt : ∃ mb, base.Ns builtinsNs mb ∧ ∀ x : Str, x ≠ "__name__" → mb x = bootBuiltins x
  nolimit : base.NoLimit

structure Cx where
  prog : Program
  w : World
  K : PySem.W.Frag
  mg : Str → Option Value
  base : Heap
  A : Around
  N : List Str
  s₀ : Shared
  H₀ : Hp
  env : Env
  outer : List Env
  stack : List Env
  ex : List Addr
  fn : Str → Bool
  calm : Bool
  pn : List (Addr × Obj)
  xe : Value → Shared → Prop
noncomputable def frs (l : List Env) : List Addr := l.filterMap (·.frame)
noncomputable abbrev Cx.fs (X : Cx) : List Addr := frs X.outer

noncomputable def Vis (sc : Scope) (x : Str) : Prop := sc.names.lookup x = some .local ∨ sc.names.lookup x = some .cell ∨ sc.names.lookup x = some .free
noncomputable def Loc (sc : Scope) (x : Str) : Prop := sc.names.lookup x = some .local ∨ sc.names.lookup x = some .cell
noncomputable def Look (env : Env) (h : Heap) (m : Str → Option Value) (x : Str) (u : Value) : Prop :=
  (env.kindOf x = some .local ∧ m x = some u) ∨ ((env.kindOf x = some .cell ∨ env.kindOf x = some .free) ∧ ∃ c, env.cells.lookup x = some c ∧ h.IsCell c (some u))

structure Cx.Ok (X : Cx) : Prop where
  mod : Mod X.K X.mg X.base
  kind : X.env.scope.kind = .function
  glob : X.env.globals = mainGlobals
  blt : X.env.builtins = builtinsNs
  above : X.s₀.heap.objs.size ≤ X.env.locals
  inj : ∀ x y c, X.env.cells.lookup x = some c → X.env.cells.lookup y = some c → x = y
  has : ∀ x, (X.env.kindOf x = some .cell ∨ X.env.kindOf x = some .free) → ∃ c, X.env.cells.lookup x = some c
  cab : ∀ x c, X.fn x = true → X.env.cells.lookup x = some c → X.s₀.heap.objs.size ≤ c
  hd : X.calm = true → X.A.handled = none
  frames : X.A.frames = some X.stack
  stk : X.stack = X.outer ∨ (X.stack = X.env :: X.outer ∧ X.env.frame = some X.env.locals)
  exf : ∀ b ∈ X.ex, b ≠ X.env.locals ∧ ∀ x c, X.env.cells.lookup x = some c → c ≠ b
  bs : ∀ b o, X.base.get? b = some o → X.s₀.heap.get? b = some o ∧ X.H₀ b = none
  bsz : X.base.objs.size ≤ X.s₀.heap.objs.size
  noex : ∀ b o, X.base.get? b = some o → b ∉ X.ex
  exfs : ∀ b ∈ X.ex, b ∉ X.fs
  funs : X.s₀.heap.FunFrames X.base X.outer
  frf : ∀ b ∈ X.fs, X.H₀ b = none

structure Inv (X : Cx) (pins : List (Addr × Obj)) (σ : List (Option V)) (H : Hp) (s : Shared) : Prop where
  ok : X.Ok
  os : s.os = X.s₀.os
  bare : AllBare s.gens
  base : Un X.fs X.ex X.H₀ H X.s₀.heap s.heap
  loc : ∃ m, s.heap.Ns X.env.locals m ∧ ∀ (i : Nat) (x : Str) (v : V), X.N[i]? = some x → σ[i]? = some (some v) → Vis X.env.scope x → ∃ u, RelV v u ∧ Look X.env s.heap m x u
  cell : ∀ x c, X.env.cells.lookup x = some c → ∃ v, s.heap.IsCell c v
  free : H X.env.locals = none
  freeC : ∀ x c, X.env.cells.lookup x = some c → H c = none
  pin : ∀ p ∈ X.pn ++ pins, s.heap.get? p.1 = some p.2 ∧ H p.1 = none ∧ p.1 ≠ X.env.locals ∧ p.1 ∉ X.fs ∧ ∀ v, p.2.data ≠ .cell v
  hok : HOk X.prog X.w H s.heap
  len : σ.length = X.N.length

section
variable {X : Cx} {pins : List (Addr × Obj)} {σ : List (Option V)} {H H' : Hp} {s : Shared} {h' : Heap}

theorem Cx.Ok.nofr (ok : X.Ok) {b : Addr} {o : Obj} (e : X.base.get? b = some o) : b ∉ X.fs := fun hb => by
  have := (ok.funs.mem hb).1
  rw [e] at this; cases this
theorem Inv.bs (I : Inv X pins σ H s) : ∀ b o, X.base.get? b = some o → s.heap.get? b = some o ∧ H b = none := fun b o e =>
  ⟨I.base.keep b o (I.ok.bs b o e).1 (I.ok.bs b o e).2 (I.ok.nofr e) (I.ok.noex b o e), I.base.free b o (I.ok.bs b o e).1 (I.ok.bs b o e).2 (I.ok.noex b o e)⟩
theorem Inv.bk (I : Inv X pins σ H s) : ∀ b o, X.base.get? b = some o → s.heap.get? b = some o := fun b o e => (I.bs b o e).1
theorem Inv.mod (I : Inv X pins σ H s) : Mod X.K X.mg X.base := I.ok.mod
theorem Inv.kIn (I : Inv X pins σ H s) : X.K.In s.heap := I.ok.mod.kin.keeps I.bk
theorem Inv.lt (I : Inv X pins σ H s) : X.env.locals < s.heap.objs.size := let ⟨_, hn, _⟩ := I.loc; hn.lt
theorem Inv.sz (I : Inv X pins σ H s) : X.s₀.heap.objs.size ≤ s.heap.objs.size := Nat.le_trans I.ok.above (Nat.le_of_lt I.lt)
theorem Inv.nofs (I : Inv X pins σ H s) {a : Addr} (h : s.heap.objs.size ≤ a) : a ∉ X.fs := fun hb => by
  obtain ⟨_, o, ho, _⟩ := I.ok.funs.mem hb
  exact absurd (Nat.lt_of_lt_of_le (Heap.lt_size ho) (Nat.le_trans I.sz h)) (Nat.lt_irrefl _)
theorem Inv.cne (I : Inv X pins σ H s) : ∀ x c, X.env.cells.lookup x = some c → c ≠ X.env.locals := fun x c e z => by
  obtain ⟨v, o, ho, hd⟩ := I.cell x c e
  obtain ⟨m, ⟨o', es, ep, ho', hd', _⟩, _⟩ := I.loc
  rw [z, ho'] at ho; cases ho; rw [hd'] at hd; cases hd
theorem Inv.funs (I : Inv X pins σ H s) : s.heap.FunFrames X.base X.outer := by
  have all : ∀ (l : List Env), (∀ b ∈ frs l, b ∈ X.fs) → X.s₀.heap.FunFrames X.base l → s.heap.FunFrames X.base l := by
    intro l
    induction l with
    | nil => intro _ _; trivial
    | cons env r ih =>
      intro hs hl
      obtain ⟨hk, ⟨L, o, hf, hn, ho, hd⟩, hr⟩ := hl
      have hL : L ∈ X.fs := hs L (by unfold frs; rw [List.filterMap_cons, hf]; exact List.mem_cons_self)
      obtain ⟨sl, e⟩ := I.base.slot L o ho (I.ok.frf L hL) hL fun z => I.ok.exfs L z hL
      exact ⟨hk, ⟨L, _, hf, hn, e, hd⟩, ih (fun b hb => hs b (by unfold frs; rw [List.filterMap_cons, hf]; exact List.mem_cons_of_mem _ hb)) hr⟩
  exact all X.outer (fun _ hb => hb) I.ok.funs

theorem Inv.stack (I : Inv X pins σ H s) : s.heap.FunFrames X.base X.stack := by
  rcases I.ok.stk with e | ⟨e, hf⟩
  · rw [e]; exact I.funs
  · rw [e]
    obtain ⟨m, hn, _⟩ := I.loc
    refine .cons (by rw [I.ok.kind]; decide) hf hn ?_ I.funs
    exact Heap.get?_none_of_le (Nat.le_trans I.ok.bsz I.ok.above)
theorem Inv.stkSub (I : Inv X pins σ H s) : ∀ b ∈ frs X.stack, b ∈ X.env.locals :: X.fs := fun b hb => by
  rcases I.ok.stk with e | ⟨e, hf⟩
  · rw [e] at hb; exact List.mem_cons_of_mem _ hb
  · rw [e] at hb
    unfold frs at hb
    rw [List.filterMap_cons, hf] at hb
    exact hb
theorem Inv.stkFree (I : Inv X pins σ H s) : ∀ b ∈ frs X.stack, H b = none := fun b hb => by
  rcases List.mem_cons.mp (I.stkSub b hb) with e | hb
  · rw [e]; exact I.free
  · obtain ⟨_, o, ho, _⟩ := I.ok.funs.mem hb
    exact I.base.free b o ho (I.ok.frf b hb) fun z => I.ok.exfs b z hb

theorem Inv.step {g' : Array GenState} {t' : Nat} {d' : Drawn} {ch : List Addr} (I : Inv X pins σ H s)
    (hch : ∀ b ∈ ch, (b ∈ X.ex ∨ X.s₀.heap.objs.size ≤ b) ∧ b ≠ X.env.locals ∧ (∀ x c, X.env.cells.lookup x = some c → c ≠ b) ∧ ∀ p ∈ X.pn ++ pins, p.1 ≠ b)
    (keep : ∀ b o, b ≠ X.env.locals → b ∉ X.fs → b ∉ ch → s.heap.get? b = some o → H b = none → h'.get? b = some o)
    (slot : ∀ b o, b ≠ X.env.locals → b ∈ X.fs → b ∉ ch → s.heap.get? b = some o → H b = none → ∃ sl, h'.get? b = some { o with slots := sl }) (free : ∀ b o, b ∉ ch → s.heap.get? b = some o → H b = none → H' b = none)
    (there : ∀ b o, b ∉ ch → s.heap.get? b = some o → ∃ o', h'.get? b = some o')
    (tups : ∀ b xs, H b = some (.tup xs) → H' b = some (.tup xs)) (frzs : ∀ b o u, H b = some (.frz o u) → H' b = some (.frz o u)) (tbls : ∀ b ps, H b = some (.tbl ps) → ∃ more, H' b = some (.tbl (ps ++ more)))
    (ns : ∀ m, s.heap.Ns X.env.locals m → h'.Ns X.env.locals m) (hok : HOk X.prog X.w H' h') (hg : AllBare g') :
    Inv X pins σ H' { s with heap := h', gens := g', drawn := d', toks := t' } := by
  have neL : ∀ b o, X.s₀.heap.get? b = some o → b ≠ X.env.locals := fun b o e => Nat.ne_of_lt (Nat.lt_of_lt_of_le (Heap.lt_size e) I.ok.above)
  have neC : ∀ b o, X.s₀.heap.get? b = some o → b ∉ X.ex → b ∉ ch := fun b o e hx hb => by
    rcases (hch b hb).1 with z | z
    · exact hx z
    · exact absurd (Nat.lt_of_lt_of_le (Heap.lt_size e) z) (Nat.lt_irrefl _)
  have cellK : ∀ x c, X.env.cells.lookup x = some c → ∀ v, s.heap.IsCell c v → h'.IsCell c v := fun x c e v ⟨o, ho, hd⟩ => by
    have nch : c ∉ ch := fun z => (hch c z).2.2.1 x c e rfl
    by_cases hc : c ∈ X.fs
    · obtain ⟨sl, q⟩ := slot c o (I.cne x c e) hc nch ho (I.freeC x c e)
      exact ⟨_, q, hd⟩
    · exact ⟨o, keep c o (I.cne x c e) hc nch ho (I.freeC x c e), hd⟩
  refine ⟨I.ok, I.os, hg, ⟨fun b o e n hb hx => ?_, fun b o e n hb hx => ?_, fun b o e n hx => ?_, fun b o e hx => ?_, fun b xs e => tups b xs (I.base.tups b xs e), fun b o xs e => frzs b o xs (I.base.frzs b o xs e), fun b ps e => ?_⟩, ?_, fun x c e => ?_, ?_, fun x c e => ?_, fun p hp => ?_, hok, I.len⟩
  · exact keep b o (neL b o e) hb (neC b o e hx) (I.base.keep b o e n hb hx) (I.base.free b o e n hx)
  · obtain ⟨sl, e1⟩ := I.base.slot b o e n hb hx
    obtain ⟨sl', e2⟩ := slot b _ (neL b o e) hb (neC b o e hx) e1 (I.base.free b o e n hx)
    exact ⟨sl', e2⟩
  · obtain ⟨o', e1⟩ := I.base.there b o e hx
    exact free b o' (neC b o e hx) e1 (I.base.free b o e n hx)
  · obtain ⟨o', e1⟩ := I.base.there b o e hx
    exact there b o' (neC b o e hx) e1
  · obtain ⟨m1, e1⟩ := I.base.tbls b ps e
    obtain ⟨m2, e2⟩ := tbls b _ e1
    exact ⟨m1 ++ m2, by rw [e2, Array.append_assoc]⟩
  · obtain ⟨m, hn, hl⟩ := I.loc
    refine ⟨m, ns m hn, fun i x v e1 e2 e3 => ?_⟩
    obtain ⟨u, r, l⟩ := hl i x v e1 e2 e3
    refine ⟨u, r, ?_⟩
    rcases l with l | ⟨k, c, e, z⟩
    · exact .inl l
    · exact .inr ⟨k, c, e, cellK x c e _ z⟩
  · obtain ⟨v, z⟩ := I.cell x c e
    exact ⟨v, cellK x c e v z⟩
  · obtain ⟨m, ⟨o, _, _, ho, _⟩, _⟩ := I.loc
    exact free _ o (fun z => (hch _ z).2.1 rfl) ho I.free
  · obtain ⟨v, o, ho, hd⟩ := I.cell x c e
    exact free c o (fun z => (hch c z).2.2.1 x c e rfl) ho (I.freeC x c e)
  · obtain ⟨e, n, ne, nf, d⟩ := I.pin p hp
    have nch : p.1 ∉ ch := fun z => (hch p.1 z).2.2.2 p hp rfl
    exact ⟨keep p.1 p.2 ne nf nch e n, free p.1 p.2 nch e n, ne, nf, d⟩
theorem Inv.un {t' : Nat} (I : Inv X pins σ H s) (u : Un X.fs [] H H' s.heap h') (hok : HOk X.prog X.w H' h') : Inv X pins σ H' { s with heap := h', toks := t' } := by
  obtain ⟨m, ⟨o, es, ep, ho, r⟩, _⟩ := id I.loc
  obtain ⟨sl, hL⟩ := u.any ho I.free (by simp)
  exact I.step (g' := s.gens) (d' := s.drawn) (ch := []) (fun _ z => nomatch z) (fun b o _ hb _ e n => u.keep b o e n hb (by simp)) (fun b o _ hb _ e n => u.slot b o e n hb (by simp)) (fun b o _ e n => u.free b o e n (by simp)) (fun b o _ e => u.there b o e (by simp)) u.tups u.frzs u.tbls (fun m' hm => by
    obtain ⟨o', es', ep', ho', r'⟩ := hm
    rw [ho] at ho'; cases ho'
    exact ⟨_, es', ep', hL, r'⟩) hok I.bare
theorem Inv.call {g' : Array GenState} {t' : Nat} {d' : Drawn} {ch : List Addr} (I : Inv X pins σ H s) (u : Un (frs X.stack) ch H H' s.heap h') (hok : HOk X.prog X.w H' h') (hg : AllBare g')
    (hch : ∀ b ∈ ch, (b ∈ X.ex ∨ X.s₀.heap.objs.size ≤ b) ∧ b ≠ X.env.locals ∧ (∀ x c, X.env.cells.lookup x = some c → c ≠ b) ∧ ∀ p ∈ X.pn ++ pins, p.1 ≠ b) :
    Inv X pins σ H' { s with heap := h', gens := g', drawn := d', toks := t' } := by
  obtain ⟨m, ⟨o, es, ep, ho, r⟩, _⟩ := id I.loc
  obtain ⟨sl, hL⟩ := u.any ho I.free fun z => (hch _ z).2.1 rfl
  exact I.step (ch := ch) hch (fun b o hL hb hc e n => u.keep b o e n (fun z => (List.mem_cons.mp (I.stkSub b z)).elim hL hb) hc) (fun b o _ _ hc e n => u.any e n hc) (fun b o hc e n => u.free b o e n hc) (fun b o hc e => u.there b o e hc) u.tups u.frzs u.tbls (fun m' hm => by
    obtain ⟨o', es', ep', ho', r'⟩ := hm
    rw [ho] at ho'; cases ho'
    exact ⟨_, es', ep', hL, r'⟩) hok hg
theorem Inv.turned {t' : Nat} {it : Addr} (I : Inv X pins σ H s) (k : ∀ b o, b ≠ it → s.heap.get? b = some o → h'.get? b = some o) (hn : H it = none) (hL : it ≠ X.env.locals)
    (h1 : it ∈ X.ex ∨ X.s₀.heap.objs.size ≤ it) (h2 : ∀ x c, X.env.cells.lookup x = some c → c ≠ it) (h3 : ∀ p ∈ X.pn ++ pins, p.1 ≠ it) : Inv X pins σ H { s with heap := h', toks := t' } := by
  have nit : ∀ b u, H b = some u → b ≠ it := fun b u e z => by rw [z, hn] at e; cases e
  refine I.step (g' := s.gens) (d' := s.drawn) (ch := [it]) (fun b hb => ?_) (fun b o _ _ hc e _ => k b o (fun z => hc (by simp [z])) e) (fun b o _ _ hc e _ => ⟨o.slots, k b o (fun z => hc (by simp [z])) e⟩) (fun _ _ _ _ n => n)
    (fun b o hc e => ⟨o, k b o (fun z => hc (by simp [z])) e⟩) (fun _ _ e => e) (fun _ _ _ e => e) (fun b ps e => ⟨#[], by rw [e]; simp⟩) (fun m hm => ?_) (fun b u e => ?_) I.bare
  · have e : b = it := by simpa using hb
    subst e
    exact ⟨h1, hL, h2, h3⟩
  · obtain ⟨o, es, ep, ho, r⟩ := hm
    exact ⟨o, es, ep, k _ o (Ne.symm hL) ho, r⟩
  · refine (I.hok b u e).stay (fun c v hc q => k c v ?_ q) (fun _ q => q) fun _ _ q => q
    rcases hc with z | z
    · rw [z]; exact nit b u e
    · exact nit c _ z
theorem Inv.tok (I : Inv X pins σ H s) (t : Nat) : Inv X pins σ H { s with toks := t } := I.un (h' := s.heap) (t' := t) Un.refl I.hok
theorem Inv.kept {t' : Nat} (I : Inv X pins σ H s) (k : ∀ b u, s.heap.get? b = some u → h'.get? b = some u) : Inv X pins σ H { s with heap := h', toks := t' } := I.un (Un.kept k) (I.hok.kept k)
theorem Inv.laid {a : Addr} {o : HO} {t' : Nat} (I : Inv X pins σ H s) (k : ∀ b u, s.heap.get? b = some u → h'.get? b = some u) (hp : s.heap.objs.size ≤ a) (new : ObjOk X.prog X.w (upd H a o) h' a o) :
    Inv X pins σ (upd H a o) { s with heap := h', toks := t' } := I.un (Un.laid k hp (I.hok.fresh hp)) (I.hok.laid k hp new)
theorem Inv.write {x e : Addr} {o : HO} {t' : Nat} (I : Inv X pins σ H s) (mu : Mut (H x)) (he : e = x ∨ H e = some (.own x)) (k : ∀ b u, b ≠ e → s.heap.get? b = some u → h'.get? b = some u) (heo : ∃ u, h'.get? e = some u)
    (new : ObjOk X.prog X.w (upd H x o) h' x o) : Inv X pins σ (upd H x o) { s with heap := h', toks := t' } := I.un (Un.write mu he k heo) (I.hok.write mu he k heo new)
theorem Inv.weak {σ' : List (Option V)} (I : Inv X pins σ H s) (hl : σ'.length = σ.length) (w : ∀ (i : Nat) v, σ'[i]? = some (some v) → σ[i]? = some (some v)) : Inv X pins σ' H s :=
  ⟨I.ok, I.os, I.bare, I.base, let ⟨m, hn, hl'⟩ := I.loc; ⟨m, hn, fun i x v e1 e2 e3 => hl' i x v e1 (w i v e2) e3⟩, I.cell, I.free, I.freeC, I.pin, I.hok, hl.trans I.len⟩
theorem Inv.pins_of {pins' : List (Addr × Obj)} (I : Inv X pins σ H s) (h : ∀ p ∈ pins', s.heap.get? p.1 = some p.2 ∧ H p.1 = none ∧ p.1 ≠ X.env.locals ∧ p.1 ∉ X.fs ∧ ∀ v, p.2.data ≠ .cell v) : Inv X pins' σ H s :=
  ⟨I.ok, I.os, I.bare, I.base, I.loc, I.cell, I.free, I.freeC, fun p hp => (List.mem_append.mp hp).elim (fun z => I.pin p (List.mem_append_left _ z)) (h p), I.hok, I.len⟩

theorem nodup_ix {N : List Str} (hN : N.Nodup) {i j : Nat} {x : Str} (a : N[i]? = some x) (b : N[j]? = some x) : i = j := by
  obtain ⟨h1, e1⟩ := List.getElem?_eq_some_iff.mp a
  obtain ⟨h2, e2⟩ := List.getElem?_eq_some_iff.mp b
  exact (List.getElem_inj hN).mp (e1.trans e2.symm)

theorem store_ok2 {M : Model} {A : Around} {E : Value → Shared → Prop} {i : Nat} {x : Str} {v : V} {u : Value} {Q : Unit → Shared → Prop} (I : Inv X pins σ H s) (hN : X.N.Nodup) (hi : X.N[i]? = some x) (hx : Loc X.env.scope x) (r : RelV v u)
    (h : ∀ s', Inv X pins (σ.set i (some v)) H s' → (∃ a, Heap.SameBut a s.heap s'.heap ∧ (a = X.env.locals ∨ X.env.cells.lookup x = some a)) → Q () s') (hf : X.fn x = true ∨ X.env.scope.names.lookup x = some .local := by first | exact .inl rfl | exact .inr rfl | assumption) : wpAny M A (storeName X.env x u) Q E s := by
  obtain ⟨m, hn, hl⟩ := id I.loc
  have hcls : (X.env.scope.kind == .class || (X.env.scope.kind == .module && X.env.locals != X.env.globals)) = false := by rw [I.ok.kind]; rfl
  have hiσ : i < σ.length := by rw [I.len]; exact (List.getElem?_eq_some_iff.mp hi).1
  have cne := I.cne
  have tracked : ∀ {a : Addr} {h' : Heap}, (∃ o, s.heap.get? a = some o ∧ H a = none) → Heap.SameBut a s.heap h' → HOk X.prog X.w H h' := fun {a h'} ha hs b ob e => by
    obtain ⟨_, _, hfree⟩ := ha
    refine (I.hok b ob e).stay (fun c w' hc q => (hs.2 c ?_).trans q) (fun _ q => q) fun _ _ q => q
    rintro rfl
    rcases hc with rfl | hc
    · rw [hfree] at e; cases e
    · rw [hfree] at hc; cases hc
  rcases hx with hk | hk
  · refine wpAny_storeName_local hk hn (fun h' hn' hs => ?_) hcls
    obtain ⟨oL, _, _, hoL, _⟩ := id hn
    refine h _ ⟨I.ok, I.os, I.bare, ⟨fun b o e n hb hx => ?_, fun b o e n hb hx => ?_, I.base.free, fun b o e hx => ?_, I.base.tups, I.base.frzs, I.base.tbls⟩, ⟨_, hn', fun j y v' e1 e2 e3 => ?_⟩, fun y c e => ?_, I.free, I.freeC, fun p hp => ?_, tracked ⟨oL, hoL, I.free⟩ hs, by simpa using I.len⟩ ⟨_, hs, .inl rfl⟩
    · exact (hs.2 b (Nat.ne_of_lt (Nat.lt_of_lt_of_le (Heap.lt_size e) I.ok.above))).trans (I.base.keep b o e n hb hx)
    · obtain ⟨sl, e1⟩ := I.base.slot b o e n hb hx
      exact ⟨sl, (hs.2 b (Nat.ne_of_lt (Nat.lt_of_lt_of_le (Heap.lt_size e) I.ok.above))).trans e1⟩
    · obtain ⟨o', e1⟩ := I.base.there b o e hx
      exact ⟨o', (hs.2 b (Nat.ne_of_lt (Nat.lt_of_lt_of_le (Heap.lt_size e) I.ok.above))).trans e1⟩
    · by_cases hj : j = i
      · subst hj
        rw [hi] at e1; cases e1
        rw [List.getElem?_set_self hiσ] at e2
        cases e2
        exact ⟨u, r, .inl ⟨hk, by simp⟩⟩
      · rw [List.getElem?_set_ne (Ne.symm hj)] at e2
        obtain ⟨u', r', q⟩ := hl j y v' e1 e2 e3
        refine ⟨u', r', ?_⟩
        rcases q with ⟨k, e⟩ | ⟨k, c, e, z⟩
        · refine .inl ⟨k, ?_⟩
          have : y ≠ x := fun e => hj (nodup_ix hN e1 (e ▸ hi))
          simp [this, e]
        · exact .inr ⟨k, c, e, z.sameBut hs (cne y c e)⟩
    · obtain ⟨w', z⟩ := I.cell y c e
      exact ⟨w', z.sameBut hs (cne y c e)⟩
    · obtain ⟨e, n, ne, nf, d⟩ := I.pin p hp
      exact ⟨(hs.2 p.1 ne).trans e, n, ne, nf, d⟩
  · have hfn : X.fn x = true := by
      rcases hf with z | z
      · exact z
      · rw [z] at hk; cases hk
    obtain ⟨c, hc⟩ := I.ok.has x (.inl hk)
    obtain ⟨w', z⟩ := I.cell x c hc
    refine wpAny_storeName_cell I.ok.kind hk hc z (fun h' hc' hs => ?_)
    obtain ⟨oc, hoc, hocd⟩ := id z
    refine h { s with heap := h' } ⟨I.ok, I.os, I.bare, ⟨fun b o e n hb hx => ?_, fun b o e n hb hx => ?_, I.base.free, fun b o e hx => ?_, I.base.tups, I.base.frzs, I.base.tbls⟩, ⟨m, hn.sameBut hs (Ne.symm (cne x c hc)), fun j y v' e1 e2 e3 => ?_⟩, fun y c' e => ?_, I.free, I.freeC, fun p hp => ?_, tracked ⟨oc, hoc, I.freeC x c hc⟩ hs, by simpa using I.len⟩ ⟨c, hs, .inr hc⟩
    · exact (hs.2 b (Nat.ne_of_lt (Nat.lt_of_lt_of_le (Heap.lt_size e) (I.ok.cab x c hfn hc)))).trans (I.base.keep b o e n hb hx)
    · obtain ⟨sl, e1⟩ := I.base.slot b o e n hb hx
      exact ⟨sl, (hs.2 b (Nat.ne_of_lt (Nat.lt_of_lt_of_le (Heap.lt_size e) (I.ok.cab x c hfn hc)))).trans e1⟩
    · obtain ⟨o', e1⟩ := I.base.there b o e hx
      exact ⟨o', (hs.2 b (Nat.ne_of_lt (Nat.lt_of_lt_of_le (Heap.lt_size e) (I.ok.cab x c hfn hc)))).trans e1⟩
    · by_cases hj : j = i
      · subst hj
        rw [hi] at e1; cases e1
        rw [List.getElem?_set_self hiσ] at e2
        cases e2
        exact ⟨u, r, .inr ⟨.inl hk, c, hc, hc'⟩⟩
      · rw [List.getElem?_set_ne (Ne.symm hj)] at e2
        obtain ⟨u', r', q⟩ := hl j y v' e1 e2 e3
        refine ⟨u', r', ?_⟩
        rcases q with q | ⟨k, c', e, z'⟩
        · exact .inl q
        · refine .inr ⟨k, c', e, z'.sameBut hs ?_⟩
          rintro rfl
          exact hj (nodup_ix hN e1 (I.ok.inj _ _ _ e hc ▸ hi))
    · by_cases hcc : c' = c
      · subst hcc; exact ⟨_, hc'⟩
      · obtain ⟨w2, z2⟩ := I.cell y c' e
        exact ⟨w2, z2.sameBut hs hcc⟩
    · obtain ⟨e, n, ne, nf, d⟩ := I.pin p hp
      refine ⟨(hs.2 p.1 ?_).trans e, n, ne, nf, d⟩
      intro q
      rw [q, hoc] at e
      have q' : oc = p.2 := Option.some.inj e
      exact d w' (by rw [← q']; exact hocd)
theorem store_ok {M : Model} {A : Around} {E : Value → Shared → Prop} {i : Nat} {x : Str} {v : V} {u : Value} {Q : Unit → Shared → Prop} (I : Inv X pins σ H s) (hN : X.N.Nodup) (hi : X.N[i]? = some x) (hx : Loc X.env.scope x) (r : RelV v u)
    (h : ∀ s', Inv X pins (σ.set i (some v)) H s' → Q () s') (hf : X.fn x = true ∨ X.env.scope.names.lookup x = some .local := by first | exact .inl rfl | exact .inr rfl | assumption) : wpAny M A (storeName X.env x u) Q E s :=
  store_ok2 I hN hi hx r (fun s' I' _ => h s' I') hf
theorem Inv.call' {s' : Shared} {ch : List Addr} (I : Inv X pins σ H s) (ho : s'.os = s.os) (u : Un (frs X.stack) ch H H' s.heap s'.heap) (hok : HOk X.prog X.w H' s'.heap) (hg : AllBare s'.gens)
    (hch : ∀ b ∈ ch, (b ∈ X.ex ∨ X.s₀.heap.objs.size ≤ b) ∧ b ≠ X.env.locals ∧ (∀ x c, X.env.cells.lookup x = some c → c ≠ b) ∧ ∀ p ∈ X.pn ++ pins, p.1 ≠ b) : Inv X pins σ H' s' := by
  obtain ⟨h', g', d', t', o'⟩ := s'
  have e : o' = s.os := ho
  subst e
  exact I.call (g' := g') (t' := t') (d' := d') u hok hg hch
end

noncomputable abbrev XK := Value → Option Addr → Hp → Prop
noncomputable abbrev St := List (Option V)
noncomputable abbrev VK := V → Hp → Prop
noncomputable abbrev TE := St → Hp → VK → Prop
noncomputable abbrev TT := St → Hp → (Bool → Hp → Prop) → Prop
noncomputable abbrev TA := St → Hp → (List V → Hp → Prop) → Prop
structure Ends where
  nx : St → Hp → Prop
  rt : VK
  bk : St → Hp → Prop := fun _ _ => False
  ct : St → Hp → Prop := fun _ _ => False
noncomputable abbrev TS := Ends → St → Hp → Prop

noncomputable def EP (X : Cx) (pins : List (Addr × Obj)) (σ : St) (Q : VK) (u : Value) (s' : Shared) : Prop := ∃ v H', Inv X pins σ H' s' ∧ RelV v u ∧ Q v H'
noncomputable def TP (X : Cx) (pins : List (Addr × Obj)) (σ : St) (Q : Bool → Hp → Prop) (b : Bool) (s' : Shared) : Prop := ∃ H', Inv X pins σ H' s' ∧ Q b H'
noncomputable def AP (X : Cx) (pins : List (Addr × Obj)) (σ : St) (Q : List V → Hp → Prop) (us : List Value) (s' : Shared) : Prop := ∃ vs H', Inv X pins σ H' s' ∧ Vals vs us ∧ Q vs H'
noncomputable def SP (X : Cx) (pins : List (Addr × Obj)) (D : Ends) (f : Flow) (s' : Shared) : Prop :=
  match f with
  | .next => ∃ σ' H', Inv X pins σ' H' s' ∧ D.nx σ' H'
  | .brk => ∃ σ' H', Inv X pins σ' H' s' ∧ D.bk σ' H'
  | .cont => ∃ σ' H', Inv X pins σ' H' s' ∧ D.ct σ' H'
  | .ret u => ∃ v σ' H', Inv X pins σ' H' s' ∧ RelV v u ∧ D.rt v H'

noncomputable def PE (X : Cx) (e : Expr) (t : TE) : Prop :=
  ∀ (pins : List (Addr × Obj)) (s : Shared) (σ : St) (H : Hp) (Q : VK), Inv X pins σ H s → t σ H Q → wpAny (model X.prog X.w) X.A (eval e X.env) (EP X pins σ Q) X.xe s
noncomputable def PT (X : Cx) (e : Expr) (t : TT) : Prop :=
  ∀ (pins : List (Addr × Obj)) (s : Shared) (σ : St) (H : Hp) (Q : Bool → Hp → Prop), Inv X pins σ H s → t σ H Q → wpAny (model X.prog X.w) X.A (isTrue e X.env (eval e X.env)) (TP X pins σ Q) X.xe s
noncomputable def PW (X : Cx) (e : Expr) (t : TT) : Prop :=
  ∀ (whole : Sem Value) (pins : List (Addr × Obj)) (s : Shared) (σ : St) (H : Hp) (Q : Bool → Hp → Prop), Inv X pins σ H s → t σ H Q → wpAny (model X.prog X.w) X.A (isTrue e X.env whole) (TP X pins σ Q) X.xe s
theorem PW.pt {X : Cx} {e : Expr} {t : TT} (h : PW X e t) : PT X e t := h _
noncomputable def PA (X : Cx) (es : List Expr) (t : TA) : Prop :=
  ∀ (pos : Pos) (pins : List (Addr × Obj)) (s : Shared) (σ : St) (H : Hp) (Q : List V → Hp → Prop), Inv X pins σ H s → t σ H Q → wpAny (model X.prog X.w) X.A (spliced (backTo pos (starEach es X.env))) (AP X pins σ Q) X.xe s
noncomputable def PS (X : Cx) (st : Stmt) (t : TS) : Prop :=
  ∀ (pins : List (Addr × Obj)) (s : Shared) (σ : St) (H : Hp) (D : Ends), Inv X pins σ H s → t D σ H → wpAny (model X.prog X.w) X.A (exec st X.env) (SP X pins D) X.xe s
noncomputable def PSs (X : Cx) (st : List Stmt) (t : TS) : Prop :=
  ∀ (pins : List (Addr × Obj)) (s : Shared) (σ : St) (H : Hp) (D : Ends), Inv X pins σ H s → t D σ H → wpAny (model X.prog X.w) X.A (execs st X.env) (SP X pins D) X.xe s
theorem thn {α : Type} {t : Sem α} {Q Q' : α → Shared → Prop} {M : Model} {A : Around} {E : Value → Shared → Prop} {s : Shared} (h : wpAny M A t Q E s) (hQ : ∀ a s, Q a s → Q' a s) : wpAny M A t Q' E s := wpAny_mono h hQ fun _ _ x => x
end L2

namespace L2
open PySem PySem.Spec PyProof.Rows
section
variable {X : Cx}

noncomputable def tVar (i : Nat) : TE := fun σ H Q => ∃ v, σ[i]? = some (some v) ∧ Q v H
noncomputable def tC (v : V) : TE := fun _ H Q => Q v H
theorem pe_var {i : Nat} {x : Str} {pos : Pos} (hN : X.N[i]? = some x) (hv : Vis X.env.scope x) (hd : (x == ("__debug__" : Str)) = false := by decide) (hcd : (x == ("__classdict__" : Str)) = false := by decide) : PE X (.Name x pos) (tVar i) := by
  intro pins s σ H Q I h
  obtain ⟨v, e, h⟩ := h
  obtain ⟨m, hn, hl⟩ := I.loc
  obtain ⟨u, r, l⟩ := hl i x v hN e hv
  have fin : EP X pins σ Q u s := ⟨v, H, I, r, h⟩
  rcases l with ⟨hk, hm⟩ | ⟨hk, c, hc, hcell⟩
  · exact wpAny_Name (wpAny_loadName_local I.ok.kind hk hn hm fin) hd
  · rcases hk with hk | hk
    · exact wpAny_Name (wpAny_loadName_cell I.ok.kind hk hc hcell fin) hd
    · exact wpAny_Name (wpAny_loadName_free I.ok.kind hk hc hcell fin hcd) hd
theorem pe_int {i j pos} : PE X (.Constant (.int i) j pos) (tC (.int i)) := fun _ _ _ H _ I h => wpAny_Constant_int ⟨.int i, H, I.tok _, ⟨_, rfl⟩, h⟩
theorem pe_bl {b j pos} : PE X (.Constant (.bool b) j pos) (tC (.bl b)) := fun _ _ _ H _ I h => Constant_bool ⟨.bl b, H, I, rfl, h⟩
noncomputable def Gl (X : Cx) (x : Str) : Prop := X.env.kindOf x = some .globalImplicit
theorem ld_glob {E : Value → Shared → Prop} {pins : List (Addr × Obj)} {s : Shared} {σ : St} {H : Hp} {x : Str} {u : Value} {pos : Pos} {Q : Value → Shared → Prop} (I : Inv X pins σ H s) (hg : Gl X x) (hm : X.mg x = some u) (h : Q u s)
    (hd : (x == ("__debug__" : Str)) = false := by decide) : wpAny (model X.prog X.w) X.A (eval (.Name x pos) X.env) Q E s :=
  Calls.Name_function_global I.ok.kind hg (Calls.loadGlobal_global (by rw [I.ok.glob]; exact I.mod.glob.keeps I.bk) hm h) hd
theorem ld_blt {E : Value → Shared → Prop} {pins : List (Addr × Obj)} {s : Shared} {σ : St} {H : Hp} {x : Str} {u : Value} {pos : Pos} {Q : Value → Shared → Prop} (I : Inv X pins σ H s) (hg : Gl X x) (hm : X.mg x = none) (hv : bootBuiltins x = some u) (h : Q u s)
    (hn : x ≠ "__name__" := by decide) (hd : (x == ("__debug__" : Str)) = false := by decide) : wpAny (model X.prog X.w) X.A (eval (.Name x pos) X.env) Q E s := by
  obtain ⟨mb, h1, h2⟩ := I.mod.blt
  exact Calls.Name_function_global I.ok.kind hg (Calls.loadGlobal_builtin (by rw [I.ok.glob]; exact I.mod.glob.keeps I.bk) hm (by rw [I.ok.blt]; exact h1.keeps I.bk) ((h2 x hn).trans hv) h) hd
theorem pe_glob {x : Str} {v : V} {u : Value} {pos : Pos} (hg : Gl X x) (hm : X.mg x = some u) (r : RelV v u) (hd : (x == ("__debug__" : Str)) = false := by decide) : PE X (.Name x pos) (tC v) :=
  fun _ _ _ H _ I h => ld_glob I hg hm ⟨v, H, I, r, h⟩ hd
theorem pe_bltn {x : Str} {v : V} {u : Value} {pos : Pos} (hg : Gl X x) (hm : X.mg x = none) (hv : bootBuiltins x = some u) (r : RelV v u) (hn : x ≠ "__name__" := by decide) (hd : (x == ("__debug__" : Str)) = false := by decide) : PE X (.Name x pos) (tC v) :=
  fun _ _ _ H _ I h => ld_blt I hg hm hv ⟨v, H, I, r, h⟩ hn hd

variable {a b : Expr} {ta tb : TE} {pos : Pos}
noncomputable def tB (t : TE) : TT := fun σ H Q => t σ H fun x H1 => ∃ c, x = .bl c ∧ Q c H1
theorem pt_val {e : Expr} {t : TE} (h : PE X e t) (he : ∀ whole, isTrue e X.env whole = (do let v ← whole; standAt e.pos; holding [v] (truthy v)) := by intro _; rfl) : PT X e (tB t) := by
  intro pins s σ H Q I hw
  refine isTrue_plain (thn (h pins s σ H _ I hw) fun v s1 ⟨x, H1, I1, r1, q1⟩ => ?_) (he _)
  obtain ⟨d, rfl, q⟩ := q1
  cases r1
  exact wpAny_truthy_bool ⟨H1, I1, q⟩

variable {tA tB' : TT} {rest : List Expr}
noncomputable def tOr (t u : TT) : TT := fun σ H Q => t σ H fun c H1 => if c = true then Q true H1 else u σ H1 Q
noncomputable def tNot (t : TT) : TT := fun σ H Q => t σ H fun c H1 => Q (!c) H1
theorem pw_or1 (ha : PT X a tA) : PW X (.BoolOp .Or [a] pos) tA := by
  intro wh pins s σ H Q I h
  refine isTrue_or (thn (ha pins s σ H Q I h) fun c s1 e => ?_)
  cases c with
  | false => exact isTrue_or_nil e
  | true => exact e
theorem pw_or (ha : PT X a tA) (hb : PW X (.BoolOp .Or (b :: rest) pos) tB') : PW X (.BoolOp .Or (a :: b :: rest) pos) (tOr tA tB') := by
  intro wh pins s σ H Q I h
  refine isTrue_or (thn (ha pins s σ H _ I h) fun c s1 ⟨H1, I1, q1⟩ => ?_)
  cases c with
  | true => exact ⟨H1, I1, q1⟩
  | false => exact hb wh pins s1 σ H1 Q I1 q1
theorem pt_not (ha : PT X a tA) : PT X (.UnaryOp .Not a pos) (tNot tA) := by
  intro pins s σ H Q I h
  exact isTrue_not (ha pins s σ H (fun c H1 => Q (!c) H1) I h)
noncomputable def tAndV (ta tb : TE) : TE := fun σ H Q => ta σ H fun x H1 => ∃ c, x = .bl c ∧ if c = true then tb σ H1 Q else Q (.bl false) H1
noncomputable def tOrV (ta tb : TE) : TE := fun σ H Q => ta σ H fun x H1 => ∃ c, x = .bl c ∧ if c = true then Q (.bl true) H1 else tb σ H1 Q
noncomputable def tNotV (ta : TE) : TE := fun σ H Q => ta σ H fun x H1 => ∃ c, x = .bl c ∧ Q (.bl (!c)) H1
theorem pe_one {op} {t : TE} (h : PE X a t) : PE X (.BoolOp op [a] pos) t := fun pins s σ H Q I hw => BoolOp_one (h pins s σ H Q I hw)
theorem pe_and (ha : PE X a ta) (hb : PE X (.BoolOp .And (b :: rest) pos) tb) : PE X (.BoolOp .And (a :: b :: rest) pos) (tAndV ta tb) := by
  intro pins s σ H Q I h
  refine BoolOp_and (thn (ha pins s σ H _ I h) fun v s1 ⟨x, H1, I1, r1, q1⟩ => ?_)
  obtain ⟨c, rfl, q1⟩ := q1
  cases r1
  refine wpAny_truthy_bool ?_
  cases c with
  | true => exact hb pins s1 σ H1 Q I1 q1
  | false => exact ⟨.bl false, H1, I1, rfl, q1⟩
theorem pe_or (ha : PE X a ta) (hb : PE X (.BoolOp .Or (b :: rest) pos) tb) : PE X (.BoolOp .Or (a :: b :: rest) pos) (tOrV ta tb) := by
  intro pins s σ H Q I h
  refine BoolOp_or (thn (ha pins s σ H _ I h) fun v s1 ⟨x, H1, I1, r1, q1⟩ => ?_)
  obtain ⟨c, rfl, q1⟩ := q1
  cases r1
  refine wpAny_truthy_bool ?_
  cases c with
  | false => exact hb pins s1 σ H1 Q I1 q1
  | true => exact ⟨.bl true, H1, I1, rfl, q1⟩
theorem pe_not (ha : PE X a ta) : PE X (.UnaryOp .Not a pos) (tNotV ta) := by
  intro pins s σ H Q I h
  refine UnaryOp_ (thn (ha pins s σ H _ I h) fun v s1 ⟨x, H1, I1, r1, q1⟩ => ?_)
  obtain ⟨c, rfl, q1⟩ := q1
  cases r1
  exact not_of (wpAny_truthy_bool ⟨.bl (!c), H1, I1, rfl, q1⟩)
noncomputable def tIf (t : TT) (ta tb : TE) : TE := fun σ H Q => t σ H fun c H1 => if c = true then ta σ H1 Q else tb σ H1 Q
theorem pe_ifExp {c : Expr} (hc : PT X c tA) (ha : PE X a ta) (hb : PE X b tb) : PE X (.IfExp c a b pos) (tIf tA ta tb) := by
  intro pins s σ H Q I h
  refine wpAny_IfExp (thn (hc pins s σ H _ I h) fun d s1 ⟨H1, I1, q1⟩ => ?_)
  cases d with
  | true => exact ha pins s1 σ H1 Q I1 q1
  | false => exact hb pins s1 σ H1 Q I1 q1
end
end L2

namespace L2
open PySem PySem.Spec PyProof.Rows

noncomputable def SqL (K : PySem.W.Frag) (H : Hp) (a : Addr) (xs : List V) : Prop :=
  Rd H a (.lst xs) ∨
    ∃ (o : Obj) (its : Array Value) (n : Nat), K.lookup a = some o ∧ o.cls = .type "list" ∧ o.dict = none ∧ o.data = .seq its n ∧ its.size ≤ sizeLine ∧ Vals xs its.toList
noncomputable def SqT (K : PySem.W.Frag) (H : Hp) (a : Addr) (xs : List V) : Prop :=
  Rd H a (.tup xs) ∨
    ∃ (o : Obj) (its : Array Value) (n : Nat), K.lookup a = some o ∧ o.cls = .type "tuple" ∧ o.data = .seq its n ∧ its.size ≤ sizeLine ∧ Vals xs its.toList
noncomputable def absV : Value → Option V
  | .none => some .non
  | .bool b => some (.bl b)
  | .int i _ => some (.int i)
  | .str x _ => some (.str x)
  | .bytes b _ => some (.byt b)
  | .float b _ => some (.flt b)
  | .ref a => some (.ref a)
  | .type n => some (.ty n)
  | _ => none
theorem RelV.abs {x : V} {u : Value} (r : RelV x u) : absV u = some x := by
  cases x with
  | non => cases r; rfl
  | bl _ => cases r; rfl
  | int _ => obtain ⟨t, rfl⟩ := r; rfl
  | str _ => obtain ⟨t, rfl⟩ := r; rfl
  | byt _ => obtain ⟨t, rfl⟩ := r; rfl
  | flt _ => obtain ⟨t, rfl⟩ := r; rfl
  | ref _ => cases r; rfl
  | ty _ => cases r; rfl
theorem RelV.inj {x y : V} {u : Value} (r : RelV x u) (q : RelV y u) : x = y := Option.some.inj (r.abs.symm.trans q.abs)
theorem Vals.inj : ∀ {xs ys : List V} {us : List Value}, Vals xs us → Vals ys us → xs = ys
  | _, _, _, .nil, .nil => rfl
  | _, _, _, .cons r t, .cons r' t' => by rw [r.inj r', Vals.inj t t']
section
variable {X : Cx} {pins : List (Addr × Obj)} {σ : St} {H : Hp} {s : Shared} {a : Addr} {xs ys : List V}
theorem SqL.of {K : PySem.W.Frag} (h : H a = some (.lst xs)) : SqL K H a xs := .inl (.inl h)
theorem SqT.of {K : PySem.W.Frag} (h : H a = some (.tup xs)) : SqT K H a xs := .inl (.inl h)
theorem Inv.list (I : Inv X pins σ H s) (h : SqL X.K H a xs) : ∃ its : List Value, Vals xs its ∧ PlainL s.heap a its.toArray ∧ xs.length ≤ sizeLine := by
  rcases h with h | ⟨o, its, n, hk, hc, hd, hs, hz, r⟩
  · obtain ⟨z, its, n, r, e⟩ := h.ok I.hok
    exact ⟨its, r, ⟨_, n, e, rfl, rfl, rfl⟩, z⟩
  · refine ⟨its.toList, r, ⟨o, n, I.kIn a o hk, hc, hd, by simpa using hs⟩, ?_⟩
    have e := r.length
    simp only [Array.length_toList] at e
    (clear hc hd hk hs; omega)
theorem Inv.tuple (I : Inv X pins σ H s) (h : SqT X.K H a xs) : ∃ its : List Value, Vals xs its ∧ IsTup s.heap a its.toArray ∧ xs.length ≤ sizeLine := by
  rcases h with h | ⟨o, its, n, hk, hc, hs, hz, r⟩
  · obtain ⟨z, its, r, p⟩ := h.ok I.hok
    exact ⟨its, r, p, z⟩
  · refine ⟨its.toList, r, ⟨o, I.kIn a o hk, hc, n, by simpa using hs⟩, ?_⟩
    have e := r.length
    simp only [Array.length_toList] at e
    (clear hc hk hs; omega)
theorem Inv.list_inj (I : Inv X pins σ H s) (h : SqL X.K H a xs) (h' : SqL X.K H a ys) : xs = ys := by
  obtain ⟨its, r, ⟨o, n, e, _, _, d⟩, _⟩ := I.list h
  obtain ⟨its', r', ⟨o', n', e', _, _, d'⟩, _⟩ := I.list h'
  rw [e] at e'; cases e'
  rw [d] at d'
  injection d' with d1 _
  have : its = its' := by simpa using congrArg Array.toList d1
  subst this
  exact r.inj r'
theorem Inv.tuple_inj (I : Inv X pins σ H s) (h : SqT X.K H a xs) (h' : SqT X.K H a ys) : xs = ys := by
  obtain ⟨its, r, ⟨o, e, _, n, d⟩, _⟩ := I.tuple h
  obtain ⟨its', r', ⟨o', e', _, n', d'⟩, _⟩ := I.tuple h'
  rw [e] at e'; cases e'
  rw [d] at d'
  injection d' with d1 _
  have : its = its' := by simpa using congrArg Array.toList d1
  subst this
  exact r.inj r'
end

noncomputable abbrev Cx.wish (X : Cx) (E : Value → Shared → Prop) : Cx := { X with xe := E }
noncomputable abbrev Cx.nox (X : Cx) : Cx := X.wish fun _ _ => False
theorem Cx.Ok.wish {X : Cx} (ok : X.Ok) (E : Value → Shared → Prop) : (X.wish E).Ok :=
  ⟨ok.mod, ok.kind, ok.glob, ok.blt, ok.above, ok.inj, ok.has, ok.cab, ok.hd, ok.frames, ok.stk, ok.exf, ok.bs, ok.bsz, ok.noex, ok.exfs, ok.funs, ok.frf⟩
theorem Cx.Ok.unwish {X : Cx} {E : Value → Shared → Prop} (ok : (X.wish E).Ok) : X.Ok :=
  ⟨ok.mod, ok.kind, ok.glob, ok.blt, ok.above, ok.inj, ok.has, ok.cab, ok.hd, ok.frames, ok.stk, ok.exf, ok.bs, ok.bsz, ok.noex, ok.exfs, ok.funs, ok.frf⟩
section
variable {X : Cx} {pins : List (Addr × Obj)} {σ : St} {H : Hp} {s : Shared} {E : Value → Shared → Prop}
theorem Inv.wish (I : Inv X pins σ H s) (E : Value → Shared → Prop) : Inv (X.wish E) pins σ H s := ⟨I.ok.wish E, I.os, I.bare, I.base, I.loc, I.cell, I.free, I.freeC, I.pin, I.hok, I.len⟩
theorem Inv.unwish (I : Inv (X.wish E) pins σ H s) : Inv X pins σ H s := ⟨I.ok.unwish, I.os, I.bare, I.base, I.loc, I.cell, I.free, I.freeC, I.pin, I.hok, I.len⟩
theorem SP.unwish {D : Ends} {f : Flow} {s' : Shared} (h : SP (X.wish E) pins D f s') : SP X pins D f s' := by
  cases f with
  | next => obtain ⟨σ', H', I, q⟩ := h; exact ⟨σ', H', I.unwish, q⟩
  | brk => obtain ⟨σ', H', I, q⟩ := h; exact ⟨σ', H', I.unwish, q⟩
  | cont => obtain ⟨σ', H', I, q⟩ := h; exact ⟨σ', H', I.unwish, q⟩
  | ret u => obtain ⟨v, σ', H', I, r, q⟩ := h; exact ⟨v, σ', H', I.unwish, r, q⟩
theorem PSs.nox {st : List Stmt} {t : TS} (h : PSs X.nox st t) : PSs X st t := fun pins s σ H D I hw =>
  wpAny_mono (h pins s σ H D (I.wish _) hw) (fun _ _ q => q.unwish) fun _ _ z => False.elim z
end

section
variable {X : Cx} {st : Stmt} {rest : List Stmt} {t u : TS} {e : Expr} {te : TE} {pos : Pos}
noncomputable def tNext : TS := fun D σ H => D.nx σ H
noncomputable def tSeq (t u : TS) : TS := fun D σ H => t { D with nx := u D } σ H
theorem pss_nil : PSs X [] tNext := fun _ _ σ H _ I h => wpAny_execs_nil ⟨σ, H, I, h⟩
theorem pss_cons (h1 : PS X st t) (h2 : PSs X rest u) : PSs X (st :: rest) (tSeq t u) := by
  intro pins s σ H D I h
  refine wpAny_execs_cons (thn (h1 pins s σ H { D with nx := u D } I h) fun f s1 q => ?_)
  cases f with
  | next =>
    obtain ⟨σ', H', I', q⟩ := q
    exact h2 pins s1 σ' H' D I' q
  | ret v => exact q
  | brk => exact q
  | cont => exact q
theorem pss_one (h1 : PS X st t) : PSs X [st] t := by
  intro pins s σ H D I h
  refine wpAny_execs_cons (thn (h1 pins s σ H D I h) fun f s1 q => ?_)
  cases f with
  | next => exact wpAny_execs_nil q
  | ret v => exact q
  | brk => exact q
  | cont => exact q
noncomputable def tCont : TS := fun D σ H => D.ct σ H
theorem ps_continue : PS X (.Continue pos) tCont := fun _ _ σ H _ I h => wpAny_Continue ⟨σ, H, I, h⟩
theorem Inv.quiet {pins : List (Addr × Obj)} {σ : St} {H : Hp} {s : Shared} (I : Inv X pins σ H s) : interactive X.env = false := by simp [interactive, I.ok.kind]
noncomputable def tDrop (te : TE) : TS := fun D σ H => te σ H fun _ H1 => D.nx σ H1
theorem ps_expr (he : PE X e te) (hs : swapsWith e none pos.line X.env = pure false := by rfl) : PS X (.Expr e pos) (tDrop te) := by
  intro pins s σ H D I h
  exact wpAny_Expr_any (thn (he pins s σ H _ I h) fun v s1 ⟨x, H1, I1, r1, q1⟩ => ⟨σ, H1, I1, q1⟩) I.quiet hs
noncomputable def tRet (te : TE) : TS := fun D σ H => te σ H D.rt
theorem ps_ret (he : PE X e te) : PS X (.Return (some e) pos) (tRet te) := by
  intro pins s σ H D I h
  exact wpAny_Return_some (thn (he pins s σ H _ I h) fun v s1 ⟨x, H1, I1, r1, q1⟩ => ⟨x, σ, H1, I1, r1, q1⟩)
noncomputable def tIfS (c : TT) (t u : TS) : TS := fun D σ H => c σ H fun b H1 => if b = true then t D σ H1 else u D σ H1
theorem ps_if {c : Expr} {a b : List Stmt} {tc : TT} (hc : PT X c tc) (ha : PSs X a t) (hb : PSs X b u) : PS X (.If c a b pos) (tIfS tc t u) := by
  intro pins s σ H D I h
  refine wpAny_If (thn (hc pins s σ H _ I h) fun d s1 ⟨H1, I1, q1⟩ => ?_)
  cases d with
  | true => exact ha pins s1 σ H1 D I1 q1
  | false => exact hb pins s1 σ H1 D I1 q1
noncomputable def tNever : TS := fun _ _ _ => False
theorem pss_never {sts : List Stmt} : PSs X sts tNever := fun _ _ _ _ _ _ h => h.elim
end

noncomputable abbrev TG := V → St → Hp → (St → Hp → Prop) → Prop
noncomputable abbrev TGs := List V → St → Hp → (St → Hp → Prop) → Prop
noncomputable def PG (X : Cx) (target : Expr) (t : TG) : Prop :=
  ∀ (pins : List (Addr × Obj)) (s : Shared) (σ : St) (H : Hp) (v : V) (u : Value) (Q : St → Hp → Prop), Inv X pins σ H s → RelV v u → t v σ H Q →
    wpAny (model X.prog X.w) X.A (assign target X.env u) (fun _ s' => ∃ σ' H', Inv X pins σ' H' s' ∧ Q σ' H') X.xe s
noncomputable def PGs (X : Cx) (ts : List Expr) (t : TGs) : Prop :=
  ∀ (pins : List (Addr × Obj)) (s : Shared) (σ : St) (H : Hp) (vs : List V) (us : List Value) (Q : St → Hp → Prop), Inv X pins σ H s → Vals vs us → t vs σ H Q →
    wpAny (model X.prog X.w) X.A (assignInOrder ((assignEach ts X.env).map (·.2)) us) (fun _ s' => ∃ σ' H', Inv X pins σ' H' s' ∧ Q σ' H') X.xe s
noncomputable abbrev TSet := V → V → V → Hp → (Hp → Prop) → Prop
noncomputable def PSet (X : Cx) (t : TSet) : Prop :=
  ∀ (pins : List (Addr × Obj)) (s : Shared) (σ : St) (H : Hp) (o i v : V) (ov iv u : Value) (Q : Hp → Prop), Inv X pins σ H s → RelV o ov → RelV i iv → RelV v u → t o i v H Q →
    wpAny (model X.prog X.w) X.A (setItem ov iv u) (fun _ s' => ∃ H', Inv X pins σ H' s' ∧ Q H') X.xe s
noncomputable abbrev TIp := V → V → Hp → VK → Prop
noncomputable def PIp (X : Cx) (op : Operator) (t : TIp) : Prop :=
  ∀ (pins : List (Addr × Obj)) (s : Shared) (σ : St) (H : Hp) (x y : V) (v u : Value) (Q : VK), Inv X pins σ H s → RelV x v → RelV y u → t x y H Q →
    wpAny (model X.prog X.w) X.A (inplaceOp op v u) (EP X pins σ Q) X.xe s
section
variable {X : Cx} {pos : Pos}
noncomputable def gName (i : Nat) : TG := fun v σ H Q => Q (σ.set i (some v)) H
theorem pg_name {i : Nat} {x : Str} (hN : X.N.Nodup) (hi : X.N[i]? = some x) (hx : Loc X.env.scope x) (hf : X.fn x = true ∨ X.env.scope.names.lookup x = some .local := by first | exact .inl rfl | exact .inr rfl | assumption) : PG X (.Name x pos) (gName i) := by
  intro pins s σ H v u Q I r h
  exact wpAny_assign_Name (store_ok I hN hi hx r (fun s' I' => ⟨_, H, I', h⟩) hf)
noncomputable def gNil : TGs := fun vs σ H Q => vs = [] ∧ Q σ H
noncomputable def gCons (t : TG) (u : TGs) : TGs := fun vs σ H Q => ∃ v r, vs = v :: r ∧ t v σ H fun σ' H' => u r σ' H' Q
theorem pgs_nil : PGs X [] gNil := by
  intro pins s σ H vs us Q I r h
  obtain ⟨e, h⟩ := h
  subst e
  cases r
  exact assignInOrder_nil ⟨σ, H, I, h⟩
theorem pgs_cons {e : Expr} {es : List Expr} {t : TG} {u : TGs} (h1 : PG X e t) (h2 : PGs X es u)
    (hs : (assignEach (e :: es) X.env).map (·.2) = assign e X.env :: (assignEach es X.env).map (·.2) := by rfl) : PGs X (e :: es) (gCons t u) := by
  intro pins s σ H vs us Q I r h
  obtain ⟨v, vr, e1, h⟩ := h
  subst e1
  cases r with
  | cons r rr =>
    rw [hs]
    refine assignInOrder_cons (thn (h1 pins s σ H _ _ _ I r h) fun _ s1 ⟨σ1, H1, I1, q1⟩ => ?_)
    exact h2 pins s1 σ1 H1 _ _ Q I1 rr q1
noncomputable def gTup (K : PySem.W.Frag) (n : Nat) (t : TGs) : TG := fun v σ H Q => ∃ a xs, v = .ref a ∧ SqT K H a xs ∧ xs.length = n ∧ t xs σ H Q
theorem pg_tup {es : List Expr} {k : Nat} {t : TGs} {n : Nat} (hc : X.calm = true) (h : PGs X es t)
    (hn : (assignEach es X.env).length = n := by rfl) (hst : (assignEach es X.env).findIdx? (·.1) = none := by rfl) : PG X (.Tuple es k pos) (gTup X.K n t) := by
  intro pins s σ H v u Q I r hw
  obtain ⟨a, xs, e1, hq, hl, hw⟩ := hw
  subst e1
  cases r
  obtain ⟨its, rv, ht, hz⟩ := I.tuple hq
  refine assign_Tuple_tuple (I.ok.hd hc) ht (by simp [hn, ← hl, rv.length]) hst fun h' hx => ?_
  have I1 : Inv X pins σ H { s with heap := h' } := I.kept (t' := s.toks) fun b o e => hx b o (Nat.ne_of_lt (Heap.lt_size e)) e
  exact h pins _ σ H xs _ Q I1 (by simpa using rv) hw
noncomputable def gSub (to ti : TE) (t : TSet) : TG := fun v σ H Q => to σ H fun o H1 => ti σ H1 fun i H2 => t o i v H2 fun H3 => Q σ H3
theorem pg_sub {o i : Expr} {to ti : TE} {t : TSet} (ho : PE X o to) (hi : PE X i ti) (hs : PSet X t)
    (ha : ∀ v, assign (.Subscript o i pos) X.env v = (do
      let ov ← holding [v] (eval o X.env)
      let iv ← holding [v, ov] (eval i X.env)
      standAt pos
      holding [v, ov, iv] (setItem ov iv v)
      release [v, ov, iv] []) := by intro _; rfl) : PG X (.Subscript o i pos) (gSub to ti t) := by
  intro pins s σ H v u Q I r h
  rw [ha]
  refine wpAny_bind (wpAny_holding (thn (ho pins s σ H _ I h) fun ov s1 ⟨x, H1, I1, r1, q1⟩ => ?_))
  refine wpAny_bind (wpAny_holding (thn (hi pins s1 σ H1 _ I1 q1) fun iv s2 ⟨y, H2, I2, r2, q2⟩ => ?_))
  refine wpAny_bind (wpAny_standAt (wpAny_bind (wpAny_holding (thn (hs pins s2 σ H2 x y v ov iv u _ I2 r1 r2 r q2) fun _ s3 ⟨H3, I3, q3⟩ => ?_))))
  exact wpAny_release ⟨σ, H3, I3, q3⟩
noncomputable def tAsg (te : TE) (g : TG) : TS := fun D σ H => te σ H fun x H1 => g x σ H1 D.nx
theorem ps_asg {tg e : Expr} {te : TE} {g : TG} (he : PE X e te) (hg : PG X tg g) (hs : swapsWithSole [tg] e pos.line X.env = pure false := by rfl) (hw : swappedStores [tg] e X.env = pure none := by rfl)
    (h1 : (assignEach [tg] X.env).map (·.2) = [assign tg X.env] := by rfl) : PS X (.Assign [tg] e pos) (tAsg te g) := by
  intro pins s σ H D I h
  refine wpAny_Assign_stores (thn (he pins s σ H _ I h) fun v s1 ⟨x, H1, I1, r1, q1⟩ => ?_) hs hw
  rw [h1]
  exact thn (hg pins s1 σ H1 x v _ I1 r1 q1) fun _ s2 q => q
theorem ps_set {i : Nat} {x : Str} {e : Expr} {te : TE} {pos' : Pos} (hN : X.N.Nodup) (hi : X.N[i]? = some x) (hx : Loc X.env.scope x) (he : PE X e te) (hs : swapsWith e (some (.Name x pos')) pos.line X.env = pure false := by rfl) (hf : X.fn x = true ∨ X.env.scope.names.lookup x = some .local := by first | exact .inl rfl | exact .inr rfl | assumption) :
    PS X (.Assign [.Name x pos'] e pos) (tAsg te (gName i)) := by
  intro pins s σ H D I h
  refine wpAny_Assign_Name (thn (he pins s σ H _ I h) fun v s1 ⟨y, H1, I1, r1, q1⟩ => ?_) hs
  exact store_ok I1 hN hi hx r1 (fun s2 I2 => ⟨_, H1, I2, q1⟩) hf
noncomputable def tPar (i j : Nat) (ta : TA) : TS := fun D σ H => ta σ H fun vs H1 => ∃ v w, vs = [v, w] ∧ D.nx ((σ.set i (some v)).set j (some w)) H1
theorem ps_par {i j : Nat} {x y : Str} {a b : Expr} {ta : TA} {px py pt : Pos} {kt k2 pt2} (hc : X.calm = true) (hN : X.N.Nodup) (hi : X.N[i]? = some x) (hj : X.N[j]? = some y) (hij : i ≠ j)
    (hx : X.env.scope.names.lookup x = some .local) (hy : X.env.scope.names.lookup y = some .local) (ha : PA X [a, b] ta)
    (hw : swappedStores [.Tuple [.Name x px, .Name y py] kt pt] (.Tuple [a, b] k2 pt2) X.env = pure (some [x, y]))
    (hs : swapsWithSole [.Tuple [.Name x px, .Name y py] kt pt] (.Tuple [a, b] k2 pt2) pos.line X.env = pure false := by rfl) :
    PS X (.Assign [.Tuple [.Name x px, .Name y py] kt pt] (.Tuple [a, b] k2 pt2) pos) (tPar i j ta) := by
  intro pins s σ H D I h
  rw [exec_Assign_arm]
  refine wpAny_bind (wpAny_standAt ?_)
  rw [hs]
  refine wpAny_bind (wpAny_pure ?_)
  rw [if_neg (by decide)]
  refine wpAny_bind (Tuple_ (thn (ha _ pins s σ H _ I h) fun us s1 ⟨vs, H1, I1, r1, q1⟩ => ?_))
  obtain ⟨v, w, e1, q1⟩ := q1
  subst e1
  obtain ⟨u1, u2, rfl, rv, rw'⟩ : ∃ u1 u2, us = [u1, u2] ∧ RelV v u1 ∧ RelV w u2 := by
    cases r1 with
    | cons p q =>
      cases q with
      | cons p' q' =>
        cases q'
        exact ⟨_, _, rfl, p, p'⟩
  refine wpAny_newObj_type ?_ (by show 2 ≤ sizeLine; decide)
  have I2 : Inv X pins σ H1 { s1 with heap := s1.heap.push { cls := .type "tuple", data := .seq [u1, u2].toArray } } := I1.kept (t' := s1.toks) fun b o e => Heap.get?_push_of_some _ e
  rw [hw]
  refine wpAny_bind (wpAny_pure ?_)
  show wpAny (model X.prog X.w) X.A (do rule "assign.swapped-stores"; let items ← unpackItems (.ref s1.heap.objs.size) 2 none; assignInOrder [fun v => bindName X.env y v, fun v => bindName X.env x v] items.reverse; pure Flow.next) _ _ _
  refine wpAny_bind (wpAny_rule (wpAny_bind (unpackItems_tuple (items := #[u1, u2]) (I.ok.hd hc) (IsTup.new s1.heap _) fun h' hx' => ?_)))
  have I3 := I2.kept (h' := h') (t' := s1.toks) fun b o e => hx' b o (Nat.ne_of_lt (Heap.lt_size e)) e
  show wpAny _ _ (assignInOrder [fun v => bindName X.env y v, fun v => bindName X.env x v] [u2, u1] >>= fun _ => pure Flow.next) _ _ _
  refine wpAny_bind (assignInOrder_cons (wpAny_bindName (store_ok I3 hN hj (.inl hy) rw' (fun s2 I4 => ?_) (.inr hy))))
  refine assignInOrder_cons (wpAny_bindName (store_ok I4 hN hi (.inl hx) rv (fun s3 I5 => assignInOrder_nil (wpAny_pure ?_)) (.inr hx)))
  rw [List.set_comm _ _ (Ne.symm hij)] at I5
  exact ⟨_, H1, I5, q1⟩
noncomputable def tAug (i : Nat) (te : TE) (ti : TIp) : TS := fun D σ H => ∃ x, σ[i]? = some (some x) ∧ te σ H fun y H1 => ti x y H1 fun z H2 => D.nx (σ.set i (some z)) H2
theorem ps_aug {i : Nat} {x : Str} {e : Expr} {te : TE} {op : Operator} {ti : TIp} {pos' : Pos} (hN : X.N.Nodup) (hi : X.N[i]? = some x) (hx : Loc X.env.scope x) (he : PE X e te) (ho : PIp X op ti) (hf : X.fn x = true ∨ X.env.scope.names.lookup x = some .local := by first | exact .inl rfl | exact .inr rfl | assumption) :
    PS X (.AugAssign (.Name x pos') op e pos) (tAug i te ti) := by
  intro pins s σ H D I h
  obtain ⟨v, e1, h⟩ := h
  obtain ⟨m, hn, hl⟩ := I.loc
  have vis : Vis X.env.scope x := by rcases hx with k | k; exact .inl k; exact .inr (.inl k)
  obtain ⟨u, r, l⟩ := hl i x v hi e1 vis
  refine wpAny_AugAssign_Name ?_
  have go : wpAny (model X.prog X.w) X.A (eval e X.env) (fun w s₂ => wpAny (model X.prog X.w) X.A (inplaceOp op u w) (fun r s₃ => wpAny (model X.prog X.w) X.A (storeName X.env x r) (fun _ => SP X pins D .next) X.xe s₃) X.xe s₂) X.xe s := by
    refine thn (he pins s σ H _ I h) fun w s1 ⟨y, H1, I1, r1, q1⟩ => ?_
    refine thn (ho pins s1 σ H1 v y u w _ I1 r r1 q1) fun z s2 ⟨zv, H2, I2, r2, q2⟩ => ?_
    exact store_ok I2 hN hi hx r2 (fun s3 I3 => ⟨_, H2, I3, q2⟩) hf
  rcases l with ⟨hk, hm⟩ | ⟨hk, c, hc, hcell⟩
  · exact wpAny_loadName_local I.ok.kind hk hn hm go
  · rcases hk with hk | hk
    · exact wpAny_loadName_cell I.ok.kind hk hc hcell go
    · rcases hx with k | k
      · have : X.env.scope.names.lookup x = some .free := hk
        rw [k] at this; cases this
      · have : X.env.scope.names.lookup x = some .free := hk
        rw [k] at this; cases this
noncomputable def ipI (f : Int → Int → Int) : TIp := fun x y H Q => ∃ i j, x = .int i ∧ y = .int j ∧ Q (.int (f i j)) H
theorem ip_add : PIp X .Add (ipI fun i j => i + j) := by
  intro pins s σ H x y v u Q I r1 r2 h
  obtain ⟨i, j, e1, e2, q⟩ := h
  subst e1; subst e2
  obtain ⟨t, rfl⟩ := r1
  obtain ⟨t', rfl⟩ := r2
  exact iadd_int ⟨.int _, H, I.tok _, ⟨_, rfl⟩, q⟩
end

section
variable {X : Cx} {pos : Pos}
noncomputable def tWhile (c : TT) (tb : TS) : TS := fun D σ H => ∃ W : Nat → St → Hp → Prop, (∃ m, W m σ H) ∧ ∀ m σ H, W m σ H →
  c σ H fun b H1 => if b = true then ∃ N : St → Hp → Prop, (∀ σ' H', N σ' H' → ∃ m', m' < m ∧ W m' σ' H') ∧ tb { D with nx := N, ct := N, bk := D.nx } σ H1 else D.nx σ H1
theorem ps_while {c : Expr} {body : List Stmt} {tc : TT} {tb : TS} (hp : PassesOwn (model X.prog X.w) X.A X.env X.xe) (hc : PT X c tc) (hb : PSs X body tb) : PS X (.While c body [] pos) (tWhile tc tb) := by
  intro pins s σ H D I h
  obtain ⟨W, ⟨m0, w0⟩, turn⟩ := h
  refine wpAny_While (codeAny_whileLoop (fun n s' => ∃ σ' H', Inv X pins σ' H' s' ∧ W n σ' H') ?_ m0 ⟨σ, H, I, w0⟩)
  rintro n s1 ⟨σ1, H1, I1, w1⟩
  refine wpAny_passesOwn hp (thn (hc pins s1 σ1 H1 _ I1 (turn n σ1 H1 w1)) fun b s2 ⟨H2, I2, q2⟩ => ?_)
  cases b with
  | true =>
    obtain ⟨N, hN, q2⟩ := q2
    rw [if_pos rfl]
    refine wpAny_passesOwn hp (thn (hb pins s2 σ1 H2 _ I2 q2) fun f s3 q3 => ?_)
    cases f with
    | next =>
      obtain ⟨σ3, H3, I3, n3⟩ := q3
      obtain ⟨m', hm, w3⟩ := hN σ3 H3 n3
      exact ⟨m', hm, σ3, H3, I3, w3⟩
    | cont =>
      obtain ⟨σ3, H3, I3, n3⟩ := q3
      obtain ⟨m', hm, w3⟩ := hN σ3 H3 n3
      exact ⟨m', hm, σ3, H3, I3, w3⟩
    | brk => exact q3
    | ret v => exact q3
  | false =>
    rw [if_neg Bool.false_ne_true]
    exact wpAny_execs_nil ⟨σ1, H2, I2, q2⟩
end

structure It where
  go : Nat → Hp → Prop
  yld : Nat → Hp → V → Hp → Prop
  stop : Nat → Hp → Prop
noncomputable def FpOk (X : Cx) (pins : List (Addr × Obj)) (H : Hp) (b : Addr) : Prop :=
  H b = none ∧ b ≠ X.env.locals ∧ b ∉ X.fs ∧ (b ∈ X.ex ∨ X.s₀.heap.objs.size ≤ b) ∧ (∀ x c, X.env.cells.lookup x = some c → c ≠ b) ∧ ∀ p ∈ X.pn ++ pins, p.1 ≠ b
theorem Inv.fpOk {X : Cx} {pins : List (Addr × Obj)} {σ : St} {H H' : Hp} {s : Shared} {b : Addr} (I : Inv X pins σ H s) (hb : s.heap.objs.size ≤ b) (hn : H' b = none) : FpOk X pins H' b := by
  refine ⟨hn, Nat.ne_of_gt (Nat.lt_of_lt_of_le I.lt hb), I.nofs hb, .inr (Nat.le_trans I.sz hb), fun x c e z => ?_, fun p hp z => ?_⟩
  · obtain ⟨v, q⟩ := I.cell x c e
    exact absurd (Nat.lt_of_lt_of_le q.lt (by rw [z]; exact hb)) (Nat.lt_irrefl _)
  · exact absurd (Nat.lt_of_lt_of_le (Heap.lt_size (I.pin p hp).1) (by rw [z]; exact hb)) (Nat.lt_irrefl _)
structure Turn (P : Program) (w : World) (K : PySem.W.Frag) (tg : Expr) (J : It) (fp : List Addr) (it : Addr) (tn : Nat → Heap → Prop) : Prop where
  mem : it ∈ fp
  obj : ∀ i h, tn i h → ∀ b ∈ fp, ∃ o, h.get? b = some o ∧ ∀ v, o.data ≠ .cell v
  keep : ∀ i h h', tn i h → (∀ b ∈ fp, ∀ o, h.get? b = some o → h'.get? b = some o) → tn i h'
  item : ∀ (X : Cx), X.prog = P → X.w = w → X.K = K → X.calm = true → ∀ (i : Nat) (pins : List (Addr × Obj)) (s : Shared) (σ : St) (H : Hp) (E : Value → Shared → Prop), Inv X pins σ H s → (∀ b ∈ fp, FpOk X pins H b) → tn i s.heap → J.go i H →
    wpAny (model P w) X.A (pyNext (.ref it)) (fun r s1 => ∃ u, r = some u ∧
      wpAny (model P w) X.A (letOwnedTupleGo tg (.ref it) u) (fun _ s2 => ∃ x H', Inv X pins σ H' s2 ∧ RelV x u ∧ J.yld i H x H' ∧ tn (i + 1) s2.heap ∧ ∀ b ∈ fp, H' b = none) E s1) E s
  done : ∀ (X : Cx), X.prog = P → X.w = w → X.K = K → X.calm = true → ∀ (i : Nat) (pins : List (Addr × Obj)) (s : Shared) (σ : St) (H : Hp) (E : Value → Shared → Prop), Inv X pins σ H s → (∀ b ∈ fp, FpOk X pins H b) → tn i s.heap → J.stop i H →
    wpAny (model P w) X.A (pyNext (.ref it)) (fun r s1 => r = none ∧ Inv X pins σ H s1) E s
  self : ∀ (A : Around) (i : Nat) (s : Shared) (Q : Value → Shared → Prop) (E : Value → Shared → Prop), tn i s.heap → Q (.ref it) s → wpAny (model P w) A (pyIter (.ref it)) Q E s
noncomputable abbrev TI := St → Hp → (It → Hp → Prop) → Prop
noncomputable def PIE (X : Cx) (pins : List (Addr × Obj)) (σ : St) (tg : Expr) (R : It → Hp → Prop) (itv : Value) (s2 : Shared) : Prop :=
  ∃ (it : Addr) (fp : List Addr) (tn : Nat → Heap → Prop) (J : It) (H' : Hp), itv = .ref it ∧ Inv X pins σ H' s2 ∧ Turn X.prog X.w X.K tg J fp it tn ∧ tn 0 s2.heap ∧ (∀ b ∈ fp, FpOk X pins H' b) ∧ R J H'
noncomputable def PI (X : Cx) (tg iter : Expr) (wi : TI) : Prop :=
  ∀ (pins : List (Addr × Obj)) (s : Shared) (σ : St) (H : Hp) (R : It → Hp → Prop), Inv X pins σ H s → wi σ H R →
    wpAny (model X.prog X.w) X.A (eval iter X.env) (fun v s1 => wpAny (model X.prog X.w) X.A (pyIter v) (PIE X pins σ tg R) X.xe s1) X.xe s

theorem go_of {M : Model} {A : Around} {E : Value → Shared → Prop} {s : Shared} {tg : Expr} {it : Addr} {u : Value} {o : Obj} {n : String} {vs : Array Value} {Q : Unit → Shared → Prop} (ho : s.heap.get? it = some o) (hc : o.cls = .type n) (hd : o.data = .fields vs)
    (hn : ["enumerate", "zip", "dict_itemiterator", "dict_reverseitemiterator", "odict_iterator", "itertools.zip_longest", "itertools.pairwise"].contains n = false) (hQ : Q () s) : wpAny M A (letOwnedTupleGo tg (.ref it) u) Q E s := by
  unfold letOwnedTupleGo
  cases tg <;> first
    | exact wpAny_pure hQ
    | (cases u <;> first
        | exact wpAny_pure hQ
        | (refine wpAny_bind (wpAny_load ho ?_)
           rw [hc, hd]
           show wpAny M A (if (["enumerate", "zip", "dict_itemiterator", "dict_reverseitemiterator", "odict_iterator", "itertools.zip_longest", "itertools.pairwise"].contains n && vs[0]? == some (rawInt _)) = true then _ else _) Q E s
           rw [if_neg (by intro h; rw [hn, Bool.false_and] at h; cases h)]
           exact wpAny_pure hQ))

noncomputable def Itl (K : PySem.W.Frag) (a : Addr) : It :=
  ⟨fun i H => ∃ xs x, SqL K H a xs ∧ xs[i]? = some x, fun i H x H' => H' = H ∧ ∀ xs, SqL K H a xs → xs[i]? = some x, fun i H => ∃ xs, SqL K H a xs ∧ xs.length ≤ i⟩
noncomputable def Itt (K : PySem.W.Frag) (a : Addr) : It :=
  ⟨fun i H => ∃ xs x, SqT K H a xs ∧ xs[i]? = some x, fun i H x H' => H' = H ∧ ∀ xs, SqT K H a xs → xs[i]? = some x, fun i H => ∃ xs, SqT K H a xs ∧ xs.length ≤ i⟩
noncomputable def Itr (lo : Int) (n : Nat) : It := ⟨fun i _ => i < n, fun i H x H' => H' = H ∧ x = .int (lo + i), fun i _ => n ≤ i⟩
theorem turn_list {P : Program} {w : World} {K : PySem.W.Frag} {tg : Expr} (a it : Addr) : Turn P w K tg (Itl K a) [it] it (fun i h => h.IsListIter it a i) where
  mem := by simp
  obj := fun i h st b hb => by
    have e : b = it := by simpa using hb
    subst e
    obtain ⟨o, e, c, d⟩ := st
    exact ⟨o, e, fun v z => by rw [d] at z; cases z⟩
  keep := fun i h h' st k => st.at fun o e => k it (by simp) o e
  item := by
    intro X hP hw hK hc i pins s σ H E I hf st hg
    subst hP hw hK
    obtain ⟨xs, x, hq, hx⟩ := hg
    obtain ⟨its, rv, p, hz⟩ := I.list hq
    obtain ⟨u, hu, ru⟩ := rv.get hx
    obtain ⟨f0, f1, f2, f3, f4, f5⟩ := hf it (by simp)
    refine wpAny_pyNext_list_item st p.isList (x := u) (by simpa using hu) fun h' st' sb => ?_
    have I1 : Inv X pins σ H { s with heap := h' } := I.turned (t' := s.toks) (fun b o hb e => (sb.2 b hb).trans e) f0 f1 f3 f4 f5
    obtain ⟨o, e, c, d⟩ := id st'
    exact ⟨u, rfl, go_of (s := { s with heap := h' }) e c d (by decide) ⟨x, H, I1, ru, ⟨rfl, fun ys hy => by rw [I.list_inj hy hq]; exact hx⟩, st', fun b hb => (hf b hb).1⟩⟩
  done := by
    intro X hP hw hK hc i pins s σ H E I hf st hg
    subst hP hw hK
    obtain ⟨xs, hq, hx⟩ := hg
    obtain ⟨its, rv, p, hz⟩ := I.list hq
    obtain ⟨f0, f1, f2, f3, f4, f5⟩ := hf it (by simp)
    have hl := rv.length
    exact wpAny_pyNext_list_end (I.ok.hd hc) st p.isList (by simp; (clear f0 f1 f2 f3 hc hz; omega)) fun h' eb => ⟨rfl, I.turned (t' := s.toks) (fun b o hb e => eb b o hb e) f0 f1 f3 f4 f5⟩
  self := fun _ _ _ _ _ st h => wpAny_pyIter_listiter st h
theorem turn_tuple {P : Program} {w : World} {K : PySem.W.Frag} {tg : Expr} (a it : Addr) : Turn P w K tg (Itt K a) [it] it (fun i h => h.IsTupleIter it a i) where
  mem := by simp
  obj := fun i h st b hb => by
    have e : b = it := by simpa using hb
    subst e
    obtain ⟨o, e, c, d⟩ := st
    exact ⟨o, e, fun v z => by rw [d] at z; cases z⟩
  keep := fun i h h' st k => st.at fun o e => k it (by simp) o e
  item := by
    intro X hP hw hK hc i pins s σ H E I hf st hg
    subst hP hw hK
    obtain ⟨xs, x, hq, hx⟩ := hg
    obtain ⟨its, rv, p, hz⟩ := I.tuple hq
    obtain ⟨u, hu, ru⟩ := rv.get hx
    obtain ⟨f0, f1, f2, f3, f4, f5⟩ := hf it (by simp)
    refine wpAny_pyNext_tuple_item st (show s.heap.IsTuple a its.toArray from p) (x := u) (by simpa using hu) fun h' st' sb => ?_
    have I1 : Inv X pins σ H { s with heap := h' } := I.turned (t' := s.toks) (fun b o hb e => (sb.2 b hb).trans e) f0 f1 f3 f4 f5
    obtain ⟨o, e, c, d⟩ := id st'
    exact ⟨u, rfl, go_of (s := { s with heap := h' }) e c d (by decide) ⟨x, H, I1, ru, ⟨rfl, fun ys hy => by rw [I.tuple_inj hy hq]; exact hx⟩, st', fun b hb => (hf b hb).1⟩⟩
  done := by
    intro X hP hw hK hc i pins s σ H E I hf st hg
    subst hP hw hK
    obtain ⟨xs, hq, hx⟩ := hg
    obtain ⟨its, rv, p, hz⟩ := I.tuple hq
    obtain ⟨f0, f1, f2, f3, f4, f5⟩ := hf it (by simp)
    have hl := rv.length
    exact wpAny_pyNext_tuple_end (I.ok.hd hc) st (show s.heap.IsTuple a its.toArray from p) (by simp; (clear f0 f1 f2 f3 hc hz; omega)) fun h' eb => ⟨rfl, I.turned (t' := s.toks) (fun b o hb e => eb b o hb e) f0 f1 f3 f4 f5⟩
  self := fun _ _ _ _ _ st h => wpAny_pyIter_tupleiter st h
theorem turn_range {P : Program} {w : World} {K : PySem.W.Frag} {tg : Expr} (it : Addr) (lo : Int) (n : Nat) : Turn P w K tg (Itr lo n) [it] it (fun i h => IsRangeIter h it (lo + (i : Nat) * 1) ((n : Int) - (i : Nat)) 1) where
  mem := by simp
  obj := fun i h st b hb => by
    have e : b = it := by simpa using hb
    subst e
    exact ⟨_, st, fun v z => by
      have z' : Data.fields _ = Data.cell v := z
      cases z'⟩
  keep := fun i h h' st k => k it (by simp) _ st
  item := by
    intro X hP hw hK hc i pins s σ H E I hf st hg
    subst hP hw hK
    obtain ⟨f0, f1, f2, f3, f4, f5⟩ := hf it (by simp)
    have W := Walks.range (prog := X.prog) (w := X.w) (I.ok.hd hc) it lo 1 n
    refine W.item i s _ _ hg st fun v h' tk hv st' kk => ?_
    obtain ⟨t, rfl⟩ := hv
    have I1 : Inv X pins σ H { s with heap := h', toks := tk } := I.turned (fun b o hb e => kk b o (by simpa using hb) e) f0 f1 f3 f4 f5
    refine ⟨_, rfl, go_of (s := { s with heap := h', toks := tk }) (n := "range_iterator") st' rfl rfl (by decide) ⟨.int (lo + i), H, I1, ⟨t, ?_⟩, ⟨rfl, rfl⟩, st', fun b hb => (hf b hb).1⟩⟩
    rw [Int.mul_one]
  done := by
    intro X hP hw hK hc i pins s σ H E I hf st hg
    subst hP hw hK
    obtain ⟨f0, f1, f2, f3, f4, f5⟩ := hf it (by simp)
    exact wpAny_pyNext_range_end (I.ok.hd hc) st (by have : n ≤ i := hg; (clear f0 f1 f2 f3 hc st; omega)) fun h' eb => ⟨rfl, I.turned (t' := s.toks) (fun b o hb e => eb b o hb e) f0 f1 f3 f4 f5⟩
  self := fun _ _ _ _ _ st h => wpAny_pyIter_rangeiter st h
end L2

namespace L2
open PySem PySem.Spec PyProof.Rows
section
variable {X : Cx} {tg : Expr}
noncomputable def iList (K : PySem.W.Frag) (tl : TE) : TI := fun σ H R => tl σ H fun x H1 => ∃ a, x = .ref a ∧ (∃ xs, SqL K H1 a xs) ∧ R (Itl K a) H1
noncomputable def iTup (K : PySem.W.Frag) (tl : TE) : TI := fun σ H R => tl σ H fun x H1 => ∃ a, x = .ref a ∧ (∃ xs, SqT K H1 a xs) ∧ R (Itt K a) H1
theorem pi_list {l : Expr} {tl : TE} (hl : PE X l tl) : PI X tg l (iList X.K tl) := by
  intro pins s σ H R I h
  refine thn (hl pins s σ H _ I h) fun v s1 ⟨x, H1, I1, r1, q1⟩ => ?_
  obtain ⟨a, e, ⟨xs, hq⟩, q⟩ := q1
  subst e
  cases r1
  obtain ⟨its, rv, p, hz⟩ := I1.list hq
  refine wpAny_pyIter_list p.isList ?_
  refine ⟨s1.heap.objs.size, [s1.heap.objs.size], _, _, H1, rfl, I1.kept (t' := s1.toks) fun b o e => Heap.get?_push_of_some _ e, turn_list a _, ⟨_, Heap.get?_push_size _ rfl, rfl, rfl⟩, fun b hb => ?_, q⟩
  have e : b = s1.heap.objs.size := by simpa using hb
  subst e
  exact I1.fpOk (Nat.le_refl _) (I1.hok.fresh (Nat.le_refl _))
theorem pi_tup {l : Expr} {tl : TE} (hl : PE X l tl) : PI X tg l (iTup X.K tl) := by
  intro pins s σ H R I h
  refine thn (hl pins s σ H _ I h) fun v s1 ⟨x, H1, I1, r1, q1⟩ => ?_
  obtain ⟨a, e, ⟨xs, hq⟩, q⟩ := q1
  subst e
  cases r1
  obtain ⟨its, rv, p, hz⟩ := I1.tuple hq
  refine wpAny_pyIter_tuple (show s1.heap.IsTuple a its.toArray from p) ?_
  refine ⟨s1.heap.objs.size, [s1.heap.objs.size], _, _, H1, rfl, I1.kept (t' := s1.toks) fun b o e => Heap.get?_push_of_some _ e, turn_tuple a _, ⟨_, Heap.get?_push_size _ rfl, rfl, rfl⟩, fun b hb => ?_, q⟩
  have e : b = s1.heap.objs.size := by simpa using hb
  subst e
  exact I1.fpOk (Nat.le_refl _) (I1.hok.fresh (Nat.le_refl _))
theorem range_it {pins : List (Addr × Obj)} {σ : St} {H : Hp} {s : Shared} {R : It → Hp → Prop} {E : Value → Shared → Prop} {lo hi : Int} {t u v : Tok} {tk : Nat} (I : Inv X pins σ H s) (h1 : -(2 ^ 62) ≤ lo) (h2 : lo < 2 ^ 62) (h3 : -(2 ^ 62) ≤ hi) (h4 : hi < 2 ^ 62)
    (q : R (Itr lo (hi - lo).toNat) H) : wpAny (model X.prog X.w) X.A (pyIter (.ref s.heap.objs.size)) (PIE X pins σ tg R) E { s with heap := s.heap.push { cls := .type "range", data := .fields #[.int lo t, .int hi u, .int 1 v] }, toks := tk } := by
  refine wpAny_pyIter_range (IsRange.new ..) (small_one h1 h2 h3 h4) ?_
  have I1 : Inv X pins σ H { s with heap := s.heap.push { cls := .type "range", data := .fields #[.int lo t, .int hi u, .int 1 v] }, toks := tk } := I.kept fun b o e => Heap.get?_push_of_some _ e
  refine ⟨(s.heap.push { cls := .type "range", data := .fields #[.int lo t, .int hi u, .int 1 v] }).objs.size, [(s.heap.push { cls := .type "range", data := .fields #[.int lo t, .int hi u, .int 1 v] }).objs.size], _, _, H, rfl,
    I1.kept (t' := tk) fun b o e => Heap.get?_push_of_some _ e, turn_range _ lo (hi - lo).toNat, ?_, fun b hb => ?_, q⟩
  · have e1 : lo + ((0 : Nat) : Int) * 1 = lo := by simp
    have e2 : (((hi - lo).toNat : Nat) : Int) - ((0 : Nat) : Int) = Builtin.Range.rangeSize lo hi 1 := by rw [rangeSize_one]; split <;> (clear e1 h1 h2 h3 h4; omega)
    show IsRangeIter _ _ (lo + ((0 : Nat) : Int) * 1) ((((hi - lo).toNat : Nat) : Int) - ((0 : Nat) : Int)) 1
    rw [e1, e2]
    exact Heap.get?_push_size _ rfl
  · have e : b = (s.heap.push { cls := .type "range", data := .fields #[.int lo t, .int hi u, .int 1 v] }).objs.size := by simpa using hb
    subst e
    exact I1.fpOk (Nat.le_refl _) (I1.hok.fresh (Nat.le_refl _))
noncomputable def iRng1 (ta : TA) : TI := fun σ H R => ta σ H fun vs H1 => ∃ j : Int, vs = [.int j] ∧ -(2 ^ 62) ≤ j ∧ j < 2 ^ 62 ∧ R (Itr 0 j.toNat) H1
noncomputable def iRng2 (ta : TA) : TI := fun σ H R => ta σ H fun vs H1 => ∃ i j : Int, vs = [.int i, .int j] ∧ (-(2 ^ 62) ≤ i ∧ i < 2 ^ 62 ∧ -(2 ^ 62) ≤ j ∧ j < 2 ^ 62) ∧ R (Itr i (j - i).toNat) H1
theorem pi_range1 {a : Expr} {ta : TA} {p pos : Pos} (hg : Gl X "range") (hm : X.mg "range" = none) (ha : PA X [a] ta) (hs : starEach [a] X.env = [(false, eval a X.env)] := by rfl) : PI X tg (.Call (.Name "range" p) [a] [] pos) (iRng1 ta) := by
  intro pins s σ H R I h
  refine Call_ (ld_blt I hg hm boot_range (PyProof.Rows.callWith_type1 (thn (ha pos pins s σ H _ I h) fun us s1 ⟨vs, H1, I1, r1, q1⟩ => ?_) hs rfl))
  obtain ⟨j, e, q1, q2, q⟩ := q1
  subst e
  cases r1 with
  | cons r rr =>
    cases rr
    obtain ⟨t, rfl⟩ := r
    exact call_range_1 (range_it I1 (by (clear hm hs q1 q2; omega)) (by (clear hm hs q1 q2; omega)) q1 q2 (by simpa using q))
theorem pi_range2 {a b : Expr} {ta : TA} {p pos : Pos} (hg : Gl X "range") (hm : X.mg "range" = none) (ha : PA X [a, b] ta) (hs : starEach [a, b] X.env = [(false, eval a X.env), (false, eval b X.env)] := by rfl) (hs2 : starEach [b] X.env = [(false, eval b X.env)] := by rfl) :
    PI X tg (.Call (.Name "range" p) [a, b] [] pos) (iRng2 ta) := by
  intro pins s σ H R I h
  refine Call_ (ld_blt I hg hm boot_range (PyProof.Rows.callWith_type1 (thn (ha pos pins s σ H _ I h) fun us s1 ⟨vs, H1, I1, r1, q1⟩ => ?_) (by rw [hs, hs2]) (by rw [hs2]; rfl)))
  obtain ⟨i, j, e, ⟨q1, q2, q3, q4⟩, q⟩ := q1
  subst e
  cases r1 with
  | cons r rr =>
    cases rr with
    | cons r' rr =>
      cases rr
      obtain ⟨t, rfl⟩ := r
      obtain ⟨t', rfl⟩ := r'
      exact call_range_2 (range_it I1 q1 q2 q3 q4 q)

noncomputable def tFor (wi : TI) (g : TG) (tb : TS) : TS := fun D σ H => wi σ H fun J H1 => ∃ W : Nat → Nat → St → Hp → Prop, (∃ m, W 0 m σ H1) ∧ ∀ i m σ H, W i m σ H →
  (J.stop i H ∧ D.nx σ H) ∨ (J.go i H ∧ ∃ N : St → Hp → Prop, (∀ σ' H', N σ' H' → ∃ m', m' < m ∧ W (i + 1) m' σ' H') ∧ ∀ x H', J.yld i H x H' → g x σ H' fun σ2 H2 => tb { D with nx := N, ct := N, bk := D.nx } σ2 H2)
noncomputable def pinsAt (fp : List Addr) (h : Heap) : List (Addr × Obj) := fp.filterMap fun b => (h.get? b).map fun o => (b, o)
theorem mem_pinsAt {fp : List Addr} {h : Heap} {b : Addr} {o : Obj} (hb : b ∈ fp) (e : h.get? b = some o) : (b, o) ∈ pinsAt fp h := List.mem_filterMap.mpr ⟨b, hb, by rw [e]; rfl⟩
theorem of_pinsAt {fp : List Addr} {h : Heap} {p : Addr × Obj} (hp : p ∈ pinsAt fp h) : p.1 ∈ fp ∧ h.get? p.1 = some p.2 := by
  obtain ⟨b, hb, e⟩ := List.mem_filterMap.mp hp
  cases q : h.get? b with
  | none => rw [q] at e; cases e
  | some o =>
    rw [q] at e
    have e' : (b, o) = p := Option.some.inj e
    subst e'
    exact ⟨hb, q⟩
theorem Inv.pinned {pins : List (Addr × Obj)} {σ : St} {H : Hp} {s : Shared} {fp : List Addr} (I : Inv X pins σ H s) (hf : ∀ b ∈ fp, FpOk X pins H b) (ho : ∀ b ∈ fp, ∃ o, s.heap.get? b = some o ∧ ∀ v, o.data ≠ .cell v) : Inv X (pins ++ pinsAt fp s.heap) σ H s :=
  I.pins_of fun p hp => (List.mem_append.mp hp).elim (fun z => I.pin p (List.mem_append_right _ z)) fun z => by
    obtain ⟨hb, e⟩ := of_pinsAt z
    obtain ⟨f0, f1, f2, _⟩ := hf p.1 hb
    obtain ⟨o, e', d⟩ := ho p.1 hb
    rw [e] at e'; cases e'
    exact ⟨e, f0, f1, f2, d⟩
theorem Inv.unpinned {pins pl : List (Addr × Obj)} {σ : St} {H : Hp} {s : Shared} (I : Inv X (pins ++ pl) σ H s) : Inv X pins σ H s := I.pins_of fun p hp => I.pin p (List.mem_append_right _ (List.mem_append_left _ hp))
theorem ps_for {iter : Expr} {body : List Stmt} {wi : TI} {g : TG} {tb : TS} {pos : Pos} (hp : PassesOwn (model X.prog X.w) X.A X.env X.xe) (hc : X.calm = true) (hi : PI X tg iter wi) (hg : PG X tg g) (hb : PSs X body tb)
    (hs : ∀ x, foldedSetIterable iter X.env x = pure x := by intro _; rfl) : PS X (.For tg iter body [] pos) (tFor wi g tb) := by
  intro pins s σ H D I h
  refine wpAny_For (thn (hi pins s σ H _ I h) fun v s1 h1 => thn h1 fun itv s2 h2 => ?_) hs
  obtain ⟨it, fp, tn, J, H2, e, I2, T, st2, f2, W, ⟨m0, w0⟩, turn⟩ := h2
  subst e
  -- what stays true of the iterator's objects through the loop
  have stat : ∀ {H' : Hp}, (∀ b ∈ fp, H' b = none) → ∀ b ∈ fp, FpOk X pins H' b := fun hn b hb => ⟨hn b hb, (f2 b hb).2⟩
  refine codeAny_forLoop_any (fun n s' => ∃ i σ' H', Inv X pins σ' H' s' ∧ tn i s'.heap ∧ (∀ b ∈ fp, H' b = none) ∧ W i n σ' H') ?_ m0 ⟨0, σ, H2, I2, st2, fun b hb => (f2 b hb).1, w0⟩
  rintro n s3 ⟨i, σ3, H3, I3, st3, fr3, w3⟩
  rcases turn i n σ3 H3 w3 with ⟨stop, qn⟩ | ⟨go, N, hN, step⟩
  · refine wpAny_passesOwn hp (thn (T.done X rfl rfl rfl hc i pins s3 σ3 H3 X.xe I3 (stat fr3) st3 stop) fun r s4 ⟨hr, I4⟩ => ?_)
    subst hr
    exact wpAny_execs_nil ⟨σ3, H3, I4, qn⟩
  · refine wpAny_passesOwn hp (thn (T.item X rfl rfl rfl hc i pins s3 σ3 H3 X.xe I3 (stat fr3) st3 go) fun r s4 ⟨u, hr, h4⟩ => ?_)
    subst hr
    refine wpAny_passesOwn hp (thn h4 fun _ s5 ⟨x, H5, I5, r5, y5, st5, fr5⟩ => ?_)
    have I5' := I5.pinned (stat fr5) (T.obj _ _ st5)
    refine wpAny_passesOwn hp (thn (hg _ s5 σ3 H5 x u _ I5' r5 (step x H5 y5)) fun _ s6 ⟨σ6, H6, I6, q6⟩ => ?_)
    refine wpAny_passesOwn hp (thn (hb _ s6 σ6 H6 _ I6 q6) fun f s7 q7 => ?_)
    have again : ∀ {σ7 : St} {H7 : Hp}, Inv X (pins ++ pinsAt fp s5.heap) σ7 H7 s7 → N σ7 H7 → ∃ m, m < n ∧ ∃ i σ' H', Inv X pins σ' H' s7 ∧ tn i s7.heap ∧ (∀ b ∈ fp, H' b = none) ∧ W i m σ' H' := fun {σ7 H7} I7 n7 => by
      obtain ⟨m', hm, w7⟩ := hN σ7 H7 n7
      refine ⟨m', hm, i + 1, σ7, H7, I7.unpinned, T.keep _ _ _ st5 fun b hb o e => (I7.pin (b, o) (List.mem_append_right _ (List.mem_append_right _ (mem_pinsAt hb e)))).1, fun b hb => ?_, w7⟩
      obtain ⟨o, e, d⟩ := T.obj _ _ st5 b hb
      exact (I7.pin (b, o) (List.mem_append_right _ (List.mem_append_right _ (mem_pinsAt hb e)))).2.1
    cases f with
    | next => obtain ⟨σ7, H7, I7, n7⟩ := q7; exact again I7 n7
    | cont => obtain ⟨σ7, H7, I7, n7⟩ := q7; exact again I7 n7
    | brk => obtain ⟨σ7, H7, I7, q7⟩ := q7; exact ⟨σ7, H7, I7.unpinned, q7⟩
    | ret v => obtain ⟨x7, σ7, H7, I7, r7, q7⟩ := q7; exact ⟨x7, σ7, H7, I7.unpinned, r7, q7⟩
end

theorem for_list {K : PySem.W.Frag} {a : Addr} {xs : List V} {g : TG} {tb : TS} {D : Ends} {σ : St} {H : Hp} (Pv : Nat → St → Hp → Prop) (h0 : Pv 0 σ H) (hl : ∀ i σ H, i ≤ xs.length → Pv i σ H → SqL K H a xs)
    (hs : ∀ i x σ H, xs[i]? = some x → Pv i σ H → g x σ H fun σ2 H2 => tb { D with nx := Pv (i + 1), ct := Pv (i + 1), bk := D.nx } σ2 H2) (hd : ∀ σ H, Pv xs.length σ H → D.nx σ H) :
    ∃ W : Nat → Nat → St → Hp → Prop, (∃ m, W 0 m σ H) ∧ ∀ i m σ H, W i m σ H →
      ((Itl K a).stop i H ∧ D.nx σ H) ∨ ((Itl K a).go i H ∧ ∃ N : St → Hp → Prop, (∀ σ' H', N σ' H' → ∃ m', m' < m ∧ W (i + 1) m' σ' H') ∧ ∀ x H', (Itl K a).yld i H x H' → g x σ H' fun σ2 H2 => tb { D with nx := N, ct := N, bk := D.nx } σ2 H2) := by
  refine ⟨fun i m σ H => m = xs.length - i ∧ i ≤ xs.length ∧ Pv i σ H, ⟨xs.length, by simp, Nat.zero_le _, h0⟩, ?_⟩
  rintro i m σ H ⟨rfl, hi, p⟩
  have q := hl i σ H hi p
  by_cases hlt : i < xs.length
  · refine .inr ⟨⟨xs, xs[i], q, by simp [hlt]⟩, Pv (i + 1), fun σ' H' p' => ⟨xs.length - (i + 1), by (clear hi; omega), rfl, hlt, p'⟩, fun x H' y => ?_⟩
    obtain ⟨e, y⟩ := y
    subst e
    exact hs i x σ _ (y xs q) p
  · have e : i = xs.length := by omega
    subst e
    exact .inl ⟨⟨xs, q, Nat.le_refl _⟩, hd σ H p⟩
theorem for_tup {K : PySem.W.Frag} {a : Addr} {xs : List V} {g : TG} {tb : TS} {D : Ends} {σ : St} {H : Hp} (Pv : Nat → St → Hp → Prop) (h0 : Pv 0 σ H) (hl : ∀ i σ H, i ≤ xs.length → Pv i σ H → SqT K H a xs)
    (hs : ∀ i x σ H, xs[i]? = some x → Pv i σ H → g x σ H fun σ2 H2 => tb { D with nx := Pv (i + 1), ct := Pv (i + 1), bk := D.nx } σ2 H2) (hd : ∀ σ H, Pv xs.length σ H → D.nx σ H) :
    ∃ W : Nat → Nat → St → Hp → Prop, (∃ m, W 0 m σ H) ∧ ∀ i m σ H, W i m σ H →
      ((Itt K a).stop i H ∧ D.nx σ H) ∨ ((Itt K a).go i H ∧ ∃ N : St → Hp → Prop, (∀ σ' H', N σ' H' → ∃ m', m' < m ∧ W (i + 1) m' σ' H') ∧ ∀ x H', (Itt K a).yld i H x H' → g x σ H' fun σ2 H2 => tb { D with nx := N, ct := N, bk := D.nx } σ2 H2) := by
  refine ⟨fun i m σ H => m = xs.length - i ∧ i ≤ xs.length ∧ Pv i σ H, ⟨xs.length, by simp, Nat.zero_le _, h0⟩, ?_⟩
  rintro i m σ H ⟨rfl, hi, p⟩
  have q := hl i σ H hi p
  by_cases hlt : i < xs.length
  · refine .inr ⟨⟨xs, xs[i], q, by simp [hlt]⟩, Pv (i + 1), fun σ' H' p' => ⟨xs.length - (i + 1), by (clear hi; omega), rfl, hlt, p'⟩, fun x H' y => ?_⟩
    obtain ⟨e, y⟩ := y
    subst e
    exact hs i x σ _ (y xs q) p
  · have e : i = xs.length := by omega
    subst e
    exact .inl ⟨⟨xs, q, Nat.le_refl _⟩, hd σ H p⟩
theorem for_range {lo : Int} {n : Nat} {g : TG} {tb : TS} {D : Ends} {σ : St} {H : Hp} (Pv : Nat → St → Hp → Prop) (h0 : Pv 0 σ H)
    (hs : ∀ i σ H, i < n → Pv i σ H → g (.int (lo + i)) σ H fun σ2 H2 => tb { D with nx := Pv (i + 1), ct := Pv (i + 1), bk := D.nx } σ2 H2) (hd : ∀ σ H, Pv n σ H → D.nx σ H) :
    ∃ W : Nat → Nat → St → Hp → Prop, (∃ m, W 0 m σ H) ∧ ∀ i m σ H, W i m σ H →
      ((Itr lo n).stop i H ∧ D.nx σ H) ∨ ((Itr lo n).go i H ∧ ∃ N : St → Hp → Prop, (∀ σ' H', N σ' H' → ∃ m', m' < m ∧ W (i + 1) m' σ' H') ∧ ∀ x H', (Itr lo n).yld i H x H' → g x σ H' fun σ2 H2 => tb { D with nx := N, ct := N, bk := D.nx } σ2 H2) := by
  refine ⟨fun i m σ H => m = n - i ∧ i ≤ n ∧ Pv i σ H, ⟨n, by simp, Nat.zero_le _, h0⟩, ?_⟩
  rintro i m σ H ⟨rfl, hi, p⟩
  by_cases hlt : i < n
  · refine .inr ⟨hlt, Pv (i + 1), fun σ' H' p' => ⟨n - (i + 1), by (clear hi; omega), rfl, hlt, p'⟩, fun x H' y => ?_⟩
    obtain ⟨e, y⟩ := y
    subst e y
    exact hs i σ _ hlt p
  · have e : i = n := by omega
    subst e
    exact .inl ⟨Nat.le_refl _, hd σ H p⟩
end L2

namespace L2
open PySem PySem.Spec PyProof.Rows

noncomputable abbrev R2 := V → V → Hp → VK → Prop
noncomputable def OpR (X : Cx) (f : Value → Value → Sem Value) (r : R2) : Prop :=
  ∀ (pins : List (Addr × Obj)) (s : Shared) (σ : St) (H : Hp) (x y : V) (v u : Value) (Q : VK), Inv X pins σ H s → RelV x v → RelV y u → r x y H Q →
    wpAny (model X.prog X.w) X.A (f v u) (EP X pins σ Q) X.xe s
noncomputable def UnR (X : Cx) (f : Value → Sem Value) (r : V → Hp → VK → Prop) : Prop :=
  ∀ (pins : List (Addr × Obj)) (s : Shared) (σ : St) (H : Hp) (x : V) (v : Value) (Q : VK), Inv X pins σ H s → RelV x v → r x H Q →
    wpAny (model X.prog X.w) X.A (f v) (EP X pins σ Q) X.xe s
noncomputable def CallR (X : Cx) (f : Value) (r : List V → Hp → VK → Prop) : Prop :=
  ∀ (pins : List (Addr × Obj)) (s : Shared) (σ : St) (H : Hp) (xs : List V) (us : List Value) (Q : VK), Inv X pins σ H s → Vals xs us → r xs H Q →
    wpAny (model X.prog X.w) X.A (call f us) (EP X pins σ Q) X.xe s
noncomputable def tOp (r : R2) (ta tb : TE) : TE := fun σ H Q => ta σ H fun x H1 => tb σ H1 fun y H2 => r x y H2 Q
noncomputable def tUn (r : V → Hp → VK → Prop) (ta : TE) : TE := fun σ H Q => ta σ H fun x H1 => r x H1 Q
noncomputable def rI (C : Int → Int → Prop) (g : Int → Int → V) : R2 := fun x y H Q => ∃ i j, x = .int i ∧ y = .int j ∧ C i j ∧ Q (g i j) H
noncomputable def rI0 (g : Int → Int → V) : R2 := fun x y H Q => ∃ i j, x = .int i ∧ y = .int j ∧ Q (g i j) H
noncomputable def rU (g : Int → V) : V → Hp → VK → Prop := fun x H Q => ∃ i, x = .int i ∧ Q (g i) H

section
variable {X : Cx} {a b c : Expr} {ta tb tc : TE} {pos : Pos}

theorem binT (ha : PE X a ta) (hb : PE X b tb) {pins : List (Addr × Obj)} {s : Shared} {σ : St} {H : Hp} {R : V → V → Hp → Prop} (I : Inv X pins σ H s)
    (h : ta σ H fun x H1 => tb σ H1 fun y H2 => R x y H2) {Q : Value → Shared → Prop} {f : Value → Value → Sem Value}
    (hf : ∀ v u s2 x y H2, Inv X pins σ H2 s2 → RelV x v → RelV y u → R x y H2 → wpAny (model X.prog X.w) X.A (f v u) Q X.xe s2) :
    wpAny (model X.prog X.w) X.A (eval a X.env) (fun v s₁ => wpAny (model X.prog X.w) X.A (eval b X.env) (fun u s₂ => wpAny (model X.prog X.w) X.A (f v u) Q X.xe s₂) X.xe s₁) X.xe s := by
  refine thn (ha pins s σ H _ I h) fun v s1 ⟨x, H1, I1, r1, q1⟩ => ?_
  refine thn (hb pins s1 σ H1 _ I1 q1) fun u s2 ⟨y, H2, I2, r2, q2⟩ => ?_
  exact hf v u s2 x y H2 I2 r1 r2 q2

theorem pe_op {op : Operator} {r : R2} (ho : OpR X (binaryOp op) r) (ha : PE X a ta) (hb : PE X b tb) : PE X (.BinOp a op b pos) (tOp r ta tb) := by
  intro pins s σ H Q I h
  exact wpAny_BinOp (binT ha hb I h fun v u s2 x y H2 I2 rx ry q => ho pins s2 σ H2 x y v u Q I2 rx ry q)
theorem pe_un {op : UnaryOp} {r : V → Hp → VK → Prop} (ho : UnR X (unaryOp op) r) (ha : PE X a ta) : PE X (.UnaryOp op a pos) (tUn r ta) := by
  intro pins s σ H Q I h
  exact UnaryOp_ (thn (ha pins s σ H _ I h) fun v s1 ⟨x, H1, I1, r1, q1⟩ => ho pins s1 σ H1 x v Q I1 r1 q1)
theorem opI {f : Value → Value → Sem Value} {C : Int → Int → Prop} {g : Int → Int → Int}
    (rule : ∀ (i j : Int) (t u : Tok) (s : Shared) (Q : Value → Shared → Prop) (E : Value → Shared → Prop), C i j → Q (.int (g i j) s.toks) { s with toks := s.toks + 1 } → wpAny (model X.prog X.w) X.A (f (.int i t) (.int j u)) Q E s) :
    OpR X f (rI C fun i j => .int (g i j)) := by
  intro pins s σ H x y v u Q I rx ry h
  obtain ⟨i, j, rfl, rfl, hc, q⟩ := h
  obtain ⟨t, rfl⟩ := rx
  obtain ⟨t', rfl⟩ := ry
  exact rule i j t t' s _ _ hc ⟨.int (g i j), H, I.tok _, ⟨_, rfl⟩, q⟩
theorem opI0 {f : Value → Value → Sem Value} {g : Int → Int → Int}
    (rule : ∀ (i j : Int) (t u : Tok) (s : Shared) (Q : Value → Shared → Prop) (E : Value → Shared → Prop), Q (.int (g i j) s.toks) { s with toks := s.toks + 1 } → wpAny (model X.prog X.w) X.A (f (.int i t) (.int j u)) Q E s) :
    OpR X f (rI0 fun i j => .int (g i j)) := by
  intro pins s σ H x y v u Q I rx ry h
  obtain ⟨i, j, rfl, rfl, q⟩ := h
  obtain ⟨t, rfl⟩ := rx
  obtain ⟨t', rfl⟩ := ry
  exact rule i j t t' s _ _ ⟨.int (g i j), H, I.tok _, ⟨_, rfl⟩, q⟩
theorem opB0 {f : Value → Value → Sem Value} {g : Int → Int → Bool}
    (rule : ∀ (i j : Int) (t u : Tok) (s : Shared) (Q : Value → Shared → Prop) (E : Value → Shared → Prop), Q (.bool (g i j)) s → wpAny (model X.prog X.w) X.A (f (.int i t) (.int j u)) Q E s) :
    OpR X f (rI0 fun i j => .bl (g i j)) := by
  intro pins s σ H x y v u Q I rx ry h
  obtain ⟨i, j, rfl, rfl, q⟩ := h
  obtain ⟨t, rfl⟩ := rx
  obtain ⟨t', rfl⟩ := ry
  exact rule i j t t' s _ _ ⟨.bl (g i j), H, I, rfl, q⟩

noncomputable def CDiv (i j : Int) : Prop := 0 < j ∧ j < 1073741824
noncomputable def CMul (i j : Int) : Prop := (-(2 ^ 64) < i ∧ i < 2 ^ 64) ∨ (-(2 ^ 64) < j ∧ j < 2 ^ 64)
theorem CMul.ok {i j : Int} (h : CMul i j) : IntMulOk i j := by
  rcases h with ⟨h1, h2⟩ | ⟨h1, h2⟩
  · exact .of_left (intBits_le_64 h1 h2)
  · exact .of_right (intBits_le_64 h1 h2)
theorem op_add : OpR X (binaryOp .Add) (rI0 fun i j => .int (i + j)) := opI0 fun _ _ _ _ _ _ _ q => add_int q
theorem op_sub : OpR X (binaryOp .Sub) (rI0 fun i j => .int (i - j)) := opI0 fun _ _ _ _ _ _ _ q => sub_int q
theorem op_mul : OpR X (binaryOp .Mult) (rI CMul fun i j => .int (i * j)) := opI fun _ _ _ _ _ _ _ hc q => mul_int q hc.ok
theorem op_fdiv : OpR X (binaryOp .FloorDiv) (rI CDiv fun i j => .int (i / j)) := opI fun i j _ _ _ _ _ hc q => by
  have h1 : (0 : Int) < j := hc.1
  have h2 : j < 1073741824 := hc.2
  exact floordiv_int (by omega) (by rw [Int.fdiv_eq_ediv_of_nonneg i (by omega)]; exact q) (.inl (PyProof.noPylong_small (by omega)))
theorem op_mod : OpR X (binaryOp .Mod) (rI (fun _ j => 0 < j) fun i j => .int (i % j)) := opI fun i j _ _ _ _ _ hc q => by
  have h1 : (0 : Int) < j := hc
  exact mod_int' (by (clear h1; omega)) (by rw [Int.fmod_eq_emod_of_nonneg i (by (clear h1; omega))]; exact q)
theorem unI {f : Value → Sem Value} {g : Int → Int}
    (rule : ∀ (i : Int) (t : Tok) (s : Shared) (Q : Value → Shared → Prop) (E : Value → Shared → Prop), Q (.int (g i) s.toks) { s with toks := s.toks + 1 } → wpAny (model X.prog X.w) X.A (f (.int i t)) Q E s) :
    UnR X f (rU fun i => .int (g i)) := by
  intro pins s σ H x v Q I rx h
  obtain ⟨i, rfl, q⟩ := h
  obtain ⟨t, rfl⟩ := rx
  exact rule i t s _ _ ⟨.int (g i), H, I.tok _, ⟨_, rfl⟩, q⟩
theorem un_neg : UnR X (unaryOp .USub) (rU fun i => .int (-i)) := unI fun _ _ _ _ _ q => neg_int q
end

noncomputable def scal : V → V → Bool
  | .non, .non => true | .non, .int _ => true | .int _, .non => true | .non, .bl _ => true | .bl _, .non => true | .non, .str _ => true | .str _, .non => true
  | .int _, .int _ => true | .bl _, .bl _ => true | .str _, .str _ => true | .byt _, .byt _ => true
  | .int _, .str _ => true | .str _, .int _ => true | .bl _, .str _ => true | .str _, .bl _ => true
  | _, _ => false
noncomputable def rEq : R2 := fun x y H Q => scal x y = true ∧ Q (.bl (decide (x = y))) H
noncomputable def rNe : R2 := fun x y H Q => scal x y = true ∧ Q (.bl (!decide (x = y))) H

theorem dec_int {i j : Int} : decide (V.int i = V.int j) = (i == j) := by
  rw [Bool.eq_iff_iff]
  simp
theorem dec_bl {i j : Bool} : decide (V.bl i = V.bl j) = (i == j) := by
  rw [Bool.eq_iff_iff]
  simp
theorem dec_str {i j : Str} : decide (V.str i = V.str j) = (i == j) := by
  rw [Bool.eq_iff_iff]
  simp
theorem dec_byt {i j : Array UInt8} : decide (V.byt i = V.byt j) = (i.toList == j.toList) := by
  rw [Bool.eq_iff_iff]
  cases i
  cases j
  simp

section
variable {X : Cx} {a b c : Expr} {ta tb tc : TE} {pos : Pos}
theorem fin_bl {pins : List (Addr × Obj)} {σ : St} {H : Hp} {s : Shared} {Q : VK} {k k' : Bool} (I : Inv X pins σ H s) (q : Q (.bl k) H) (e : k = k') : EP X pins σ Q (.bool k') s := by
  subst e
  exact ⟨.bl k, H, I, rfl, q⟩
theorem op_eq : OpR X (compareOp .Eq) rEq := by
  intro pins s σ H x y v u Q I rx ry h
  obtain ⟨hs, q⟩ := h
  cases x with
  | non =>
    cases rx
    cases y with
    | non => cases ry; exact PySem.EqNone.eq_none_none (fin_bl I q (by simp))
    | bl j => cases ry; exact PySem.EqNone.eq_none_bool (fin_bl I q (by simp))
    | int j => obtain ⟨t', rfl⟩ := ry; exact PySem.EqNone.eq_none_int (fin_bl I q (by simp))
    | str j => obtain ⟨t', rfl⟩ := ry; exact PySem.EqNone.eq_none_str (fin_bl I q (by simp))
    | _ => exact absurd (show false = true from hs) Bool.false_ne_true
  | bl i =>
    cases rx
    cases y with
    | non => cases ry; exact PySem.EqNone.eq_bool_none (fin_bl I q (by simp))
    | bl j => cases ry; exact eq_bool (fin_bl I q dec_bl)
    | str j => obtain ⟨t', rfl⟩ := ry; exact PySem.EqMixed.eq_bool_str (fin_bl I q (by simp))
    | _ => exact absurd (show false = true from hs) Bool.false_ne_true
  | int i =>
    obtain ⟨t, rfl⟩ := rx
    cases y with
    | non => cases ry; exact PySem.EqNone.eq_int_none (fin_bl I q (by simp))
    | int j => obtain ⟨t', rfl⟩ := ry; exact eq_int (fin_bl I q dec_int)
    | str j => obtain ⟨t', rfl⟩ := ry; exact PySem.EqMixed.eq_int_str (fin_bl I q (by simp))
    | _ => exact absurd (show false = true from hs) Bool.false_ne_true
  | str i =>
    obtain ⟨t, rfl⟩ := rx
    cases y with
    | non => cases ry; exact PySem.EqNone.eq_str_none (fin_bl I q (by simp))
    | bl j => cases ry; exact PySem.EqMixed.eq_str_bool (fin_bl I q (by simp))
    | int j => obtain ⟨t', rfl⟩ := ry; exact PySem.EqMixed.eq_str_int (fin_bl I q (by simp))
    | str j => obtain ⟨t', rfl⟩ := ry; exact eq_str (fin_bl I q dec_str)
    | _ => exact absurd (show false = true from hs) Bool.false_ne_true
  | byt i =>
    obtain ⟨t, rfl⟩ := rx
    cases y with
    | byt j => obtain ⟨t', rfl⟩ := ry; exact PySem.W.eq_bytes (fin_bl I q dec_byt)
    | _ => exact absurd (show false = true from hs) Bool.false_ne_true
  | _ => cases y <;> exact absurd (show false = true from hs) Bool.false_ne_true
theorem op_ne : OpR X (compareOp .NotEq) rNe := by
  intro pins s σ H x y v u Q I rx ry h
  obtain ⟨hs, q⟩ := h
  cases x with
  | non =>
    cases rx
    cases y with
    | non => cases ry; exact PySem.EqNone.ne_none_none (fin_bl I q (by simp))
    | bl j => cases ry; exact PySem.EqNone.ne_none_bool (fin_bl I q (by simp))
    | int j => obtain ⟨t', rfl⟩ := ry; exact PySem.EqNone.ne_none_int (fin_bl I q (by simp))
    | str j => obtain ⟨t', rfl⟩ := ry; exact PySem.EqNone.ne_none_str (fin_bl I q (by simp))
    | _ => exact absurd (show false = true from hs) Bool.false_ne_true
  | bl i =>
    cases rx
    cases y with
    | non => cases ry; exact PySem.EqNone.ne_bool_none (fin_bl I q (by simp))
    | bl j => cases ry; exact ne_bool (fin_bl I q (congrArg not dec_bl))
    | str j => obtain ⟨t', rfl⟩ := ry; exact PySem.EqMixed.ne_bool_str (fin_bl I q (by simp))
    | _ => exact absurd (show false = true from hs) Bool.false_ne_true
  | int i =>
    obtain ⟨t, rfl⟩ := rx
    cases y with
    | non => cases ry; exact PySem.EqNone.ne_int_none (fin_bl I q (by simp))
    | int j => obtain ⟨t', rfl⟩ := ry; exact ne_int (fin_bl I q (congrArg not dec_int))
    | str j => obtain ⟨t', rfl⟩ := ry; exact PySem.EqMixed.ne_int_str (fin_bl I q (by simp))
    | _ => exact absurd (show false = true from hs) Bool.false_ne_true
  | str i =>
    obtain ⟨t, rfl⟩ := rx
    cases y with
    | non => cases ry; exact PySem.EqNone.ne_str_none (fin_bl I q (by simp))
    | bl j => cases ry; exact PySem.EqMixed.ne_str_bool (fin_bl I q (by simp))
    | int j => obtain ⟨t', rfl⟩ := ry; exact PySem.EqMixed.ne_str_int (fin_bl I q (by simp))
    | str j => obtain ⟨t', rfl⟩ := ry; exact ne_str (fin_bl I q (congrArg not dec_str))
    | _ => exact absurd (show false = true from hs) Bool.false_ne_true
  | byt i =>
    obtain ⟨t, rfl⟩ := rx
    cases y with
    | byt j => obtain ⟨t', rfl⟩ := ry; exact PySem.W.ne_bytes (fin_bl I q (congrArg not dec_byt))
    | _ => exact absurd (show false = true from hs) Bool.false_ne_true
  | _ => cases y <;> exact absurd (show false = true from hs) Bool.false_ne_true

theorem op_lt : OpR X (compareOp .Lt) (rI0 fun i j => .bl (decide (i < j))) := opB0 fun _ _ _ _ _ _ _ q => lt_int q
theorem op_le : OpR X (compareOp .LtE) (rI0 fun i j => .bl (decide (i ≤ j))) := opB0 fun _ _ _ _ _ _ _ q => le_int q
theorem op_gt : OpR X (compareOp .Gt) (rI0 fun i j => .bl (decide (j < i))) := opB0 fun _ _ _ _ _ _ _ q => gt_int q
theorem op_ge : OpR X (compareOp .GtE) (rI0 fun i j => .bl (decide (j ≤ i))) := opB0 fun _ _ _ _ _ _ _ q => ge_int q
theorem nomark (b : Expr) {op : CmpOp} (h : op ≠ .In := by decide) (h2 : op ≠ .NotIn := by decide) : behindInMarks op b = false := by
  have e1 : (op == CmpOp.In) = false := by cases op <;> first | rfl | exact absurd rfl h
  have e2 : (op == CmpOp.NotIn) = false := by cases op <;> first | rfl | exact absurd rfl h2
  cases b <;> simp [behindInMarks, e1, e2]
theorem pe_cmpR {op : CmpOp} {r : R2} (ho : OpR X (compareOp op) r) (ha : PE X a ta) (hb : PE X b tb) (hm : behindInMarks op b = false) : PE X (.Compare a [op] [b] pos) (tOp r ta tb) := by
  intro pins s σ H Q I h
  exact wpAny_Compare1 (binT ha hb I h fun v u s2 x y H2 I2 rx ry q => ho pins s2 σ H2 x y v u Q I2 rx ry q) hm
noncomputable def tTest (t : TE) : TT := fun σ H Q => t σ H fun x H' => ∃ k, x = .bl k ∧ Q k H'
theorem pt_cmpR {op : CmpOp} {r : R2} (ho : OpR X (compareOp op) r) (ha : PE X a ta) (hb : PE X b tb) (hm : behindInMarks op b = false) : PT X (.Compare a [op] [b] pos) (tTest (tOp r ta tb)) := by
  intro pins s σ H Q I h
  refine wpAny_isTrue_Compare1 (thn (ha pins s σ H _ I h) fun v s1 ⟨x, H1, I1, r1, q1⟩ => thn (hb pins s1 σ H1 _ I1 q1) fun u s2 ⟨y, H2, I2, r2, q2⟩ =>
    thn (ho pins s2 σ H2 x y v u _ I2 r1 r2 q2) fun c s3 ⟨z, H3, I3, r3, k, e, q3⟩ => ?_) hm
  subst e
  cases r3
  exact wpAny_truthy_bool ⟨H3, I3, q3⟩
noncomputable def tChain (r r' : R2) (ta tb tc : TE) : TE := fun σ H Q => ta σ H fun x H1 => tb σ H1 fun y H2 => r x y H2 fun z H3 => ∃ k, z = .bl k ∧
  (if k = true then tc σ H3 fun w' H4 => r' y w' H4 Q else Q (.bl false) H3)
theorem pe_chain {op op' : CmpOp} {r r' : R2} (ho : OpR X (compareOp op) r) (ho' : OpR X (compareOp op') r') (ha : PE X a ta) (hb : PE X b tb) (hc : PE X c tc)
    (hm : lastMarks [op, op'] [b, c] = false := by with_unfolding_all rfl) : PE X (.Compare a [op, op'] [b, c] pos) (tChain r r' ta tb tc) := by
  intro pins s σ H Q I h
  refine Compare_chain (thn (ha pins s σ H _ I h) fun v s1 ⟨x, H1, I1, r1, q1⟩ => chain_link (thn (hb pins s1 σ H1 _ I1 q1) fun u s2 ⟨y, H2, I2, r2, q2⟩ =>
    thn (ho pins s2 σ H2 x y v u _ I2 r1 r2 q2) fun d s3 ⟨z, H3, I3, r3, k, e, q3⟩ => ?_)) hm
  subst e
  cases r3
  refine wpAny_truthy_bool ?_
  cases k with
  | false => exact ite_ff ⟨.bl false, H3, I3, rfl, q3⟩
  | true => exact ite_tt (chain_last (thn (hc pins s3 σ H3 _ I3 q3) fun w' s4 ⟨z', H4, I4, r4, q4⟩ => ho' pins s4 σ H4 y z' u w' Q I4 r2 r4 q4))
theorem pt_chain {op op' : CmpOp} {r r' : R2} (ho : OpR X (compareOp op) r) (ho' : OpR X (compareOp op') r') (ha : PE X a ta) (hb : PE X b tb) (hc : PE X c tc)
    (hm : lastMarks [op, op'] [b, c] = false := by with_unfolding_all rfl) : PT X (.Compare a [op, op'] [b, c] pos) (tTest (tChain r r' ta tb tc)) := by
  intro pins s σ H Q I h
  refine isTrue_chain (thn (ha pins s σ H _ I h) fun v s1 ⟨x, H1, I1, r1, q1⟩ => test_link (thn (hb pins s1 σ H1 _ I1 q1) fun u s2 ⟨y, H2, I2, r2, q2⟩ =>
    thn (ho pins s2 σ H2 x y v u _ I2 r1 r2 q2) fun d s3 ⟨z, H3, I3, r3, k, e, q3⟩ => ?_)) hm
  subst e
  cases r3
  refine wpAny_truthy_bool ?_
  cases k with
  | false =>
    obtain ⟨k', e', q'⟩ := q3
    cases e'
    exact ite_ff ⟨H3, I3, q'⟩
  | true =>
    refine ite_tt (test_last (thn (hc pins s3 σ H3 _ I3 q3) fun w' s4 ⟨z', H4, I4, r4, q4⟩ => thn (ho' pins s4 σ H4 y z' u w' _ I4 r2 r4 q4) fun d' s5 ⟨z2, H5, I5, r5, k2, e2, q5⟩ => ?_))
    subst e2
    cases r5
    exact wpAny_truthy_bool ⟨H5, I5, q5⟩

theorem line63 : (sizeLine : Nat) < 2 ^ 63 := by rw [sizeLine_eq]; decide
theorem vals1 {x : V} {us : List Value} (r : Vals [x] us) : ∃ u, us = [u] ∧ RelV x u := by
  cases r with
  | cons r1 r2 => cases r2; exact ⟨_, rfl, r1⟩
theorem vals2 {x y : V} {us : List Value} (r : Vals [x, y] us) : ∃ u w', us = [u, w'] ∧ RelV x u ∧ RelV y w' := by
  cases r with
  | cons r1 r2 =>
    cases r2 with
    | cons r3 r4 => cases r4; exact ⟨_, _, rfl, r1, r3⟩
theorem call_max2 (hc : X.calm = true) : CallR X (.builtin "max") (fun xs H Q => ∃ i j, xs = [.int i, .int j] ∧ Q (.int (if j > i then j else i)) H) := by
  intro pins s σ H xs us Q I r h
  obtain ⟨i, j, rfl, q⟩ := h
  obtain ⟨u, w', rfl, ⟨t, rfl⟩, ⟨t', rfl⟩⟩ := vals2 r
  refine max_two_ints (I.ok.hd hc) fun h' tk k => ⟨_, H, I.kept k, ?_, q⟩
  by_cases hj : j > i
  · rw [if_pos hj, if_pos hj]; exact ⟨_, rfl⟩
  · rw [if_neg hj, if_neg hj]; exact ⟨_, rfl⟩
end
end L2

namespace L2
open PySem PySem.Spec PyProof.Rows

structure ObjM (h : Heap) (x dx C : Addr) (mA : Str → Option Value) : Prop where
  obj : h.get? x = some (PySem.W.instObj C dx)
  ns : h.Ns1 dx mA
  ne : dx ≠ x

theorem lookIn_ns {h : Heap} {dx : Addr} {mA : Str → Option Value} (n : h.Ns1 dx mA) : ∃ od, h.get? dx = some od ∧ ∀ name, PySem.W.lookIn name od = some (mA name) := by
  obtain ⟨o, es, ep, ho, hd, hk, _, hm⟩ := n
  refine ⟨o, ho, fun name => ?_⟩
  have e := hm name
  unfold nsFind findBy at e
  rw [← Array.find?_toList] at e
  unfold PySem.W.lookIn
  rw [hd]
  dsimp only
  split
  · rename_i y q
    rw [q] at e
    exact congrArg some e
  · rename_i q
    rw [q] at e
    have a : es.toList.any (·.refKey) = false := by
      rw [List.any_eq_false]
      intro y hy
      obtain ⟨z, t, hkey⟩ := hk y (Array.mem_toList_iff.mp hy)
      simp [DictEntry.refKey, hkey]
    have a' : ¬ es.toList.any (·.refKey) = true := by rw [a]; exact Bool.false_ne_true
    rw [if_neg a']
    exact congrArg some e

theorem ObjM.look {h : Heap} {x dx C : Addr} {mA : Str → Option Value} (I : ObjM h x dx C mA) : ∃ od, PySem.W.InstAt h x (PySem.W.instObj C dx) C (some od) ∧ ∀ name, PySem.W.lookIn name od = some (mA name) :=
  let ⟨od, ho, hl⟩ := lookIn_ns I.ns
  ⟨od, ⟨I.obj, rfl, rfl, ho⟩, hl⟩

section
variable {prog : Program} {w : World} {A : Around} {E : Value → Shared → Prop} {s : Shared} {K : PySem.W.Frag} {x dx C f : Addr} {mA : Str → Option Value} {name : Str} {v : Value}

theorem get_map {expr : Bool} {Q : Value → Shared → Prop} (X : K.In s.heap) (I : ObjM s.heap x dx C mA) (hg : PySem.W.plainGet K C name = true) (hh : PySem.W.hasDictIn K C = true)
    (ha : PySem.W.findIn K (.ref C) name = some none) (hv : mA name = some v) (hv' : PySem.W.handedIn v = true) (h : Q v { s with toks := s.toks + 1 }) :
    wpAny (model prog w) A (getAttr (.ref x) name expr) Q E s := by
  obtain ⟨od, J, hl⟩ := I.look
  exact PySem.W.get_value X J (PySem.W.plainGet_of hg).1 (PySem.W.findObj_own hh ha rfl (by rw [hl, hv])) hv' h

theorem get_meth {pl : Sem Bool} {Q : Value × List Value → Shared → Prop} (X : K.In s.heap) (I : ObjM s.heap x dx C mA) (hg : PySem.W.plainGet K C name = true)
    (hf : PySem.W.findIn K (.ref C) name = some (some (.ref f))) (ht : PySem.W.isFn K (.ref f) = true) (hv : mA name = none) (h : Q (.ref f, [.ref x]) s) :
    wpAny (model prog w) A (getMethod (.ref x) name pl) Q E s := by
  obtain ⟨od, J, hl⟩ := I.look
  exact PySem.W.method_fn X J (PySem.W.plainGet_of hg).1 (PySem.W.plainGet_of hg).2 hf (beq_iff_eq.mp ht) (by show (PySem.W.lookIn name od).map (·.isSome) = some false; rw [hl, hv]; rfl) h

theorem set_map {ns : List Str} {Q : Unit → Shared → Prop} (X : K.In s.heap) (I : ObjM s.heap x dx C mA)
    (hs : PySem.W.findIn K (.ref C) "__setattr__" = some (some (.builtin "object.__setattr__"))) (hp : PySem.W.plainOver K C = true) (ht : PySem.W.takerIn K C name = some none) (hh : PySem.W.hasDictIn K C = true)
    (hw : PySem.Within mA ns) (hsz : ns.length ≤ sizeLine)
    (h : ∀ h', ObjM h' x dx C (fun y => if y = name then some v else mA y) → Heap.SameBut dx s.heap h' → Q () { s with heap := h', toks := s.toks + 2 }) :
    wpAny (model prog w) A (setAttr (.ref x) name v) Q E s := by
  obtain ⟨od, J, hl⟩ := I.look
  refine PySem.W.set_plain X J hs (PySem.W.osa_open (s := { s with toks := s.toks + 1 }) (r := none) X J hp ht fun b => ?_)
  obtain ⟨cd, hc, hd'⟩ := PySem.W.any_some hh
  have hx : s.heap.get? x = some ⟨.ref C, some dx, .plain, #[]⟩ := I.obj
  refine wpAny_bind (wpAny_pure (wpAny_bind (wpAny_bind (wpAny_loadPart hx (wpAny_bind (PySem.W.Looks.here (s := { s with toks := s.toks + 1 }) (PySem.W.looks_clsIn X hc) ?_))))))
  rw [hd']
  refine wpAny_pure (a := some dx) (wpAny_bind (wpAny_pure (wpAny_bind ?_)))
  refine wpAny_nsSet1 (s := { s with toks := s.toks + 1 }) I.ns fun h' hn2 hs2 => ?_
  obtain ⟨oD, esD, epD, hoD, hdD, hcD⟩ := hn2.count (PySem.Within.cons name v hw)
  refine wpAny_bind (wpAny_lookBehind hoD (by rw [hdD]; exact pastItsLine_dict (Nat.le_trans hcD (by rw [List.length_cons]; (clear hc hcD hd' hdD hh hoD hp hs ht hx; omega)))) ?_)
  exact wpAny_pure (h _ ⟨(hs2.2 _ (Ne.symm I.ne)).trans I.obj, hn2, I.ne⟩ hs2)

theorem make_map {R : Result → Shared → Prop} {vs : List Value} {kw : List (Str × Value)} (X : K.In s.heap) (hm : PySem.W.makesIn K C = true)
    (hi : PySem.W.findIn K (.ref C) "__init__" = some (some (.ref f))) (hf : PySem.W.typeIn K (.ref f) = some (.type "function"))
    (h : codeAny (model prog w) (A.under (.builtin "type.__call__" ⟨.ref C :: vs, kw⟩)) (.call (.ref f) ⟨.ref (s.heap.objs.size + 1) :: vs, kw⟩) (PySem.W.InitBack (s.heap.objs.size + 1) R)
      { s with heap := (s.heap.push PySem.W.emptyDict).push (PySem.W.instObj C s.heap.objs.size) }) :
    codeAny (model prog w) A (.call (.ref C) ⟨vs, kw⟩) R s := by
  obtain ⟨hh, g, d, t, os⟩ := s
  exact PySem.W.make_core (PySem.W.makes_of X hm) (PySem.W.looks_findIn X hi) (fun self => PySem.W.bind_fn X self hf) (.inl rfl) h
end

noncomputable def putF (f : Str) (v : V) : List (Str × V) → List (Str × V)
  | [] => [(f, v)]
  | (g, x) :: r => if g = f then (g, v) :: r else (g, x) :: putF f v r
theorem lookup_putF (f g : Str) (v : V) : ∀ fs : List (Str × V), (putF f v fs).lookup g = if g = f then some v else fs.lookup g
  | [] => by
    show List.lookup g [(f, v)] = _
    by_cases h : g = f
    · have hb : (g == f) = true := beq_iff_eq.mpr h
      simp only [List.lookup, hb, if_pos h]
    · have hb : (g == f) = false := beq_eq_false_iff_ne.mpr h
      simp only [List.lookup, hb, if_neg h]
  | (k, x) :: r => by
    have ih := lookup_putF f g v r
    rw [show putF f v ((k, x) :: r) = (if k = f then (k, v) :: r else (k, x) :: putF f v r) from rfl]
    by_cases hk : k = f
    · rw [if_pos hk]
      by_cases h : g = k
      · have hb : (g == k) = true := beq_iff_eq.mpr h
        simp only [List.lookup, hb, if_pos (h.trans hk)]
      · have hb : (g == k) = false := beq_eq_false_iff_ne.mpr h
        simp only [List.lookup, hb, if_neg (fun e : g = f => h (e.trans hk.symm))]
    · rw [if_neg hk]
      by_cases h : g = k
      · have hb : (g == k) = true := beq_iff_eq.mpr h
        simp only [List.lookup, hb, if_neg (fun e : g = f => hk (h.symm.trans e))]
      · have hb : (g == k) = false := beq_eq_false_iff_ne.mpr h
        simp only [List.lookup, hb]
        exact ih
theorem keys_putF (f : Str) (v : V) : ∀ fs : List (Str × V), f ∈ (putF f v fs).map (·.1) ∧ ∀ g, g ∈ fs.map (·.1) → g ∈ (putF f v fs).map (·.1)
  | [] => ⟨by simp [putF], fun g h => by simp at h⟩
  | (k, x) :: r => by
    obtain ⟨i1, i2⟩ := keys_putF f v r
    rw [show putF f v ((k, x) :: r) = (if k = f then (k, v) :: r else (k, x) :: putF f v r) from rfl]
    by_cases hk : k = f
    · rw [if_pos hk]
      subst hk
      exact ⟨by simp, fun g h => by simpa using h⟩
    · rw [if_neg hk]
      refine ⟨?_, fun g h => ?_⟩
      · rw [List.map_cons]
        exact List.mem_cons_of_mem _ i1
      · rw [List.map_cons] at h ⊢
        rcases List.mem_cons.mp h with e | e
        · exact List.mem_cons.mpr (.inl e)
        · exact List.mem_cons_of_mem _ (i2 g e)
theorem length_putF (f : Str) (v : V) : ∀ fs : List (Str × V), (putF f v fs).length ≤ fs.length + 1
  | [] => by simp [putF]
  | (k, x) :: r => by
    have ih := length_putF f v r
    rw [show putF f v ((k, x) :: r) = (if k = f then (k, v) :: r else (k, x) :: putF f v r) from rfl]
    by_cases hk : k = f
    · rw [if_pos hk, List.length_cons, List.length_cons]; (clear hk ih; omega)
    · rw [if_neg hk, List.length_cons, List.length_cons]; (clear hk; omega)

theorem RelO.some_of {v : V} {o : Option Value} (r : RelO (some v) o) : ∃ u, o = some u ∧ RelV v u := by
  cases o with
  | none => exact (show False from r).elim
  | some u => exact ⟨u, rfl, r⟩
theorem RelO.none_of {o : Option Value} (r : RelO none o) : o = none := by
  cases o with
  | none => rfl
  | some u => exact (show False from r).elim
theorem handed_of {v : V} {u : Value} (r : RelV v u) : PySem.W.handedIn u = true := by
  cases v with
  | non => cases (show u = Value.none from r); rfl
  | bl b => cases (show u = Value.bool b from r); rfl
  | int i => obtain ⟨t, e⟩ := (show ∃ t, u = Value.int i t from r); cases e; rfl
  | str x => obtain ⟨t, e⟩ := (show ∃ t, u = Value.str x t from r); cases e; rfl
  | byt b => obtain ⟨t, e⟩ := (show ∃ t, u = Value.bytes b t from r); cases e; rfl
  | flt b => obtain ⟨t, e⟩ := (show ∃ t, u = Value.float b t from r); cases e; rfl
  | ref a => cases (show u = Value.ref a from r); rfl
  | ty n => cases (show u = Value.type n from r); rfl

section
variable {P : Program} {w : World} {H H' : Hp} {h h' : Heap} {a C dx : Addr} {fs fs' : List (Str × V)}
theorem ins_get (hok : HOk P w H h) (e : H a = some (.ins C dx fs)) : ∃ mA, ObjM h a dx C mA ∧ (∀ f, RelO (fs.lookup f) (mA f)) ∧ PySem.Within mA (fs.map (·.1)) ∧ fs.length ≤ 1000 ∧ H dx = some (.own a) := by
  obtain ⟨d, z, ne, ob, mA, n, r, q⟩ := (show ObjOk P w H h a (.ins C dx fs) from hok a _ e)
  exact ⟨mA, ⟨ob, n, ne⟩, r, q, z, d⟩
end

structure Cls (K : PySem.W.Frag) (C : Addr) : Prop where
  pg : PySem.W.plainGet K C Str.empty = true
  hd : PySem.W.hasDictIn K C = true
  po : PySem.W.plainOver K C = true
  sa : PySem.W.findIn K (.ref C) "__setattr__" = some (some (.builtin "object.__setattr__"))
theorem Cls.get {K : PySem.W.Frag} {C : Addr} (c : Cls K C) (f : Str) : PySem.W.plainGet K C f = true := c.pg
noncomputable def NoAttr (K : PySem.W.Frag) (C : Addr) (f : Str) : Prop := PySem.W.findIn K (.ref C) f = some none
theorem NoAttr.taker {K : PySem.W.Frag} {C : Addr} {f : Str} (n : NoAttr K C f) : PySem.W.takerIn K C f = some none := by
  unfold PySem.W.takerIn
  rw [show PySem.W.findIn K (.ref C) f = some none from n]
  rfl
structure Meth (K : PySem.W.Frag) (C : Addr) (m : Str) (f : Addr) : Prop where
  at_ : PySem.W.findIn K (.ref C) m = some (some (.ref f))
  fn : PySem.W.isFn K (.ref f) = true
  kp : PySem.W.keepIn K (.ref f) = true

section
variable {X : Cx} {pins : List (Addr × Obj)} {σ : St} {H : Hp} {s : Shared} {a C dx : Addr} {fs : List (Str × V)} {f : Str} {v : V} {A : Around} {E : Value → Shared → Prop}

theorem getattr_ok {b : Bool} {Q : Value → Shared → Prop} (I : Inv X pins σ H s) (e : H a = some (.ins C dx fs)) (c : Cls X.K C) (n : NoAttr X.K C f) (l : fs.lookup f = some v)
    (h : ∀ u s', Inv X pins σ H s' → RelV v u → Q u s') : wpAny (model X.prog X.w) A (getAttr (.ref a) f b) Q E s := by
  obtain ⟨mA, O, r, _, _, _⟩ := ins_get I.hok e
  obtain ⟨u, hu, ru⟩ := RelO.some_of (v := v) (o := mA f) (by rw [← l]; exact r f)
  exact get_map I.kIn O (c.get f) c.hd n hu (handed_of ru) (h u _ (I.tok _) ru)

theorem getmeth_ok {m : Str} {g : Addr} {pl : Sem Bool} {Q : Value × List Value → Shared → Prop} (I : Inv X pins σ H s) (e : H a = some (.ins C dx fs)) (c : Cls X.K C) (k : Meth X.K C m g) (l : fs.lookup m = none)
    (h : Q (.ref g, [.ref a]) s) : wpAny (model X.prog X.w) A (getMethod (.ref a) m pl) Q E s := by
  obtain ⟨mA, O, r, _, _, _⟩ := ins_get I.hok e
  have hn : mA m = none := RelO.none_of (by rw [← l]; exact r m)
  exact get_meth I.kIn O (c.get m) k.at_ k.fn hn h

theorem setattr_ok {y : V} {u : Value} {Q : Unit → Shared → Prop} (I : Inv X pins σ H s) (e : H a = some (.ins C dx fs)) (c : Cls X.K C) (n : NoAttr X.K C f) (hl : fs.length < 1000) (ry : RelV y u)
    (h : ∀ s', Inv X pins σ (upd H a (.ins C dx (putF f y fs))) s' → Q () s') : wpAny (model X.prog X.w) A (setAttr (.ref a) f u) Q E s := by
  obtain ⟨mA, O, r, wi, _, ho⟩ := ins_get I.hok e
  have hz : (fs.map (·.1)).length ≤ sizeLine := by rw [List.length_map, sizeLine_eq]; (clear e ho; omega)
  refine set_map I.kIn O c.sa c.po n.taker c.hd wi hz fun h' O' sb => h _ ?_
  have hd : ∃ o, h'.get? dx = some o := let ⟨o, _, _, e', _⟩ := O'.ns; ⟨o, e'⟩
  refine I.write (x := a) (e := dx) (by rw [e]; exact True.intro) (.inr ho) (fun b q hb z => (sb.2 b hb).trans z) hd ?_
  refine ⟨by rw [upd_ne O.ne]; exact ho, ?_, O.ne, O'.obj, _, O'.ns, fun g => ?_, fun g hg => ?_⟩
  · have := length_putF f y fs; (clear e hd ho hz; omega)
  · show RelO ((putF f y fs).lookup g) (if g = f then some u else mA g)
    rw [lookup_putF]
    by_cases q : g = f
    · rw [if_pos q, if_pos q]; exact ry
    · rw [if_neg q, if_neg q]; exact r g
  · by_cases q : g = f
    · rw [q]; exact (keys_putF f y fs).1
    · refine (keys_putF f y fs).2 g (wi g fun z => hg ?_)
      show (if g = f then some u else mA g) = none
      rw [if_neg q]; exact z

theorem Inv.made (I : Inv X pins σ H s) : Inv X pins σ (upd (upd H s.heap.objs.size (.own (s.heap.objs.size + 1))) (s.heap.objs.size + 1) (.ins C s.heap.objs.size []))
    { s with heap := (s.heap.push PySem.W.emptyDict).push (PySem.W.instObj C s.heap.objs.size) } := by
  have e1 : (s.heap.push PySem.W.emptyDict).get? s.heap.objs.size = some PySem.W.emptyDict := Heap.get?_push_size s.heap rfl
  have e2 : ((s.heap.push PySem.W.emptyDict).push (PySem.W.instObj C s.heap.objs.size)).get? (s.heap.objs.size + 1) = some (PySem.W.instObj C s.heap.objs.size) := by
    have := Heap.get?_push_size (s.heap.push PySem.W.emptyDict) (o := PySem.W.instObj C s.heap.objs.size) rfl
    rwa [Heap.size_push] at this
  have e3 : (s.heap.push PySem.W.emptyDict).Ns s.heap.objs.size (fun _ => none) := ⟨PySem.W.emptyDict, #[], _, e1, rfl, (fun e he => absurd he (by simp)), fun _ => rfl⟩
  have I1 := I.laid (a := s.heap.objs.size) (o := .own (s.heap.objs.size + 1)) (h' := s.heap.push PySem.W.emptyDict) (t' := s.toks) (fun b u q => Heap.get?_push_of_some _ q) (Nat.le_refl _) ⟨_, e1⟩
  refine I1.laid (a := s.heap.objs.size + 1) (o := .ins C s.heap.objs.size []) (t' := s.toks) (fun b u q => Heap.get?_push_of_some _ q) (Nat.le_of_eq (Heap.size_push _ _)) ?_
  have ne : s.heap.objs.size ≠ s.heap.objs.size + 1 := Nat.ne_of_lt (Nat.lt_succ_self _)
  refine ⟨by rw [upd_ne ne, upd_same], Nat.zero_le _, ne, e2, fun _ => none, (Heap.Ns1.of_empty e3).at fun o q => Heap.get?_push_of_some _ q, fun _ => True.intro, fun y hy => absurd rfl hy⟩

theorem attr_of {prog : Program} {w : World} {env : Env} {e : Expr} {f : Str} {pos : Pos} {s : Shared} {Q : Value → Shared → Prop} (hb : attributeBase e f env (eval e env) = eval e env)
    (h : wpAny (model prog w) A (eval e env) (fun o s₁ => wpAny (model prog w) A (getAttr o f true) Q E s₁) E s) : wpAny (model prog w) A (eval (.Attribute e f pos) env) Q E s :=
  Attribute_any_ h (by rw [arm_eval_Attribute, hb])
end

noncomputable def tFld (K : PySem.W.Frag) (ta : TE) (f : Str) : TE := fun σ H Q => ta σ H fun x H1 => ∃ a C dx fs v, x = .ref a ∧ H1 a = some (.ins C dx fs) ∧ Cls K C ∧ NoAttr K C f ∧ fs.lookup f = some v ∧ Q v H1
noncomputable def sFld (K : PySem.W.Frag) (ta tv : TE) (f : Str) : TS := fun D σ H => tv σ H fun y H1 => ta σ H1 fun x H2 => ∃ a C dx fs, x = .ref a ∧ H2 a = some (.ins C dx fs) ∧ Cls K C ∧ NoAttr K C f ∧ fs.length < 1000 ∧
  D.nx σ (upd H2 a (.ins C dx (putF f y fs)))
section
variable {X : Cx} {o e value : Expr} {f : Str} {pos pos' tpos : Pos} {ta tv : TE}
theorem pe_fld (he : PE X e ta) (hb : attributeBase e f X.env (eval e X.env) = eval e X.env) : PE X (.Attribute e f pos) (tFld X.K ta f) := by
  intro pins s σ H Q I h
  refine attr_of hb (thn (he pins s σ H _ I h) fun u s1 ⟨x, H1, I1, rx, a, C, dx, fs, v, ex, ea, c, n, l, q⟩ => ?_)
  subst ex
  obtain rfl : u = Value.ref a := rx
  exact getattr_ok I1 ea c n l fun u' s2 I2 ru => ⟨v, H1, I2, ru, q⟩
theorem ps_fld (ha : PE X o ta) (hv : PE X value tv) (hs : swapsWith value (some (.Attribute o f pos')) pos.line X.env = pure false) : PS X (.Assign [.Attribute o f pos'] value pos) (sFld X.K ta tv f) := by
  intro pins s σ H D I h
  refine plainObj_wpAny_Assign_Attribute (thn (hv pins s σ H _ I h) fun u s1 ⟨y, H1, I1, ry, q⟩ => thn (ha pins s1 σ H1 _ I1 q) fun ov s2 ⟨x, H2, I2, rx, a, C, dx, fs, ex, ea, c, n, l, q2⟩ => ?_) hs
  subst ex
  obtain rfl : ov = Value.ref a := rx
  exact setattr_ok I2 ea c n l ry fun s3 I3 => ⟨σ, _, I3, q2⟩
end

section
variable {X : Cx} {pins : List (Addr × Obj)} {σ : St} {H : Hp} {s : Shared} {A : Around} {E : Value → Shared → Prop} {Q : Value → Shared → Prop} {c : Value} {b : Bool}
inductive TyOf (K : PySem.W.Frag) (H : Hp) : V → Value → Prop where
  | non : TyOf K H .non (.type "NoneType")
  | bl (x : Bool) : TyOf K H (.bl x) (.type "bool")
  | int (i : Int) : TyOf K H (.int i) (.type "int")
  | str (x : Str) : TyOf K H (.str x) (.type "str")
  | flt (x : UInt64) : TyOf K H (.flt x) (.type "float")
  | lst {a : Addr} {xs : List V} (e : H a = some (.lst xs)) : TyOf K H (.ref a) (.type "list")
  | frz {a : Addr} {o : Obj} {xs : List V} (e : H a = some (.frz o (.lst xs))) : TyOf K H (.ref a) (.type "list")
  | tup {a : Addr} {xs : List V} (e : H a = some (.tup xs)) : TyOf K H (.ref a) (.type "tuple")
  | dK {a : Addr} {kvs : List (Key × V)} (e : H a = some (.dK kvs)) : TyOf K H (.ref a) (.type "dict")
  | dT {a : Addr} {kvs : List (List Key × V)} (e : H a = some (.dT kvs)) : TyOf K H (.ref a) (.type "dict")
  | ins {a C dx : Addr} {fs : List (Str × V)} (e : H a = some (.ins C dx fs)) (cl : Cls K C) (ha : PySem.W.findIn K (.ref C) "__class__" = some (some (.builtin "object.__class__")))
      (hn : PySem.W.specialIn K (.builtin "object.__class__") "__get__" = some (some (.builtin "getset_descriptor.__get__"))) (htk : PySem.W.takesIn K (.builtin "object.__class__") = some true)
      (hm : PySem.W.mroIn K C (.type "object") = some true) : TyOf K H (.ref a) (.ref C)
theorem isinst_ok {x : V} {u t : Value} (I : Inv X pins σ H s) (rx : RelV x u) (ty : TyOf X.K H x t) (e : PySem.W.kitOne X.K t c = some b) (h : ∀ tk, Q (.bool b) { s with toks := tk }) :
    wpAny (model X.prog X.w) A (call (.builtin "isinstance") [u, c]) Q E s := by
  cases ty with
  | non => cases (show u = Value.none from rx); exact PySem.W.kia_one PySem.W.kitx_none I.kIn True.intro e (fun z => nomatch z) h
  | bl y => cases (show u = Value.bool y from rx); exact PySem.W.kia_one PySem.W.kitx_bool I.kIn True.intro e (fun z => nomatch z) h
  | int i => obtain ⟨t, q⟩ := (show ∃ t, u = Value.int i t from rx); cases q; exact PySem.W.kia_one PySem.W.kitx_int I.kIn True.intro e (fun z => nomatch z) h
  | str y => obtain ⟨t, q⟩ := (show ∃ t, u = Value.str y t from rx); cases q; exact PySem.W.kia_one PySem.W.kitx_str I.kIn True.intro e (fun z => nomatch z) h
  | flt y => obtain ⟨t, q⟩ := (show ∃ t, u = Value.float y t from rx); cases q; exact PySem.W.kia_one PySem.W.kitx_float I.kIn True.intro e (fun z => nomatch z) h
  | @lst a xs ea =>
    cases (show u = Value.ref a from rx)
    obtain ⟨_, _, n, _, h1⟩ := (show ObjOk X.prog X.w H s.heap a (.lst xs) from I.hok a _ ea)
    exact PySem.W.kia_one PySem.W.kitx_list I.kIn ⟨_, h1, rfl⟩ e (fun z => nomatch z) h
  | @frz a ob xs ea =>
    cases (show u = Value.ref a from rx)
    obtain ⟨_, _, _, n, _, h1⟩ := (show ObjOk X.prog X.w H s.heap a (.frz ob (.lst xs)) from I.hok a _ ea)
    exact PySem.W.kia_one PySem.W.kitx_list I.kIn ⟨_, h1, rfl⟩ e (fun z => nomatch z) h
  | @tup a xs ea =>
    cases (show u = Value.ref a from rx)
    obtain ⟨_, _, _, p⟩ := (show ObjOk X.prog X.w H s.heap a (.tup xs) from I.hok a _ ea)
    obtain ⟨o, h1, h2, _⟩ := p
    exact PySem.W.kia_one PySem.W.kitx_tuple I.kIn ⟨o, h1, h2⟩ e (fun z => nomatch z) h
  | @dK a kvs ea =>
    cases (show u = Value.ref a from rx)
    obtain ⟨_, _, vs, _, p⟩ := (show ObjOk X.prog X.w H s.heap a (.dK kvs) from I.hok a _ ea)
    obtain ⟨o, es, ep, h1, h2, _⟩ := p
    exact PySem.W.kia_one PySem.W.kitx_dict I.kIn ⟨o, h1, h2.1⟩ e (fun z => nomatch z) h
  | @dT a kvs ea =>
    cases (show u = Value.ref a from rx)
    obtain ⟨_, _, xs, _, o, es, ep, h1, h2, _⟩ := (show ObjOk X.prog X.w H s.heap a (.dT kvs) from I.hok a _ ea)
    exact PySem.W.kia_one PySem.W.kitx_dict I.kIn ⟨o, h1, h2.1⟩ e (fun z => nomatch z) h
  | @ins a C dx fs ea cl ha hn htk hm =>
    cases (show u = Value.ref a from rx)
    obtain ⟨mA, O, _⟩ := ins_get I.hok ea
    obtain ⟨od, J, _⟩ := O.look
    exact PySem.W.kia_one (PySem.W.kitx_own (cl.get _) cl.hd ha hn htk hm) I.kIn J e (fun z => nomatch z) h
end
end L2

namespace L2
open PySem PySem.Spec PyProof.Rows

structure Room (k : Nat) (A : Around) : Prop where
  hd : A.handled = none
  dp : A.depth + 3 * k + 5 < recursionLimit
  un : A.units + 16 * k + 200 < cLine
theorem Room.mono {j k : Nat} {A : Around} (r : Room k A) (h : j ≤ k) : Room j A := ⟨r.hd, by have := r.dp; omega, by have := r.un; omega⟩
theorem Room.deeper {k : Nat} {A : Around} (r : Room (k + 1) A) (env : Env) : Room k (A.deeper env) :=
  ⟨r.hd, by have := r.dp; show A.depth + 1 + 3 * k + 5 < _; omega, by have := r.un; show A.units + 3 + 16 * k + 200 < _; omega⟩
theorem make_depth {A : Around} {C : Addr} {us : List Value} {kw : List (Str × Value)} : (A.under (.builtin "type.__call__" ⟨.ref C :: us, kw⟩)).depth = A.depth + 1 := by
  first | rfl | simp [Around.under, Code.weight, Code.isCreation, Code.isGuard, Code.isCaller, Code.frames, Code.isFrame, guardIds]
theorem make_units {A : Around} {C : Addr} {us : List Value} {kw : List (Str × Value)} : (A.under (.builtin "type.__call__" ⟨.ref C :: us, kw⟩)).units = A.units + 1 := by
  first | rfl | simp [Around.under, Code.cUnits, Code.frames, Code.isFrame]
theorem Room.make {k : Nat} {A : Around} (r : Room (k + 1) A) (C : Addr) (us : List Value) (kw : List (Str × Value)) : Room k (A.under (.builtin "type.__call__" ⟨.ref C :: us, kw⟩)) :=
  ⟨r.hd, by have := r.dp; rw [make_depth]; omega, by have := r.un; rw [make_units]; omega⟩
theorem Room.depth {k : Nat} {A : Around} (r : Room k A) : A.depth < recursionLimit := by have := r.dp; omega
theorem Room.units {k : Nat} {A : Around} (r : Room k A) : A.units + 64 < cLine := by have := r.un; omega
noncomputable def tNil : TA := fun _ H Q => Q [] H
noncomputable def tCons (ta : TE) (tr : TA) : TA := fun σ H Q => ta σ H fun x H1 => tr σ H1 fun xs H2 => Q (x :: xs) H2
section
variable {X : Cx} {e : Expr} {es : List Expr} {te : TE} {t : TA} {pos : Pos}
theorem pa_nil : PA X [] tNil := fun _ _ _ _ H Q I h => Calls.spliced_nil ⟨[], H, I, .nil, h⟩
theorem pa_cons (ha : PE X e te) (hr : PA X es t) (hs : starEach (e :: es) X.env = (false, eval e X.env) :: starEach es X.env := by rfl) : PA X (e :: es) (tCons te t) := by
  intro pos pins s σ H Q I h
  rw [hs]
  show wpAny _ _ (spliced ((false, eval e X.env) :: backTo pos (starEach es X.env))) _ _ s
  refine Calls.spliced_cons (thn (ha pins s σ H _ I h) fun u s1 ⟨x, H1, I1, r1, q1⟩ => ?_)
  exact thn (hr pos pins s1 σ H1 _ I1 q1) fun us s2 ⟨xs, H2, I2, r2, q2⟩ => ⟨x :: xs, H2, I2, .cons r1 r2, q2⟩

noncomputable def tTup (t : TA) : TE := fun σ H Q => t σ H fun xs H1 => xs.length ≤ sizeLine ∧ ∀ p, H1 p = none → Q (.ref p) (upd H1 p (.tup xs))
noncomputable def tLst (t : TA) : TE := fun σ H Q => t σ H fun xs H1 => xs.length ≤ sizeLine ∧ ∀ p, H1 p = none → Q (.ref p) (upd H1 p (.lst xs))
theorem pe_tup {x1} (h : PA X es t) : PE X (.Tuple es x1 pos) (tTup t) := by
  intro pins s σ H Q I hq
  refine wpAny_Tuple_spliced (thn (h pos pins s σ H _ I hq) fun us s1 ⟨xs, H1, I1, r, z, q⟩ => ⟨by rw [← r.length]; exact z, ?_⟩)
  have hf : H1 s1.heap.objs.size = none := I1.hok.fresh (Nat.le_refl _)
  refine ⟨.ref s1.heap.objs.size, upd H1 s1.heap.objs.size (.tup xs), I1.laid (t' := s1.toks) (fun b u e => Heap.get?_push_of_some _ e) (Nat.le_refl _) ?_, rfl, q _ hf⟩
  exact ⟨z, us, r, ⟨_, Heap.get?_push_size _ rfl, rfl, _, rfl⟩⟩
theorem pe_lst (h : PA X es t) : PE X (.List es pos) (tLst t) := by
  intro pins s σ H Q I hq
  refine wpAny_List_spliced (thn (h pos pins s σ H _ I hq) fun us s1 ⟨xs, H1, I1, r, z, q⟩ => ⟨by rw [← r.length]; exact z, ?_⟩)
  have hf : H1 s1.heap.objs.size = none := I1.hok.fresh (Nat.le_refl _)
  refine ⟨.ref s1.heap.objs.size, upd H1 s1.heap.objs.size (.lst xs), I1.laid (t' := s1.toks) (fun b u e => Heap.get?_push_of_some _ e) (Nat.le_refl _) ?_, rfl, q _ hf⟩
  exact ⟨z, us, 0, r, Heap.get?_push_size _ rfl⟩
end

noncomputable abbrev Sp := List V → Hp → VK → XK → Prop
noncomputable abbrev CXT := List Env → Hp → Shared → XK → Value → Shared → Prop

structure Env0 (P : Program) (w : World) (K : PySem.W.Frag) (mg : Str → Option Value) (base : Heap) (A : Around) (outer : List Env) (s : Shared) (H : Hp) : Prop where
  frames : A.frames = some outer
  mod : Mod K mg base
  bs : ∀ b o, base.get? b = some o → s.heap.get? b = some o ∧ H b = none
  bsz : base.objs.size ≤ s.heap.objs.size
  funs : s.heap.FunFrames base outer
  frf : ∀ b ∈ frs outer, H b = none
  hok : HOk P w H s.heap
  bare : AllBare s.gens
noncomputable def CE (outer : List Env) (P : Program) (w : World) (H : Hp) (s : Shared) (Q : VK) (u : Value) (s' : Shared) : Prop :=
  ∃ v H', s'.os = s.os ∧ AllBare s'.gens ∧ Un (frs outer) [] H H' s.heap s'.heap ∧ HOk P w H' s'.heap ∧ RelV v u ∧ Q v H'
noncomputable def CR (CX : CXT) (outer : List Env) (P : Program) (w : World) (H : Hp) (s : Shared) (Q : VK) (E : XK) (r : Result) (s' : Shared) : Prop :=
  match r with
  | .ok (.ret u) => CE outer P w H s Q u s'
  | .ok _ => False
  | .error e => CX outer H s E e s'
structure FnOk (P : Program) (w : World) (K : PySem.W.Frag) (mg : Str → Option Value) (base : Heap) (CX : CXT) (k : Nat) (f : Addr) (fd : FuncData) (ps : List Str) (sp : Sp) : Prop where
  len : ∀ vs H Q E, sp vs H Q E → vs.length = ps.length
  run : ∀ (A : Around) (outer : List Env) (s : Shared) (H : Hp) (args : Args) (us : List Value) (vs : List V) (Q : VK) (E : XK), Room k A → Env0 P w K mg base A outer s H → BindsTo s fd args (ps.zip us) → Vals vs us → sp vs H Q E →
    codeAny (model P w) A (.call (.ref f) args) (CR CX outer P w H s Q E) s
theorem FnOk.mono {P : Program} {w : World} {K : PySem.W.Frag} {mg : Str → Option Value} {base : Heap} {CX : CXT} {j k : Nat} {f : Addr} {fd : FuncData} {ps : List Str} {sp : Sp} (F : FnOk P w K mg base CX j f fd ps sp) (h : j ≤ k) :
    FnOk P w K mg base CX k f fd ps sp := ⟨F.len, fun A outer s H args us vs Q E hr => F.run A outer s H args us vs Q E (hr.mono h)⟩
theorem FnOk.imp {P : Program} {w : World} {K : PySem.W.Frag} {mg : Str → Option Value} {base : Heap} {CX : CXT} {k : Nat} {f : Addr} {fd : FuncData} {ps : List Str} {sp sp' : Sp} (F : FnOk P w K mg base CX k f fd ps sp)
    (h : ∀ vs H Q E, sp' vs H Q E → sp vs H Q E) : FnOk P w K mg base CX k f fd ps sp' :=
  ⟨fun vs H Q E q => F.len vs H Q E (h _ _ _ _ q), fun A outer s H args us vs Q E hr he hb hv hs => F.run A outer s H args us vs Q E hr he hb hv (h _ _ _ _ hs)⟩

theorem Env0.make {P : Program} {w : World} {K : PySem.W.Frag} {mg : Str → Option Value} {base : Heap} {A : Around} {outer : List Env} {s : Shared} {H : Hp} (e : Env0 P w K mg base A outer s H) (C : Addr) (us : List Value) (kw : List (Str × Value)) :
    Env0 P w K mg base (A.under (.builtin "type.__call__" ⟨.ref C :: us, kw⟩)) outer s H := ⟨by first | exact e.frames | (simpa [Around.under, Code.envs, Code.isFrame, pushEnvs] using e.frames), e.mod, e.bs, e.bsz, e.funs, e.frf, e.hok, e.bare⟩
section
variable {X : Cx} {pins : List (Addr × Obj)} {σ : St} {H : Hp} {s s' : Shared}
theorem Inv.env0 (I : Inv X pins σ H s) : Env0 X.prog X.w X.K X.mg X.base X.A X.stack s H :=
  ⟨I.ok.frames, I.ok.mod, I.bs, Nat.le_trans I.ok.bsz I.sz, I.stack, I.stkFree, I.hok, I.bare⟩
theorem Inv.after {Q : VK} {u : Value} (I : Inv X pins σ H s) (h : CE X.stack X.prog X.w H s Q u s') : EP X pins σ Q u s' := by
  obtain ⟨v, H', os, bare, un, hok, r, q⟩ := h
  obtain ⟨hh, g, d, t, os'⟩ := s'
  obtain rfl : os' = s.os := os
  exact ⟨v, H', I.call (h' := hh) (g' := g) (d' := d) (t' := t) (ch := []) un hok bare (fun b z => absurd z (by simp)), r, q⟩
end

noncomputable def tCall (sp : Sp) (dvs : List V) (E : XK) (t : TA) : TE := fun σ H Q => t σ H fun vs H1 => sp (vs ++ dvs) H1 Q E
noncomputable def tMeth (C : Addr) (m : Str) (sp : Sp) (dvs : List V) (E : XK) (ta : TE) (t : TA) : TE := fun σ H Q => ta σ H fun x H1 => ∃ a dx fs, x = .ref a ∧ H1 a = some (.ins C dx fs) ∧ fs.lookup m = none ∧
  t σ H1 fun vs H2 => sp (x :: (vs ++ dvs)) H2 Q E
noncomputable def tMake (C : Addr) (sp : Sp) (dvs : List V) (E : XK) (t : TA) : TE := fun σ H Q => t σ H fun vs H1 => ∀ x dx, H1 x = none → H1 dx = none → dx ≠ x →
  sp (.ref x :: (vs ++ dvs)) (upd (upd H1 dx (.own x)) x (.ins C dx [])) (fun v H2 => v = .non ∧ Q (.ref x) H2) E

noncomputable def Binds (K : PySem.W.Frag) (fd : FuncData) (ps : List Str) (ds : List Value) : Prop :=
  ∀ (s : Shared) (us : List Value), K.In s.heap → (us ++ ds).length = ps.length → BindsTo s fd ⟨us, []⟩ (ps.zip (us ++ ds))
theorem Binds.all {K : PySem.W.Frag} {fd : FuncData} {ps : List Str} (h : ∀ us : List Value, us.length = ps.length → bindArgs fd ⟨us, []⟩ = pure (ps.zip us)) : Binds K fd ps [] := fun s us _ hl => by
  rw [List.append_nil] at hl ⊢
  exact .of_eq (h us hl)

noncomputable def Passes (CX : CXT) (X : Cx) (E : XK) : Prop := ∀ (pins : List (Addr × Obj)) (σ : St) (H : Hp) (s : Shared) (e : Value) (s' : Shared), Inv X pins σ H s → CX X.stack H s E e s' → X.xe e s'

section
variable {X : Cx} {CX : CXT} {k : Nat} {f C : Addr} {fd : FuncData} {ps : List Str} {sp : Sp} {dvs : List V} {ds : List Value} {E : XK} {x m : Str} {p pos apos : Pos} {e o : Expr} {es : List Expr} {ta : TE} {t : TA}

theorem run_fn {pins : List (Addr × Obj)} {σ : St} {H : Hp} {s : Shared} {Q : VK} {us : List Value} {vs : List V} (F : FnOk X.prog X.w X.K X.mg X.base CX k f fd ps sp) (hr : Room k X.A) (hb : Binds X.K fd ps ds) (hd : Vals dvs ds) (hx : Passes CX X E)
    (I : Inv X pins σ H s) (r : Vals vs us) (h : sp (vs ++ dvs) H Q E) : wpAny (model X.prog X.w) X.A (call (.ref f) us) (EP X pins σ Q) X.xe s := by
  have r2 : Vals (vs ++ dvs) (us ++ ds) := r.append hd
  have hl : (us ++ ds).length = ps.length := by rw [← r2.length]; exact F.len _ _ _ _ h
  refine wpAny_call (codeAny_mono (F.run X.A X.stack s H ⟨us, []⟩ (us ++ ds) (vs ++ dvs) Q E hr I.env0 (hb s us I.kIn hl) r2 h) fun r s' hq => ?_)
  cases r with
  | error e => exact hx pins σ H s e s' I hq
  | ok fl =>
    cases fl with
    | ret u => exact I.after hq
    | next => exact False.elim hq
    | brk => exact False.elim hq
    | cont => exact False.elim hq

theorem pe_call (F : FnOk X.prog X.w X.K X.mg X.base CX k f fd ps sp) (hr : Room k X.A) (hg : Gl X x) (hm : X.mg x = some (.ref f)) (hk : PySem.W.keepIn X.K (.ref f) = true) (hb : Binds X.K fd ps ds) (hd : Vals dvs ds) (hx : Passes CX X E)
    (ha : PA X (e :: es) t) (hdb : (x == ("__debug__" : Str)) = false := by decide) (he : starEach (e :: es) X.env = (false, eval e X.env) :: starEach es X.env := by rfl) (hpl : (backTo pos (starEach es X.env)).any (·.1) = false := by rfl) :
    PE X (.Call (.Name x p) (e :: es) [] pos) (tCall sp dvs E t) := by
  intro pins s σ H Q I h
  refine wpAny_Call_Name_kw (ld_glob I hg hm ?_ hdb)
  refine PySem.W.callWith_K (h₀ := X.base) I.ok.mod.kin hk (thn (ha pos pins s σ H _ I h) fun us s1 ⟨vs, H1, I1, r, q⟩ => ⟨I1.kIn, ?_⟩) he hpl
  exact run_fn F hr hb hd hx I1 r q
theorem pe_meth {pl : Sem Bool} (he : PE X o ta) (c : Cls X.K C) (hm : Meth X.K C m f) (F : FnOk X.prog X.w X.K X.mg X.base CX k f fd ps sp) (hr : Room k X.A) (hb : Binds X.K fd ps ds) (hd : Vals dvs ds) (hx : Passes CX X E) (ha : PA X (e :: es) t)
    (hst : starEach (e :: es) X.env = (false, eval e X.env) :: starEach es X.env := by rfl) (hpl : (backTo pos (starEach es X.env)).any (·.1) = false := by rfl)
    (ht : eval (.Call (.Attribute o m apos) (e :: es) [] pos) X.env = (do
      let ov ← eval o X.env
      standAt apos.atName
      let (f, first) ← holding [ov] (getMethod ov m pl)
      callWith pos f first (backTo pos (starEach (e :: es) X.env)) (backToKw pos (keywordEach [] X.env))) := by rfl) :
    PE X (.Call (.Attribute o m apos) (e :: es) [] pos) (tMeth C m sp dvs E ta t) := by
  intro pins s σ H Q I h
  refine PySem.W.methodCall_KW (pl := pl) (thn (he pins s σ H _ I h) fun u s1 ⟨x, H1, I1, rx, a, dx, fs, ex, ea, l, q⟩ => ?_) ht
  subst ex
  obtain rfl : u = Value.ref a := rx
  refine getmeth_ok I1 ea c hm l ?_
  refine PySem.W.callWith_K (first := [.ref a]) (h₀ := X.base) I.ok.mod.kin hm.kp (thn (ha pos pins s1 σ H1 _ I1 q) fun us s2 ⟨vs, H2, I2, r, q2⟩ => ⟨I2.kIn, ?_⟩) hst hpl
  exact run_fn (us := .ref a :: us) (vs := .ref a :: vs) F hr hb hd hx I2 (.cons rfl r) q2
structure Mk (K : PySem.W.Frag) (C f : Addr) : Prop where
  makes : PySem.W.makesIn K C = true
  init : PySem.W.findIn K (.ref C) "__init__" = some (some (.ref f))
  fn : PySem.W.isFn K (.ref f) = true
  kp : PySem.W.keepIn K (.ref C) = true

theorem run_make {pins : List (Addr × Obj)} {σ : St} {H : Hp} {s : Shared} {Q : VK} {us : List Value} {vs : List V} (M : Mk X.K C f) (F : FnOk X.prog X.w X.K X.mg X.base CX k f fd ps sp) (hr : Room (k + 1) X.A) (hb : Binds X.K fd ps ds) (hd : Vals dvs ds)
    (hx : Passes CX X E) (I : Inv X pins σ H s) (r : Vals vs us)
    (h : ∀ x dx, H x = none → H dx = none → dx ≠ x → sp (.ref x :: (vs ++ dvs)) (upd (upd H dx (.own x)) x (.ins C dx [])) (fun v H2 => v = .non ∧ Q (.ref x) H2) E) :
    wpAny (model X.prog X.w) X.A (call (.ref C) us) (EP X pins σ Q) X.xe s := by
  have hq := h (s.heap.objs.size + 1) s.heap.objs.size (I.hok.fresh (Nat.le_succ _)) (I.hok.fresh (Nat.le_refl _)) (Nat.ne_of_lt (Nat.lt_succ_self _))
  have I2 := Inv.made (C := C) I
  have r2 : Vals (V.ref (s.heap.objs.size + 1) :: (vs ++ dvs)) (Value.ref (s.heap.objs.size + 1) :: (us ++ ds)) := .cons rfl (r.append hd)
  have hl : (Value.ref (s.heap.objs.size + 1) :: us ++ ds).length = ps.length := by
    have e := r2.length
    rw [F.len _ _ _ _ hq] at e
    exact e.symm
  refine wpAny_call (make_map (f := f) I.kIn M.makes M.init (beq_iff_eq.mp M.fn) (codeAny_mono (F.run _ X.stack _ _ ⟨Value.ref (s.heap.objs.size + 1) :: us, []⟩ (Value.ref (s.heap.objs.size + 1) :: (us ++ ds)) _ _ E (hr.make C us [])
    (I2.env0.make C us []) (hb _ (Value.ref (s.heap.objs.size + 1) :: us) I2.kIn hl) r2 hq) fun r s' hq' => ?_))
  cases r with
  | error e => exact hx pins σ _ _ e s' I2 hq'
  | ok fl =>
    cases fl with
    | ret u =>
      obtain ⟨v, H', I3, rv, ev, q3⟩ := I2.after hq'
      subst ev
      exact ⟨rv, ⟨V.ref (s.heap.objs.size + 1), H', I3, rfl, q3⟩⟩
    | next => exact False.elim hq'
    | brk => exact False.elim hq'
    | cont => exact False.elim hq'
theorem pe_make (M : Mk X.K C f) (F : FnOk X.prog X.w X.K X.mg X.base CX k f fd ps sp) (hr : Room (k + 1) X.A) (hg : Gl X x) (hm : X.mg x = some (.ref C)) (hb : Binds X.K fd ps ds) (hd : Vals dvs ds) (hx : Passes CX X E)
    (ha : PA X (e :: es) t) (hdb : (x == ("__debug__" : Str)) = false := by decide) (he : starEach (e :: es) X.env = (false, eval e X.env) :: starEach es X.env := by rfl) (hpl : (backTo pos (starEach es X.env)).any (·.1) = false := by rfl) :
    PE X (.Call (.Name x p) (e :: es) [] pos) (tMake C sp dvs E t) := by
  intro pins s σ H Q I h
  refine wpAny_Call_Name_kw (ld_glob I hg hm ?_ hdb)
  refine PySem.W.callWith_K (h₀ := X.base) I.ok.mod.kin M.kp (thn (ha pos pins s σ H _ I h) fun us s1 ⟨vs, H1, I1, r, q⟩ => ⟨I1.kIn, ?_⟩) he hpl
  exact run_make M F hr hb hd hx I1 r q
end

noncomputable def PK (X : Cx) (kws : List Keyword) (t : TA) : Prop :=
  ∀ (pos : Pos) (pins : List (Addr × Obj)) (s : Shared) (σ : St) (H : Hp) (Q : List V → Hp → Prop), Inv X pins σ H s → t σ H Q → wpAny (model X.prog X.w) X.A (evalAll ((backToKw pos (keywordEach kws X.env)).map (·.2))) (AP X pins σ Q) X.xe s
section
variable {X : Cx} {CX : CXT} {k : Nat} {f C : Addr} {fd : FuncData} {ps ks : List Str} {sp : Sp} {E : XK} {x m : Str} {p pos apos kpos : Pos} {e o : Expr} {es : List Expr} {kws : List Keyword} {te ta : TE} {t tk : TA} {nm : Option Str}
theorem pk_nil : PK X [] tNil := fun _ _ _ _ H Q I h => wpAny_evalAll_nil ⟨[], H, I, .nil, h⟩
theorem pk_cons (ha : PE X e te) (hr : PK X kws t) : PK X (⟨nm, e, kpos⟩ :: kws) (tCons te t) := by
  intro pos pins s σ H Q I h
  show wpAny _ _ (evalAll ((do let v ← eval e X.env; standAt pos; pure v) :: (backToKw pos (keywordEach kws X.env)).map (·.2))) _ _ s
  refine wpAny_evalAll_cons (wpAny_bind (thn (ha pins s σ H _ I h) fun u s1 ⟨x, H1, I1, r1, q1⟩ => wpAny_bind (wpAny_standAt (wpAny_pure ?_))))
  exact thn (hr pos pins s1 σ H1 _ I1 q1) fun us s2 ⟨xs, H2, I2, r2, q2⟩ => ⟨x :: xs, H2, I2, .cons r1 r2, q2⟩

variable {g : List Value → List Value → List Value} {gV : List V → List V → List V}
end

structure FnScope (N P : List Str) (sc : Scope) : Prop where
  kind : sc.kind = .function
  co : sc.isCoroutine = false
  gen : sc.isGenerator = false
  nd : N.Nodup
  pre : N.take P.length = P
  par : ∀ x ∈ P, sc.names.lookup x = some .local ∨ sc.names.lookup x = some .cell
  nofree : ∀ y ∈ sc.names, y.2 ≠ .free

theorem bindL_out {kindOf : Str → Option NameKind} {x : Str} : ∀ {binds : List (Str × Value)} {m : Str → Option Value}, (∀ v, (x, v) ∉ binds) → bindL kindOf binds m x = m x
  | [], _, _ => rfl
  | (n, v) :: r, m, h => by
    unfold bindL
    rw [bindL_out fun w hw => h w (List.mem_cons_of_mem _ hw)]
    split
    · have : x ≠ n := by rintro rfl; exact h v List.mem_cons_self
      simp [this]
    · rfl
theorem bindC_out {kindOf : Str → Option NameKind} {x : Str} : ∀ {binds : List (Str × Value)} {m : Str → Option Value}, (∀ v, (x, v) ∉ binds) → bindC kindOf binds m x = m x
  | [], _, _ => rfl
  | (n, v) :: r, m, h => by
    unfold bindC
    rw [bindC_out fun w hw => h w (List.mem_cons_of_mem _ hw)]
    split
    · rfl
    · have : x ≠ n := by rintro rfl; exact h v List.mem_cons_self
      simp [this]
theorem bindL_get {kindOf : Str → Option NameKind} {x : Str} {v : Value} : ∀ {P : List Str} {vs : List Value} {i : Nat} {m : Str → Option Value}, P.Nodup → P[i]? = some x → vs[i]? = some v → kindOf x = some .local →
    bindL kindOf (P.zip vs) m x = some v
  | [], _, _, _, _, h, _, _ => by simp at h
  | _ :: _, [], _, _, _, _, h, _ => by simp at h
  | p :: P, w :: vs, 0, m, nd, h1, h2, hk => by
    simp at h1 h2; subst h1; subst h2
    show bindL kindOf ((p, w) :: P.zip vs) m p = _
    unfold bindL
    rw [bindL_out fun v hv => (List.nodup_cons.mp nd).1 (List.of_mem_zip hv).1, if_pos hk]
    simp
  | p :: P, w :: vs, i + 1, m, nd, h1, h2, hk => by
    show bindL kindOf ((p, w) :: P.zip vs) m x = _
    unfold bindL
    exact bindL_get (i := i) (List.nodup_cons.mp nd).2 (by simpa using h1) (by simpa using h2) hk
theorem bindC_get {kindOf : Str → Option NameKind} {x : Str} {v : Value} : ∀ {P : List Str} {vs : List Value} {i : Nat} {m : Str → Option Value}, P.Nodup → P[i]? = some x → vs[i]? = some v → kindOf x ≠ some .local →
    bindC kindOf (P.zip vs) m x = some v
  | [], _, _, _, _, h, _, _ => by simp at h
  | _ :: _, [], _, _, _, _, h, _ => by simp at h
  | p :: P, w :: vs, 0, m, nd, h1, h2, hk => by
    simp at h1 h2; subst h1; subst h2
    show bindC kindOf ((p, w) :: P.zip vs) m p = _
    unfold bindC
    rw [bindC_out fun v hv => (List.nodup_cons.mp nd).1 (List.of_mem_zip hv).1, if_neg hk]
    simp
  | p :: P, w :: vs, i + 1, m, nd, h1, h2, hk => by
    show bindC kindOf ((p, w) :: P.zip vs) m x = _
    unfold bindC
    exact bindC_get (i := i) (List.nodup_cons.mp nd).2 (by simpa using h1) (by simpa using h2) hk

noncomputable def start (N : List Str) (vs : List V) : St := vs.map some ++ List.replicate (N.length - vs.length) none

noncomputable def cxOf (CX : CXT) (P : Program) (w : World) (K : PySem.W.Frag) (mg : Str → Option Value) (base : Heap) (N : List Str) (qual : Str) (scope : Scope) (f : Addr) (cd : Value) (A : Around) (outer : List Env) (s : Shared) (H : Hp) (E : XK) : Cx where
  prog := P
  w := w
  K := K
  mg := mg
  base := base
  A := A.deeper (envOfC qual scope s.heap.objs.size f cd)
  N := N
  s₀ := s
  H₀ := H
  env := envOfC qual scope s.heap.objs.size f cd
  outer := outer
  stack := envOfC qual scope s.heap.objs.size f cd :: outer
  ex := []
  calm := true
  fn := fun _ => true
  pn := []
  xe := fun e s' => wpAny (model P w) (A.deeper (envOfC qual scope s.heap.objs.size f cd)) (leaving (envOfC qual scope s.heap.objs.size f cd) e) (fun _ s'' => CX outer H s E e s'') (fun e' s'' => CX outer H s E e' s'') s'

theorem cell_has {sc : Scope} {n : Nat} {x : Str} (h : sc.names.lookup x = some .cell) : ∃ c, (cellsFrom n sc.names []).lookup x = some c := by
  have q := PySem.W.cellsFrom_some sc.names n [] (.inl h)
  exact Option.isSome_iff_exists.mp q

theorem inv_start {CX : CXT} {P : Program} {w : World} {K : PySem.W.Frag} {mg : Str → Option Value} {base : Heap} {N ps : List Str} {qual : Str} {scope : Scope} {f : Addr} {cd : Value} {A : Around} {outer : List Env} {s s1 : Shared} {H : Hp} {E : XK} {us : List Value} {vs : List V}
    (S : FnScope N ps scope) (hd : A.handled = none) (e0 : Env0 P w K mg base A outer s H) (hl : vs.length = ps.length) (r : Vals vs us)
    (x : InCallC s s.heap.objs.size (bindL (envOfC qual scope s.heap.objs.size f cd).kindOf (ps.zip us) fun _ => none) (cellsFrom (s.heap.objs.size + 1) scope.names []) (bindC (envOfC qual scope s.heap.objs.size f cd).kindOf (ps.zip us) fun _ => none) s1) :
    Inv (cxOf CX P w K mg base N qual scope f cd A outer s H E) [] (start N vs) H s1 := by
  have hpl : ps.length ≤ N.length := by have := congrArg List.length S.pre; rw [List.length_take] at this; (clear hd hl; omega)
  obtain ⟨h1, tk, rfl, hk⟩ := x.done
  have noA : ∀ b : Addr, b ∉ (cxOf CX P w K mg base N qual scope f cd A outer s H E).ex := fun b z => absurd (show b ∈ ([] : List Addr) from z) (by simp)
  refine ⟨⟨e0.mod, S.kind, rfl, rfl, Nat.le_refl _, fun y z c h1 h2 => ?_, fun y hy => ?_, fun y c _ h => ?_, fun _ => hd, Around.frames_deeper e0.frames, .inr ⟨rfl, rfl⟩, fun b z => absurd z (noA b), e0.bs, e0.bsz, fun b _ _ => noA b, fun b z => absurd z (noA b), e0.funs, e0.frf⟩,
    rfl, e0.bare, Un.kept hk, ⟨_, x.toInCall.ns, fun i y v h1 h2 h3 => ?_⟩, fun y c h => ⟨_, x.cell y c h⟩, e0.hok.fresh (Nat.le_refl _), fun y c h => ?_, fun p hp => absurd (show p ∈ ([] : List (Addr × Obj)) from hp) (by simp), e0.hok.kept hk, ?_⟩
  · exact name_of_addr x.apart (PySem.mem_of_lookup h1) (PySem.mem_of_lookup h2)
  · have hy : scope.names.lookup y = some .cell ∨ scope.names.lookup y = some .free := hy
    rcases hy with hy | hy
    · exact cell_has hy
    · exact absurd rfl (S.nofree _ (PySem.mem_of_lookup hy))
  · exact Nat.le_of_lt (x.above y c (PySem.mem_of_lookup h))
  · have hi : i < vs.length := by
      unfold start at h2
      by_cases hi : i < vs.length
      · exact hi
      · rw [List.getElem?_append_right (by simpa using hi)] at h2
        rw [List.getElem?_replicate] at h2
        split at h2 <;> cases h2
    have ha : vs[i]? = some v := by
      unfold start at h2
      rw [List.getElem?_append_left (by simpa using hi), List.getElem?_map] at h2
      cases e : vs[i]? with
      | none => rw [e] at h2; cases h2
      | some a => rw [e] at h2; cases h2; rfl
    obtain ⟨u, hu, rv⟩ := r.get ha
    have hp : ps[i]? = some y := by
      rw [← S.pre, List.getElem?_take_of_lt (by (clear h1 h2 ha hd hpl hu; omega))]; exact h1
    have ndP : ps.Nodup := by rw [← S.pre]; exact S.nd.sublist (List.take_sublist _ _)
    refine ⟨u, rv, ?_⟩
    rcases S.par y (List.mem_of_getElem? hp) with k | k
    · exact .inl ⟨k, bindL_get ndP hp hu k⟩
    · obtain ⟨c, e⟩ := cell_has (n := s.heap.objs.size + 1) k
      refine .inr ⟨.inl k, c, e, ?_⟩
      have q := x.cell y c e
      rw [bindC_get ndP hp hu (by show scope.names.lookup y ≠ _; rw [k]; decide)] at q
      exact q
  · exact e0.hok.fresh (Nat.le_of_lt (x.above y c (PySem.mem_of_lookup h)))
  · unfold start
    show _ = N.length
    rw [List.length_append, List.length_map, List.length_replicate]
    (clear hd; omega)

theorem fn_of {CX : CXT} {P : Program} {w : World} {K : PySem.W.Frag} {mg : Str → Option Value} {base : Heap} {k : Nat} {f : Addr} {name qual : Str} {params : Arguments} {body : List Stmt} {scope : Scope} {dV kV doc pm cdv ct oc : Value} {an od : Option Addr}
    {osl : Array (Option Value)} {N ps : List Str} {sp : Sp} (lk : K.lookup f = some ⟨oc, od, .func (PySem.W.fnOf name qual params body scope dV kV doc pm an cdv ct), osl⟩) (hcd : PySem.W.codeIn K cdv qual = true) (S : FnScope N ps scope)
    (len : ∀ vs H Q E, sp vs H Q E → vs.length = ps.length)
    (hbody : ∀ (A : Around) (outer : List Env) (s : Shared) (H : Hp) (vs : List V) (Q : VK) (E : XK), Room k (A.deeper (envOfC qual scope s.heap.objs.size f cdv)) → sp vs H Q E →
      ∃ t, PSs (cxOf CX P w K mg base N qual scope f cdv A outer s H E) body t ∧ t { nx := fun _ H' => Q .non H', rt := Q } (start N vs) H) :
    FnOk P w K mg base CX (k + 1) f (PySem.W.fnOf name qual params body scope dV kV doc pm an cdv ct) ps sp := by
  refine ⟨len, fun A outer s H args us vs Q E hr e0 hb r hsp => ?_⟩
  have hl := len _ _ _ _ hsp
  have KX : K.In s.heap := e0.mod.kin.keeps fun b o e => (e0.bs b o e).1
  have lim : s.heap.NoLimit := e0.mod.nolimit.keeps fun b o e => (e0.bs b o e).1
  have hkind : ∀ y ∈ ps.zip us, scope.names.lookup y.1 = some .local ∨ (scope.names.lookup y.1 = some .cell ∧ ((cellsFrom (s.heap.objs.size + 1) scope.names []).lookup y.1).isSome = true) := fun ⟨n, v⟩ hy => by
    rcases S.par n (List.of_mem_zip hy).1 with q | q
    · exact .inl q
    · exact .inr ⟨q, PySem.W.cellsFrom_some _ _ _ (.inl q)⟩
  refine codeAny_call_function hr.depth (KX _ _ lk) rfl S.co S.gen rfl (PySem.W.codeRec_of KX hcd) (hb _ _ _ _ ?_)
  refine wpAny_newFunctionEnv_cells S.kind hkind fun env he s1 x => ?_
  subst he
  refine ⟨lim.keeps x.toInCall.keep, codeAny_func ?_⟩
  obtain ⟨t, ht, hq⟩ := hbody A outer s H vs Q E (hr.deeper _) hsp
  have I : Inv (cxOf CX P w K mg base N qual scope f cdv A outer s H E) [] (start N vs) H s1 := inv_start S hr.hd e0 hl r x
  refine wpAny_mono (ht [] s1 (start N vs) H _ I hq) (fun fl s' hs => ?_) fun e s' hs => hs
  have fin : ∀ {σ' : St} {H' : Hp} {v : V} {u : Value}, Inv (cxOf CX P w K mg base N qual scope f cdv A outer s H E) [] σ' H' s' → RelV v u → Q v H' → CE outer P w H s Q u s' :=
    fun {σ' H' v u} J rv q => ⟨v, H', J.os, J.bare, J.base, J.hok, rv, q⟩
  cases fl with
  | ret u =>
    obtain ⟨v, σ', H', J, rv, q⟩ := hs
    exact fin J rv q
  | next =>
    obtain ⟨σ', H', J, q⟩ := hs
    exact fin (v := V.non) (u := Value.none) J rfl q
  | brk =>
    obtain ⟨_, _, _, q⟩ := hs
    exact False.elim q
  | cont =>
    obtain ⟨_, _, _, q⟩ := hs
    exact False.elim q
end L2

namespace L2
open PySem PySem.Spec PyProof.Rows
section
variable {X : Cx} {x : Str} {p pos : Pos} {e : Expr} {es : List Expr} {t : TA} {id T : String} {r : List V → Hp → VK → Prop}

noncomputable def tCB (r : List V → Hp → VK → Prop) (t : TA) : TE := fun σ H Q => t σ H fun vs H1 => r vs H1 Q
theorem pe_callB (hc : CallR X (.builtin id) r) (hg : Gl X x) (hm : X.mg x = none) (hv : bootBuiltins x = some (.builtin id)) (ha : PA X (e :: es) t) (hn : x ≠ "__name__" := by decide) (hdb : (x == ("__debug__" : Str)) = false := by decide)
    (he : starEach (e :: es) X.env = (false, eval e X.env) :: starEach es X.env := by rfl) (hpl : (backTo pos (starEach es X.env)).any (·.1) = false := by rfl) : PE X (.Call (.Name x p) (e :: es) [] pos) (tCB r t) := by
  intro pins s σ H Q I h
  refine wpAny_Call_Name_kw (ld_blt I hg hm hv ?_ hn hdb)
  exact PyProof.Rows.callWith_builtin1 (thn (ha pos pins s σ H _ I h) fun us s1 ⟨vs, H1, I1, r1, q1⟩ => hc pins s1 σ H1 vs us Q I1 r1 q1) he hpl
theorem pe_callTy (hc : CallR X (.type T) r) (hg : Gl X x) (hm : X.mg x = none) (hv : bootBuiltins x = some (.type T)) (ha : PA X (e :: es) t) (hn : x ≠ "__name__" := by decide) (hdb : (x == ("__debug__" : Str)) = false := by decide)
    (he : starEach (e :: es) X.env = (false, eval e X.env) :: starEach es X.env := by rfl) (hpl : (backTo pos (starEach es X.env)).any (·.1) = false := by rfl) : PE X (.Call (.Name x p) (e :: es) [] pos) (tCB r t) := by
  intro pins s σ H Q I h
  refine wpAny_Call_Name_kw (ld_blt I hg hm hv ?_ hn hdb)
  exact PyProof.Rows.callWith_type1 (thn (ha pos pins s σ H _ I h) fun us s1 ⟨vs, H1, I1, r1, q1⟩ => hc pins s1 σ H1 vs us Q I1 r1 q1) he hpl
end
end L2

namespace HT
open PySem PyProof.Rows

section
open PySem.SeqAt
open PySem.AutoSeq1 (wpAny_loadPart')
open PySem.MeetsSeq PySem.MeetsSeq2 PySem.MeetsSeq3

end

section
variable {prog : Program} {w : World} {A : Around} {E : Value → Shared → Prop} {s : Shared}

noncomputable def sIx (n d : Nat) : Option Int → Nat
  | none => d
  | some v => if v < 0 then (v + (n : Int)).toNat else min v.toNat n
theorem sIx_none (n d : Nat) : sIx n d none = d := rfl
theorem sIx_nat (n d k : Nat) : sIx n d (some (k : Int)) = min k n := by
  show (if (k : Int) < 0 then ((k : Int) + (n : Int)).toNat else min (k : Int).toNat n) = min k n
  rw [if_neg (by omega), Int.toNat_natCast]
end
end HT

namespace L2
open PySem PySem.Spec PyProof.Rows

noncomputable abbrev TO := St → Hp → (Option Int → Hp → Prop) → Prop
noncomputable def PO (X : Cx) (e : Option Expr) (t : TO) : Prop :=
  ∀ (pins : List (Addr × Obj)) (s : Shared) (σ : St) (H : Hp) (Q : Option Int → Hp → Prop), Inv X pins σ H s → t σ H Q →
    wpAny (model X.prog X.w) X.A (evalPart e X.env) (fun u s' => ∃ o H', Inv X pins σ H' s' ∧ IsPart u o ∧ Q o H') X.xe s
noncomputable def tNoPart : TO := fun _ H Q => Q none H
noncomputable def tPart (t : TE) : TO := fun σ H Q => t σ H fun x H1 => ∃ i, x = .int i ∧ Q (some i) H1

theorem intsAre_of {ns : List Int} : ∀ {us : List Value}, Vals (ns.map V.int) us → IntsAre us ns := by
  induction ns with
  | nil => intro us r; rw [List.map_nil] at r; cases r; exact .nil
  | cons n ns ih =>
    intro us r
    rw [List.map_cons] at r
    cases r with
    | cons r1 r2 =>
      obtain ⟨t, e⟩ := r1
      subst e
      exact .cons n t (ih r2)

section
variable {X : Cx} {e : Expr} {te : TE} {lo hi : Option Expr} {tl th : TO} {pos p2 : Pos}

theorem po_none : PO X none tNoPart := by
  intro pins s σ H Q I h
  rw [evalPart_none]
  exact wpAny_pure ⟨none, H, I, .none, h⟩
theorem po_some (h : PE X e te) : PO X (some e) (tPart te) := by
  intro pins s σ H Q I hw
  rw [evalPart_some]
  refine thn (h pins s σ H _ I hw) fun u s1 ⟨x, H1, I1, r1, q1⟩ => ?_
  obtain ⟨i, rfl, q⟩ := q1
  obtain ⟨t, rfl⟩ := r1
  exact ⟨some i, H1, I1, .int i t, q⟩

noncomputable def SlR (X : Cx) (r : V → Option Int → Option Int → Hp → VK → Prop) : Prop :=
  ∀ (pins : List (Addr × Obj)) (s : Shared) (σ : St) (H : Hp) (x : V) (v vl vu : Value) (lo hi : Option Int) (sl : Addr) (Q : VK), Inv X pins σ H s → RelV x v → s.heap.IsSliceOf sl vl vu .none → IsPart vl lo → IsPart vu hi → r x lo hi H Q →
    ∃ T id, typeLookup (.type T) "__getitem__" = pure (some (.builtin id)) ∧ s.TypeIs v T ∧ wpAny (model X.prog X.w) X.A (getItem v (.ref sl)) (EP X pins σ Q) X.xe s
noncomputable def tSl (r : V → Option Int → Option Int → Hp → VK → Prop) (te : TE) (tl th : TO) : TE := fun σ H Q => te σ H fun x H1 => tl σ H1 fun l H2 => th σ H2 fun u H3 => r x l u H3 Q
theorem pe_slice {r : V → Option Int → Option Int → Hp → VK → Prop} (hr : SlR X r) (he : PE X e te) (hl : PO X lo tl) (hu : PO X hi th) : PE X (.Subscript e (.Slice lo hi none p2) pos) (tSl r te tl th) := by
  intro pins s σ H Q I h
  refine Subscript_ (thn (he pins s σ H _ I h) fun v s1 ⟨x, H1, I1, r1, q1⟩ => ?_)
  refine wpAny_Slice (thn (hl pins s1 σ H1 _ I1 q1) fun vl s2 ⟨l, H2, I2, pl, q2⟩ => thn (hu pins s2 σ H2 _ I2 q2) fun vu s3 ⟨u, H3, I3, pu, q3⟩ => ?_)
  rw [evalPart_none]
  refine wpAny_pure ?_
  have I4 : Inv X pins σ H3 { s3 with heap := s3.heap.push { cls := .type "slice", data := .fields #[vl, vu, .none] } } := I3.kept (t' := s3.toks) fun b ob q => Heap.get?_push_of_some _ q
  obtain ⟨T, id, hT, ht, hg⟩ := hr pins { s3 with heap := s3.heap.push { cls := .type "slice", data := .fields #[vl, vu, .none] } } σ H3 x v vl vu l u s3.heap.objs.size Q I4 r1 (Heap.IsSliceOf.new ..) pl pu q3
  show wpAny (model X.prog X.w) X.A (subscriptTail e (.Slice lo hi none p2) v (.ref s3.heap.objs.size)) (EP X pins σ Q) X.xe { s3 with heap := s3.heap.push { cls := .type "slice", data := .fields #[vl, vu, .none] } }
  exact tail_any (ops := [.ref s3.heap.objs.size, v]) ht hT hg (by with_unfolding_all rfl)

noncomputable def cutV (xs : List V) (lo hi : Option Int) : List V := (xs.drop (HT.sIx xs.length 0 lo)).take (HT.sIx xs.length xs.length hi - HT.sIx xs.length 0 lo)
theorem cutV_length (xs : List V) (lo hi : Option Int) : (cutV xs lo hi).length ≤ xs.length := by
  unfold cutV
  rw [List.length_take, List.length_drop]
  omega
end
end L2

namespace L2
open PySem PySem.Spec PyProof.Rows

noncomputable def ixN (n : Nat) (i : Int) : Option Nat := if 0 ≤ i then (if i < n then some i.toNat else none) else if -(n : Int) ≤ i then some (i + n).toNat else none
noncomputable def atI {α : Type} (xs : List α) (i : Int) : Option α := (ixN xs.length i).bind fun j => xs[j]?
theorem ixN_seq {n : Nat} {i : Int} {j : Nat} (h : ixN n i = some j) : seqIndex? i n = some j ∧ j < n ∧ -(n : Int) ≤ i ∧ i < n := by
  unfold ixN at h
  by_cases h0 : 0 ≤ i
  · rw [if_pos h0] at h
    by_cases h1 : i < n
    · rw [if_pos h1] at h
      have e : i.toNat = j := Option.some.inj h
      exact ⟨by rw [seqIndex_of h0 h1, e], by (clear h; omega), by (clear e h h1; omega), h1⟩
    · rw [if_neg h1] at h; cases h
  · rw [if_neg h0] at h
    by_cases h1 : -(n : Int) ≤ i
    · rw [if_pos h1] at h
      have e : (i + n).toNat = j := Option.some.inj h
      exact ⟨by rw [seqIndex_neg (by (clear e h h1; omega)) h1, e], by (clear h; omega), h1, by (clear e h; omega)⟩
    · rw [if_neg h1] at h; cases h
theorem atI_get {α : Type} {xs : List α} {i : Int} {v : α} (h : atI xs i = some v) : ∃ j, seqIndex? i xs.length = some j ∧ xs[j]? = some v ∧ j < xs.length ∧ -(xs.length : Int) ≤ i ∧ i < xs.length := by
  unfold atI at h
  cases e : ixN xs.length i with
  | none => rw [e] at h; cases h
  | some j =>
    rw [e] at h
    obtain ⟨h1, h2, h3, h4⟩ := ixN_seq e
    exact ⟨j, h1, h, h2, h3, h4⟩
theorem atI_nat {α : Type} {xs : List α} {j : Nat} {v : α} (h : xs[j]? = some v) : atI xs (j : Int) = some v := by
  have hj : j < xs.length := (List.getElem?_eq_some_iff.mp h).1
  have e : ixN xs.length (j : Int) = some j := by
    unfold ixN
    rw [if_pos (by (clear h hj; omega)), if_pos (by (clear h; omega))]; simp
  unfold atI; rw [e]; exact h
noncomputable def PlainIx (b : Expr) : Prop := ∀ o i, subscripted b false o i = operate [o, i] (getItem o i)
noncomputable def IxR (X : Cx) (r : R2) : Prop :=
  ∀ (value slice : Expr) (pins : List (Addr × Obj)) (s : Shared) (σ : St) (H : Hp) (x y : V) (v u : Value) (Q : VK), Inv X pins σ H s → RelV x v → RelV y u → r x y H Q →
    subscripted slice false v u = operate [v, u] (getItem v u) → wpAny (model X.prog X.w) X.A (subscriptTail value slice v u) (EP X pins σ Q) X.xe s
noncomputable def MtR (X : Cx) (id : String) (r : V → List V → Hp → VK → Prop) : Prop :=
  ∀ (pins : List (Addr × Obj)) (s : Shared) (σ : St) (H : Hp) (x : V) (xs : List V) (v : Value) (us : List Value) (Q : VK), Inv X pins σ H s → RelV x v → Vals xs us → r x xs H Q →
    wpAny (model X.prog X.w) X.A (call (.builtin id) (v :: us)) (EP X pins σ Q) X.xe s
section
variable {X : Cx} {a b : Expr} {ta tb : TE} {pos : Pos}
theorem pe_ix {r : R2} (hr : IxR X r) (ha : PE X a ta) (hb : PE X b tb) (hs : PlainIx b) : PE X (.Subscript a b pos) (tOp r ta tb) := by
  intro pins s σ H Q I h
  exact Subscript_ (binT ha hb I h fun v u s2 x y H2 I2 rx ry q => hr a b pins s2 σ H2 x y v u Q I2 rx ry q (hs _ _))

noncomputable def rIxL (K : PySem.W.Frag) : R2 := fun x y H Q => ∃ p xs i v, x = .ref p ∧ y = .int i ∧ SqL K H p xs ∧ atI xs i = some v ∧ Q v H
noncomputable def rIxT (K : PySem.W.Frag) : R2 := fun x y H Q => ∃ p xs i v, x = .ref p ∧ y = .int i ∧ SqT K H p xs ∧ atI xs i = some v ∧ Q v H
theorem ix_list : IxR X (rIxL X.K) := by
  intro value slice pins s σ H x y v u Q I rx ry h hs
  obtain ⟨p, xs, i, z, rfl, rfl, hq, he, q⟩ := h
  cases rx
  obtain ⟨t, rfl⟩ := ry
  obtain ⟨its, r, pl, hz⟩ := I.list hq
  obtain ⟨j, h1, h2, h3, h4, h5⟩ := atI_get he
  obtain ⟨w, ew, rw'⟩ := r.get h2
  have hl := r.length
  have hn := line63
  have fin : EP X pins σ Q w s := ⟨z, H, I, rw', q⟩
  by_cases h0 : 0 ≤ i
  · have hj : i.toNat = j := by
      rw [seqIndex_of h0 h5] at h1
      exact Option.some.inj h1
    exact item_listR pl.isList h0 (by (clear ew h0 h1 h2 h3 h4 he hj hs; omega)) (by rw [hj]; simpa using ew) fin hs
  · have hj : (i + (its.toArray.size : Int)).toNat = j := by
      rw [seqIndex_neg (by (clear ew h1 h2 h3 h4 h5 he hl hn hs hz; omega)) h4] at h1
      rw [List.size_toArray, ← hl]
      exact Option.some.inj h1
    exact subscriptTail_builtinR (x := w) pl.isList.typeIs slot_list_getitem.lookup
      (wpAny_getItem_list_neg (Q := fun r s' => r = w ∧ EP X pins σ Q r s') pl.isList (by (clear ew h1 h2 h3 h4 h5 he hj hl hn hs hz; omega)) (by rw [List.size_toArray] <;> (clear ew h0 h1 h2 h3 h5 he hj hn hs hz; omega)) (by (clear ew h0 h1 h2 h3 h5 he hj hs; omega)) (by rw [hj]; simpa using ew) ⟨rfl, fin⟩) hs
theorem ix_tup : IxR X (rIxT X.K) := by
  intro value slice pins s σ H x y v u Q I rx ry h hs
  obtain ⟨p, xs, i, z, rfl, rfl, hq, he, q⟩ := h
  cases rx
  obtain ⟨t, rfl⟩ := ry
  obtain ⟨its, r, pl, hz⟩ := I.tuple hq
  obtain ⟨j, h1, h2, h3, h4, h5⟩ := atI_get he
  obtain ⟨w, ew, rw'⟩ := r.get h2
  have hl := r.length
  have hn := line63
  have fin : EP X pins σ Q w s := ⟨z, H, I, rw', q⟩
  exact subscriptTail_builtinR (x := w) pl.typeIs slot_tuple_getitem.lookup
    (getItem_tuple (j := j) (Q := fun r s' => r = w ∧ EP X pins σ Q r s') pl (by (clear ew h1 h2 h5 he hs; omega)) (by (clear ew h1 h2 h4 he hs; omega)) (by rw [List.size_toArray, ← hl]; exact h1) (by simpa using ew) ⟨rfl, fin⟩) hs
theorem mapSeq_set (its : List Value) (n j : Nat) (u : Value) : Obj.mapSeq (·.setIfInBounds j u) { cls := .type "list", data := .seq its.toArray n } = { cls := .type "list", data := .seq (its.set j u).toArray n } := by
  simp [Obj.mapSeq]
theorem Inv.lst {pins : List (Addr × Obj)} {σ : St} {H : Hp} {s : Shared} {p : Addr} {xs : List V} (I : Inv X pins σ H s) (h : H p = some (.lst xs)) :
    ∃ (its : List Value) (n : Nat), Vals xs its ∧ s.heap.get? p = some { cls := .type "list", data := .seq its.toArray n } ∧ xs.length ≤ sizeLine := by
  obtain ⟨z, its, n, r, e⟩ := I.hok p _ h
  exact ⟨its, n, r, e, z⟩
theorem Inv.lstUpd {pins : List (Addr × Obj)} {σ : St} {H : Hp} {s : Shared} {p : Addr} {xs ys : List V} {its its' : List Value} {n n' : Nat} {f : Obj → Obj} (I : Inv X pins σ H s) (h : H p = some (.lst xs))
    (ho : s.heap.get? p = some { cls := .type "list", data := .seq its.toArray n }) (hf : f { cls := .type "list", data := .seq its.toArray n } = { cls := .type "list", data := .seq its'.toArray n' }) (r : Vals ys its') (hz : ys.length ≤ sizeLine) (t : Nat) :
    Inv X pins σ (upd H p (.lst ys)) { s with heap := s.heap.update p f, toks := t } := by
  have e : (s.heap.update p f).get? p = some { cls := .type "list", data := .seq its'.toArray n' } := by
    rw [Heap.get?_update_self f ho (by rw [hf] <;> rfl), hf]
  refine I.write (x := p) (e := p) (by rw [h]; trivial) (.inl rfl) (fun b u hb q => (Heap.get?_update_other _ _ (Ne.symm hb)).trans q) ⟨_, e⟩ ?_
  exact ⟨hz, its', n', r, e⟩
noncomputable def rSetL : V → V → V → Hp → (Hp → Prop) → Prop := fun o i v H Q => ∃ p xs k j, o = .ref p ∧ i = .int k ∧ H p = some (.lst xs) ∧ ixN xs.length k = some j ∧ Q (upd H p (.lst (xs.set j v)))
theorem set_list : PSet X rSetL := by
  intro pins s σ H o i v ov iv u Q I ro ri rv h
  obtain ⟨p, xs, k, j, rfl, rfl, hp, hj, q⟩ := h
  cases ro
  obtain ⟨t, rfl⟩ := ri
  obtain ⟨its, n, r, ho, hz⟩ := I.lst hp
  obtain ⟨h1, h2, h3, h4⟩ := ixN_seq hj
  have hl := r.length
  have hn := line63
  have I' : Inv X pins σ (upd H p (.lst (xs.set j v))) { s with heap := s.heap.update p (Obj.mapSeq (·.setIfInBounds j u)) } :=
    I.lstUpd hp ho (mapSeq_set its n j u) (r.set rv j) (by rw [List.length_set]; exact hz) s.toks
  by_cases h0 : 0 ≤ k
  · have hk : k.toNat = j := by
      rw [seqIndex_of h0 h4] at h1
      exact Option.some.inj h1
    exact PySem.W.ki_setAt ho h0 (by (clear h0 h1 h2 h3 hj hk ho hp; omega)) (by rw [List.size_toArray, ← hl]; exact h4) (by rw [hk]; exact ⟨_, I', q⟩)
  · have hk : (k + (its.toArray.size : Int)).toNat = j := by
      rw [seqIndex_neg (by (clear h1 h2 h3 h4 hj hl hn ho hp hz; omega)) h3] at h1
      rw [List.size_toArray, ← hl]
      exact Option.some.inj h1
    exact PySem.W.ki_setBack ho (by (clear h1 h2 h3 h4 hj hk hl hn ho hp hz; omega)) (by rw [List.size_toArray, ← hl]; exact h3) (by (clear h0 h1 h2 h4 hj hk ho hp; omega)) (by rw [hk]; exact ⟨_, I', q⟩)

theorem slice_bounds (lo hi : Option Int) (n : Nat) : (sliceBounds lo hi none n).1 = ((HT.sIx n 0 lo : Nat) : Int) ∧ (sliceBounds lo hi none n).2.1 = ((HT.sIx n n hi : Nat) : Int) ∧ (sliceBounds lo hi none n).2.2 = 1 := by
  refine ⟨?_, ?_, rfl⟩
  · cases lo with
    | none => simp [sliceBounds, HT.sIx]
    | some i =>
      simp only [sliceBounds, HT.sIx, Option.getD_none, show (1 : Int) > 0 by decide, if_true]
      by_cases h : i < 0
      · simp only [h, if_true] <;> omega
      · simp only [h, if_false] <;> omega
  · cases hi with
    | none => simp [sliceBounds, HT.sIx]
    | some i =>
      simp only [sliceBounds, HT.sIx, Option.getD_none, show (1 : Int) > 0 by decide, if_true]
      by_cases h : i < 0
      · simp only [h, if_true] <;> omega
      · simp only [h, if_false] <;> omega
theorem slicePick_cut (its : List Value) (lo hi : Option Int) : slicePick its.toArray lo hi none = ((its.drop (HT.sIx its.length 0 lo)).take (HT.sIx its.length its.length hi - HT.sIx its.length 0 lo)).toArray := by
  obtain ⟨h1, h2, h3⟩ := slice_bounds lo hi its.toArray.size
  unfold slicePick
  rw [h1, h2, h3]
  simp only [sliceRange_one, pick_run, List.size_toArray] <;> rfl
noncomputable def rSlL (K : PySem.W.Frag) : V → Option Int → Option Int → Hp → VK → Prop := fun x lo hi H Q => ∃ a xs, x = .ref a ∧ SqL K H a xs ∧ ∀ p, H p = none → Q (.ref p) (upd H p (.lst (cutV xs lo hi)))
theorem sl_list : SlR X (rSlL X.K) := by
  intro pins s σ H x v vl vu lo hi sl Q I rx hs pl pu h
  obtain ⟨a, xs, rfl, hx, q⟩ := h
  cases rx
  obtain ⟨its, r, ht, hz⟩ := I.list hx
  have hlen := r.length
  refine ⟨"list", _, slot_list_getitem.lookup, ht.isList.typeIs, ?_⟩
  refine wpAny_getItem_list_slice ht.isList hs pl pu .none (by simp) ?_ (by rw [List.size_toArray] <;> omega)
  rw [slicePick_cut, ← hlen]
  refine ⟨.ref s.heap.objs.size, _, I.laid (t' := s.toks) (o := .lst (cutV xs lo hi)) (fun b ob q => Heap.get?_push_of_some _ q) (Nat.le_refl _) ?_, rfl, q _ (I.hok.fresh (Nat.le_refl _))⟩
  exact ⟨Nat.le_trans (cutV_length xs lo hi) hz, _, 0, (r.drop (HT.sIx xs.length 0 lo)).take (HT.sIx xs.length xs.length hi - HT.sIx xs.length 0 lo), Heap.get?_push_size _ rfl⟩

theorem call_len_seq : CallR X (.builtin "len") (fun xs H Q => ∃ p ys, xs = [.ref p] ∧ (SqL X.K H p ys ∨ SqT X.K H p ys) ∧ Q (.int ys.length) H) := by
  intro pins s σ H xs us Q I r h
  obtain ⟨p, ys, rfl, hq, q⟩ := h
  obtain ⟨u, rfl, rx⟩ := vals1 r
  cases rx
  have hn := line63
  rcases hq with hq | hq
  · obtain ⟨its, r', pl, hz⟩ := I.list hq
    have hlen := r'.length
    exact Calls.call_len_list pl.isList (by simp only [List.size_toArray] <;> omega) ⟨.int ys.length, H, I.tok _, ⟨s.toks + 1, by rw [List.size_toArray, hlen]⟩, q⟩
  · obtain ⟨its, r', pl, hz⟩ := I.tuple hq
    have hlen := r'.length
    exact len_tuple pl (by simp only [List.size_toArray] <;> omega) ⟨.int ys.length, H, I.tok _, ⟨s.toks + 1, by rw [List.size_toArray, hlen]⟩, q⟩
theorem call_list_of : CallR X (.type "list") (fun xs H Q => ∃ p ys, xs = [.ref p] ∧ (SqL X.K H p ys ∨ SqT X.K H p ys) ∧ ∀ l, H l = none → Q (.ref l) (upd H l (.lst ys))) := by
  intro pins s σ H xs us Q I r h
  obtain ⟨p, ys, rfl, hq, q⟩ := h
  obtain ⟨u, rfl, rx⟩ := vals1 r
  cases rx
  have fin : ∀ (its : List Value), Vals ys its → ys.length ≤ sizeLine → ∀ (h' : Heap) (c' : Nat), (∀ b o', s.heap.get? b = some o' → h'.get? b = some o') →
      h'.get? s.heap.objs.size = some { cls := .type "list", dict := none, data := .seq its.toArray c', slots := #[] } → EP X pins σ Q (.ref s.heap.objs.size) { s with heap := h' } := fun its r' hz h' c' kp e =>
    ⟨.ref s.heap.objs.size, _, I.laid (t' := s.toks) kp (Nat.le_refl _) (show ObjOk X.prog X.w _ h' _ (.lst ys) from ⟨hz, its, c', r', e⟩), rfl, q _ (I.hok.fresh (Nat.le_refl _))⟩
  rcases hq with hq | hq
  · obtain ⟨its, r', pl, hz⟩ := I.list hq
    have hlen := r'.length
    obtain ⟨o, ho, hc, n, hd⟩ := pl.isList
    exact call_list_seq p (.inl rfl) ho hc hd (fun h' c' kp e => fin its r' hz h' c' kp e) (by simp only [List.size_toArray] <;> (clear hc hd ho; omega))
  · obtain ⟨its, r', pl, hz⟩ := I.tuple hq
    have hlen := r'.length
    obtain ⟨o, ho, hc, n, hd⟩ := pl
    exact call_list_seq p (.inr rfl) ho hc hd (fun h' c' kp e => fin its r' hz h' c' kp e) (by simp only [List.size_toArray] <;> (clear hc hd ho; omega))
noncomputable def tyV (K : PySem.W.Frag) (T : String) (x : V) (H : Hp) : Prop := match x with
  | .str _ => T = "str"
  | .int _ => T = "int"
  | .ref p => (T = "list" ∧ ∃ xs, SqL K H p xs) ∨ (T = "tuple" ∧ ∃ o, K.lookup p = some o ∧ o.cls = .type "tuple" ∧ o.dict = none) ∨
      (T = "dict" ∧ ((∃ kvs, H p = some (.dK kvs)) ∨ ∃ kvs, H p = some (.dT kvs))) ∨ (T = "set" ∧ ∃ S n, H p = some (.set S n))
  | _ => False
theorem tyV_is {pins : List (Addr × Obj)} {σ : St} {H : Hp} {s : Shared} {T : String} {x : V} {v : Value} (I : Inv X pins σ H s) (r : RelV x v) (ty : tyV X.K T x H) :
    s.TypeIs v T ∧ ∀ a, v = .ref a → ∃ ob, s.heap.get? a = some ob ∧ ob.dict = none := by
  cases x with
  | str z =>
    obtain ⟨t, rfl⟩ := r
    cases (show T = "str" from ty)
    exact ⟨typeIs_str s z t, fun _ e => nomatch e⟩
  | int i =>
    obtain ⟨t, rfl⟩ := r
    cases (show T = "int" from ty)
    exact ⟨typeIs_int s i t, fun _ e => nomatch e⟩
  | ref p =>
    cases r
    rcases ty with ⟨rfl, xs, hq⟩ | ⟨rfl, o, hk, hc, hd⟩ | ⟨rfl, hk⟩ | ⟨rfl, S, n, hk⟩
    · obtain ⟨its, _, pl, _⟩ := I.list hq
      refine ⟨pl.isList.typeIs, fun a e => ?_⟩
      cases e
      obtain ⟨o, n, e, c, hd, _⟩ := pl
      exact ⟨o, e, hd⟩
    · refine ⟨⟨o, I.kIn p o hk, hc⟩, fun a e => ?_⟩
      cases e
      exact ⟨o, I.kIn _ o hk, hd⟩
    · have z : ∃ o, s.heap.get? p = some o ∧ o.ExactDict := by
        rcases hk with ⟨kvs, hk⟩ | ⟨kvs, hk⟩
        · obtain ⟨_, _, _, _, o, _, _, e, ex, _⟩ := I.hok p _ hk
          exact ⟨o, e, ex⟩
        · obtain ⟨_, _, _, _, o, _, _, e, ex, _⟩ := I.hok p _ hk
          exact ⟨o, e, ex⟩
      obtain ⟨o, e, ex⟩ := z
      refine ⟨⟨o, e, ex.1⟩, fun a e2 => ?_⟩
      cases e2
      exact ⟨o, e, ex.2.1⟩
    · obtain ⟨o, _, _, _, e, ex, _⟩ := I.hok p _ hk
      refine ⟨⟨o, e, ex.1⟩, fun a e2 => ?_⟩
      cases e2
      exact ⟨o, e, ex.2.1⟩
  | _ => exact False.elim ty
noncomputable def tBM (K : PySem.W.Frag) (T : String) (r : V → List V → Hp → VK → Prop) (to : TE) (t : TA) : TE := fun σ H Q => to σ H fun x H1 => tyV K T x H1 ∧ t σ H1 fun xs H2 => r x xs H2 Q
variable {o e : Expr} {es : List Expr} {to : TE} {t : TA} {name : Str} {apos cpos : Pos} {T id : String} {r : V → List V → Hp → VK → Prop}
theorem pe_bm (pa : PlainAttrs T) (slot : Slot T name id) (hty : typeOf (.builtin id) = pure (.type "method_descriptor")) (hm : MtR X id r) (ho : PE X o to) (ha : PA X (e :: es) t)
    (hbase : attributeBase o name X.env (eval o X.env) = eval o X.env := by rfl)
    (hfew : ((backTo cpos (starEach (e :: es) X.env)).all (fun x => !x.1) && (backToKw cpos (keywordEach [] X.env)).all (fun x => x.1.isSome)
      && decide ((e :: es).length + ([] : List Keyword).length + (if ([] : List Keyword).isEmpty then 0 else 1) < 30)) = true := by rfl)
    (hline : (apos.endLine == cpos.line) = true := by rfl) (hs : starEach (e :: es) X.env = (false, eval e X.env) :: starEach es X.env := by rfl) (hplain : (backTo cpos (starEach es X.env)).any (·.1) = false := by rfl) :
    PE X (.Call (.Attribute o name apos) (e :: es) [] cpos) (tBM X.K T r to t) := by
  intro pins s σ H Q I h
  refine wpAny_Call_method_late hbase hfew hline rfl (thn (ho pins s σ H _ I h) fun v s1 ⟨x, H1, I1, r1, ty, q1⟩ => ?_)
  obtain ⟨h1, h2⟩ := tyV_is I1 r1 ty
  refine ⟨T, id, pa, slot, hty, h1, h2, ?_⟩
  have hA := ha cpos pins s1 σ H1 _ I1 q1
  rw [hs] at hA ⊢
  refine Calls.callWith_builtin (by show (false || (backTo cpos (starEach es X.env)).any (·.1)) = false; rw [hplain] <;> rfl) (Calls.evalArgs_plain ?_)
  exact thn hA fun us s2 ⟨vs, H2, I2, r2, q2⟩ => hm pins s2 σ H2 x vs v us Q I2 r1 r2 q2
/- xs.append(e), list.index on a module's tuple .. are MtR facts of 06m -/
end
end L2

namespace L2
open PySem PySem.Spec PyProof.Rows

noncomputable def MtM (X : Cx) (id : String) (r : V → List V → Hp → VK → Prop) : Prop :=
  ∀ (pins : List (Addr × Obj)) (s : Shared) (σ : St) (H : Hp) (x : V) (xs : List V) (v : Value) (us : List Value) (Q : VK), Inv X pins σ H s → RelV x v → Vals xs us → r x xs H Q →
    wpAny (model X.prog X.w) X.A (call (.builtin id) (v :: us)) (EP X pins σ Q) X.xe s

theorem Vals.one : ∀ {x : V} {us : List Value}, Vals [x] us → ∃ u, us = [u] ∧ RelV x u
  | _, _, .cons r .nil => ⟨_, rfl, r⟩
theorem Vals.rep {xs : List V} {us : List Value} (h : Vals xs us) : ∀ k : Nat, Vals (List.replicate k xs).flatten (List.replicate k us).flatten
  | 0 => .nil
  | k + 1 => by
    rw [List.replicate_succ, List.replicate_succ, List.flatten_cons, List.flatten_cons]
    exact Vals.append h (Vals.rep h k)
theorem foldl_rep (its : List Value) : ∀ (k : Nat) (acc : List Value),
    List.foldl (fun x1 x2 => x1 ++ x2) acc.toArray (List.replicate k its.toArray) = (acc ++ (List.replicate k its).flatten).toArray
  | 0, acc => by simp
  | k + 1, acc => by
    have e : acc.toArray ++ its.toArray = (acc ++ its).toArray := by simp
    have e2 : (acc ++ its) ++ (List.replicate k its).flatten = acc ++ (List.replicate (k + 1) its).flatten := by
      rw [List.replicate_succ, List.flatten_cons, List.append_assoc]
    rw [← e2, ← foldl_rep its k (acc ++ its), ← e, List.replicate_succ, List.foldl_cons]

section
variable {X : Cx} {pins : List (Addr × Obj)} {σ : St} {H : Hp} {s : Shared} {l b : Addr} {xs ys zs : List V}

theorem Inv.lset {its its' : List Value} {n : Nat} {f : Array Value → Array Value} {t' : Nat} (I : Inv X pins σ H s) (hH : H l = some (.lst xs))
    (e : s.heap.get? l = some { cls := .type "list", data := .seq its.toArray n }) (hf : f its.toArray = its'.toArray) (hv : Vals ys its') (hz : ys.length ≤ sizeLine) :
    Inv X pins σ (upd H l (.lst ys)) { s with heap := s.heap.update l (Obj.mapSeq f), toks := t' } := by
  have q := PySem.IsL.update e f
  rw [hf] at q
  refine I.write (x := l) (e := l) (by rw [hH]; exact trivial) (.inl rfl) (fun b' u hb hu => (Heap.get?_update_other s.heap (Obj.mapSeq f) (Ne.symm hb)).trans hu) ⟨_, q⟩ ?_
  exact ⟨hz, its', _, hv, q⟩
theorem Inv.lnew {its : List Value} {t' : Nat} (I : Inv X pins σ H s) (hv : Vals ys its) (hz : ys.length ≤ sizeLine) :
    Inv X pins σ (upd H s.heap.objs.size (.lst ys)) { s with heap := s.heap.push { cls := .type "list", data := .seq its.toArray }, toks := t' } :=
  I.laid (fun _ _ q => Heap.get?_push_of_some _ q) (Nat.le_refl _) ⟨hz, its, 0, hv, Heap.get?_push_size _ rfl⟩
theorem Inv.fresh (I : Inv X pins σ H s) : H s.heap.objs.size = none := I.hok.fresh (Nat.le_refl _)
theorem Inv.lstM (I : Inv X pins σ H s) (hH : H l = some (.lst xs)) : xs.length ≤ sizeLine ∧ ∃ (its : List Value) (n : Nat), Vals xs its ∧ xs.length = its.length ∧ s.heap.get? l = some { cls := .type "list", data := .seq its.toArray n } := by
  obtain ⟨z, its, n, r, e⟩ := I.hok l _ hH
  exact ⟨z, its, n, r, r.length, e⟩

theorem notLongL {n : Nat} (h : n ≤ sizeLine) : Builtin.List.listTooLong n = false := by
  unfold Builtin.List.listTooLong
  exact decide_eq_false (by omega)
end

section
variable {X : Cx}

noncomputable def rAppend : V → List V → Hp → VK → Prop := fun x vs H Q => ∃ l xs y, x = .ref l ∧ vs = [y] ∧ H l = some (.lst xs) ∧ xs.length < sizeLine ∧ Q .non (upd H l (.lst (xs ++ [y])))
theorem mt_append : MtM X "list.append" rAppend := by
  intro pins s σ H x vs v us Q I rx rv h
  obtain ⟨l, xs, y, rfl, rfl, hH, hz, q⟩ := h
  cases rx
  obtain ⟨u, rfl, ru⟩ := rv.one
  obtain ⟨z, its, n, r, hl, e⟩ := I.lstM hH
  refine call_meets F.slot_list_append ⟨_, e, rfl⟩ F.entry_list_append (F.args_list_append_2 _ _) (PySem.list_append l its.toArray n u (by rw [List.size_toArray]; (clear e hH z; omega))) ⟨e, ?_⟩
  refine ⟨.non, _, I.lset (its' := its ++ [u]) hH e (by simp) (r.append (.cons ru .nil)) ?_, rfl, q⟩
  rw [List.length_append, List.length_singleton]
  (clear e hH z; omega)

noncomputable def rCat : R2 := fun x y H Q => ∃ l b xs zs, x = .ref l ∧ y = .ref b ∧ H l = some (.lst xs) ∧ H b = some (.lst zs) ∧ xs.length + zs.length ≤ sizeLine ∧ ∀ p, H p = none → Q (.ref p) (upd H p (.lst (xs ++ zs)))
theorem op_cat : OpR X (binaryOp .Add) rCat := by
  intro pins s σ H x y v u Q I rx ry h
  obtain ⟨l, b, xs, zs, rfl, rfl, hH, hB, hz, q⟩ := h
  cases rx
  cases ry
  obtain ⟨z, its, n, r, hl, e⟩ := I.lstM hH
  obtain ⟨z2, its2, n2, r2, hl2, e2⟩ := I.lstM hB
  refine PySem.P.add_list e e2 ?_ (by rw [List.size_toArray, List.size_toArray]; (clear e e2 hB hH z z2; omega))
  have ea : its.toArray ++ its2.toArray = (its ++ its2).toArray := by simp
  rw [ea]
  exact ⟨.ref _, _, I.lnew (t' := s.toks) (r.append r2) (by rw [List.length_append]; (clear e e2 ea hB hH hl hl2 z z2; omega)), rfl, q _ I.fresh⟩
noncomputable def rRep : R2 := fun x y H Q => ∃ l k xs, x = .ref l ∧ y = .int k ∧ H l = some (.lst xs) ∧ -(2 ^ 63) ≤ k ∧ k < 2 ^ 63 ∧ xs.length * k.toNat ≤ sizeLine ∧
  ∀ p, H p = none → Q (.ref p) (upd H p (.lst (List.replicate k.toNat xs).flatten))
theorem len_rep {α : Type} (xs : List α) (k : Nat) : (List.replicate k xs).flatten.length = k * xs.length := by
  induction k with
  | zero => simp
  | succ k ih => rw [List.replicate_succ, List.flatten_cons, List.length_append, ih, Nat.succ_mul, Nat.add_comm]
theorem op_rep : OpR X (binaryOp .Mult) rRep := by
  intro pins s σ H x y v u Q I rx ry h
  obtain ⟨l, k, xs, rfl, rfl, hH, h1, h2, hz, q⟩ := h
  cases rx
  obtain ⟨t, rfl⟩ := ry
  obtain ⟨z, its, n, r, hl, e⟩ := I.lstM hH
  have hlen : its.toArray.size * k.toNat ≤ sizeLine := by rw [List.size_toArray, ← hl]; exact hz
  have hcap : ¬ its.toArray.size * k.toNat > (2 ^ 63 - 1) / 8 := by
    have : (sizeLine : Nat) ≤ (2 ^ 63 - 1) / 8 := by decide
    (clear e h1 h2 hH hl hz z; omega)
  have hfit : ¬ (!Builtin.List.listFitsIndex k) = true := by
    rw [fitsIndex_both h1 h2]
    exact Bool.false_ne_true
  have hlong : ¬ Builtin.List.listTooLong (its.toArray.size * k.toNat) = true := by
    rw [notLongL hlen]
    exact Bool.false_ne_true
  have hnew : List.foldl (fun x1 x2 => x1 ++ x2) #[] (List.replicate (if its.toArray.isEmpty = true then 0 else k.toNat) its.toArray) = (List.replicate k.toNat its).flatten.toArray := by
    have f0 : ∀ m : Nat, List.foldl (fun x1 x2 => x1 ++ x2) #[] (List.replicate m its.toArray) = (List.replicate m its).flatten.toArray := fun m => by
      have := foldl_rep its m []
      rw [List.nil_append] at this
      exact this
    rw [f0]
    cases its with
    | nil => simp
    | cons a r' => rw [if_neg (by simp)]
  refine wpAny_binaryOp_repeat_ref (T := "list") (U := "int") (by decide) ⟨_, e, rfl⟩ (fun s' => typeIs_int s' k t) noFill_list_mul F.fills_int_mul F.slot_int_rmul repeat_list F.slot_int_index.lookup
    (call_meets F.slot_int_rmul (typeIs_int s k t) F.entry_int_rmul (F.args_int_rmul_2 _ _) (int___rmul___int_list k t l its.toArray n)
      ⟨e, rfl, ⟨_, e, rfl⟩, call_meets F.slot_list_mul ⟨_, e, rfl⟩ F.entry_list_mul (F.args_list_mul_2 _ _) (AutoListH.list___mul___list_int_3 l its.toArray n k t hfit hcap hlong) ⟨e, ?_⟩⟩)
  rw [hnew]
  exact ⟨.ref _, _, I.lnew (t' := s.toks) (r.rep k.toNat) (by rw [len_rep, Nat.mul_comm]; exact hz), rfl, q _ I.fresh⟩

end

section
variable {prog : Program} {w : World} {A : Around} {E : Value → Shared → Prop} {s : Shared}
end

section
variable {X : Cx}
end
end L2

namespace Att
open PySem PySem.W PySem.Calls PyProof.Rows

theorem ints_of_wellAll {P : Params} {h : Heap} : ∀ (ns : List Int) (vs : List Value), WellAll P h vs (ns.map WData.int) → IntsAre vs ns := by
  intro ns
  induction ns with
  | nil =>
    intro vs w
    rw [List.map_nil] at w
    cases w
    exact .nil
  | cons n ns ih =>
    intro vs w
    rw [List.map_cons] at w
    cases w with
    | cons a b =>
      cases a
      exact .cons _ _ (ih _ b)

theorem script_of {l : OpenLaw} {n : Nat} (hn : l.most = some n) {P : Params} {h : Heap} {args : List WData} {vals : List Value}
    (hpre : l.row.toRowW.claim.pre args = true) (hwl : WellAll P h vals args) :
    ∃ a vs ns, vals = [Value.ref a] ∧ args = [WData.list (ns.map WData.int)] ∧ h.get? a = some { cls := .type "list", data := .seq vs.toArray } ∧ IntsAre vs ns ∧ ns.length ≤ n := by
  have hsh : WShape.hasAll [] args [.list .int] = true := (pre_splitW hpre).1
  have hc : l.pre.holds [] { args := args } = true := (pre_splitW hpre).2
  obtain ⟨d, r, rfl, h1, h2⟩ := hasAllW_cons hsh
  obtain rfl := hasAllW_nil h2
  obtain ⟨xs, rfl, h3⟩ := hasW_list h1
  obtain ⟨ns, rfl⟩ := items_int h3
  have hlen : ns.length ≤ n := by
    unfold OpenLaw.pre at hc
    have h4 : (WTm.not (.lt (.lit (.int (n : Int))) (.len (.arg 0)))).holds [] { args := [.list (ns.map .int)] } = true := by
      have h4 := (holds_andW hc).1
      rw [hn] at h4
      exact h4
    have h5 := condW_of h4 (w_not (w_lt w_lit (w_len_list (w_arg rfl))))
    rw [List.length_map] at h5
    refine Nat.le_of_not_lt fun q => ?_
    have q' : (n : Int) < ((ns.length : Nat) : Int) := by (clear h1 h2 h3 h4 h5 hc hn hpre hsh; omega)
    first
      | (rw [decide_eq_true q'] at h5; exact absurd h5 (by decide))
      | (simp at h5; omega)
  cases hwl with
  | cons w1 w2 =>
    cases w2
    cases w1 with
    | list ho hall => exact ⟨_, _, ns, rfl, rfl, ho, ints_of_wellAll ns _ hall, hlen⟩

theorem post_true (l : OpenLaw) (args : List WData) : l.row.toRowW.claim.post args (.bool true) args = true :=
  postW_of (r := l.row.toRowW) (X := (true == true))
    (show WShape.has [] (.bool true) .bool = true by first | rfl | decide | simp [WShape.has, WShape.arms, WShape.armsAll])
    (show (WTm.eq .res (.lit (.bool true))).value [] { args := args, res := some (.bool true), after := args } = some (.bool (true == true)) from w_eq_bool (w_res rfl) w_lit) rfl

theorem attach_call {l : OpenLaw} {n : Nat} {q : Program} {loose : List Str} {XP : (Str → Option Value) → Heap → Prop} {YP : World → Heap → Prop} {d : DefRec}
    (hn : l.most = some n) (hdf : d.params.defaults = [])
    (call : ∀ (w : World) (s₀ s₁ : Shared) (mg mb : Str → Option Value) (fa : Addr) (o : Obj) (pm cd doc : Value) (a : Addr) (vs : List Value) (ns : List Int),
      Ground q loose [] XP w s₀ mg mb s₁.heap → YP w s₁.heap →
      s₁.heap.get? fa = some o → o.data = .func (docDef d.name d.params d.body d.scope pm cd doc) → s₁.heap.CodeRec cd d.name → mg d.name = some (.ref fa) →
      s₁.heap.get? a = some { cls := .type "list", data := .seq vs.toArray } → IntsAre vs ns → ns.length ≤ n → s₁.gens = #[] →
      codeAny (model l.prog w) callerA (.call (.ref fa) ⟨[.ref a], []⟩) (fun r s' => r = .ok (.ret (.bool true)) ∧ OldK s₁.heap s'.heap ∧ s'.os = s₁.os ∧ AllBare s'.gens) s₁) :
    WalkO q loose XP YP l.row.toRowW d [] (fun f vs => PySem.call f vs) := by
  intro w s₀ s₁ mg mb G Y fa o pm cd doc dV kV ho hd hcd hD hmg hg args vals as hpre hlay hrd hwl hlo
  obtain rfl : dV = .none := Dflts.none hD hdf
  obtain rfl : kV = .none := Dflts.noKw hD
  obtain ⟨a, vs, ns, rfl, rfl, hobj, hints, hlen⟩ := script_of hn hpre hwl
  refine enter_call (codeAny_mono (call w s₀ s₁ mg mb fa o pm cd doc a vs ns G Y ho (fd_plain hd) hcd hmg hobj hints hlen hg) fun r s' hq => ?_)
  obtain ⟨rfl, h2, h3, h4⟩ := hq
  exact ⟨.inl ⟨.bool true, .bool true, [], rfl, fun _ => rfl, .bool true, post_true l _, fun _ => ⟨List.Pairwise.nil, fun _ hm => (nomatch hm)⟩⟩, h2, h3, h4⟩

section
variable {prog : Program} {w : World} {A : Around} {E : Value → Shared → Prop} {s : Shared} {K : Frag}

end
end Att

namespace L2
open PySem PySem.Spec PyProof.Rows

theorem vals_ints : ∀ {vs : List Value} {ns : List Int}, IntsAre vs ns → Vals (ns.map V.int) vs
  | _, _, .nil => .nil
  | _, _, .cons n t h => .cons ⟨t, rfl⟩ (vals_ints h)

noncomputable def Only (H : Hp) : Prop := ∀ b, H b = none ∨ ∃ o xs, H b = some (.frz o (.lst xs))

theorem law_call {P : Program} {w : World} {K : PySem.W.Frag} {mg mb : Str → Option Value} {CX : CXT} {k : Nat} {fa a : Addr} {fd : FuncData} {x : Str} {sp : Sp} {s₁ : Shared} {vs : List Value} {ns : List Int}
    (KX : K.In s₁.heap) (hns : s₁.heap.Ns mainGlobals mg) (hb : s₁.heap.Ns builtinsNs mb) (hbb : ∀ x : Str, x ≠ "__name__" → mb x = bootBuiltins x) (hlim : s₁.heap.NoLimit) (hg : s₁.gens = #[])
    (ha : s₁.heap.get? a = some { cls := .type "list", data := .seq vs.toArray }) (hi : IntsAre vs ns) (hl : ns.length ≤ sizeLine) (hr : Room k callerA)
    (F : ∀ base : Heap, K.In base → base.Ns mainGlobals mg → FnOk P w K mg base CX k fa fd [x] sp) (hbind : ∀ (s : Shared) (u : Value), BindsTo s fd ⟨[u], []⟩ [(x, u)])
    (hsp : ∀ H : Hp, Only H → SqL K H a (ns.map V.int) → sp [.ref a] H (fun v _ => v = .bl true) fun _ _ _ => False)
    (hCX : ∀ H e s', CX [] H s₁ (fun _ _ _ => False) e s' → False) :
    codeAny (model P w) callerA (.call (.ref fa) ⟨[.ref a], []⟩) (fun r s' => r = .ok (.ret (.bool true)) ∧ OldK s₁.heap s'.heap ∧ s'.os = s₁.os ∧ AllBare s'.gens) s₁ := by
  have rv := vals_ints hi
  have lenV := hi.length
  -- from an abstract heap in which nothing but the script may be tracked
  have core : ∀ H : Hp, Only H → SqL K H a (ns.map V.int) → HOk P w H s₁.heap → (∀ b, H b ≠ none → b = a) → (H a ≠ none → K.lookup a = none) →
      codeAny (model P w) callerA (.call (.ref fa) ⟨[.ref a], []⟩) (fun r s' => r = .ok (.ret (.bool true)) ∧ OldK s₁.heap s'.heap ∧ s'.os = s₁.os ∧ AllBare s'.gens) s₁ := by
    intro H hO hS hok hA hK
    have base_of : ∀ {b : Addr} {o : Obj}, s₁.heap.get? b = some o → H b = none → (hidT s₁.heap H).get? b = some o := fun e n => hidT_get e n
    have noA : ∀ {b : Addr} {o : Obj} {es : Array DictEntry} {ep : Nat}, s₁.heap.get? b = some o → o.data = .dict es ep → H b = none := fun {b o es ep} e d => by
      cases q : H b with
      | none => rfl
      | some u =>
        have e' : b = a := hA b (by rw [q]; simp)
        subst e'
        rw [ha] at e; cases e
        have d' : Data.seq vs.toArray _ = Data.dict es ep := d
        cases d'
    have nsK : ∀ {b : Addr} {m : Str → Option Value}, s₁.heap.Ns b m → (hidT s₁.heap H).Ns b m := fun {b m} ⟨o, es, ep, e, d, r⟩ => ⟨o, es, ep, base_of e (noA e d), d, r⟩
    have hKb : K.In (hidT s₁.heap H) := fun b o e => base_of (KX b o e) (by
      cases q : H b with
      | none => rfl
      | some u =>
        have e' : b = a := hA b (by rw [q]; simp)
        subst e'
        rw [hK (by rw [q]; simp)] at e; cases e)
    have hM : Mod K mg (hidT s₁.heap H) := ⟨hKb, nsK hns, ⟨mb, nsK hb, hbb⟩, let ⟨mc, h1, h2⟩ := hlim; ⟨mc, nsK h1, h2⟩⟩
    have e0 : Env0 P w K mg (hidT s₁.heap H) callerA [] s₁ H := ⟨rfl, hM, fun b o e => of_hidT e, Nat.le_of_eq (hidT_size _ _), trivial, fun b hb => absurd (show b ∈ ([] : List Addr) from hb) (by simp), hok, .of_eq hg⟩
    refine codeAny_mono ((F _ hKb (nsK hns)).run callerA [] s₁ H ⟨[.ref a], []⟩ [.ref a] [.ref a] _ _ hr e0 (hbind s₁ (.ref a)) (.cons rfl .nil) (hsp H hO hS)) fun r s' h => ?_
    cases r with
    | error e => exact (hCX H e s' h).elim
    | ok fl =>
      cases fl with
      | next => exact False.elim h
      | brk => exact False.elim h
      | cont => exact False.elim h
      | ret u =>
        obtain ⟨v, H', os, bare, un, hok', r', q⟩ := h
        have q' : v = .bl true := q
        subst q'
        obtain rfl : u = Value.bool true := r'
        refine ⟨rfl, OldK.of_keep fun b o e => ?_, os, bare⟩
        cases q : H b with
        | none => exact un.keep b o e q (by intro z; exact absurd (show b ∈ ([] : List Addr) from z) (by simp)) (by simp)
        | some u =>
          rcases hO b with z | ⟨ob, xs, z⟩
          · rw [q] at z; cases z
          · have z2 := un.frzs b ob _ z
            obtain ⟨e1, _⟩ := hok b _ z
            obtain ⟨e2, _⟩ := hok' b _ z2
            rw [e] at e1; cases e1
            exact e2
  cases hk : K.lookup a with
  | some o =>
    -- the script is one of the module's own objects
    have e := KX a o hk
    rw [ha] at e
    cases e
    refine core (fun _ => none) (fun _ => .inl rfl) (.inr ⟨_, vs.toArray, _, hk, rfl, rfl, rfl, by rw [List.size_toArray, lenV]; exact hl, by simpa using rv⟩) (fun b u z => by have z' : (none : Option HO) = some u := z; cases z') (fun b z => absurd rfl z) fun z => absurd rfl z
  | none =>
    refine core (fun b => if b = a then some (.frz { cls := .type "list", data := .seq vs.toArray } (.lst (ns.map V.int))) else none) (fun b => ?_) (.inl (.inr ⟨{ cls := .type "list", data := .seq vs.toArray }, if_pos rfl⟩)) (fun b u z => ?_) (fun b z => ?_) fun _ => hk
    · by_cases hb : b = a
      · exact .inr ⟨_, _, if_pos hb⟩
      · exact .inl (if_neg hb)
    · by_cases hb : b = a
      · have z' := (if_pos hb).symm.trans z
        cases z'
        subst hb
        exact ⟨ha, by rw [List.length_map]; exact hl, vs, _, rv, ha⟩
      · have z' := (if_neg hb).symm.trans z
        cases z'
    · by_cases hb : b = a
      · exact hb
      · exact absurd (if_neg hb) z
end L2

namespace L2
open PySem PySem.Spec PyProof.Rows

theorem walk_of {l : PySem.W.OpenLaw} {n k : Nat} {q : Program} {loose : List Str} {XP : (Str → Option Value) → Heap → Prop} {YP : World → Heap → Prop} {d : DefRec} {K : Params → PySem.W.Frag} {CX : World → CXT} {sp : World → Sp} {x : Str}
    (hn : l.most = some n) (hn2 : n ≤ sizeLine) (hdf : d.params.defaults = []) (hr : Room k callerA)
    (hY : ∀ (w : World) (h : Heap), YP w h → (K w.params).In h)
    (F : ∀ (w : World) (mg : Str → Option Value) (fa : Addr) (h : Heap), (K w.params).In h → h.Ns mainGlobals mg → mg d.name = some (.ref fa) →
      ∃ fd : FuncData, (∀ (s : Shared) (u : Value), BindsTo s fd ⟨[u], []⟩ [(x, u)]) ∧
        ∀ base : Heap, (K w.params).In base → base.Ns mainGlobals mg → FnOk l.prog w (K w.params) mg base (CX w) k fa fd [x] (sp w))
    (hsp : ∀ (w : World) (H : Hp) (a : Addr) (ns : List Int), ns.length ≤ n → Only H → SqL (K w.params) H a (ns.map V.int) → sp w [.ref a] H (fun v _ => v = .bl true) fun _ _ _ => False)
    (hCX : ∀ (w : World) (H : Hp) (s : Shared) (e : Value) (s' : Shared), CX w [] H s (fun _ _ _ => False) e s' → False) :
    PySem.W.WalkO q loose XP YP l.row.toRowW d [] (fun f vs => PySem.call f vs) := by
  refine Att.attach_call hn hdf fun w s₀ s₁ mg mb fa o pm cd doc a vs ns G Y ho hd hcd hmg hobj hints hlen hg => ?_
  have KX := hY w _ Y
  obtain ⟨fd, hb, hF⟩ := F w mg fa _ KX G.T.g hmg
  exact law_call KX G.T.g G.T.b G.T.builtins G.T.nolimit hg hobj hints (Nat.le_trans hlen hn2) hr hF hb (fun H hO hS => hsp w H a ns hlen hO hS) fun H e s' => hCX w H s₁ e s'
end L2

/- THE LAST THEOREM (shape; LID, My.* are yours):
   My.Adr: a structure of the addresses that your layer names (classes, functions); My.Txt K t: a structure (Prop) of the equations over K;
   My.txt_mk : {K} {implicit addresses ..} (e1 : nsIn K mainGlobals "law" = some (some (.ref f))) (e2 : K.lookup f = some ⟨oc, od, .func (fnOf "law" "law" params body scope dV kV doc pm an cdv ct), sl⟩) (e3 : codeIn K cdv "law" = true) .. : ∃ t, My.Txt K t

set_option maxRecDepth 100000 in
set_option maxHeartbeats 0 in
theorem PySem.Challenge.cw_LID_holds : PySem.Challenge.rw_LID.Holds := by
  w_on; o_law; k_head; (case hw => w_witness2)
  k_fill
  refine L2.walk_of (l := PySem.Challenge.rw_LID) (n := 63) (k := 40) (x := "script") (CX := fun w => ..) (sp := fun _ => My.sp_law) rfl (by decide) rfl ⟨rfl, by decide, by decide⟩ (fun w h Y => PySem.W.kIn_of Y) ?F ?S ?C
  case F =>
    intro w mg fa h KX G hmg
    have T : ∃ t, My.Txt (L2.KOf KX) t := by
      dsimp only [L2.KOf]                          -- K must stand as «<heap const> w.params» for k_is
      refine' My.txt_mk ?e1 ?e2 ?e3 ..
      (case e1 => PySem.W.k_is)                    -- in the order: a name -> its address -> its object -> its parts
      (case e2 => PySem.W.k_is)
      ..
    obtain ⟨t, T⟩ := T
    have e0 := hmg.symm.trans (PySem.W.mg_of KX G T.law)
    cases e0                                       -- fa is the law's own address
    exact ⟨_, fun s u => .of_eq rfl, fun base kb nb => My.law_fn T kb nb⟩     -- if «.of_eq rfl» comes too early: refine' ⟨_, ?b, fun base kb nb => My.law_fn T kb nb⟩; exact fun s u => .of_eq rfl
  case S => exact fun w H a ns hl hO hS => ..
  case C => exact ..
(the tactic k_is has no namespace: write k_is) -/

namespace L2
open PySem PySem.Spec PyProof.Rows

noncomputable def inClass (s : Stmt) (j : Nat) : Stmt := match s with
  | .ClassDef _ _ _ body _ _ _ _ _ _ _ => body.getD j (.Pass ⟨0, 0, 0, 0⟩)
  | _ => .Pass ⟨0, 0, 0, 0⟩
noncomputable def defArgs (s : Stmt) : Arguments := match s with
  | .FunctionDef _ a _ _ _ _ _ _ _ _ => a
  | _ => { posonlyargs := [], args := [], vararg := none, kwonlyargs := [], kw_defaults := [], kwarg := none, defaults := [] }
noncomputable def defBody (s : Stmt) : List Stmt := match s with
  | .FunctionDef _ _ b _ _ _ _ _ _ _ => b
  | _ => []
noncomputable def defScope (s : Stmt) : Scope := match s with
  | .FunctionDef _ _ _ _ _ _ sc _ _ _ => sc
  | _ => { kind := .function, names := [], isGenerator := false, isCoroutine := false }

noncomputable abbrev CX0 : CXT := fun _ _ _ _ _ _ => False
noncomputable abbrev E0 : XK := fun _ _ _ => False
theorem pass0 {X : Cx} : Passes CX0 X E0 := fun _ _ _ _ _ _ _ h => h.elim

structure Fun (K : PySem.W.Frag) (x qual : Str) (st : Stmt) (f : Addr) (fd : FuncData) : Prop where
  ex : ∃ (oc : Value) (od : Option Addr) (kV doc pm : Value) (an : Option Addr) (cdv ct : Value) (osl : Array (Option Value)),
    fd = PySem.W.fnOf x qual (defArgs st) (defBody st) (defScope st) .none kV doc pm an cdv ct ∧ K.lookup f = some ⟨oc, od, .func fd, osl⟩ ∧ PySem.W.codeIn K cdv qual = true
  kp : PySem.W.keepIn K (.ref f) = true
section
variable {P : Program} {w : World} {K : PySem.W.Frag} {mg : Str → Option Value} {base : Heap}
theorem Fun.ok {x qual : Str} {st : Stmt} {f : Addr} {fd : FuncData} {N ps : List Str} {k : Nat} {sp : Sp} (F : Fun K x qual st f fd) (S : FnScope N ps (defScope st)) (len : ∀ vs H Q E, sp vs H Q E → vs.length = ps.length)
    (hbody : ∀ (cdv : Value) (A : Around) (outer : List Env) (s : Shared) (H : Hp) (vs : List V) (Q : VK) (E : XK), Room k (A.deeper (envOfC qual (defScope st) s.heap.objs.size f cdv)) → sp vs H Q E →
      ∃ t, PSs (cxOf CX0 P w K mg base N qual (defScope st) f cdv A outer s H E).nox (defBody st) t ∧ t { nx := fun _ H' => Q .non H', rt := Q } (start N vs) H) : FnOk P w K mg base CX0 (k + 1) f fd ps sp := by
  obtain ⟨oc, od, kV, doc, pm, an, cdv, ct, osl, rfl, lk, hcd⟩ := F.ex
  refine fn_of lk hcd S len fun A outer s H vs Q E hr hsp => ?_
  obtain ⟨t, h, q⟩ := hbody cdv A outer s H vs Q E hr hsp
  exact ⟨t, h.nox, q⟩
theorem Fun.binds {x qual : Str} {st : Stmt} {f : Addr} {fd : FuncData} {ps : List Str} (F : Fun K x qual st f fd)
    (h : ∀ (kV doc pm : Value) (an : Option Addr) (cdv ct : Value) (us : List Value), us.length = ps.length → bindArgs (PySem.W.fnOf x qual (defArgs st) (defBody st) (defScope st) .none kV doc pm an cdv ct) ⟨us, []⟩ = pure (ps.zip us)) : Binds K fd ps [] := by
  obtain ⟨oc, od, kV, doc, pm, an, cdv, ct, osl, rfl, lk, hcd⟩ := F.ex
  exact .all (h kV doc pm an cdv ct)
theorem fun_mk {x qual : Str} {st : Stmt} {f : Addr} {oc : Value} {od an : Option Addr} {osl : Array (Option Value)} {kV doc pm cdv ct : Value} (l : K.lookup f = some ⟨oc, od, .func (PySem.W.fnOf x qual (defArgs st) (defBody st) (defScope st) .none kV doc pm an cdv ct), osl⟩)
    (c : PySem.W.codeIn K cdv qual = true) (k : PySem.W.keepIn K (.ref f) = true) : Fun K x qual st f (PySem.W.fnOf x qual (defArgs st) (defBody st) (defScope st) .none kV doc pm an cdv ct) := ⟨⟨oc, od, kV, doc, pm, an, cdv, ct, osl, rfl, l, c⟩, k⟩
end
theorem small1000 {n : Nat} (h : n ≤ 1000) : n < sizeLine := Nat.lt_of_le_of_lt h (by decide)

section
variable {X : Cx}
theorem pv (i : Nat) {x : Str} {pos : Pos} (hN : X.N[i]? = some x := by rfl) (hv : Vis X.env.scope x := by first | exact Or.inl rfl | exact Or.inr (Or.inl rfl) | exact Or.inr (Or.inr rfl)) (hd : (x == ("__debug__" : Str)) = false := by decide)
    (hcd : (x == ("__classdict__" : Str)) = false := by decide) : PE X (.Name x pos) (tVar i) := pe_var hN hv hd hcd
end

theorem iteF {A B : Prop} (h : B) : if false = true then A else B := by
  rw [if_neg Bool.false_ne_true]
  exact h
theorem iteT {A B : Prop} (h : A) : if true = true then A else B := by
  rw [if_pos rfl]
  exact h
theorem ite2 {c A B : Prop} [Decidable c] (h1 : c → A) (h2 : ¬ c → B) : if c then A else B := by
  by_cases h : c
  · rw [if_pos h]
    exact h1 h
  · rw [if_neg h]
    exact h2 h
noncomputable def Same (H H' : Hp) : Prop := ∀ b o, H b = some o → H' b = some o
theorem Same.refl (H : Hp) : Same H H := fun _ _ h => h
theorem Same.trans {H H1 H2 : Hp} (a : Same H H1) (b : Same H1 H2) : Same H H2 := fun c o h => b c o (a c o h)
theorem Same.free {H H' : Hp} (e : Same H H') {l : Addr} (h : H' l = Option.none) : H l = Option.none := by
  cases q : H l with
  | none => rfl
  | some o =>
    rw [e l o q] at h
    cases h
theorem Same.seq {K : PySem.W.Frag} {H H' : Hp} {a : Addr} {xs : List V} (e : Same H H') (h : SqL K H a xs) : SqL K H' a xs := by
  rcases h with (h | ⟨o, h⟩) | h
  · exact .inl (.inl (e _ _ h))
  · exact .inl (.inr ⟨o, e _ _ h⟩)
  · exact .inr h

end L2

set_option Elab.async false
set_option linter.all false
set_option maxRecDepth 100000
namespace L2
open PySem PySem.Spec PyProof.Rows

section
variable {X : Cx} {pins : List (Addr × Obj)} {σ : St} {H H' : Hp} {s : Shared} {h' : Heap}
theorem Inv.turnedL {t' : Nat} {ch : List Addr} (I : Inv X pins σ H s) (k : ∀ b o, b ∉ ch → s.heap.get? b = some o → h'.get? b = some o) (hf : ∀ b ∈ ch, FpOk X pins H b) :
    Inv X pins σ H { s with heap := h', toks := t' } := by
  have nch : ∀ b u, H b = some u → b ∉ ch := fun b u e z => by
    have q := (hf b z).1
    rw [q] at e
    cases e
  refine I.step (g' := s.gens) (d' := s.drawn) (ch := ch) (fun b hb => ?_) (fun b o _ _ hc e _ => k b o hc e) (fun b o _ _ hc e _ => ⟨o.slots, k b o hc e⟩) (fun _ _ _ _ n => n)
    (fun b o hc e => ⟨o, k b o hc e⟩) (fun _ _ e => e) (fun _ _ _ e => e) (fun b ps e => ⟨#[], by rw [e]; simp⟩) (fun m hm => ?_) (fun b u e => ?_) I.bare
  · obtain ⟨_, f1, _, f3, f4, f5⟩ := hf b hb
    exact ⟨f3, f1, f4, f5⟩
  · obtain ⟨o, es, ep, ho, r⟩ := hm
    exact ⟨o, es, ep, k _ o (fun z => (hf _ z).2.1 rfl) ho, r⟩
  · refine (I.hok b u e).stay (fun c v hc q => k c v ?_ q) (fun _ q => q) fun _ _ q => q
    rcases hc with z | z
    · rw [z]
      exact nch b u e
    · exact nch c _ z
theorem Inv.track {a : Addr} {o : HO} (I : Inv X pins σ H s) (f : FpOk X pins H a) (new : ObjOk X.prog X.w (upd H a o) s.heap a o) : Inv X pins σ (upd H a o) s := by
  have hn := f.1
  obtain ⟨hh, g, d, t, os⟩ := s
  refine I.step (h' := hh) (g' := g) (d' := d) (t' := t) (ch := [a]) (fun b hb => ?_) (fun b ob _ _ _ e _ => e) (fun b ob _ _ _ e _ => ⟨ob.slots, e⟩) (fun b ob hc e n => ?_)
    (fun b ob _ e => ⟨ob, e⟩) (fun b xs e => ?_) (fun b ob u e => ?_) (fun b ps e => ⟨#[], ?_⟩) (fun m hm => hm) (fun b u e => ?_) I.bare
  · obtain rfl : b = a := by simpa using hb
    obtain ⟨_, f1, _, f3, f4, f5⟩ := f
    exact ⟨f3, f1, f4, f5⟩
  · rw [upd_ne (fun z => hc (by simp [z]))]
    exact n
  · rw [upd_ne (ne_of_none e hn)]
    exact e
  · rw [upd_ne (ne_of_none e hn)]
    exact e
  · rw [upd_ne (ne_of_none e hn), e]
    simp
  · by_cases hb : b = a
    · subst hb
      rw [upd_same] at e
      cases e
      exact new
    · rw [upd_ne hb] at e
      exact (I.hok b u e).stay (fun c v _ q => q) (fun c q => by rw [upd_ne (ne_of_none q hn)]; exact q) fun c xs q => by rw [upd_ne (ne_of_none q hn)]; exact q
end

noncomputable def isCap : Option NameKind → Bool
  | some .cell => true
  | some .free => true
  | _ => false
noncomputable def capB (N : List Str) (osc rsc : Scope) (js : List Nat) : Bool := js.all fun j => match N[j]? with
  | some x => isCap (osc.names.lookup x) && isCap (rsc.names.lookup x)
  | none => false
noncomputable def selN (own : List Str) (js : List Nat) (N : List Str) : List Str := own ++ js.filterMap fun j => N[j]?
noncomputable def selS (k : Nat) (js : List Nat) (σ : St) : St := List.replicate k none ++ js.map fun j => (σ[j]?).join
theorem isCap_or {o : Option NameKind} (h : isCap o = true) : o = some .cell ∨ o = some .free := by
  cases o with
  | none => exact absurd h Bool.false_ne_true
  | some k => cases k <;> first | exact .inl rfl | exact .inr rfl | exact absurd h Bool.false_ne_true
theorem capB_cons {N : List Str} {osc rsc : Scope} {j : Nat} {js : List Nat} (h : capB N osc rsc (j :: js) = true) :
    (∃ x, N[j]? = some x ∧ isCap (osc.names.lookup x) = true ∧ isCap (rsc.names.lookup x) = true) ∧ capB N osc rsc js = true := by
  unfold capB at h
  rw [List.all_cons, Bool.and_eq_true] at h
  refine ⟨?_, h.2⟩
  have h1 := h.1
  cases e : N[j]? with
  | none => rw [e] at h1; exact absurd h1 Bool.false_ne_true
  | some x =>
    rw [e] at h1
    have h2 := (Bool.and_eq_true _ _).mp h1
    exact ⟨x, rfl, h2.1, h2.2⟩
theorem capB_len {N : List Str} {osc rsc : Scope} : ∀ {js : List Nat}, capB N osc rsc js = true → (js.filterMap fun j => N[j]?).length = js.length
  | [], _ => rfl
  | j :: js, h => by
    obtain ⟨⟨x, e, _⟩, h2⟩ := capB_cons h
    rw [List.filterMap_cons, e]
    show (js.filterMap fun j => N[j]?).length + 1 = js.length + 1
    rw [capB_len h2]
theorem capB_at {N : List Str} {osc rsc : Scope} : ∀ {js : List Nat} {i : Nat} {x : Str}, capB N osc rsc js = true → (js.filterMap fun j => N[j]?)[i]? = some x →
    ∃ j, js[i]? = some j ∧ N[j]? = some x ∧ isCap (osc.names.lookup x) = true ∧ isCap (rsc.names.lookup x) = true
  | [], _, _, _, h => by simp at h
  | j :: js, i, x, h, hi => by
    obtain ⟨⟨y, e, c1, c2⟩, h2⟩ := capB_cons h
    rw [List.filterMap_cons, e] at hi
    cases i with
    | zero =>
      have z : y = x := by simpa using hi
      subst z
      exact ⟨j, rfl, e, c1, c2⟩
    | succ i =>
      have hi' : (js.filterMap fun j => N[j]?)[i]? = some x := by simpa using hi
      obtain ⟨j', e1, e2⟩ := capB_at (i := i) h2 hi'
      exact ⟨j', by simpa using e1, e2⟩
theorem selS_own {k : Nat} {js : List Nat} {σ : St} {i : Nat} (h : i < k) : (selS k js σ)[i]? = some none := by
  unfold selS
  rw [List.getElem?_append_left (by simpa using h), List.getElem?_replicate, if_pos h]
theorem selS_cap {k : Nat} {js : List Nat} {σ : St} {i : Nat} {v : V} (h : (selS k js σ)[i]? = some (some v)) : ∃ j, k ≤ i ∧ js[i - k]? = some j ∧ σ[j]? = some (some v) := by
  by_cases hi : i < k
  · rw [selS_own hi] at h
    cases h
  · unfold selS at h
    rw [List.getElem?_append_right (by simpa using hi), List.length_replicate, List.getElem?_map] at h
    cases e : js[i - k]? with
    | none => rw [e] at h; cases h
    | some j =>
      rw [e] at h
      refine ⟨j, by (clear e h; omega), rfl, ?_⟩
      have h2 : (σ[j]?).join = some v := by simpa using h
      cases e2 : σ[j]? with
      | none => rw [e2] at h2; cases h2
      | some o =>
        rw [e2] at h2
        have h3 : o = some v := by simpa using h2
        rw [h3]
theorem selS_len {k : Nat} {js : List Nat} {σ : St} : (selS k js σ).length = k + js.length := by
  unfold selS
  rw [List.length_append, List.length_replicate, List.length_map]

theorem closure_go (env : Env) : ∀ (names : List (Str × NameKind)) (cs : List (Str × Addr)), (∀ x, (x, NameKind.free) ∈ names → ∃ c, env.cells.lookup x = some c) →
    (∀ x c, cs.lookup x = some c → env.cells.lookup x = some c) →
    ∃ cl, (forIn names cs (fun (p : Str × NameKind) (r : List (Str × Addr)) => match p with
      | (name, kind) => if (kind == NameKind.free) = true then (do let a ← cellOf env name; pure (ForInStep.yield ((name, a) :: r))) else pure (ForInStep.yield r)) : Sem (List (Str × Addr))) = pure cl ∧
      (∀ x c, cl.lookup x = some c → env.cells.lookup x = some c) ∧ (∀ x, (x, NameKind.free) ∈ names → ∃ c, cl.lookup x = some c) ∧ ∀ x, (∃ c, cs.lookup x = some c) → ∃ c, cl.lookup x = some c
  | [], cs, _, hc => ⟨cs, by simp only [List.forIn_nil], hc, (fun _ h => (nomatch h)), fun _ h => h⟩
  | (n, k) :: r, cs, h, hc => by
    by_cases hk : k = NameKind.free
    · subst hk
      obtain ⟨c, e⟩ := h n List.mem_cons_self
      have hc' : ∀ x d, ((n, c) :: cs).lookup x = some d → env.cells.lookup x = some d := fun x d q => by
        rw [List.lookup_cons] at q
        cases z : x == n with
        | true =>
          rw [z] at q
          have q' : c = d := by simpa using q
          have zx : x = n := by simpa using z
          rw [zx, e, q']
        | false =>
          rw [z] at q
          exact hc x d (by simpa using q)
      obtain ⟨cl, h1, h2, h3, h4⟩ := closure_go env r ((n, c) :: cs) (fun x hx => h x (List.mem_cons_of_mem _ hx)) hc'
      have head : ∃ d, ((n, c) :: cs).lookup n = some d := ⟨c, by simp [List.lookup_cons]⟩
      refine ⟨cl, ?_, h2, fun x hx => ?_, fun x ⟨d, hd⟩ => h4 x ?_⟩
      · rw [List.forIn_cons]
        have ec : cellOf env n = pure c := by unfold cellOf; rw [e]
        simp only [beq_self_eq_true, if_true, ec, pure_bind]
        exact h1
      · rcases List.mem_cons.mp hx with z | z
        · obtain ⟨rfl, _⟩ := Prod.mk.inj z
          exact h4 _ head
        · exact h3 x z
      · rw [List.lookup_cons]
        cases z : x == n with
        | true => exact ⟨c, rfl⟩
        | false => exact ⟨d, hd⟩
    · have hb : (k == NameKind.free) = false := by simpa using hk
      obtain ⟨cl, h1, h2, h3, h4⟩ := closure_go env r cs (fun x hx => h x (List.mem_cons_of_mem _ hx)) hc
      refine ⟨cl, ?_, h2, fun x hx => ?_, h4⟩
      · rw [List.forIn_cons]
        simp only [hb, Bool.false_eq_true, if_false, pure_bind]
        exact h1
      · rcases List.mem_cons.mp hx with z | z
        · exact absurd (Prod.mk.inj z).2.symm hk
        · exact h3 x z
theorem closure_of {env : Env} {scope : Scope} (h : ∀ x, (x, NameKind.free) ∈ scope.names → ∃ c, env.cells.lookup x = some c) :
    ∃ cl, closureFor scope env = pure cl ∧ (∀ x c, cl.lookup x = some c → env.cells.lookup x = some c) ∧ ∀ x, (x, NameKind.free) ∈ scope.names → ∃ c, cl.lookup x = some c := by
  obtain ⟨cl, h1, h2, h3, _⟩ := closure_go env scope.names [] h (fun x c q => by simp at q)
  refine ⟨cl, ?_, h2, h3⟩
  unfold closureFor
  first
    | exact h1
    | (simp only [bind_pure]; exact h1)
    | (simp only [bind_pure_comp, map_pure, id_map']; exact h1)
    | (rw [← h1]; rfl)
end L2

set_option Elab.async false
set_option linter.all false
set_option maxRecDepth 100000
namespace L2
open PySem PySem.Spec PyProof.Rows

noncomputable abbrev cxC (X : Cx) (own : List Str) (js : List Nat) (scope : Scope) (cl : List (Str × Addr)) (C : Addr) (s₂ : Shared) (H₂ : Hp) (fp : List Addr) : Cx :=
  { X with N := selN own js X.N, s₀ := s₂, H₀ := H₂, env := compEnvC scope cl C X.env, outer := X.stack, stack := X.stack, ex := fp, fn := fun _ => false, pn := [], xe := fun _ _ => False }

theorem relabel_lookup {env : Env} {x : Str} {scope : Scope} (hc : ∀ y ∈ scope.names, y.2 ≠ .cell) (h : (relabel scope env).names.lookup x = some .cell ∨ (relabel scope env).names.lookup x = some .free) : (x, NameKind.free) ∈ scope.names := by
  have key : ∀ k, (relabel scope env).names.lookup x = some k → k = .cell ∨ k = .free → (x, NameKind.free) ∈ scope.names := fun k e hk => by
    have hm : (x, k) ∈ scope.names.map fun (n, k) => if (k == .free && env.scope.kind == .function && env.kindOf n == some .cell) then (n, .cell) else (n, k) := PySem.mem_of_lookup e
    obtain ⟨⟨n, k'⟩, hp, hq⟩ := List.mem_map.mp hm
    by_cases hz : (k' == NameKind.free && env.scope.kind == .function && env.kindOf n == some .cell) = true
    · have hkf : k' = .free := by
        have := (Bool.and_eq_true _ _).mp ((Bool.and_eq_true _ _).mp hz).1
        simpa using this.1
      have q : (n, NameKind.cell) = (x, k) := by
        have hq' : (if (k' == NameKind.free && env.scope.kind == .function && env.kindOf n == some .cell) = true then (n, NameKind.cell) else (n, k')) = (x, k) := hq
        rw [if_pos hz] at hq'
        exact hq'
      obtain ⟨rfl, _⟩ := Prod.mk.inj q
      rw [hkf] at hp
      exact hp
    · have q : (n, k') = (x, k) := by
        have hq' : (if (k' == NameKind.free && env.scope.kind == .function && env.kindOf n == some .cell) = true then (n, NameKind.cell) else (n, k')) = (x, k) := hq
        rw [if_neg hz] at hq'
        exact hq'
      obtain ⟨rfl, rfl⟩ := Prod.mk.inj q
      rcases hk with rfl | rfl
      · exact absurd rfl (hc _ hp)
      · exact hp
  rcases h with h | h
  · exact key _ h (.inl rfl)
  · exact key _ h (.inr rfl)

section
variable {X : Cx} {pins : List (Addr × Obj)} {σ : St} {H : Hp} {s2 s5 : Shared} {own : List Str} {js : List Nat} {scope : Scope} {cl : List (Str × Addr)} {C D : Addr} {fp : List Addr} {oD : Obj}
theorem inv_comp (I : Inv X pins σ H s2) (hcap : capB X.N X.env.scope (relabel scope X.env) js = true) (hkind : scope.kind = .function)
    (hclL : ∀ x c, cl.lookup x = some c → X.env.cells.lookup x = some c)
    (hclR : ∀ x, ((relabel scope X.env).names.lookup x = some .cell ∨ (relabel scope X.env).names.lookup x = some .free) → ∃ c, cl.lookup x = some c)
    (hfp : ∀ b ∈ fp, FpOk X pins H b) (hfo : ∀ b ∈ fp, ∃ o, s2.heap.get? b = some o) (hC : s2.heap.objs.size ≤ C) (hk : ∀ b o, s2.heap.get? b = some o → s5.heap.get? b = some o)
    (hns : ∃ m, s5.heap.Ns C m) (hos : s5.os = s2.os) (hg : s5.gens = s2.gens) (hD : s5.heap.get? D = some oD) (hDs : s2.heap.objs.size ≤ D) (hDC : D ≠ C) (hDd : ∀ v, oD.data ≠ .cell v) :
    Inv (cxC X own js scope cl C s2 H fp) [(D, oD)] (selS own.length js σ) H s5 := by
  have lt2 : ∀ {b : Addr} {o : Obj}, s2.heap.get? b = some o → b < s2.heap.objs.size := fun e => Heap.lt_size e
  have hfs : ∀ b ∈ fp, b ∉ frs X.stack := fun b hb z => by
    obtain ⟨_, f1, f2, _⟩ := hfp b hb
    rcases List.mem_cons.mp (I.stkSub b z) with q | q
    · exact f1 q
    · exact f2 q
  have ok : (cxC X own js scope cl C s2 H fp).Ok := by
    refine ⟨I.ok.mod, hkind, I.ok.glob, I.ok.blt, hC, fun x y c h1 h2 => I.ok.inj x y c (hclL x c h1) (hclL y c h2), fun x hx => hclR x hx, fun x c hf _ => absurd (show false = true from hf) Bool.false_ne_true, I.ok.hd, I.ok.frames, .inl rfl,
      fun b hb => ⟨?_, fun x c e => ?_⟩, I.bs, Nat.le_trans I.ok.bsz I.sz, fun b o e hb => ?_, hfs, I.stack, I.stkFree⟩
    · obtain ⟨o, e⟩ := hfo b hb
      exact Nat.ne_of_lt (Nat.lt_of_lt_of_le (lt2 e) hC)
    · exact (hfp b hb).2.2.2.2.1 x c (hclL x c e)
    · rcases (hfp b hb).2.2.2.1 with q | q
      · exact I.ok.noex b o e q
      · exact absurd (Nat.lt_of_lt_of_le (Heap.lt_size e) (Nat.le_trans I.ok.bsz q)) (Nat.lt_irrefl _)
  have hlen : (js.filterMap fun j => X.N[j]?).length = js.length := capB_len hcap
  refine ⟨ok, hos, by rw [hg]; exact I.bare, Un.kept hk, ?_, fun x c e => ?_, I.hok.fresh hC, fun x c e => I.freeC x c (hclL x c e), fun p hp => ?_, I.hok.kept hk, ?_⟩
  · obtain ⟨m, hm⟩ := hns
    refine ⟨m, hm, fun i x v h1 h2 h3 => ?_⟩
    obtain ⟨j, hik, hj, hv⟩ := selS_cap h2
    have h1' : (js.filterMap fun j => X.N[j]?)[i - own.length]? = some x := by
      have q : (own ++ js.filterMap fun j => X.N[j]?)[i]? = some x := h1
      rw [List.getElem?_append_right hik] at q
      exact q
    obtain ⟨j', e1, e2, c1, c2⟩ := capB_at hcap h1'
    rw [hj] at e1
    cases e1
    obtain ⟨m0, hm0, hl⟩ := I.loc
    have vis : Vis X.env.scope x := by
      rcases isCap_or c1 with q | q
      · exact .inr (.inl q)
      · exact .inr (.inr q)
    obtain ⟨u, ru, l⟩ := hl j x v e2 hv vis
    refine ⟨u, ru, ?_⟩
    rcases l with ⟨hloc, _⟩ | ⟨_, c, hc, hcell⟩
    · have q : X.env.scope.names.lookup x = some .local := hloc
      rw [q] at c1
      exact absurd c1 Bool.false_ne_true
    · have kd : (relabel scope X.env).names.lookup x = some .cell ∨ (relabel scope X.env).names.lookup x = some .free := isCap_or c2
      obtain ⟨c', hc'⟩ := hclR x kd
      have e := hclL x c' hc'
      rw [hc] at e
      cases e
      obtain ⟨o, ho, hd⟩ := hcell
      exact .inr ⟨kd, c, hc', o, hk c o ho, hd⟩
  · obtain ⟨v, o, ho, hd⟩ := I.cell x c (hclL x c e)
    exact ⟨v, o, hk c o ho, hd⟩
  · have e : p = (D, oD) := by simpa using hp
    subst e
    refine ⟨hD, I.hok.fresh hDs, hDC, fun z => ?_, hDd⟩
    obtain ⟨_, o, ho, _⟩ := I.stack.mem z
    exact absurd (Nat.lt_of_lt_of_le (lt2 ho) hDs) (Nat.lt_irrefl _)
  · show (selS own.length js σ).length = (own ++ js.filterMap fun j => X.N[j]?).length
    rw [selS_len, List.length_append, hlen]
end

noncomputable def GKeep (k : Nat) (g : TG) : Prop := ∀ (x : V) (σ0 : St) (H : Hp) (Q : St → Hp → Prop), g x σ0 H Q →
  g x σ0 H (fun σ2 H2 => (σ2.length = σ0.length ∧ ∀ (i : Nat) (v : V), k ≤ i → σ0[i]? = some (some v) → σ2[i]? = some (some v)) ∧ Q σ2 H2)
theorem gk_name {k i : Nat} (h : i < k) : GKeep k (gName i) := fun x σ0 H Q q =>
  ⟨⟨List.length_set, fun j v hj e => by rw [List.getElem?_set_ne (by (clear e; omega))]; exact e⟩, q⟩
theorem gk_pair {K : PySem.W.Frag} {k i j : Nat} (hi : i < k) (hj : j < k) : GKeep k (gTup K 2 (gCons (gName i) (gCons (gName j) gNil))) := fun x σ0 H Q q => by
  obtain ⟨a, xs, e1, hq, hl, v, r, e2, v2, r2, e3, e4, q⟩ := q
  refine ⟨a, xs, e1, hq, hl, v, r, e2, v2, r2, e3, e4, ⟨by rw [List.length_set, List.length_set], fun m w hm e => ?_⟩, q⟩
  rw [List.getElem?_set_ne (by (clear e e1 e2 e3 e4 hi hl; omega)), List.getElem?_set_ne (by (clear e e1 e2 e3 e4 hj hl; omega))]
  exact e

noncomputable def CompR (J : It) (σ0 : St) (g : TG) (te : TE) (H1 : Hp) (R : List V → Hp → Prop) : Prop :=
  ∃ (n : Nat) (W : Nat → List V → Hp → Prop), n ≤ sizeLine ∧ W 0 [] H1 ∧
    (∀ i ys H, i < n → ys.length = i → W i ys H → J.go i H ∧ ∀ x H', J.yld i H x H' → g x σ0 H' fun σ2 H2 => te σ2 H2 fun y H3 => W (i + 1) (ys ++ [y]) H3) ∧
    ∀ ys H, ys.length = n → W n ys H → J.stop n H ∧ R ys H
noncomputable def tComp (wi : TI) (k : Nat) (js : List Nat) (g : TG) (te : TE) : TE := fun σ H Q => wi σ H fun J H1 =>
  CompR J (selS k js σ) g te H1 fun ys H2 => ∀ p, H2 p = none → Q (.ref p) (upd H2 p (.lst ys))

theorem app_plain {prog : Program} {w : World} {A : Around} {E : Value → Shared → Prop} {s : Shared} {l : Addr} {its : List Value} {n : Nat} {u : Value} {Q : Value → Shared → Prop}
    (e : s.heap.get? l = some { cls := .type "list", data := .seq its.toArray n }) (hz : its.length ≤ sizeLine)
    (h : ∀ h' n', h'.get? l = some { cls := .type "list", data := .seq (its ++ [u]).toArray n' } → (∀ b o, b ≠ l → s.heap.get? b = some o → h'.get? b = some o) → Q .none { s with heap := h' }) :
    wpAny (model prog w) A (call (.builtin "list.append") [.ref l, u]) Q E s := by
  refine call_meets F.slot_list_append ⟨_, e, rfl⟩ F.entry_list_append (F.args_list_append_2 _ _) (PySem.list_append l its.toArray n u (by rw [List.size_toArray]; (clear e; omega))) ⟨e, ?_⟩
  have q := PySem.IsL.update e (·.push u)
  have q2 : its.toArray.push u = (its ++ [u]).toArray := by simp
  rw [q2] at q
  exact h _ _ q fun b o hb hu => (Heap.get?_update_other s.heap (Obj.mapSeq (·.push u)) (Ne.symm hb)).trans hu

section
variable {X : Cx} {own : List Str} {js : List Nat} {scope : Scope} {elt tg iter : Expr} {g : TG} {te : TE} {pos : Pos}
theorem comp_run {pins : List (Addr × Obj)} {σ : St} {H1 : Hp} {s2 : Shared} {it : Addr} {fp : List Addr} {tn : Nat → Heap → Prop} {J : It} {cl : List (Str × Addr)} {R : List V → Hp → Prop} {RR : Value → Addr → Result → Shared → Prop}
    {E : Value → Shared → Prop} (hc : X.calm = true) (I : Inv X pins σ H1 s2) (T : Turn X.prog X.w X.K tg J fp it tn) (st : tn 0 s2.heap) (hfp : ∀ b ∈ fp, FpOk X pins H1 b)
    (hcap : capB X.N X.env.scope (relabel scope X.env) js = true) (hkind : scope.kind = .function) (hcell : ∀ y ∈ scope.names, y.2 ≠ .cell)
    (hclL : ∀ x c, cl.lookup x = some c → X.env.cells.lookup x = some c)
    (hclR : ∀ x, (x, NameKind.free) ∈ scope.names → ∃ c, cl.lookup x = some c)
    (hg : ∀ C s₂ H₂ fp, PG (cxC X own js scope cl C s₂ H₂ fp) tg g) (hgk : GKeep own.length g) (he : ∀ C s₂ H₂ fp, PE (cxC X own js scope cl C s₂ H₂ fp) elt te)
    (hR : CompR J (selS own.length js σ) g te H1 R)
    (hRR : ∀ D C ys H' s' m, Inv X pins σ (upd H' D (.lst ys)) s' → FpOk X pins (upd H' D (.lst ys)) C → s'.heap.Ns C m → H' D = none → R ys H' → RR (.ref D) C (.ok .next) s') :
    wpAny (model X.prog X.w) X.A (newList []) (fun acc s₃ => wpAny (model X.prog X.w) X.A (newFunctionEnv scope X.env.globals cl [] X.env.qual none .none (some X.env)) (fun cenv s₄ =>
      codeAny (model X.prog X.w) X.A (.compStart (.ListComp elt [⟨tg, iter, [], 0⟩] scope pos) 0 (.ref it) acc { cenv with scope := relabel scope X.env }) (RR acc cenv.locals) s₄) E s₃) E s2 := by
  obtain ⟨n, W, hz, w0, turn, fin⟩ := hR
  refine wpAny_newObj_type (wpAny_newFunctionEnv hcell (by intro y hy; simp at hy) (fun h₁ hns₁ hsb₁ => ?_) hkind)
  dsimp only at hns₁ hsb₁ ⊢
  generalize hH2 : s2.heap.push { cls := .type "list", dict := none, data := .seq ([] : List Value).toArray } = G2 at hns₁ hsb₁ ⊢
  have hC : G2.objs.size = s2.heap.objs.size + 1 := by rw [← hH2, Heap.size_push]
  have hDC : s2.heap.objs.size ≠ G2.objs.size := by rw [hC]; exact Nat.ne_of_lt (Nat.lt_succ_self _)
  have hCle : s2.heap.objs.size ≤ G2.objs.size := by rw [hC]; exact Nat.le_succ _
  have old : ∀ b o, s2.heap.get? b = some o → h₁.get? b = some o := fun b o e =>
    hsb₁.extBut b o (by rw [hC]; exact Nat.ne_of_lt (Nat.lt_succ_of_lt (Heap.lt_size e))) (Heap.get?_push_of_some _ (hH2 ▸ Heap.get?_push_of_some _ e))
  have hacc : h₁.get? s2.heap.objs.size = some { cls := .type "list", dict := none, data := .seq ([] : List Value).toArray } := hsb₁.extBut _ _ hDC (Heap.get?_push_of_some _ (hH2 ▸ Heap.get?_push_size _ rfl))
  have hrel : ∀ x, ((relabel scope X.env).names.lookup x = some .cell ∨ (relabel scope X.env).names.lookup x = some .free) → ∃ c, cl.lookup x = some c := fun x h => hclR x (relabel_lookup hcell h)
  have I0 : Inv (cxC X own js scope cl G2.objs.size s2 H1 fp) [(s2.heap.objs.size, { cls := .type "list", dict := none, data := .seq ([] : List Value).toArray })] (selS own.length js σ) H1
      { s2 with heap := h₁, toks := s2.toks + ([] : List (Str × Value)).length } :=
    inv_comp (s5 := { s2 with heap := h₁, toks := s2.toks + ([] : List (Str × Value)).length }) I hcap hkind hclL hrel hfp (fun b hb => let ⟨o, e, _⟩ := T.obj 0 _ st b hb; ⟨o, e⟩) hCle old ⟨_, hns₁⟩ rfl rfl hacc (Nat.le_refl _) hDC
      (fun v z => by cases (show Data.seq _ _ = Data.cell v from z))
  generalize hXe : cxC X own js scope cl G2.objs.size s2 H1 fp = X' at I0
  have hXP : X'.prog = X.prog := by rw [← hXe]
  have hXw : X'.w = X.w := by rw [← hXe]
  have hXK : X'.K = X.K := by rw [← hXe]
  have hXA : X'.A = X.A := by rw [← hXe]
  have hXc : X'.calm = true := by rw [← hXe]; exact hc
  have hXenv : X'.env = compEnvC scope cl G2.objs.size X.env := by rw [← hXe]
  have hXs : X'.s₀ = s2 := by rw [← hXe]
  have hXex : X'.ex = fp := by rw [← hXe]
  have hXfs : X'.fs = frs X.stack := by rw [← hXe]
  have hXpn : X'.pn = [] := by rw [← hXe]
  have hXe0 : X'.xe = fun _ _ => False := by rw [← hXe]
  have hXcl : X'.env.cells = cl := by rw [hXenv]; rfl
  have hXl : X'.env.locals = G2.objs.size := by rw [hXenv]; rfl
  have ltD : ∀ b ∈ fp, b ≠ s2.heap.objs.size := fun b hb => let ⟨o, e, _⟩ := T.obj 0 _ st b hb; Nat.ne_of_lt (Heap.lt_size e)
  -- what stays true of the iterator's records in the block
  have fpX : ∀ {pl : List (Addr × Obj)} {H' : Hp}, (∀ p ∈ pl, p.1 = s2.heap.objs.size) → (∀ b ∈ fp, H' b = none) → ∀ b ∈ fp, FpOk X' pl H' b := fun {pl H'} hpl hn b hb => by
    refine ⟨hn b hb, ?_, ?_, .inl (by rw [hXex]; exact hb), fun x c e => ?_, fun p hp => ?_⟩
    · obtain ⟨o, e, _⟩ := T.obj 0 _ st b hb
      rw [hXl]
      exact Nat.ne_of_lt (Nat.lt_of_lt_of_le (Heap.lt_size e) hCle)
    · rw [hXfs]
      intro z
      obtain ⟨_, f1, f2, _⟩ := hfp b hb
      exact (List.mem_cons.mp (I.stkSub b z)).elim f1 f2
    · rw [hXcl] at e
      exact (hfp b hb).2.2.2.2.1 x c (hclL x c e)
    · rw [hXpn] at hp
      rw [hpl p (by simpa using hp)]
      exact (ltD b hb).symm
  have dX : ∀ {pl : List (Addr × Obj)} {H' : Hp}, (∀ p ∈ pl, p.1 ∈ fp) → H' s2.heap.objs.size = none → FpOk X' pl H' s2.heap.objs.size := fun {pl H'} hpl hn => by
    refine ⟨hn, by rw [hXl]; exact hDC, ?_, .inr (by rw [hXs]; exact Nat.le_refl _), fun x c e => ?_, fun p hp => ?_⟩
    · rw [hXfs]
      exact fun z => by
        obtain ⟨_, o, ho, _⟩ := I.stack.mem z
        exact absurd (Heap.lt_size ho) (Nat.lt_irrefl _)
    · rw [hXcl] at e
      obtain ⟨v, o, ho, _⟩ := I.cell x c (hclL x c e)
      exact Nat.ne_of_lt (Heap.lt_size ho)
    · rw [hXpn] at hp
      exact ltD p.1 (hpl p (by simpa using hp))
  let obD : List Value → Nat → Obj := fun its k => { cls := .type "list", dict := none, data := .seq its.toArray k }
  have loop : codeAny (model X.prog X.w) X.A (.compLoop (.ListComp elt [⟨tg, iter, [], 0⟩] scope pos) 0 (.ref it) (.ref s2.heap.objs.size) (compEnvC scope cl G2.objs.size X.env))
      (RR (.ref s2.heap.objs.size) G2.objs.size) { s2 with heap := h₁, toks := s2.toks + ([] : List (Str × Value)).length } := by
    refine PySem.W.kcp_loop (fun k s => ∃ i ys its c H, k = n + 1 - i ∧ i ≤ n ∧ ys.length = i ∧ Vals ys its ∧ Inv X' [(s2.heap.objs.size, obD its c)] (selS own.length js σ) H s ∧ tn i s.heap ∧ (∀ b ∈ fp, H b = none) ∧ W i ys H) ?_ (n + 1)
      ⟨0, [], [], 0, H1, rfl, Nat.zero_le _, rfl, .nil, I0, T.keep _ _ _ st (fun b _ o e => old b o e), fun b hb => (hfp b hb).1, w0⟩
    rintro k s ⟨i, ys, its, c, H, rfl, hi, hl, rv, I1, st1, fr1, w1⟩
    have pl1 : ∀ p ∈ [(s2.heap.objs.size, obD its c)], p.1 = s2.heap.objs.size := fun p hp => by rw [show p = _ by simpa using hp]
    by_cases hlt : i < n
    · obtain ⟨go, step⟩ := turn i ys H hlt hl w1
      rw [← hXA]
      refine thn (T.item X' hXP hXw hXK hXc i _ s _ H _ I1 (fpX pl1 fr1) st1 go) fun r s3 ⟨u, hr, h3⟩ => ?_
      subst hr
      refine thn h3 fun _ s4 ⟨x, H4, I4, r4, y4, st4, fr4⟩ => ?_
      have I4' := I4.pinned (fpX pl1 fr4) (T.obj _ _ st4)
      have hgX : PG X' tg g := by rw [← hXe]; exact hg _ _ _ _
      have heX : PE X' elt te := by rw [← hXe]; exact he _ _ _ _
      rw [← hXP, ← hXw, ← hXenv]
      have up : ∀ {α : Type} {t : Sem α} {Q : α → Shared → Prop} {E' : Value → Shared → Prop} {s : Shared}, wpAny (model X'.prog X'.w) X'.A t Q X'.xe s → wpAny (model X'.prog X'.w) X'.A t Q E' s := fun h =>
        wpAny_mono h (fun _ _ q => q) fun _ _ q => by rw [hXe0] at q; exact q.elim
      refine thn (up (hgX _ s4 _ H4 x u _ I4' r4 (hgk _ _ _ _ (step x H4 y4)))) fun _ s5 ⟨σ5, H5, I5, ⟨hl5, hk5⟩, q5⟩ => ?_
      refine thn (up (heX _ s5 σ5 H5 _ I5 q5)) fun y s6 ⟨yv, H6, I6, r6, q6⟩ => ?_
      have eD := I6.pin (s2.heap.objs.size, obD its c) (List.mem_append_right _ (List.mem_append_left _ (List.mem_singleton.mpr rfl)))
      have efp : ∀ b ∈ fp, ∀ o, s4.heap.get? b = some o → s6.heap.get? b = some o ∧ H6 b = none := fun b hb o e =>
        let q := I6.pin (b, o) (List.mem_append_right _ (List.mem_append_right _ (mem_pinsAt hb e)))
        ⟨q.1, q.2.1⟩
      have fr6 : ∀ b ∈ fp, H6 b = none := fun b hb => let ⟨o, e, _⟩ := T.obj _ _ st4 b hb; (efp b hb o e).2
      have st6 : tn (i + 1) s6.heap := T.keep _ _ _ st4 fun b hb o e => (efp b hb o e).1
      have hlen := rv.length
      refine app_plain (n := c) eD.1 (by (clear eD hC hCle hDC hH2 hXA hXK hXP hXc hXcl hXe hXe0 hXenv hXex hXfs hXl hXpn hXs hXw hacc hc hcap hi hkind hl5; omega)) fun h' n' e' k' => ?_
      have I7 : Inv X' [] σ5 H6 s6 := I6.pins_of fun p hp => nomatch hp
      have I8 : Inv X' [] σ5 H6 { s6 with heap := h' } := by
        obtain ⟨f0, f1, _, f3, f4, f5⟩ := dX (pl := []) (H' := H6) (fun p hp => nomatch hp) eD.2.1
        exact I7.turned (t' := s6.toks) k' f0 f1 f3 f4 f5
      have I9 : Inv X' [(s2.heap.objs.size, obD (its ++ [y]) n')] (selS own.length js σ) H6 { s6 with heap := h' } := by
        refine (I8.weak (σ' := selS own.length js σ) hl5.symm fun j v e => ?_).pins_of fun p hp => ?_
        · obtain ⟨_, hj, _⟩ := selS_cap e
          exact hk5 j v hj e
        · have ep : p = (s2.heap.objs.size, obD (its ++ [y]) n') := by simpa using hp
          subst ep
          obtain ⟨f0, f1, f2, _⟩ := dX (pl := []) (H' := H6) (fun p hp => nomatch hp) eD.2.1
          exact ⟨e', f0, f1, f2, fun v z => by cases (show Data.seq _ _ = Data.cell v from z)⟩
      refine ⟨n + 1 - (i + 1), by (clear e' eD hC hCle hDC hH2 hXA hXK hXP hXc hXcl hXe hXe0 hXenv hXex hXfs hXl hXpn hXs hXw hacc hc hcap hi hkind hl5 hz; omega), i + 1, ys ++ [yv], its ++ [y], n', H6, rfl, hlt, by rw [List.length_append, hl]; rfl, rv.append (.cons r6 .nil), I9, ?_, fr6, q6⟩
      exact T.keep _ _ _ st6 fun b hb o e => k' b o (ltD b hb) e
    · have hin : i = n := by (clear hC hCle hDC hH2 hXA hXK hXP hXc hXcl hXe hXe0 hXenv hXex hXfs hXl hXpn hXs hXw hacc hc hcap hkind hz; omega)
      subst hin
      obtain ⟨stop, q⟩ := fin ys H hl w1
      rw [← hXA]
      refine thn (T.done X' hXP hXw hXK hXc i _ s _ H _ I1 (fpX pl1 fr1) st1 stop) fun r s3 ⟨hr, I3⟩ => ?_
      subst hr
      have eD := I3.pin (s2.heap.objs.size, obD its c) (List.mem_append_right _ (List.mem_singleton.mpr rfl))
      have un : Un (frs X.stack) fp H1 H s2.heap s3.heap := by
        have b := I3.base
        rw [hXfs, hXex, hXs] at b
        rw [← hXe] at b
        exact b
      have hok : HOk X.prog X.w H s3.heap := by
        have b := I3.hok
        rw [hXP, hXw] at b
        exact b
      have os : s3.os = s2.os := by rw [I3.os, hXs]
      have IX : Inv X pins σ H s3 := I.call' (ch := fp) os un hok I3.bare fun b hb => by
        obtain ⟨_, f1, _, f3, f4, f5⟩ := hfp b hb
        exact ⟨f3, f1, f4, f5⟩
      have lens := rv.length
      have nD := eD.2.1
      have nC : H G2.objs.size = none := by
        have q := I3.free
        rw [hXl] at q
        exact q
      have fD : FpOk X pins H s2.heap.objs.size := I.fpOk (Nat.le_refl _) nD
      have I4 : Inv X pins σ (upd H s2.heap.objs.size (.lst ys)) s3 := IX.track fD ⟨by (clear eD hC hCle hDC hH2 hXA hXK hXP hXc hXcl hXe hXe0 hXenv hXex hXfs hXl hXpn hXs hXw hacc hc hcap hi hkind hlt nC nD os; omega), its, c, rv, eD.1⟩
      have fC : FpOk X pins (upd H s2.heap.objs.size (.lst ys)) G2.objs.size := I.fpOk hCle (by rw [upd_ne (Ne.symm hDC)]; exact nC)
      obtain ⟨m, hm, _⟩ := I3.loc
      rw [hXl] at hm
      exact hRR _ _ ys H s3 m I4 fC hm nD q
  exact codeAny_compStart_list loop (T.self _ 0 _ _ _ (T.keep _ _ _ st fun b _ o e => old b o e) loop)
end

section
variable {X : Cx} {own : List Str} {js : List Nat} {scope : Scope} {elt tg iter : Expr} {g : TG} {te : TE} {pos : Pos} {wi : TI}
theorem hasFree {pins : List (Addr × Obj)} {σ : St} {H : Hp} {s : Shared} (I : Inv X pins σ H s) (hfree : (scope.names.all fun p => !(p.2 == NameKind.free) || isCap (X.env.scope.names.lookup p.1)) = true) :
    ∀ x, (x, NameKind.free) ∈ scope.names → ∃ c, X.env.cells.lookup x = some c := fun x hx => by
  have q := List.all_eq_true.mp hfree (x, .free) hx
  have q2 : isCap (X.env.scope.names.lookup x) = true := by simpa using q
  exact I.ok.has x (isCap_or q2)
theorem pe_comp (own : List Str) (js : List Nat) (hc : X.calm = true) (hi : PI X tg iter wi) (hg : ∀ cl C s₂ H₂ fp, PG (cxC X own js scope cl C s₂ H₂ fp) tg g) (hgk : GKeep own.length g) (he : ∀ cl C s₂ H₂ fp, PE (cxC X own js scope cl C s₂ H₂ fp) elt te)
    (hcap : capB X.N X.env.scope (relabel scope X.env) js = true := by kernel_rfl) (hfree : (scope.names.all fun p => !(p.2 == NameKind.free) || isCap (X.env.scope.names.lookup p.1)) = true := by kernel_rfl)
    (hkind : scope.kind = .function := by rfl) (hcell : ∀ y ∈ scope.names, y.2 ≠ .cell := by decide +kernel) (hnames : ∀ x ∈ scope.names, x.2 = .local → scope.names.lookup x.1 = some .local := by decide +kernel)
    (hs : ∀ x, foldedSetIterable iter X.env x = pure x := by intro _; rfl) :
    PE X (.ListComp elt [⟨tg, iter, [], 0⟩] scope pos) (tComp wi own.length js g te) := by
  intro pins s σ H Q I h
  obtain ⟨cl, h1, h2, h3⟩ := closure_of (env := X.env) (scope := scope) (hasFree I hfree)
  rw [eval_ListComp]
  refine wpAny_comprehension_free (use := none) rfl hs h1 hkind hnames (thn (hi pins s σ H _ I h) fun v s1 q1 => thn q1 fun itv s2 q2 => ?_)
  obtain ⟨it, fp, tn, J, H1, rfl, I2, T, st, hfp, hR⟩ := q2
  refine comp_run (own := own) (js := js) (RR := fun acc C => compPost (model X.prog X.w) X.A X.xe none (EP X pins σ Q) acc C) hc I2 T st hfp hcap hkind hcell h2 h3 (hg cl) hgk (he cl) hR ?_
  intro D C ys H' s' m I' fC hm hD q
  obtain ⟨f0, f1, _, f3, f4, f5⟩ := fC
  exact ⟨m, hm, fun h' hs' => ⟨.ref D, _, I'.turned (t' := s'.toks) (fun b o hb e => hs'.extBut b o hb e) f0 f1 f3 f4 f5, rfl, q D hD⟩⟩
end

theorem snocF {f : Nat → V} {i : Nat} {y : V} (h : y = f i) : (List.range i).map f ++ [y] = (List.range (i + 1)).map f := by
  rw [List.range_succ, List.map_append, h]
  rfl
theorem comp_by {J : It} {σ0 : St} {g : TG} {te : TE} {H1 : Hp} {R : List V → Hp → Prop} (n : Nat) (f : Nat → V) (hz : n ≤ sizeLine)
    (hgo : ∀ i H, i < n → Same H1 H → J.go i H) (hst : ∀ H, Same H1 H → J.stop n H)
    (ht : ∀ i H x H', i < n → Same H1 H → J.yld i H x H' → g x σ0 H' fun σ2 H2 => te σ2 H2 fun y H3 => (List.range i).map f ++ [y] = (List.range (i + 1)).map f ∧ Same H1 H3)
    (hR : ∀ H, Same H1 H → R ((List.range n).map f) H) : CompR J σ0 g te H1 R := by
  refine ⟨n, fun i ys H => ys = (List.range i).map f ∧ Same H1 H, hz, ⟨rfl, Same.refl _⟩, fun i ys H hi hl w => ⟨hgo i H hi w.2, fun x H' y => ?_⟩, fun ys H hl w => ⟨hst H w.2, ?_⟩⟩
  · obtain ⟨rfl, sm⟩ := w
    exact ht i H x H' hi sm y
  · obtain ⟨rfl, sm⟩ := w
    exact hR H sm
theorem comp_range {lo : Int} {n : Nat} {σ0 : St} {te : TE} {H1 : Hp} {R : List V → Hp → Prop} (f : Nat → V) (hz : n ≤ sizeLine)
    (ht : ∀ i H, i < n → Same H1 H → te (σ0.set 0 (some (.int (lo + i)))) H fun y H3 => (List.range i).map f ++ [y] = (List.range (i + 1)).map f ∧ Same H1 H3)
    (hR : ∀ H, Same H1 H → R ((List.range n).map f) H) : CompR (Itr lo n) σ0 (gName 0) te H1 R :=
  comp_by n f hz (fun i H hi _ => hi) (fun H _ => Nat.le_refl n) (fun i H x H' hi sm y => by
    obtain ⟨e1, e2⟩ := y
    subst e1 e2
    exact ht i _ hi sm) hR
theorem comp_list {K : PySem.W.Frag} {a : Addr} {xs : List V} {σ0 : St} {te : TE} {H1 : Hp} {R : List V → Hp → Prop} (hq : SqL K H1 a xs) (f : Nat → V) (hz : xs.length ≤ sizeLine)
    (ht : ∀ i x H, xs[i]? = some x → Same H1 H → te (σ0.set 0 (some x)) H fun y H3 => (List.range i).map f ++ [y] = (List.range (i + 1)).map f ∧ Same H1 H3)
    (hR : ∀ H, Same H1 H → R ((List.range xs.length).map f) H) : CompR (Itl K a) σ0 (gName 0) te H1 R :=
  comp_by xs.length f hz (fun i H hi sm => ⟨xs, xs[i], sm.seq hq, by simp [hi]⟩) (fun H sm => ⟨xs, sm.seq hq, Nat.le_refl _⟩) (fun i H x H' hi sm y => by
    obtain ⟨e1, e2⟩ := y
    subst e1
    exact ht i x _ (e2 xs (sm.seq hq)) sm) hR
end L2

set_option Elab.async false
set_option linter.all false
set_option maxRecDepth 100000
namespace L2
open PySem PySem.Spec PyProof.Rows

theorem same_new {H : Hp} {p : Addr} (h : H p = none) (o : HO) : Same H (upd H p o) := fun b u q => by
  rw [upd_ne (ne_of_none q h)]
  exact q
noncomputable abbrev gPair (K : PySem.W.Frag) : TG := gTup K 2 (gCons (gName 0) (gCons (gName 1) gNil))
theorem pair_go {K : PySem.W.Frag} {H : Hp} {p : Addr} {a b : V} {σ : St} {Q : St → Hp → Prop} (h : H p = some (.tup [a, b])) (q : Q ((σ.set 0 (some a)).set 1 (some b)) H) : gPair K (.ref p) σ H Q :=
  ⟨p, [a, b], rfl, SqT.of h, rfl, a, [b], rfl, b, [], rfl, rfl, q⟩

section
variable {X : Cx} {pins : List (Addr × Obj)} {σ : St} {H : Hp} {s : Shared}
theorem Inv.pairAt {T : Addr} {a b : V} {u v : Value} (I : Inv X pins σ H s) (f : FpOk X pins H T) (h : s.heap.get? T = some { cls := .type "tuple", data := .seq #[u, v] }) (ra : RelV a u) (rb : RelV b v) :
    Inv X pins σ (upd H T (.tup [a, b])) s :=
  I.track f ⟨by show 2 ≤ sizeLine; decide, [u, v], .cons ra (.cons rb .nil), ⟨_, h, rfl, _, rfl⟩⟩
end

noncomputable def Ite (K : PySem.W.Frag) (a : Addr) : It :=
  ⟨fun i H => ∃ xs x, SqL K H a xs ∧ xs[i]? = some x, fun i H v H' => ∃ p, H p = none ∧ v = .ref p ∧ ∀ xs x, SqL K H a xs → xs[i]? = some x → H' = upd H p (.tup [.int i, x]), fun i H => ∃ xs, SqL K H a xs ∧ xs.length ≤ i⟩
theorem turn_enum {P : Program} {w : World} {K : PySem.W.Frag} {elts : List Expr} {k : Nat} {tp : Pos} (a e it : Addr) (hne : e ≠ it) :
    Turn P w K (.Tuple elts k tp) (Ite K a) [e, it] e (fun i h => (∃ old, IsEnum h e it (i : Nat) old) ∧ h.IsListIter it a i) where
  mem := by simp
  obj := fun i h st b hb => by
    obtain ⟨⟨old, h1⟩, o, h2, _, h3⟩ := st
    rcases List.mem_cons.mp hb with q | q
    · subst q
      exact ⟨_, h1, fun v z => by cases (show Data.fields _ = Data.cell v from z)⟩
    · have q' : b = it := by simpa using q
      subst q'
      exact ⟨o, h2, fun v z => by rw [h3] at z; cases z⟩
  keep := fun i h h' st kk => by
    obtain ⟨⟨old, h1⟩, h2⟩ := st
    exact ⟨⟨old, kk e (by simp) _ h1⟩, h2.at fun o q => kk it (by simp) o q⟩
  item := by
    intro X hP hw hK hc i pins s σ H E I hf st hg
    subst hP hw hK
    obtain ⟨⟨old, h1⟩, h2⟩ := st
    obtain ⟨xs, x, hq, hx⟩ := hg
    obtain ⟨its, rv, p, hz⟩ := I.list hq
    obtain ⟨u, hu, ru⟩ := rv.get hx
    have elt : e < s.heap.objs.size := Heap.lt_size h1
    have ilt : it < s.heap.objs.size := by obtain ⟨_, q, _⟩ := h2; exact Heap.lt_size q
    refine wpAny_pyNext_enum_item h1 h2 p.isList (x := u) (by simpa using hu) hne fun h' ho hit hT hsz kk => ⟨_, rfl, ?_⟩
    have I1 : Inv X pins σ H { s with heap := h', toks := s.toks + 1 } := I.turnedL (ch := [e, it]) (fun b o hb q => kk b o (fun z => hb (by simp [z])) (fun z => hb (by simp [z])) q) hf
    refine wpAny_letOwnedTupleGo_enum ho fun h2' he' hs' => ?_
    have I2 := I1.turnedL (h' := h2') (t' := s.toks + 1) (ch := [e]) (fun b o hb q => hs'.extBut b o (fun z => hb (by simp [z])) q) fun b hb => hf b (by
      rcases List.mem_singleton.mp hb with rfl
      simp)
    have nT : H s.heap.objs.size = none := I.hok.fresh (Nat.le_refl _)
    have I3 := I2.pairAt (T := s.heap.objs.size) (a := .int i) (b := x) (I.fpOk (Nat.le_refl _) nT) (hs'.extBut _ _ (Nat.ne_of_gt elt) hT) ⟨_, rfl⟩ ru
    refine ⟨.ref s.heap.objs.size, _, I3, rfl, ⟨_, nT, rfl, fun ys y hy hyi => ?_⟩, ⟨⟨u, ?_⟩, ?_⟩, fun b hb => ?_⟩
    · have e1 := I.list_inj hy hq
      subst e1
      rw [hx] at hyi
      cases hyi
      rfl
    · have ec : ((i + 1 : Nat) : Int) = (i : Int) + 1 := by (clear elt h1 hT hc he' hne ho hsz hu hx hz ilt nT; omega)
      rw [ec]
      exact he'
    · exact hit.at fun o q => hs'.extBut it o (Ne.symm hne) q
    · rw [upd_ne ?_]
      · exact (hf b hb).1
      · rcases List.mem_cons.mp hb with q | q
        · rw [q]
          exact Nat.ne_of_lt elt
        · rw [show b = it by simpa using q]
          exact Nat.ne_of_lt ilt
  done := by
    intro X hP hw hK hc i pins s σ H E I hf st hg
    subst hP hw hK
    obtain ⟨⟨old, h1⟩, h2⟩ := st
    obtain ⟨xs, hq, hx⟩ := hg
    obtain ⟨its, rv, p, hz⟩ := I.list hq
    have hl := rv.length
    refine wpAny_pyNext_enum_end (I.ok.hd hc) h1 h2 p.isList (by simp; (clear h1 hc hne hz; omega)) fun h' eb => ⟨rfl, ?_⟩
    exact I.turnedL (t' := s.toks) (ch := [e, it]) (fun b o hb q => eb b o (fun z => hb (by simp [z])) q) hf
  self := fun _ _ _ _ _ st h => by
    obtain ⟨⟨old, h1⟩, _⟩ := st
    exact wpAny_pyIter_enum h1 h

section
variable {X : Cx} {elts : List Expr} {k : Nat} {tp : Pos}
noncomputable def iEnum (K : PySem.W.Frag) (ta : TA) : TI := fun σ H R => ta σ H fun vs H1 => ∃ a, vs = [.ref a] ∧ (∃ xs, Rd H1 a (.lst xs)) ∧ R (Ite K a) H1
theorem pi_enum {e : Expr} {ta : TA} {p pos : Pos} (hg : Gl X "enumerate") (hm : X.mg "enumerate" = none) (ha : PA X [e] ta) (hs : starEach [e] X.env = [(false, eval e X.env)] := by rfl) :
    PI X (.Tuple elts k tp) (.Call (.Name "enumerate" p) [e] [] pos) (iEnum X.K ta) := by
  intro pins s σ H R I h
  refine Call_ (ld_blt I hg hm (by decide +kernel : bootBuiltins "enumerate" = some (.type "enumerate")) (PyProof.Rows.callWith_type1 (thn (ha pos pins s σ H _ I h) fun us s1 ⟨vs, H1, I1, r1, q1⟩ => ?_) hs rfl))
  obtain ⟨a, e1, ⟨xs, hr⟩, q⟩ := q1
  subst e1
  obtain ⟨u, rfl, ru⟩ := vals1 r1
  cases ru
  obtain ⟨z, its, n, rv, ho⟩ := hr.ok I1.hok
  refine call_enumerate_1 ho fun h' he hit hsz kk => ?_
  refine wpAny_pyIter_enum he ?_
  have I2 : Inv X pins σ H1 { s1 with heap := h' } := I1.kept (t' := s1.toks) kk
  refine ⟨s1.heap.objs.size + 1, [s1.heap.objs.size + 1, s1.heap.objs.size], _, _, H1, rfl, I2, turn_enum a _ _ (Nat.ne_of_gt (Nat.lt_succ_self _)), ⟨⟨.none, he⟩, hit⟩, fun b hb => ?_, q⟩
  rcases List.mem_cons.mp hb with z1 | z1
  · rw [z1]
    exact I1.fpOk (Nat.le_succ _) (I1.hok.fresh (Nat.le_succ _))
  · rw [show b = s1.heap.objs.size by simpa using z1]
    exact I1.fpOk (Nat.le_refl _) (I1.hok.fresh (Nat.le_refl _))
end
theorem comp_enum {K : PySem.W.Frag} {a : Addr} {xs : List V} {σ0 : St} {te : TE} {H1 : Hp} {R : List V → Hp → Prop} (hq : SqL K H1 a xs) (f : Nat → V) (hz : xs.length ≤ sizeLine)
    (ht : ∀ (i : Nat) x H, xs[i]? = some x → Same H1 H → te ((σ0.set 0 (some (.int (i : Int)))).set 1 (some x)) H fun y H3 => (List.range i).map f ++ [y] = (List.range (i + 1)).map f ∧ Same H1 H3)
    (hR : ∀ H, Same H1 H → R ((List.range xs.length).map f) H) : CompR (Ite K a) σ0 (gPair K) te H1 R :=
  comp_by xs.length f hz (fun i H hi sm => ⟨xs, xs[i], sm.seq hq, by simp [hi]⟩) (fun H sm => ⟨xs, sm.seq hq, Nat.le_refl _⟩) (fun i H x H' hi sm y => by
    obtain ⟨p, hp, e1, e2⟩ := y
    have hx : xs[i]? = some xs[i] := by simp [hi]
    have e3 := e2 xs _ (sm.seq hq) hx
    subst e1 e3
    exact pair_go upd_same (ht i _ _ hx (sm.trans (same_new hp _)))) hR
theorem for_enum {K : PySem.W.Frag} {a : Addr} {xs : List V} {tb : TS} {D : Ends} {σ : St} {H : Hp} {g : TG} (Pv : Nat → St → Hp → Prop) (h0 : Pv 0 σ H) (hl : ∀ i σ H, i ≤ xs.length → Pv i σ H → SqL K H a xs)
    (hs : ∀ (i : Nat) x σ H p, xs[i]? = some x → Pv i σ H → H p = none → g (.ref p) σ (upd H p (.tup [.int (i : Int), x])) fun σ2 H2 => tb { D with nx := Pv (i + 1), ct := Pv (i + 1), bk := D.nx } σ2 H2) (hd : ∀ σ H, Pv xs.length σ H → D.nx σ H) :
    ∃ W : Nat → Nat → St → Hp → Prop, (∃ m, W 0 m σ H) ∧ ∀ i m σ H, W i m σ H →
      ((Ite K a).stop i H ∧ D.nx σ H) ∨ ((Ite K a).go i H ∧ ∃ N : St → Hp → Prop, (∀ σ' H', N σ' H' → ∃ m', m' < m ∧ W (i + 1) m' σ' H') ∧ ∀ x H', (Ite K a).yld i H x H' → g x σ H' fun σ2 H2 => tb { D with nx := N, ct := N, bk := D.nx } σ2 H2) := by
  refine ⟨fun i m σ H => m = xs.length - i ∧ i ≤ xs.length ∧ Pv i σ H, ⟨xs.length, by simp, Nat.zero_le _, h0⟩, ?_⟩
  rintro i m σ H ⟨rfl, hi, p⟩
  have q := hl i σ H hi p
  by_cases hlt : i < xs.length
  · have hx : xs[i]? = some xs[i] := by simp [hlt]
    refine .inr ⟨⟨xs, xs[i], q, hx⟩, Pv (i + 1), fun σ' H' p' => ⟨xs.length - (i + 1), by (clear hi hx; omega), rfl, hlt, p'⟩, fun x H' y => ?_⟩
    obtain ⟨p', hp, e1, e2⟩ := y
    have e3 := e2 xs _ q hx
    subst e1 e3
    exact hs i _ σ H p' hx p hp
  · have e : i = xs.length := by omega
    subst e
    exact .inl ⟨⟨xs, q, Nat.le_refl _⟩, hd σ H p⟩

theorem rev_get {α : Type} {xs : List α} {i : Nat} {x : α} (h : xs.reverse[i]? = some x) : i < xs.length ∧ xs[xs.length - 1 - i]? = some x := by
  have hi : i < xs.reverse.length := (List.getElem?_eq_some_iff.mp h).1
  rw [List.length_reverse] at hi
  refine ⟨hi, ?_⟩
  rw [List.getElem?_reverse hi] at h
  exact h
section
variable {X : Cx} {x : Str} {xp : Pos}
end
end L2

set_option Elab.async false
set_option linter.all false
set_option maxRecDepth 100000
namespace L2
open PySem PySem.Spec PyProof.Rows

section
variable {X : Cx}
theorem call_sum (hc : X.calm = true) : CallR X (.builtin "sum") (fun xs H Q => ∃ (p : Addr) (ns : List Int), xs = [.ref p] ∧ SqL X.K H p (ns.map V.int) ∧ Q (.int (List.sum ns)) H) := by
  intro pins s σ H xs us Q I r h
  obtain ⟨p, ns, rfl, hq, q⟩ := h
  obtain ⟨u, rfl, rx⟩ := vals1 r
  cases rx
  obtain ⟨its, rv, pl, hz⟩ := I.list hq
  have hi : IntsAre its ns := intsAre_of rv
  obtain ⟨ys, hx⟩ := hi.allInts.items
  have hl' : s.heap.IsList p (intItems ys) := hx ▸ pl.isList
  refine sum_intListG (I.ok.hd hc) hl' fun h' tk t' hk => ⟨.int ns.sum, H, I.kept hk, ⟨t', ?_⟩, q⟩
  have e1 : ns = ys.toList.map (·.1) := by
    rw [← nums_intItems, ← hx]
    exact (show numsOf its.toArray.toList = ns from hi.numsOf).symm
  rw [preSum_eq, List.take_of_length_le (by simp), e1]
theorem bools_of {bs : List Bool} : ∀ {us : List Value}, Vals (bs.map V.bl) us → LSm.BoolsAre us bs := by
  induction bs with
  | nil => intro us r; rw [List.map_nil] at r; cases r; exact .nil
  | cons b bs ih =>
    intro us r
    rw [List.map_cons] at r
    cases r with
    | cons r1 r2 =>
      cases (show _ = Value.bool b from r1)
      exact .cons b (ih r2)
theorem call_all (hc : X.calm = true) : CallR X (.builtin "all") (fun xs H Q => ∃ (p : Addr) (bs : List Bool), xs = [.ref p] ∧ SqL X.K H p (bs.map V.bl) ∧ Q (.bl (bs.all id)) H) := by
  intro pins s σ H xs us Q I r h
  obtain ⟨p, bs, rfl, hq, q⟩ := h
  obtain ⟨u, rfl, rx⟩ := vals1 r
  cases rx
  obtain ⟨its, rv, pl, hz⟩ := I.list hq
  have hb := bools_of rv
  have hl := pl.isList
  have hlt : p < s.heap.objs.size := by obtain ⟨_, e, _⟩ := hl; exact Heap.lt_size e
  refine call_all_walk (wpAny_pyIter_list hl ⟨s.heap.objs.size, [s.heap.objs.size, p], [s.heap.objs.size], its.toArray.size, _, _, fun i => (bs[i]?).getD true, rfl,
    Walks.list (A := X.A.in1) (I.ok.hd hc) _ p (Nat.ne_of_lt hlt) its.toArray, ⟨⟨_, Heap.get?_push_size _ rfl, rfl, rfl⟩, hl.push _⟩, fun i v s' Q' E' hP hQ => ?_, fun h' tk hk => ?_⟩)
  · obtain ⟨b, e, rfl⟩ := hb.get i v (by simpa using hP)
    simp only [e, Option.getD_some] at hQ
    exact wpAny_truthy_bool hQ
  · refine ⟨.bl (bs.all id), H, I.kept (LSm.kept_iter hk), ?_, q⟩
    show Value.bool _ = Value.bool _
    rw [List.size_toArray, hb.length, LSm.range_all]
theorem call_any (hc : X.calm = true) : CallR X (.builtin "any") (fun xs H Q => ∃ (p : Addr) (bs : List Bool), xs = [.ref p] ∧ SqL X.K H p (bs.map V.bl) ∧ Q (.bl (bs.any id)) H) := by
  intro pins s σ H xs us Q I r h
  obtain ⟨p, bs, rfl, hq, q⟩ := h
  obtain ⟨u, rfl, rx⟩ := vals1 r
  cases rx
  obtain ⟨its, rv, pl, hz⟩ := I.list hq
  have hb := bools_of rv
  have hl := pl.isList
  have hlt : p < s.heap.objs.size := by obtain ⟨_, e, _⟩ := hl; exact Heap.lt_size e
  refine call_any_walk (wpAny_pyIter_list hl ⟨s.heap.objs.size, [s.heap.objs.size, p], [s.heap.objs.size], its.toArray.size, _, _, fun i => (bs[i]?).getD false, rfl,
    Walks.list (A := X.A.in1) (I.ok.hd hc) _ p (Nat.ne_of_lt hlt) its.toArray, ⟨⟨_, Heap.get?_push_size _ rfl, rfl, rfl⟩, hl.push _⟩, fun i v s' Q' E' hP hQ => ?_, fun h' tk hk => ?_⟩)
  · obtain ⟨b, e, rfl⟩ := hb.get i v (by simpa using hP)
    simp only [e, Option.getD_some] at hQ
    exact wpAny_truthy_bool hQ
  · refine ⟨.bl (bs.any id), H, I.kept (LSm.kept_iter hk), ?_, q⟩
    show Value.bool _ = Value.bool _
    rw [List.size_toArray, hb.length, LSm.range_any]

theorem call_isi : CallR X (.builtin "isinstance") (fun xs H Q => ∃ x T t b, xs = [x, .ty T] ∧ TyOf X.K H x t ∧ PySem.W.kitOne X.K t (.type T) = some b ∧ Q (.bl b) H) := by
  intro pins s σ H xs us Q I r h
  obtain ⟨x, T, t, b, rfl, ty, e, q⟩ := h
  obtain ⟨u, w', rfl, rx, ry⟩ := vals2 r
  cases (show w' = Value.type T from ry)
  exact isinst_ok I rx ty e fun tk => ⟨.bl b, H, I.tok tk, rfl, q⟩
theorem pe_ty {x : Str} {T : String} {pos : Pos} (hg : Gl X x) (hm : X.mg x = none) (hv : bootBuiltins x = some (.type T)) (hn : x ≠ "__name__" := by decide) (hd : (x == ("__debug__" : Str)) = false := by decide) :
    PE X (.Name x pos) (tC (.ty T)) := pe_bltn hg hm hv rfl hn hd

theorem op_isnotB : OpR X (compareOp .IsNot) (fun x y H Q => ∃ a b, x = .bl a ∧ y = .bl b ∧ Q (.bl (a != b)) H) := by
  intro pins s σ H x y v u Q I rx ry h
  obtain ⟨a, b, rfl, rfl, q⟩ := h
  cases rx
  cases ry
  exact isnot_bool ⟨.bl _, H, I, rfl, q⟩

theorem op_eqL (hu : X.A.units + 64 < cLine) : OpR X (compareOp .Eq) (fun x y H Q => ∃ (a b : Addr) (ns ms : List Int), x = .ref a ∧ y = .ref b ∧ SqL X.K H a (ns.map V.int) ∧ SqL X.K H b (ms.map V.int) ∧ Q (.bl (decide (ns = ms))) H) := by
  intro pins s σ H x y v u Q I rx ry h
  obtain ⟨a, b, ns, ms, rfl, rfl, ha, hb, q⟩ := h
  cases rx
  cases ry
  obtain ⟨its, r1, p1, _⟩ := I.list ha
  obtain ⟨its2, r2, p2, _⟩ := I.list hb
  exact PySem.W.ke_eq_ints p1.isList p2.isList (intsAre_of r1) (intsAre_of r2) hu ⟨.bl _, H, I, rfl, q⟩
theorem op_neL (hu : X.A.units + 64 < cLine) : OpR X (compareOp .NotEq) (fun x y H Q => ∃ (a b : Addr) (ns ms : List Int), x = .ref a ∧ y = .ref b ∧ SqL X.K H a (ns.map V.int) ∧ SqL X.K H b (ms.map V.int) ∧ Q (.bl (!decide (ns = ms))) H) := by
  intro pins s σ H x y v u Q I rx ry h
  obtain ⟨a, b, ns, ms, rfl, rfl, ha, hb, q⟩ := h
  cases rx
  cases ry
  obtain ⟨its, r1, p1, _⟩ := I.list ha
  obtain ⟨its2, r2, p2, _⟩ := I.list hb
  exact PySem.W.ke_ne_ints p1.isList p2.isList (intsAre_of r1) (intsAre_of r2) hu ⟨.bl _, H, I, rfl, q⟩
variable {tg : Expr}
end
end L2

set_option Elab.async false
set_option linter.all false
set_option maxRecDepth 100000
namespace L2
open PySem PySem.Spec PyProof.Rows

section
variable {prog : Program} {w : World} {A : Around} {E : Value → Shared → Prop} {s : Shared}
theorem nextOf_rev {it l : Addr} {i : Nat} {items : Array Value} {x : Value} {Q : Value → Shared → Prop} (hit : s.heap.IsRevIter it l (i : Int)) (hl : s.heap.IsList l items) (hx : items[i]? = some x)
    (hQ : ∀ h', h'.IsRevIter it l ((i : Int) - 1) → Heap.SameBut it s.heap h' → Q x { s with heap := h' }) : wpAny (model prog w) A (Builtin.SmallTypes.nextOf (.ref it)) Q E s := by
  obtain ⟨ob, hob, hcl, hda⟩ := id hit
  obtain ⟨ol, hol, _, nl, hdl⟩ := hl
  unfold Builtin.SmallTypes.nextOf
  refine wpAny_bind (wpAny_callSpecial?_slot (name := Str.ofString "__next__") hit.typeIs F.slot_lri_next (wpAny_call_entry F.slot_lri_next hit.typeIs F.entry_lri_next ?_ (F.args_lri_next_1 _)))
  unfold Builtin.«list_reverseiterator.__next__»
  refine wpAny_bind (wpAny_of_eq (a := (Value.ref it, [])) rfl ?_)
  try dsimp only
  refine wpAny_bind (wpAny_field hob hda (x := rawInt (i : Int)) rfl ?_)
  show wpAny _ _ (if (i : Int) < 0 then _ else _) _ _ s
  rw [if_neg (by (clear hcl hda hdl hob hol hx; omega))]
  show wpAny _ _ (field (.ref it) 0 >>= _) _ _ s
  refine wpAny_bind (wpAny_field hob hda (x := .ref l) rfl ?_)
  show wpAny _ _ (seqItems? (.ref l) >>= _) _ _ s
  refine wpAny_bind (wpAny_seqItems hol hdl ?_)
  simp only [Int.toNat_natCast, hx]
  refine wpAny_bind (wpAny_setField hob hda (by simp) ?_)
  first
  | refine wpAny_pure ⟨x, rfl, wpAny_pure (hQ _ ?_ (Heap.SameBut.update ..))⟩
  | refine wpAny_bind (wpAny_pure (wpAny_pure ⟨x, rfl, wpAny_pure (hQ _ ?_ (Heap.SameBut.update ..))⟩))
  exact ⟨_, Heap.get?_update_self _ hob (Obj.isFreed_of_fields (Obj.data_mapFields hda _)), (Obj.cls_mapFields ..).trans hcl, by rw [Obj.data_mapFields hda]; simp⟩
theorem nextOf_rev_end {it l : Addr} {Q : Value → Shared → Prop} (hh : A.handled = none) (hit : s.heap.IsRevIter it l (-1))
    (hE : ∀ h' e, Heap.ExtBut it s.heap h' → (∃ o, h'.get? e = some o ∧ o.cls = .type "StopIteration") → E (.ref e) { s with heap := h' }) : wpAny (model prog w) A (Builtin.SmallTypes.nextOf (.ref it)) Q E s := by
  obtain ⟨ob, hob, hcl, hda⟩ := id hit
  unfold Builtin.SmallTypes.nextOf
  refine wpAny_bind (wpAny_callSpecial?_slot (name := Str.ofString "__next__") hit.typeIs F.slot_lri_next (wpAny_call_entry F.slot_lri_next hit.typeIs F.entry_lri_next ?_ (F.args_lri_next_1 _)))
  unfold Builtin.«list_reverseiterator.__next__»
  refine wpAny_bind (wpAny_of_eq (a := (Value.ref it, [])) rfl ?_)
  try dsimp only
  refine wpAny_bind (wpAny_field hob hda (x := rawInt (-1)) rfl ?_)
  show wpAny _ _ (if (-1 : Int) < 0 then _ else _) _ _ s
  rw [if_pos (by decide)]
  refine wpAny_bind (wpAny_rule ?_)
  first
  | show wpAny _ _ (newExc (.type "StopIteration") [] >>= _) _ _ _
  | (refine wpAny_bind ?_; show wpAny _ _ (newExc (.type "StopIteration") [] >>= _) _ _ _)
  refine wpAny_bind ?_
  simp only [newExc, newTuple]
  refine wpAny_bind (wpAny_newObj_type ?_ (by size_fits))
  refine wpAny_bind (m := firstArgMember _ _) (wpAny_of_eq (a := Value.none) (by first | rfl | (simp only [firstArgMember]; rfl)) ?_)
  refine wpAny_newObj_type ?_ (by size_fits)
  simp only [raiseNew]
  refine wpAny_bind (wpAny_handled ?_)
  first | rw [show A.in1.handled = none from hh] | rw [hh]
  refine wpAny_bind (wpAny_pure (wpAny_throw ?_))
  exact hE _ _ (((Heap.ExtBut.refl _ _).push _).push _) ⟨_, Heap.get?_push_size _ rfl, rfl⟩
end

structure ZA (z TI TO i1 i2 : Addr) : Prop where
  TIz : TI ≠ z
  TOz : TO ≠ z
  i1z : i1 ≠ z
  i2z : i2 ≠ z
  TITO : TI ≠ TO
  TIi1 : TI ≠ i1
  TIi2 : TI ≠ i2
  TOi1 : TO ≠ i1
  TOi2 : TO ≠ i2
  i12 : i1 ≠ i2
structure ZL (z TO i1 i2 l : Addr) : Prop where
  z : l ≠ z
  TO : l ≠ TO
  i1 : l ≠ i1
  i2 : l ≠ i2
section
variable {prog : Program} {w : World} {A : Around} {E : Value → Shared → Prop} {s : Shared}
theorem zr_item {z TI TO i1 i2 l1 l2 : Addr} {k1 k2 : Nat} {xs ys : Array Value} {x y a b : Value} {Q : Option Value → Shared → Prop} (D : ZA z TI TO i1 i2) (L1 : ZL z TO i1 i2 l1) (L2 : ZL z TO i1 i2 l2)
    (hz : IsZip s.heap z TI TO .none) (hTI : IsPair s.heap TI (.ref i1) (.ref i2)) (hTO : IsPair s.heap TO a b)
    (h1 : s.heap.IsRevIter i1 l1 (k1 : Int)) (h2 : s.heap.IsListIter i2 l2 k2) (hl1 : s.heap.IsList l1 xs) (hl2 : s.heap.IsList l2 ys) (hx : xs[k1]? = some x) (hy : ys[k2]? = some y)
    (hQ : ∀ h', IsZip h' z TI TO (rawInt s.heap.objs.size) → IsPair h' TO x y → h'.IsRevIter i1 l1 ((k1 : Int) - 1) → h'.IsListIter i2 l2 (k2 + 1) → IsPair h' s.heap.objs.size x y → h'.objs.size = s.heap.objs.size + 1 →
      (∀ c o, c ≠ z → c ≠ TO → c ≠ i1 → c ≠ i2 → s.heap.get? c = some o → h'.get? c = some o) → Q (some (.ref s.heap.objs.size)) { s with heap := h' }) :
    wpAny (model prog w) A (pyNext (.ref z)) Q E s := by
  have hT : s.TypeIs (.ref z) "zip" := ⟨_, hz, rfl⟩
  unfold pyNext
  refine wpAny_bind (wpAny_attempt (wpAny_callSpecial?_slot (name := Str.ofString "__next__") hT F.slot_zip_next (wpAny_call_entry F.slot_zip_next hT F.entry_zip_next ?_ (F.args_zip_next_1 _))))
  show wpAny _ _ (field (.ref z) 2 >>= _) _ _ _
  refine wpAny_bind (wpAny_field hz rfl (x := .bool false) rfl ?_)
  show wpAny _ _ (field (.ref z) 3 >>= _) _ _ _
  refine wpAny_bind (wpAny_field hz rfl (x := .ref TI) rfl ?_)
  refine wpAny_bind (wpAny_seqItems hTI rfl ?_)
  show wpAny _ _ (Builtin.SmallTypes.ownedTupleIsFree (.ref z) >>= _) _ _ _
  refine wpAny_bind ?_
  unfold Builtin.SmallTypes.ownedTupleIsFree
  refine wpAny_bind (wpAny_field hz rfl (x := .none) rfl (wpAny_pure ?_))
  simp only [if_true]
  refine wpAny_bind (wpAny_rule ?_)
  refine wpAny_bind (wpAny_field hz rfl (x := .ref TO) rfl ?_)
  refine wpAny_bind (wpAny_setField_rec hz (by simp) fun g1 hz1 sb1 => ?_)
  replace hz1 : IsZip g1 z TI TO .ellipsis := hz1
  refine wpAny_bind ?_
  simp only [List.zipIdx_cons, List.zipIdx_nil, List.forIn_cons, List.forIn_nil]
  refine wpAny_bind (wpAny_bind (wpAny_onRaise ?_))
  show wpAny _ _ (Builtin.SmallTypes.nextOf (.ref i1) >>= _) _ _ _
  refine wpAny_bind (nextOf_rev (h1.at fun o e => sb1.extBut _ o D.i1z e) (hl1.extBut sb1.extBut L1.z) hx fun g2 r2 sb2 => wpAny_pure ?_)
  have to2 : IsPair g2 TO a b := sb2.extBut _ _ D.TOi1 (sb1.extBut _ _ D.TOz hTO)
  refine wpAny_bind (wpAny_seqItems to2 rfl ?_)
  refine wpAny_bind (wpAny_updateSeq_pair to2 fun g3 to3 sb3 => ?_)
  replace to3 : IsPair g3 TO x b := to3
  refine wpAny_bind (wpAny_letGo (wpAny_pure ?_))
  refine wpAny_bind (wpAny_bind (wpAny_onRaise ?_))
  show wpAny _ _ (Builtin.SmallTypes.nextOf (.ref i2) >>= _) _ _ _
  refine wpAny_bind (wpAny_nextOf_list_item (((h2.extBut sb1.extBut D.i2z).extBut sb2.extBut D.i12.symm).extBut sb3.extBut D.TOi2.symm)
    (((hl2.extBut sb1.extBut L2.z).extBut sb2.extBut L2.i1).extBut sb3.extBut L2.TO) hy fun g4 r4 sb4 => wpAny_pure ?_)
  have to4 : IsPair g4 TO x b := sb4.extBut _ _ D.TOi2 to3
  refine wpAny_bind (wpAny_seqItems to4 rfl ?_)
  refine wpAny_bind (wpAny_updateSeq_pair to4 fun g5 to5 sb5 => ?_)
  replace to5 : IsPair g5 TO x y := to5
  refine wpAny_bind (wpAny_letGo (wpAny_pure (wpAny_pure ?_)))
  refine wpAny_bind (wpAny_seqItems to5 rfl ?_)
  refine wpAny_bind (wpAny_newTuple ?_)
  have hsz : g5.objs.size = s.heap.objs.size := by rw [sb5.1, sb4.1, sb3.1, sb2.1, sb1.1]
  have z5 : IsZip g5 z TI TO .ellipsis := sb5.extBut _ _ D.TOz.symm (sb4.extBut _ _ D.i2z.symm (sb3.extBut _ _ D.TOz.symm (sb2.extBut _ _ D.i1z.symm hz1)))
  have k5 : ∀ c o, c ≠ z → c ≠ TO → c ≠ i1 → c ≠ i2 → s.heap.get? c = some o → g5.get? c = some o := fun c o c1 c2 c3 c4 e =>
    sb5.extBut _ _ c2 (sb4.extBut _ _ c4 (sb3.extBut _ _ c2 (sb2.extBut _ _ c3 (sb1.extBut _ _ c1 e))))
  have r5 : g5.IsRevIter i1 l1 ((k1 : Int) - 1) := r2.at fun o e => sb5.extBut _ o D.TOi1.symm (sb4.extBut _ o D.i12 (sb3.extBut _ o D.TOi1.symm e))
  have q5 : g5.IsListIter i2 l2 (k2 + 1) := r4.extBut sb5.extBut D.TOi2.symm
  have hzlt : z < g5.objs.size := Heap.lt_size z5
  show wpAny _ _ (Builtin.SmallTypes.ownedTupleHandOut (.ref z) (.ref g5.objs.size) >>= _) _ _ _
  refine wpAny_bind ?_
  unfold Builtin.SmallTypes.ownedTupleHandOut
  have z6 : IsZip (g5.push { cls := .type "tuple", data := .seq #[x, y] }) z TI TO .ellipsis := Heap.get?_push_of_some _ z5
  refine wpAny_bind (wpAny_setField_rec z6 (by simp) fun g7 z7 sb7 => ?_)
  replace z7 : IsZip g7 z TI TO (rawInt g5.objs.size) := z7
  refine wpAny_setField_rec z7 (by simp) fun g8 z8 sb8 => ?_
  replace z8 : IsZip g8 z TI TO (rawInt g5.objs.size) := z8
  have up : ∀ c o, c ≠ z → g5.get? c = some o → g8.get? c = some o := fun c o c1 e => sb8.extBut _ _ c1 (sb7.extBut _ _ c1 (Heap.get?_push_of_some _ e))
  have t8 : IsPair g8 g5.objs.size x y := sb8.extBut _ _ (Nat.ne_of_gt hzlt) (sb7.extBut _ _ (Nat.ne_of_gt hzlt) (Heap.get?_push_size _ rfl))
  have n8 : g8.objs.size = g5.objs.size + 1 := by rw [sb8.1, sb7.1, Heap.size_push]
  rw [hsz] at z8 t8 n8
  refine wpAny_pure ⟨_, rfl, ?_⟩
  refine wpAny_pure ?_
  show Q (some (.ref g5.objs.size)) _
  rw [hsz]
  exact hQ g8 z8 (up _ _ D.TOz to5) (r5.at fun o e => up _ o D.i1z e) (q5.at fun o e => up _ o D.i2z e) t8 n8 fun c o c1 c2 c3 c4 e => up c o c1 (k5 c o c1 c2 c3 c4 e)
theorem zr_end {z TI TO i1 i2 l1 l2 : Addr} {k1 : Int} {k2 : Nat} {xs ys : Array Value} {a b : Value} {Q : Option Value → Shared → Prop} (hh : A.handled = none) (D : ZA z TI TO i1 i2) (L1 : ZL z TO i1 i2 l1) (L2 : ZL z TO i1 i2 l2)
    (hz : IsZip s.heap z TI TO .none) (hTI : IsPair s.heap TI (.ref i1) (.ref i2)) (hTO : IsPair s.heap TO a b)
    (h1 : s.heap.IsRevIter i1 l1 k1) (h2 : s.heap.IsListIter i2 l2 k2) (hl1 : s.heap.IsList l1 xs) (hl2 : s.heap.IsList l2 ys) (hend : k1 = -1 ∨ (∃ (j : Nat) (x : Value), k1 = (j : Int) ∧ xs[j]? = some x) ∧ ys[k2]? = none)
    (hQ : ∀ h', (∀ c o, c ≠ z → c ≠ TO → c ≠ i1 → c ≠ i2 → s.heap.get? c = some o → h'.get? c = some o) → Q none { s with heap := h' }) :
    wpAny (model prog w) A (pyNext (.ref z)) Q E s := by
  have hT : s.TypeIs (.ref z) "zip" := ⟨_, hz, rfl⟩
  have stop : ∀ (h' : Heap) (e : Addr), (∀ c o, c ≠ z → c ≠ TO → c ≠ i1 → c ≠ i2 → s.heap.get? c = some o → h'.get? c = some o) → (∃ o, h'.get? e = some o ∧ o.cls = .type "StopIteration") →
      wpAny (model prog w) A (do let c ← isInstance (.ref e) (.type "StopIteration"); if c = true then pure none else throw (.ref e) : Sem (Option Value)) Q E { s with heap := h' } := fun h' e hk he => by
    obtain ⟨o, ho, hc⟩ := he
    refine wpAny_bind (wpAny_isInstance (T := "StopIteration") (b := true) ⟨o, ho, hc⟩ isSubtype_stop ?_)
    exact wpAny_pure (hQ _ hk)
  unfold pyNext
  refine wpAny_bind (wpAny_attempt (wpAny_callSpecial?_slot (name := Str.ofString "__next__") hT F.slot_zip_next (wpAny_call_entry F.slot_zip_next hT F.entry_zip_next ?_ (F.args_zip_next_1 _))))
  show wpAny _ _ (field (.ref z) 2 >>= _) _ _ _
  refine wpAny_bind (wpAny_field hz rfl (x := .bool false) rfl ?_)
  show wpAny _ _ (field (.ref z) 3 >>= _) _ _ _
  refine wpAny_bind (wpAny_field hz rfl (x := .ref TI) rfl ?_)
  refine wpAny_bind (wpAny_seqItems hTI rfl ?_)
  show wpAny _ _ (Builtin.SmallTypes.ownedTupleIsFree (.ref z) >>= _) _ _ _
  refine wpAny_bind ?_
  unfold Builtin.SmallTypes.ownedTupleIsFree
  refine wpAny_bind (wpAny_field hz rfl (x := .none) rfl (wpAny_pure ?_))
  simp only [if_true]
  refine wpAny_bind (wpAny_rule ?_)
  refine wpAny_bind (wpAny_field hz rfl (x := .ref TO) rfl ?_)
  refine wpAny_bind (wpAny_setField_rec hz (by simp) fun g1 hz1 sb1 => ?_)
  replace hz1 : IsZip g1 z TI TO .ellipsis := hz1
  refine wpAny_bind ?_
  simp only [List.zipIdx_cons, List.zipIdx_nil, List.forIn_cons, List.forIn_nil]
  refine wpAny_bind (wpAny_bind (wpAny_onRaise ?_))
  show wpAny _ _ (Builtin.SmallTypes.nextOf (.ref i1) >>= _) _ _ _
  rcases hend with rfl | ⟨⟨j, x, rfl, hx⟩, hy⟩
  · refine wpAny_bind (nextOf_rev_end hh (h1.at fun o e => sb1.extBut _ o D.i1z e) fun g2 e sb2 he => ?_)
    obtain ⟨oe, hoe, hce⟩ := he
    have z2 : IsZip g2 z TI TO .ellipsis := sb2 _ _ D.i1z.symm hz1
    have hez : e ≠ z := fun q => by subst q; rw [z2] at hoe; cases hoe; simp at hce
    refine wpAny_setField_rec z2 (by simp) fun g3 _ sb3 => stop g3 e (fun c o c1 _ c3 _ q => sb3.extBut _ _ c1 (sb2 _ _ c3 (sb1.extBut _ _ c1 q))) ⟨oe, sb3.extBut _ _ hez hoe, hce⟩
  · refine wpAny_bind (nextOf_rev (h1.at fun o e => sb1.extBut _ o D.i1z e) (hl1.extBut sb1.extBut L1.z) hx fun g2 r2 sb2 => wpAny_pure ?_)
    have to2 : IsPair g2 TO a b := sb2.extBut _ _ D.TOi1 (sb1.extBut _ _ D.TOz hTO)
    refine wpAny_bind (wpAny_seqItems to2 rfl ?_)
    refine wpAny_bind (wpAny_updateSeq_pair to2 fun g3 to3 sb3 => ?_)
    refine wpAny_bind (wpAny_letGo (wpAny_pure ?_))
    refine wpAny_bind (wpAny_bind (wpAny_onRaise ?_))
    show wpAny _ _ (Builtin.SmallTypes.nextOf (.ref i2) >>= _) _ _ _
    refine wpAny_bind (wpAny_nextOf_list_end hh (((h2.extBut sb1.extBut D.i2z).extBut sb2.extBut D.i12.symm).extBut sb3.extBut D.TOi2.symm)
      (((hl2.extBut sb1.extBut L2.z).extBut sb2.extBut L2.i1).extBut sb3.extBut L2.TO) hy fun g4 e sb4 he => ?_)
    obtain ⟨oe, hoe, hce⟩ := he
    have z4 : IsZip g4 z TI TO .ellipsis := sb4 _ _ D.i2z.symm (sb3.extBut _ _ D.TOz.symm (sb2.extBut _ _ D.i1z.symm hz1))
    have hez : e ≠ z := fun q => by subst q; rw [z4] at hoe; cases hoe; simp at hce
    refine wpAny_setField_rec z4 (by simp) fun g5 _ sb5 => stop g5 e (fun c o c1 c2 c3 c4 q => sb5.extBut _ _ c1 (sb4 _ _ c4 (sb3.extBut _ _ c2 (sb2.extBut _ _ c3 (sb1.extBut _ _ c1 q))))) ⟨oe, sb5.extBut _ _ hez hoe, hce⟩
end
end L2

set_option Elab.async false
set_option linter.all false
set_option maxRecDepth 100000
namespace L2
open PySem PySem.Spec PyProof.Rows

noncomputable abbrev zrA (h : Heap) (l2 : Addr) : Heap := h.push { cls := .type "list_iterator", data := .fields #[.ref l2, .int 0 0] }
noncomputable abbrev zrB (h : Heap) (r l2 : Addr) : Heap := (zrA h l2).push { cls := .type "tuple", data := .seq #[.ref r, .ref h.objs.size] }
noncomputable abbrev zrC (h : Heap) (r l2 : Addr) : Heap := (zrB h r l2).push { cls := .type "tuple", data := .seq #[.none, .none] }
noncomputable abbrev zrD (h : Heap) (r l2 : Addr) : Heap := (zrC h r l2).push { cls := .type "zip", data := .fields #[.none, .bool false, .bool false, .ref (zrA h l2).objs.size, .ref (zrB h r l2).objs.size] }
theorem meets_zip_rev (r l1 l2 : Addr) (k : Int) (ys : Array Value) :
    Meets (Builtin.«zip.__new__» ⟨[.type "zip", .ref r, .ref l2], []⟩) (fun _ R s => s.heap.IsRevIter r l1 k ∧ s.heap.IsList l2 ys ∧ R (.ok (.ret (.ref (zrC s.heap r l2).objs.size))) { s with heap := zrD s.heap r l2 }) :=
  .of_wp fun prog w A R s h => by
    obtain ⟨hp, g, d, tk, os⟩ := s
    obtain ⟨hr, hl2, h⟩ := h
    have hsub := sub_zip
    have hR : Heap.IsRevIter (Shared.heap ⟨hp, g, d, tk, os⟩) r l1 k := hr
    have hL2 : Heap.IsList (Shared.heap ⟨hp, g, d, tk, os⟩) l2 ys := hl2
    wp_walk using wpAny_pyIter_revIter hR, wpAny_pyIter_list hL2
    exact ⟨_, rfl, h⟩
section
variable {prog : Program} {w : World} {A : Around} {E : Value → Shared → Prop} {s : Shared}
theorem call_zip_rev {r l1 l2 : Addr} {k : Int} {ys : Array Value} {Q : Value → Shared → Prop} (hr : s.heap.IsRevIter r l1 k) (hl2 : s.heap.IsList l2 ys)
    (h : ∀ h', IsZip h' (s.heap.objs.size + 3) (s.heap.objs.size + 1) (s.heap.objs.size + 2) .none → IsPair h' (s.heap.objs.size + 1) (.ref r) (.ref s.heap.objs.size) →
      IsPair h' (s.heap.objs.size + 2) .none .none → h'.IsListIter s.heap.objs.size l2 0 → (∀ c o, s.heap.get? c = some o → h'.get? c = some o) → Q (.ref (s.heap.objs.size + 3)) { s with heap := h' }) :
    wpAny (model prog w) A (call (.type "zip") [.ref r, .ref l2]) Q E s := by
  refine callType_new F.called_zip (by decide) (F.typeCall_zip_2 _ _) (F.newCall_zip_2 _ _) (fun obj => F.args_object_init_3 obj _ _) F.entry_zip_new (meets_zip_rev r l1 l2 k ys) ⟨hr, hl2, ?_⟩
  have z1 : (zrA s.heap l2).objs.size = s.heap.objs.size + 1 := Heap.size_push ..
  have z2 : (zrB s.heap r l2).objs.size = s.heap.objs.size + 2 := by rw [Heap.size_push, z1]
  have z3 : (zrC s.heap r l2).objs.size = s.heap.objs.size + 3 := by rw [Heap.size_push, z2]
  have g4 : (zrD s.heap r l2).get? (zrC s.heap r l2).objs.size = some _ := Heap.get?_push_size _ rfl
  have g3 : (zrD s.heap r l2).get? (zrB s.heap r l2).objs.size = some _ := Heap.get?_push_of_some _ (Heap.get?_push_size _ rfl)
  have g2 : (zrD s.heap r l2).get? (zrA s.heap l2).objs.size = some _ := Heap.get?_push_of_some _ (Heap.get?_push_of_some _ (Heap.get?_push_size _ rfl))
  have g1 : (zrD s.heap r l2).get? s.heap.objs.size = some _ := Heap.get?_push_of_some _ (Heap.get?_push_of_some _ (Heap.get?_push_of_some _ (Heap.get?_push_size _ rfl)))
  show _ ∧ _
  rw [z1, z2, z3] at g4
  rw [z2] at g3
  rw [z1] at g2
  rw [z3]
  exact ⟨⟨_, g4, rfl⟩, h _ g4 g2 g3 ⟨_, g1, rfl, rfl⟩ fun c o x => Heap.get?_push_of_some _ (Heap.get?_push_of_some _ (Heap.get?_push_of_some _ (Heap.get?_push_of_some _ x)))⟩
end

noncomputable def Itz (K : PySem.W.Frag) (l1 l2 : Addr) (n : Nat) : It :=
  ⟨fun i H => ∃ xs ys x y, SqL K H l1 xs ∧ SqL K H l2 ys ∧ xs.length = n ∧ xs.reverse[i]? = some x ∧ ys[i]? = some y,
   fun i H v H' => ∃ p, H p = none ∧ v = .ref p ∧ ∀ xs ys x y, SqL K H l1 xs → SqL K H l2 ys → xs.reverse[i]? = some x → ys[i]? = some y → H' = upd H p (.tup [x, y]),
   fun i H => ∃ xs ys, SqL K H l1 xs ∧ SqL K H l2 ys ∧ xs.length = n ∧ i ≤ n ∧ (i = n ∨ ys.length ≤ i)⟩
theorem zl_of {z TI TO i1 i2 l : Addr} {X : Cx} {pins : List (Addr × Obj)} {σ : St} {H : Hp} {s : Shared} {xs : List V} (I : Inv X pins σ H s) (hq : SqL X.K H l xs) (hf : ∀ b ∈ [z, TI, TO, i1, i2], FpOk X pins H b)
    (ho : ∀ b ∈ [z, TI, TO, i1, i2], ∃ o, s.heap.get? b = some o ∧ o.cls ≠ .type "list") : ZL z TO i1 i2 l := by
  have ne : ∀ b ∈ [z, TI, TO, i1, i2], l ≠ b := fun b hb q => by
    obtain ⟨o, e, c⟩ := ho b hb
    obtain ⟨its, _, ⟨o', n, e', c', _⟩, _⟩ := I.list hq
    rw [q, e] at e'
    cases e'
    exact c c'
  exact ⟨ne z (by simp), ne TO (by simp), ne i1 (by simp), ne i2 (by simp)⟩
theorem turn_zip {P : Program} {w : World} {K : PySem.W.Frag} {elts : List Expr} {k : Nat} {tp : Pos} (z TI TO i1 i2 l1 l2 : Addr) (n : Nat) (D : ZA z TI TO i1 i2) :
    Turn P w K (.Tuple elts k tp) (Itz K l1 l2 n) [z, TI, TO, i1, i2] z (fun i h => IsZip h z TI TO .none ∧ IsPair h TI (.ref i1) (.ref i2) ∧ (∃ a b, IsPair h TO a b) ∧ h.IsRevIter i1 l1 ((n : Int) - 1 - (i : Nat)) ∧ h.IsListIter i2 l2 i) := by
  have cls : ∀ {i : Nat} {h : Heap}, (IsZip h z TI TO .none ∧ IsPair h TI (.ref i1) (.ref i2) ∧ (∃ a b, IsPair h TO a b) ∧ h.IsRevIter i1 l1 ((n : Int) - 1 - (i : Nat)) ∧ h.IsListIter i2 l2 i) →
      ∀ b ∈ [z, TI, TO, i1, i2], ∃ o, h.get? b = some o ∧ o.cls ≠ .type "list" ∧ ∀ v, o.data ≠ .cell v := fun {i h} st b hb => by
    obtain ⟨h1, h2, ⟨a, c, h3⟩, ⟨o4, h4, c4, d4⟩, ⟨o5, h5, c5, d5⟩⟩ := st
    simp only [List.mem_cons, List.not_mem_nil, or_false] at hb
    rcases hb with rfl | rfl | rfl | rfl | rfl
    · exact ⟨_, h1, (by show Value.type "zip" ≠ Value.type "list"; decide +kernel), fun v q => by cases (show Data.fields _ = Data.cell v from q)⟩
    · exact ⟨_, h2, (by show Value.type "tuple" ≠ Value.type "list"; decide +kernel), fun v q => by cases (show Data.seq _ _ = Data.cell v from q)⟩
    · exact ⟨_, h3, (by show Value.type "tuple" ≠ Value.type "list"; decide +kernel), fun v q => by cases (show Data.seq _ _ = Data.cell v from q)⟩
    · exact ⟨o4, h4, by rw [c4]; decide +kernel, fun v q => by rw [d4] at q; cases q⟩
    · exact ⟨o5, h5, by rw [c5]; decide +kernel, fun v q => by rw [d5] at q; cases q⟩
  refine ⟨by simp, fun i h st b hb => ?_, fun i h h' st kk => ?_, ?_, ?_, fun _ _ _ _ _ st h => wpAny_pyIter_zip st.1 h⟩
  · obtain ⟨o, e, _, d⟩ := cls st b hb
    exact ⟨o, e, d⟩
  · obtain ⟨h1, h2, ⟨a, c, h3⟩, h4, h5⟩ := st
    exact ⟨kk z (by simp) _ h1, kk TI (by simp) _ h2, ⟨a, c, kk TO (by simp) _ h3⟩, h4.at fun o q => kk i1 (by simp) o q, h5.at fun o q => kk i2 (by simp) o q⟩
  · intro X hP hw hK hc i pins s σ H E I hf st hg
    subst hP hw hK
    obtain ⟨xs, ys, x, y, hq1, hq2, hn, hx, hy⟩ := hg
    have L1 := zl_of I hq1 hf fun b hb => let ⟨o, e, c, _⟩ := cls st b hb; ⟨o, e, c⟩
    have L2 := zl_of I hq2 hf fun b hb => let ⟨o, e, c, _⟩ := cls st b hb; ⟨o, e, c⟩
    have lt : ∀ b ∈ [z, TI, TO, i1, i2], b < s.heap.objs.size := fun b hb => let ⟨o, e, _⟩ := cls st b hb; Heap.lt_size e
    obtain ⟨h1, h2, ⟨a, c, h3⟩, h4, h5⟩ := st
    obtain ⟨its, rv, p, hz⟩ := I.list hq1
    obtain ⟨its2, rv2, p2, hz2⟩ := I.list hq2
    obtain ⟨hi, hx'⟩ := rev_get hx
    obtain ⟨u, hu, ru⟩ := rv.get hx'
    obtain ⟨v, hv, rv'⟩ := rv2.get hy
    have e : (n : Int) - 1 - (i : Nat) = ((xs.length - 1 - i : Nat) : Int) := by (clear h1 h2 h3 hc hu hv hx hx' hy hz hz2; omega)
    rw [e] at h4
    refine zr_item D L1 L2 h1 h2 h3 h4 h5 p.isList p2.isList (x := u) (y := v) (by simpa using hu) (by simpa using hv) fun h' a1 a2 a3 a4 a5 a6 kk => ⟨_, rfl, ?_⟩
    have I1 : Inv X pins σ H { s with heap := h' } := I.turnedL (t' := s.toks) (ch := [z, TI, TO, i1, i2]) (fun b o hb q => kk b o (fun r => hb (by simp [r])) (fun r => hb (by simp [r])) (fun r => hb (by simp [r])) (fun r => hb (by simp [r])) q) hf
    refine wpAny_letOwnedTupleGo_zip a1 fun h2' he' hs' => ?_
    have I2 := I1.turnedL (h' := h2') (t' := s.toks) (ch := [z]) (fun b o hb q => hs'.extBut b o (fun r => hb (by simp [r])) q) fun b hb => hf b (by
      rcases List.mem_singleton.mp hb with rfl
      simp)
    have nT : H s.heap.objs.size = none := I.hok.fresh (Nat.le_refl _)
    have zT : s.heap.objs.size ≠ z := Nat.ne_of_gt (lt z (by simp))
    have I3 := I2.pairAt (T := s.heap.objs.size) (a := x) (b := y) (I.fpOk (Nat.le_refl _) nT) (hs'.extBut _ _ zT a5) ru rv'
    refine ⟨.ref s.heap.objs.size, _, I3, rfl, ⟨_, nT, rfl, fun xs' ys' x' y' q1 q2 q3 q4 => ?_⟩, ⟨he', ?_, ⟨_, _, hs'.extBut _ _ D.TOz a2⟩, ?_, a4.extBut hs'.extBut D.i2z⟩, fun b hb => ?_⟩
    · have e1 := I.list_inj q1 hq1
      have e2 := I.list_inj q2 hq2
      subst e1 e2
      rw [hx] at q3
      rw [hy] at q4
      cases q3
      cases q4
      rfl
    · exact hs'.extBut _ _ D.TIz (kk _ _ D.TIz D.TITO D.TIi1 D.TIi2 h2)
    · have e2 : ((xs.length - 1 - i : Nat) : Int) - 1 = (n : Int) - 1 - ((i + 1 : Nat) : Int) := by (clear a1 a2 a5 a6 h1 h2 h3 hc he' hi hn hu hv hx hx' hy hz hz2 nT zT; omega)
      rw [e2] at a3
      exact a3.at fun o q => hs'.extBut _ o D.i1z q
    · rw [upd_ne (Nat.ne_of_lt (lt b hb))]
      exact (hf b hb).1
  · intro X hP hw hK hc i pins s σ H E I hf st hg
    subst hP hw hK
    obtain ⟨xs, ys, hq1, hq2, hn, hin, hend⟩ := hg
    have L1 := zl_of I hq1 hf fun b hb => let ⟨o, e, c, _⟩ := cls st b hb; ⟨o, e, c⟩
    have L2 := zl_of I hq2 hf fun b hb => let ⟨o, e, c, _⟩ := cls st b hb; ⟨o, e, c⟩
    obtain ⟨h1, h2, ⟨a, c, h3⟩, h4, h5⟩ := st
    obtain ⟨its, rv, p, hz⟩ := I.list hq1
    obtain ⟨its2, rv2, p2, hz2⟩ := I.list hq2
    have hl := rv.length
    have hl2 := rv2.length
    refine zr_end (I.ok.hd hc) D L1 L2 h1 h2 h3 h4 h5 p.isList p2.isList ?_ fun h' kk => ⟨rfl, ?_⟩
    · by_cases hi : i = n
      · exact .inl (by (clear h1 h2 h3 hc hend hin hl2 hz hz2; omega))
      · refine .inr ⟨⟨n - 1 - i, its[n - 1 - i]'(by (clear h1 h2 h3 hc hend hl2 hz hz2; omega)), by (clear h1 h2 h3 hc hend hl2 hz hz2; omega), by rw [List.getElem?_toArray, List.getElem?_eq_getElem (by (clear h1 h2 h3 hc hend hl2 hz hz2; omega))]⟩, ?_⟩
        have q : ys.length ≤ i := by rcases hend with q | q; exact absurd q hi; exact q
        simp
        (clear h1 h2 h3 hc hend hi hin hl hn hz hz2; omega)
    · exact I.turnedL (t' := s.toks) (ch := [z, TI, TO, i1, i2]) (fun b o hb q => kk b o (fun r => hb (by simp [r])) (fun r => hb (by simp [r])) (fun r => hb (by simp [r])) (fun r => hb (by simp [r])) q) hf

section
variable {X : Cx} {elts : List Expr} {k : Nat} {tp : Pos}
noncomputable def iZipR (K : PySem.W.Frag) (ta tb : TE) : TI := fun σ H R => ta σ H fun x H1 => ∃ a xs, x = .ref a ∧ SqL K H1 a xs ∧ tb σ H1 fun y H2 => ∃ b ys, y = .ref b ∧ SqL K H2 a xs ∧ SqL K H2 b ys ∧ R (Itz K a b xs.length) H2
theorem pi_zipR {a b : Expr} {ta tb : TE} {p p2 pos pos2 : Pos} (hg : Gl X "zip") (hm : X.mg "zip" = none) (hg2 : Gl X "reversed") (hm2 : X.mg "reversed" = none) (ha : PE X a ta) (hb : PE X b tb)
    (hs : starEach [.Call (.Name "reversed" p2) [a] [] pos2, b] X.env = (false, eval (.Call (.Name "reversed" p2) [a] [] pos2) X.env) :: starEach [b] X.env := by rfl)
    (hs2 : starEach [b] X.env = [(false, eval b X.env)] := by rfl) (hs3 : starEach [a] X.env = [(false, eval a X.env)] := by rfl) :
    PI X (.Tuple elts k tp) (.Call (.Name "zip" p) [.Call (.Name "reversed" p2) [a] [] pos2, b] [] pos) (iZipR X.K ta tb) := by
  intro pins s σ H R I h
  have hA : PA X [a] (tCons ta tNil) := pa_cons ha pa_nil hs3
  have hB : PA X [b] (tCons tb tNil) := pa_cons hb pa_nil hs2
  refine Call_ (ld_blt I hg hm boot_zip (PyProof.Rows.callWith_type1 (Q := fun v s1 => wpAny (model X.prog X.w) X.A (pyIter v) (PIE X pins σ (.Tuple elts k tp) R) X.xe s1) ?_ hs (by rw [hs2]; rfl)))
  rw [hs]
  show wpAny _ _ (spliced ((false, eval (.Call (.Name "reversed" p2) [a] [] pos2) X.env) :: backTo pos (starEach [b] X.env))) _ _ s
  refine Calls.spliced_cons ?_
  refine Call_ (ld_blt I hg2 hm2 (by decide +kernel : bootBuiltins "reversed" = some (.type "reversed")) (PyProof.Rows.callWith_type1 (thn (hA pos2 pins s σ H (fun vs H1 => match vs with
      | [x] => ∃ a xs, x = .ref a ∧ SqL X.K H1 a xs ∧ tb σ H1 fun y H2 => ∃ b ys, y = .ref b ∧ SqL X.K H2 a xs ∧ SqL X.K H2 b ys ∧ R (Itz X.K a b xs.length) H2
      | _ => False) I h) fun us s1 ⟨vs, H1, I1, r1, q1⟩ => ?_) hs3 rfl))
  match vs, q1 with
  | [x], q1 =>
    obtain ⟨l1, xs, e2, hq, q⟩ := q1
    subst e2
    obtain ⟨u, rfl, ru⟩ := vals1 r1
    cases ru
    obtain ⟨its, rv, pl, hz⟩ := I1.list hq
    have hlen := rv.length
    refine call_reversed_list pl.isList ?_
    have eR : (s1.heap.push (revObj l1 ((its.toArray.size : Int) - 1))).get? s1.heap.objs.size = some (revObj l1 ((xs.length : Int) - 1)) := by
      rw [Heap.get?_push_size _ rfl, List.size_toArray, hlen]
    have n1 : H1 s1.heap.objs.size = none := I1.hok.fresh (Nat.le_refl _)
    have f1 : FpOk X pins H1 s1.heap.objs.size := I1.fpOk (Nat.le_refl _) n1
    have I2 : Inv X (pins ++ [(s1.heap.objs.size, revObj l1 ((xs.length : Int) - 1))]) σ H1 { s1 with heap := s1.heap.push (revObj l1 ((its.toArray.size : Int) - 1)) } := by
      refine (I1.kept (h' := s1.heap.push (revObj l1 ((its.toArray.size : Int) - 1))) (t' := s1.toks) fun b o q => Heap.get?_push_of_some _ q).pins_of fun pp hp => ?_
      rcases List.mem_append.mp hp with z | z
      · obtain ⟨w1, w2⟩ := I1.pin pp (List.mem_append_right _ z)
        exact ⟨Heap.get?_push_of_some _ w1, w2⟩
      · have ep : pp = (s1.heap.objs.size, revObj l1 ((xs.length : Int) - 1)) := by simpa using z
        rw [ep]
        exact ⟨eR, n1, f1.2.1, f1.2.2.1, fun v q => by cases (show Data.fields _ = Data.cell v from q)⟩
    refine thn (hB pos _ _ σ H1 (fun vs H2 => match vs with
      | [y] => ∃ b ys, y = .ref b ∧ SqL X.K H2 l1 xs ∧ SqL X.K H2 b ys ∧ R (Itz X.K l1 b xs.length) H2
      | _ => False) I2 q) fun us2 s3 ⟨vs2, H3, I3, r3, q3⟩ => ?_
    match vs2, q3 with
    | [y], q3 =>
      obtain ⟨l2, ys, e3, hq1, hq2, qR⟩ := q3
      subst e3
      obtain ⟨u2, rfl, ru2⟩ := vals1 r3
      cases ru2
      have pn := I3.pin (s1.heap.objs.size, revObj l1 ((xs.length : Int) - 1)) (List.mem_append_right _ (List.mem_append_right _ (List.mem_singleton.mpr rfl)))
      have I4 : Inv X pins σ H3 s3 := I3.unpinned
      have hr : s3.heap.IsRevIter s1.heap.objs.size l1 ((xs.length : Int) - 1 - ((0 : Nat) : Int)) := by
        have e0 : (xs.length : Int) - 1 - ((0 : Nat) : Int) = (xs.length : Int) - 1 := by simp
        rw [e0]
        exact ⟨_, pn.1, rfl, rfl⟩
      obtain ⟨its2, rv2, pl2, hz2⟩ := I4.list hq2
      have rlt : s1.heap.objs.size < s3.heap.objs.size := Heap.lt_size pn.1
      refine call_zip_rev hr pl2.isList fun h' a1 a2 a3 a4 kk => ?_
      refine wpAny_pyIter_zip a1 ?_
      have I5 : Inv X pins σ H3 { s3 with heap := h' } := I4.kept (t' := s3.toks) kk
      have ne : ∀ {x y : Nat}, x < y → x ≠ y := fun h => Nat.ne_of_lt h
      have D : ZA (s3.heap.objs.size + 3) (s3.heap.objs.size + 1) (s3.heap.objs.size + 2) s1.heap.objs.size s3.heap.objs.size :=
        ⟨ne (by (clear a1 a2 a3 eR hlen hm hm2 hs hs2 hs3 hz hz2 n1 pn rlt; omega)), ne (by (clear a1 a2 a3 eR hlen hm hm2 hs hs2 hs3 hz hz2 n1 pn rlt; omega)), ne (by (clear a1 a2 a3 eR hlen hm hm2 hs hs2 hs3 hz hz2 n1 pn; omega)), ne (by (clear a1 a2 a3 eR hlen hm hm2 hs hs2 hs3 hz hz2 n1 pn rlt; omega)), ne (by (clear a1 a2 a3 eR hlen hm hm2 hs hs2 hs3 hz hz2 n1 pn rlt; omega)), (ne (by (clear a1 a2 a3 eR hlen hm hm2 hs hs2 hs3 hz hz2 n1 pn; omega))).symm, (ne (by (clear a1 a2 a3 eR hlen hm hm2 hs hs2 hs3 hz hz2 n1 pn rlt; omega))).symm, (ne (by (clear a1 a2 a3 eR hlen hm hm2 hs hs2 hs3 hz hz2 n1 pn; omega))).symm, (ne (by (clear a1 a2 a3 eR hlen hm hm2 hs hs2 hs3 hz hz2 n1 pn rlt; omega))).symm, ne rlt⟩
      refine ⟨s3.heap.objs.size + 3, [s3.heap.objs.size + 3, s3.heap.objs.size + 1, s3.heap.objs.size + 2, s1.heap.objs.size, s3.heap.objs.size], _, _, H3, rfl, I5, turn_zip _ _ _ _ _ l1 l2 xs.length D, ⟨a1, a2, ⟨_, _, a3⟩, hr.at fun o q => kk _ o q, a4⟩, fun c hc => ?_, qR⟩
      have fresh : ∀ j, FpOk X pins H3 (s3.heap.objs.size + j) := fun j => I4.fpOk (Nat.le_add_right _ _) (I4.hok.fresh (Nat.le_add_right _ _))
      simp only [List.mem_cons, List.not_mem_nil, or_false] at hc
      rcases hc with rfl | rfl | rfl | rfl | rfl
      · exact fresh 3
      · exact fresh 1
      · exact fresh 2
      · exact ⟨pn.2.1, f1.2⟩
      · exact fresh 0
end
theorem comp_zipR {K : PySem.W.Frag} {a b : Addr} {xs ys : List V} {σ0 : St} {te : TE} {H1 : Hp} {R : List V → Hp → Prop} (hq1 : SqL K H1 a xs) (hq2 : SqL K H1 b ys) (f : Nat → V) (hz : xs.length ≤ sizeLine)
    (ht : ∀ i x y H, xs.reverse[i]? = some x → ys[i]? = some y → Same H1 H → te ((σ0.set 0 (some x)).set 1 (some y)) H fun v H3 => (List.range i).map f ++ [v] = (List.range (i + 1)).map f ∧ Same H1 H3)
    (hR : ∀ H, Same H1 H → R ((List.range (min xs.length ys.length)).map f) H) : CompR (Itz K a b xs.length) σ0 (gPair K) te H1 R := by
  have m1 : min xs.length ys.length ≤ xs.length := Nat.min_le_left _ _
  have m2 : min xs.length ys.length ≤ ys.length := Nat.min_le_right _ _
  refine comp_by (min xs.length ys.length) f (Nat.le_trans m1 hz) (fun i H hi sm => ?_) (fun H sm => ⟨xs, ys, sm.seq hq1, sm.seq hq2, rfl, m1, ?_⟩) (fun i H x H' hi sm y => ?_) hR
  · have h1 : i < xs.reverse.length := by rw [List.length_reverse]; (clear hz m2; omega)
    exact ⟨xs, ys, xs.reverse[i], ys[i]'(by (clear h1 hz m1; omega)), sm.seq hq1, sm.seq hq2, rfl, List.getElem?_eq_getElem h1, List.getElem?_eq_getElem (by (clear h1 hz m1; omega))⟩
  · (clear hz m2; omega)
  · have h1 : i < xs.reverse.length := by rw [List.length_reverse]; (clear hz m2; omega)
    have h2 : i < ys.length := by (clear h1 hz m1; omega)
    obtain ⟨p, hp, e1, e2⟩ := y
    have e3 := e2 xs ys _ _ (sm.seq hq1) (sm.seq hq2) (List.getElem?_eq_getElem h1) (List.getElem?_eq_getElem h2)
    subst e1 e3
    exact pair_go upd_same (ht i _ _ _ (List.getElem?_eq_getElem h1) (List.getElem?_eq_getElem h2) (sm.trans (same_new hp _)))
end L2

set_option Elab.async false
set_option linter.all false
set_option maxRecDepth 100000
namespace L2
open PySem PySem.Spec PyProof.Rows

section
variable {prog : Program} {w : World} {A : Around} {E : Value → Shared → Prop} {s : Shared}
end
section
variable {X : Cx} {tg : Expr}
end
end L2

set_option Elab.async false
set_option linter.all false
set_option maxRecDepth 100000
namespace L2
open PySem PySem.Spec PyProof.Rows
section
variable {M : Model} {A : Around} {E : Value → Shared → Prop} {s : Shared} {Q : Unit → Shared → Prop} {base : Heap} {env : Env} {outer : List Env} {L ea T : Addr} {oe : Obj} {vs : Array Value} {cls fl : Value}
end
end L2

set_option Elab.async false
set_option linter.all false
set_option maxRecDepth 100000
namespace L2
open PySem PySem.Spec PyProof.Rows

section
variable {X : Cx} {pins : List (Addr × Obj)} {σ : St} {H H' : Hp} {s s' : Shared} {ea : Addr} {cls : Value} {h' : Heap}
end
section
variable {P : Program} {w : World} {K : PySem.W.Frag} {mg : Str → Option Value} {base : Heap} {N : List Str} {qual : Str} {scope : Scope} {f : Addr} {cd : Value} {A : Around} {outer : List Env} {s0 : Shared} {H0 : Hp} {E : XK}
end
end L2

set_option Elab.async false
set_option linter.all false
set_option maxRecDepth 100000
namespace L2
open PySem PySem.Spec PyProof.Rows

section
variable {X : Cx} {x : Str} {C : Addr} {bm : List Value} {e : Expr} {es : List Expr} {t : TA} {E : XK} {np cpos pos : Pos}
end
section
variable {P : Program} {w : World} {K : PySem.W.Frag} {mg : Str → Option Value} {base : Heap} {N : List Str} {qual : Str} {scope : Scope} {f : Addr} {cd : Value} {A : Around} {outer : List Env} {s0 : Shared} {H0 : Hp} {E : XK}
end
end L2

set_option Elab.async false
set_option linter.all false
set_option maxRecDepth 100000
namespace L2
open PySem PySem.Spec PyProof.Rows
section
variable {X : Cx} {pins pins2 : List (Addr × Obj)} {σ : St} {H H' : Hp} {s s' : Shared} {ea : Addr} {cls : Value} {h' : Heap}
end
section
variable {X : Cx} {pins : List (Addr × Obj)} {E : St → XK} {k : Nat} {f : Addr} {fd : FuncData} {ps : List Str} {sp : Sp} {x : Str} {p pos : Pos} {e : Expr} {es : List Expr} {t : TA}
end
end L2

set_option Elab.async false
set_option linter.all false
set_option maxRecDepth 100000
namespace L2
open PySem PySem.Spec PyProof.Rows
section
variable {X : Cx} {pins : List (Addr × Obj)} {σ : St} {H H' : Hp} {s s' : Shared} {ea : Addr} {cls : Value} {h' : Heap}
end
section
variable {X : Cx} {body : List Stmt} {b₀ : Stmt} {suite : List Stmt} {cx n : Str} {C : Addr} {np hpos pos : Pos} {i : Nat} {tb : (St → XK) → TS} {ts : Addr → TS}
end
end L2

set_option Elab.async false
set_option linter.all false
set_option maxRecDepth 100000
namespace L2
open PySem PySem.Spec PySem.Calls PyProof.Rows PySem.W
section
variable {prog : Program} {w : World} {A : Around} {E : Value → Shared → Prop} {h : Heap} {g : Array GenState} {d : Drawn} {t : Nat} {os : OsState} {K : Frag} {a C : Addr} {ox : Obj}
end
inductive ClsV : V → Value → Prop where
  | own (C : Addr) : ClsV (.ref C) (.ref C)
  | ty (T : String) : ClsV (.ty T) (.type T)
end L2

set_option Elab.async false
set_option linter.all false
set_option maxRecDepth 100000
namespace L2
open PySem PySem.Spec PySem.Calls PyProof.Rows PySem.W
section
variable {prog : Program} {w : World} {A : Around} {E : Value → Shared → Prop} {s : Shared} {ea : Addr} {oe : Obj} {vs : Array Value}
end
end L2

set_option Elab.async false
set_option linter.all false
set_option maxRecDepth 100000
namespace L2
open PySem PySem.Spec PySem.Calls PyProof.Rows
theorem draws_from {prog : Program} {w : World} {A : Around} {it : Addr} {fp : List Addr} {n : Nat} {P : Nat → Value → Prop} {St : Nat → Heap → Prop} (D : Draws prog w A it fp n P St) (k : Nat) :
    Draws prog w A it fp (k + n) (fun j x => ∃ i, j = k + i ∧ P i x) (fun j h => ∃ i, j = k + i ∧ St i h) where
  live := fun _ h ⟨i, _, q⟩ => D.live i h q
  frame := fun _ h h' ⟨i, e, q⟩ f => ⟨i, e, D.frame i h h' q f⟩
  item := fun j s Q E hj ⟨i, e, q⟩ hQ => D.item i s Q E (by omega) q fun x h' tk px st sb => hQ x h' tk ⟨i, e, px⟩ ⟨i + 1, by (clear hj; omega), st⟩ sb
  done := fun s Q E ⟨i, e, q⟩ hE => D.done s Q E (by
    have e' : i = n := by omega
    rw [← e']
    exact q) hE
theorem draws_end {prog : Program} {w : World} {A : Around} (hh : A.handled = none) (it l : Addr) (items : Array Value) (i : Nat) (hx : items[i]? = none) :
    Draws prog w A it [it, l] 0 (fun _ _ => False) (fun _ h => h.IsListIter it l i ∧ h.IsList l items) where
  live := fun _ _ ⟨⟨o, ho, _⟩, _⟩ => ⟨o, ho⟩
  frame := fun _ _ _ ⟨q1, q2⟩ f => ⟨q1.at fun o e => f it (by simp) o e, q2.at fun o e => f l (by simp) o e⟩
  item := fun _ _ _ _ hi _ _ => absurd hi (Nat.not_lt_zero _)
  done := fun _ _ _ ⟨q1, q2⟩ hE => wpAny_nextOf_list_end hh q1 q2 hx hE
section
variable {prog : Program} {w : World} {A : Around} {E : Value → Shared → Prop} {s : Shared}
theorem tyCall_enumK (a v : Value) : checkTypeCall "enumerate" ⟨[a], [("start", v)]⟩ = pure () := by kernel_rfl
theorem newCall_enumK (a v : Value) : checkBuiltinCall "enumerate.__new__" ⟨[.type "enumerate", a], [("start", v)]⟩ = pure () := by kernel_rfl
theorem initArgs_enumK (o a v : Value) : argsOk "object.__init__" ⟨[o, a], [("start", v)]⟩ := by
  unfold argsOk
  rw [signature?_of (id := "object.__init__") (n := "__tini__".toList) (o := "tcejbo".toList) (by kernel_rfl) F.owner_object]
  kernel_rfl
theorem init_enumK (o a v : Value) : Meets (Builtin.«object.__init__» ⟨[o, a], [("start", v)]⟩) (fun _ R s => s.TypeIs o "enumerate" ∧ R (.ok (.ret .none)) s) :=
  .of_wp fun prog w A R s ⟨hT, hq⟩ => by
    have f1 := F.called_enumerate.init.lookup
    have f2 := F.called_enumerate.made
    repeat (any_goals (first | assumption | wp_step))
    exact ⟨_, rfl, hq⟩
theorem new_enumK (l : Addr) (items : Array Value) (n : Nat) (i : Int) (t : Tok) (hi : Builtin.SmallTypes.fitsIndex i = true) :
    Meets (Builtin.«enumerate.__new__» ⟨[.type "enumerate", .ref l], [("start", .int i t)]⟩) (fun _ R s => s.heap.get? l = some { cls := .type "list", dict := none, data := .seq items n, slots := #[] } ∧
      R (.ok (.ret (.ref (s.heap.push { cls := .type "list_iterator", data := .fields #[.ref l, .int 0 0] }).objs.size)))
        { s with heap := (s.heap.push { cls := .type "list_iterator", data := .fields #[.ref l, .int 0 0] }).push { cls := .type "enumerate", data := .fields #[.none, .bool false, .ref s.heap.objs.size, rawInt i, .none, .none] } }) :=
  .of_wp fun prog w A R s h => by
    obtain ⟨hp, g, d, tk, os⟩ := s
    obtain ⟨hl, h⟩ := h
    have hsub := sub_enumerate
    have hL : Heap.IsList (Shared.heap ⟨hp, g, d, tk, os⟩) l items := ⟨_, hl, rfl, n, rfl⟩
    wp_walk using AutoSeq1.wpAny_loadPart' hl
    refine wpAny_stack_any fun st => wpAny_pure ?_
    split
    · rename_i c _ _ _ _ _
      cases (c == Value.type "enumerate")
      · wp_walk using AutoSeq1.wpAny_loadPart' hl, wpAny_pyIter_list hL
        exact ⟨_, rfl, h⟩
      · wp_walk using AutoSeq1.wpAny_loadPart' hl, wpAny_pyIter_list hL
        exact ⟨_, rfl, h⟩
    · wp_walk using AutoSeq1.wpAny_loadPart' hl, wpAny_pyIter_list hL
      exact ⟨_, rfl, h⟩
theorem call_enumK {l : Addr} {items : Array Value} {n : Nat} {i : Int} {t : Tok} {Q : Value → Shared → Prop} (hi : Builtin.SmallTypes.fitsIndex i = true)
    (hl : s.heap.get? l = some { cls := .type "list", dict := none, data := .seq items n, slots := #[] })
    (h : ∀ h', IsEnum h' (s.heap.objs.size + 1) s.heap.objs.size i .none → h'.IsListIter s.heap.objs.size l 0 → h'.objs.size = s.heap.objs.size + 2 →
      (∀ b o, s.heap.get? b = some o → h'.get? b = some o) → Q (.ref (s.heap.objs.size + 1)) { s with heap := h' }) :
    wpAny (model prog w) A (call (.type "enumerate") [.ref l] [("start", .int i t)]) Q E s := by
  have ft := F.called_enumerate
  obtain ⟨c, tl, hmro⟩ := ft.mro
  have hmade := ft.made
  have hsub := ft.sub
  have hct := tyCall_enumK (.ref l) (.int i t)
  have hcn := newCall_enumK (.ref l) (.int i t)
  refine wpAny_call (codeAny_of_tree ?_)
  show wpAny _ _ (callAny (.type "enumerate") _) _ _ _
  refine wpAny_pure ⟨Code.quiet_builtin _ (by decide +kernel), codeAny_builtin F.entry_type_call ?_⟩
  rw [Around.under_plain (weight_type_call_type "enumerate" [.ref l] [("start", .int i t)]) (units_type_call_type "enumerate" [.ref l] [("start", .int i t)])]
  have h1 := ft.notType
  have h2 := ft.canCreate
  repeat (any_goals (first | assumption | wp_step))
  refine codeAny_mono (codeAny_call_builtin ft.plain F.entry_enumerate_new (wpAny_of_eq hcn (new_enumK l items n i t hi prog w A.in1 (wants (fun obj s₁ => s₁.TypeIs obj "enumerate" ∧ Q obj s₁) E) s ⟨hl, ?_⟩))) fun r s₁ hr => ?_
  · have hz : (s.heap.push { cls := .type "list_iterator", data := .fields #[.ref l, .int 0 0] }).objs.size = s.heap.objs.size + 1 := Heap.size_push ..
    show _ ∧ _
    rw [hz]
    have he := Heap.get?_push_size (s.heap.push { cls := .type "list_iterator", data := .fields #[.ref l, .int 0 0] }) (o := { cls := .type "enumerate", data := .fields #[.none, .bool false, .ref s.heap.objs.size, rawInt i, .none, .none] }) rfl
    rw [hz] at he
    refine ⟨⟨_, he, rfl⟩, h _ he ⟨_, Heap.get?_push_of_some _ (Heap.get?_push_size _ rfl), rfl, rfl⟩ (by rw [Heap.size_push, hz]) fun b o x => Heap.get?_push_of_some _ (Heap.get?_push_of_some _ x)⟩
  cases r with
  | error e => exact hr
  | ok fl =>
    cases fl with
    | ret obj =>
      obtain ⟨hT, hQ⟩ := (show s₁.TypeIs obj "enumerate" ∧ Q obj s₁ from hr)
      have hli := ft.init.lookup
      have hbi := ft.init.bind obj
      repeat (any_goals (first | assumption | wp_step))
      refine codeAny_mono (codeAny_call_builtin ft.init.plain F.entry_object_init (ft.init.check _ _ _ _ _ _ _ _ hT (initArgs_enumK obj (.ref l) (.int i t)) (init_enumK obj (.ref l) (.int i t) prog w A.in1 (wants (fun r s₂ => r = .none ∧ Q obj s₂) E) s₁ ⟨hT, rfl, hQ⟩))) fun r₂ s₂ hr₂ => ?_
      cases r₂ with
      | error e => exact hr₂
      | ok fl₂ =>
        cases fl₂ with
        | ret r =>
          obtain ⟨rfl, hq⟩ := hr₂
          repeat (any_goals (first | assumption | wp_step))
        | _ => exact hr₂.elim
    | _ => exact hr.elim
theorem callWith_tyK {M : Model} {env : Env} {pos : Pos} {T : String} {e : Expr} {rest : List Expr} {kws : List Keyword} {Q : Value → Shared → Prop}
    (h : wpAny M A (spliced (backTo pos (starEach (e :: rest) env))) (fun vs s₁ => wpAny M A (evalAll ((backToKw pos (keywordEach kws env)).map (·.2)))
      (fun ks s₂ => wpAny M A (call (.type T) vs (((backToKw pos (keywordEach kws env)).filterMap (·.1)).zip ks)) Q E s₂) E s₁) E s)
    (he : backTo pos (starEach (e :: rest) env) = (false, eval e env) :: backTo pos (starEach rest env)) (hpl : (backTo pos (starEach (e :: rest) env)).any (·.1) = false)
    (hall : (backToKw pos (keywordEach kws env)).all (·.1.isSome) = true) (hkw : (backToKw pos (keywordEach kws env)).any (·.1.isNone) = false) :
    wpAny M A (callWith pos (.type T) [] (backTo pos (starEach (e :: rest) env)) (backToKw pos (keywordEach kws env))) Q E s := by
  have h2 : wpAny M A (evalArgs (.type T) true (backTo pos (starEach (e :: rest) env)) (backToKw pos (keywordEach kws env))) (fun a s₁ => wpAny M A (call (.type T) a.pos a.kw) Q E s₁) E s := by
    rw [he] at h ⊢
    exact evalArgs_kwB hall h
  unfold callWith
  refine wpAny_bind (wpAny_holding (wpAny_mono h2 (fun a s₁ h₁ => wpAny_bind (wpAny_standAt ?_)) fun _ _ x => x))
  simp only [hpl, hkw, Bool.or_false]
  refine wpAny_bind (wpAny_pure ?_)
  exact wpAny_bind (wpAny_mono h₁ (fun r s₂ hr => wpAny_bind (wpAny_holding (wpAny_point (wpAny_pure hr)))) fun _ _ x => x)
end
noncomputable def IteK (K : PySem.W.Frag) (a : Addr) (k : Nat) : It :=
  ⟨fun i H => ∃ xs x, SqL K H a xs ∧ xs[i]? = some x, fun i H v H' => ∃ p, H p = none ∧ v = .ref p ∧ ∀ xs x, SqL K H a xs → xs[i]? = some x → H' = upd H p (.tup [.int ((k + i : Nat) : Int), x]), fun i H => ∃ xs, SqL K H a xs ∧ xs.length ≤ i⟩
theorem turn_enumK {P : Program} {w : World} {K : PySem.W.Frag} {elts : List Expr} {j : Nat} {tp : Pos} (a e it : Addr) (k : Nat) (hne : e ≠ it) :
    Turn P w K (.Tuple elts j tp) (IteK K a k) [e, it] e (fun i h => (∃ old, IsEnum h e it ((k + i : Nat) : Int) old) ∧ h.IsListIter it a i) where
  mem := by simp
  obj := fun i h st b hb => by
    obtain ⟨⟨old, h1⟩, o, h2, _, h3⟩ := st
    rcases List.mem_cons.mp hb with q | q
    · subst q
      exact ⟨_, h1, fun v z => by cases (show Data.fields _ = Data.cell v from z)⟩
    · have q' : b = it := by simpa using q
      subst q'
      exact ⟨o, h2, fun v z => by rw [h3] at z; cases z⟩
  keep := fun i h h' st kk => by
    obtain ⟨⟨old, h1⟩, h2⟩ := st
    exact ⟨⟨old, kk e (by simp) _ h1⟩, h2.at fun o q => kk it (by simp) o q⟩
  item := by
    intro X hP hw hK hc i pins s σ H E I hf st hg
    subst hP hw hK
    obtain ⟨⟨old, h1⟩, h2⟩ := st
    obtain ⟨xs, x, hq, hx⟩ := hg
    obtain ⟨its, rv, p, hz⟩ := I.list hq
    obtain ⟨u, hu, ru⟩ := rv.get hx
    have elt : e < s.heap.objs.size := Heap.lt_size h1
    have ilt : it < s.heap.objs.size := by obtain ⟨_, q, _⟩ := h2; exact Heap.lt_size q
    have hhd : X.A.in1.handled = none := I.ok.hd hc
    have hnl : a ≠ it := fun z => by
      obtain ⟨o1, q1, c1, _⟩ := h2
      obtain ⟨o2, q2, c2, _⟩ := p.isList
      rw [z, q1] at q2
      cases q2
      rw [c1] at c2
      exact absurd (Value.type.inj c2) (by decide)
    have hne2 : a ≠ e := fun z => by
      obtain ⟨o2, q2, c2, _⟩ := p.isList
      rw [z, h1] at q2
      cases q2
      exact absurd (Value.type.inj (show Value.type "enumerate" = .type "list" from c2)) (by decide)
    have hil : i < its.toArray.size := by
      have := (List.getElem?_eq_some_iff.mp hu).1
      simpa using this
    refine wpAny_pyNext_enum_itemD (draws_from (Draws.list hhd it a hnl its.toArray) k) h1 ⟨i, rfl, h2, p.isList⟩ (by (clear elt h1 hc hhd hne hne2 hnl hu hx hz ilt; omega)) hne (by simp [hne, Ne.symm hne2]) fun y h' tk hP' ho hst hT hsz kk => ⟨_, rfl, ?_⟩
    obtain ⟨i', ei, hy⟩ := hP'
    have ei' : i' = i := by (clear elt h1 hT hc hhd hil hne hne2 hnl ho hsz hu hx hy hz ilt; omega)
    subst ei'
    obtain ⟨i2, e2, hit, _⟩ := hst
    have e2' : i2 = i' + 1 := by (clear ei elt h1 hT hc hhd hil hne hne2 hnl ho hsz hu hx hy hz ilt; omega)
    subst e2'
    have hyu : y = u := by
      rw [show its.toArray[i']? = its[i']? by simp, hu] at hy
      exact (Option.some.inj hy).symm
    subst hyu
    have I1 : Inv X pins σ H { s with heap := h', toks := tk + 1 } := I.turnedL (ch := [e, it]) (fun b o hb q => kk b o (fun z => hb (by simp [z])) (fun z => hb (by simp [z])) q) hf
    refine wpAny_letOwnedTupleGo_enum ho fun h2' he' hs' => ?_
    have I2 := I1.turnedL (h' := h2') (t' := tk + 1) (ch := [e]) (fun b o hb q => hs'.extBut b o (fun z => hb (by simp [z])) q) fun b hb => hf b (by
      rcases List.mem_singleton.mp hb with rfl
      simp)
    have nT : H s.heap.objs.size = none := I.hok.fresh (Nat.le_refl _)
    have I3 := I2.pairAt (T := s.heap.objs.size) (a := .int ((k + i' : Nat) : Int)) (b := x) (I.fpOk (Nat.le_refl _) nT) (hs'.extBut _ _ (Nat.ne_of_gt elt) hT) ⟨_, rfl⟩ ru
    refine ⟨.ref s.heap.objs.size, _, I3, rfl, ⟨_, nT, rfl, fun ys z hy hyi => ?_⟩, ⟨⟨y, ?_⟩, ?_⟩, fun b hb => ?_⟩
    · have e1 := I.list_inj hy hq
      subst e1
      rw [hx] at hyi
      cases hyi
      rfl
    · have ec : ((k + (i' + 1) : Nat) : Int) = ((k + i' : Nat) : Int) + 1 := by (clear e2 ei elt h1 hT hc he' hhd hil hne hne2 hnl ho hsz hu hx hy hz ilt nT; omega)
      rw [ec]
      exact he'
    · exact hit.at fun o q => hs'.extBut it o (Ne.symm hne) q
    · rw [upd_ne ?_]
      · exact (hf b hb).1
      · rcases List.mem_cons.mp hb with q | q
        · rw [q]
          exact Nat.ne_of_lt elt
        · rw [show b = it by simpa using q]
          exact Nat.ne_of_lt ilt
  done := by
    intro X hP hw hK hc i pins s σ H E I hf st hg
    subst hP hw hK
    obtain ⟨⟨old, h1⟩, h2⟩ := st
    obtain ⟨xs, hq, hx⟩ := hg
    obtain ⟨its, rv, p, hz⟩ := I.list hq
    have hl := rv.length
    have hhd : X.A.in1.handled = none := I.ok.hd hc
    refine wpAny_pyNext_enum_endD (draws_end hhd it a its.toArray i (by simp; (clear h1 hc hhd hne hz; omega))) h1 ⟨h2, p.isList⟩ fun h' eb => ⟨rfl, ?_⟩
    exact I.turnedL (t' := s.toks) (ch := [e, it]) (fun b o hb q => eb b o (fun z => hb (by simp [z])) q) hf
  self := fun _ _ _ _ _ st h => by
    obtain ⟨⟨old, h1⟩, _⟩ := st
    exact wpAny_pyIter_enum h1 h
section
variable {X : Cx} {elts : List Expr} {k : Nat} {tp : Pos}
noncomputable def iEnumK (K : PySem.W.Frag) (ta : TA) (tk : TE) : TI := fun σ H R => ta σ H fun vs H1 => tk σ H1 fun y H2 => ∃ (a : Addr) (n : Nat), vs = [.ref a] ∧ y = .int (n : Int) ∧ n < 2 ^ 62 ∧ (∃ xs, Rd H2 a (.lst xs)) ∧ R (IteK K a n) H2
theorem pi_enumK {e ek : Expr} {ta : TA} {tk : TE} {p kp pos : Pos} (hg : Gl X "enumerate") (hm : X.mg "enumerate" = none) (ha : PA X [e] ta) (hk : PE X ek tk) (he : backTo pos (starEach [e] X.env) = [(false, eval e X.env)] := by rfl)
    (hall : (backToKw pos (keywordEach [⟨some "start", ek, kp⟩] X.env)).all (·.1.isSome) = true := by rfl) (hkw : (backToKw pos (keywordEach [⟨some "start", ek, kp⟩] X.env)).any (·.1.isNone) = false := by rfl)
    (hnm : (backToKw pos (keywordEach [⟨some "start", ek, kp⟩] X.env)).filterMap (·.1) = [("start" : Str)] := by rfl) :
    PI X (.Tuple elts k tp) (.Call (.Name "enumerate" p) [e] [⟨some "start", ek, kp⟩] pos) (iEnumK X.K ta tk) := by
  intro pins s σ H R I h
  refine wpAny_Call_Name_kw (ld_blt I hg hm (by decide +kernel : bootBuiltins "enumerate" = some (.type "enumerate")) (callWith_tyK (thn (ha pos pins s σ H _ I h) fun us s1 ⟨vs, H1, I1, r1, q1⟩ => ?_) he (by rw [he]; rfl) hall hkw))
  refine thn (pk_cons (nm := some "start") (kpos := kp) hk pk_nil pos pins s1 σ H1 (fun zs H2 => match zs with
    | [y] => ∃ (a : Addr) (n : Nat), vs = [.ref a] ∧ y = .int (n : Int) ∧ n < 2 ^ 62 ∧ (∃ xs, Rd H2 a (.lst xs)) ∧ R (IteK X.K a n) H2
    | _ => False) I1 q1) fun ws s2 ⟨zs, H2, I2, rz, q2⟩ => ?_
  obtain ⟨y, ez⟩ : ∃ y, zs = [y] := by
    match zs, q2 with
    | [y], _ => exact ⟨y, rfl⟩
  subst ez
  obtain ⟨a, n, ev, ey, hn, ⟨xs, hr⟩, q⟩ := q2
  subst ev ey
  obtain ⟨u, rfl, ru⟩ := vals1 r1
  cases ru
  obtain ⟨u2, rfl, t, rfl⟩ := vals1 rz
  rw [hnm]
  show wpAny _ _ (call (.type "enumerate") [.ref a] [("start", .int (n : Int) t)]) _ _ _
  obtain ⟨z, its, m, rv, ho⟩ := hr.ok I2.hok
  refine call_enumK (by unfold Builtin.SmallTypes.fitsIndex; simp; (clear hall he hkw hm hnm ho z; omega)) ho fun h' hen hit hsz kk => ?_
  refine wpAny_pyIter_enum hen ?_
  have I3 : Inv X pins σ H2 { s2 with heap := h' } := I2.kept (t' := s2.toks) kk
  refine ⟨s2.heap.objs.size + 1, [s2.heap.objs.size + 1, s2.heap.objs.size], _, _, H2, rfl, I3, turn_enumK a _ _ n (Nat.ne_of_gt (Nat.lt_succ_self _)), ⟨⟨.none, hen⟩, hit⟩, fun b hb => ?_, q⟩
  rcases List.mem_cons.mp hb with z1 | z1
  · rw [z1]
    exact I2.fpOk (Nat.le_succ _) (I2.hok.fresh (Nat.le_succ _))
  · rw [show b = s2.heap.objs.size by simpa using z1]
    exact I2.fpOk (Nat.le_refl _) (I2.hok.fresh (Nat.le_refl _))
end
theorem for_enumK {K : PySem.W.Frag} {a : Addr} {k : Nat} {xs : List V} {tb : TS} {D : Ends} {σ : St} {H : Hp} {g : TG} (Pv : Nat → St → Hp → Prop) (h0 : Pv 0 σ H) (hl : ∀ i σ H, i ≤ xs.length → Pv i σ H → SqL K H a xs)
    (hs : ∀ (i : Nat) x σ H p, xs[i]? = some x → Pv i σ H → H p = none → g (.ref p) σ (upd H p (.tup [.int ((k + i : Nat) : Int), x])) fun σ2 H2 => tb { D with nx := Pv (i + 1), ct := Pv (i + 1), bk := D.nx } σ2 H2) (hd : ∀ σ H, Pv xs.length σ H → D.nx σ H) :
    ∃ W : Nat → Nat → St → Hp → Prop, (∃ m, W 0 m σ H) ∧ ∀ i m σ H, W i m σ H →
      ((IteK K a k).stop i H ∧ D.nx σ H) ∨ ((IteK K a k).go i H ∧ ∃ N : St → Hp → Prop, (∀ σ' H', N σ' H' → ∃ m', m' < m ∧ W (i + 1) m' σ' H') ∧ ∀ x H', (IteK K a k).yld i H x H' → g x σ H' fun σ2 H2 => tb { D with nx := N, ct := N, bk := D.nx } σ2 H2) := by
  refine ⟨fun i m σ H => m = xs.length - i ∧ i ≤ xs.length ∧ Pv i σ H, ⟨xs.length, by simp, Nat.zero_le _, h0⟩, ?_⟩
  rintro i m σ H ⟨rfl, hi, p⟩
  have q := hl i σ H hi p
  by_cases hlt : i < xs.length
  · have hx : xs[i]? = some xs[i] := by simp [hlt]
    refine .inr ⟨⟨xs, xs[i], q, hx⟩, Pv (i + 1), fun σ' H' p' => ⟨xs.length - (i + 1), by (clear hi hx; omega), rfl, hlt, p'⟩, fun x H' y => ?_⟩
    obtain ⟨p', hp, e1, e2⟩ := y
    have e3 := e2 xs _ q hx
    subst e1 e3
    exact hs i _ σ H p' hx p hp
  · have e : i = xs.length := by omega
    subst e
    exact .inl ⟨⟨xs, q, Nat.le_refl _⟩, hd σ H p⟩
structure TyC (K : PySem.W.Frag) (C : Addr) : Prop where
  ha : PySem.W.findIn K (.ref C) "__class__" = some (some (.builtin "object.__class__"))
  hn : PySem.W.specialIn K (.builtin "object.__class__") "__get__" = some (some (.builtin "getset_descriptor.__get__"))
  ht : PySem.W.takesIn K (.builtin "object.__class__") = some true
  hm : PySem.W.mroIn K C (.type "object") = some true
theorem TyC.of {K : PySem.W.Frag} {C : Addr} (t : TyC K C) {H : Hp} {x dx : Addr} {fs : List (Str × V)} (e : H x = some (.ins C dx fs)) (c : Cls K C) : TyOf K H (.ref x) (.ref C) := .ins e c t.ha t.hn t.ht t.hm
theorem call_isiO {X : Cx} : CallR X (.builtin "isinstance") (fun xs H Q => ∃ (x y : V) (t c : Value) (b : Bool), xs = [x, y] ∧ ClsV y c ∧ TyOf X.K H x t ∧ PySem.W.kitOne X.K t c = some b ∧ Q (.bl b) H) := by
  intro pins s σ H xs us Q I r h
  obtain ⟨x, y, t, c, b, rfl, hy, ty, e, q⟩ := h
  obtain ⟨u, w', rfl, rx, ry⟩ := vals2 r
  have hc : w' = c := by
    cases hy with
    | own C => exact ry
    | ty T => exact ry
  subst hc
  exact isinst_ok I rx ty e fun tk => ⟨.bl b, H, I.tok tk, rfl, q⟩
end L2

set_option Elab.async false
set_option linter.all false
set_option maxRecDepth 100000
namespace L2
open PySem PySem.Spec PySem.Calls PyProof.Rows
section
variable {X : Cx} {st : Stmt} {rest : List Stmt} {t : TS} {u : TS}
noncomputable def tCut (t u : TS) : TS := fun D σ H => ∃ M : St → Hp → Prop, t { D with nx := M } σ H ∧ ∀ σ' H', M σ' H' → u D σ' H'
theorem pss_cut (h1 : PS X st t) (h2 : PSs X rest u) : PSs X (st :: rest) (tCut t u) := by
  intro pins s σ H D I h
  obtain ⟨M, hM, hu⟩ := h
  refine wpAny_execs_cons (thn (h1 pins s σ H { D with nx := M } I hM) fun f s1 q => ?_)
  cases f with
  | next =>
    obtain ⟨σ', H', I', q⟩ := q
    exact h2 pins s1 σ' H' D I' (hu σ' H' q)
  | ret v => exact q
  | brk => exact q
  | cont => exact q
end
end L2

namespace RM
noncomputable def sm : Nat → (Nat → Int) → Int
  | 0, _ => 0
  | n + 1, f => sm n f + f n
theorem sm_congr {n : Nat} {f g : Nat → Int} (h : ∀ i, i < n → f i = g i) : sm n f = sm n g := by
  induction n with
  | zero => rfl
  | succ n ih => rw [sm, sm, ih fun i hi => h i (by omega), h n (by omega)]
theorem sm_zero {n : Nat} {f : Nat → Int} (h : ∀ i, i < n → f i = 0) : sm n f = 0 := by
  induction n with
  | zero => rfl
  | succ n ih => rw [sm, ih fun i hi => h i (by omega), h n (by omega)]; rfl
theorem sm_add (n : Nat) (f g : Nat → Int) : sm n (fun i => f i + g i) = sm n f + sm n g := by
  induction n with
  | zero => rfl
  | succ n ih => simp only [sm]; rw [ih]; (clear ih; omega)
theorem sm_mul (n : Nat) (c : Int) (f : Nat → Int) : sm n (fun i => c * f i) = c * sm n f := by
  induction n with
  | zero => simp [sm]
  | succ n ih => simp only [sm]; rw [ih, Int.mul_add]
theorem sm_mulr (n : Nat) (c : Int) (f : Nat → Int) : sm n (fun i => f i * c) = sm n f * c := by
  rw [Int.mul_comm, ← sm_mul]
  exact sm_congr fun i _ => Int.mul_comm _ _
theorem sm_front (n : Nat) (f : Nat → Int) : sm (n + 1) f = f 0 + sm n (fun i => f (i + 1)) := by
  induction n with
  | zero => simp [sm]
  | succ n ih =>
    rw [sm, ih]
    simp only [sm]
    (clear ih; omega)
theorem sm_rev (n : Nat) (f : Nat → Int) : sm n (fun i => f (n - 1 - i)) = sm n f := by
  induction n with
  | zero => rfl
  | succ n ih =>
    rw [sm_front, sm]
    have e : sm n (fun i => f (n + 1 - 1 - (i + 1))) = sm n (fun i => f (n - 1 - i)) := sm_congr fun i _ => by
      have : n + 1 - 1 - (i + 1) = n - 1 - i := by (clear ih; omega)
      rw [this]
    rw [e, ih]
    simp only [Nat.add_sub_cancel, Nat.sub_zero]
    (clear e ih; omega)
theorem sm_cut {n m : Nat} {f : Nat → Int} (h : n ≤ m) (h0 : ∀ i, n ≤ i → i < m → f i = 0) : sm m f = sm n f := by
  induction m with
  | zero => have : n = 0 := by omega
            subst this; rfl
  | succ m ih =>
    by_cases e : n = m + 1
    · rw [e]
    · rw [sm, ih (by omega) fun i a b => h0 i a (by (clear a e h; omega)), h0 m (by omega) (by (clear e h; omega))]
      (clear e h; omega)
theorem sm_tri (F : Nat → Nat → Int) (n : Nat) : sm (n + 1) (fun i => sm (n - i + 1) (fun j => F i j)) = sm (n + 1) (fun k => sm (k + 1) (fun i => F i (k - i))) := by
  induction n with
  | zero => rfl
  | succ n ih =>
    rw [show sm (n + 1 + 1) (fun k => sm (k + 1) (fun i => F i (k - i))) = sm (n + 1) (fun k => sm (k + 1) (fun i => F i (k - i))) + sm (n + 1 + 1) (fun i => F i (n + 1 - i)) from rfl, ← ih]
    rw [sm]
    have e1 : sm (n + 1) (fun i => sm (n + 1 - i + 1) (fun j => F i j)) = sm (n + 1) (fun i => sm (n - i + 1) (fun j => F i j)) + sm (n + 1) (fun i => F i (n + 1 - i)) := by
      rw [← sm_add]
      refine sm_congr fun i hi => ?_
      have e : n + 1 - i + 1 = (n - i + 1) + 1 := by (clear ih; omega)
      have e' : n - i + 1 = n + 1 - i := by (clear hi ih; omega)
      rw [e, sm, e']
    have e2 : sm (n + 1 - (n + 1) + 1) (fun j => F (n + 1) j) = F (n + 1) (n + 1 - (n + 1)) := by
      rw [Nat.sub_self]
      simp [sm]
    rw [e1, e2]
    rw [show sm (n + 1 + 1) (fun i => F i (n + 1 - i)) = sm (n + 1) (fun i => F i (n + 1 - i)) + F (n + 1) (n + 1 - (n + 1)) from rfl]
    (clear e1 e2 ih; omega)

noncomputable def Cg (p a b : Int) : Prop := p ∣ a - b
theorem Cg.refl (p a : Int) : Cg p a a := ⟨0, by omega⟩
theorem Cg.of_eq {p a b : Int} (h : a = b) : Cg p a b := h ▸ Cg.refl p a
theorem Cg.symm {p a b : Int} (h : Cg p a b) : Cg p b a := by
  obtain ⟨k, e⟩ := h
  exact ⟨-k, by rw [Int.mul_neg]; omega⟩
theorem Cg.trans {p a b c : Int} (h : Cg p a b) (h' : Cg p b c) : Cg p a c := by
  obtain ⟨k, e⟩ := h
  obtain ⟨l, e'⟩ := h'
  exact ⟨k + l, by rw [Int.mul_add]; omega⟩
theorem Cg.add {p a b c d : Int} (h : Cg p a b) (h' : Cg p c d) : Cg p (a + c) (b + d) := by
  obtain ⟨k, e⟩ := h
  obtain ⟨l, e'⟩ := h'
  exact ⟨k + l, by rw [Int.mul_add]; omega⟩
theorem Cg.neg {p a b : Int} (h : Cg p a b) : Cg p (-a) (-b) := by
  obtain ⟨k, e⟩ := h
  exact ⟨-k, by rw [Int.mul_neg]; omega⟩
theorem Cg.mul {p a b c d : Int} (h : Cg p a b) (h' : Cg p c d) : Cg p (a * c) (b * d) := by
  obtain ⟨k, e⟩ := h
  obtain ⟨l, e'⟩ := h'
  have e1 : a = b + p * k := by (clear e'; omega)
  have e2 : c = d + p * l := by (clear e e1; omega)
  refine ⟨b * l + k * d + k * (p * l), ?_⟩
  rw [e1, e2]
  rw [Int.add_mul, Int.mul_add, Int.mul_add, Int.mul_add, Int.mul_add]
  have q1 : b * (p * l) = p * (b * l) := by rw [← Int.mul_assoc, Int.mul_comm b p, Int.mul_assoc]
  have q2 : p * k * d = p * (k * d) := Int.mul_assoc ..
  have q3 : p * k * (p * l) = p * (k * (p * l)) := Int.mul_assoc ..
  rw [q1, q2, q3]
  (clear e e' e1 e2 q1 q2 q3; omega)
theorem Cg.emod (p a : Int) : Cg p (a % p) a := by
  refine ⟨-(a / p), ?_⟩
  have := Int.emod_add_mul_ediv a p
  rw [Int.mul_neg]
  omega
theorem Cg.eq {p a b : Int} (hp : 0 < p) (h : Cg p a b) : a % p = b % p := by
  obtain ⟨k, e⟩ := h
  have e1 : a = b + p * k := by (clear hp; omega)
  rw [e1, Int.add_mul_emod_self_left]
theorem Cg.of_mod {p a b : Int} (h : a % p = b % p) : Cg p a b := ((Cg.emod p a).symm.trans (Cg.of_eq h)).trans (Cg.emod p b)
theorem Cg.sm {p : Int} {n : Nat} {f g : Nat → Int} (h : ∀ i, i < n → Cg p (f i) (g i)) : Cg p (sm n f) (sm n g) := by
  induction n with
  | zero => exact Cg.refl _ _
  | succ n ih => exact (ih fun i hi => h i (by omega)).add (h n (by omega))
theorem rest_eq {p a b : Int} (h0 : 0 ≤ a) (h1 : a < p) (h2 : 0 ≤ b) (h3 : b < p) (h : Cg p a b) : a = b := by
  have := h.eq (by (clear h2 h3; omega))
  rw [Int.emod_eq_of_lt h0 h1, Int.emod_eq_of_lt h2 h3] at this
  exact this
theorem mod_rest {a p : Int} (hp : 0 < p) : 0 ≤ a % p ∧ a % p < p := ⟨Int.emod_nonneg _ (by omega), Int.emod_lt_of_pos _ hp⟩

noncomputable def cv (f g : Nat → Int) (n : Nat) : Int := sm (n + 1) fun i => f i * g (n - i)
theorem cv_comm (f g : Nat → Int) (n : Nat) : cv f g n = cv g f n := by
  unfold cv
  rw [← sm_rev (n + 1) (fun i => g i * f (n - i))]
  refine sm_congr fun i hi => ?_
  have e1 : n + 1 - 1 - i = n - i := by omega
  have e2 : n - (n - i) = i := by (clear e1; omega)
  rw [e1, e2, Int.mul_comm]
theorem cv_assoc (f g h : Nat → Int) (n : Nat) : cv f (cv g h) n = cv (cv f g) h n := by
  have e1 : cv f (cv g h) n = sm (n + 1) (fun i => sm (n - i + 1) (fun j => f i * (g j * h (n - i - j)))) := sm_congr fun i _ => by
    unfold cv
    rw [sm_mul]
  have e2 : cv (cv f g) h n = sm (n + 1) (fun k => sm (k + 1) (fun i => f i * (g (k - i) * h (n - i - (k - i))))) := sm_congr fun k hk => by
    unfold cv
    rw [← sm_mulr]
    refine sm_congr fun i hi => ?_
    have e : n - i - (k - i) = n - k := by (clear e1; omega)
    rw [e, Int.mul_assoc]
  rw [e1, e2]
  exact sm_tri (fun i j => f i * (g j * h (n - i - j))) n
theorem cv_eq {f f' g g' : Nat → Int} {n : Nat} (h : ∀ i, i ≤ n → f i = f' i) (h' : ∀ i, i ≤ n → g i = g' i) : cv f g n = cv f' g' n :=
  sm_congr fun i hi => by rw [h i (by omega), h' (n - i) (by omega)]
end RM

namespace RM
noncomputable def gt (l : List Int) (i : Nat) : Int := l.getD i 0
theorem gt_lt {l : List Int} {i : Nat} (h : i < l.length) : gt l i = l[i] := by unfold gt; rw [List.getD_eq_getElem?_getD, List.getElem?_eq_getElem h]; rfl
theorem gt_some {l : List Int} {i : Nat} {x : Int} (h : l[i]? = some x) : gt l i = x := by unfold gt; rw [List.getD_eq_getElem?_getD, h]; rfl
theorem gt_ge {l : List Int} {i : Nat} (h : l.length ≤ i) : gt l i = 0 := by unfold gt; rw [List.getD_eq_getElem?_getD, List.getElem?_eq_none h]; rfl
theorem gt_app {l r : List Int} {i : Nat} (h : i < l.length) : gt (l ++ r) i = gt l i := by unfold gt; rw [List.getD_eq_getElem?_getD, List.getD_eq_getElem?_getD, List.getElem?_append_left h]
theorem gt_drop {l : List Int} {k i : Nat} : gt (l.drop k) i = gt l (k + i) := by unfold gt; rw [List.getD_eq_getElem?_getD, List.getD_eq_getElem?_getD, List.getElem?_drop]
theorem gt_map {n i : Nat} {f : Nat → Int} (h : i < n) : gt ((List.range n).map f) i = f i := by unfold gt; rw [List.getD_eq_getElem?_getD, List.getElem?_map, List.getElem?_range h]; rfl
theorem len_map {n : Nat} {f : Nat → Int} : ((List.range n).map f).length = n := by rw [List.length_map, List.length_range]
theorem gt_mapf {l : List Int} {f : Int → Int} {i : Nat} (h : i < l.length) : gt (l.map f) i = f (gt l i) := by
  rw [gt_lt h, gt_lt (by rw [List.length_map]; exact h), List.getElem_map]
theorem gt_map_all {l : List Int} {f : Int → Int} (h0 : f 0 = 0) (i : Nat) : gt (l.map f) i = f (gt l i) := by
  by_cases h : i < l.length
  · exact gt_mapf h
  · rw [gt_ge (by rw [List.length_map]; (clear h0; omega)), gt_ge (by (clear h0; omega)), h0]
theorem list_eq {l : List Int} {n : Nat} {f : Nat → Int} (hl : l.length = n) (h : ∀ i, i < n → gt l i = f i) : l = (List.range n).map f := by
  apply List.ext_getElem
  · rw [len_map]; exact hl
  · intro i h1 h2
    rw [List.getElem_map, List.getElem_range, ← h i (by (clear h2; omega)), gt_lt h1]
theorem list_sum (l : List Int) : l.sum = sm l.length (gt l) := by
  induction l with
  | nil => rfl
  | cons x r ih =>
    rw [List.sum_cons, ih, List.length_cons, sm_front]
    rfl
theorem sum_range (n : Nat) (f : Nat → Int) : ((List.range n).map f).sum = sm n f := by
  rw [list_sum, len_map]
  exact sm_congr fun i hi => gt_map hi
noncomputable def Rests (p : Int) (l : List Int) : Prop := ∀ x ∈ l, 0 ≤ x ∧ x < p
theorem Rests.at {p : Int} {l : List Int} (h : Rests p l) (hp : 0 < p) (i : Nat) : 0 ≤ gt l i ∧ gt l i < p := by
  by_cases hi : i < l.length
  · rw [gt_lt hi]; exact h _ (List.getElem_mem hi)
  · rw [gt_ge (by (clear hp; omega))]; (clear hi; omega)
theorem Rests.map {p : Int} {n : Nat} {f : Nat → Int} (h : ∀ i, i < n → 0 ≤ f i ∧ f i < p) : Rests p ((List.range n).map f) := fun x hx => by
  obtain ⟨i, hi, rfl⟩ := List.mem_map.mp hx
  exact h i (List.mem_range.mp hi)
theorem Rests.app {p : Int} {l r : List Int} (h : Rests p l) (h' : Rests p r) : Rests p (l ++ r) := fun x hx => (List.mem_append.mp hx).elim (h x) (h' x)
theorem Rests.drop {p : Int} {l : List Int} (h : Rests p l) (k : Nat) : Rests p (l.drop k) := fun x hx => h x (List.mem_of_mem_drop hx)
theorem Rests.take {p : Int} {l : List Int} (h : Rests p l) (k : Nat) : Rests p (l.take k) := fun x hx => h x (List.mem_of_mem_take hx)
theorem Rests.one {p x : Int} (h : 0 ≤ x ∧ x < p) : Rests p [x] := fun y hy => by rw [List.mem_singleton.mp hy]; exact h
theorem Rests.nil {p : Int} : Rests p [] := fun _ h => nomatch h

noncomputable def dueN (p : Int) (rule row : List Int) (k : Nat) : Int := sm rule.length (fun i => gt rule i * gt row (k - 1 - i)) % p
theorem dueN_rest {p : Int} (hp : 0 < p) (rule row : List Int) (k : Nat) : 0 ≤ dueN p rule row k ∧ dueN p rule row k < p := mod_rest hp
noncomputable def makesN (p : Int) (rule row : List Int) : Bool := (List.range (row.length - rule.length)).all fun i => gt row (rule.length + i) == dueN p rule row (rule.length + i)
noncomputable def polyN (p : Int) (rule : List Int) : List Int := 1 :: rule.map fun r => (-r) % p
theorem polyN_len (p : Int) (rule : List Int) : (polyN p rule).length = rule.length + 1 := by unfold polyN; rw [List.length_cons, List.length_map]
theorem polyN_0 (p : Int) (rule : List Int) : gt (polyN p rule) 0 = 1 := rfl
theorem polyN_s (p : Int) (rule : List Int) (i : Nat) : gt (polyN p rule) (i + 1) = (-gt rule i) % p := by
  have e : gt (polyN p rule) (i + 1) = gt (rule.map fun r => (-r) % p) i := rfl
  rw [e, gt_map_all (by simp)]
end RM

namespace RM
theorem gt_set {l : List Int} {j i : Nat} {x : Int} (h : j < l.length) : gt (l.set j x) i = if i = j then x else gt l i := by
  unfold gt
  rw [List.getD_eq_getElem?_getD, List.getD_eq_getElem?_getD]
  by_cases c : i = j
  · subst c
    rw [List.getElem?_set_self h, if_pos rfl]
    rfl
  · rw [List.getElem?_set_ne (Ne.symm c), if_neg c]
theorem sm_one {n j : Nat} (h : j < n) (f : Nat → Int) (x : Int) : sm n (fun k => if k = j then f k + x else f k) = sm n f + x := by
  induction n with
  | zero => omega
  | succ n ih =>
    simp only [sm]
    by_cases c : j = n
    · subst c
      rw [if_pos rfl, sm_congr (g := f) fun i hi => by rw [if_neg (by (clear h; omega))]]
      (clear h; omega)
    · rw [ih (by omega), if_neg (Ne.symm c)]
      (clear c h; omega)
end RM

set_option Elab.async false
set_option linter.all false
namespace RM
theorem Cg.sub {p a b c d : Int} (h : Cg p a b) (h' : Cg p c d) : Cg p (a - c) (b - d) := by
  have := h.add h'.neg
  rw [← Int.sub_eq_add_neg, ← Int.sub_eq_add_neg] at this
  exact this
theorem Cg.zero_of {p a b : Int} (h : Cg p a b) : Cg p (a - b) 0 := by
  unfold Cg at h ⊢
  rw [Int.sub_zero]
  exact h
theorem Cg.of_zero {p a b : Int} (h : Cg p (a - b) 0) : Cg p a b := by
  unfold Cg at h ⊢
  rw [Int.sub_zero] at h
  exact h
theorem cv_poly (p : Int) (rule : List Int) (a : Nat → Int) (n : Nat) (h : rule.length ≤ n) : Cg p (cv (gt (polyN p rule)) a n) (a n - sm rule.length fun i => gt rule i * a (n - 1 - i)) := by
  unfold cv
  rw [sm_front, polyN_0, Int.one_mul, Nat.sub_zero]
  have e : sm n (fun i => gt (polyN p rule) (i + 1) * a (n - (i + 1))) = sm rule.length (fun i => gt (polyN p rule) (i + 1) * a (n - (i + 1))) := sm_cut h fun i h1 _ => by
    rw [polyN_s, gt_ge h1]
    simp
  rw [e, Int.sub_eq_add_neg]
  refine (Cg.refl _ _).add ?_
  have e2 : -(sm rule.length fun i => gt rule i * a (n - 1 - i)) = sm rule.length fun i => (-1) * (gt rule i * a (n - 1 - i)) := by
    rw [sm_mul, Int.neg_one_mul]
  rw [e2]
  refine Cg.sm fun i hi => ?_
  rw [polyN_s, show n - (i + 1) = n - 1 - i by (clear e e2; omega), ← Int.mul_assoc, Int.neg_one_mul]
  exact (Cg.emod _ _).mul (Cg.refl _ _)
noncomputable def Goes (p : Int) (rule row : List Int) : Prop := ∀ n, rule.length ≤ n → n < row.length → Cg p (cv (gt (polyN p rule)) (gt row) n) 0
theorem Goes.of_makes {p : Int} {rule row : List Int} (h : makesN p rule row = true) : Goes p rule row := fun n h1 h2 => by
  unfold makesN at h
  have := List.all_eq_true.mp h (n - rule.length) (List.mem_range.mpr (by (clear h; omega)))
  rw [beq_iff_eq, show rule.length + (n - rule.length) = n by (clear h h2 this; omega)] at this
  refine (cv_poly p rule (gt row) n h1).trans (Cg.zero_of ?_)
  rw [this]
  exact Cg.emod _ _
theorem cv_goes {p : Int} {q : List Int} {rule row : List Int} {n : Nat} (h : Goes p rule row) (h1 : q.length + rule.length ≤ n + 1) (h2 : n < row.length) : Cg p (cv (gt q) (cv (gt (polyN p rule)) (gt row)) n) 0 := by
  have e : (0 : Int) = sm (n + 1) fun _ => 0 := (sm_zero fun _ _ => rfl).symm
  rw [e]
  refine Cg.sm fun i hi => ?_
  by_cases c : i < q.length
  · have := (Cg.refl p (gt q i)).mul (h (n - i) (by (clear e h2; omega)) (by (clear c e h1; omega)))
    rw [Int.mul_zero] at this
    exact this
  · rw [gt_ge (by (clear e h1 h2 hi; omega)), Int.zero_mul]
    exact Cg.refl _ _
theorem Cg.pow {p a b : Int} (h : Cg p a b) : ∀ n : Nat, Cg p (a ^ n) (b ^ n)
  | 0 => by rw [Int.pow_zero, Int.pow_zero]; exact Cg.refl _ _
  | n + 1 => by rw [Int.pow_succ, Int.pow_succ]; exact (Cg.pow h n).mul h
theorem pow_half (x : Int) (n : Nat) : x ^ n = (x * x) ^ (n / 2) * x ^ (n % 2) := by
  have e : n = n / 2 * 2 + n % 2 := by omega
  have e2 : x ^ n = x ^ (n / 2 * 2) * x ^ (n % 2) := by rw [← Int.pow_add, ← e]
  rw [e2]
  congr 1
  rw [Nat.mul_comm, Int.pow_mul]
  congr 1
  rw [Int.pow_succ, Int.pow_succ, Int.pow_zero, Int.one_mul]
theorem fermat {p : Nat} (h : p = 2 ∨ p = 3 ∨ p = 5 ∨ p = 7 ∨ p = 11 ∨ p = 31 ∨ p = 997) {x : Int} (h0 : 0 < x) (h1 : x < p) : Cg p (x * x ^ (p - 2)) 1 := by
  have key : ∀ q ∈ [2, 3, 5, 7, 11, 31, 997], ∀ n : Nat, n < q → n ≠ 0 → n * n ^ (q - 2) % q = 1 % q := by decide +kernel
  obtain ⟨n, rfl⟩ : ∃ n : Nat, x = (n : Int) := ⟨x.toNat, by (clear h h1; omega)⟩
  have := key p (by simp; (clear h0 h1; omega)) n (by (clear h h0; omega)) (by (clear h h1; omega))
  refine Cg.of_mod ?_
  have e : ((n * n ^ (p - 2) % p : Nat) : Int) = ((1 % p : Nat) : Int) := by rw [this]
  simpa using e
end RM

set_option Elab.async false
set_option linter.all false
namespace RM
theorem sm_parts (n m : Nat) (f : Nat → Int) : sm (n + m) f = sm n f + sm m (fun i => f (n + i)) := by
  induction m with
  | zero => show sm n f = sm n f + 0; omega
  | succ m ih =>
    show sm (n + m) f + f (n + m) = sm n f + (sm m (fun i => f (n + i)) + f (n + m))
    rw [ih]
    (clear ih; omega)
theorem sm_at {n j : Nat} (h : j < n) (x : Int) : sm n (fun k => if k = j then x else 0) = x := by
  have e := sm_one h (fun _ => 0) x
  rw [sm_zero (fun _ _ => rfl)] at e
  rw [← Int.zero_add x, ← e]
  refine sm_congr fun i _ => ?_
  show (if i = j then _ else _) = (if i = j then _ else _)
  by_cases q : i = j
  · rw [if_pos q, if_pos q, e]
  · rw [if_neg q, if_neg q]
noncomputable def mixK (p : Int) (rule shorter : List Int) (shift : Nat) (share : Int) (k : Nat) : List Int :=
  (List.range (max rule.length (shift + shorter.length))).map fun i => (gt rule i + (if i + 1 = shift then share else 0) - (if shift ≤ i ∧ i < shift + k then share * gt shorter (i - shift) else 0)) % p
noncomputable def mixL (p : Int) (rule shorter : List Int) (shift : Nat) (share : Int) : List Int := mixK p rule shorter shift share shorter.length
theorem mixK_len (p : Int) (rule shorter : List Int) (shift : Nat) (share : Int) (k : Nat) : (mixK p rule shorter shift share k).length = max rule.length (shift + shorter.length) := len_map
theorem mixL_len (p : Int) (rule shorter : List Int) (shift : Nat) (share : Int) : (mixL p rule shorter shift share).length = max rule.length (shift + shorter.length) := len_map
theorem mixK_rests {p : Int} (hp : 0 < p) (rule shorter : List Int) (shift : Nat) (share : Int) (k : Nat) : Rests p (mixK p rule shorter shift share k) := Rests.map fun _ _ => mod_rest hp
theorem rest_mod {p x : Int} (h : 0 ≤ x ∧ x < p) : x % p = x := Int.emod_eq_of_lt h.1 h.2
theorem gt_zeros (m i : Nat) : gt (List.replicate m 0) i = 0 := by
  unfold gt
  rw [List.getD_eq_getElem?_getD, List.getElem?_replicate]
  split <;> rfl
theorem gt_app_ge {l r : List Int} {i : Nat} (h : l.length ≤ i) : gt (l ++ r) i = gt r (i - l.length) := by
  unfold gt
  rw [List.getD_eq_getElem?_getD, List.getD_eq_getElem?_getD, List.getElem?_append_right h]
theorem mix_start {p : Int} {rule shorter : List Int} {shift : Nat} {share : Int} (hp : 0 < p) (hr : Rests p rule) (hs : 1 ≤ shift) :
    (rule ++ List.replicate (max rule.length (shift + shorter.length) - rule.length) 0).set (shift - 1) ((gt (rule ++ List.replicate (max rule.length (shift + shorter.length) - rule.length) 0) (shift - 1) + share) % p) = mixK p rule shorter shift share 0 := by
  have g : ∀ i, gt (rule ++ List.replicate (max rule.length (shift + shorter.length) - rule.length) 0) i = gt rule i := fun i => by
    by_cases h : i < rule.length
    · exact gt_app h
    · rw [gt_app_ge (by (clear hp hs; omega)), gt_zeros, gt_ge (by (clear hp hs; omega))]
  have hl : (rule ++ List.replicate (max rule.length (shift + shorter.length) - rule.length) (0 : Int)).length = max rule.length (shift + shorter.length) := by
    rw [List.length_append, List.length_replicate]
    (clear hp hs; omega)
  refine list_eq (by rw [List.length_set, hl]) fun i hi => ?_
  rw [gt_set (by rw [hl]; (clear hi hl hp; omega)), g, g, if_neg (by (clear hi hl hp hs; omega) : ¬ (shift ≤ i ∧ i < shift + 0)), Int.sub_zero]
  by_cases h : i = shift - 1
  · rw [if_pos h, if_pos (by (clear hi hl hp; omega)), h]
  · rw [if_neg h, if_neg (by (clear hi hl hp hs; omega)), Int.add_zero, rest_mod (hr.at hp i)]
theorem mix_next {p : Int} {rule shorter : List Int} {shift k : Nat} {share : Int} (hp : 0 < p) (hk : k < shorter.length) :
    (mixK p rule shorter shift share k).set (shift + k) ((gt (mixK p rule shorter shift share k) (shift + k) - share * gt shorter k) % p) = mixK p rule shorter shift share (k + 1) := by
  refine list_eq (by rw [List.length_set, mixK_len]) fun i hi => ?_
  rw [gt_set (by rw [mixK_len]; (clear hi hp; omega))]
  by_cases h : i = shift + k
  · rw [if_pos h, h]
    unfold mixK
    rw [gt_map (by (clear hk hp; omega)), if_neg (by (clear h hi hk hp; omega) : ¬ (shift ≤ shift + k ∧ shift + k < shift + k)), if_pos (by (clear hi hk hp; omega) : shift ≤ shift + k ∧ shift + k < shift + (k + 1)), Nat.add_sub_cancel_left, Int.sub_zero, Int.emod_sub_emod]
  · rw [if_neg h]
    unfold mixK
    rw [gt_map hi]
    by_cases h2 : shift ≤ i ∧ i < shift + k
    · rw [if_pos h2, if_pos (show shift ≤ i ∧ i < shift + (k + 1) by (clear h hi hk hp; omega))]
    · rw [if_neg h2, if_neg (show ¬ (shift ≤ i ∧ i < shift + (k + 1)) by (clear hi hk hp; omega))]
theorem mix_due {p : Int} {rule shorter row : List Int} {shift j : Nat} {share : Int} (hp : 0 < p) (hs : 1 ≤ shift) (hj : max rule.length (shift + shorter.length) ≤ j) :
    Cg p (sm (mixL p rule shorter shift share).length fun i => gt (mixL p rule shorter shift share) i * gt row (j - 1 - i))
      (sm rule.length (fun i => gt rule i * gt row (j - 1 - i)) + share * (gt row (j - shift) - sm shorter.length fun i => gt shorter i * gt row (j - shift - 1 - i))) := by
  rw [mixL_len]
  generalize hL : max rule.length (shift + shorter.length) = L
  have e1 : Cg p (sm L fun i => gt (mixL p rule shorter shift share) i * gt row (j - 1 - i))
      (sm L fun i => gt rule i * gt row (j - 1 - i) + ((if i = shift - 1 then share * gt row (j - shift) else 0) + -(if shift ≤ i then share * (gt shorter (i - shift) * gt row (j - 1 - i)) else 0))) := by
    refine Cg.sm fun i hi => ?_
    unfold mixL mixK
    rw [gt_map (by (clear hj hp hs; omega))]
    refine (Cg.mul (Cg.emod _ _) (Cg.refl _ _)).trans (Cg.of_eq ?_)
    rw [Int.sub_eq_add_neg, Int.add_mul, Int.add_mul, Int.add_assoc]
    congr 1
    congr 1
    · by_cases q : i = shift - 1
      · rw [if_pos (by (clear hL hi hj hp; omega)), if_pos q, show j - 1 - i = j - shift by (clear hp; omega)]
      · rw [if_neg (by (clear hL hi hj hp hs; omega)), if_neg q, Int.zero_mul]
    · by_cases q : shift ≤ i
      · by_cases q2 : i < shift + shorter.length
        · rw [if_pos ⟨q, q2⟩, if_pos q, Int.neg_mul, Int.mul_assoc]
        · rw [if_neg (by (clear hL hi hj hp hs q; omega)), if_pos q, gt_ge (l := shorter) (by (clear hL hi hj hp hs; omega))]
          simp
      · rw [if_neg (by (clear hL hi hj hp hs; omega)), if_neg q]
        simp
  refine e1.trans (Cg.of_eq ?_)
  rw [sm_add, sm_add, sm_cut (n := rule.length) (by (clear hj hp hs; omega)) (fun i h1 _ => by rw [gt_ge h1, Int.zero_mul])]
  congr 1
  rw [sm_at (by (clear hj hp; omega)), Int.mul_sub, Int.sub_eq_add_neg]
  congr 1
  have e2 : sm L (fun i => -(if shift ≤ i then share * (gt shorter (i - shift) * gt row (j - 1 - i)) else 0)) = (-1) * sm L (fun i => if shift ≤ i then share * (gt shorter (i - shift) * gt row (j - 1 - i)) else 0) := by
    rw [← sm_mul]
    exact sm_congr fun i _ => by (clear hL hj hp hs; omega)
  rw [e2, show L = shift + (L - shift) by (clear e2 hj hp hs; omega), sm_parts, sm_zero (n := shift) (fun i hi => if_neg (by (clear e2 hL hj hp hs; omega))), Int.zero_add, sm_cut (n := shorter.length) (m := L - shift) (by (clear e2 hj hp hs; omega)) (fun i h1 _ => by
    rw [if_pos (by (clear e2 h1 hL hj hp hs; omega)), gt_ge (l := shorter) (by (clear e2 hL hj hp hs; omega))]; simp)]
  rw [Int.neg_mul, Int.one_mul]
  congr 1
  rw [← sm_mul]
  refine sm_congr fun i _ => ?_
  rw [if_pos (by (clear e2 hL hj hp hs; omega)), Nat.add_sub_cancel_left, show j - 1 - (shift + i) = j - shift - 1 - i by (clear e2 hL hj hp hs; omega)]
theorem mix_row {p : Int} {rule shorter row : List Int} {shift j : Nat} {share d e : Int} (hp : 0 < p) (hr : Rests p row) (hs : 1 ≤ shift) (hj : max rule.length (shift + shorter.length) ≤ j) (h1 : Cg p (gt row j - sm rule.length fun i => gt rule i * gt row (j - 1 - i)) d)
    (h2 : Cg p (gt row (j - shift) - sm shorter.length fun i => gt shorter i * gt row (j - shift - 1 - i)) e) (h3 : Cg p (share * e) d) : gt row j = dueN p (mixL p rule shorter shift share) row j := by
  have a := hr.at hp j
  have b := dueN_rest hp (mixL p rule shorter shift share) row j
  refine rest_eq a.1 a.2 b.1 b.2 (Cg.symm ?_)
  unfold dueN
  refine (Cg.emod _ _).trans ((mix_due (row := row) (share := share) hp hs hj).trans ?_)
  have c := (Cg.refl p (sm rule.length fun i => gt rule i * gt row (j - 1 - i))).add (((Cg.refl p share).mul h2).trans (h3.trans h1.symm))
  refine c.trans (Cg.of_eq ?_)
  rw [Int.add_comm, Int.sub_add_cancel]
theorem lack_zero {p : Int} {rule row : List Int} {j : Nat} (h : gt row j = dueN p rule row j) : Cg p (gt row j - sm rule.length fun i => gt rule i * gt row (j - 1 - i)) 0 := by
  refine Cg.zero_of ?_
  rw [h]
  exact Cg.emod _ _
theorem lack_miss (p : Int) (rule row : List Int) (j : Nat) : Cg p (gt row j - sm rule.length fun i => gt rule i * gt row (j - 1 - i)) ((gt row j - dueN p rule row j) % p) := Cg.symm ((Cg.emod _ _).trans (Cg.sub (Cg.refl _ _) (Cg.emod _ _)))
noncomputable def restsB (p : Int) (l : List Int) : Bool := l.all fun x => decide (0 ≤ x) && decide (x < p)
theorem restsB_iff {p : Int} {l : List Int} : restsB p l = true ↔ Rests p l := by
  unfold restsB Rests
  rw [List.all_eq_true]
  simp
noncomputable def firstB (p : Int) (row shorter : List Int) (q : Nat) : Bool := (!(gt row q == dueN p shorter row q)) && makesN p shorter (row.take q)
noncomputable def leastB (p : Int) (row rule shorter : List Int) (place : Int) : Bool :=
  restsB p rule && restsB p shorter && makesN p rule row &&
    (if rule.length = 0 then decide (shorter.length = 0) && decide (place = -1)
     else decide (shorter.length < rule.length) && decide ((rule.length : Int) + shorter.length = place + 1) && decide ((shorter.length : Int) ≤ place ∧ place < row.length) && firstB p row shorter place.toNat)
theorem makes_iff {p : Int} {rule row : List Int} : makesN p rule row = true ↔ ∀ j, rule.length ≤ j → j < row.length → gt row j = dueN p rule row j := by
  unfold makesN
  rw [List.all_eq_true]
  constructor
  · intro h j h1 h2
    have := h (j - rule.length) (List.mem_range.mpr (by omega))
    rw [show rule.length + (j - rule.length) = j by (clear h2 this; omega)] at this
    exact beq_iff_eq.mp this
  · intro h i hi
    have := List.mem_range.mp hi
    exact beq_iff_eq.mpr (h _ (by (clear this; omega)) (by omega))
theorem gt_takeM {l : List Int} {k i : Nat} (h : i < k) : gt (l.take k) i = gt l i := by
  unfold gt
  rw [List.getD_eq_getElem?_getD, List.getD_eq_getElem?_getD, List.getElem?_take_of_lt h]
theorem dueN_take {p : Int} {rule row : List Int} {j q : Nat} (h0 : rule.length ≤ j) (h : j ≤ q) : dueN p rule (row.take q) j = dueN p rule row j := by
  unfold dueN
  congr 1
  refine sm_congr fun i hi => ?_
  rw [gt_takeM (by omega)]
theorem makes_take {p : Int} {rule row : List Int} {q : Nat} (hq : q ≤ row.length) : makesN p rule (row.take q) = true ↔ ∀ j, rule.length ≤ j → j < q → gt row j = dueN p rule row j := by
  rw [makes_iff, List.length_take, Nat.min_eq_left hq]
  constructor
  · intro h j h1 h2
    have := h j h1 h2
    rwa [gt_takeM h2, dueN_take h1 (by (clear h1 hq this; omega))] at this
  · intro h j h1 h2
    rw [gt_takeM h2, dueN_take h1 (by (clear h1 hq; omega))]
    exact h j h1 h2
structure BM (p : Int) (row : List Int) (n : Nat) (rule shorter : List Int) (place miss : Int) : Prop where
  r1 : Rests p rule
  r2 : Rests p shorter
  all : ∀ j, rule.length ≤ j → j < n → gt row j = dueN p rule row j
  st : (rule = [] ∧ shorter = [] ∧ place = -1 ∧ miss = 1) ∨ ∃ q : Nat, place = (q : Int) ∧ q < n ∧ shorter.length < rule.length ∧ rule.length + shorter.length = q + 1 ∧ shorter.length ≤ q ∧
    (∀ j, shorter.length ≤ j → j < q → gt row j = dueN p shorter row j) ∧ miss = (gt row q - dueN p shorter row q) % p ∧ miss ≠ 0
theorem BM.start (p : Int) (row : List Int) : BM p row 0 [] [] (-1) 1 := ⟨Rests.nil, Rests.nil, fun j _ h => absurd h (Nat.not_lt_zero _), .inl ⟨rfl, rfl, rfl, rfl⟩⟩
section
variable {p : Int} {row : List Int} {n : Nat} {rule shorter : List Int} {place miss : Int}
theorem BM.len (h : BM p row n rule shorter place miss) : rule.length ≤ n := by
  rcases h.st with ⟨h1, _⟩ | ⟨q, _, h1, _, h2, _⟩
  · rw [h1]; exact Nat.zero_le _
  · omega
theorem BM.len2 (h : BM p row n rule shorter place miss) : shorter.length ≤ n := by
  rcases h.st with ⟨_, h1, _⟩ | ⟨q, _, h1, _, h2, _⟩
  · rw [h1]; exact Nat.zero_le _
  · omega
theorem BM.lo (h : BM p row n rule shorter place miss) : -1 ≤ place ∧ place < n := by
  rcases h.st with ⟨_, _, h1, _⟩ | ⟨q, h0, h1, _⟩
  · omega
  · omega
theorem BM.missr (hp : 1 < p) (h : BM p row n rule shorter place miss) : 0 < miss ∧ miss < p := by
  rcases h.st with ⟨_, _, _, h1⟩ | ⟨q, _, _, _, _, _, _, h1, h2⟩
  · omega
  · have := mod_rest (a := gt row q - dueN p shorter row q) (p := p) (by (clear h1 h2; omega))
    (clear hp; omega)
theorem BM.skip (hp : 0 < p) (hr : Rests p row) (h : BM p row n rule shorter place miss) (hl : (gt row n - dueN p rule row n) % p = 0) : BM p row (n + 1) rule shorter place miss := by
  refine ⟨h.r1, h.r2, fun j h1 h2 => ?_, ?_⟩
  · by_cases hj : j < n
    · exact h.all j h1 hj
    · have : j = n := by (clear h1 hl hp; omega)
      subst this
      have a := hr.at hp j
      have b := dueN_rest hp rule row j
      exact rest_eq a.1 a.2 b.1 b.2 (Cg.of_zero (Cg.of_mod (by rw [hl, Int.zero_emod])))
  · rcases h.st with s | ⟨q, h1, h2, s⟩
    · exact .inl s
    · exact .inr ⟨q, h1, by (clear h1 hl hp; omega), s⟩
theorem BM.mixed (hp : 0 < p) (hr : Rests p row) (h : BM p row n rule shorter place miss) {share lack : Int} (hl : lack = (gt row n - dueN p rule row n) % p) (hs : Cg p (share * miss) lack) :
    ∀ j, (mixL p rule shorter ((n : Int) - place).toNat share).length ≤ j → j < n + 1 → gt row j = dueN p (mixL p rule shorter ((n : Int) - place).toNat share) row j := by
  intro j h1 h2
  rcases h.st with ⟨hr0, hs0, hpl, hm⟩ | ⟨q, hq, hqn, hlt, hsum, hle, hmk, hm, hm0⟩
  · rw [mixL_len, hr0, hs0, hpl] at h1
    have : ((n : Int) - -1).toNat = n + 1 := by (clear h1 h2 hl hm hp hpl hr0 hs0; omega)
    rw [this] at h1
    have : max ([] : List Int).length (n + 1 + ([] : List Int).length) = n + 1 := by simp
    (clear hl hm hp hpl hr0 hs0; omega)
  have hsh : ((n : Int) - place).toNat = n - q := by (clear h1 h2 hl hle hlt hm hm0 hp; omega)
  rw [hsh] at h1 ⊢
  rw [mixL_len] at h1
  by_cases hj : j < n
  · refine mix_row hp hr (by (clear h1 h2 hj hl hle hlt hm hm0 hp hq hsh; omega)) h1 (lack_zero (h.all j (by (clear h2 hj hl hle hlt hm hp hsh; omega)) hj)) (lack_zero (hmk (j - (n - q)) (by (clear h2 hj hl hle hlt hm hp hsh; omega)) (by (clear h2 hl hle hlt hm hp hsh; omega)))) ?_
    rw [Int.mul_zero]
    exact Cg.refl _ _
  · have : j = n := by (clear h1 hl hle hlt hm hm0 hp hq hqn hsh hsum; omega)
    subst this
    have c2 := lack_miss p shorter row q
    rw [← hm] at c2
    have c1 := lack_miss p rule row j
    rw [← hl] at c1
    refine mix_row (e := miss) hp hr (by (clear h1 h2 hj hl hle hlt hm hm0 hp hq hsh; omega)) h1 c1 ?_ hs
    rw [show j - (j - q) = q by (clear h1 h2 hj hl hle hlt hm hm0 hp hq hsh; omega)]
    exact c2
theorem BM.longer (hp : 0 < p) (hr : Rests p row) (h : BM p row n rule shorter place miss) {share lack : Int} (hl : lack = (gt row n - dueN p rule row n) % p) (h0 : lack ≠ 0) (hs : Cg p (share * miss) lack)
    (hg : rule.length < (mixL p rule shorter ((n : Int) - place).toNat share).length) : BM p row (n + 1) (mixL p rule shorter ((n : Int) - place).toNat share) rule n lack := by
  refine ⟨mixK_rests hp _ _ _ _ _, h.r1, h.mixed hp hr hl hs, .inr ⟨n, rfl, Nat.lt_succ_self _, hg, ?_, h.len, h.all, hl, h0⟩⟩
  rw [mixL_len] at hg ⊢
  rcases h.st with ⟨hr0, hs0, hpl, hm⟩ | ⟨q, hq, hqn, hlt, hsum, hle, hmk, hm, hm0⟩
  · rw [hr0, hs0, hpl]
    simp
  · (clear h0 hl hle hlt hm hp; omega)
theorem BM.same (hp : 0 < p) (hr : Rests p row) (h : BM p row n rule shorter place miss) {share lack : Int} (hl : lack = (gt row n - dueN p rule row n) % p) (h0 : lack ≠ 0) (hs : Cg p (share * miss) lack)
    (hg : ¬ rule.length < (mixL p rule shorter ((n : Int) - place).toNat share).length) : BM p row (n + 1) (mixL p rule shorter ((n : Int) - place).toNat share) shorter place miss := by
  refine ⟨mixK_rests hp _ _ _ _ _, h.r2, h.mixed hp hr hl hs, ?_⟩
  rw [mixL_len] at hg ⊢
  rcases h.st with ⟨hr0, hs0, hpl, hm⟩ | ⟨q, hq, hqn, hlt, hsum, hle, hmk, hm, hm0⟩
  · exfalso
    rw [hr0, hs0, hpl] at hg
    simp at hg
  · exact .inr ⟨q, hq, by (clear h0 hg hl hle hlt hm hm0 hp hq hsum; omega), by (clear h0 hl hle hm hp hq hqn; omega), by (clear h0 hl hle hlt hm hp hq hqn; omega), hle, hmk, hm, hm0⟩
theorem miss_ne (hp : 0 < p) {x y : Int} (h : (x - y) % p ≠ 0) : x ≠ y := fun e => h (by rw [e, Int.sub_self, Int.zero_emod])
theorem BM.least (hp : 0 < p) (h : BM p row row.length rule shorter place miss) : leastB p row rule shorter place = true := by
  unfold leastB
  rw [restsB_iff.mpr h.r1, restsB_iff.mpr h.r2, makes_iff.mpr h.all]
  rcases h.st with ⟨hr0, hs0, hpl, hm⟩ | ⟨q, hq, hqn, hlt, hsum, hle, hmk, hm, hm0⟩
  · rw [hr0, hs0, hpl]
    rfl
  · rw [if_neg (by (clear hle hm hm0 hp hq hqn; omega)), decide_eq_true (by (clear hle hm hm0 hp hq hqn hsum; omega) : shorter.length < rule.length), decide_eq_true (by (clear hle hlt hm hm0 hp hqn; omega) : (rule.length : Int) + shorter.length = place + 1), decide_eq_true (by (clear hlt hm hm0 hp; omega) : (shorter.length : Int) ≤ place ∧ place < row.length), hq]
    have e : firstB p row shorter q = true := by
      unfold firstB
      rw [(makes_take (by (clear hle hlt hm hm0 hp hq; omega))).mpr hmk]
      have : gt row q ≠ dueN p shorter row q := by
        rw [hm] at hm0
        exact miss_ne hp hm0
      simp [this]
    rw [show ((q : Int)).toNat = q from rfl, e]
    rfl
theorem BM.other (hp : 1 < p) (hr : Rests p row) (h : BM p row row.length rule shorter place miss) (h2 : row.length < 2 * rule.length) :
    (mixL p rule shorter (rule.length - shorter.length) 1).length = rule.length ∧ mixL p rule shorter (rule.length - shorter.length) 1 ≠ rule ∧ leastB p row (mixL p rule shorter (rule.length - shorter.length) 1) shorter place = true := by
  rcases h.st with ⟨hr0, hs0, hpl, hm⟩ | ⟨q, hq, hqn, hlt, hsum, hle, hmk, hm, hm0⟩
  · exfalso
    rw [hr0] at h2
    simp at h2
  have hL : (mixL p rule shorter (rule.length - shorter.length) 1).length = rule.length := by rw [mixL_len]; (clear h2 hle hm hm0 hp hq hqn; omega)
  refine ⟨hL, fun e => ?_, ?_⟩
  · have e1 : gt (mixL p rule shorter (rule.length - shorter.length) 1) (rule.length - shorter.length - 1) = gt rule (rule.length - shorter.length - 1) := by rw [e]
    unfold mixL mixK at e1
    rw [gt_map (by (clear e e1 h2 hle hm hm0 hp hq hqn; omega)), if_pos (by (clear e e1 h2 hle hm hm0 hp hq hqn; omega)), if_neg (by (clear e e1 h2 hle hm hm0 hp hq hqn; omega)), Int.sub_zero] at e1
    have a := h.r1.at (by (clear e e1 h2 hL hle hlt hm hm0 hq hqn hsum; omega) : 0 < p) (rule.length - shorter.length - 1)
    generalize gt rule (rule.length - shorter.length - 1) = x at e1 a
    by_cases hx : x + 1 < p
    · rw [Int.emod_eq_of_lt (by (clear e e1 h2 hL hle hlt hm hm0 hp hq hqn hsum hx; omega)) hx] at e1
      (clear a e h2 hL hle hlt hm hm0 hp hq hqn hsum hx; omega)
    · have : x + 1 = p := by (clear e e1 h2 hL hle hlt hm hm0 hp hq hqn hsum; omega)
      rw [this, Int.emod_self] at e1
      (clear e h2 hL hle hlt hm hm0 hq hqn hsum this; omega)
  · have key : BM p row row.length (mixL p rule shorter (rule.length - shorter.length) 1) shorter place miss := by
      refine ⟨mixK_rests (by (clear h2 hL hle hlt hm hm0 hq hqn hsum; omega)) _ _ _ _ _, h.r2, fun j h1 h3 => ?_, .inr ⟨q, hq, hqn, by (clear h2 hle hm hm0 hp hq hqn; omega), by (clear h2 hle hlt hm hm0 hp hq hqn; omega), hle, hmk, hm, hm0⟩⟩
      rw [mixL_len] at h1
      refine mix_row (by (clear h1 h2 h3 hL hle hlt hm hm0 hq hqn hsum; omega)) hr (by (clear h1 h2 h3 hle hm hm0 hp hq hqn; omega)) h1 (lack_zero (h.all j (by (clear h2 h3 hle hlt hm hm0 hp hq hqn; omega)) h3)) (lack_zero (hmk (j - (rule.length - shorter.length)) (by (clear h2 h3 hle hm hm0 hp hq hqn; omega)) (by (clear hle hm hm0 hp hq; omega)))) ?_
      rw [Int.mul_zero]
      exact Cg.refl _ _
    exact key.least (by (clear h2 hL hle hlt hm hm0 hq hqn hsum; omega))
end
theorem least_lens {p : Int} {row rule shorter : List Int} {place : Int} (h : leastB p row rule shorter place = true) : (rule.length : Int) + shorter.length = place + 1 := by
  unfold leastB at h
  simp only [Bool.and_eq_true] at h
  obtain ⟨_, h⟩ := h
  by_cases q : rule.length = 0
  · rw [if_pos q] at h
    simp at h
    rw [q, h.1, h.2]
    rfl
  · rw [if_neg q] at h
    simp only [Bool.and_eq_true, decide_eq_true_eq] at h
    exact h.1.1.2
theorem least_not {p : Int} {row rule shorter : List Int} {place : Int} (h : (rule.length : Int) + shorter.length ≠ place + 1) : leastB p row rule shorter place = false := by
  rw [Bool.eq_false_iff]
  exact fun z => h (least_lens z)
end RM

set_option Elab.async false
set_option linter.all false
namespace RM
section
variable {p : Int} {row rule shorter : List Int} {pl : Int}
theorem leastB_r1 (h : restsB p rule = false) : leastB p row rule shorter pl = false := by unfold leastB; rw [h]; rfl
theorem leastB_r2 (h : restsB p shorter = false) : leastB p row rule shorter pl = false := by unfold leastB; rw [h, Bool.and_false]; rfl
theorem leastB_mk (h : makesN p rule row = false) : leastB p row rule shorter pl = false := by unfold leastB; rw [h, Bool.and_false, Bool.false_and]
theorem leastB_nil (h1 : restsB p rule = true) (h2 : restsB p shorter = true) (h3 : makesN p rule row = true) (h4 : rule.length = 0) : leastB p row rule shorter pl = (decide (shorter.length = 0) && decide (pl = -1)) := by
  unfold leastB
  rw [h1, h2, h3, if_pos h4]
  rfl
theorem leastB_ge (h4 : rule.length ≠ 0) (h : rule.length ≤ shorter.length) : leastB p row rule shorter pl = false := by
  unfold leastB
  rw [if_neg h4, decide_eq_false (by (clear h4; omega) : ¬ shorter.length < rule.length), Bool.false_and, Bool.false_and, Bool.false_and, Bool.and_false]
theorem leastB_out (h4 : rule.length ≠ 0) (h : ¬ ((shorter.length : Int) ≤ pl ∧ pl < row.length)) : leastB p row rule shorter pl = false := by
  unfold leastB
  rw [if_neg h4, decide_eq_false h, Bool.and_false, Bool.false_and, Bool.and_false]
theorem leastB_last (h1 : restsB p rule = true) (h2 : restsB p shorter = true) (h3 : makesN p rule row = true) (h4 : rule.length ≠ 0) (h5 : shorter.length < rule.length) (h6 : (rule.length : Int) + shorter.length = pl + 1) :
    leastB p row rule shorter pl = (decide ((shorter.length : Int) ≤ pl ∧ pl < row.length) && firstB p row shorter pl.toNat) := by
  unfold leastB
  rw [h1, h2, h3, if_neg h4, decide_eq_true h5, decide_eq_true h6]
  rfl
end
theorem restsB_no {p : Int} {ns : List Int} {i : Nat} (hi : i < ns.length) (h : (decide (0 ≤ gt ns i) && decide (gt ns i < p)) = false) : restsB p ns = false := by
  rw [Bool.eq_false_iff]
  intro z
  have := restsB_iff.mp z _ (List.getElem_mem hi)
  rw [← gt_lt hi] at this
  rw [decide_eq_true this.1, decide_eq_true this.2] at h
  cases h
theorem restsB_yes {p : Int} {ns : List Int} (h : ∀ i, i < ns.length → (decide (0 ≤ gt ns i) && decide (gt ns i < p)) = true) : restsB p ns = true := by
  rw [restsB_iff]
  intro x hx
  obtain ⟨i, hi, rfl⟩ := List.getElem_of_mem hx
  have := h i hi
  rw [gt_lt hi] at this
  simpa using this
theorem restsB_all {p : Int} {ns : List Int} : ((List.range ns.length).map fun i => decide (0 ≤ gt ns i) && decide (gt ns i < p)).all id = restsB p ns := by
  cases e : restsB p ns with
  | true =>
    rw [List.all_eq_true]
    intro x hx
    obtain ⟨i, hi, rfl⟩ := List.mem_map.mp hx
    have hi := List.mem_range.mp hi
    have := restsB_iff.mp e _ (List.getElem_mem hi)
    rw [← gt_lt hi] at this
    simp [this.1, this.2]
  | false =>
    rw [Bool.eq_false_iff]
    intro z
    rw [List.all_eq_true] at z
    have : restsB p ns = true := restsB_yes fun i hi => z _ (List.mem_map.mpr ⟨i, List.mem_range.mpr hi, rfl⟩)
    rw [e] at this
    cases this
theorem BM.none_ {p : Int} {rule shorter : List Int} {pl miss : Int} (h : BM p [] 0 rule shorter pl miss) : rule = [] := List.eq_nil_of_length_eq_zero (Nat.le_zero.mp h.len)
end RM

set_option Elab.async false
set_option linter.all false
namespace RM
section
variable {p : Int} {row : List Int} {rule shorter : List Int} {pl miss : Int}
theorem cv_turn (f g h : Nat → Int) (n : Nat) : cv f (cv g h) n = cv g (cv f h) n := by
  rw [cv_assoc, cv_assoc]
  exact cv_eq (fun i _ => cv_comm f g i) (fun _ _ => rfl)
theorem BM.min (hp : 0 < p) (h : BM p row row.length rule shorter pl miss) {R : List Int} (hR : makesN p R row = true) : rule.length ≤ R.length := by
  rcases h.st with ⟨hr0, _⟩ | ⟨q, hq, hqn, hlt, hsum, hle, hmk, hm, hm0⟩
  · rw [hr0]
    exact Nat.zero_le _
  refine Nat.le_of_not_lt fun hc => ?_
  have e1 := cv_goes (p := p) (q := polyN p shorter) (n := q) (Goes.of_makes hR) (by rw [polyN_len]; (clear hR hle hlt hm hm0 hp hq hqn; omega)) hqn
  rw [cv_turn] at e1
  have e2 : Cg p (cv (gt (polyN p R)) (cv (gt (polyN p shorter)) (gt row)) q) (cv (gt (polyN p shorter)) (gt row) q) := by
    unfold cv
    rw [sm_front]
    have z : Cg p (sm q fun i => gt (polyN p R) (i + 1) * sm (q - (i + 1) + 1) fun j => gt (polyN p shorter) j * gt row (q - (i + 1) - j)) 0 := by
      have z0 : Cg p (sm q fun i => gt (polyN p R) (i + 1) * sm (q - (i + 1) + 1) fun j => gt (polyN p shorter) j * gt row (q - (i + 1) - j)) (sm q fun _ => 0) := by
        refine Cg.sm fun i hi => ?_
        by_cases hi2 : i + 1 ≤ R.length
        · have k1 := cv_poly p shorter (gt row) (q - (i + 1)) (by (clear hR hle hlt hm hm0 hp hq hqn; omega))
          have k2 := hmk (q - (i + 1)) (by (clear hR hle hlt hm hm0 hp hq hqn; omega)) (by (clear hR hc hi2 hle hlt hm hm0 hp hq hqn; omega))
          have k3 : Cg p (gt row (q - (i + 1)) - sm shorter.length fun j => gt shorter j * gt row (q - (i + 1) - 1 - j)) 0 := by
            refine Cg.zero_of ?_
            rw [k2]
            exact Cg.emod _ _
          have k4 := Cg.mul (Cg.refl p (gt (polyN p R) (i + 1))) (k1.trans k3)
          rwa [Int.mul_zero] at k4
        · rw [gt_ge (l := polyN p R) (by rw [polyN_len]; (clear hR hc hi hle hlt hm hm0 hp hq hqn hsum; omega)), Int.zero_mul]
          exact Cg.refl _ _
      rwa [sm_zero (fun _ _ => rfl)] at z0
    have z1 := (Cg.refl p (gt (polyN p R) 0 * sm (q - 0 + 1) fun j => gt (polyN p shorter) j * gt row (q - 0 - j))).add z
    refine z1.trans (Cg.of_eq ?_)
    rw [polyN_0, Int.one_mul, Int.add_zero]
    rfl
  have e3 := cv_poly p shorter (gt row) q hle
  have e4 : Cg p (gt row q - dueN p shorter row q) 0 := (Cg.sub (Cg.refl _ _) (Cg.emod _ _)).trans ((e3.symm.trans e2.symm).trans e1)
  apply hm0
  rw [hm]
  have := e4.eq hp
  rw [this, Int.zero_emod]
theorem BM.as_long (hp : 0 < p) {rule' shorter' : List Int} {pl' miss' : Int} (h : BM p row row.length rule shorter pl miss) (h' : BM p row row.length rule' shorter' pl' miss') : rule.length = rule'.length :=
  Nat.le_antisymm (h.min hp (makes_iff.mpr h'.all)) (h'.min hp (makes_iff.mpr h.all))
end
end RM

set_option Elab.async false
set_option linter.all false
set_option maxRecDepth 100000
namespace Rr
open PySem L2 RM

noncomputable def Ls (H : Hp) (a : Addr) (ns : List Int) : Prop := H a = some (.lst (ns.map V.int))
theorem Ls.sq {K : PySem.W.Frag} {H : Hp} {a : Addr} {ns : List Int} (h : Ls H a ns) : SqL K H a (ns.map V.int) := SqL.of h
theorem Ls.same {H H' : Hp} {a : Addr} {ns : List Int} (h : Ls H a ns) (s : Same H H') : Ls H' a ns := s _ _ h
theorem Ls.new {H : Hp} {p : Addr} {ns : List Int} {xs : List V} (e : xs = ns.map V.int) : Ls (upd H p (.lst xs)) p ns := by
  unfold Ls
  rw [upd_same, e]
theorem at_int {ns : List Int} {i : Nat} {x : V} (h : (ns.map V.int)[i]? = some x) : x = .int (gt ns i) ∧ i < ns.length := by
  rw [List.getElem?_map] at h
  cases e : ns[i]? with
  | none => rw [e] at h; cases h
  | some n =>
    rw [e] at h
    rw [gt_some e]
    exact ⟨(Option.some.inj h).symm, (List.getElem?_eq_some_iff.mp e).1⟩
theorem atI_int {ns : List Int} {i : Int} {k : Nat} (hi : i = (k : Int)) (h : k < ns.length) : atI (ns.map V.int) i = some (.int (gt ns k)) := by
  subst hi
  refine atI_nat ?_
  rw [List.getElem?_map, List.getElem?_eq_getElem h, gt_lt h]
  rfl
theorem mapInt {n : Nat} (f : Nat → Int) : (List.range n).map (fun i => V.int (f i)) = ((List.range n).map f).map V.int := by
  rw [List.map_map]
  rfl
theorem mapBl {n : Nat} (f : Nat → Bool) : (List.range n).map (fun i => V.bl (f i)) = ((List.range n).map f).map V.bl := by
  rw [List.map_map]
  rfl
theorem small {n : Nat} (h : n ≤ 10000) : n ≤ sizeLine := Nat.le_trans h (by decide)
noncomputable def PrimeOk (p : Int) : Prop := 2 ≤ p ∧ p ≤ 997 ∧ ∀ d : Int, 2 ≤ d → d * d ≤ p → p % d ≠ 0
theorem PrimeOk.pos {p : Int} (h : PrimeOk p) : 0 < p := by have := h.1; omega
theorem ones_of {p : Int} (h : p = 2 ∨ p = 3 ∨ p = 5 ∨ p = 7 ∨ p = 11 ∨ p = 31 ∨ p = 997) : PrimeOk p := by
  refine ⟨by omega, by omega, fun d h1 h2 => ?_⟩
  have hd : d ≤ 31 := by
    refine Int.not_lt.mp fun q => ?_
    have q1 : (32 : Int) * 32 ≤ d * d := Int.mul_le_mul (by (clear h h1 h2; omega)) (by (clear h h1 h2; omega)) (by (clear h h1 h2 q; omega)) (by (clear h h1 h2; omega))
    (clear h1 q; omega)
  obtain ⟨n, rfl⟩ : ∃ n : Nat, d = (n : Int) := ⟨d.toNat, by (clear h h2; omega)⟩
  have hn : n < 32 := by (clear h h2; omega)
  have key : ∀ n : Nat, n < 32 → 2 ≤ n → ∀ q ∈ [(2 : Int), 3, 5, 7, 11, 31, 997], (n : Int) * n ≤ q → q % (n : Int) ≠ 0 := by decide +kernel
  exact key n hn (by (clear h h2 hn; omega)) p (by simp; (clear h1 h2 hd hn; omega)) h2
section
variable (K : PySem.W.Frag)
noncomputable def spWhole : Sp := fun vs H Q _ => ∃ (i : Int), vs = [.int i] ∧ Q (.bl true) H
noncomputable def spPrime : Sp := fun vs H Q _ => ∃ (p : Int), vs = [.int p] ∧ PrimeOk p ∧ Q (.bl true) H
noncomputable def spAre : Sp := fun vs H Q _ => ∃ (p : Int) (a : Addr) (ns : List Int), vs = [.int p, .ref a] ∧ Ls H a ns ∧ Rests p ns ∧ Q (.bl true) H
noncomputable def spNeedPrime : Sp := fun vs H Q _ => ∃ (p : Int), vs = [.int p] ∧ PrimeOk p ∧ Q .non H
noncomputable def spNeed : Sp := fun vs H Q _ => ∃ (p : Int) (a : Addr) (ns : List Int), vs = [.int p, .ref a] ∧ Ls H a ns ∧ Rests p ns ∧ Q .non H
structure RR (p : Int) (rule row : List Int) : Prop where
  pr : PrimeOk p
  r1 : Rests p rule
  r2 : Rests p row
  l1 : rule.length ≤ 100
  l2 : row.length ≤ 1000
noncomputable def spMakes : Sp := fun vs H Q _ => ∃ (p : Int) (a : Addr) (b : Addr) (rule : List Int) (row : List Int), vs = [.int p, .ref a, .ref b] ∧ Ls H a rule ∧ Ls H b row ∧ RR p rule row ∧ ∀ H', Same H H' → Q (.bl (makesN p rule row)) H'
noncomputable def spDue : Sp := fun vs H Q _ => ∃ (p : Int) (a : Addr) (b : Addr) (rule : List Int) (row : List Int) (k : Nat), vs = [.int p, .ref a, .ref b, .int ((k : Nat) : Int)] ∧ Ls H a rule ∧ Ls H b row ∧ RR p rule row ∧ rule.length ≤ k ∧ k ≤ row.length ∧ ∀ H', Same H H' → Q (.int (dueN p rule row k)) H'
noncomputable def spCell : Sp := fun vs H Q _ => ∃ (a : Addr) (ns : List Int) (k : Nat), vs = [.ref a, .int ((k : Nat) : Int)] ∧ SqL K H a (ns.map V.int) ∧ ns.length ≤ 1000 ∧ Q (.int (gt ns k)) H
noncomputable def spDraw : Sp := fun vs H Q _ => ∃ (c : Int) (k : Nat) (m : Int), vs = [.int c, .int ((k : Nat) : Int), .int m] ∧ 0 < m ∧ ∀ v H', 0 ≤ v → v < m → Same H H' → Q (.int v) H'
noncomputable def spPrimeL : Sp := fun vs H Q _ => ∃ (a : Addr) (ns : List Int), vs = [.ref a] ∧ SqL K H a (ns.map V.int) ∧ ns.length ≤ 1000 ∧ ∀ p H', (p = 2 ∨ p = 3 ∨ p = 5 ∨ p = 7 ∨ p = 11 ∨ p = 31 ∨ p = 997) → Same H H' → Q (.int p) H'
noncomputable def spRests : Sp := fun vs H Q _ => ∃ (a : Addr) (ns : List Int) (b : Nat) (p : Int) (m : Nat), vs = [.ref a, .int ((b : Nat) : Int), .int p, .int ((m : Nat) : Int)] ∧ SqL K H a (ns.map V.int) ∧ ns.length ≤ 1000 ∧ 0 < p ∧ m ≤ 1000 ∧
  ∀ (r : Addr) (H' : Hp) (l : List Int), Same H H' → H r = none → Ls H' r l → Rests p l → l.length = m → Q (.ref r) H'
noncomputable def spRow : Sp := fun vs H Q _ => ∃ (a : Addr) (ns : List Int) (p : Int), vs = [.ref a, .int p] ∧ SqL K H a (ns.map V.int) ∧ ns.length ≤ 1000 ∧ PrimeOk p ∧ ∀ (r : Addr) (H' : Hp) (l : List Int), Same H H' → H r = none → Ls H' r l → Rests p l → l.length = ns.length → Q (.ref r) H'
noncomputable def spMade : Sp := fun vs H Q _ => ∃ (p : Int) (a : Addr) (b : Addr) (rule : List Int) (row : List Int), vs = [.int p, .ref a, .ref b] ∧ Ls H a rule ∧ Ls H b row ∧ RR p rule row ∧ ∀ H', Same H H' → Q (.bl (makesN p rule row)) H'
noncomputable def spLaw : Sp := fun vs H Q _ => ∃ (a : Addr) (ns : List Int), vs = [.ref a] ∧ SqL K H a (ns.map V.int) ∧ ns.length ≤ 63 ∧ ∀ H', Q (.bl true) H'
end
structure Def (K : PySem.W.Frag) (mg : Str → Option Value) (x : Str) (st : Stmt) (ps : List Str) (f : Addr) (fd : FuncData) : Prop where
  F : Fun K x x st f fd
  b : Binds K fd ps []
  m : mg x = some (.ref f)
structure Own (mg : Str → Option Value) : Prop where
  isinstance : mg "isinstance" = none
  int : mg "int" = none
  bool : mg "bool" = none
  list : mg "list" = none
  len : mg "len" = none
  range : mg "range" = none
  sum : mg "sum" = none
  zip : mg "zip" = none
  reversed : mg "reversed" = none
  enumerate : mg "enumerate" = none
  max : mg "max" = none
  min : mg "min" = none
  all : mg "all" = none
  any : mg "any" = none
  abs : mg "abs" = none
theorem boot_isi : bootBuiltins "isinstance" = some (.builtin "isinstance") := by decide +kernel
theorem boot_intT : bootBuiltins "int" = some (.type "int") := by decide +kernel
theorem boot_boolT : bootBuiltins "bool" = some (.type "bool") := by decide +kernel
theorem boot_listT : bootBuiltins "list" = some (.type "list") := by decide +kernel
theorem boot_sumB : bootBuiltins "sum" = some (.builtin "sum") := by decide +kernel
theorem boot_maxB : bootBuiltins "max" = some (.builtin "max") := by decide +kernel
theorem boot_allB : bootBuiltins "all" = some (.builtin "all") := by decide +kernel
theorem boot_anyB : bootBuiltins "any" = some (.builtin "any") := by decide +kernel
section
variable {X : Cx} {x : Str} {st : Stmt} {ps : List Str} {f : Addr} {fd : FuncData} {j k : Nat} {sp : Sp} {e : Expr} {es : List Expr} {t : TA} {p pos : Pos}
theorem pcall (D : Def X.K X.mg x st ps f fd) (G : FnOk X.prog X.w X.K X.mg X.base CX0 j f fd ps sp) (hr : Room k X.A) (ha : PA X (e :: es) t) (hj : j ≤ k := by decide) (hg : Gl X x := by rfl) (hdb : (x == ("__debug__" : Str)) = false := by decide)
    (he : starEach (e :: es) X.env = (false, eval e X.env) :: starEach es X.env := by rfl) (hpl : (backTo pos (starEach es X.env)).any (·.1) = false := by rfl) :
    PE X (.Call (.Name x p) (e :: es) [] pos) (tCall sp [] E0 t) := pe_call (G.mono hj) hr hg D.m D.F.kp D.b .nil pass0 ha hdb he hpl
theorem pint {i : Int} {j : Nat} {pos : Pos} : PE X (.Constant (.int i) j pos) (tC (.int i)) := pe_int
theorem plen (o : Own X.mg) {e : Expr} {te : TE} {p pos : Pos} (h : PE X e te) (hg : Gl X "len" := by rfl) (hs : starEach [e] X.env = [(false, eval e X.env)] := by rfl) :
    PE X (.Call (.Name "len" p) [e] [] pos) (tCB (fun xs H Q => ∃ p ys, xs = [.ref p] ∧ (SqL X.K H p ys ∨ SqT X.K H p ys) ∧ Q (.int ys.length) H) (tCons te tNil)) :=
  pe_callB call_len_seq hg o.len PySem.boot_len (pa_cons h pa_nil (by rw [hs]; rfl)) (by decide) (by decide) (by rw [hs]; rfl) rfl
theorem pgn (i : Nat) {x : Str} {pos : Pos} (hN : X.N.Nodup := by exact of_decide_eq_true (by kernel_rfl)) (hi : X.N[i]? = some x := by rfl) (hx : Loc X.env.scope x := by exact Or.inl rfl)
    (hf : X.fn x = true ∨ X.env.scope.names.lookup x = some .local := by first | exact .inl rfl | exact .inr rfl) : PG X (.Name x pos) (gName i) := pg_name hN hi hx hf
theorem pgp {x y : Str} {px py pos : Pos} {k : Nat} (hc : X.calm = true := by rfl) (hN : X.N.Nodup := by exact of_decide_eq_true (by kernel_rfl)) (h0 : X.N[0]? = some x := by rfl) (h1 : X.N[1]? = some y := by rfl) (hx : X.env.scope.names.lookup x = some .local := by rfl)
    (hy : X.env.scope.names.lookup y = some .local := by rfl) : PG X (.Tuple [.Name x px, .Name y py] k pos) (gPair X.K) :=
  pg_tup hc (pgs_cons (pg_name hN h0 (.inl hx) (.inr hx)) (pgs_cons (pg_name hN h1 (.inl hy) (.inr hy)) pgs_nil))
end
theorem ixK {X : Cx} {K : PySem.W.Frag} (h : X.K = K) : IxR X (rIxL K) := h ▸ ix_list
theorem isiK {X : Cx} {K : PySem.W.Frag} (h : X.K = K) : CallR X (.builtin "isinstance") (fun xs H Q => ∃ x T t b, xs = [x, .ty T] ∧ TyOf K H x t ∧ PySem.W.kitOne K t (.type T) = some b ∧ Q (.bl b) H) := h ▸ call_isi
theorem cut_at {ns : List Int} {lo hi : Nat} (h1 : lo ≤ hi) (h2 : hi ≤ ns.length) : cutV (ns.map V.int) (some (lo : Int)) (some (hi : Int)) = ((ns.drop lo).take (hi - lo)).map V.int := by
  unfold cutV
  rw [HT.sIx_nat, HT.sIx_nat, List.length_map, show min lo ns.length = lo by omega, show min hi ns.length = hi by (clear h1; omega), List.map_take, List.map_drop]
theorem cut_from {ns : List Int} {lo : Nat} (h1 : lo ≤ ns.length) : cutV (ns.map V.int) (some (lo : Int)) none = (ns.drop lo).map V.int := by
  unfold cutV
  rw [HT.sIx_nat, HT.sIx_none, List.length_map, show min lo ns.length = lo by omega, List.map_drop, List.take_of_length_le (by rw [List.length_drop, List.length_map]; (clear h1; omega))]
theorem gt_take {l : List Int} {k i : Nat} (h : i < k) : gt (l.take k) i = gt l i := by
  unfold gt
  rw [List.getD_eq_getElem?_getD, List.getD_eq_getElem?_getD, List.getElem?_take_of_lt h]
theorem gt_reverse {l : List Int} {i : Nat} (h : i < l.length) : gt l.reverse i = gt l (l.length - 1 - i) := by
  unfold gt
  rw [List.getD_eq_getElem?_getD, List.getD_eq_getElem?_getD, List.getElem?_reverse h]
theorem sput {H H1 : Hp} {l : Addr} {o : HO} (h : Same H H1) (hn : H l = none) : Same H (upd H1 l o) := fun b u q => by
  rw [upd_ne (ne_of_none q hn)]
  exact h b u q
theorem iteFd {c A B : Prop} [Decidable c] (hc : ¬ c) (h : B) : if decide c = true then A else B := by
  rw [decide_eq_false hc]
  exact iteF h
theorem iteTd {c A B : Prop} [Decidable c] (hc : c) (h : A) : if decide c = true then A else B := by
  rw [decide_eq_true hc]
  exact iteT h
theorem iteNd {c A B : Prop} [Decidable c] (hc : c) (h : B) : if (!decide c) = true then A else B := by
  rw [decide_eq_true hc]
  exact iteF h
theorem iteYd {c A B : Prop} [Decidable c] (hc : ¬ c) (h : A) : if (!decide c) = true then A else B := by
  rw [decide_eq_false hc]
  exact iteT h
theorem kit_int_int (K : PySem.W.Frag) : PySem.W.kitOne K (.type "int") (.type "int") = some true := by
  unfold PySem.W.kitOne
  exact if_pos (by decide)
theorem kit_int_bool (K : PySem.W.Frag) : PySem.W.kitOne K (.type "int") (.type "bool") = some false := by
  kernel_rfl
theorem kit_list_list (K : PySem.W.Frag) : PySem.W.kitOne K (.type "list") (.type "list") = some true := by
  unfold PySem.W.kitOne
  exact if_pos (by decide)
end Rr

set_option Elab.async false
set_option linter.all false
set_option maxRecDepth 100000
namespace Rr
open PySem L2 RM
noncomputable def Seven (p : Int) : Prop := p = 2 ∨ p = 3 ∨ p = 5 ∨ p = 7 ∨ p = 11 ∨ p = 31 ∨ p = 997
theorem Seven.ok {p : Int} (h : Seven p) : PrimeOk p := ones_of h
theorem Seven.two {p : Int} (h : Seven p) : 1 < p := by unfold Seven at h; omega
noncomputable def spRestB : Sp := fun vs H Q _ => ∃ (p : Int) (i : Int), vs = [.int p, .int i] ∧ Q (.bl (decide (0 ≤ i) && decide (i < p))) H
noncomputable def spAreB : Sp := fun vs H Q _ => ∃ (p : Int) (a : Addr) (ns : List Int), vs = [.int p, .ref a] ∧ Ls H a ns ∧ Q (.bl (restsB p ns)) H
noncomputable def spRestedB : Sp := fun vs H Q _ => ∃ (p : Int) (a : Addr) (ns : List Int), vs = [.int p, .ref a] ∧ Ls H a ns ∧ ns.length ≤ 1000 ∧ ∀ H', Same H H' → Q (.bl (restsB p ns)) H'
noncomputable def spInv : Sp := fun vs H Q _ => ∃ (p x : Int), vs = [.int p, .int x] ∧ Seven p ∧ 0 < x ∧ x < p ∧ ∀ t : Int, 0 ≤ t → t < p → Cg p (x * t) 1 → Q (.int t) H
structure LR (p : Int) (row rule shorter : List Int) : Prop where
  pr : PrimeOk p
  r : Rests p row
  l1 : row.length ≤ 1000
  l2 : rule.length ≤ 100
  l3 : shorter.length ≤ 100
noncomputable def spFails : Sp := fun vs H Q _ => ∃ (p : Int) (a : Addr) (b : Addr) (rule : List Int) (row : List Int) (pl : Int), vs = [.int p, .ref a, .ref b, .int pl] ∧ Ls H a rule ∧ Ls H b row ∧ RR p rule row ∧
  ∀ H', Same H H' → Q (.bl (decide ((rule.length : Int) ≤ pl ∧ pl < row.length) && firstB p row rule pl.toNat)) H'
noncomputable def spIsLeast : Sp := fun vs H Q _ => ∃ (p : Int) (b : Addr) (a : Addr) (c : Addr) (row : List Int) (rule : List Int) (shorter : List Int) (pl : Int), vs = [.int p, .ref b, .ref a, .ref c, .int pl] ∧ Ls H b row ∧ Ls H a rule ∧ Ls H c shorter ∧ LR p row rule shorter ∧
  ∀ H', Same H H' → Q (.bl (leastB p row rule shorter pl)) H'
inductive Tag (p : Prop) : Prop where
  | mk (h : p) : Tag p
theorem PE.tag {X : Cx} {e : Expr} {t : TE} (h : PE X e t) : PE X e (fun σ H Q => Tag (t σ H Q)) := fun pins s σ H Q I q => h pins s σ H Q I (q.casesOn id)
noncomputable abbrev tL5 (K : PySem.W.Frag) (i j k : Nat) (f1 f2 f3 : Str) : TE := tCall spIsLeast [] E0 (tCons (tVar j) (tCons (tVar k) (tCons (tFld K (tVar i) f1) (tCons (tFld K (tVar i) f2) (tCons (tFld K (tVar i) f3) tNil)))))
theorem call5 {K : PySem.W.Frag} {C x dx b r s : Addr} {fs : List (Str × V)} {f1 f2 f3 : Str} {row rule shorter : List Int} {p pl : Int} {i j k : Nat} {σ : St} {H : Hp} {Q : VK} (hx : H x = some (.ins C dx fs)) (cl : Cls K C) (n1 : NoAttr K C f1) (n2 : NoAttr K C f2) (n3 : NoAttr K C f3) (l1 : fs.lookup f1 = some (.ref r)) (l2 : fs.lookup f2 = some (.ref s)) (l3 : fs.lookup f3 = some (.int pl))
    (ei : σ[i]? = some (some (.ref x))) (ej : σ[j]? = some (some (.int p))) (ek : σ[k]? = some (some (.ref b))) (hb : Ls H b row) (h1 : Ls H r rule) (h2 : Ls H s shorter) (lr : LR p row rule shorter) (q : ∀ H', Same H H' → Q (.bl (leastB p row rule shorter pl)) H') : Tag (tL5 K i j k f1 f2 f3 σ H Q) :=
  .mk ⟨_, ej, _, ek, _, ei, x, C, dx, _, _, rfl, hx, cl, n1, l1, _, ei, x, C, dx, _, _, rfl, hx, cl, n2, l2, _, ei, x, C, dx, _, _, rfl, hx, cl, n3, l3, p, b, r, s, row, rule, shorter, pl, rfl, hb, h1, h2, lr, q⟩
noncomputable def flds3 (r s : Addr) (pl : Int) : List (Str × V) := putF "place" (.int pl) (putF "shorter" (.ref s) (putF "rule" (.ref r) []))
theorem flds3_r {r s : Addr} {pl : Int} : (flds3 r s pl).lookup ("rule" : Str) = some (.ref r) := by
  unfold flds3
  rw [lookup_putF, if_neg (by decide), lookup_putF, if_neg (by decide), lookup_putF, if_pos rfl]
theorem flds3_s {r s : Addr} {pl : Int} : (flds3 r s pl).lookup ("shorter" : Str) = some (.ref s) := by
  unfold flds3
  rw [lookup_putF, if_neg (by decide), lookup_putF, if_pos rfl]
theorem flds3_p {r s : Addr} {pl : Int} : (flds3 r s pl).lookup ("place" : Str) = some (.int pl) := by
  unfold flds3
  rw [lookup_putF, if_pos rfl]
theorem flds3_m {r s : Addr} {pl : Int} : (flds3 r s pl).lookup ("shows" : Str) = none := by
  unfold flds3
  rw [lookup_putF, if_neg (by decide), lookup_putF, if_neg (by decide), lookup_putF, if_neg (by decide)]
  rfl
noncomputable def flds4 (r t s : Addr) (pl : Int) : List (Str × V) := putF "place" (.int pl) (putF "shorter" (.ref s) (putF "other" (.ref t) (putF "one" (.ref r) [])))
theorem flds4_r {r t s : Addr} {pl : Int} : (flds4 r t s pl).lookup ("one" : Str) = some (.ref r) := by
  unfold flds4
  rw [lookup_putF, if_neg (by decide), lookup_putF, if_neg (by decide), lookup_putF, if_neg (by decide), lookup_putF, if_pos rfl]
theorem flds4_t {r t s : Addr} {pl : Int} : (flds4 r t s pl).lookup ("other" : Str) = some (.ref t) := by
  unfold flds4
  rw [lookup_putF, if_neg (by decide), lookup_putF, if_neg (by decide), lookup_putF, if_pos rfl]
theorem flds4_s {r t s : Addr} {pl : Int} : (flds4 r t s pl).lookup ("shorter" : Str) = some (.ref s) := by
  unfold flds4
  rw [lookup_putF, if_neg (by decide), lookup_putF, if_pos rfl]
theorem flds4_p {r t s : Addr} {pl : Int} : (flds4 r t s pl).lookup ("place" : Str) = some (.int pl) := by
  unfold flds4
  rw [lookup_putF, if_pos rfl]
theorem flds4_m {r t s : Addr} {pl : Int} : (flds4 r t s pl).lookup ("shows" : Str) = none := by
  unfold flds4
  rw [lookup_putF, if_neg (by decide), lookup_putF, if_neg (by decide), lookup_putF, if_neg (by decide), lookup_putF, if_neg (by decide)]
  rfl
structure Ans3 (C : Addr) (H : Hp) (x ra sa : Addr) (rule shorter : List Int) (pl : Int) : Prop where
  ob : ∃ dx, H x = some (.ins C dx (flds3 ra sa pl))
  r : Ls H ra rule
  s : Ls H sa shorter
  ne : ra ≠ sa
theorem Ans3.same {C : Addr} {H H' : Hp} {x r s : Addr} {rule shorter : List Int} {pl : Int} (h : Ans3 C H x r s rule shorter pl) (q : Same H H') : Ans3 C H' x r s rule shorter pl :=
  ⟨let ⟨dx, e⟩ := h.ob; ⟨dx, q _ _ e⟩, h.r.same q, h.s.same q, h.ne⟩
structure Ans4 (C : Addr) (H : Hp) (x ra ta sa : Addr) (one other shorter : List Int) (pl : Int) : Prop where
  ob : ∃ dx, H x = some (.ins C dx (flds4 ra ta sa pl))
  r : Ls H ra one
  t : Ls H ta other
  s : Ls H sa shorter
  n1 : ra ≠ ta
  n2 : ra ≠ sa
  n3 : ta ≠ sa
theorem Ans4.same {C : Addr} {H H' : Hp} {x r t s : Addr} {one other shorter : List Int} {pl : Int} (h : Ans4 C H x r t s one other shorter pl) (q : Same H H') : Ans4 C H' x r t s one other shorter pl :=
  ⟨let ⟨dx, e⟩ := h.ob; ⟨dx, q _ _ e⟩, h.r.same q, h.t.same q, h.s.same q, h.n1, h.n2, h.n3⟩
structure Cl3 (K : PySem.W.Frag) (C : Addr) : Prop where
  cl : Cls K C
  r : NoAttr K C "rule"
  s : NoAttr K C "shorter"
  p : NoAttr K C "place"
structure Cl4 (K : PySem.W.Frag) (C : Addr) : Prop where
  cl : Cls K C
  r : NoAttr K C "one"
  t : NoAttr K C "other"
  s : NoAttr K C "shorter"
  p : NoAttr K C "place"
noncomputable def spInit3 (C : Addr) : Sp := fun vs H Q _ => ∃ (x : Addr) (a : Addr) (c : Addr) (pl : Int) (dx : Addr) (rule : List Int) (shorter : List Int), vs = [.ref x, .ref a, .ref c, .int pl] ∧ H x = some (.ins C dx []) ∧ Ls H a rule ∧ Ls H c shorter ∧
  ∀ (r s : Addr) (H' : Hp), H r = none → H s = none → Ans3 C H' x r s rule shorter pl → (∀ b o, b ≠ x → H b = some o → H' b = some o) → Q .non H'
noncomputable def spInit4 (C : Addr) : Sp := fun vs H Q _ => ∃ (x : Addr) (a : Addr) (b : Addr) (c : Addr) (pl : Int) (dx : Addr) (one : List Int) (other : List Int) (shorter : List Int), vs = [.ref x, .ref a, .ref b, .ref c, .int pl] ∧ H x = some (.ins C dx []) ∧ Ls H a one ∧ Ls H b other ∧ Ls H c shorter ∧
  ∀ (r t s : Addr) (H' : Hp), H r = none → H t = none → H s = none → Ans4 C H' x r t s one other shorter pl → (∀ b o, b ≠ x → H b = some o → H' b = some o) → Q .non H'
noncomputable def spShows (C : Addr) : Sp := fun vs H Q _ => ∃ (x : Addr) (p : Int) (b : Addr) (r : Addr) (s : Addr) (row : List Int) (rule : List Int) (shorter : List Int) (pl : Int), vs = [.ref x, .int p, .ref b] ∧ Ans3 C H x r s rule shorter pl ∧ Ls H b row ∧ LR p row rule shorter ∧
  ∀ H', Same H H' → Q (.bl (leastB p row rule shorter pl)) H'
noncomputable def soleB (row rule : List Int) : Bool := decide (2 * (rule.length : Int) ≤ row.length)
noncomputable def spShowsO (C : Addr) : Sp := fun vs H Q _ => ∃ (x : Addr) (p : Int) (b : Addr) (r : Addr) (s : Addr) (row : List Int) (rule : List Int) (shorter : List Int) (pl : Int), vs = [.ref x, .int p, .ref b] ∧ Ans3 C H x r s rule shorter pl ∧ Ls H b row ∧ LR p row rule shorter ∧
  ∀ H', Same H H' → Q (.bl (soleB row rule && leastB p row rule shorter pl)) H'
noncomputable def anoB (p : Int) (row one other shorter : List Int) (pl : Int) : Bool := decide (one.length = other.length) && !decide (one = other) && leastB p row one shorter pl && leastB p row other shorter pl
noncomputable def spShowsA (C : Addr) : Sp := fun vs H Q _ => ∃ (x : Addr) (p : Int) (b : Addr) (r : Addr) (t : Addr) (s : Addr) (row : List Int) (one : List Int) (other : List Int) (shorter : List Int) (pl : Int), vs = [.ref x, .int p, .ref b] ∧ Ans4 C H x r t s one other shorter pl ∧ Ls H b row ∧ LR p row one shorter ∧ other.length ≤ 100 ∧
  ∀ H', Same H H' → Q (.bl (anoB p row one other shorter pl)) H'
noncomputable def spSole : Sp := fun vs H Q _ => ∃ (a : Addr) (b : Addr) (rule : List Int) (row : List Int), vs = [.ref a, .ref b] ∧ Ls H a rule ∧ Ls H b row ∧ rule.length ≤ 1000 ∧ row.length ≤ 1000 ∧ Q (.bl (soleB row rule)) H
noncomputable def spMixed : Sp := fun vs H Q _ => ∃ (p : Int) (a : Addr) (c : Addr) (rule : List Int) (shorter : List Int) (sh : Nat) (share : Int), vs = [.int p, .ref a, .ref c, .int ((sh : Nat) : Int), .int share] ∧ Ls H a rule ∧ Ls H c shorter ∧ 0 < p ∧ p ≤ 1000 ∧ Rests p rule ∧ Rests p shorter ∧
  1 ≤ sh ∧ sh ≤ 1000 ∧ 0 ≤ share ∧ share < p ∧ rule.length ≤ 1000 ∧ shorter.length ≤ 1000 ∧ ∀ (r : Addr) (H' : Hp), Same H H' → H r = none → Ls H' r (mixL p rule shorter sh share) → Q (.ref r) H'
noncomputable def spLeast (C : Addr) : Sp := fun vs H Q _ => ∃ (p : Int) (b : Addr) (row : List Int), vs = [.int p, .ref b] ∧ Ls H b row ∧ Seven p ∧ Rests p row ∧ row.length ≤ 100 ∧
  ∀ (x r s : Addr) (H' : Hp) (rule shorter : List Int) (pl miss : Int), Same H H' → H x = none → H r = none → H s = none → Ans3 C H' x r s rule shorter pl → BM p row row.length rule shorter pl miss → Q (.ref x) H'
noncomputable def spUnlike (CO CA : Addr) : Sp := fun vs H Q _ => ∃ (p : Int) (b : Addr) (row : List Int), vs = [.int p, .ref b] ∧ Ls H b row ∧ Seven p ∧ Rests p row ∧ row.length ≤ 100 ∧
  (∀ (x r s : Addr) (H' : Hp) (rule shorter : List Int) (pl miss : Int), Same H H' → H x = none → H r = none → H s = none → Ans3 CO H' x r s rule shorter pl → BM p row row.length rule shorter pl miss → 2 * rule.length ≤ row.length → Q (.ref x) H') ∧
  (∀ (x r t s : Addr) (H' : Hp) (one other shorter : List Int) (pl miss : Int), Same H H' → H x = none → H r = none → H t = none → H s = none → Ans4 CA H' x r t s one other shorter pl → BM p row row.length one shorter pl miss → row.length < 2 * one.length →
    other = mixL p one shorter (one.length - shorter.length) 1 → Q (.ref x) H')
end Rr

set_option Elab.async false
set_option linter.all false
set_option maxRecDepth 100000
namespace Rr
open PySem L2 RM
noncomputable def top (i : Nat) : Stmt := PySem.Challenge.pw_rulerow_k02_whole_others.main.body.getD i (.Pass ⟨0, 0, 0, 0⟩)





























noncomputable abbrev sWhole : Stmt := top 8
noncomputable abbrev sPrime : Stmt := top 9
noncomputable abbrev sRest : Stmt := top 10
noncomputable abbrev sAre : Stmt := top 11
noncomputable abbrev sNeedPrime : Stmt := top 12
noncomputable abbrev sNeedRule : Stmt := top 13
noncomputable abbrev sNeedRow : Stmt := top 14
noncomputable abbrev sInv : Stmt := top 15
noncomputable abbrev sMakes : Stmt := top 17
noncomputable abbrev sDue : Stmt := top 18
noncomputable abbrev cLeast : Stmt := top 21
noncomputable abbrev cOnly : Stmt := top 22
noncomputable abbrev cAnother : Stmt := top 23
noncomputable abbrev sSole : Stmt := top 24
noncomputable abbrev sIsLeast : Stmt := top 25
noncomputable abbrev sFails : Stmt := top 26
noncomputable abbrev sLeast : Stmt := top 28
noncomputable abbrev sUnlike : Stmt := top 29
noncomputable abbrev sMixed : Stmt := top 30
noncomputable abbrev lCell : Stmt := top 32
noncomputable abbrev lDraw : Stmt := top 33
noncomputable abbrev lPrime : Stmt := top 34
noncomputable abbrev lRests : Stmt := top 35
noncomputable abbrev lRow : Stmt := top 36
noncomputable abbrev lDue : Stmt := top 37
noncomputable abbrev lMade : Stmt := top 38
noncomputable abbrev lRested : Stmt := top 39
noncomputable abbrev lLeast : Stmt := top 40
noncomputable abbrev lRight : Stmt := top 41
noncomputable abbrev lLaw : Stmt := top 42
section
variable {P : Program} {w : World} {K : PySem.W.Frag} {mg : Str → Option Value} {base : Heap} {f g : Addr} {fd gd : FuncData}
theorem scWhole : FnScope ["value"] ["value"] (defScope sWhole) := ⟨rfl, rfl, rfl, by decide +kernel, rfl, by decide +kernel, by decide +kernel⟩
theorem ok_whole (D : Def K mg "is_whole" sWhole ["value"] f fd) (o : Own mg) : FnOk P w K mg base CX0 1 f fd ["value"] spWhole := by
  refine D.F.ok scWhole (fun vs H Q E h => ?_) (fun cdv A outer s H vs Q E hr h => ?_)
  · obtain ⟨i, rfl, _⟩ := h
    rfl
  obtain ⟨i, rfl, q⟩ := h
  refine ⟨_, pss_one (ps_ret (pe_and (pe_callB call_isi rfl o.isinstance boot_isi (pa_cons (pv 0) (pa_cons (pe_ty rfl o.int boot_intT) pa_nil)))
    (pe_one (pe_not (pe_callB call_isi rfl o.isinstance boot_isi (pa_cons (pv 0) (pa_cons (pe_ty rfl o.bool boot_boolT) pa_nil))))))), ?_⟩
  refine ⟨_, rfl, _, _, _, _, rfl, TyOf.int i, kit_int_int _, true, rfl, iteT ?_⟩
  exact ⟨_, rfl, _, _, _, _, rfl, TyOf.int i, kit_int_bool _, false, rfl, q⟩
theorem scPrime : FnScope ["value", "divisor"] ["value"] (defScope sPrime) := ⟨rfl, rfl, rfl, by decide +kernel, rfl, by decide +kernel, by decide +kernel⟩
theorem ok_prime (D : Def K mg "is_prime" sPrime ["value"] f fd) (o : Own mg) (DW : Def K mg "is_whole" sWhole ["value"] g gd) (GW : FnOk P w K mg base CX0 1 g gd ["value"] spWhole) {t1 t2 : Tok} (hlo : mg "LOWEST_PRIME" = some (.int 2 t1)) (hhi : mg "HIGHEST_PRIME" = some (.int 997 t2)) :
    FnOk P w K mg base CX0 2 f fd ["value"] spPrime := by
  refine D.F.ok scPrime (fun vs H Q E h => ?_) (fun cdv A outer s H vs Q E hr h => ?_)
  · obtain ⟨i, rfl, _⟩ := h
    rfl
  obtain ⟨p, rfl, hp, q⟩ := h
  obtain ⟨h1, h2, h3⟩ := hp
  refine ⟨_, pss_cons (ps_if (pw_or (pt_not (pt_val (pcall DW GW hr (pa_cons (pv 0) pa_nil)))) (pw_or (pt_cmpR op_lt (pv 0) (pe_glob (v := .int 2) (by rfl) hlo ⟨_, rfl⟩) (nomark _)) (pw_or1 (pt_cmpR op_gt (pv 0) (pe_glob (v := .int 997) (by rfl) hhi ⟨_, rfl⟩) (nomark _))))).pt (pss_one (ps_ret pe_bl)) pss_nil)
    (pss_cons (ps_set (i := 1) scPrime.nd rfl (Or.inl rfl) pint)
    (pss_cons (ps_while PassesOwn.never (pt_cmpR op_le (pe_op op_mul (pv 1) (pv 1)) (pv 0) (nomark _))
      (pss_cons (ps_if (pt_cmpR op_eq (pe_op op_mod (pv 0) (pv 1)) pint (nomark _)) (pss_one (ps_ret pe_bl)) pss_nil)
        (pss_one (ps_aug (i := 1) scPrime.nd rfl (Or.inl rfl) pint ip_add))))
    (pss_one (ps_ret pe_bl)))), ?_⟩
  refine ⟨_, rfl, p, rfl, true, rfl, iteF ?_⟩
  refine ⟨_, rfl, _, _, rfl, rfl, _, rfl, iteFd (by (clear hhi hlo; omega)) ?_⟩
  refine ⟨_, rfl, _, _, rfl, rfl, _, rfl, iteFd (by (clear hhi hlo; omega)) ?_⟩
  refine ⟨fun m σ H' => H' = H ∧ ∃ d : Int, σ = [some (.int p), some (.int d)] ∧ 2 ≤ d ∧ d ≤ 1000 ∧ m = (1000 - d).toNat, ⟨998, rfl, 2, rfl, by (clear h1 h2 hhi hlo; omega), by (clear h1 h2 hhi hlo; omega), rfl⟩, ?_⟩
  rintro m σ H' ⟨rfl, d, rfl, hd, hd2, rfl⟩
  refine ⟨_, rfl, _, rfl, _, _, rfl, rfl, .inl ⟨by (clear h1 h2 hhi hlo; omega), by (clear h1 h2 hhi hlo; omega)⟩, _, rfl, _, _, rfl, rfl, _, rfl, ?_⟩
  by_cases hle : d * d ≤ p
  · have hd31 : d < 1000 := by
      refine Int.not_le.mp fun z => ?_
      have q1 : (1000 : Int) * 1000 ≤ d * d := Int.mul_le_mul z z (by (clear h1 h2 hd hd2 hhi hle hlo z; omega)) (by (clear h1 h2 hhi hle hlo; omega))
      (clear hd hd2 hhi hlo z; omega)
    refine iteTd hle ⟨_, fun σ' H' z => z, ?_⟩
    refine ⟨_, rfl, _, rfl, _, _, rfl, rfl, (by show 0 < d; (clear h1 h2 hhi hle hlo; omega)), rfl, _, rfl, iteFd (fun z => h3 d hd hle (by injection z)) ?_⟩
    exact ⟨_, rfl, _, _, rfl, rfl, _, (by show (1000 - (d + 1)).toNat < (1000 - d).toNat; (clear h1 h2 hhi hle hlo; omega)), rfl, d + 1, rfl, by (clear h1 h2 hhi hle hlo; omega), by (clear h1 h2 hhi hle hlo; omega), rfl⟩
  · exact iteFd hle q
end
end Rr

set_option Elab.async false
set_option linter.all false
set_option maxRecDepth 100000
namespace Rr
open PySem L2 RM
section
variable {P : Program} {w : World} {K : PySem.W.Frag} {mg : Str → Option Value} {base : Heap} {f g : Addr} {fd gd : FuncData}
theorem scRest : FnScope ["prime", "value"] ["prime", "value"] (defScope sRest) := ⟨rfl, rfl, rfl, by decide +kernel, rfl, by decide +kernel, by decide +kernel⟩
theorem ok_restB (D : Def K mg "is_rest" sRest ["prime", "value"] f fd) (DW : Def K mg "is_whole" sWhole ["value"] g gd) (GW : FnOk P w K mg base CX0 1 g gd ["value"] spWhole) : FnOk P w K mg base CX0 2 f fd ["prime", "value"] spRestB := by
  refine D.F.ok scRest (fun vs H Q E h => ?_) (fun cdv A outer s H vs Q E hr h => ?_)
  · obtain ⟨p, i, rfl, _⟩ := h
    rfl
  obtain ⟨p, i, rfl, q⟩ := h
  refine ⟨_, pss_one (ps_ret (pe_and (pcall DW GW hr (pa_cons (pv 1) pa_nil)) (pe_and (pe_cmpR op_ge (pv 1) pint (nomark _)) (pe_one (pe_cmpR op_lt (pv 1) (pv 0) (nomark _)))))), ?_⟩
  refine ⟨_, rfl, i, rfl, true, rfl, iteT ?_⟩
  refine ⟨_, rfl, _, _, rfl, rfl, _, rfl, ?_⟩
  by_cases h0 : 0 ≤ i
  · refine iteTd h0 ⟨_, rfl, _, rfl, _, _, rfl, rfl, ?_⟩
    rw [decide_eq_true h0, Bool.true_and] at q
    exact q
  · refine iteFd h0 ?_
    rw [decide_eq_false h0, Bool.false_and] at q
    exact q
theorem scAre : FnScope ["prime", "value", "number"] ["prime", "value"] (defScope sAre) := ⟨rfl, rfl, rfl, by decide +kernel, rfl, by decide +kernel, by decide +kernel⟩
theorem ok_areB (D : Def K mg "are_rests" sAre ["prime", "value"] f fd) (o : Own mg) (DR : Def K mg "is_rest" sRest ["prime", "value"] g gd) (GR : FnOk P w K mg base CX0 2 g gd ["prime", "value"] spRestB) : FnOk P w K mg base CX0 3 f fd ["prime", "value"] spAreB := by
  refine D.F.ok scAre (fun vs H Q E h => ?_) (fun cdv A outer s H vs Q E hr h => ?_)
  · obtain ⟨p, a, ns, rfl, _⟩ := h
    rfl
  obtain ⟨p, a, ns, rfl, hL, q⟩ := h
  refine ⟨_, pss_cons (ps_if (pt_not (pt_val (pe_callB call_isi rfl o.isinstance boot_isi (pa_cons (pv 1) (pa_cons (pe_ty rfl o.list boot_listT) pa_nil))))) (pss_one (ps_ret pe_bl)) pss_nil)
    (pss_cons (ps_for PassesOwn.never rfl (pi_list (pv 1)) (pg_name (i := 2) scAre.nd rfl (Or.inl rfl))
      (pss_one (ps_if (pt_not (pt_val (pcall DR GR hr (pa_cons (pv 0) (pa_cons (pv 2) pa_nil))))) (pss_one (ps_ret pe_bl)) pss_nil)))
    (pss_one (ps_ret pe_bl))), ?_⟩
  dsimp only [cxOf, Cx.nox]
  refine ⟨_, rfl, _, _, _, _, rfl, TyOf.lst hL, kit_list_list _, true, rfl, iteF ?_⟩
  refine ⟨_, rfl, a, rfl, ⟨_, hL.sq⟩, for_list (xs := ns.map V.int) (fun i σ H' => H' = H ∧ (∀ j, j < i → (decide (0 ≤ gt ns j) && decide (gt ns j < p)) = true) ∧ ∃ x, σ = [some (.int p), some (.ref a), x]) ⟨rfl, fun _ h => absurd h (Nat.not_lt_zero _), none, rfl⟩ (fun i σ H' _ h => by rw [h.1]; exact hL.sq) ?_ (fun σ H' h => ?_)⟩
  · rintro i x σ H' hx ⟨rfl, hall, y, rfl⟩
    obtain ⟨rfl, hi⟩ := at_int hx
    refine ⟨_, rfl, _, rfl, p, gt ns i, rfl, _, rfl, ?_⟩
    cases e : (decide (0 ≤ gt ns i) && decide (gt ns i < p)) with
    | true =>
      refine iteF ⟨rfl, fun j hj => ?_, _, rfl⟩
      by_cases hj' : j < i
      · exact hall j hj'
      · have : j = i := by (clear e hi hx; omega)
        subst this
        exact e
    | false =>
      refine iteT ?_
      rw [restsB_no hi e] at q
      exact q
  · obtain ⟨rfl, hall, _⟩ := h
    rw [List.length_map] at hall
    rw [restsB_yes hall] at q
    exact q
theorem ok_are (G : FnOk P w K mg base CX0 3 f fd ["prime", "value"] spAreB) : FnOk P w K mg base CX0 3 f fd ["prime", "value"] spAre := G.imp fun vs H Q E h => by
  obtain ⟨p, a, ns, rfl, hL, hR, q⟩ := h
  exact ⟨p, a, ns, rfl, hL, by rw [restsB_iff.mpr hR]; exact q⟩
end
end Rr

set_option Elab.async false
set_option linter.all false
set_option maxRecDepth 100000
namespace Rr
open PySem L2 RM
section
variable {P : Program} {w : World} {K : PySem.W.Frag} {mg : Str → Option Value} {base : Heap} {f g g2 g3 g4 g5 : Addr} {fd gd gd2 gd3 gd4 gd5 : FuncData}
theorem scNeedPrime : FnScope ["prime"] ["prime"] (defScope sNeedPrime) := ⟨rfl, rfl, rfl, by decide +kernel, rfl, by decide +kernel, by decide +kernel⟩
theorem ok_needPrime (D : Def K mg "need_prime" sNeedPrime ["prime"] f fd) (DP : Def K mg "is_prime" sPrime ["value"] g gd) (GP : FnOk P w K mg base CX0 2 g gd ["value"] spPrime) : FnOk P w K mg base CX0 3 f fd ["prime"] spNeedPrime := by
  refine D.F.ok scNeedPrime (fun vs H Q E h => ?_) (fun cdv A outer s H vs Q E hr h => ?_)
  · obtain ⟨p, rfl, _⟩ := h
    rfl
  obtain ⟨p, rfl, hp, q⟩ := h
  refine ⟨_, pss_one (ps_if (pt_not (pt_val (pcall DP GP hr (pa_cons (pv 0) pa_nil)))) pss_never pss_nil), ?_⟩
  exact ⟨_, rfl, p, rfl, hp, true, rfl, iteF q⟩
theorem scNeedRule : FnScope ["prime", "rule"] ["prime", "rule"] (defScope sNeedRule) := ⟨rfl, rfl, rfl, by decide +kernel, rfl, by decide +kernel, by decide +kernel⟩
theorem ok_needRule (D : Def K mg "need_rule" sNeedRule ["prime", "rule"] f fd) (DP : Def K mg "are_rests" sAre ["prime", "value"] g gd) (GP : FnOk P w K mg base CX0 3 g gd ["prime", "value"] spAre) : FnOk P w K mg base CX0 4 f fd ["prime", "rule"] spNeed := by
  refine D.F.ok scNeedRule (fun vs H Q E h => ?_) (fun cdv A outer s H vs Q E hr h => ?_)
  · obtain ⟨p, a, ns, rfl, _⟩ := h
    rfl
  obtain ⟨p, a, ns, rfl, hL, hR, q⟩ := h
  refine ⟨_, pss_one (ps_if (pt_not (pt_val (pcall DP GP hr (pa_cons (pv 0) (pa_cons (pv 1) pa_nil))))) pss_never pss_nil), ?_⟩
  exact ⟨_, rfl, _, rfl, p, a, ns, rfl, hL, hR, true, rfl, iteF q⟩
theorem scNeedRow : FnScope ["prime", "row"] ["prime", "row"] (defScope sNeedRow) := ⟨rfl, rfl, rfl, by decide +kernel, rfl, by decide +kernel, by decide +kernel⟩
theorem ok_needRow (D : Def K mg "need_row" sNeedRow ["prime", "row"] f fd) (DP : Def K mg "are_rests" sAre ["prime", "value"] g gd) (GP : FnOk P w K mg base CX0 3 g gd ["prime", "value"] spAre) : FnOk P w K mg base CX0 4 f fd ["prime", "row"] spNeed := by
  refine D.F.ok scNeedRow (fun vs H Q E h => ?_) (fun cdv A outer s H vs Q E hr h => ?_)
  · obtain ⟨p, a, ns, rfl, _⟩ := h
    rfl
  obtain ⟨p, a, ns, rfl, hL, hR, q⟩ := h
  refine ⟨_, pss_one (ps_if (pt_not (pt_val (pcall DP GP hr (pa_cons (pv 0) (pa_cons (pv 1) pa_nil))))) pss_never pss_nil), ?_⟩
  exact ⟨_, rfl, _, rfl, p, a, ns, rfl, hL, hR, true, rfl, iteF q⟩
structure Needs (P : Program) (w : World) (K : PySem.W.Frag) (mg : Str → Option Value) (base : Heap) (f1 f2 f3 : Addr) (d1 d2 d3 : FuncData) : Prop where
  D1 : Def K mg "need_prime" sNeedPrime ["prime"] f1 d1
  G1 : FnOk P w K mg base CX0 3 f1 d1 ["prime"] spNeedPrime
  D2 : Def K mg "need_rule" sNeedRule ["prime", "rule"] f2 d2
  G2 : FnOk P w K mg base CX0 4 f2 d2 ["prime", "rule"] spNeed
  D3 : Def K mg "need_row" sNeedRow ["prime", "row"] f3 d3
  G3 : FnOk P w K mg base CX0 4 f3 d3 ["prime", "row"] spNeed
theorem scDue : FnScope ["prime", "rule", "row", "place", "ahead"] ["prime", "rule", "row", "place"] (defScope sDue) := ⟨rfl, rfl, rfl, by decide +kernel, rfl, by decide +kernel, by decide +kernel⟩
theorem ok_due (D : Def K mg "due" sDue ["prime", "rule", "row", "place"] f fd) (o : Own mg) : FnOk P w K mg base CX0 1 f fd ["prime", "rule", "row", "place"] spDue := by
  refine D.F.ok scDue (fun vs H Q E h => ?_) (fun cdv A outer s H vs Q E hr h => ?_)
  · obtain ⟨p, a, b, rule, row, k, rfl, _⟩ := h
    rfl
  obtain ⟨p, a, b, rule, row, k, rfl, h1, h2, rr, hk, hk2, q⟩ := h
  refine ⟨_, pss_cons (ps_set (i := 4) scDue.nd rfl (Or.inl rfl) (pe_slice sl_list (pv 2) (po_some (pe_op op_sub (pv 3) (plen o (pv 1)))) (po_some (pv 3))))
    (pss_one (ps_ret (pe_op op_mod (pe_callB (call_sum rfl) rfl o.sum boot_sumB (pa_cons (pe_comp ["number", "rest"] [] rfl (pi_zipR rfl o.zip rfl o.reversed (pv 4) (pv 1))
      (fun cl C s₂ H₂ fp => pgp) (gk_pair (by decide) (by decide)) (fun cl C s₂ H₂ fp => pe_op op_mul (pv 0) (pv 1))) pa_nil)) (pv 0)))), ?_⟩
  dsimp only [cxOf, Cx.nox]
  have hp := rr.pr.pos
  have e1 : (k : Int) - ((rule.map V.int).length : Int) = ((k - rule.length : Nat) : Int) := by rw [List.length_map]; (clear hk2 hp; omega)
  refine ⟨_, rfl, _, rfl, _, rfl, a, _, rfl, .inl h1.sq, _, _, rfl, rfl, _, rfl, _, rfl, _, rfl, b, _, rfl, h2.sq, fun r hr' => ?_⟩
  have ec : cutV (row.map V.int) (some ((k : Int) - ((rule.map V.int).length : Int))) (some (k : Int)) = ((row.drop (k - rule.length)).take rule.length).map V.int := by
    rw [e1, cut_at (by (clear hk hk2 hp hr'; omega)) hk2, show k - (k - rule.length) = rule.length by (clear hk2 hp hr'; omega)]
  rw [ec]
  have sm1 : Same H (upd H r (.lst (((row.drop (k - rule.length)).take rule.length).map V.int))) := same_new hr' _
  have lA : ((row.drop (k - rule.length)).take rule.length).length = rule.length := by rw [List.length_take, List.length_drop]; (clear ec hp hr'; omega)
  have s1 : SqL K (upd H r (.lst (((row.drop (k - rule.length)).take rule.length).map V.int))) r (((row.drop (k - rule.length)).take rule.length).map V.int) := SqL.of upd_same
  refine ⟨_, rfl, r, _, rfl, s1, _, rfl, a, _, rfl, s1, (h1.same sm1).sq, ?_⟩
  have l1 := rr.l1
  refine comp_zipR s1 (h1.same sm1).sq (fun i => V.int (gt ((row.drop (k - rule.length)).take rule.length).reverse i * gt rule i)) (by rw [List.length_map, lA]; exact small (by (clear e1 ec hk hk2 hp hr'; omega))) (fun i x y H' hx hy sm => ?_) (fun H' sm p' hp' => ?_)
  · rw [← List.map_reverse] at hx
    obtain ⟨rfl, hi⟩ := at_int hx
    obtain ⟨rfl, hi2⟩ := at_int hy
    have rA : Rests p ((row.drop (k - rule.length)).take rule.length).reverse := fun z hz => (rr.r2.drop _).take _ z (List.mem_reverse.mp hz)
    have b1 := rA.at hp i
    have p1 := rr.pr.2.1
    exact ⟨_, rfl, _, rfl, _, _, rfl, rfl, .inl ⟨by (clear e1 ec hi hi2 hk hk2 hp hr' hx hy l1 lA p1; omega), by (clear e1 ec hi hi2 hk hk2 hr' hx hy l1 lA; omega)⟩, snocF rfl, sm⟩
  · rw [List.length_map, List.length_map, lA, Nat.min_self]
    refine ⟨p', (List.range rule.length).map (fun i => gt ((row.drop (k - rule.length)).take rule.length).reverse i * gt rule i), rfl, ?_, _, rfl, _, _, rfl, rfl, hp, ?_⟩
    · rw [← mapInt]
      exact SqL.of upd_same
    · have ev : ((List.range rule.length).map (fun i => gt ((row.drop (k - rule.length)).take rule.length).reverse i * gt rule i)).sum % p = dueN p rule row k := by
        rw [sum_range]
        unfold dueN
        congr 1
        refine sm_congr fun i hi => ?_
        rw [gt_reverse (by (clear e1 ec hk hk2 hp hp' hr' l1; omega)), lA, gt_take (by (clear e1 ec hk hk2 hp hp' hr' l1; omega)), gt_drop, Int.mul_comm, show k - rule.length + (rule.length - 1 - i) = k - 1 - i by (clear ec hk2 hp hp' hr' l1; omega)]
      show Q (.int (((List.range rule.length).map (fun i => gt ((row.drop (k - rule.length)).take rule.length).reverse i * gt rule i)).sum % p)) _
      rw [ev]
      exact q _ ((sm1.trans sm).trans (same_new hp' _))
end
end Rr

set_option Elab.async false
set_option linter.all false
set_option maxRecDepth 100000
namespace Rr
open PySem L2 RM
theorem makes_no {p : Int} {rule row : List Int} {i : Nat} (hi : i < row.length - rule.length) (h : gt row (rule.length + i) ≠ dueN p rule row (rule.length + i)) : makesN p rule row = false := by
  unfold makesN
  rw [Bool.eq_false_iff]
  intro z
  have := List.all_eq_true.mp z i (List.mem_range.mpr hi)
  exact h (beq_iff_eq.mp this)
theorem makes_yes {p : Int} {rule row : List Int} (h : ∀ i, i < row.length - rule.length → gt row (rule.length + i) = dueN p rule row (rule.length + i)) : makesN p rule row = true := by
  unfold makesN
  rw [List.all_eq_true]
  intro i hi
  exact beq_iff_eq.mpr (h i (List.mem_range.mp hi))
section
variable {P : Program} {w : World} {K : PySem.W.Frag} {mg : Str → Option Value} {base : Heap} {f g g2 g3 g4 g5 g6 : Addr} {fd gd gd2 gd3 gd4 gd5 gd6 : FuncData}
theorem scMakes : FnScope ["prime", "rule", "row", "place"] ["prime", "rule", "row"] (defScope sMakes) := ⟨rfl, rfl, rfl, by decide +kernel, rfl, by decide +kernel, by decide +kernel⟩
theorem ok_makes (D : Def K mg "makes" sMakes ["prime", "rule", "row"] f fd) (o : Own mg) (N : Needs P w K mg base g g2 g3 gd gd2 gd3) (DD : Def K mg "due" sDue ["prime", "rule", "row", "place"] g4 gd4) (GD : FnOk P w K mg base CX0 1 g4 gd4 ["prime", "rule", "row", "place"] spDue) :
    FnOk P w K mg base CX0 5 f fd ["prime", "rule", "row"] spMakes := by
  refine D.F.ok scMakes (fun vs H Q E h => ?_) (fun cdv A outer s H vs Q E hr h => ?_)
  · obtain ⟨p, a, b, rule, row, rfl, _⟩ := h
    rfl
  obtain ⟨p, a, b, rule, row, rfl, h1, h2, rr, q⟩ := h
  refine ⟨_, pss_cons (ps_expr (pcall N.D1 N.G1 hr (pa_cons (pv 0) pa_nil))) (pss_cons (ps_expr (pcall N.D2 N.G2 hr (pa_cons (pv 0) (pa_cons (pv 1) pa_nil)))) (pss_cons (ps_expr (pcall N.D3 N.G3 hr (pa_cons (pv 0) (pa_cons (pv 2) pa_nil))))
    (pss_cons (ps_for PassesOwn.never rfl (pi_range2 rfl o.range (pa_cons (plen o (pv 1)) (pa_cons (plen o (pv 2)) pa_nil))) (pgn 3)
      (pss_one (ps_if (pt_cmpR op_ne (pe_ix ix_list (pv 2) (pv 3) (fun _ _ => rfl)) (pcall DD GD hr (pa_cons (pv 0) (pa_cons (pv 1) (pa_cons (pv 2) (pa_cons (pv 3) pa_nil))))) (nomark _)) (pss_one (ps_ret pe_bl)) pss_nil)))
    (pss_one (ps_ret pe_bl))))), ?_⟩
  dsimp only [cxOf, Cx.nox]
  have l1 := rr.l1
  have l2 := rr.l2
  refine ⟨_, rfl, p, rfl, rr.pr, ?_⟩
  refine ⟨_, rfl, _, rfl, p, a, rule, rfl, h1, rr.r1, ?_⟩
  refine ⟨_, rfl, _, rfl, p, b, row, rfl, h2, rr.r2, ?_⟩
  refine ⟨_, rfl, a, _, rfl, .inl h1.sq, _, rfl, b, _, rfl, .inl h2.sq, _, _, rfl, ?_⟩
  rw [List.length_map, List.length_map]
  refine ⟨⟨by (clear l2; omega), by (clear l2; omega), by (clear l1; omega), by (clear l1; omega)⟩, for_range (n := ((row.length : Int) - (rule.length : Int)).toNat) (fun i σ H' => Same H H' ∧ (∀ j, j < i → gt row (rule.length + j) = dueN p rule row (rule.length + j)) ∧ ∃ x, σ = [some (.int p), some (.ref a), some (.ref b), x])
    ⟨Same.refl _, fun _ h => absurd h (Nat.not_lt_zero _), none, rfl⟩ ?_ ?_⟩
  · rintro i σ H' hi ⟨sm, hall, y, rfl⟩
    have hi' : rule.length + i < row.length := by (clear l1 l2; omega)
    have ei : (rule.length : Int) + (i : Int) = ((rule.length + i : Nat) : Int) := by (clear hi hi' l1 l2; omega)
    refine ⟨_, rfl, _, rfl, b, _, _, _, rfl, rfl, (h2.same sm).sq, atI_int ei hi', ?_⟩
    refine ⟨_, rfl, _, rfl, _, rfl, _, rfl, p, a, b, rule, row, rule.length + i, congrArg (fun z => [V.int p, V.ref a, V.ref b, V.int z]) ei, h1.same sm, h2.same sm, rr, by (clear ei hi hi' l1 l2; omega), by (clear ei hi l1 l2; omega), fun H2 sm2 => ?_⟩
    refine ⟨rfl, _, rfl, ?_⟩
    by_cases hc : gt row (rule.length + i) = dueN p rule row (rule.length + i)
    · refine iteNd (by rw [hc]) ⟨sm.trans sm2, fun j hj => ?_, _, rfl⟩
      by_cases hj' : j < i
      · exact hall j hj'
      · have : j = i := by (clear ei hc hi hi' l1 l2; omega)
        subst this
        exact hc
    · refine iteYd (fun z => hc (by injection z)) ?_
      have := q H2 (sm.trans sm2)
      rw [makes_no (by (clear ei hc hi l1 l2; omega)) hc] at this
      exact this
  · rintro σ H' ⟨sm, hall, _⟩
    have := q H' sm
    rw [makes_yes fun i hi => hall i (by (clear l1 l2; omega))] at this
    exact this
end
end Rr

set_option Elab.async false
set_option linter.all false
set_option maxRecDepth 100000
set_option maxHeartbeats 800000
namespace Rr
open PySem L2 RM
theorem cut_fromA {ns : List Int} {lo : Nat} : cutV (ns.map V.int) (some (lo : Int)) none = (ns.drop lo).map V.int := by
  by_cases h : lo ≤ ns.length
  · exact cut_from h
  · unfold cutV
    rw [HT.sIx_nat, HT.sIx_none, List.length_map, show min lo ns.length = ns.length by omega, Nat.sub_self, List.take_zero, List.drop_eq_nil_of_le (show ns.length ≤ lo by omega)]
    rfl
noncomputable def constI : Expr → Option Int
  | .Constant (.int i) _ _ => some i
  | _ => none
theorem nn_some {i : Int} (h : (none : Option Int) = some i) : False := by cases h
theorem constI_inv {e : Expr} {i : Int} (h : constI e = some i) : ∃ j pos, e = .Constant (.int i) j pos := by
  cases e with
  | Constant c j pos =>
    cases c with
    | int k =>
      have e : k = i := Option.some.inj h
      rw [e]
      exact ⟨j, pos, rfl⟩
    | _ => exact (nn_some h).elim
  | _ => exact (nn_some h).elim
theorem pa_consts {X : Cx} {es : List Expr} : (es.all fun e => (constI e).isSome) = true → PA X es (fun _ H Q => Q ((es.filterMap constI).map V.int) H) := by
  induction es with
  | nil => exact fun _ => pa_nil
  | cons e es ih =>
    intro h
    rw [List.all_cons, Bool.and_eq_true] at h
    obtain ⟨i, hi⟩ := Option.isSome_iff_exists.mp h.1
    obtain ⟨j, pos, rfl⟩ := constI_inv hi
    exact pa_cons (pe_int (i := i) (j := j) (pos := pos)) (ih h.2)
section
variable {P : Program} {w : World} {K : PySem.W.Frag} {mg : Str → Option Value} {base : Heap} {f g g2 g3 g4 g5 g6 : Addr} {fd gd gd2 gd3 gd4 gd5 gd6 : FuncData}
theorem scCell : FnScope ["_law_script", "_law_k"] ["_law_script", "_law_k"] (defScope lCell) := ⟨rfl, rfl, rfl, by decide +kernel, rfl, by decide +kernel, by decide +kernel⟩
theorem ok_cell (D : Def K mg "_law_cell_at" lCell ["_law_script", "_law_k"] f fd) (o : Own mg) : FnOk P w K mg base CX0 1 f fd ["_law_script", "_law_k"] (spCell K) := by
  refine D.F.ok scCell (fun vs H Q E h => ?_) (fun cdv A outer s H vs Q E hr h => ?_)
  · obtain ⟨a, ns, k, rfl, _⟩ := h
    rfl
  obtain ⟨a, ns, k, rfl, h1, hl, q⟩ := h
  refine ⟨_, pss_cons (ps_if (pt_cmpR op_lt (pv 1) (plen o (pv 0)) (nomark _)) (pss_one (ps_ret (pe_ix ix_list (pv 0) (pv 1) (fun _ _ => rfl)))) pss_nil) (pss_one (ps_ret pint)), ?_⟩
  refine ⟨_, rfl, _, rfl, a, _, rfl, .inl h1, _, _, rfl, rfl, _, rfl, ?_⟩
  rw [List.length_map]
  by_cases hc : k < ns.length
  · exact iteTd (by (clear hl; omega)) ⟨_, rfl, _, rfl, a, _, _, _, rfl, rfl, h1, atI_int rfl hc, q⟩
  · refine iteFd (by (clear hl; omega)) ?_
    rw [gt_ge (by (clear hl; omega))] at q
    exact q
theorem scRests : FnScope ["_law_script", "_law_by", "_law_prime_here", "_law_many"] ["_law_script", "_law_by", "_law_prime_here", "_law_many"] (defScope lRests) := ⟨rfl, rfl, rfl, by decide +kernel, rfl, by decide +kernel, by decide +kernel⟩
theorem ok_rests (D : Def K mg "_law_rests" lRests ["_law_script", "_law_by", "_law_prime_here", "_law_many"] f fd) (o : Own mg) (DC : Def K mg "_law_cell_at" lCell ["_law_script", "_law_k"] g gd) (GC : FnOk P w K mg base CX0 1 g gd ["_law_script", "_law_k"] (spCell K))
    (DD : Def K mg "_law_draw" lDraw ["_law_cell", "_law_k", "_law_many"] g2 gd2) (GD : FnOk P w K mg base CX0 1 g2 gd2 ["_law_cell", "_law_k", "_law_many"] spDraw) : FnOk P w K mg base CX0 2 f fd ["_law_script", "_law_by", "_law_prime_here", "_law_many"] (spRests K) := by
  refine D.F.ok scRests (fun vs H Q E h => ?_) (fun cdv A outer s H vs Q E hr h => ?_)
  · obtain ⟨a, ns, b, p, m, rfl, _⟩ := h
    rfl
  obtain ⟨a, ns, b, p, m, rfl, h1, hl, hp, hm, q⟩ := h
  refine ⟨_, pss_one (ps_ret (pe_comp ["_law_k"] [0, 1, 2] rfl (pi_range1 rfl o.range (pa_cons (pv 3) pa_nil)) (fun cl C s₂ H₂ fp => pgn 0) (gk_name (by decide))
    (fun cl C s₂ H₂ fp => pcall DD GD hr (pa_cons (pcall DC GC hr (pa_cons (pv 1) (pa_cons (pv 0) pa_nil))) (pa_cons (pe_op op_add (pe_op op_mod (pv 0) pint) (pv 2)) (pa_cons (pv 3) pa_nil)))))), ?_⟩
  refine ⟨_, rfl, _, rfl, by (clear hl hp; omega), by (clear hl hp; omega), ?_⟩
  refine ⟨m, fun i ys H' => ∃ l : List Int, ys = l.map V.int ∧ l.length = i ∧ Rests p l ∧ Same H H', small (by (clear hl hp; omega)), ⟨[], rfl, rfl, Rests.nil, Same.refl _⟩, fun i ys H' hi hl' wi => ⟨hi, fun x H2 y => ?_⟩, fun ys H' hl' wi => ⟨Nat.le_refl _, fun r hr' => ?_⟩⟩
  · obtain ⟨l, rfl, hl2, hR, sm⟩ := wi
    obtain ⟨e1, e2⟩ := y
    subst e1 e2
    refine ⟨_, rfl, _, rfl, a, ns, i, congrArg (fun z => [V.ref a, V.int z]) (Int.zero_add _), sm.seq h1, hl, ?_⟩
    refine ⟨_, rfl, _, _, rfl, rfl, (by show (0 : Int) < 5; decide), _, rfl, _, _, rfl, rfl, _, rfl, gt ns i, i % 5 + b, p, ?_, hp, fun v H3 h0 h2 sm3 => ?_⟩
    · exact congrArg (fun z => [V.int (gt ns i), V.int z, V.int p]) (by (clear hi hl hm hp; omega))
    · exact ⟨l ++ [v], by rw [List.map_append]; rfl, by rw [List.length_append, hl2]; rfl, hR.app (.one ⟨h0, h2⟩), sm.trans sm3⟩
  · obtain ⟨l, rfl, hl2, hR, sm⟩ := wi
    exact q r _ l (sm.trans (same_new hr' _)) (sm.free hr') (Ls.new rfl) hR hl2
theorem scDueL : FnScope ["_law_prime_here", "_law_rule", "_law_row_here", "_law_place"] ["_law_prime_here", "_law_rule", "_law_row_here", "_law_place"] (defScope lDue) := ⟨rfl, rfl, rfl, by decide +kernel, rfl, by decide +kernel, by decide +kernel⟩
theorem ok_dueL (D : Def K mg "_law_due" lDue ["_law_prime_here", "_law_rule", "_law_row_here", "_law_place"] f fd) (o : Own mg) : FnOk P w K mg base CX0 1 f fd ["_law_prime_here", "_law_rule", "_law_row_here", "_law_place"] spDue := by
  refine D.F.ok scDueL (fun vs H Q E h => ?_) (fun cdv A outer s H vs Q E hr h => ?_)
  · obtain ⟨p, a, b, rule, row, k, rfl, _⟩ := h
    rfl
  obtain ⟨p, a, b, rule, row, k, rfl, h1, h2, rr, hk, hk2, q⟩ := h
  have hp := rr.pr.pos
  have hp2 := rr.pr.2.1
  have l1 := rr.l1
  refine ⟨_, pss_one (ps_ret (pe_op op_mod (pe_callB (call_sum rfl) rfl o.sum boot_sumB (pa_cons (pe_comp ["_law_k", "_law_rest"] [2, 3] rfl (pi_enum rfl o.enumerate (pa_cons (pv 1) pa_nil)) (fun cl C s₂ H₂ fp => pgp) (gk_pair (by decide) (by decide))
    (fun cl C s₂ H₂ fp => pe_op op_mul (pv 1) (pe_ix (ixK (K := K) rfl) (pv 2) (pe_op op_sub (pe_op op_sub (pv 3) pint) (pv 0)) (fun _ _ => rfl)))) pa_nil)) (pv 0))), ?_⟩
  refine ⟨_, rfl, a, rfl, ⟨_, Rd.of h1⟩, ?_⟩
  refine comp_enum h1.sq (fun i => V.int (gt rule i * gt row (k - 1 - i))) (by rw [List.length_map]; exact small (by (clear hk hk2 hp hp2; omega))) (fun i x H' hx sm => ?_) (fun H' sm r hr' => ?_)
  · obtain ⟨rfl, hi⟩ := at_int hx
    have b1 := rr.r1.at hp i
    exact ⟨_, rfl, _, rfl, _, rfl, _, _, rfl, rfl, _, rfl, _, _, rfl, rfl, b, _, _, _, rfl, rfl, (h2.same sm).sq, atI_int (k := k - 1 - i) (by (clear b1 hk2 hp hp2 hx l1; omega)) (by (clear b1 hp hp2 hx; omega)), _, _, rfl, rfl, .inl ⟨by (clear hi hk hk2 hp hp2 hx l1; omega), by (clear hi hk hk2 hx l1; omega)⟩, snocF rfl, sm⟩
  · rw [List.length_map]
    refine ⟨r, (List.range rule.length).map (fun i => gt rule i * gt row (k - 1 - i)), rfl, ?_, _, rfl, _, _, rfl, rfl, hp, ?_⟩
    · rw [← mapInt]
      exact SqL.of upd_same
    · have ev : ((List.range rule.length).map (fun i => gt rule i * gt row (k - 1 - i))).sum % p = dueN p rule row k := by
        rw [sum_range]
        rfl
      show Q (.int (((List.range rule.length).map (fun i => gt rule i * gt row (k - 1 - i))).sum % p)) _
      rw [ev]
      exact q _ (sm.trans (same_new hr' _))
theorem scMade : FnScope ["_law_prime_here", "_law_rule", "_law_row_here"] ["_law_prime_here", "_law_rule", "_law_row_here"] (defScope lMade) := ⟨rfl, rfl, rfl, by decide +kernel, rfl, by decide +kernel, by decide +kernel⟩
theorem ok_made (D : Def K mg "_law_made" lMade ["_law_prime_here", "_law_rule", "_law_row_here"] f fd) (o : Own mg) (DD : Def K mg "_law_due" lDue ["_law_prime_here", "_law_rule", "_law_row_here", "_law_place"] g gd) (GD : FnOk P w K mg base CX0 1 g gd ["_law_prime_here", "_law_rule", "_law_row_here", "_law_place"] spDue) :
    FnOk P w K mg base CX0 2 f fd ["_law_prime_here", "_law_rule", "_law_row_here"] spMade := by
  refine D.F.ok scMade (fun vs H Q E h => ?_) (fun cdv A outer s H vs Q E hr h => ?_)
  · obtain ⟨p, a, b, rule, row, rfl, _⟩ := h
    rfl
  obtain ⟨p, a, b, rule, row, rfl, h1, h2, rr, q⟩ := h
  have l1 := rr.l1
  have l2 := rr.l2
  refine ⟨_, pss_one (ps_ret (pe_callB (call_all rfl) rfl o.all boot_allB (pa_cons (pe_comp ["_law_place"] [0, 1, 2] rfl (pi_range2 rfl o.range (pa_cons (plen o (pv 1)) (pa_cons (plen o (pv 2)) pa_nil))) (fun cl C s₂ H₂ fp => pgn 0) (gk_name (by decide))
    (fun cl C s₂ H₂ fp => pe_cmpR op_eq (pe_ix (ixK (K := K) rfl) (pv 3) (pv 0) (fun _ _ => rfl)) (pcall DD GD hr (pa_cons (pv 1) (pa_cons (pv 2) (pa_cons (pv 3) (pa_cons (pv 0) pa_nil))))) (nomark _))) pa_nil))), ?_⟩
  refine ⟨_, rfl, a, _, rfl, .inl h1.sq, _, rfl, b, _, rfl, .inl h2.sq, _, _, rfl, ?_⟩
  rw [List.length_map, List.length_map]
  have en : ((row.length : Int) - (rule.length : Int)).toNat = row.length - rule.length := by (clear l1 l2; omega)
  refine ⟨⟨by (clear en l2; omega), by (clear en l2; omega), by (clear en l1; omega), by (clear en l1; omega)⟩, ?_⟩
  rw [en]
  refine comp_range (fun i => V.bl (gt row (rule.length + i) == dueN p rule row (rule.length + i))) (small (by (clear en; omega))) (fun i H' hi sm => ?_) (fun H' sm r hr' => ?_)
  · have ei : (rule.length : Int) + (i : Int) = ((rule.length + i : Nat) : Int) := by (clear en hi l1 l2; omega)
    refine ⟨_, rfl, _, rfl, b, _, _, _, rfl, rfl, (h2.same sm).sq, atI_int ei (by (clear ei en l1 l2; omega)), ?_⟩
    refine ⟨_, rfl, _, rfl, _, rfl, _, rfl, p, a, b, rule, row, rule.length + i, congrArg (fun z => [V.int p, V.ref a, V.ref b, V.int z]) ei, h1.same sm, h2.same sm, rr, by (clear ei en hi l1 l2; omega), by (clear ei en l1 l2; omega), fun H2 sm2 => ⟨rfl, snocF ?_, sm.trans sm2⟩⟩
    show V.bl (decide (V.int _ = V.int _)) = V.bl _
    rw [dec_int]
  · refine ⟨r, (List.range (row.length - rule.length)).map (fun i => gt row (rule.length + i) == dueN p rule row (rule.length + i)), rfl, ?_, ?_⟩
    · rw [← mapBl]
      exact SqL.of upd_same
    · have e : ((List.range (row.length - rule.length)).map (fun i => gt row (rule.length + i) == dueN p rule row (rule.length + i))).all id = makesN p rule row := by
        unfold makesN
        rw [List.all_map]
        rfl
      show Q (.bl _) _
      rw [e]
      exact q _ (sm.trans (same_new hr' _))
theorem scRested : FnScope ["_law_prime_here", "_law_found"] ["_law_prime_here", "_law_found"] (defScope lRested) := ⟨rfl, rfl, rfl, by decide +kernel, rfl, by decide +kernel, by decide +kernel⟩
theorem any_false {n : Nat} : ((List.range n).map fun _ => false).any id = false := by
  rw [List.any_eq_false]
  intro x hx
  obtain ⟨_, _, rfl⟩ := List.mem_map.mp hx
  exact Bool.false_ne_true
end
end Rr

set_option Elab.async false
set_option linter.all false
set_option maxRecDepth 100000
namespace Rr
open PySem L2 RM
section
variable {P : Program} {w : World} {K : PySem.W.Frag} {mg : Str → Option Value} {base : Heap} {f g : Addr} {fd gd : FuncData}
theorem ok_restedB (D : Def K mg "_law_rested" lRested ["_law_prime_here", "_law_found"] f fd) (o : Own mg) : FnOk P w K mg base CX0 1 f fd ["_law_prime_here", "_law_found"] spRestedB := by
  refine D.F.ok scRested (fun vs H Q E h => ?_) (fun cdv A outer s H vs Q E hr h => ?_)
  · obtain ⟨p, a, ns, rfl, _⟩ := h
    rfl
  obtain ⟨p, a, ns, rfl, h1, hl, q⟩ := h
  refine ⟨_, pss_cons (ps_if (PW.pt (pw_or (pt_not (pt_val (pe_callB call_isi rfl o.isinstance boot_isi (pa_cons (pv 1) (pa_cons (pe_ty rfl o.list boot_listT) pa_nil)))))
      (pw_or1 (pt_val (pe_callB (call_any rfl) rfl o.any boot_anyB (pa_cons (pe_comp ["_law_one"] [] rfl (pi_list (pv 1)) (fun cl C s₂ H₂ fp => pgn 0) (gk_name (by decide))
        (fun cl C s₂ H₂ fp => pe_or (pe_callB (isiK (K := K) rfl) rfl o.isinstance boot_isi (pa_cons (pv 0) (pa_cons (pe_ty rfl o.bool boot_boolT) pa_nil)))
          (pe_one (pe_not (pe_callB (isiK (K := K) rfl) rfl o.isinstance boot_isi (pa_cons (pv 0) (pa_cons (pe_ty rfl o.int boot_intT) pa_nil))))))) pa_nil)))))) (pss_one (ps_ret pe_bl)) pss_nil)
    (pss_one (ps_ret (pe_callB (call_all rfl) rfl o.all boot_allB (pa_cons (pe_comp ["_law_one"] [0] rfl (pi_list (pv 1)) (fun cl C s₂ H₂ fp => pgn 0) (gk_name (by decide))
      (fun cl C s₂ H₂ fp => pe_chain op_le op_lt pint (pv 0) (pv 1))) pa_nil)))), ?_⟩
  dsimp only [cxOf, Cx.nox]
  refine ⟨_, rfl, _, _, _, _, rfl, TyOf.lst h1, kit_list_list _, true, rfl, iteF ?_⟩
  refine ⟨_, rfl, a, rfl, ⟨_, h1.sq⟩, ?_⟩
  refine comp_list h1.sq (fun _ => V.bl false) (by rw [List.length_map]; exact small (by omega)) (fun i x H' hx sm => ?_) (fun H' sm r hr' => ?_)
  · obtain ⟨rfl, hi⟩ := at_int hx
    refine ⟨_, rfl, _, _, _, _, rfl, TyOf.int _, kit_int_bool _, false, rfl, iteF ?_⟩
    exact ⟨_, rfl, _, _, _, _, rfl, TyOf.int _, kit_int_int _, true, rfl, snocF rfl, sm⟩
  refine ⟨r, (List.range (ns.map V.int).length).map (fun _ => false), rfl, ?_, ?_⟩
  · rw [← mapBl]
    exact SqL.of upd_same
  rw [any_false]
  refine ⟨false, rfl, iteF ?_⟩
  have sm1 := sm.trans (same_new hr' (.lst ((List.range (ns.map V.int).length).map fun _ => V.bl false)))
  refine ⟨_, rfl, a, rfl, ⟨_, (h1.same sm1).sq⟩, ?_⟩
  refine comp_list (h1.same sm1).sq (fun i => V.bl (decide (0 ≤ gt ns i) && decide (gt ns i < p))) (by rw [List.length_map]; exact small (by (clear hr'; omega))) (fun i x H2 hx sm2 => ?_) (fun H2 sm2 r2 hr2 => ?_)
  · obtain ⟨rfl, hi⟩ := at_int hx
    refine ⟨_, rfl, _, _, rfl, rfl, _, rfl, ?_⟩
    by_cases h0 : 0 ≤ gt ns i
    · refine iteTd h0 ⟨_, rfl, _, _, rfl, rfl, snocF ?_, sm2⟩
      show V.bl (decide (gt ns i < p)) = V.bl _
      rw [decide_eq_true h0, Bool.true_and]
    · refine iteFd h0 ⟨snocF ?_, sm2⟩
      rw [decide_eq_false h0, Bool.false_and]
  refine ⟨r2, (List.range (ns.map V.int).length).map (fun i => decide (0 ≤ gt ns i) && decide (gt ns i < p)), rfl, ?_, ?_⟩
  · rw [← mapBl]
    exact SqL.of upd_same
  show Q (.bl _) _
  rw [List.length_map, restsB_all]
  exact q _ ((sm1.trans sm2).trans (same_new hr2 _))
end
end Rr

set_option Elab.async false
set_option linter.all false
set_option maxRecDepth 100000
set_option maxHeartbeats 800000
namespace Rr
open PySem L2 RM
section
variable {P : Program} {w : World} {K : PySem.W.Frag} {mg : Str → Option Value} {base : Heap} {f g g2 g3 g4 g5 g6 : Addr} {fd gd gd2 gd3 gd4 gd5 gd6 : FuncData}
theorem scDraw : FnScope ["_law_cell", "_law_k", "_law_many", "_law_primes"] ["_law_cell", "_law_k", "_law_many"] (defScope lDraw) := ⟨rfl, rfl, rfl, by decide +kernel, rfl, by decide +kernel, by decide +kernel⟩
noncomputable def primes16 : List Int := [1000003, 1000033, 1000037, 1000039, 1000081, 1000099, 1000117, 1000121, 1000133, 1000151, 1000159, 1000171, 1000183, 1000187, 1000193, 1000199]
theorem primes16_pos : ∀ j : Nat, j < 16 → 0 < gt primes16 j := by decide +kernel
noncomputable def tupOf : Stmt → List Expr
  | .Assign _ (.Tuple es _ _) _ => es
  | .Return (some (.Subscript (.Tuple es _ _) _ _)) _ => es
  | _ => []
theorem draw_body : ∃ p' k tp pos b, defBody lDraw = [.Assign [.Name "_law_primes" p'] (.Tuple (tupOf ((defBody lDraw).getD 0 (.Pass ⟨0, 0, 0, 0⟩))) k tp) pos, b] ∧ b = (defBody lDraw).getD 1 (.Pass ⟨0, 0, 0, 0⟩) := ⟨_, _, _, _, _, rfl, rfl⟩
theorem draw_all : ((tupOf ((defBody lDraw).getD 0 (.Pass ⟨0, 0, 0, 0⟩))).all fun e => (constI e).isSome) = true := by kernel_rfl
theorem draw_vals : (tupOf ((defBody lDraw).getD 0 (.Pass ⟨0, 0, 0, 0⟩))).filterMap constI = primes16 := by kernel_rfl
theorem ok_draw (D : Def K mg "_law_draw" lDraw ["_law_cell", "_law_k", "_law_many"] f fd) : FnOk P w K mg base CX0 1 f fd ["_law_cell", "_law_k", "_law_many"] spDraw := by
  refine D.F.ok scDraw (fun vs H Q E h => ?_) (fun cdv A outer s H vs Q E hr h => ?_)
  · obtain ⟨c, k, m, rfl, _⟩ := h
    rfl
  obtain ⟨c, k, m, rfl, hm, q⟩ := h
  obtain ⟨p', kk, tp, pos, b, eb, e2⟩ := draw_body
  have hall := draw_all
  have hval := draw_vals
  rw [eb]
  clear eb
  generalize tupOf ((defBody lDraw).getD 0 (.Pass ⟨0, 0, 0, 0⟩)) = es at hall hval ⊢
  subst e2
  refine ⟨_, pss_cons (ps_set (i := 3) scDraw.nd rfl (Or.inl rfl) (pe_tup (pa_consts hall)))
    (pss_one (ps_ret (pe_op op_mod (pe_op op_mod (pe_op op_add (pe_op op_mul (pv 0) pint) (pe_op op_mul (pv 1) pint)) (pe_ix ix_tup (pv 3) (pe_op op_mod (pv 1) pint) (fun _ _ => rfl))) (pv 2)))), ?_⟩
  rw [hval]
  refine ⟨(by show 16 ≤ sizeLine; decide), fun t ht => ?_⟩
  have hk : k % 16 < 16 := Nat.mod_lt _ (by decide)
  refine ⟨_, rfl, _, _, rfl, rfl, .inr ⟨by (clear hall hk hm ht hval; omega), by (clear hall hk hm ht hval; omega)⟩, _, rfl, _, _, rfl, rfl, .inr ⟨by (clear hall hk hm ht hval; omega), by (clear hall hk hm ht hval; omega)⟩, _, _, rfl, rfl, _, rfl, _, rfl, _, _, rfl, rfl, (by show (0 : Int) < 16; decide), ?_⟩
  refine ⟨t, primes16.map V.int, _, _, rfl, rfl, SqT.of upd_same, atI_int (k := k % 16) (by (clear hall hk hm ht hval; omega)) hk, _, _, rfl, rfl, primes16_pos _ hk, _, rfl, _, _, rfl, rfl, hm, ?_⟩
  have r := mod_rest (a := (c * 48271 + (k : Int) * 69621) % gt primes16 (k % 16)) hm
  exact q _ _ r.1 r.2 (same_new ht _)
theorem scPrimeL : FnScope ["_law_script"] ["_law_script"] (defScope lPrime) := ⟨rfl, rfl, rfl, by decide +kernel, rfl, by decide +kernel, by decide +kernel⟩
noncomputable def primes10 : List Int := [2, 3, 2, 5, 7, 2, 997, 11, 31, 3]
theorem primes10_of : ∀ j : Nat, j < 10 → gt primes10 j = 2 ∨ gt primes10 j = 3 ∨ gt primes10 j = 5 ∨ gt primes10 j = 7 ∨ gt primes10 j = 11 ∨ gt primes10 j = 31 ∨ gt primes10 j = 997 := by decide +kernel
theorem prime_body : ∃ k tp pos pos2 idx, defBody lPrime = [.Return (some (.Subscript (.Tuple (tupOf ((defBody lPrime).getD 0 (.Pass ⟨0, 0, 0, 0⟩))) k tp) idx pos)) pos2] := ⟨_, _, _, _, _, rfl⟩
theorem prime_all : ((tupOf ((defBody lPrime).getD 0 (.Pass ⟨0, 0, 0, 0⟩))).all fun e => (constI e).isSome) = true := by kernel_rfl
theorem prime_vals : (tupOf ((defBody lPrime).getD 0 (.Pass ⟨0, 0, 0, 0⟩))).filterMap constI = primes10 := by kernel_rfl
noncomputable def ixOf : Stmt → Expr
  | .Return (some (.Subscript _ i _)) _ => i
  | _ => .Constant .none 0 ⟨0, 0, 0, 0⟩
theorem prime_ix {k : Nat} {tp pos pos2 : Pos} {idx : Expr} {es : List Expr} (h : defBody lPrime = [.Return (some (.Subscript (.Tuple es k tp) idx pos)) pos2]) : idx = ixOf ((defBody lPrime).getD 0 (.Pass ⟨0, 0, 0, 0⟩)) := by
  rw [h]
  rfl
theorem ok_primeL (D : Def K mg "_law_prime" lPrime ["_law_script"] f fd) (DC : Def K mg "_law_cell_at" lCell ["_law_script", "_law_k"] g gd) (GC : FnOk P w K mg base CX0 1 g gd ["_law_script", "_law_k"] (spCell K))
    (DD : Def K mg "_law_draw" lDraw ["_law_cell", "_law_k", "_law_many"] g2 gd2) (GD : FnOk P w K mg base CX0 1 g2 gd2 ["_law_cell", "_law_k", "_law_many"] spDraw) : FnOk P w K mg base CX0 2 f fd ["_law_script"] (spPrimeL K) := by
  refine D.F.ok scPrimeL (fun vs H Q E h => ?_) (fun cdv A outer s H vs Q E hr h => ?_)
  · obtain ⟨a, ns, rfl, _⟩ := h
    rfl
  obtain ⟨a, ns, rfl, h1, hl, q⟩ := h
  obtain ⟨kk, tp, pos, pos2, idx, eb⟩ := prime_body
  have hall := prime_all
  have hval := prime_vals
  have ei := prime_ix eb
  rw [eb]
  clear eb
  generalize tupOf ((defBody lPrime).getD 0 (.Pass ⟨0, 0, 0, 0⟩)) = es at hall hval ⊢
  subst ei
  refine ⟨_, pss_one (ps_ret (pe_ix ix_tup (pe_tup (pa_consts hall))
    (pcall DD GD hr (pa_cons (pcall DC GC hr (pa_cons (pv 0) (pa_cons pint pa_nil))) (pa_cons pint (pa_cons pint pa_nil)))) (fun _ _ => rfl))), ?_⟩
  rw [hval]
  refine ⟨(by show 10 ≤ sizeLine; decide), fun t ht => ?_⟩
  have sm1 := same_new ht (.tup [.int 2, .int 3, .int 2, .int 5, .int 7, .int 2, .int 997, .int 11, .int 31, .int 3])
  refine ⟨_, rfl, a, ns, 0, rfl, sm1.seq h1, hl, _, 6, 10, rfl, by decide, fun v H' h0 h2 sm => ?_⟩
  refine ⟨t, primes10.map V.int, _, _, rfl, rfl, SqT.of (sm _ _ upd_same), atI_int (k := v.toNat) (by (clear hall hl ht hval; omega)) (by show v.toNat < 10; (clear hall hl ht hval; omega)), ?_⟩
  exact q _ _ (primes10_of _ (by (clear hall hl ht hval; omega))) (sm1.trans sm)
end
end Rr

set_option Elab.async false
set_option linter.all false
set_option maxRecDepth 100000
set_option maxHeartbeats 800000
namespace Rr
open PySem L2 RM
theorem ixN_nat {n j : Nat} {k : Int} (hk : k = (j : Int)) (h : j < n) : ixN n k = some j := by
  subst hk
  unfold ixN
  rw [if_pos (by (clear h; omega)), if_pos (by omega)]
  simp
theorem map_set {l : List Int} {j : Nat} {x : Int} : (l.map V.int).set j (.int x) = (l.set j x).map V.int := by
  rw [List.map_set]
theorem Rests.set {p : Int} {l : List Int} {j : Nat} {x : Int} (h : RM.Rests p l) (hx : 0 ≤ x ∧ x < p) : RM.Rests p (l.set j x) := fun y hy => by
  rcases List.mem_or_eq_of_mem_set hy with z | z
  · exact h y z
  · rw [z]; exact hx
noncomputable def four : List Int := [0, 0, 0, 2]
theorem four_le : ∀ j : Nat, j < 4 → 0 ≤ gt four j ∧ gt four j ≤ 2 := by decide +kernel
section
variable {P : Program} {w : World} {K : PySem.W.Frag} {mg : Str → Option Value} {base : Heap} {f g g2 g3 g4 g5 g6 : Addr} {fd gd gd2 gd3 gd4 gd5 gd6 : FuncData}
theorem scRow : FnScope ["_law_script", "_law_prime_here", "_law_kind", "_law_many", "_law_drawn", "_law_rule", "_law_place"] ["_law_script", "_law_prime_here"] (defScope lRow) := ⟨rfl, rfl, rfl, by decide +kernel, rfl, by decide +kernel, by decide +kernel⟩
theorem ok_row (D : Def K mg "_law_row" lRow ["_law_script", "_law_prime_here"] f fd) (o : Own mg) (DC : Def K mg "_law_cell_at" lCell ["_law_script", "_law_k"] g gd) (GC : FnOk P w K mg base CX0 1 g gd ["_law_script", "_law_k"] (spCell K))
    (DD : Def K mg "_law_draw" lDraw ["_law_cell", "_law_k", "_law_many"] g2 gd2) (GD : FnOk P w K mg base CX0 1 g2 gd2 ["_law_cell", "_law_k", "_law_many"] spDraw)
    (DR : Def K mg "_law_rests" lRests ["_law_script", "_law_by", "_law_prime_here", "_law_many"] g3 gd3) (GR : FnOk P w K mg base CX0 2 g3 gd3 ["_law_script", "_law_by", "_law_prime_here", "_law_many"] (spRests K))
    (DU : Def K mg "_law_due" lDue ["_law_prime_here", "_law_rule", "_law_row_here", "_law_place"] g4 gd4) (GU : FnOk P w K mg base CX0 1 g4 gd4 ["_law_prime_here", "_law_rule", "_law_row_here", "_law_place"] spDue) :
    FnOk P w K mg base CX0 3 f fd ["_law_script", "_law_prime_here"] (spRow K) := by
  refine D.F.ok scRow (fun vs H Q E h => ?_) (fun cdv A outer s H vs Q E hr h => ?_)
  · obtain ⟨a, ns, p, rfl, _⟩ := h
    rfl
  obtain ⟨a, ns, p, rfl, h1, hl, pr, q⟩ := h
  have hp := pr.pos
  refine ⟨_, pss_cons (ps_par (i := 2) (j := 3) rfl scRow.nd rfl rfl (by decide) rfl rfl (pa_cons (pcall DD GD hr (pa_cons (pcall DC GC hr (pa_cons (pv 0) (pa_cons pint pa_nil))) (pa_cons pint (pa_cons pint pa_nil)))) (pa_cons (plen o (pv 0)) pa_nil)) (by kernel_rfl))
    (pss_cons (ps_set (i := 4) scRow.nd rfl (Or.inl rfl) (pcall DR GR hr (pa_cons (pv 0) (pa_cons pint (pa_cons (pv 1) (pa_cons (pv 3) pa_nil))))))
    (pss_cons (ps_if (pt_cmpR op_eq (pv 2) pint (nomark _)) (pss_one (ps_ret (pe_comp ["_law_k", "_law_number"] [0] rfl (pi_enum rfl o.enumerate (pa_cons (pv 4) pa_nil)) (fun cl C s₂ H₂ fp => pgp) (gk_pair (by decide) (by decide))
        (fun cl C s₂ H₂ fp => pe_ifExp (pt_cmpR op_eq (pcall DD GD hr (pa_cons (pe_ix (ixK (K := K) rfl) (pv 2) (pv 0) (fun _ _ => rfl)) (pa_cons pint (pa_cons pint pa_nil)))) pint (nomark _)) (pv 1) pint)))) pss_nil)
    (pss_cons (ps_if (pt_cmpR op_lt (pv 2) pint (nomark _))
      (pss_cons (ps_set (i := 5) scRow.nd rfl (Or.inl rfl) (pcall DR GR hr (pa_cons (pe_slice sl_list (pv 0) (po_some pint) po_none) (pa_cons pint (pa_cons (pv 1) (pa_cons (pe_op op_add pint (pcall DD GD hr (pa_cons (pcall DC GC hr (pa_cons (pv 0) (pa_cons pint pa_nil))) (pa_cons pint (pa_cons pint pa_nil))))) pa_nil))))))
      (pss_one (ps_for PassesOwn.never rfl (pi_range2 rfl o.range (pa_cons (plen o (pv 5)) (pa_cons (pe_op op_sub (pv 3) (pe_ix ix_tup (pe_tup (pa_cons pint (pa_cons pint (pa_cons pint (pa_cons pint pa_nil))))) (pv 2) (fun _ _ => rfl))) pa_nil))) (pgn 6)
        (pss_one (ps_asg (pcall DU GU hr (pa_cons (pv 1) (pa_cons (pv 5) (pa_cons (pv 4) (pa_cons (pv 6) pa_nil))))) (pg_sub (pv 4) (pv 6) set_list))))))
      pss_nil)
    (pss_one (ps_ret (pv 4)))))), ?_⟩
  dsimp only [cxOf, Cx.nox]
  refine ⟨_, rfl, a, ns, 1, rfl, h1, hl, gt ns 1, 7, 5, rfl, by decide, fun kind H1 k0 k5 s1 => ?_⟩
  refine ⟨_, rfl, a, _, rfl, .inl (s1.seq h1), _, _, rfl, ?_⟩
  rw [List.length_map]
  refine ⟨_, rfl, _, rfl, _, rfl, a, ns, 1, p, ns.length, rfl, s1.seq h1, hl, hp, by (clear hp k0 k5; omega), fun d H2 l s2 nd hd hR hL => ?_⟩
  have s12 := s1.trans s2
  refine ⟨_, rfl, rfl, _, rfl, ?_⟩
  by_cases hk0 : kind = 0
  · subst hk0
    refine iteTd rfl ?_
    refine ⟨_, rfl, d, rfl, ⟨_, Rd.of hd⟩, ?_⟩
    refine ⟨l.length, fun i ys H' => ∃ l' : List Int, ys = l'.map V.int ∧ l'.length = i ∧ Rests p l' ∧ Same H2 H', small (by (clear hp k0 k5 nd; omega)), ⟨[], rfl, rfl, Rests.nil, Same.refl _⟩, fun i ys H' hi hl' wi => ?_, fun ys H' hl' wi => ?_⟩
    · obtain ⟨l', rfl, hl2, hR', sm⟩ := wi
      have hx : (l.map V.int)[i]? = some (.int (gt l i)) := by rw [List.getElem?_map, List.getElem?_eq_getElem hi, gt_lt hi]; rfl
      refine ⟨⟨_, _, (hd.same sm).sq, hx⟩, fun x H3 y => ?_⟩
      obtain ⟨t, nt, e1, e2⟩ := y
      have e3 := e2 _ _ (hd.same sm).sq hx
      subst e1 e3
      have s3 := sm.trans (same_new nt (.tup [.int i, .int (gt l i)]))
      refine pair_go upd_same ?_
      refine ⟨_, rfl, _, rfl, a, _, _, _, rfl, rfl, (s12.trans s3).seq h1, atI_int (k := i) rfl (by (clear hl hp hx k0 k5 nd nt; omega)), gt ns i, 9, 5, rfl, by decide, fun v H4 v0 v5 s4 => ?_⟩
      refine ⟨rfl, _, rfl, ite2 (fun _ => ?_) (fun _ => ?_)⟩
      · exact ⟨_, rfl, l' ++ [gt l i], by rw [List.map_append]; rfl, by rw [List.length_append, hl2]; rfl, hR'.app (.one (hR.at hp i)), s3.trans s4⟩
      · exact ⟨l' ++ [0], by rw [List.map_append]; rfl, by rw [List.length_append, hl2]; rfl, hR'.app (.one ⟨by (clear hL hi hl hl' hl2 hp hx k5 nd nt v0 v5; omega), hp⟩), s3.trans s4⟩
    · obtain ⟨l', rfl, hl2, hR', sm⟩ := wi
      refine ⟨⟨_, (hd.same sm).sq, by rw [List.length_map]; exact Nat.le_refl _⟩, fun r nr => ?_⟩
      exact q r _ l' ((s12.trans sm).trans (same_new nr _)) ((s12.trans sm).free nr) (Ls.new rfl) hR' (by (clear hl hp k0 k5 nd nr; omega))
  refine iteFd (fun z => hk0 (by injection z)) ?_
  refine ⟨_, rfl, _, _, rfl, rfl, _, rfl, ?_⟩
  by_cases hk4 : kind < 4
  · refine iteTd hk4 ?_
    refine ⟨_, rfl, _, rfl, a, _, rfl, s12.seq h1, fun c nc => ?_⟩
    rw [show cutV (ns.map V.int) (some 1) none = (ns.drop 1).map V.int from cut_fromA (lo := 1)]
    have s3 := same_new nc (.lst ((ns.drop 1).map V.int))
    refine ⟨_, rfl, _, rfl, a, ns, 2, rfl, (s12.trans s3).seq h1, hl, gt ns 2, 8, 6, rfl, by decide, fun v H4 v0 v6 s4 => ?_⟩
    refine ⟨_, _, rfl, rfl, c, ns.drop 1, 3, p, (1 + v).toNat, congrArg (fun z => [V.ref c, V.int 3, V.int p, V.int z]) (by (clear hL hk0 hk4 hl hp k0 k5 nc nd; omega)), s4.seq (SqL.of upd_same), by rw [List.length_drop]; (clear hk0 hk4 hp k0 k5 nc nd v0 v6; omega), hp, by (clear hL hk0 hk4 hl hp k0 k5 nc nd; omega), fun rl H5 rule s5 nrl hrl hRr hLr => ?_⟩
    have s25 := (s3.trans s4).trans s5
    have hd5 : Ls H5 d l := hd.same s25
    have nerl : rl ≠ d := fun z => by
      subst z
      have := (s3.trans s4) _ _ hd
      rw [nrl] at this
      cases this
    have hkn : kind.toNat < 4 := by (clear hL hLr hk0 hl hp nc nd nerl nrl v0 v6; omega)
    refine ⟨_, rfl, rl, _, rfl, .inl hrl.sq, _, rfl, (by show 4 ≤ sizeLine; decide), fun t nt => ?_⟩
    have s6 := same_new nt (.tup [.int 0, .int 0, .int 0, .int 2])
    refine ⟨_, rfl, t, four.map V.int, _, _, rfl, rfl, SqT.of upd_same, atI_int (k := kind.toNat) (by (clear hL hLr hk0 hl hp nc nd nerl nrl nt v0 v6; omega)) hkn, _, _, rfl, rfl, _, _, rfl, ?_⟩
    have f4 := four_le _ hkn
    rw [List.length_map]
    refine ⟨⟨by (clear f4 hL hk0 hk4 hkn hl hp k0 k5 nc nd nerl nrl nt v0 v6; omega), by (clear f4 hL hk0 hk4 hkn hl hp k0 k5 nc nd nerl nrl nt; omega), by (clear hLr hk0 hk4 hkn hp k0 k5 nc nd nerl nrl nt v0 v6; omega), by (clear hLr hk0 hk4 hkn hp k0 k5 nc nd nerl nrl nt v0 v6; omega)⟩, for_range (fun i σ Hw => ∃ lw x, σ = [some (.ref a), some (.int p), some (.int kind), some (.int ns.length), some (.ref d), some (.ref rl), x] ∧ Same H Hw ∧ Ls Hw d lw ∧ Ls Hw rl rule ∧ Rests p lw ∧ lw.length = ns.length)
      ⟨l, none, rfl, (s12.trans s25).trans s6, hd5.same s6, hrl.same s6, hR, hL⟩ ?_ ?_⟩
    · rintro i σ Hw hi ⟨lw, x, rfl, sw, hdw, hrw, hRw, hLw⟩
      have ei : (rule.length : Int) + (i : Int) = ((rule.length + i : Nat) : Int) := by (clear f4 hL hLr hLw hi hk0 hk4 hkn hl hp k0 k5 nc nd nerl nrl nt v0 v6; omega)
      have hin : rule.length + i < ns.length := by (clear ei hk0 hk4 hkn hl hp k0 k5 nc nd nerl nrl nt v0 v6; omega)
      refine ⟨_, rfl, _, rfl, _, rfl, _, rfl, p, rl, d, rule, lw, rule.length + i, congrArg (fun z => [V.int p, V.ref rl, V.ref d, V.int z]) ei, hrw, hdw, ⟨pr, hRr, hRw, by (clear ei f4 hin hk0 hk4 hkn hl hp k0 k5 nc nd nerl nrl nt; omega), by (clear ei f4 hLr hi hin hk0 hk4 hkn hp k0 k5 nc nd nerl nrl nt v0 v6; omega)⟩, by (clear ei f4 hL hLr hLw hi hin hk0 hk4 hkn hl hp k0 k5 nc nd nerl nrl nt v0 v6; omega), by (clear ei f4 hi hk0 hk4 hkn hl hp k0 k5 nc nd nerl nrl nt v0 v6; omega), fun H7 s7 => ?_⟩
      refine ⟨_, rfl, _, rfl, d, _, _, rule.length + i, rfl, rfl, hdw.same s7, ixN_nat ei (by rw [List.length_map]; (clear ei f4 hi hk0 hk4 hkn hl hp k0 k5 nc nd nerl nrl nt v0 v6; omega)), lw.set (rule.length + i) (dueN p rule lw (rule.length + i)), _, rfl, ?_, Ls.new map_set, ?_, Rests.set hRw (dueN_rest hp _ _ _), by rw [List.length_set]; exact hLw⟩
      · exact sput (sw.trans s7) (s1.free nd)
      · show upd H7 d _ rl = _
        rw [upd_ne nerl]
        exact hrw.same s7
    · rintro σ Hw ⟨lw, x, rfl, sw, hdw, hrw, hRw, hLw⟩
      exact ⟨_, rfl, q d Hw lw sw (s1.free nd) hdw hRw hLw⟩
  · refine iteFd hk4 ⟨_, rfl, q d H2 l s12 (s1.free nd) hd hR hL⟩
end
end Rr

set_option Elab.async false
set_option linter.all false
set_option maxRecDepth 100000
set_option maxHeartbeats 800000
namespace Rr
open PySem L2 RM
section
variable {P : Program} {w : World} {K : PySem.W.Frag} {mg : Str → Option Value} {base : Heap} {f g g2 g3 g4 g5 g6 : Addr} {fd gd gd2 gd3 gd4 gd5 gd6 : FuncData}
theorem scInv : FnScope ["prime", "rest", "told", "power", "left"] ["prime", "rest"] (defScope sInv) := ⟨rfl, rfl, rfl, by decide +kernel, rfl, by decide +kernel, by decide +kernel⟩
theorem ok_inv (D : Def K mg "inverse" sInv ["prime", "rest"] f fd) : FnOk P w K mg base CX0 1 f fd ["prime", "rest"] spInv := by
  refine D.F.ok scInv (fun vs H Q E h => ?_) (fun cdv A outer s H vs Q E hr h => ?_)
  · obtain ⟨p, x, rfl, _⟩ := h
    rfl
  obtain ⟨p, x, rfl, hpp, hx0, hx1, q⟩ := h
  have hpp' := hpp
  unfold Seven at hpp
  refine ⟨_, pss_cons (ps_set (i := 2) scInv.nd rfl (Or.inl rfl) pint) (pss_cons (ps_set (i := 3) scInv.nd rfl (Or.inl rfl) (pv 1)) (pss_cons (ps_set (i := 4) scInv.nd rfl (Or.inl rfl) (pe_op op_sub (pv 0) pint))
    (pss_cons (ps_while PassesOwn.never (pt_cmpR op_gt (pv 4) pint (nomark _))
      (pss_cons (ps_if (pt_cmpR op_eq (pe_op op_mod (pv 4) pint) pint (nomark _)) (pss_one (ps_set (i := 2) scInv.nd rfl (Or.inl rfl) (pe_op op_mod (pe_op op_mul (pv 2) (pv 3)) (pv 0)))) pss_nil)
      (pss_cons (ps_set (i := 3) scInv.nd rfl (Or.inl rfl) (pe_op op_mod (pe_op op_mul (pv 3) (pv 3)) (pv 0)))
      (pss_one (ps_set (i := 4) scInv.nd rfl (Or.inl rfl) (pe_op op_fdiv (pv 4) pint))))))
    (pss_one (ps_ret (pv 2)))))), ?_⟩
  have hp2 : 2 ≤ p ∧ p ≤ 997 := ⟨hpp'.ok.1, hpp'.ok.2.1⟩
  clear hpp'
  obtain ⟨n, rfl⟩ : ∃ n : Nat, p = (n : Int) := ⟨p.toNat, by (clear hpp hx0 hx1; omega)⟩
  have hf := fermat (p := n) (by (clear hx0 hx1; omega)) hx0 hx1
  have hp : (0 : Int) < (n : Int) := by (clear hpp hx0 hx1; omega)
  refine ⟨_, rfl, _, rfl, _, _, rfl, rfl, ?_⟩
  refine ⟨fun μ σ H' => H' = H ∧ ∃ (t y : Int) (l : Nat), σ = [some (.int n), some (.int x), some (.int t), some (.int y), some (.int l)] ∧ (0 ≤ t ∧ t < n) ∧ (0 ≤ y ∧ y < n) ∧ Cg n (t * y ^ l) (x ^ (n - 2)) ∧ μ = l,
    ⟨n - 2, rfl, 1, x, n - 2, ?_, by (clear hp hpp hx0 hx1; omega), by (clear hp hp2 hpp; omega), (by rw [Int.one_mul]; exact Cg.refl _ _), rfl⟩, ?_⟩
  · show [some (V.int n), some (V.int x), some (V.int 1), some (V.int x), some (V.int ((n : Int) - 2))] = _
    rw [show (n : Int) - 2 = ((n - 2 : Nat) : Int) by (clear hp hpp hx0 hx1; omega)]
  rintro l σ H' ⟨rfl, t, y, _, rfl, ht, hy, hc, rfl⟩
  refine ⟨_, rfl, _, _, rfl, rfl, _, rfl, ?_⟩
  by_cases hl : 0 < l
  · refine iteTd (by (clear hp hp2 hpp ht hx0 hx1 hy; omega)) ⟨_, fun σ' H' z => z, ?_⟩
    refine ⟨_, rfl, _, _, rfl, rfl, (by show (0 : Int) < 2; decide), rfl, _, rfl, ?_⟩
    have e2 : ((l : Int) / 2) = ((l / 2 : Nat) : Int) := by (clear hl hp hp2 hpp ht hx0 hx1 hy; omega)
    have step : ∀ t' : Int, (0 ≤ t' ∧ t' < n) → Cg n (t' * (y * y % n) ^ (l / 2)) (x ^ (n - 2)) → ∃ m', m' < l ∧ H' = H' ∧ ∃ (t : Int) (y' : Int) (l' : Nat), [some (V.int n), some (V.int x), some (V.int t'), some (V.int (y * y % n)), some (V.int ((l : Int) / 2))] = [some (V.int n), some (V.int x), some (V.int t), some (V.int y'), some (V.int l')] ∧ (0 ≤ t ∧ t < n) ∧ (0 ≤ y' ∧ y' < n) ∧ Cg n (t * y' ^ l') (x ^ (n - 2)) ∧ m' = l' :=
      fun t' h1 h2 => ⟨l / 2, by (clear e2 h1 hp hp2 hpp ht hx0 hx1 hy; omega), rfl, t', y * y % n, l / 2, by rw [e2], h1, mod_rest hp, h2, rfl⟩
    have hpow : Cg n ((y * y % n) ^ (l / 2)) ((y * y) ^ (l / 2)) := (Cg.emod _ _).pow _
    by_cases hb : l % 2 = 1
    · refine iteTd (congrArg V.int (by (clear e2 hl hp hp2 hpp ht hx0 hx1 hy; omega))) ?_
      refine ⟨_, rfl, _, rfl, _, _, rfl, rfl, .inl ⟨by (clear e2 hb hl hp hp2 hpp hx0 hx1 hy; omega), by (clear e2 hb hl hp hpp hx0 hx1 hy; omega)⟩, _, rfl, _, _, rfl, rfl, hp, ?_⟩
      refine ⟨_, rfl, _, rfl, _, _, rfl, rfl, .inl ⟨by (clear e2 hb hl hp hp2 hpp ht hx0 hx1; omega), by (clear e2 hb hl hp hpp ht hx0 hx1; omega)⟩, _, rfl, _, _, rfl, rfl, hp, ?_⟩
      refine ⟨_, rfl, _, _, rfl, rfl, ⟨by decide, by decide⟩, ?_⟩
      refine step _ (mod_rest hp) ?_
      refine ((Cg.emod _ _).mul hpow).trans ?_
      refine (Cg.of_eq ?_).trans hc
      rw [pow_half y l, hb, Int.pow_succ, Int.pow_zero, Int.one_mul, Int.mul_assoc, Int.mul_comm y]
    · refine iteFd (fun z => ?_) ?_
      · have z' : V.int ((l : Int) % 2) = V.int 1 := z
        injection z' with z'
        (clear e2 hl hp hp2 hpp ht hx0 hx1 hy z; omega)
      refine ⟨_, rfl, _, rfl, _, _, rfl, rfl, .inl ⟨by (clear e2 hb hl hp hp2 hpp ht hx0 hx1; omega), by (clear e2 hb hl hp hpp ht hx0 hx1; omega)⟩, _, rfl, _, _, rfl, rfl, hp, ?_⟩
      refine ⟨_, rfl, _, _, rfl, rfl, ⟨by decide, by decide⟩, ?_⟩
      refine step _ ht ?_
      refine ((Cg.refl _ _).mul hpow).trans ?_
      refine (Cg.of_eq ?_).trans hc
      rw [pow_half y l, show l % 2 = 0 by (clear e2 hl hp hp2 hpp ht hx0 hx1 hy; omega), Int.pow_zero, Int.mul_one]
  · refine iteFd (by (clear hp hp2 hpp ht hx0 hx1 hy; omega)) ⟨_, rfl, q t ht.1 ht.2 ?_⟩
    have : l = 0 := by (clear hp hp2 hpp ht hx0 hx1 hy; omega)
    subst this
    rw [Int.pow_zero, Int.mul_one] at hc
    exact ((Cg.refl _ x).mul hc).trans hf
end
end Rr

set_option Elab.async false
set_option linter.all false
set_option maxRecDepth 100000
set_option maxHeartbeats 800000
namespace Rr
open PySem L2 RM
theorem cut_to {ns : List Int} {hi : Nat} : cutV (ns.map V.int) none (some (hi : Int)) = (ns.take hi).map V.int := by
  unfold cutV
  rw [HT.sIx_nat, HT.sIx_none, List.length_map, Nat.sub_zero, List.drop_zero, ← List.map_take]
  congr 1
  rw [← List.take_eq_take_min]
section
variable {P : Program} {w : World} {K : PySem.W.Frag} {mg : Str → Option Value} {base : Heap} {f g g2 g3 g4 g5 g6 : Addr} {fd gd gd2 gd3 gd4 gd5 gd6 : FuncData}
theorem scFails : FnScope ["prime", "rule", "row", "place"] ["prime", "rule", "row", "place"] (defScope sFails) := ⟨rfl, rfl, rfl, by decide +kernel, rfl, by decide +kernel, by decide +kernel⟩
theorem ok_fails (D : Def K mg "fails_first_at" sFails ["prime", "rule", "row", "place"] f fd) (o : Own mg) (DD : Def K mg "due" sDue ["prime", "rule", "row", "place"] g gd) (GD : FnOk P w K mg base CX0 1 g gd ["prime", "rule", "row", "place"] spDue)
    (DM : Def K mg "makes" sMakes ["prime", "rule", "row"] g2 gd2) (GM : FnOk P w K mg base CX0 5 g2 gd2 ["prime", "rule", "row"] spMakes) : FnOk P w K mg base CX0 6 f fd ["prime", "rule", "row", "place"] spFails := by
  refine D.F.ok scFails (fun vs H Q E h => ?_) (fun cdv A outer s H vs Q E hr h => ?_)
  · obtain ⟨p, a, b, rule, row, pl, rfl, _⟩ := h
    rfl
  obtain ⟨p, a, b, rule, row, pl, rfl, h1, h2, rr, q⟩ := h
  refine ⟨_, pss_cons (ps_if (PW.pt (pw_or (pt_cmpR op_lt (pv 3) (plen o (pv 1)) (nomark _)) (pw_or1 (pt_cmpR op_ge (pv 3) (plen o (pv 2)) (nomark _))))) (pss_one (ps_ret pe_bl)) pss_nil)
    (pss_one (ps_ret (pe_and (pe_cmpR op_ne (pe_ix ix_list (pv 2) (pv 3) (fun _ _ => rfl)) (pcall DD GD hr (pa_cons (pv 0) (pa_cons (pv 1) (pa_cons (pv 2) (pa_cons (pv 3) pa_nil))))) (nomark _))
      (pe_one (pcall DM GM hr (pa_cons (pv 0) (pa_cons (pv 1) (pa_cons (pe_slice sl_list (pv 2) po_none (po_some (pv 3))) pa_nil)))))))), ?_⟩
  dsimp only [cxOf, Cx.nox]
  have l1 := rr.l1
  have l2 := rr.l2
  refine ⟨_, rfl, _, rfl, a, _, rfl, .inl h1.sq, _, _, rfl, rfl, _, rfl, ?_⟩
  rw [List.length_map]
  by_cases hlo : pl < (rule.length : Int)
  · refine iteTd hlo ?_
    have := q H (Same.refl _)
    rw [decide_eq_false (by (clear l1 l2; omega) : ¬ ((rule.length : Int) ≤ pl ∧ pl < row.length)), Bool.false_and] at this
    exact this
  refine iteFd hlo ?_
  refine ⟨_, rfl, _, rfl, b, _, rfl, .inl h2.sq, _, _, rfl, rfl, _, rfl, ?_⟩
  rw [List.length_map]
  by_cases hhi : pl ≥ (row.length : Int)
  · refine iteTd hhi ?_
    have := q H (Same.refl _)
    rw [decide_eq_false (by (clear hlo l1 l2; omega) : ¬ ((rule.length : Int) ≤ pl ∧ pl < row.length)), Bool.false_and] at this
    exact this
  refine iteFd hhi ?_
  obtain ⟨n, rfl⟩ : ∃ n : Nat, pl = (n : Int) := ⟨pl.toNat, by (clear hhi l2; omega)⟩
  have q' : ∀ H', Same H H' → Q (.bl ((!(gt row n == dueN p rule row n)) && makesN p rule (row.take n))) H' := fun H' s => by
    have := q H' s
    rw [decide_eq_true (by (clear l1 l2; omega) : (rule.length : Int) ≤ (n : Int) ∧ (n : Int) < row.length), Bool.true_and] at this
    exact this
  refine ⟨_, rfl, _, rfl, b, _, _, _, rfl, rfl, h2.sq, atI_int rfl (by (clear hlo l1 l2; omega)), ?_⟩
  refine ⟨_, rfl, _, rfl, _, rfl, _, rfl, p, a, b, rule, row, n, rfl, h1, h2, rr, by (clear hhi l1 l2; omega), by (clear hlo l1 l2; omega), fun H1 s1 => ?_⟩
  refine ⟨rfl, _, rfl, ?_⟩
  by_cases hc : gt row n = dueN p rule row n
  · refine iteNd (by rw [hc]) ?_
    have := q' H1 s1
    rw [hc, beq_self_eq_true] at this
    exact this
  refine iteYd (fun z => hc (by injection z)) ?_
  refine ⟨_, rfl, _, rfl, _, rfl, _, rfl, _, rfl, b, _, rfl, (h2.same s1).sq, fun c nc => ?_⟩
  rw [cut_to]
  have s2 := s1.trans (same_new nc (.lst ((row.take n).map V.int)))
  refine ⟨p, a, c, rule, row.take n, rfl, h1.same s2, upd_same, ⟨rr.pr, rr.r1, rr.r2.take _, rr.l1, by rw [List.length_take]; (clear hc hlo l1 nc; omega)⟩, fun H3 s3 => ?_⟩
  have := q' H3 (s2.trans s3)
  rw [show (gt row n == dueN p rule row n) = false from beq_eq_false_iff_ne.mpr hc] at this
  exact this
theorem scIsLeast : FnScope ["prime", "row", "rule", "shorter", "place"] ["prime", "row", "rule", "shorter", "place"] (defScope sIsLeast) := ⟨rfl, rfl, rfl, by decide +kernel, rfl, by decide +kernel, by decide +kernel⟩
theorem ok_isLeast (D : Def K mg "is_least" sIsLeast ["prime", "row", "rule", "shorter", "place"] f fd) (o : Own mg) (DA : Def K mg "are_rests" sAre ["prime", "value"] g gd) (GA : FnOk P w K mg base CX0 3 g gd ["prime", "value"] spAreB)
    (DW : Def K mg "is_whole" sWhole ["value"] g2 gd2) (GW : FnOk P w K mg base CX0 1 g2 gd2 ["value"] spWhole) (DM : Def K mg "makes" sMakes ["prime", "rule", "row"] g3 gd3) (GM : FnOk P w K mg base CX0 5 g3 gd3 ["prime", "rule", "row"] spMakes)
    (DF : Def K mg "fails_first_at" sFails ["prime", "rule", "row", "place"] g4 gd4) (GF : FnOk P w K mg base CX0 6 g4 gd4 ["prime", "rule", "row", "place"] spFails) : FnOk P w K mg base CX0 7 f fd ["prime", "row", "rule", "shorter", "place"] spIsLeast := by
  refine D.F.ok scIsLeast (fun vs H Q E h => ?_) (fun cdv A outer s H vs Q E hr h => ?_)
  · obtain ⟨p, b, a, c, row, rule, shorter, pl, rfl, _⟩ := h
    rfl
  obtain ⟨p, b, a, c, row, rule, shorter, pl, rfl, hb, ha, hc, lr, q⟩ := h
  refine ⟨_, pss_cons (ps_if (PW.pt (pw_or (pt_not (pt_val (pcall DA GA hr (pa_cons (pv 0) (pa_cons (pv 2) pa_nil))))) (pw_or (pt_not (pt_val (pcall DA GA hr (pa_cons (pv 0) (pa_cons (pv 3) pa_nil))))) (pw_or1 (pt_not (pt_val (pcall DW GW hr (pa_cons (pv 4) pa_nil)))))))) (pss_one (ps_ret pe_bl)) pss_nil)
    (pss_cons (ps_if (pt_not (pt_val (pcall DM GM hr (pa_cons (pv 0) (pa_cons (pv 2) (pa_cons (pv 1) pa_nil)))))) (pss_one (ps_ret pe_bl)) pss_nil)
    (pss_cons (ps_if (pt_cmpR op_eq (plen o (pv 2)) pint (nomark _)) (pss_one (ps_ret (pe_and (pe_cmpR op_eq (plen o (pv 3)) pint (nomark _)) (pe_one (pe_cmpR op_eq (pv 4) (pe_un un_neg pint) (nomark _)))))) pss_nil)
    (pss_cons (ps_if (PW.pt (pw_or (pt_cmpR op_ge (plen o (pv 3)) (plen o (pv 2)) (nomark _)) (pw_or1 (pt_cmpR op_ne (pe_op op_add (plen o (pv 2)) (plen o (pv 3))) (pe_op op_add (pv 4) pint) (nomark _))))) (pss_one (ps_ret pe_bl)) pss_nil)
    (pss_one (ps_ret (pcall DF GF hr (pa_cons (pv 0) (pa_cons (pv 3) (pa_cons (pv 1) (pa_cons (pv 4) pa_nil)))))))))), ?_⟩
  dsimp only [cxOf, Cx.nox]
  have l1 := lr.l1
  have l2 := lr.l2
  have l3 := lr.l3
  refine ⟨_, rfl, _, rfl, p, a, rule, rfl, ha, _, rfl, ?_⟩
  cases e1 : restsB p rule with
  | false =>
    refine iteT ?_
    have := q H (Same.refl _)
    rw [leastB_r1 e1] at this
    exact this
  | true =>
  refine iteF ?_
  refine ⟨_, rfl, _, rfl, p, c, shorter, rfl, hc, _, rfl, ?_⟩
  cases e2 : restsB p shorter with
  | false =>
    refine iteT ?_
    have := q H (Same.refl _)
    rw [leastB_r2 e2] at this
    exact this
  | true =>
  refine iteF ?_
  refine ⟨_, rfl, pl, rfl, _, rfl, iteF ?_⟩
  refine ⟨_, rfl, _, rfl, _, rfl, p, a, b, rule, row, rfl, ha, hb, ⟨lr.pr, restsB_iff.mp e1, lr.r, lr.l2, lr.l1⟩, fun H1 s1 => ⟨_, rfl, ?_⟩⟩
  cases e3 : makesN p rule row with
  | false =>
    refine iteT ?_
    have := q H1 s1
    rw [leastB_mk e3] at this
    exact this
  | true =>
  refine iteF ?_
  have ha := ha.same s1
  have hb := hb.same s1
  have hc := hc.same s1
  refine ⟨_, rfl, a, _, rfl, .inl ha.sq, rfl, _, rfl, ?_⟩
  rw [List.length_map]
  by_cases hz : rule.length = 0
  · refine iteTd (by rw [hz]; rfl) ?_
    have q1 := q H1 s1
    rw [leastB_nil e1 e2 e3 hz] at q1
    refine ⟨_, rfl, c, _, rfl, .inl hc.sq, rfl, _, rfl, ?_⟩
    rw [List.length_map]
    by_cases hz2 : shorter.length = 0
    · refine iteTd (by rw [hz2]; rfl) ⟨_, rfl, _, rfl, rfl, ?_⟩
      rw [decide_eq_true hz2, Bool.true_and] at q1
      show Q (.bl (decide (V.int pl = V.int (-1)))) H1
      rw [dec_int]
      exact q1
    · refine iteFd (fun z => hz2 (by have z' : V.int (shorter.length : Int) = V.int 0 := z; injection z' with z'; (clear e1 e2 e3 hz hz2 l1 l2 l3 z; omega))) ?_
      rw [decide_eq_false hz2, Bool.false_and] at q1
      exact q1
  refine iteFd (fun z => hz (by have z' : V.int (rule.length : Int) = V.int 0 := z; injection z' with z'; (clear e1 e2 e3 hz l1 l2 l3 z; omega))) ?_
  refine ⟨_, rfl, c, _, rfl, .inl hc.sq, _, rfl, a, _, rfl, .inl ha.sq, _, _, rfl, rfl, _, rfl, ?_⟩
  rw [List.length_map, List.length_map]
  by_cases hge : (shorter.length : Int) ≥ (rule.length : Int)
  · refine iteTd hge ?_
    have := q H1 s1
    rw [leastB_ge hz (by (clear e1 e2 e3 hz l1 l2 l3; omega))] at this
    exact this
  refine iteFd hge ?_
  refine ⟨_, rfl, a, _, rfl, .inl ha.sq, _, rfl, c, _, rfl, .inl hc.sq, _, _, rfl, rfl, _, rfl, _, _, rfl, rfl, rfl, _, rfl, ?_⟩
  rw [List.length_map, List.length_map]
  by_cases hs : (rule.length : Int) + shorter.length = pl + 1
  · refine iteNd (congrArg V.int hs) ?_
    refine ⟨_, rfl, _, rfl, _, rfl, _, rfl, p, c, b, shorter, row, pl, rfl, hc, hb, ⟨lr.pr, restsB_iff.mp e2, lr.r, lr.l3, lr.l1⟩, fun H2 s2 => ?_⟩
    have := q H2 (s1.trans s2)
    rw [leastB_last e1 e2 e3 hz (by (clear e1 e2 e3 hz l1 l2 l3; omega)) hs] at this
    exact this
  · refine iteYd (fun z => hs (by have z' : V.int ((rule.length : Int) + shorter.length) = V.int (pl + 1) := z; injection z')) ?_
    have := q H1 s1
    rw [least_not hs] at this
    exact this
theorem scSole : FnScope ["rule", "row"] ["rule", "row"] (defScope sSole) := ⟨rfl, rfl, rfl, by decide +kernel, rfl, by decide +kernel, by decide +kernel⟩
theorem ok_sole (D : Def K mg "is_sole" sSole ["rule", "row"] f fd) (o : Own mg) : FnOk P w K mg base CX0 1 f fd ["rule", "row"] spSole := by
  refine D.F.ok scSole (fun vs H Q E h => ?_) (fun cdv A outer s H vs Q E hr h => ?_)
  · obtain ⟨a, b, rule, row, rfl, _⟩ := h
    rfl
  obtain ⟨a, b, rule, row, rfl, ha, hb, l1, l2, q⟩ := h
  refine ⟨_, pss_one (ps_ret (pe_cmpR op_le (pe_op op_mul pint (plen o (pv 0))) (plen o (pv 1)) (nomark _))), ?_⟩
  refine ⟨_, rfl, a, _, rfl, .inl ha.sq, _, _, rfl, rfl, .inl ⟨by decide, by decide⟩, _, rfl, b, _, rfl, .inl hb.sq, _, _, rfl, rfl, ?_⟩
  rw [List.length_map, List.length_map]
  exact q
end
end Rr

set_option Elab.async false
set_option linter.all false
set_option maxRecDepth 100000
set_option maxHeartbeats 800000
namespace Rr
open PySem L2 RM
noncomputable abbrev sInitL : Stmt := inClass cLeast 0
noncomputable abbrev sShowsL : Stmt := inClass cLeast 1
section
variable {P : Program} {w : World} {K : PySem.W.Frag} {mg : Str → Option Value} {base : Heap} {f g g2 g3 C : Addr} {fd gd gd2 gd3 : FuncData}
theorem scInitL : FnScope ["self", "rule", "shorter", "place"] ["self", "rule", "shorter", "place"] (defScope sInitL) := ⟨rfl, rfl, rfl, by decide +kernel, rfl, by decide +kernel, by decide +kernel⟩
theorem ok_initL (F : Fun K "__init__" "Least.__init__" sInitL f fd) (o : Own mg) (c : Cl3 K C) : FnOk P w K mg base CX0 1 f fd ["self", "rule", "shorter", "place"] (spInit3 C) := by
  refine F.ok scInitL (fun vs H Q E h => ?_) (fun cdv A outer s H vs Q E hr h => ?_)
  · obtain ⟨x, a, d, pl, dx, rule, shorter, rfl, _⟩ := h
    rfl
  obtain ⟨x, a, d, pl, dx, rule, shorter, rfl, hx, h1, h2, q⟩ := h
  refine ⟨_, pss_cons (ps_fld (pv 0) (pe_callTy call_list_of rfl o.list boot_listT (pa_cons (pv 1) pa_nil)) rfl)
    (pss_cons (ps_fld (pv 0) (pe_callTy call_list_of rfl o.list boot_listT (pa_cons (pv 2) pa_nil)) rfl)
    (pss_one (ps_fld (pv 0) (pv 3) rfl))), ?_⟩
  dsimp only [cxOf, Cx.nox]
  refine ⟨_, rfl, a, _, rfl, .inl h1.sq, fun r nr => ?_⟩
  have nxr : x ≠ r := ne_of_none hx nr
  refine ⟨_, rfl, x, C, dx, _, rfl, (by rw [upd_ne nxr]; exact hx), c.cl, c.r, (by show 0 < 1000; decide), ?_⟩
  have ndx : d ≠ x := ne_of h2 hx (by intro z; cases z)
  have ndr : d ≠ r := ne_of_none h2 nr
  refine ⟨_, rfl, d, _, rfl, .inl (Ls.sq (ns := shorter) (by unfold Ls; rw [upd_ne ndx, upd_ne ndr]; exact h2)), fun t nt => ?_⟩
  have ntx : t ≠ x := fun z => by rw [z, upd_same] at nt; cases nt
  rw [upd_ne ntx] at nt
  have ntr : t ≠ r := fun z => by rw [z, upd_same] at nt; cases nt
  rw [upd_ne ntr] at nt
  refine ⟨_, rfl, x, C, dx, _, rfl, (by rw [upd_ne ntx.symm]; exact upd_same), c.cl, c.s, (by have := length_putF "rule" (.ref r) []; simp at this; (clear hx ndr ndx nr nt ntr ntx nxr; omega)), ?_⟩
  refine ⟨_, rfl, _, rfl, x, C, dx, _, rfl, upd_same, c.cl, c.p, (by have := length_putF "shorter" (.ref t) (putF "rule" (.ref r) []); have := length_putF "rule" (.ref r) []; simp at this; (clear hx ndr ndx nr nt ntr ntx nxr; omega)), ?_⟩
  refine q r t _ nr nt ⟨⟨dx, upd_same⟩, ?_, ?_, ntr.symm⟩ fun b u nb e => ?_
  · unfold Ls
    rw [upd_ne nxr.symm, upd_ne nxr.symm, upd_ne ntr.symm, upd_ne nxr.symm, upd_same]
  · unfold Ls
    rw [upd_ne ntx, upd_ne ntx, upd_same]
  · rw [upd_ne nb, upd_ne nb, upd_ne (ne_of_none e nt), upd_ne nb, upd_ne (ne_of_none e nr)]
    exact e
theorem scShowsL : FnScope ["self", "prime", "row"] ["self", "prime", "row"] (defScope sShowsL) := ⟨rfl, rfl, rfl, by decide +kernel, rfl, by decide +kernel, by decide +kernel⟩
theorem ok_showsL (F : Fun K "shows" "Least.shows" sShowsL f fd) (c : Cl3 K C) (DI : Def K mg "is_least" sIsLeast ["prime", "row", "rule", "shorter", "place"] g gd) (GI : FnOk P w K mg base CX0 7 g gd ["prime", "row", "rule", "shorter", "place"] spIsLeast) : FnOk P w K mg base CX0 8 f fd ["self", "prime", "row"] (spShows C) := by
  refine F.ok scShowsL (fun vs H Q E h => ?_) (fun cdv A outer s H vs Q E hr h => ?_)
  · obtain ⟨x, p, b, r, t, row, rule, shorter, pl, rfl, _⟩ := h
    rfl
  obtain ⟨x, p, b, r, t, row, rule, shorter, pl, rfl, ⟨⟨dx, hx⟩, h1, h2, _⟩, hb, lr, q⟩ := h
  refine ⟨_, pss_one (ps_ret (PE.tag (pcall DI GI hr (pa_cons (pv 1) (pa_cons (pv 2) (pa_cons (pe_fld (pv 0) rfl) (pa_cons (pe_fld (pv 0) rfl) (pa_cons (pe_fld (pv 0) rfl) pa_nil)))))))), ?_⟩
  exact call5 hx c.cl c.r c.s c.p flds3_r flds3_s flds3_p rfl rfl rfl hb h1 h2 lr q
end
theorem make_same {H : Hp} {x dx C : Addr} (nx : H x = none) (ndx : H dx = none) : Same H (upd (upd H dx (.own x)) x (.ins C dx [])) := fun b o e => by
  rw [upd_ne (ne_of_none e nx), upd_ne (ne_of_none e ndx)]
  exact e
theorem made_same {H H' : Hp} {x dx C : Addr} (nx : H x = none) (ndx : H dx = none) (h : ∀ b o, b ≠ x → (upd (upd H dx (.own x)) x (.ins C dx [])) b = some o → H' b = some o) : Same H H' := fun b o e =>
  h b o (ne_of_none e nx) (make_same nx ndx b o e)
theorem make_free {H : Hp} {x dx C r : Addr} (nx : H x = none) (ndx : H dx = none) (h : (upd (upd H dx (.own x)) x (.ins C dx [])) r = none) : H r = none := (make_same (C := C) nx ndx).free h
end Rr

set_option Elab.async false
set_option linter.all false
set_option maxRecDepth 100000
set_option maxHeartbeats 800000
namespace Rr
open PySem L2 RM
theorem tup_go {K : PySem.W.Frag} {H : Hp} {p : Addr} {a b : V} {σ : St} {i j : Nat} {Q : St → Hp → Prop} (h : H p = some (.tup [a, b])) (q : Q ((σ.set i (some a)).set j (some b)) H) : gTup K 2 (gCons (gName i) (gCons (gName j) gNil)) (.ref p) σ H Q :=
  ⟨p, [a, b], rfl, SqT.of h, rfl, a, [b], rfl, b, [], rfl, rfl, q⟩
theorem pgq {X : Cx} (i j : Nat) {x y : Str} {px py pos : Pos} {k : Nat} (hc : X.calm = true := by rfl) (hN : X.N.Nodup := by exact of_decide_eq_true (by kernel_rfl)) (h0 : X.N[i]? = some x := by rfl) (h1 : X.N[j]? = some y := by rfl) (hx : X.env.scope.names.lookup x = some .local := by rfl)
    (hy : X.env.scope.names.lookup y = some .local := by rfl) : PG X (.Tuple [.Name x px, .Name y py] k pos) (gTup X.K 2 (gCons (gName i) (gCons (gName j) gNil))) :=
  pg_tup hc (pgs_cons (pg_name hN h0 (.inl hx) (.inr hx)) (pgs_cons (pg_name hN h1 (.inl hy) (.inr hy)) pgs_nil))
theorem rep_zero (k : Nat) : (List.replicate k [V.int 0]).flatten = (List.replicate k (0 : Int)).map V.int := by
  induction k with
  | zero => rfl
  | succ k ih => rw [List.replicate_succ, List.flatten_cons, ih, List.replicate_succ]; rfl
section
variable {P : Program} {w : World} {K : PySem.W.Frag} {mg : Str → Option Value} {base : Heap} {f g g2 g3 : Addr} {fd gd gd2 gd3 : FuncData}
theorem scMixed : FnScope ["prime", "rule", "shorter", "shift", "share", "length", "told", "back", "rest"] ["prime", "rule", "shorter", "shift", "share"] (defScope sMixed) := ⟨rfl, rfl, rfl, by decide +kernel, rfl, by decide +kernel, by decide +kernel⟩
theorem ok_mixed (D : Def K mg "mixed" sMixed ["prime", "rule", "shorter", "shift", "share"] f fd) (o : Own mg) : FnOk P w K mg base CX0 1 f fd ["prime", "rule", "shorter", "shift", "share"] spMixed := by
  refine D.F.ok scMixed (fun vs H Q E h => ?_) (fun cdv A outer s H vs Q E hr h => ?_)
  · obtain ⟨p, a, c, rule, shorter, sh, share, rfl, _⟩ := h
    rfl
  obtain ⟨p, a, c, rule, shorter, sh, share, rfl, ha, hc, hp, hp2, r1, r2, s1, s2, t0, t1, l1, l2, q⟩ := h
  refine ⟨_, pss_cons (ps_set (i := 5) scMixed.nd rfl (Or.inl rfl) (pe_callB (call_max2 rfl) rfl o.max boot_maxB (pa_cons (plen o (pv 1)) (pa_cons (pe_op op_add (pv 3) (plen o (pv 2))) pa_nil))))
    (pss_cons (ps_set (i := 6) scMixed.nd rfl (Or.inl rfl) (pe_op op_cat (pv 1) (pe_op op_rep (pe_lst (pa_cons pint pa_nil)) (pe_op op_sub (pv 5) (plen o (pv 1))))))
    (pss_cons (ps_asg (pe_op op_mod (pe_op op_add (pe_ix ix_list (pv 6) (pe_op op_sub (pv 3) pint) (fun _ _ => rfl)) (pv 4)) (pv 0)) (pg_sub (pv 6) (pe_op op_sub (pv 3) pint) set_list))
    (pss_cons (ps_for PassesOwn.never rfl (pi_enumK rfl o.enumerate (pa_cons (pv 2) pa_nil) (pv 3)) (pgq 7 8)
      (pss_one (ps_asg (pe_op op_mod (pe_op op_sub (pe_ix ix_list (pv 6) (pv 7) (fun _ _ => rfl)) (pe_op op_mul (pv 4) (pv 8))) (pv 0)) (pg_sub (pv 6) (pv 7) set_list))))
    (pss_one (ps_ret (pv 6)))))), ?_⟩
  dsimp only [cxOf, Cx.nox]
  have eLen : (if (sh : Int) + ((shorter.map V.int).length : Int) > ((rule.map V.int).length : Int) then (sh : Int) + ((shorter.map V.int).length : Int) else ((rule.map V.int).length : Int)) = ((max rule.length (sh + shorter.length) : Nat) : Int) := by
    rw [List.length_map, List.length_map]
    split <;> (clear hp hp2 l1 l2 s1 s2 t0 t1; omega)
  refine ⟨_, rfl, a, _, rfl, .inl ha.sq, _, rfl, _, rfl, c, _, rfl, .inl hc.sq, _, _, rfl, rfl, _, _, rfl, ?_⟩
  rw [eLen]
  generalize hL : max rule.length (sh + shorter.length) = L
  refine ⟨_, rfl, (by show 1 ≤ sizeLine; decide), fun z nz => ?_⟩
  have u1 := same_new nz (.lst [.int 0])
  refine ⟨_, rfl, _, rfl, a, _, rfl, .inl (ha.same u1).sq, _, _, rfl, rfl, ?_⟩
  rw [List.length_map]
  refine ⟨z, _, _, rfl, rfl, upd_same, by (clear eLen hL hp hp2 l2 nz s1 s2 t0 t1; omega), by (clear eLen hp hp2 nz t0 t1; omega), ?_, fun y ny => ?_⟩
  · show 1 * _ ≤ sizeLine
    rw [Nat.one_mul]
    exact small (by (clear eLen hp hp2 nz t0 t1; omega))
  have e0 : ((L : Int) - (rule.length : Int)).toNat = L - rule.length := by (clear eLen hL hp hp2 l1 l2 ny nz s1 s2 t0 t1; omega)
  rw [e0, rep_zero]
  have u2 := u1.trans (same_new ny (.lst ((List.replicate (L - rule.length) (0 : Int)).map V.int)))
  refine ⟨a, y, _, _, rfl, rfl, ha.same u2, upd_same, ?_, fun r nr => ?_⟩
  · rw [List.length_map, List.length_map, List.length_replicate]
    exact small (by (clear e0 eLen hp hp2 ny nz t0 t1; omega))
  have u3 := u2.trans (same_new nr (.lst (rule.map V.int ++ (List.replicate (L - rule.length) (0 : Int)).map V.int)))
  have nr0 : H r = none := u2.free nr
  have hr1 : Ls (upd (upd (upd H z (.lst [.int 0])) y (.lst ((List.replicate (L - rule.length) (0 : Int)).map V.int))) r (.lst (rule.map V.int ++ (List.replicate (L - rule.length) (0 : Int)).map V.int))) r (rule ++ List.replicate (L - rule.length) 0) := Ls.new (by rw [List.map_append])
  generalize upd (upd (upd H z (.lst [.int 0])) y (.lst ((List.replicate (L - rule.length) (0 : Int)).map V.int))) r (.lst (rule.map V.int ++ (List.replicate (L - rule.length) (0 : Int)).map V.int)) = H3 at u3 hr1 ⊢
  have lt : (rule ++ List.replicate (L - rule.length) (0 : Int)).length = L := by rw [List.length_append, List.length_replicate]; (clear e0 eLen hp hp2 l1 l2 nr nr0 ny nz s1 s2 t0 t1; omega)
  have es : (sh : Int) - 1 = ((sh - 1 : Nat) : Int) := by (clear e0 eLen hL hp hp2 l1 l2 lt nr nr0 ny nz t0 t1; omega)
  refine ⟨_, rfl, _, rfl, _, _, rfl, rfl, r, _, _, _, rfl, rfl, hr1.sq, atI_int es (by (clear e0 eLen hp hp2 l1 nr nr0 ny nz t0 t1; omega)), _, rfl, _, _, rfl, rfl, _, rfl, _, _, rfl, rfl, hp, ?_⟩
  refine ⟨_, rfl, _, rfl, _, _, rfl, rfl, r, _, _, sh - 1, rfl, rfl, hr1, ixN_nat es (by rw [List.length_map]; (clear e0 eLen hp hp2 l1 nr nr0 ny nz t0 t1; omega)), ?_⟩
  have m0 := mix_start (shorter := shorter) (shift := sh) (share := share) hp r1 s1
  rw [hL] at m0
  rw [map_set, m0]
  have u4 : Same H (upd H3 r (.lst ((mixK p rule shorter sh share 0).map V.int))) := sput u3 nr0
  refine ⟨_, rfl, _, rfl, c, sh, rfl, rfl, by (clear e0 eLen hL hp hp2 l1 l2 lt m0 nr nr0 ny nz t0 t1; omega), ⟨_, Rd.of (hc.same u4)⟩, for_enumK (xs := shorter.map V.int) (fun i σ Hw => ∃ x7 x8, σ = [some (.int p), some (.ref a), some (.ref c), some (.int sh), some (.int share), some (.int L), some (.ref r), x7, x8] ∧ Same H Hw ∧ Ls Hw r (mixK p rule shorter sh share i))
    ⟨none, none, rfl, u4, upd_same⟩ (fun i σ Hw _ hw => ?_) ?_ ?_⟩
  · obtain ⟨_, _, _, sw, _⟩ := hw
    exact (hc.same sw).sq
  · rintro i x σ Hw t hx ⟨x7, x8, rfl, sw, hm⟩ nt
    obtain ⟨rfl, hi⟩ := at_int hx
    have v1 := sw.trans (same_new nt (.tup [.int ((sh + i : Nat) : Int), .int (gt shorter i)]))
    have hm1 := hm.same (same_new nt (.tup [.int ((sh + i : Nat) : Int), .int (gt shorter i)]))
    refine tup_go upd_same ?_
    have hin : sh + i < (mixK p rule shorter sh share i).length := by rw [mixK_len]; (clear e0 eLen hp hp2 hx l1 l2 m0 nr nr0 nt ny nz t0 t1; omega)
    refine ⟨_, rfl, _, rfl, r, _, _, _, rfl, rfl, hm1.sq, atI_int rfl hin, _, rfl, _, rfl, _, _, rfl, rfl, .inl ⟨by (clear e0 eLen es hL hi hin hp hp2 hx l1 l2 lt m0 nr nr0 nt ny nz s1 s2 t1; omega), by (clear e0 eLen es hL hi hin hx l1 l2 lt m0 nr nr0 nt ny nz s1 s2 t0; omega)⟩, _, _, rfl, rfl, _, rfl, _, _, rfl, rfl, hp, ?_⟩
    refine ⟨_, rfl, _, rfl, r, _, _, sh + i, rfl, rfl, hm1, ixN_nat rfl (by rw [List.length_map]; exact hin), _, _, rfl, sput v1 nr0, Ls.new ?_⟩
    rw [map_set, mix_next hp hi]
  · rintro σ Hw ⟨x7, x8, rfl, sw, hm⟩
    refine ⟨_, rfl, q r Hw sw nr0 ?_⟩
    rw [List.length_map] at hm
    exact hm
end
end Rr

set_option Elab.async false
set_option linter.all false
set_option maxRecDepth 100000
set_option maxHeartbeats 800000
namespace Rr
open PySem L2 RM
section
variable {P : Program} {w : World} {K : PySem.W.Frag} {mg : Str → Option Value} {base : Heap} {f g g2 g3 g4 g5 g6 C : Addr} {fd gd gd2 gd3 gd4 gd5 gd6 : FuncData}
theorem scLeast : FnScope ["prime", "row", "rule", "shorter", "place", "miss", "here", "number", "lack", "share", "mended"] ["prime", "row"] (defScope sLeast) := ⟨rfl, rfl, rfl, by decide +kernel, rfl, by decide +kernel, by decide +kernel⟩
theorem ok_least (D : Def K mg "least" sLeast ["prime", "row"] f fd) (o : Own mg) (D1 : Def K mg "need_prime" sNeedPrime ["prime"] g gd) (G1 : FnOk P w K mg base CX0 3 g gd ["prime"] spNeedPrime) (D3 : Def K mg "need_row" sNeedRow ["prime", "row"] g2 gd2) (G3 : FnOk P w K mg base CX0 4 g2 gd2 ["prime", "row"] spNeed)
    (DD : Def K mg "due" sDue ["prime", "rule", "row", "place"] g3 gd3) (GD : FnOk P w K mg base CX0 1 g3 gd3 ["prime", "rule", "row", "place"] spDue) (DI : Def K mg "inverse" sInv ["prime", "rest"] g4 gd4) (GI : FnOk P w K mg base CX0 1 g4 gd4 ["prime", "rest"] spInv)
    (DX : Def K mg "mixed" sMixed ["prime", "rule", "shorter", "shift", "share"] g5 gd5) (GX : FnOk P w K mg base CX0 1 g5 gd5 ["prime", "rule", "shorter", "shift", "share"] spMixed)
    (M : Mk K C g6) (mC : mg "Least" = some (.ref C)) (GL : FnOk P w K mg base CX0 1 g6 gd6 ["self", "rule", "shorter", "place"] (spInit3 C)) (bL : Binds K gd6 ["self", "rule", "shorter", "place"] []) : FnOk P w K mg base CX0 6 f fd ["prime", "row"] (spLeast C) := by
  refine D.F.ok scLeast (fun vs H Q E h => ?_) (fun cdv A outer s H vs Q E hr h => ?_)
  · obtain ⟨p, b, row, rfl, _⟩ := h
    rfl
  obtain ⟨p, b, row, rfl, hb, h7, hR, hl, q⟩ := h
  refine ⟨_, pss_cons (ps_expr (pcall D1 G1 hr (pa_cons (pv 0) pa_nil)))
    (pss_cons (ps_expr (pcall D3 G3 hr (pa_cons (pv 0) (pa_cons (pv 1) pa_nil))))
    (pss_cons (ps_set (i := 2) scLeast.nd rfl (Or.inl rfl) (pe_lst pa_nil))
    (pss_cons (ps_set (i := 3) scLeast.nd rfl (Or.inl rfl) (pe_lst pa_nil))
    (pss_cons (ps_set (i := 4) scLeast.nd rfl (Or.inl rfl) (pe_un un_neg pint))
    (pss_cons (ps_set (i := 5) scLeast.nd rfl (Or.inl rfl) pint)
    (pss_cons (ps_for PassesOwn.never rfl (pi_enum rfl o.enumerate (pa_cons (pv 1) pa_nil)) (pgq 6 7)
      (pss_cons (ps_set (i := 8) scLeast.nd rfl (Or.inl rfl) (pe_op op_mod (pe_op op_sub (pv 7) (pcall DD GD hr (pa_cons (pv 0) (pa_cons (pv 2) (pa_cons (pv 1) (pa_cons (pv 6) pa_nil)))))) (pv 0)))
      (pss_cons (ps_if (pt_cmpR op_eq (pv 8) pint (nomark _)) (pss_one ps_continue) pss_nil)
      (pss_cons (ps_set (i := 9) scLeast.nd rfl (Or.inl rfl) (pe_op op_mod (pe_op op_mul (pv 8) (pcall DI GI hr (pa_cons (pv 0) (pa_cons (pv 5) pa_nil)))) (pv 0)))
      (pss_cons (ps_set (i := 10) scLeast.nd rfl (Or.inl rfl) (pcall DX GX hr (pa_cons (pv 0) (pa_cons (pv 2) (pa_cons (pv 3) (pa_cons (pe_op op_sub (pv 6) (pv 4)) (pa_cons (pv 9) pa_nil)))))))
      (pss_cons (ps_if (pt_cmpR op_gt (plen o (pv 10)) (plen o (pv 2)) (nomark _)) (pss_cons (ps_set (i := 3) scLeast.nd rfl (Or.inl rfl) (pv 2)) (pss_cons (ps_set (i := 4) scLeast.nd rfl (Or.inl rfl) (pv 6)) (pss_one (ps_set (i := 5) scLeast.nd rfl (Or.inl rfl) (pv 8))))) pss_nil)
      (pss_one (ps_set (i := 2) scLeast.nd rfl (Or.inl rfl) (pv 10)))))))))
    (pss_one (ps_ret (pe_make M GL (hr.mono (by decide)) rfl mC bL .nil pass0 (pa_cons (pv 2) (pa_cons (pv 3) (pa_cons (pv 4) pa_nil)))))))))))), ?_⟩
  dsimp only [cxOf, Cx.nox]
  have pok := h7.ok
  have hp := pok.pos
  have hp1 := h7.two
  have hp2 := pok.2.1
  refine ⟨_, rfl, p, rfl, pok, ?_⟩
  refine ⟨_, rfl, _, rfl, p, b, row, rfl, hb, hR, ?_⟩
  refine ⟨Nat.zero_le _, fun r0 n0 => ?_⟩
  have t0 := same_new n0 (.lst [])
  refine ⟨Nat.zero_le _, fun s0 m0 => ?_⟩
  have t1 := same_new m0 (.lst [])
  have hr0 : Ls (upd (upd H r0 (.lst [])) s0 (.lst [])) r0 [] := t1 _ _ upd_same
  have hs0 : Ls (upd (upd H r0 (.lst [])) s0 (.lst [])) s0 [] := upd_same
  have t2 := t0.trans t1
  generalize upd (upd H r0 (.lst [])) s0 (.lst []) = H1 at hr0 hs0 t2 ⊢
  refine ⟨_, rfl, ?_⟩
  refine ⟨_, rfl, b, rfl, ⟨_, Rd.of (hb.same t2)⟩, for_enum (xs := row.map V.int) (fun i σ Hw => ∃ ra sa rule shorter pl miss x6 x7 x8 x9 x10, σ = [some (.int p), some (.ref b), some (.ref ra), some (.ref sa), some (.int pl), some (.int miss), x6, x7, x8, x9, x10] ∧ Same H Hw ∧ Ls Hw ra rule ∧ Ls Hw sa shorter ∧ BM p row i rule shorter pl miss)
    ⟨r0, s0, [], [], -1, 1, none, none, none, none, none, rfl, t2, hr0, hs0, BM.start p row⟩ (fun i σ Hw _ hw => ?_) ?_ ?_⟩
  · obtain ⟨_, _, _, _, _, _, _, _, _, _, _, _, sw, _⟩ := hw
    exact (hb.same sw).sq
  · rintro i x σ Hw t hx ⟨ra, sa, rule, shorter, pl, miss, x6, x7, x8, x9, x10, rfl, sw, hra, hsa, bm⟩ nt
    obtain ⟨rfl, hi⟩ := at_int hx
    have v1 := same_new nt (.tup [.int (i : Int), .int (gt row i)])
    refine tup_go upd_same ?_
    have hra := hra.same v1
    have hsa := hsa.same v1
    have sw := sw.trans v1
    generalize upd Hw t (.tup [.int (i : Int), .int (gt row i)]) = Hv at hra hsa sw ⊢
    have bl := bm.len
    have bl2 := bm.len2
    have lo := bm.lo
    have ms := bm.missr hp1
    refine ⟨_, rfl, _, rfl, _, rfl, _, rfl, _, rfl, p, ra, b, rule, row, i, rfl, hra, hb.same sw, ⟨pok, bm.r1, hR, by (clear bl2 hp hp1 hp2 hx lo m0 mC ms n0 nt; omega), by (clear bl bl2 hi hp hp1 hp2 hx lo m0 mC ms n0 nt; omega)⟩, bl, by (clear bl bl2 hl hp hp1 hp2 hx lo m0 mC ms n0 nt; omega), fun H2 s2 => ?_⟩
    refine ⟨_, _, rfl, rfl, _, rfl, _, _, rfl, rfl, hp, ?_⟩
    have lr := mod_rest (a := gt row i - dueN p rule row i) hp
    refine ⟨_, rfl, rfl, _, rfl, ?_⟩
    have sw2 := sw.trans s2
    by_cases hz : (gt row i - dueN p rule row i) % p = 0
    · refine iteTd (congrArg V.int hz) ?_
      exact ⟨ra, sa, rule, shorter, pl, miss, _, _, _, _, _, rfl, sw2, hra.same s2, hsa.same s2, bm.skip hp hR hz⟩
    refine iteFd (fun z => hz (by injection z)) ?_
    dsimp only
    generalize hlk : (gt row i - dueN p rule row i) % p = lack at hz lr ⊢
    refine ⟨_, rfl, _, rfl, _, rfl, p, miss, rfl, h7, ms.1, ms.2, fun u u0 u1 hc => ?_⟩
    refine ⟨_, _, rfl, rfl, .inl ⟨by (clear bl bl2 hi hl hlk hp hp1 hp2 hx hz lo m0 mC ms n0 nt u0 u1; omega), by (clear bl bl2 hi hl hlk hp hx hz lo m0 mC ms n0 nt u0 u1; omega)⟩, _, rfl, _, _, rfl, rfl, hp, ?_⟩
    have sr := mod_rest (a := lack * u) hp
    have hs : Cg p (lack * u % p * miss) lack := by
      refine (Cg.mul (Cg.emod _ _) (Cg.refl _ _)).trans ?_
      have := Cg.mul (Cg.refl p lack) hc
      rw [Int.mul_one] at this
      refine (Cg.of_eq ?_).trans this
      rw [Int.mul_assoc, Int.mul_comm u miss]
    dsimp only
    generalize lack * u % p = share at sr hs ⊢
    refine ⟨_, rfl, _, rfl, _, rfl, _, rfl, _, rfl, _, _, rfl, rfl, _, rfl, p, ra, sa, rule, shorter, ((i : Int) - pl).toNat, share, congrArg (fun z => [V.int p, V.ref ra, V.ref sa, V.int z, V.int share]) (by (clear bl bl2 hi hl hlk hp hp1 hp2 hx hz lr m0 mC ms n0 nt sr u0 u1; omega)), hra.same s2, hsa.same s2, hp, by (clear bl bl2 hi hl hlk hp hx hz lo lr m0 mC ms n0 nt sr u0 u1; omega), bm.r1, bm.r2, by (clear bl bl2 hi hl hlk hp hp1 hp2 hx hz lr m0 mC ms n0 nt sr u0 u1; omega), by (clear bl bl2 hlk hp hp1 hp2 hx hz lr m0 mC ms n0 nt sr u0 u1; omega), sr.1, sr.2, by (clear bl2 hlk hp hp1 hp2 hx hz lo lr m0 mC ms n0 nt sr u0 u1; omega), by (clear bl hlk hp hp1 hp2 hx hz lo lr m0 mC ms n0 nt sr u0 u1; omega), fun m H3 s3 nm hm => ?_⟩
    have hra3 := (hra.same s2).same s3
    have hsa3 := (hsa.same s2).same s3
    refine ⟨_, rfl, m, _, rfl, .inl hm.sq, _, rfl, ra, _, rfl, .inl hra3.sq, _, _, rfl, rfl, _, rfl, ?_⟩
    rw [List.length_map, List.length_map]
    by_cases hg : rule.length < (mixL p rule shorter ((i : Int) - pl).toNat share).length
    · refine iteTd (by (clear bl bl2 hi hl hlk hp hp1 hp2 hx hz lo lr m0 mC ms n0 nm nt sr u0 u1; omega)) ?_
      exact ⟨_, rfl, _, rfl, _, rfl, _, rfl, m, ra, _, rule, i, lack, _, _, _, _, _, rfl, sw2.trans s3, hm, hra3, bm.longer hp hR hlk.symm hz hs hg⟩
    · refine iteFd (by (clear bl bl2 hi hl hlk hp hp1 hp2 hx hz lo lr m0 mC ms n0 nm nt sr u0 u1; omega)) ?_
      exact ⟨_, rfl, m, sa, _, shorter, pl, miss, _, _, _, _, _, rfl, sw2.trans s3, hm, hsa3, bm.same hp hR hlk.symm hz hs hg⟩
  · rintro σ Hw ⟨ra, sa, rule, shorter, pl, miss, x6, x7, x8, x9, x10, rfl, sw, hra, hsa, bm⟩
    rw [List.length_map] at bm
    refine ⟨_, rfl, _, rfl, _, rfl, fun x dx nx ndx nex => ?_⟩
    refine ⟨x, ra, sa, pl, dx, rule, shorter, rfl, upd_same, hra.same (make_same nx ndx), hsa.same (make_same nx ndx), fun r t H' n1 n2 an kp => ⟨rfl, ?_⟩⟩
    exact q x r t H' rule shorter pl miss (sw.trans (made_same nx ndx kp)) (sw.free nx) (sw.free (make_free nx ndx n1)) (sw.free (make_free nx ndx n2)) an bm
end
end Rr

set_option Elab.async false
set_option linter.all false
set_option maxRecDepth 100000
set_option maxHeartbeats 800000
namespace Rr
open PySem L2 RM
section
variable {P : Program} {w : World} {K : PySem.W.Frag} {mg : Str → Option Value} {base : Heap} {f g g2 g3 g4 g5 g6 : Addr} {fd gd gd2 gd3 gd4 gd5 gd6 : FuncData}
theorem scLLeast : FnScope ["_law_prime_here", "_law_row_here", "_law_rule", "_law_shorter", "_law_place"] ["_law_prime_here", "_law_row_here", "_law_rule", "_law_shorter", "_law_place"] (defScope lLeast) := ⟨rfl, rfl, rfl, by decide +kernel, rfl, by decide +kernel, by decide +kernel⟩
theorem ok_lLeast (D : Def K mg "_law_least" lLeast ["_law_prime_here", "_law_row_here", "_law_rule", "_law_shorter", "_law_place"] f fd) (o : Own mg) (DR : Def K mg "_law_rested" lRested ["_law_prime_here", "_law_found"] g gd) (GR : FnOk P w K mg base CX0 1 g gd ["_law_prime_here", "_law_found"] spRestedB)
    (DM : Def K mg "_law_made" lMade ["_law_prime_here", "_law_rule", "_law_row_here"] g2 gd2) (GM : FnOk P w K mg base CX0 2 g2 gd2 ["_law_prime_here", "_law_rule", "_law_row_here"] spMade)
    (DD : Def K mg "_law_due" lDue ["_law_prime_here", "_law_rule", "_law_row_here", "_law_place"] g3 gd3) (GD : FnOk P w K mg base CX0 1 g3 gd3 ["_law_prime_here", "_law_rule", "_law_row_here", "_law_place"] spDue) :
    FnOk P w K mg base CX0 3 f fd ["_law_prime_here", "_law_row_here", "_law_rule", "_law_shorter", "_law_place"] spIsLeast := by
  refine D.F.ok scLLeast (fun vs H Q E h => ?_) (fun cdv A outer s H vs Q E hr h => ?_)
  · obtain ⟨p, b, a, c, row, rule, shorter, pl, rfl, _⟩ := h
    rfl
  obtain ⟨p, b, a, c, row, rule, shorter, pl, rfl, hb, ha, hc, lr, q⟩ := h
  have hu := hr.units
  refine ⟨_, pss_cons (ps_if (PW.pt (pw_or (pt_not (pt_val (pcall DR GR hr (pa_cons (pv 0) (pa_cons (pv 2) pa_nil))))) (pw_or (pt_not (pt_val (pcall DR GR hr (pa_cons (pv 0) (pa_cons (pv 3) pa_nil))))) (pw_or1 (pt_not (pt_val (pcall DM GM hr (pa_cons (pv 0) (pa_cons (pv 2) (pa_cons (pv 1) pa_nil)))))))))) (pss_one (ps_ret pe_bl)) pss_nil)
    (pss_cons (ps_if (pt_cmpR (op_eqL hu) (pv 2) (pe_lst pa_nil) (nomark _)) (pss_one (ps_ret (pe_and (pe_cmpR (op_eqL hu) (pv 3) (pe_lst pa_nil) (nomark _)) (pe_one (pe_cmpR op_eq (pv 4) (pe_un un_neg pint) (nomark _)))))) pss_nil)
    (pss_cons (ps_if (PW.pt (pw_or (pt_not (pt_chain op_le op_lt (plen o (pv 3)) (pv 4) (plen o (pv 1)))) (pw_or (pt_cmpR op_ne (pe_op op_add (plen o (pv 2)) (plen o (pv 3))) (pe_op op_add (pv 4) pint) (nomark _)) (pw_or1 (pt_cmpR op_ge (plen o (pv 3)) (plen o (pv 2)) (nomark _)))))) (pss_one (ps_ret pe_bl)) pss_nil)
    (pss_one (ps_ret (pe_and (pcall DM GM hr (pa_cons (pv 0) (pa_cons (pv 3) (pa_cons (pe_slice sl_list (pv 1) po_none (po_some (pv 4))) pa_nil)))) (pe_one (pe_cmpR op_ne (pe_ix ix_list (pv 1) (pv 4) (fun _ _ => rfl)) (pcall DD GD hr (pa_cons (pv 0) (pa_cons (pv 3) (pa_cons (pv 1) (pa_cons (pv 4) pa_nil))))) (nomark _)))))))), ?_⟩
  dsimp only [cxOf, Cx.nox]
  have l1 := lr.l1
  have l2 := lr.l2
  have l3 := lr.l3
  refine ⟨_, rfl, _, rfl, p, a, rule, rfl, ha, by (clear hu l1 l3; omega), fun H1 s1 => ⟨_, rfl, ?_⟩⟩
  cases e1 : restsB p rule with
  | false =>
    refine iteT ?_
    have := q H1 s1
    rw [leastB_r1 e1] at this
    exact this
  | true =>
  refine iteF ?_
  refine ⟨_, rfl, _, rfl, p, c, shorter, rfl, hc.same s1, by (clear e1 hu l1 l2; omega), fun H2 s2 => ⟨_, rfl, ?_⟩⟩
  have t2 := s1.trans s2
  cases e2 : restsB p shorter with
  | false =>
    refine iteT ?_
    have := q H2 t2
    rw [leastB_r2 e2] at this
    exact this
  | true =>
  refine iteF ?_
  refine ⟨_, rfl, _, rfl, _, rfl, p, a, b, rule, row, rfl, ha.same t2, hb.same t2, ⟨lr.pr, restsB_iff.mp e1, lr.r, lr.l2, lr.l1⟩, fun H3 s3 => ⟨_, rfl, ?_⟩⟩
  have t3 := t2.trans s3
  cases e3 : makesN p rule row with
  | false =>
    refine iteT ?_
    have := q H3 t3
    rw [leastB_mk e3] at this
    exact this
  | true =>
  refine iteF ?_
  refine ⟨_, rfl, Nat.zero_le _, fun z nz => ?_⟩
  have t4 := t3.trans (same_new nz (.lst []))
  have hz0 : Ls (upd H3 z (.lst [])) z [] := upd_same
  generalize upd H3 z (.lst []) = H4 at t4 hz0 ⊢
  refine ⟨a, z, rule, [], rfl, rfl, (ha.same t4).sq, hz0.sq, _, rfl, ?_⟩
  by_cases hz : rule = []
  · refine iteTd hz ?_
    have hz' : rule.length = 0 := by rw [hz]; rfl
    refine ⟨_, rfl, Nat.zero_le _, fun y ny => ?_⟩
    have t5 := t4.trans (same_new ny (.lst []))
    have hy0 : Ls (upd H4 y (.lst [])) y [] := upd_same
    generalize upd H4 y (.lst []) = H5 at t5 hy0 ⊢
    have q1 := q H5 t5
    rw [leastB_nil e1 e2 e3 hz'] at q1
    refine ⟨c, y, shorter, [], rfl, rfl, (hc.same t5).sq, hy0.sq, _, rfl, ?_⟩
    by_cases hz2 : shorter = []
    · refine iteTd hz2 ⟨_, rfl, _, rfl, rfl, ?_⟩
      rw [decide_eq_true (by rw [hz2]; rfl : shorter.length = 0), Bool.true_and] at q1
      show Q (.bl (decide (V.int pl = V.int (-1)))) H5
      rw [dec_int]
      exact q1
    · refine iteFd hz2 ?_
      rw [decide_eq_false (fun z => hz2 (List.eq_nil_of_length_eq_zero z)), Bool.false_and] at q1
      exact q1
  refine iteFd hz ?_
  have hz' : rule.length ≠ 0 := fun z => hz (List.eq_nil_of_length_eq_zero z)
  have ha := ha.same t4
  have hb := hb.same t4
  have hc := hc.same t4
  refine ⟨_, rfl, c, _, rfl, .inl hc.sq, _, rfl, _, _, rfl, rfl, _, rfl, ?_⟩
  rw [List.length_map]
  by_cases hlo : (shorter.length : Int) ≤ pl
  · refine iteTd hlo ?_
    refine ⟨_, rfl, b, _, rfl, .inl hb.sq, _, _, rfl, rfl, _, rfl, ?_⟩
    rw [List.length_map]
    by_cases hhi : pl < (row.length : Int)
    · refine iteNd hhi ?_
      refine ⟨_, rfl, a, _, rfl, .inl ha.sq, _, rfl, c, _, rfl, .inl hc.sq, _, _, rfl, rfl, _, rfl, _, _, rfl, rfl, rfl, _, rfl, ?_⟩
      rw [List.length_map, List.length_map]
      by_cases hs : (rule.length : Int) + shorter.length = pl + 1
      · refine iteNd (congrArg V.int hs) ?_
        refine ⟨_, rfl, c, _, rfl, .inl hc.sq, _, rfl, a, _, rfl, .inl ha.sq, _, _, rfl, rfl, _, rfl, ?_⟩
        rw [List.length_map, List.length_map]
        by_cases hge : (shorter.length : Int) ≥ (rule.length : Int)
        · refine iteTd hge ?_
          have := q H4 t4
          rw [leastB_ge hz' (by (clear e1 e2 e3 hhi hlo hu hz hz' l1 l2 l3 nz; omega))] at this
          exact this
        refine iteFd hge ?_
        obtain ⟨n, rfl⟩ : ∃ n : Nat, pl = (n : Int) := ⟨pl.toNat, by (clear e1 e2 e3 hge hhi hu hz hz' l1 nz; omega)⟩
        have q' : ∀ H', Same H H' → Q (.bl ((!(gt row n == dueN p shorter row n)) && makesN p shorter (row.take n))) H' := fun H' s => by
          have := q H' s
          rw [leastB_last e1 e2 e3 hz' (by (clear e1 e2 e3 hhi hlo hu hz hz' l1 l2 l3 nz; omega)) hs, decide_eq_true (by (clear e1 e2 e3 hge hu hz hz' l1 l3 nz; omega) : (shorter.length : Int) ≤ (n : Int) ∧ (n : Int) < row.length), Bool.true_and] at this
          exact this
        refine ⟨_, rfl, _, rfl, _, rfl, _, rfl, _, rfl, b, _, rfl, hb.sq, fun d nd => ?_⟩
        rw [cut_to]
        have t5 := same_new nd (.lst ((row.take n).map V.int))
        refine ⟨p, c, d, shorter, row.take n, rfl, hc.same t5, upd_same, ⟨lr.pr, restsB_iff.mp e2, lr.r.take _, lr.l3, by rw [List.length_take]; (clear e1 e2 e3 hge hlo hs hu hz hz' l2 l3 nd nz; omega)⟩, fun H6 s6 => ⟨_, rfl, ?_⟩⟩
        have t6 := t5.trans s6
        cases e4 : makesN p shorter (row.take n) with
        | false =>
          refine iteF ?_
          have := q' H6 (t4.trans t6)
          rw [e4, Bool.and_false] at this
          exact this
        | true =>
        refine iteT ?_
        refine ⟨_, rfl, _, rfl, b, _, _, _, rfl, rfl, (hb.same t6).sq, atI_int rfl (by (clear e1 e2 e3 e4 hge hlo hs hu hz hz' l1 l2 l3 nd nz; omega)), ?_⟩
        refine ⟨_, rfl, _, rfl, _, rfl, _, rfl, p, c, b, shorter, row, n, rfl, hc.same t6, hb.same t6, ⟨lr.pr, restsB_iff.mp e2, lr.r, lr.l3, lr.l1⟩, by (clear e1 e2 e3 e4 hge hhi hu hz hz' l1 l3 nd nz; omega), by (clear e1 e2 e3 e4 hge hlo hs hu hz hz' l1 l2 l3 nd nz; omega), fun H7 s7 => ?_⟩
        refine ⟨rfl, ?_⟩
        have := q' H7 ((t4.trans t6).trans s7)
        rw [e4, Bool.and_true] at this
        show Q (.bl (!decide (V.int (gt row n) = V.int (dueN p shorter row n)))) H7
        rw [dec_int]
        exact this
      · refine iteYd (fun z => hs (by have z' : V.int ((rule.length : Int) + shorter.length) = V.int (pl + 1) := z; injection z')) ?_
        have := q H4 t4
        rw [least_not hs] at this
        exact this
    · refine iteYd hhi ?_
      have := q H4 t4
      rw [leastB_out hz' (by (clear e1 e2 e3 hlo hu hz hz' l1 l2 l3 nz; omega))] at this
      exact this
  · refine iteFd hlo ⟨_, rfl, iteT ?_⟩
    have := q H4 t4
    rw [leastB_out hz' (by (clear e1 e2 e3 hu hz hz' l1 l2 l3 nz; omega))] at this
    exact this
end
end Rr

set_option Elab.async false
set_option linter.all false
set_option maxRecDepth 100000
set_option maxHeartbeats 800000
namespace Rr
open PySem L2 RM
noncomputable abbrev sInitO : Stmt := inClass cOnly 0
noncomputable abbrev sShowsO : Stmt := inClass cOnly 1
noncomputable abbrev sInitN : Stmt := inClass cAnother 0
noncomputable abbrev sShowsN : Stmt := inClass cAnother 1
theorem PE.or {X : Cx} {e : Expr} {t t' : TE} (h : PE X e t) (h' : PE X e t') : PE X e (fun σ H Q => t σ H Q ∨ t' σ H Q) := fun pins s σ H Q I q => q.elim (h pins s σ H Q I) (h' pins s σ H Q I)
section
variable {P : Program} {w : World} {K : PySem.W.Frag} {mg : Str → Option Value} {base : Heap} {f g g2 g3 g4 g5 C CO CA : Addr} {fd gd gd2 gd3 gd4 gd5 : FuncData}
theorem scInitO : FnScope ["self", "rule", "shorter", "place"] ["self", "rule", "shorter", "place"] (defScope sInitO) := ⟨rfl, rfl, rfl, by decide +kernel, rfl, by decide +kernel, by decide +kernel⟩
theorem ok_initO (F : Fun K "__init__" "Only.__init__" sInitO f fd) (o : Own mg) (c : Cl3 K C) : FnOk P w K mg base CX0 1 f fd ["self", "rule", "shorter", "place"] (spInit3 C) := by
  refine F.ok scInitO (fun vs H Q E h => ?_) (fun cdv A outer s H vs Q E hr h => ?_)
  · obtain ⟨x, a, d, pl, dx, rule, shorter, rfl, _⟩ := h
    rfl
  obtain ⟨x, a, d, pl, dx, rule, shorter, rfl, hx, h1, h2, q⟩ := h
  refine ⟨_, pss_cons (ps_fld (pv 0) (pe_callTy call_list_of rfl o.list boot_listT (pa_cons (pv 1) pa_nil)) rfl)
    (pss_cons (ps_fld (pv 0) (pe_callTy call_list_of rfl o.list boot_listT (pa_cons (pv 2) pa_nil)) rfl)
    (pss_one (ps_fld (pv 0) (pv 3) rfl))), ?_⟩
  dsimp only [cxOf, Cx.nox]
  refine ⟨_, rfl, a, _, rfl, .inl h1.sq, fun r nr => ?_⟩
  have nxr : x ≠ r := ne_of_none hx nr
  refine ⟨_, rfl, x, C, dx, _, rfl, (by rw [upd_ne nxr]; exact hx), c.cl, c.r, (by show 0 < 1000; decide), ?_⟩
  have ndx : d ≠ x := ne_of h2 hx (by intro z; cases z)
  have ndr : d ≠ r := ne_of_none h2 nr
  refine ⟨_, rfl, d, _, rfl, .inl (Ls.sq (ns := shorter) (by unfold Ls; rw [upd_ne ndx, upd_ne ndr]; exact h2)), fun t nt => ?_⟩
  have ntx : t ≠ x := fun z => by rw [z, upd_same] at nt; cases nt
  rw [upd_ne ntx] at nt
  have ntr : t ≠ r := fun z => by rw [z, upd_same] at nt; cases nt
  rw [upd_ne ntr] at nt
  refine ⟨_, rfl, x, C, dx, _, rfl, (by rw [upd_ne ntx.symm]; exact upd_same), c.cl, c.s, (by have := length_putF "rule" (.ref r) []; simp at this; (clear hx ndr ndx nr nt ntr ntx nxr; omega)), ?_⟩
  refine ⟨_, rfl, _, rfl, x, C, dx, _, rfl, upd_same, c.cl, c.p, (by have := length_putF "shorter" (.ref t) (putF "rule" (.ref r) []); have := length_putF "rule" (.ref r) []; simp at this; (clear hx ndr ndx nr nt ntr ntx nxr; omega)), ?_⟩
  refine q r t _ nr nt ⟨⟨dx, upd_same⟩, ?_, ?_, ntr.symm⟩ fun b u nb e => ?_
  · unfold Ls
    rw [upd_ne nxr.symm, upd_ne nxr.symm, upd_ne ntr.symm, upd_ne nxr.symm, upd_same]
  · unfold Ls
    rw [upd_ne ntx, upd_ne ntx, upd_same]
  · rw [upd_ne nb, upd_ne nb, upd_ne (ne_of_none e nt), upd_ne nb, upd_ne (ne_of_none e nr)]
    exact e
theorem scShowsO : FnScope ["self", "prime", "row"] ["self", "prime", "row"] (defScope sShowsO) := ⟨rfl, rfl, rfl, by decide +kernel, rfl, by decide +kernel, by decide +kernel⟩
theorem ok_showsO (F : Fun K "shows" "Only.shows" sShowsO f fd) (c : Cl3 K C) (DS : Def K mg "is_sole" sSole ["rule", "row"] g2 gd2) (GS : FnOk P w K mg base CX0 1 g2 gd2 ["rule", "row"] spSole) (DI : Def K mg "is_least" sIsLeast ["prime", "row", "rule", "shorter", "place"] g gd) (GI : FnOk P w K mg base CX0 7 g gd ["prime", "row", "rule", "shorter", "place"] spIsLeast) : FnOk P w K mg base CX0 8 f fd ["self", "prime", "row"] (spShowsO C) := by
  refine F.ok scShowsO (fun vs H Q E h => ?_) (fun cdv A outer s H vs Q E hr h => ?_)
  · obtain ⟨x, p, b, r, t, row, rule, shorter, pl, rfl, _⟩ := h
    rfl
  obtain ⟨x, p, b, r, t, row, rule, shorter, pl, rfl, ⟨⟨dx, hx⟩, h1, h2, _⟩, hb, lr, q⟩ := h
  have l1 := lr.l1
  have l2 := lr.l2
  refine ⟨_, pss_one (ps_ret (pe_and (pcall DS GS hr (pa_cons (pe_fld (pv 0) rfl) (pa_cons (pv 2) pa_nil))) (pe_one (PE.tag (pcall DI GI hr (pa_cons (pv 1) (pa_cons (pv 2) (pa_cons (pe_fld (pv 0) rfl) (pa_cons (pe_fld (pv 0) rfl) (pa_cons (pe_fld (pv 0) rfl) pa_nil)))))))))), ?_⟩
  refine ⟨_, rfl, x, C, dx, _, _, rfl, hx, c.cl, c.r, flds3_r, _, rfl, r, b, rule, row, rfl, h1, hb, by (clear hx l1; omega), by (clear hx l2; omega), _, rfl, ?_⟩
  cases e : soleB row rule with
  | false =>
    refine iteF ?_
    have := q H (Same.refl _)
    rw [e, Bool.false_and] at this
    exact this
  | true =>
  refine iteT ?_
  refine call5 hx c.cl c.r c.s c.p flds3_r flds3_s flds3_p rfl rfl rfl hb h1 h2 lr fun H' s' => ?_
  have := q H' s'
  rw [e, Bool.true_and] at this
  exact this
theorem scInitN : FnScope ["self", "one", "other", "shorter", "place"] ["self", "one", "other", "shorter", "place"] (defScope sInitN) := ⟨rfl, rfl, rfl, by decide +kernel, rfl, by decide +kernel, by decide +kernel⟩
theorem len_put (f : Str) (v : V) (fs : List (Str × V)) {n : Nat} (h : fs.length ≤ n) : (putF f v fs).length ≤ n + 1 := Nat.le_trans (length_putF f v fs) (by omega)
theorem ok_initN (F : Fun K "__init__" "Another.__init__" sInitN f fd) (o : Own mg) (c : Cl4 K C) : FnOk P w K mg base CX0 1 f fd ["self", "one", "other", "shorter", "place"] (spInit4 C) := by
  refine F.ok scInitN (fun vs H Q E h => ?_) (fun cdv A outer s H vs Q E hr h => ?_)
  · obtain ⟨x, a, b, d, pl, dx, one, other, shorter, rfl, _⟩ := h
    rfl
  obtain ⟨x, a, b, d, pl, dx, one, other, shorter, rfl, hx, h1, h2, h3, q⟩ := h
  refine ⟨_, pss_cons (ps_fld (pv 0) (pe_callTy call_list_of rfl o.list boot_listT (pa_cons (pv 1) pa_nil)) rfl)
    (pss_cons (ps_fld (pv 0) (pe_callTy call_list_of rfl o.list boot_listT (pa_cons (pv 2) pa_nil)) rfl)
    (pss_cons (ps_fld (pv 0) (pe_callTy call_list_of rfl o.list boot_listT (pa_cons (pv 3) pa_nil)) rfl)
    (pss_one (ps_fld (pv 0) (pv 4) rfl)))), ?_⟩
  dsimp only [cxOf, Cx.nox]
  have nbx : b ≠ x := ne_of h2 hx (by intro z; cases z)
  have ndx : d ≠ x := ne_of h3 hx (by intro z; cases z)
  refine ⟨_, rfl, a, _, rfl, .inl h1.sq, fun r nr => ?_⟩
  have nxr : x ≠ r := ne_of_none hx nr
  refine ⟨_, rfl, x, C, dx, _, rfl, (by rw [upd_ne nxr]; exact hx), c.cl, c.r, (by show 0 < 1000; decide), ?_⟩
  refine ⟨_, rfl, b, _, rfl, .inl (Ls.sq (ns := other) (by unfold Ls; rw [upd_ne nbx, upd_ne (ne_of_none h2 nr)]; exact h2)), fun t nt => ?_⟩
  have ntx : t ≠ x := fun z => by rw [z, upd_same] at nt; cases nt
  rw [upd_ne ntx] at nt
  have ntr : t ≠ r := fun z => by rw [z, upd_same] at nt; cases nt
  rw [upd_ne ntr] at nt
  have p1 := len_put "one" (.ref r) [] (Nat.le_refl 0)
  refine ⟨_, rfl, x, C, dx, _, rfl, (by rw [upd_ne ntx.symm]; exact upd_same), c.cl, c.t, by (clear hx nbx ndx nr nt ntr ntx nxr; omega), ?_⟩
  refine ⟨_, rfl, d, _, rfl, .inl (Ls.sq (ns := shorter) (by unfold Ls; rw [upd_ne ndx, upd_ne (ne_of_none h3 nt), upd_ne ndx, upd_ne (ne_of_none h3 nr)]; exact h3)), fun u nu => ?_⟩
  have nux : u ≠ x := fun z => by rw [z, upd_same] at nu; cases nu
  rw [upd_ne nux] at nu
  have nut : u ≠ t := fun z => by rw [z, upd_same] at nu; cases nu
  rw [upd_ne nut, upd_ne nux] at nu
  have nur : u ≠ r := fun z => by rw [z, upd_same] at nu; cases nu
  rw [upd_ne nur] at nu
  have p2 := len_put "other" (.ref t) _ p1
  refine ⟨_, rfl, x, C, dx, _, rfl, (by rw [upd_ne nux.symm]; exact upd_same), c.cl, c.s, by (clear hx nbx ndx nr nt ntr ntx nu nur nut nux nxr p1; omega), ?_⟩
  have p3 := len_put "shorter" (.ref u) _ p2
  refine ⟨_, rfl, _, rfl, x, C, dx, _, rfl, upd_same, c.cl, c.p, by (clear hx nbx ndx nr nt ntr ntx nu nur nut nux nxr p1 p2; omega), ?_⟩
  refine q r t u _ nr nt nu ⟨⟨dx, upd_same⟩, ?_, ?_, ?_, ntr.symm, nur.symm, nut.symm⟩ fun e v nb q' => ?_
  · unfold Ls
    rw [upd_ne nxr.symm, upd_ne nxr.symm, upd_ne nur.symm, upd_ne nxr.symm, upd_ne ntr.symm, upd_ne nxr.symm, upd_same]
  · unfold Ls
    rw [upd_ne ntx, upd_ne ntx, upd_ne nut.symm, upd_ne ntx, upd_same]
  · unfold Ls
    rw [upd_ne nux, upd_ne nux, upd_same]
  · rw [upd_ne nb, upd_ne nb, upd_ne (ne_of_none q' nu), upd_ne nb, upd_ne (ne_of_none q' nt), upd_ne nb, upd_ne (ne_of_none q' nr)]
    exact q'
theorem scShowsN : FnScope ["self", "prime", "row"] ["self", "prime", "row"] (defScope sShowsN) := ⟨rfl, rfl, rfl, by decide +kernel, rfl, by decide +kernel, by decide +kernel⟩
theorem ok_showsN (F : Fun K "shows" "Another.shows" sShowsN f fd) (o : Own mg) (c : Cl4 K C) (DI : Def K mg "is_least" sIsLeast ["prime", "row", "rule", "shorter", "place"] g gd) (GI : FnOk P w K mg base CX0 7 g gd ["prime", "row", "rule", "shorter", "place"] spIsLeast) : FnOk P w K mg base CX0 8 f fd ["self", "prime", "row"] (spShowsA C) := by
  refine F.ok scShowsN (fun vs H Q E h => ?_) (fun cdv A outer s H vs Q E hr h => ?_)
  · obtain ⟨x, p, b, r, t, u, row, one, other, shorter, pl, rfl, _⟩ := h
    rfl
  obtain ⟨x, p, b, r, t, u, row, one, other, shorter, pl, rfl, an, hb, lr, lo, q⟩ := h
  obtain ⟨dx, hx⟩ := an.ob
  have hu := hr.units
  refine ⟨_, pss_cons (ps_if (PW.pt (pw_or (pt_cmpR op_ne (plen o (pe_fld (pv 0) rfl)) (plen o (pe_fld (pv 0) rfl)) (nomark _)) (pw_or1 (pt_cmpR (op_eqL hu) (pe_fld (pv 0) rfl) (pe_fld (pv 0) rfl) (nomark _))))) (pss_one (ps_ret pe_bl)) pss_nil)
    (pss_cons (ps_if (pt_not (pt_val (PE.tag (pcall DI GI hr (pa_cons (pv 1) (pa_cons (pv 2) (pa_cons (pe_fld (pv 0) rfl) (pa_cons (pe_fld (pv 0) rfl) (pa_cons (pe_fld (pv 0) rfl) pa_nil))))))))) (pss_one (ps_ret pe_bl)) pss_nil)
    (pss_one (ps_ret (PE.tag (pcall DI GI hr (pa_cons (pv 1) (pa_cons (pv 2) (pa_cons (pe_fld (pv 0) rfl) (pa_cons (pe_fld (pv 0) rfl) (pa_cons (pe_fld (pv 0) rfl) pa_nil)))))))))), ?_⟩
  dsimp only [cxOf, Cx.nox]
  refine ⟨_, rfl, x, C, dx, _, _, rfl, hx, c.cl, c.r, flds4_r, r, _, rfl, .inl an.r.sq, _, rfl, x, C, dx, _, _, rfl, hx, c.cl, c.t, flds4_t, t, _, rfl, .inl an.t.sq, rfl, _, rfl, ?_⟩
  rw [List.length_map, List.length_map]
  by_cases hl : one.length = other.length
  · refine iteNd (by rw [hl]) ?_
    refine ⟨_, rfl, x, C, dx, _, _, rfl, hx, c.cl, c.r, flds4_r, _, rfl, x, C, dx, _, _, rfl, hx, c.cl, c.t, flds4_t, r, t, one, other, rfl, rfl, an.r.sq, an.t.sq, _, rfl, ?_⟩
    by_cases he : one = other
    · refine iteTd he ?_
      have := q H (Same.refl _)
      unfold anoB at this
      rw [decide_eq_true he, Bool.not_true, Bool.and_false] at this
      exact this
    refine iteFd he ?_
    refine call5 hx c.cl c.r c.s c.p flds4_r flds4_s flds4_p rfl rfl rfl hb an.r an.s lr fun H1 s1 => ?_
    refine ⟨_, rfl, ?_⟩
    cases e : leastB p row one shorter pl with
    | false =>
      refine iteT ?_
      have := q H1 s1
      unfold anoB at this
      rw [e, Bool.and_false] at this
      exact this
    | true =>
    refine iteF ?_
    have hx1 := s1 _ _ hx
    refine call5 hx1 c.cl c.t c.s c.p flds4_t flds4_s flds4_p rfl rfl rfl (hb.same s1) (an.t.same s1) (an.s.same s1) ⟨lr.pr, lr.r, lr.l1, lo, lr.l3⟩ fun H2 s2 => ?_
    have := q H2 (s1.trans s2)
    unfold anoB at this
    rw [e, decide_eq_true hl, decide_eq_false he] at this
    exact this
  · refine iteYd (fun z => hl (by injection z with z'; (clear hl hu hx lo; omega))) ?_
    have := q H (Same.refl _)
    unfold anoB at this
    rw [decide_eq_false hl] at this
    exact this
theorem scUnlike : FnScope ["prime", "row", "found", "shift", "other"] ["prime", "row"] (defScope sUnlike) := ⟨rfl, rfl, rfl, by decide +kernel, rfl, by decide +kernel, by decide +kernel⟩
theorem ok_unlike (D : Def K mg "unlike" sUnlike ["prime", "row"] f fd) (o : Own mg) (DL : Def K mg "least" sLeast ["prime", "row"] g gd) (GL : FnOk P w K mg base CX0 6 g gd ["prime", "row"] (spLeast C)) (DS : Def K mg "is_sole" sSole ["rule", "row"] g2 gd2) (GS : FnOk P w K mg base CX0 1 g2 gd2 ["rule", "row"] spSole)
    (DX : Def K mg "mixed" sMixed ["prime", "rule", "shorter", "shift", "share"] g3 gd3) (GX : FnOk P w K mg base CX0 1 g3 gd3 ["prime", "rule", "shorter", "shift", "share"] spMixed) (c : Cl3 K C)
    (MO : Mk K CO g4) (mO : mg "Only" = some (.ref CO)) (GO : FnOk P w K mg base CX0 1 g4 gd4 ["self", "rule", "shorter", "place"] (spInit3 CO)) (bO : Binds K gd4 ["self", "rule", "shorter", "place"] [])
    (MA : Mk K CA g5) (mA : mg "Another" = some (.ref CA)) (GA : FnOk P w K mg base CX0 1 g5 gd5 ["self", "one", "other", "shorter", "place"] (spInit4 CA)) (bA : Binds K gd5 ["self", "one", "other", "shorter", "place"] []) : FnOk P w K mg base CX0 7 f fd ["prime", "row"] (spUnlike CO CA) := by
  refine D.F.ok scUnlike (fun vs H Q E h => ?_) (fun cdv A outer s H vs Q E hr h => ?_)
  · obtain ⟨p, b, row, rfl, _⟩ := h
    rfl
  obtain ⟨p, b, row, rfl, hb, h7, hR, hl, q1, q2⟩ := h
  refine ⟨_, pss_cons (ps_set (i := 2) scUnlike.nd rfl (Or.inl rfl) (pcall DL GL hr (pa_cons (pv 0) (pa_cons (pv 1) pa_nil))))
    (pss_cons (ps_if (pt_val (pcall DS GS hr (pa_cons (pe_fld (pv 2) rfl) (pa_cons (pv 1) pa_nil)))) (pss_one (ps_ret (pe_make MO GO (hr.mono (by decide)) rfl mO bO .nil pass0 (pa_cons (pe_fld (pv 2) rfl) (pa_cons (pe_fld (pv 2) rfl) (pa_cons (pe_fld (pv 2) rfl) pa_nil)))))) pss_nil)
    (pss_cons (ps_set (i := 3) scUnlike.nd rfl (Or.inl rfl) (pe_op op_sub (plen o (pe_fld (pv 2) rfl)) (plen o (pe_fld (pv 2) rfl))))
    (pss_cons (ps_set (i := 4) scUnlike.nd rfl (Or.inl rfl) (pcall DX GX hr (pa_cons (pv 0) (pa_cons (pe_fld (pv 2) rfl) (pa_cons (pe_fld (pv 2) rfl) (pa_cons (pv 3) (pa_cons pint pa_nil)))))))
    (pss_one (ps_ret (pe_make MA GA (hr.mono (by decide)) rfl mA bA .nil pass0 (pa_cons (pe_fld (pv 2) rfl) (pa_cons (pv 4) (pa_cons (pe_fld (pv 2) rfl) (pa_cons (pe_fld (pv 2) rfl) pa_nil)))))))))), ?_⟩
  dsimp only [cxOf, Cx.nox]
  have pok := h7.ok
  have hp := pok.pos
  have hp1 := h7.two
  have hp2 := pok.2.1
  refine ⟨_, rfl, _, rfl, p, b, row, rfl, hb, h7, hR, hl, fun y r t H1 rule shorter pl miss s1 ny nr nt an bm => ?_⟩
  obtain ⟨dx, hy⟩ := an.ob
  have bl := bm.len
  have bl2 := bm.len2
  refine ⟨_, rfl, y, C, dx, _, _, rfl, hy, c.cl, c.r, flds3_r, _, rfl, r, b, rule, row, rfl, an.r, hb.same s1, by (clear bl2 hp hp1 hp2 hy mA mO nr nt ny; omega), by (clear bl bl2 hp hp1 hp2 hy mA mO nr nt ny; omega), _, rfl, ?_⟩
  cases e : soleB row rule with
  | true =>
    have e' : 2 * rule.length ≤ row.length := by
      have := of_decide_eq_true e
      (clear bl bl2 e hl hp hp1 hp2 hy mA mO nr nt ny; omega)
    refine iteT ?_
    refine ⟨_, rfl, y, C, dx, _, _, rfl, hy, c.cl, c.r, flds3_r, _, rfl, y, C, dx, _, _, rfl, hy, c.cl, c.s, flds3_s, _, rfl, y, C, dx, _, _, rfl, hy, c.cl, c.p, flds3_p, fun x dx2 nx ndx nex => ?_⟩
    refine ⟨x, r, t, pl, dx2, rule, shorter, rfl, upd_same, an.r.same (make_same nx ndx), an.s.same (make_same nx ndx), fun r2 t2 H' n1 n2 an2 kp => ⟨rfl, ?_⟩⟩
    exact q1 x r2 t2 H' rule shorter pl miss (s1.trans (made_same nx ndx kp)) (s1.free nx) (s1.free (make_free nx ndx n1)) (s1.free (make_free nx ndx n2)) an2 bm e'
  | false =>
    have e' : row.length < 2 * rule.length := by
      have := of_decide_eq_false e
      (clear bl bl2 e hl hp hp1 hp2 hy mA mO nr nt ny; omega)
    have hst : shorter.length < rule.length := by
      rcases bm.st with ⟨z, _⟩ | ⟨_, _, _, z, _⟩
      · rw [z] at e'
        exact absurd e' (by simp)
      · exact z
    refine iteF ?_
    refine ⟨_, rfl, y, C, dx, _, _, rfl, hy, c.cl, c.r, flds3_r, r, _, rfl, .inl an.r.sq, _, rfl, y, C, dx, _, _, rfl, hy, c.cl, c.s, flds3_s, t, _, rfl, .inl an.s.sq, _, _, rfl, rfl, ?_⟩
    rw [List.length_map, List.length_map]
    refine ⟨_, rfl, _, rfl, y, C, dx, _, _, rfl, hy, c.cl, c.r, flds3_r, _, rfl, y, C, dx, _, _, rfl, hy, c.cl, c.s, flds3_s, _, rfl, p, r, t, rule, shorter, rule.length - shorter.length, 1, congrArg (fun z => [V.int p, V.ref r, V.ref t, V.int z, V.int 1]) (by (clear bl bl2 e e' hl hp hp1 hp2 hy mA mO nr nt ny; omega)), an.r, an.s, hp, by (clear bl bl2 e e' hl hp hst hy mA mO nr nt ny; omega), bm.r1, bm.r2, by (clear bl bl2 e e' hl hp hp1 hp2 hy mA mO nr nt ny; omega), by (clear bl2 e e' hp hp1 hp2 hy mA mO nr nt ny; omega), by (clear bl bl2 e e' hl hp hp1 hp2 hst hy mA mO nr nt ny; omega), by (clear bl bl2 e e' hl hp hp2 hst hy mA mO nr nt ny; omega), by (clear bl2 e e' hp hp1 hp2 hst hy mA mO nr nt ny; omega), by (clear bl2 e e' hp hp1 hp2 hy mA mO nr nt ny; omega), fun m H2 s2 nm hm => ?_⟩
    have hy2 := s2 _ _ hy
    have an2 := an.same s2
    have s12 := s1.trans s2
    refine ⟨_, rfl, y, C, dx, _, _, rfl, hy2, c.cl, c.r, flds3_r, _, rfl, _, rfl, y, C, dx, _, _, rfl, hy2, c.cl, c.s, flds3_s, _, rfl, y, C, dx, _, _, rfl, hy2, c.cl, c.p, flds3_p, fun x dx2 nx ndx nex => ?_⟩
    refine ⟨x, r, m, t, pl, dx2, rule, _, shorter, rfl, upd_same, an2.r.same (make_same nx ndx), hm.same (make_same nx ndx), an2.s.same (make_same nx ndx), fun r2 u2 t2 H' n1 n2 n3 an3 kp => ⟨rfl, ?_⟩⟩
    exact q2 x r2 u2 t2 H' rule _ shorter pl miss (s12.trans (made_same nx ndx kp)) (s12.free nx) (s12.free (make_free nx ndx n1)) (s12.free (make_free nx ndx n2)) (s12.free (make_free nx ndx n3)) an3 bm e' rfl
end
end Rr

set_option Elab.async false
set_option linter.all false
set_option maxRecDepth 100000
set_option maxHeartbeats 3200000
namespace Rr
open PySem L2 RM
theorem cut_last {ns : List Int} : cutV (ns.map V.int) none (some (-1)) = (ns.take (ns.length - 1)).map V.int := by
  have e : HT.sIx (ns.map V.int).length (ns.map V.int).length (some (-1)) = ns.length - 1 := by
    show (if (-1 : Int) < 0 then ((-1 : Int) + ((ns.map V.int).length : Int)).toNat else min (-1 : Int).toNat (ns.map V.int).length) = ns.length - 1
    rw [if_pos (by decide), List.length_map]
    omega
  unfold cutV
  rw [e, HT.sIx_none, Nat.sub_zero, List.drop_zero, List.map_take]
theorem atI_last {ns : List Int} (h : 0 < ns.length) : atI (ns.map V.int) (-1) = some (.int (gt ns (ns.length - 1))) := by
  unfold atI ixN
  rw [if_neg (by decide), List.length_map, if_pos (by omega), Option.bind_some, show ((-1 : Int) + (ns.length : Int)).toNat = ns.length - 1 by omega, List.getElem?_map, List.getElem?_eq_getElem (by omega), gt_lt (by omega)]
  rfl
theorem ixN_last {n : Nat} (h : 0 < n) : ixN n (-1) = some (n - 1) := by
  unfold ixN
  rw [if_neg (by decide), if_pos (by omega), show ((-1 : Int) + (n : Int)).toNat = n - 1 by omega]
noncomputable def spRight2 (CO CA : Addr) : Sp := fun vs H Q _ => ∃ (p : Int) (b : Addr) (x : Addr) (row : List Int), vs = [.int p, .ref b, .ref x] ∧ Ls H b row ∧
  ((∃ (r s : Addr) (rule shorter : List Int) (pl : Int), Ans3 CO H x r s rule shorter pl ∧ LR p row rule shorter ∧ ∀ H', Same H H' → Q (.bl (soleB row rule && leastB p row rule shorter pl)) H') ∨
   (∃ (r t s : Addr) (one other shorter : List Int) (pl : Int), Ans4 CA H x r t s one other shorter pl ∧ LR p row one shorter ∧ other.length ≤ 100 ∧ ∀ H', Same H H' → Q (.bl (anoB p row one other shorter pl)) H'))
structure Cls2 (K : PySem.W.Frag) (mg : Str → Option Value) (C cA CO CA : Addr) : Prop where
  c : Cl3 K C
  cO : Cl3 K CO
  cN : Cl4 K CA
  mA : mg "Answer" = some (.ref cA)
  mL : mg "Least" = some (.ref C)
  mO : mg "Only" = some (.ref CO)
  mN : mg "Another" = some (.ref CA)
  tO : TyC K CO
  tN : TyC K CA
  oA : PySem.W.kitOne K (.ref CO) (.ref cA) = some true
  oL : PySem.W.kitOne K (.ref CO) (.ref C) = some false
  oO : PySem.W.kitOne K (.ref CO) (.ref CO) = some true
  oN : PySem.W.kitOne K (.ref CO) (.ref CA) = some false
  nA : PySem.W.kitOne K (.ref CA) (.ref cA) = some true
  nL : PySem.W.kitOne K (.ref CA) (.ref C) = some false
  nO : PySem.W.kitOne K (.ref CA) (.ref CO) = some false
  nN : PySem.W.kitOne K (.ref CA) (.ref CA) = some true
section
variable {P : Program} {w : World} {K : PySem.W.Frag} {mg : Str → Option Value} {base : Heap} {g C cA CO CA : Addr} {gd : FuncData} {f : Addr} {fd : FuncData}
theorem scRight : FnScope ["_law_prime_here", "_law_row_here", "_law_found"] ["_law_prime_here", "_law_row_here", "_law_found"] (defScope lRight) := ⟨rfl, rfl, rfl, by decide +kernel, rfl, by decide +kernel, by decide +kernel⟩
theorem ok_right2 (D : Def K mg "_law_right" lRight ["_law_prime_here", "_law_row_here", "_law_found"] f fd) (o : Own mg) (T : Cls2 K mg C cA CO CA) (DL : Def K mg "_law_least" lLeast ["_law_prime_here", "_law_row_here", "_law_rule", "_law_shorter", "_law_place"] g gd)
    (GL : FnOk P w K mg base CX0 3 g gd ["_law_prime_here", "_law_row_here", "_law_rule", "_law_shorter", "_law_place"] spIsLeast) : FnOk P w K mg base CX0 4 f fd ["_law_prime_here", "_law_row_here", "_law_found"] (spRight2 CO CA) := by
  refine D.F.ok scRight (fun vs H Q E h => ?_) (fun cdv A outer s H vs Q E hr h => ?_)
  · obtain ⟨p, b, x, row, rfl, _⟩ := h
    rfl
  obtain ⟨p, b, x, row, rfl, hb, h⟩ := h
  have hu := hr.units
  refine ⟨_, pss_cons (ps_if (pt_val (pe_callB call_isiO rfl o.isinstance boot_isi (pa_cons (pv 2) (pa_cons (pe_glob (v := .ref CO) (by rfl) T.mO rfl) pa_nil)))) (pss_one (ps_ret (pe_and (pe_cmpR op_le (pe_op op_mul pint (plen o (pe_fld (pv 2) rfl))) (plen o (pv 1)) (nomark _))
      (pe_one (PE.tag (pcall DL GL hr (pa_cons (pv 0) (pa_cons (pv 1) (pa_cons (pe_fld (pv 2) rfl) (pa_cons (pe_fld (pv 2) rfl) (pa_cons (pe_fld (pv 2) rfl) pa_nil))))))))))) pss_nil)
    (pss_cons (ps_if (PW.pt (pw_or (pt_cmpR op_ne (plen o (pe_fld (pv 2) rfl)) (plen o (pe_fld (pv 2) rfl)) (nomark _)) (pw_or1 (pt_cmpR (op_eqL hu) (pe_fld (pv 2) rfl) (pe_fld (pv 2) rfl) (nomark _))))) (pss_one (ps_ret pe_bl)) pss_nil)
    (pss_cons (ps_if (pt_not (pt_val (PE.tag (pcall DL GL hr (pa_cons (pv 0) (pa_cons (pv 1) (pa_cons (pe_fld (pv 2) rfl) (pa_cons (pe_fld (pv 2) rfl) (pa_cons (pe_fld (pv 2) rfl) pa_nil))))))))) (pss_one (ps_ret pe_bl)) pss_nil)
    (pss_one (ps_ret (PE.tag (pcall DL GL hr (pa_cons (pv 0) (pa_cons (pv 1) (pa_cons (pe_fld (pv 2) rfl) (pa_cons (pe_fld (pv 2) rfl) (pa_cons (pe_fld (pv 2) rfl) pa_nil))))))))))), ?_⟩
  dsimp only [cxOf, Cx.nox]
  rcases h with ⟨r, t, rule, shorter, pl, an, lr, q⟩ | ⟨r, t, u, one, other, shorter, pl, an, lr, lo, q⟩
  · obtain ⟨dx, hx⟩ := an.ob
    have l1 := lr.l1
    have l2 := lr.l2
    refine ⟨_, rfl, _, _, _, _, _, rfl, .own _, T.tO.of hx T.cO.cl, T.oO, true, rfl, iteT ?_⟩
    refine ⟨_, rfl, x, CO, dx, _, _, rfl, hx, T.cO.cl, T.cO.r, flds3_r, r, _, rfl, .inl an.r.sq, _, _, rfl, rfl, .inl ⟨by decide, by decide⟩, _, rfl, b, _, rfl, .inl hb.sq, _, _, rfl, rfl, _, rfl, ?_⟩
    rw [List.length_map, List.length_map]
    by_cases e : 2 * (rule.length : Int) ≤ row.length
    · refine iteTd e ?_
      refine call5 hx T.cO.cl T.cO.r T.cO.s T.cO.p flds3_r flds3_s flds3_p rfl rfl rfl hb an.r an.s lr fun H1 s1 => ?_
      have := q H1 s1
      unfold soleB at this
      rw [decide_eq_true e, Bool.true_and] at this
      exact this
    · refine iteFd e ?_
      have := q H (Same.refl _)
      unfold soleB at this
      rw [decide_eq_false e, Bool.false_and] at this
      exact this
  · obtain ⟨dx, hx⟩ := an.ob
    refine ⟨_, rfl, _, _, _, _, _, rfl, .own _, T.tN.of hx T.cN.cl, T.nO, false, rfl, iteF ?_⟩
    refine ⟨_, rfl, x, CA, dx, _, _, rfl, hx, T.cN.cl, T.cN.r, flds4_r, r, _, rfl, .inl an.r.sq, _, rfl, x, CA, dx, _, _, rfl, hx, T.cN.cl, T.cN.t, flds4_t, t, _, rfl, .inl an.t.sq, rfl, _, rfl, ?_⟩
    rw [List.length_map, List.length_map]
    by_cases hl : one.length = other.length
    · refine iteNd (by rw [hl]) ?_
      refine ⟨_, rfl, x, CA, dx, _, _, rfl, hx, T.cN.cl, T.cN.r, flds4_r, _, rfl, x, CA, dx, _, _, rfl, hx, T.cN.cl, T.cN.t, flds4_t, r, t, one, other, rfl, rfl, an.r.sq, an.t.sq, _, rfl, ?_⟩
      by_cases he : one = other
      · refine iteTd he ?_
        have := q H (Same.refl _)
        unfold anoB at this
        rw [decide_eq_true he, Bool.not_true, Bool.and_false] at this
        exact this
      refine iteFd he ?_
      refine call5 hx T.cN.cl T.cN.r T.cN.s T.cN.p flds4_r flds4_s flds4_p rfl rfl rfl hb an.r an.s lr fun H1 s1 => ?_
      refine ⟨_, rfl, ?_⟩
      cases e : leastB p row one shorter pl with
      | false =>
        refine iteT ?_
        have := q H1 s1
        unfold anoB at this
        rw [e, Bool.and_false] at this
        exact this
      | true =>
      refine iteF ?_
      have hx1 := s1 _ _ hx
      refine call5 hx1 T.cN.cl T.cN.t T.cN.s T.cN.p flds4_t flds4_s flds4_p rfl rfl rfl (hb.same s1) (an.t.same s1) (an.s.same s1) ⟨lr.pr, lr.r, lr.l1, lo, lr.l3⟩ fun H2 s2 => ?_
      have := q H2 (s1.trans s2)
      unfold anoB at this
      rw [e, decide_eq_true hl, decide_eq_false he] at this
      exact this
    · refine iteYd (fun z => hl (by injection z with z'; (clear hl hu hx lo; omega))) ?_
      have := q H (Same.refl _)
      unfold anoB at this
      rw [decide_eq_false hl] at this
      exact this
end
noncomputable def Fnd (CO CA : Addr) (H : Hp) (y r u t : Addr) (isO : Bool) (one other shorter : List Int) (pl : Int) : Prop := (isO = true ∧ Ans3 CO H y r t one shorter pl) ∨ (isO = false ∧ Ans4 CA H y r u t one other shorter pl)
theorem Fnd.same {CO CA : Addr} {H H' : Hp} {y r u t : Addr} {isO : Bool} {one other shorter : List Int} {pl : Int} (h : Fnd CO CA H y r u t isO one other shorter pl) (s : Same H H') : Fnd CO CA H' y r u t isO one other shorter pl :=
  h.elim (fun x => .inl ⟨x.1, x.2.same s⟩) fun x => .inr ⟨x.1, x.2.same s⟩
noncomputable def FV (p : Int) (isO : Bool) (one other shorter : List Int) (pl : Int) (l : List Int) : Bool := if isO = true then soleB l one && leastB p l one shorter pl else anoB p l one other shorter pl
section
variable {K : PySem.W.Frag} {mg : Str → Option Value} {C cA CO CA : Addr} {H : Hp} {y r u t b : Addr} {isO : Bool} {one other shorter l : List Int} {pl p : Int} {σ : St} {k : Nat} {Q : VK}
theorem Fnd.shows (F : Fnd CO CA H y r u t isO one other shorter pl) (e5 : σ[5]? = some (some (.ref y))) (e1 : σ[1]? = some (some (.int p))) (ek : σ[k]? = some (some (.ref b))) (hb : Ls H b l) (lr : LR p l one shorter) (lo : other.length ≤ 100)
    (q : ∀ H', Same H H' → Q (.bl (FV p isO one other shorter pl l)) H') : Tag (tMeth CO "shows" (spShowsO CO) [] E0 (tVar 5) (tCons (tVar 1) (tCons (tVar k) tNil)) σ H Q ∨ tMeth CA "shows" (spShowsA CA) [] E0 (tVar 5) (tCons (tVar 1) (tCons (tVar k) tNil)) σ H Q) := by
  refine .mk ?_
  rcases F with ⟨e, an⟩ | ⟨e, an⟩
  · subst e
    obtain ⟨dx, hy⟩ := an.ob
    exact .inl ⟨_, e5, y, dx, _, rfl, hy, flds3_m, _, e1, _, ek, y, p, b, r, t, l, one, shorter, pl, rfl, an, hb, lr, q⟩
  · subst e
    obtain ⟨dx, hy⟩ := an.ob
    exact .inr ⟨_, e5, y, dx, _, rfl, hy, flds4_m, _, e1, _, ek, y, p, b, r, u, t, l, one, other, shorter, pl, rfl, an, hb, lr, lo, q⟩
theorem Fnd.right (F : Fnd CO CA H y r u t isO one other shorter pl) (e5 : σ[5]? = some (some (.ref y))) (e1 : σ[1]? = some (some (.int p))) (ek : σ[k]? = some (some (.ref b))) (hb : Ls H b l) (lr : LR p l one shorter) (lo : other.length ≤ 100)
    (q : ∀ H', Same H H' → Q (.bl (FV p isO one other shorter pl l)) H') : Tag (tCall (spRight2 CO CA) [] E0 (tCons (tVar 1) (tCons (tVar k) (tCons (tVar 5) tNil))) σ H Q) := by
  refine .mk ⟨_, e1, _, ek, _, e5, p, b, y, l, rfl, hb, ?_⟩
  rcases F with ⟨e, an⟩ | ⟨e, an⟩
  · subst e
    exact .inl ⟨r, t, one, shorter, pl, an, lr, q⟩
  · subst e
    exact .inr ⟨r, u, t, one, other, shorter, pl, an, lr, lo, q⟩
noncomputable abbrev tIsi (K : PySem.W.Frag) (X : Addr) : TE := tCB (fun xs H Q => ∃ (x y : V) (t c : Value) (b : Bool), xs = [x, y] ∧ ClsV y c ∧ TyOf K H x t ∧ PySem.W.kitOne K t c = some b ∧ Q (.bl b) H) (tCons (tVar 5) (tCons (tC (.ref X)) tNil))
theorem Fnd.isi {X : Addr} {v : Bool} (F : Fnd CO CA H y r u t isO one other shorter pl) (T : Cls2 K mg C cA CO CA) (e5 : σ[5]? = some (some (.ref y))) (hO : isO = true → PySem.W.kitOne K (.ref CO) (.ref X) = some v) (hN : isO = false → PySem.W.kitOne K (.ref CA) (.ref X) = some v) (q : Q (.bl v) H) : Tag (tIsi K X σ H Q) := by
  refine .mk ?_
  rcases F with ⟨e, an⟩ | ⟨e, an⟩
  · obtain ⟨dx, hy⟩ := an.ob
    exact ⟨_, e5, _, _, _, _, _, rfl, .own _, T.tO.of hy T.cO.cl, hO e, q⟩
  · obtain ⟨dx, hy⟩ := an.ob
    exact ⟨_, e5, _, _, _, _, _, rfl, .own _, T.tN.of hy T.cN.cl, hN e, q⟩
theorem Fnd.isiO (F : Fnd CO CA H y r u t isO one other shorter pl) (T : Cls2 K mg C cA CO CA) (e5 : σ[5]? = some (some (.ref y))) (q : Q (.bl isO) H) : Tag (tIsi K CO σ H Q) := by
  refine F.isi T e5 (v := isO) (fun e => ?_) (fun e => ?_) q
  · rw [e]
    exact T.oO
  · rw [e]
    exact T.nO
theorem Fnd.isiN (F : Fnd CO CA H y r u t isO one other shorter pl) (T : Cls2 K mg C cA CO CA) (e5 : σ[5]? = some (some (.ref y))) (q : Q (.bl (!isO)) H) : Tag (tIsi K CA σ H Q) := by
  refine F.isi T e5 (v := !isO) (fun e => ?_) (fun e => ?_) q
  · rw [e]
    exact T.oN
  · rw [e]
    exact T.nN
theorem Fnd.long (F : Fnd CO CA H y r u t isO one other shorter pl) (T : Cls2 K mg C cA CO CA) (e5 : σ[5]? = some (some (.ref y))) (q : Q (.int one.length) H) :
    Tag (tCB (fun xs H Q => ∃ p ys, xs = [.ref p] ∧ (SqL K H p ys ∨ SqT K H p ys) ∧ Q (.int ys.length) H) (tCons (tIf (tB fun σ H Q => Tag (tIsi K CO σ H Q)) (tFld K (tVar 5) "rule") (tFld K (tVar 5) "one")) tNil) σ H Q) := by
  refine .mk ?_
  refine F.isiO T e5 ?_
  refine ⟨_, rfl, ?_⟩
  rcases F with ⟨e, an⟩ | ⟨e, an⟩
  · obtain ⟨dx, hy⟩ := an.ob
    rw [e]
    refine iteT ⟨_, e5, y, CO, dx, _, _, rfl, hy, T.cO.cl, T.cO.r, flds3_r, r, _, rfl, .inl an.r.sq, ?_⟩
    rw [List.length_map]
    exact q
  · obtain ⟨dx, hy⟩ := an.ob
    rw [e]
    refine iteF ⟨_, e5, y, CA, dx, _, _, rfl, hy, T.cN.cl, T.cN.r, flds4_r, r, _, rfl, .inl an.r.sq, ?_⟩
    rw [List.length_map]
    exact q
end
theorem bl_ne (b : Bool) : ¬ (V.bl b = V.bl (!b)) := fun z => by
  injection z with z
  cases b <;> cases z
noncomputable def spUnlike1 (CO CA : Addr) : Sp := fun vs H Q _ => ∃ (p : Int) (b : Addr) (l : List Int), vs = [.int p, .ref b] ∧ Ls H b l ∧ Seven p ∧ Rests p l ∧ l.length ≤ 100 ∧
    ∀ (y r u t : Addr) (H' : Hp) (isO : Bool) (rule other shorter : List Int) (pl miss : Int), Same H H' → H r = none → (isO = false → H u = none) → H t = none → Fnd CO CA H' y r u t isO rule other shorter pl → BM p l l.length rule shorter pl miss → (isO = false → other.length = rule.length) →
      FV p isO rule other shorter pl l = true → isO = decide (2 * (rule.length : Int) ≤ l.length) → other.length ≤ 100 → Q (.ref y) H'
theorem unlike_one (CO CA : Addr) {vs : List V} {H : Hp} {Q : VK} {E : XK} : spUnlike1 CO CA vs H Q E → spUnlike CO CA vs H Q E := by
  rintro ⟨p, b, l, rfl, hb, h7, hR, hl, q⟩
  refine ⟨p, b, l, rfl, hb, h7, hR, hl, fun y r t H' rule shorter pl miss s ny nr nt an bm hs => ?_, fun y r u t H' rule other shorter pl miss s ny nr nu nt an bm hs ho => ?_⟩
  · refine q y r r t H' true rule [] shorter pl miss s nr (fun z => by cases z) nt (.inl ⟨rfl, an⟩) bm (fun z => by cases z) ?_ (decide_eq_true (by (clear hl nr nt ny; omega))).symm (Nat.zero_le _)
    unfold FV soleB
    rw [if_pos rfl, bm.least h7.ok.pos, decide_eq_true (by (clear hl nr nt ny; omega) : 2 * (rule.length : Int) ≤ l.length)]
    rfl
  · have hh := bm.other h7.two hR hs
    rw [← ho] at hh
    have := bm.len
    refine q y r u t H' false rule other shorter pl miss s nr (fun _ => nu) nt (.inr ⟨rfl, an⟩) bm (fun _ => hh.1) ?_ (decide_eq_false (by (clear hl ho nr nt nu ny this; omega))).symm (by (clear ho hs nr nt nu ny; omega))
    unfold FV anoB
    rw [if_neg (by decide), bm.least h7.ok.pos, hh.2.2, decide_eq_true hh.1.symm, decide_eq_false (fun z => hh.2.1 z.symm)]
    rfl
theorem iteNe {b : Bool} {A B : Prop} (h : b = true) (x : B) : if (!b) = true then A else B := by
  subst h
  exact iteF x
theorem iteXe {b : Bool} {A B : Prop} (h : b = true) (x : B) : if (b != true) = true then A else B := by
  subst h
  exact iteF x
structure Kit2 (P : Program) (w : World) (K : PySem.W.Frag) (mg : Str → Option Value) (base : Heap) (f : Nat → Addr) (d : Nat → FuncData) (C cA CO CA : Addr) : Prop where
  o : Own mg
  D1 : Def K mg "_law_prime" lPrime ["_law_script"] (f 1) (d 1)
  G1 : FnOk P w K mg base CX0 2 (f 1) (d 1) ["_law_script"] (spPrimeL K)
  D2 : Def K mg "_law_row" lRow ["_law_script", "_law_prime_here"] (f 2) (d 2)
  G2 : FnOk P w K mg base CX0 3 (f 2) (d 2) ["_law_script", "_law_prime_here"] (spRow K)
  D3 : Def K mg "least" sLeast ["prime", "row"] (f 3) (d 3)
  G3 : FnOk P w K mg base CX0 6 (f 3) (d 3) ["prime", "row"] (spLeast C)
  D4 : Def K mg "unlike" sUnlike ["prime", "row"] (f 4) (d 4)
  G4 : FnOk P w K mg base CX0 7 (f 4) (d 4) ["prime", "row"] (spUnlike1 CO CA)
  D5 : Def K mg "_law_right" lRight ["_law_prime_here", "_law_row_here", "_law_found"] (f 5) (d 5)
  G5 : FnOk P w K mg base CX0 4 (f 5) (d 5) ["_law_prime_here", "_law_row_here", "_law_found"] (spRight2 CO CA)
  D6 : Def K mg "_law_draw" lDraw ["_law_cell", "_law_k", "_law_many"] (f 6) (d 6)
  G6 : FnOk P w K mg base CX0 1 (f 6) (d 6) ["_law_cell", "_law_k", "_law_many"] spDraw
  D7 : Def K mg "_law_cell_at" lCell ["_law_script", "_law_k"] (f 7) (d 7)
  G7 : FnOk P w K mg base CX0 1 (f 7) (d 7) ["_law_script", "_law_k"] (spCell K)
  T : Cls2 K mg C cA CO CA
  mO : Meth K CO "shows" (f 8)
  GO : FnOk P w K mg base CX0 8 (f 8) (d 8) ["self", "prime", "row"] (spShowsO CO)
  bO : Binds K (d 8) ["self", "prime", "row"] []
  mN : Meth K CA "shows" (f 9)
  GN : FnOk P w K mg base CX0 8 (f 9) (d 9) ["self", "prime", "row"] (spShowsA CA)
  bN : Binds K (d 9) ["self", "prime", "row"] []
section
variable {P : Program} {w : World} {K : PySem.W.Frag} {mg : Str → Option Value} {base : Heap} {f : Nat → Addr} {d : Nat → FuncData} {e C cA CO CA : Addr} {ed : FuncData}
theorem scLaw : FnScope ["_law_script", "_law_prime_here", "_law_row_here", "_law_some", "_law_handed", "_law_found", "_law_many", "_law_other"] ["_law_script"] (defScope lLaw) := ⟨rfl, rfl, rfl, by decide +kernel, rfl, by decide +kernel, by decide +kernel⟩
theorem ok_law (D : Def K mg "law" lLaw ["_law_script"] e ed) (Z : Kit2 P w K mg base f d C cA CO CA) : FnOk P w K mg base CX0 10 e ed ["_law_script"] (spLaw K) := by
  refine D.F.ok scLaw (fun vs H Q E h => ?_) (fun cdv A outer s H vs Q E hr h => ?_)
  · obtain ⟨a, ns, rfl, _⟩ := h
    rfl
  obtain ⟨a, ns, rfl, h1, hl, q⟩ := h
  have o := Z.o
  have T := Z.T
  have hu := hr.units
  have hr8 : Room 8 _ := hr.mono (by decide)
  refine ⟨_, pss_cons (ps_set (i := 1) scLaw.nd rfl (Or.inl rfl) (pcall Z.D1 Z.G1 hr (pa_cons (pv 0) pa_nil)))
    (pss_cons (ps_set (i := 2) scLaw.nd rfl (Or.inl rfl) (pcall Z.D2 Z.G2 hr (pa_cons (pv 0) (pa_cons (pv 1) pa_nil))))
    (pss_cons (ps_for PassesOwn.never rfl (pi_tup (pe_tup (pa_cons (pv 2) (pa_cons (pe_slice sl_list (pv 2) po_none (po_some (pcall Z.D6 Z.G6 hr (pa_cons (pcall Z.D7 Z.G7 hr (pa_cons (pv 0) (pa_cons pint pa_nil))) (pa_cons pint (pa_cons (pe_op op_add (plen o (pv 2)) pint) pa_nil)))))) (pa_cons (pe_slice sl_list (pv 2) po_none (po_some pint)) (pa_cons (pv 2) pa_nil)))))) (pgn 3)
      (pss_cons (ps_set (i := 4) scLaw.nd rfl (Or.inl rfl) (pe_callTy call_list_of rfl o.list boot_listT (pa_cons (pv 3) pa_nil)))
      (pss_cons (ps_set (i := 5) scLaw.nd rfl (Or.inl rfl) (pcall Z.D4 Z.G4 hr (pa_cons (pv 1) (pa_cons (pv 4) pa_nil))))
      (pss_cut (ps_if (PW.pt (pw_or (pt_not (pt_val (PE.tag (pe_callB call_isiO rfl o.isinstance boot_isi (pa_cons (pv 5) (pa_cons (pe_glob (v := .ref cA) (by rfl) T.mA rfl) pa_nil)))))) (pw_or (pt_cmpR op_eq (PE.tag (pe_callB call_isiO rfl o.isinstance boot_isi (pa_cons (pv 5) (pa_cons (pe_glob (v := .ref CO) (by rfl) T.mO rfl) pa_nil)))) (PE.tag (pe_callB call_isiO rfl o.isinstance boot_isi (pa_cons (pv 5) (pa_cons (pe_glob (v := .ref CA) (by rfl) T.mN rfl) pa_nil)))) (nomark _)) (pw_or1 (pt_cmpR (op_neL hu) (pv 4) (pv 3) (nomark _)))))) (pss_one (ps_ret pe_bl)) pss_nil)
      (pss_cut (ps_if (PW.pt (pw_or (pt_val (PE.tag (pe_callB call_isiO rfl o.isinstance boot_isi (pa_cons (pv 5) (pa_cons (pe_glob (v := .ref C) (by rfl) T.mL rfl) pa_nil))))) (pw_or (pt_not (pt_val (PE.tag (pcall Z.D5 Z.G5 hr (pa_cons (pv 1) (pa_cons (pv 3) (pa_cons (pv 5) pa_nil))))))) (pw_or1 (pt_cmpR op_isnotB (PE.tag (PE.or (pe_meth (pv 5) T.cO.cl Z.mO Z.GO hr8 Z.bO .nil pass0 (pa_cons (pv 1) (pa_cons (pv 3) pa_nil))) (pe_meth (pv 5) T.cN.cl Z.mN Z.GN hr8 Z.bN .nil pass0 (pa_cons (pv 1) (pa_cons (pv 3) pa_nil))))) pe_bl (nomark _)))))) (pss_one (ps_ret pe_bl)) pss_nil)
      (pss_cut (ps_set (i := 6) scLaw.nd rfl (Or.inl rfl) (plen o (pe_fld (pcall Z.D3 Z.G3 hr (pa_cons (pv 1) (pa_cons (pv 3) pa_nil))) rfl)))
      (pss_cut (ps_if (pt_cmpR op_ne (PE.tag (pe_callB call_isiO rfl o.isinstance boot_isi (pa_cons (pv 5) (pa_cons (pe_glob (v := .ref CO) (by rfl) T.mO rfl) pa_nil)))) (pe_cmpR op_le (pe_op op_mul pint (pv 6)) (plen o (pv 3)) (nomark _)) (nomark _)) (pss_one (ps_ret pe_bl)) pss_nil)
      (pss_cut (ps_if (pt_cmpR op_ne (PE.tag (plen o (pe_ifExp (pt_val (PE.tag (pe_callB call_isiO rfl o.isinstance boot_isi (pa_cons (pv 5) (pa_cons (pe_glob (v := .ref CO) (by rfl) T.mO rfl) pa_nil))))) (pe_fld (pv 5) rfl) (pe_fld (pv 5) rfl)))) (pv 6) (nomark _)) (pss_one (ps_ret pe_bl)) pss_nil)
      (pss_cut (ps_for PassesOwn.never rfl (pi_tup (pe_tup (pa_cons (pe_op op_cat (pv 3) (pe_lst (pa_cons pint pa_nil))) (pa_cons (pe_op op_cat (pv 3) (pe_lst (pa_cons pint pa_nil))) (pa_cons (pe_slice sl_list (pv 3) po_none (po_some (pe_un un_neg pint))) pa_nil))))) (pgn 7)
        (pss_one (ps_if (pt_cmpR op_ne (PE.tag (PE.or (pe_meth (pv 5) T.cO.cl Z.mO Z.GO hr8 Z.bO .nil pass0 (pa_cons (pv 1) (pa_cons (pv 7) pa_nil))) (pe_meth (pv 5) T.cN.cl Z.mN Z.GN hr8 Z.bN .nil pass0 (pa_cons (pv 1) (pa_cons (pv 7) pa_nil))))) (PE.tag (pcall Z.D5 Z.G5 hr (pa_cons (pv 1) (pa_cons (pv 7) (pa_cons (pv 5) pa_nil))))) (nomark _)) (pss_one (ps_ret pe_bl)) pss_nil)))
      (pss_cons (ps_if (pt_val (PE.tag (pe_callB call_isiO rfl o.isinstance boot_isi (pa_cons (pv 5) (pa_cons (pe_glob (v := .ref CO) (by rfl) T.mO rfl) pa_nil))))) (pss_one (ps_expr (pe_bm PySem.F.plainAttrs_list PySem.F.slot_list_append PySem.F.type_list_append mt_append (pe_fld (pv 5) rfl) (pa_cons pint pa_nil))))
          (pss_cons (ps_asg (pe_ix ix_list (pe_fld (pv 5) rfl) pint (fun _ _ => rfl)) (pg_sub (pe_fld (pv 5) rfl) pint set_list)) (pss_one (ps_asg (pe_ix ix_list (pe_fld (pv 5) rfl) (pe_un un_neg pint) (fun _ _ => rfl)) (pg_sub (pe_fld (pv 5) rfl) (pe_un un_neg pint) set_list)))))
      (pss_one (ps_if (pt_cmpR op_ne (PE.tag (PE.or (pe_meth (pv 5) T.cO.cl Z.mO Z.GO hr8 Z.bO .nil pass0 (pa_cons (pv 1) (pa_cons (pv 3) pa_nil))) (pe_meth (pv 5) T.cN.cl Z.mN Z.GN hr8 Z.bN .nil pass0 (pa_cons (pv 1) (pa_cons (pv 3) pa_nil))))) (PE.tag (pcall Z.D5 Z.G5 hr (pa_cons (pv 1) (pa_cons (pv 3) (pa_cons (pv 5) pa_nil))))) (nomark _)) (pss_one (ps_ret pe_bl)) pss_nil))))))))))))
    (pss_one (ps_ret (pe_callB call_isiO rfl o.isinstance boot_isi (pa_cons (pcall Z.D4 Z.G4 hr (pa_cons (pv 1) (pa_cons (pe_lst pa_nil) pa_nil))) (pa_cons (pe_glob (v := .ref CO) (by rfl) T.mO rfl) pa_nil))))))), ?_⟩
  dsimp only [cxOf, Cx.nox]
  refine ⟨_, rfl, a, ns, rfl, h1, by (clear hu; omega), fun p H1 h7 s1 => ?_⟩
  have h7 : Seven p := h7
  have pok := h7.ok
  have hp := pok.pos
  have hp1 := h7.two
  have hp2 := pok.2.1
  refine ⟨_, rfl, _, rfl, a, ns, p, rfl, s1.seq h1, by (clear hp hp1 hp2 hu; omega), pok, fun wa H2 row s2 nw hw hR hL => ?_⟩
  have a2 := s2.seq (s1.seq h1)
  refine ⟨_, rfl, _, rfl, _, rfl, a, ns, 3, rfl, a2, by (clear hp hp1 hp2 hu nw; omega), _, rfl, wa, _, rfl, .inl hw.sq, _, _, rfl, rfl, gt ns 3, 2, (row.length : Int) + 1, (by rw [List.length_map]; rfl), by (clear hp hp1 hp2 hu nw; omega), fun v H3 v0 v1 s3 => ?_⟩
  obtain ⟨m, rfl⟩ : ∃ m : Nat, v = (m : Int) := ⟨v.toNat, by (clear hL hl hp hp1 hp2 hu nw v1; omega)⟩
  refine ⟨_, rfl, wa, _, rfl, (hw.same s3).sq, fun w1 n1 => ?_⟩
  rw [cut_to]
  have hw := hw.same s3
  have t1 := same_new n1 (.lst ((row.take m).map V.int))
  refine ⟨_, rfl, _, rfl, wa, _, rfl, (hw.same t1).sq, fun w2 n2 => ?_⟩
  rw [show cutV (row.map V.int) none (some 2) = (row.take 2).map V.int from cut_to (hi := 2)]
  have t2 := same_new n2 (.lst ((row.take 2).map V.int))
  refine ⟨_, rfl, (by show 4 ≤ sizeLine; decide), fun tt nt => ?_⟩
  have t3 := same_new nt (.tup [.ref wa, .ref w1, .ref w2, .ref wa])
  have k0 : Ls (upd (upd (upd H3 w1 (.lst ((row.take m).map V.int))) w2 (.lst ((row.take 2).map V.int))) tt (.tup [.ref wa, .ref w1, .ref w2, .ref wa])) wa row := ((hw.same t1).same t2).same t3
  have k1 : Ls (upd (upd (upd H3 w1 (.lst ((row.take m).map V.int))) w2 (.lst ((row.take 2).map V.int))) tt (.tup [.ref wa, .ref w1, .ref w2, .ref wa])) w1 (row.take m) := ((Ls.new rfl : Ls _ w1 (row.take m)).same t2).same t3
  have k2 : Ls (upd (upd (upd H3 w1 (.lst ((row.take m).map V.int))) w2 (.lst ((row.take 2).map V.int))) tt (.tup [.ref wa, .ref w1, .ref w2, .ref wa])) w2 (row.take 2) := (Ls.new rfl : Ls _ w2 (row.take 2)).same t3
  have kt : (upd (upd (upd H3 w1 (.lst ((row.take m).map V.int))) w2 (.lst ((row.take 2).map V.int))) tt (.tup [.ref wa, .ref w1, .ref w2, .ref wa])) tt = some (.tup [.ref wa, .ref w1, .ref w2, .ref wa]) := upd_same
  generalize upd (upd (upd H3 w1 (.lst ((row.take m).map V.int))) w2 (.lst ((row.take 2).map V.int))) tt (.tup [.ref wa, .ref w1, .ref w2, .ref wa]) = HB at k0 k1 k2 kt ⊢
  have hX : ∀ (i : Nat) (x : V), [V.ref wa, V.ref w1, V.ref w2, V.ref wa][i]? = some x → ∃ (b : Addr) (l : List Int), x = .ref b ∧ Ls HB b l ∧ Rests p l ∧ l.length ≤ 63 := fun i x hx => by
    match i, hx with
    | 0, hx => exact ⟨wa, row, (Option.some.inj hx).symm, k0, hR, by (clear hp hp1 hp2 hu hx kt n1 n2 nt nw v0 v1; omega)⟩
    | 1, hx => exact ⟨w1, row.take m, (Option.some.inj hx).symm, k1, hR.take _, by rw [List.length_take]; (clear hp hp1 hp2 hu hx kt n1 n2 nt nw v0; omega)⟩
    | 2, hx => exact ⟨w2, row.take 2, (Option.some.inj hx).symm, k2, hR.take _, by rw [List.length_take]; (clear hp hp1 hp2 hu hx kt n1 n2 nt nw v0 v1; omega)⟩
    | 3, hx => exact ⟨wa, row, (Option.some.inj hx).symm, k0, hR, by (clear hp hp1 hp2 hu hx kt n1 n2 nt nw v0 v1; omega)⟩
  clear k0 k1 k2 t1 t2 t3 nt n1 n2 a2 hw
  refine ⟨tt, rfl, ⟨_, SqT.of kt⟩, for_tup (xs := [V.ref wa, V.ref w1, V.ref w2, V.ref wa]) (fun _ σ Hw => ∃ x3 x4 x5 x6 x7, σ = [some (.ref a), some (.int p), some (.ref wa), x3, x4, x5, x6, x7] ∧ Same HB Hw) ⟨none, none, none, none, none, rfl, Same.refl _⟩ (fun i σ Hw _ h => ?_) ?_ ?_⟩
  · obtain ⟨_, _, _, _, _, _, sw⟩ := h
    exact SqT.of (sw _ _ kt)
  · rintro i x σ Hw hx ⟨x3, x4, x5, x6, x7, rfl, sw⟩
    obtain ⟨b, l, rfl, hb, hRl, hll⟩ := hX i x hx
    refine ⟨_, rfl, b, _, rfl, .inl (hb.same sw).sq, fun hd nh => ?_⟩
    have t1 := same_new nh (.lst (l.map V.int))
    have hh : Ls (upd Hw hd (.lst (l.map V.int))) hd l := Ls.new rfl
    have swh := sw.trans t1
    refine ⟨_, rfl, _, rfl, p, hd, l, rfl, hh, h7, hRl, by (clear hL hl hp hp1 hp2 hu hx kt nh nw v0 v1; omega), fun y r u t H3 isO rule other shorter pl miss s3 nr nu nt F bm lo vt hi lo2 => ?_⟩
    have sB := swh.trans s3
    have hb3 := hb.same sB
    have hh3 := hh.same s3
    have br := swh.free nr
    have bu : isO = false → HB u = none := fun e => swh.free (nu e)
    have llr := bm.len
    have lls := bm.len2
    have lr : LR p l rule shorter := ⟨pok, hRl, by (clear br hL hi hl hp hp1 hp2 hu hx kt llr lls lo2 nh nr nt nw v0 v1 vt; omega), by (clear br hL hi hl hp hp1 hp2 hu hx kt lls lo2 nh nr nt nw v0 v1 vt; omega), by (clear br hL hi hl hp hp1 hp2 hu hx kt llr lo2 nh nr nt nw v0 v1 vt; omega)⟩
    refine ⟨fun σ' H' => σ' = [some (.ref a), some (.int p), some (.ref wa), some (.ref b), some (.ref hd), some (.ref y), x6, x7] ∧ Same HB H' ∧ Fnd CO CA H' y r u t isO rule other shorter pl, ?_, ?_⟩
    · refine F.isi T rfl (fun _ => T.oA) (fun _ => T.nA) ?_
      refine ⟨true, rfl, iteF ?_⟩
      refine F.isiO T rfl ?_
      refine F.isiN T rfl ?_
      refine ⟨rfl, _, rfl, iteFd (bl_ne isO) ?_⟩
      exact ⟨_, rfl, _, rfl, hd, b, l, l, rfl, rfl, hh3.sq, hb3.sq, _, rfl, iteNd rfl ⟨rfl, sB, F⟩⟩
    clear F sB hh3 hb3 s3 swh nr t1 sw hh nh
    rintro σ' H3' ⟨rfl, sB, F⟩
    refine ⟨fun σ' H' => σ' = [some (.ref a), some (.int p), some (.ref wa), some (.ref b), some (.ref hd), some (.ref y), x6, x7] ∧ Same HB H' ∧ Fnd CO CA H' y r u t isO rule other shorter pl, ?_, ?_⟩
    · refine F.isi T rfl (fun _ => T.oL) (fun _ => T.nL) ?_
      refine ⟨false, rfl, iteF ?_⟩
      refine F.right rfl rfl rfl (hb.same sB) lr lo2 fun H4 s4 => ?_
      refine ⟨_, rfl, iteNe vt ?_⟩
      refine (F.same s4).shows rfl rfl rfl ((hb.same sB).same s4) lr lo2 fun H5 s5 => ?_
      exact ⟨_, _, rfl, rfl, _, rfl, iteXe vt ⟨rfl, (sB.trans s4).trans s5, (F.same s4).same s5⟩⟩
    clear F sB
    rintro σ' H5 ⟨rfl, sB5, F5⟩
    have hb5 := hb.same sB5
    refine ⟨fun σ' H' => σ' = [some (.ref a), some (.int p), some (.ref wa), some (.ref b), some (.ref hd), some (.ref y), some (.int rule.length), x7] ∧ Same HB H' ∧ Fnd CO CA H' y r u t isO rule other shorter pl, ?_, ?_⟩
    · refine ⟨_, rfl, _, rfl, p, b, l, rfl, hb5, h7, hRl, by (clear br hL hi hl hp hp1 hp2 hu hx kt llr lls lo2 nt nw v0 v1 vt; omega), fun y2 r2 t2 H6 rule2 shorter2 pl2 miss2 s6 _ _ _ an2 bm2 => ?_⟩
      obtain ⟨dx2, hy2⟩ := an2.ob
      refine ⟨y2, C, dx2, _, _, rfl, hy2, T.c.cl, T.c.r, flds3_r, r2, _, rfl, .inl an2.r.sq, ?_, sB5.trans s6, F5.same s6⟩
      rw [List.length_map, bm2.as_long hp bm]
      rfl
    clear F5 sB5 hb5
    rintro σ' H6 ⟨rfl, sB6, F6⟩
    have hb6 := hb.same sB6
    refine ⟨fun σ' H' => σ' = [some (.ref a), some (.int p), some (.ref wa), some (.ref b), some (.ref hd), some (.ref y), some (.int rule.length), x7] ∧ Same HB H' ∧ Fnd CO CA H' y r u t isO rule other shorter pl, ?_, ?_⟩
    · refine F6.isiO T rfl ?_
      refine ⟨_, rfl, _, _, rfl, rfl, .inl ⟨by decide, by decide⟩, _, rfl, b, _, rfl, .inl hb6.sq, _, _, rfl, rfl, rfl, _, rfl, iteNd (congrArg V.bl (by rw [List.length_map]; exact hi)) ⟨rfl, sB6, F6⟩⟩
    clear F6 sB6 hb6
    rintro σ' H6 ⟨rfl, sB6, F6⟩
    refine ⟨fun σ' H' => σ' = [some (.ref a), some (.int p), some (.ref wa), some (.ref b), some (.ref hd), some (.ref y), some (.int rule.length), x7] ∧ Same HB H' ∧ Fnd CO CA H' y r u t isO rule other shorter pl, ?_, ?_⟩
    · refine F6.long T rfl ?_
      exact ⟨_, rfl, rfl, _, rfl, iteNd rfl ⟨rfl, sB6, F6⟩⟩
    clear F6 sB6
    rintro σ' H6 ⟨rfl, sB6, F6⟩
    have hb6 := hb.same sB6
    refine ⟨fun σ' H' => ∃ x8, σ' = [some (.ref a), some (.int p), some (.ref wa), some (.ref b), some (.ref hd), some (.ref y), some (.int rule.length), x8] ∧ Same HB H' ∧ Fnd CO CA H' y r u t isO rule other shorter pl, ?_, ?_⟩
    rotate_left
    · clear F6 sB6 hb6
      rintro σ' Hv ⟨x8, rfl, svB, Fv⟩
      refine Fv.isiO T rfl ?_
      refine ⟨_, rfl, ?_⟩
      rcases Fv with ⟨e, anv⟩ | ⟨e, anv⟩
      · subst e
        obtain ⟨dx, hyv⟩ := anv.ob
        have nyr : y ≠ r := ne_of hyv anv.r (by intro z; cases z)
        refine iteT ?_
        refine ⟨_, rfl, y, CO, dx, _, _, rfl, hyv, T.cO.cl, T.cO.r, flds3_r, .inl ⟨rfl, _, anv.r.sq⟩, r, _, _, rfl, rfl, anv.r, (by rw [List.length_map]; exact small1000 (by (clear br hL hi hl hp hp1 hp2 hu hx hyv kt lls lo2 nt nw nyr v0 v1 vt; omega))), ?_⟩
        have svr := sput (o := .lst (rule.map V.int ++ [.int 0])) svB br
        have anr : Ans3 CO (upd Hv r (.lst (rule.map V.int ++ [.int 0]))) y r t (rule ++ [0]) shorter pl := ⟨⟨dx, by rw [upd_ne nyr]; exact hyv⟩, Ls.new (by rw [List.map_append]; rfl), by unfold Ls; rw [upd_ne anv.ne.symm]; exact anv.s, anv.ne⟩
        generalize upd Hv r (.lst (rule.map V.int ++ [.int 0])) = Hr at svr anr ⊢
        have la : (rule ++ [0]).length = rule.length + 1 := by rw [List.length_append]; rfl
        have Fr : Fnd CO CA Hr y r u t true (rule ++ [0]) other shorter pl := .inl ⟨rfl, anr⟩
        have lr2 : LR p l (rule ++ [0]) shorter := ⟨pok, hRl, by (clear br hL hi hl hp hp1 hp2 hu hx hyv kt la llr lls lo2 nt nw nyr v0 v1 vt; omega), by (clear br hL hi hl hp hp1 hp2 hu hx hyv kt lls lo2 nt nw nyr v0 v1 vt; omega), by (clear br hL hi hl hp hp1 hp2 hu hx hyv kt la llr lo2 nt nw nyr v0 v1 vt; omega)⟩
        have hbr := hb.same svr
        refine Fr.shows rfl rfl rfl hbr lr2 lo2 fun Ha sa => ?_
        refine (Fr.same sa).right rfl rfl rfl (hbr.same sa) lr2 lo2 fun Hb sb => ?_
        exact ⟨rfl, _, rfl, iteNd rfl ⟨_, _, _, _, _, rfl, (svr.trans sa).trans sb⟩⟩
      · subst e
        have bu := bu rfl
        obtain ⟨dx, hyv⟩ := anv.ob
        have nyu : y ≠ u := ne_of hyv anv.t (by intro z; cases z)
        have hpos : 0 < rule.length := by
          have := of_decide_eq_false hi.symm
          (clear br bu hL hi hl hll hp hp1 hp2 hu hx hyv kt lls lo2 nt nw nyu v0 v1 vt; omega)
        have lo := lo rfl
        refine iteF ?_
        refine ⟨_, rfl, y, CA, dx, _, _, rfl, hyv, T.cN.cl, T.cN.r, flds4_r, r, _, _, _, rfl, rfl, anv.r.sq, atI_int (k := 0) rfl hpos, ?_⟩
        refine ⟨_, rfl, y, CA, dx, _, _, rfl, hyv, T.cN.cl, T.cN.t, flds4_t, u, _, _, 0, rfl, rfl, anv.t, ixN_nat rfl (by rw [List.length_map]; (clear br bu hL hi hl hll hp hp1 hp2 hu hx hyv kt llr lls nt nw nyu v0 v1 vt; omega)), ?_⟩
        rw [map_set]
        have svr := sput (o := .lst ((other.set 0 (gt rule 0)).map V.int)) svB bu
        have anr : Ans4 CA (upd Hv u (.lst ((other.set 0 (gt rule 0)).map V.int))) y r u t rule (other.set 0 (gt rule 0)) shorter pl :=
          ⟨⟨dx, by rw [upd_ne nyu]; exact hyv⟩, by unfold Ls; rw [upd_ne anv.n1]; exact anv.r, Ls.new rfl, by unfold Ls; rw [upd_ne anv.n3.symm]; exact anv.s, anv.n1, anv.n2, anv.n3⟩
        have lo1 : (other.set 0 (gt rule 0)).length = other.length := List.length_set
        generalize other.set 0 (gt rule 0) = other1 at svr anr lo1 ⊢
        generalize upd Hv u (.lst (other1.map V.int)) = Hr at svr anr ⊢
        obtain ⟨dx3, hyr⟩ := anr.ob
        refine ⟨_, rfl, y, CA, dx3, _, _, rfl, hyr, T.cN.cl, T.cN.r, flds4_r, _, rfl, r, _, _, _, rfl, rfl, anr.r.sq, atI_last hpos, ?_⟩
        refine ⟨_, rfl, y, CA, dx3, _, _, rfl, hyr, T.cN.cl, T.cN.t, flds4_t, _, rfl, u, _, _, _, rfl, rfl, anr.t, ixN_last (by rw [List.length_map]; (clear br bu hL hi hl hll hp hp1 hp2 hu hx hyr hyv kt llr lls nt nw nyu v0 v1 vt; omega)), ?_⟩
        rw [map_set]
        have svs := sput (o := .lst ((other1.set ((other1.map V.int).length - 1) (gt rule (rule.length - 1))).map V.int)) svr bu
        have ans : Ans4 CA (upd Hr u (.lst ((other1.set ((other1.map V.int).length - 1) (gt rule (rule.length - 1))).map V.int))) y r u t rule (other1.set ((other1.map V.int).length - 1) (gt rule (rule.length - 1))) shorter pl :=
          ⟨⟨dx3, by rw [upd_ne nyu]; exact hyr⟩, by unfold Ls; rw [upd_ne anv.n1]; exact anr.r, Ls.new rfl, by unfold Ls; rw [upd_ne anv.n3.symm]; exact anr.s, anv.n1, anv.n2, anv.n3⟩
        have lo2 : (other1.set ((other1.map V.int).length - 1) (gt rule (rule.length - 1))).length = other1.length := List.length_set
        generalize other1.set ((other1.map V.int).length - 1) (gt rule (rule.length - 1)) = other2 at svs ans lo2 ⊢
        generalize upd Hr u (.lst (other2.map V.int)) = Hs at svs ans ⊢
        have Fr : Fnd CO CA Hs y r u t false rule other2 shorter pl := .inr ⟨rfl, ans⟩
        have hbs := hb.same svs
        have lo3 : other2.length ≤ 100 := by (clear br bu hL hi hl hll hp hp1 hp2 hu hx hyr hyv kt llr lls nt nw nyu v0 v1 vt; omega)
        refine Fr.shows rfl rfl rfl hbs lr lo3 fun Ha sa => ?_
        refine (Fr.same sa).right rfl rfl rfl (hbs.same sa) lr lo3 fun Hb sb => ?_
        exact ⟨rfl, _, rfl, iteNd rfl ⟨_, _, _, _, _, rfl, (svs.trans sa).trans sb⟩⟩
    refine ⟨_, rfl, (by show 1 ≤ sizeLine; decide), fun z1 mz1 => ?_⟩
    have g2 := same_new mz1 (.lst [.int 0])
    refine ⟨b, z1, _, _, rfl, rfl, hb6.same g2, upd_same, (by rw [List.length_map]; exact small (by show l.length + 1 ≤ 10000; (clear br hL hi hl hp hp1 hp2 hu hx kt llr lls lo2 mz1 nt nw v0 v1 vt; omega))), fun c2 m2 => ?_⟩
    have g3 := g2.trans (same_new m2 (.lst (l.map V.int ++ [.int 0])))
    have e2 : Ls (upd (upd H6 z1 (.lst [.int 0])) c2 (.lst (l.map V.int ++ [.int 0]))) c2 (l ++ [0]) := Ls.new (by rw [List.map_append]; rfl)
    generalize upd (upd H6 z1 (.lst [.int 0])) c2 (.lst (l.map V.int ++ [.int 0])) = H7 at g3 e2 ⊢
    clear g2 mz1 m2
    refine ⟨_, rfl, (by show 1 ≤ sizeLine; decide), fun z2 mz2 => ?_⟩
    have g4 := same_new mz2 (.lst [.int 1])
    refine ⟨b, z2, _, _, rfl, rfl, (hb6.same g3).same g4, upd_same, (by rw [List.length_map]; exact small (by show l.length + 1 ≤ 10000; (clear br hL hi hl hp hp1 hp2 hu hx kt llr lls lo2 mz2 nt nw v0 v1 vt; omega))), fun c4 m4 => ?_⟩
    have g5 := g4.trans (same_new m4 (.lst (l.map V.int ++ [.int 1])))
    have g6 := g3.trans g5
    have e2 := e2.same g5
    have e4 : Ls (upd (upd H7 z2 (.lst [.int 1])) c4 (.lst (l.map V.int ++ [.int 1]))) c4 (l ++ [1]) := Ls.new (by rw [List.map_append]; rfl)
    generalize upd (upd H7 z2 (.lst [.int 1])) c4 (.lst (l.map V.int ++ [.int 1])) = H8 at g6 e2 e4 ⊢
    clear g4 g5 g3 mz2 m4
    refine ⟨_, rfl, _, rfl, _, rfl, b, _, rfl, (hb6.same g6).sq, fun c3 m3 => ?_⟩
    rw [cut_last]
    have g7 := same_new m3 (.lst ((l.take (l.length - 1)).map V.int))
    have g8 := g6.trans g7
    have e2 := e2.same g7
    have e4 := e4.same g7
    have e3 : Ls (upd H8 c3 (.lst ((l.take (l.length - 1)).map V.int))) c3 (l.take (l.length - 1)) := Ls.new rfl
    generalize upd H8 c3 (.lst ((l.take (l.length - 1)).map V.int)) = H9 at g8 e2 e3 e4 ⊢
    clear g7 g6 m3
    refine ⟨(by show 3 ≤ sizeLine; decide), fun tu mt => ?_⟩
    have g9 := same_new mt (.tup [.ref c2, .ref c4, .ref c3])
    have u7 := g8.trans g9
    have e2 := e2.same g9
    have e3 := e3.same g9
    have e4 := e4.same g9
    have et : (upd H9 tu (.tup [.ref c2, .ref c4, .ref c3])) tu = some (.tup [.ref c2, .ref c4, .ref c3]) := upd_same
    generalize upd H9 tu (.tup [.ref c2, .ref c4, .ref c3]) = HT at u7 e2 e3 e4 et ⊢
    clear g9 g8 mt
    have hY : ∀ (i : Nat) (x : V), [V.ref c2, V.ref c4, V.ref c3][i]? = some x → ∃ (b : Addr) (l : List Int), x = .ref b ∧ Ls HT b l ∧ Rests p l ∧ l.length ≤ 64 := fun i x hx => by
      match i, hx with
      | 0, hx => exact ⟨c2, _, (Option.some.inj hx).symm, e2, hRl.app (.one ⟨by (clear br et hL hi hl hll hp hp1 hp2 hu hx kt llr lls lo2 nt nw v0 v1 vt; omega), by (clear br et hL hi hl hll hp1 hp2 hu hx kt llr lls lo2 nt nw v0 v1 vt; omega)⟩), by rw [List.length_append]; show l.length + 1 ≤ 64; (clear br et hL hi hl hp hp1 hp2 hu hx kt llr lls lo2 nt nw v0 v1 vt; omega)⟩
      | 1, hx => exact ⟨c4, _, (Option.some.inj hx).symm, e4, hRl.app (.one ⟨by (clear br et hL hi hl hll hp hp1 hp2 hu hx kt llr lls lo2 nt nw v0 v1 vt; omega), by (clear br et hL hi hl hll hp hp2 hu hx kt llr lls lo2 nt nw v0 v1 vt; omega)⟩), by rw [List.length_append]; show l.length + 1 ≤ 64; (clear br et hL hi hl hp hp1 hp2 hu hx kt llr lls lo2 nt nw v0 v1 vt; omega)⟩
      | 2, hx => exact ⟨c3, _, (Option.some.inj hx).symm, e3, hRl.take _, by rw [List.length_take]; (clear br et hL hi hl hp hp1 hp2 hu hx kt llr lls lo2 nt nw v0 v1 vt; omega)⟩
    clear e2 e3 e4
    refine ⟨tu, rfl, ⟨_, SqT.of et⟩, for_tup (xs := [V.ref c2, V.ref c4, V.ref c3]) (fun _ σ Hv => ∃ x8, σ = [some (.ref a), some (.int p), some (.ref wa), some (.ref b), some (.ref hd), some (.ref y), some (.int rule.length), x8] ∧ Same HT Hv) ⟨x7, rfl, Same.refl _⟩ (fun j σ Hv _ h => ?_) ?_ ?_⟩
    · obtain ⟨_, _, sv⟩ := h
      exact SqT.of (sv _ _ et)
    · rintro j z σ Hv hz ⟨x8, rfl, sv⟩
      obtain ⟨c, m', rfl, hc, hRm, hlm⟩ := hY j z hz
      have sv5 := u7.trans sv
      have lr' : LR p m' rule shorter := ⟨pok, hRm, by (clear br et hL hi hl hll hp hp1 hp2 hu hx hz kt llr lls lo2 nt nw v0 v1 vt; omega), by (clear br et hL hi hl hlm hp hp1 hp2 hu hx hz kt lls lo2 nt nw v0 v1 vt; omega), by (clear br et hL hi hl hlm hp hp1 hp2 hu hx hz kt llr lo2 nt nw v0 v1 vt; omega)⟩
      refine (F6.same sv5).shows rfl rfl rfl (hc.same sv) lr' lo2 fun Ha sa => ?_
      refine ((F6.same sv5).same sa).right rfl rfl rfl ((hc.same sv).same sa) lr' lo2 fun Hb sb => ?_
      exact ⟨rfl, _, rfl, iteNd rfl ⟨_, rfl, (sv.trans sa).trans sb⟩⟩
    rintro σ Hv ⟨x8, rfl, sv⟩
    exact ⟨_, rfl, (sB6.trans u7).trans sv, (F6.same u7).same sv⟩
  · rintro σ Hw ⟨x3, x4, x5, x6, x7, rfl, sw⟩
    refine ⟨_, rfl, Nat.zero_le _, fun z nz => ?_⟩
    refine ⟨p, z, [], rfl, upd_same, h7, Rests.nil, by decide, fun y r u t H3 isO rule other shorter pl miss s3 nr nu nt F bm lo vt hi lo2 => ?_⟩
    have e := bm.none_
    rw [e] at hi
    have hi : isO = true := hi
    rcases F with ⟨_, an⟩ | ⟨e2, _⟩
    · obtain ⟨dx, hy⟩ := an.ob
      exact ⟨_, _, _, _, _, rfl, .own _, T.tO.of hy T.cO.cl, T.oO, q _⟩
    · rw [hi] at e2
      cases e2
end
end Rr

set_option Elab.async false
set_option linter.all false
set_option maxRecDepth 100000
set_option maxHeartbeats 4000000
namespace Rr
open PySem L2 RM
theorem def_mk {K : PySem.W.Frag} {h : Heap} {mg : Str → Option Value} (X : K.In h) (G : h.Ns mainGlobals mg) {x : Str} {st : Stmt} {ps : List Str} {f : Addr} {oc : Value} {od an : Option Addr} {osl : Array (Option Value)} {kV doc pm cdv ct : Value} (a : PySem.W.nsIn K mainGlobals x = some (some (.ref f)))
    (l : K.lookup f = some ⟨oc, od, .func (PySem.W.fnOf x x (defArgs st) (defBody st) (defScope st) .none kV doc pm an cdv ct), osl⟩) (c : PySem.W.codeIn K cdv x = true) (k : PySem.W.keepIn K (.ref f) = true)
    (hb : ∀ (kV doc pm : Value) (an : Option Addr) (cdv ct : Value) (us : List Value), us.length = ps.length → bindArgs (PySem.W.fnOf x x (defArgs st) (defBody st) (defScope st) .none kV doc pm an cdv ct) ⟨us, []⟩ = pure (ps.zip us)) :
    Def K mg x st ps f (PySem.W.fnOf x x (defArgs st) (defBody st) (defScope st) .none kV doc pm an cdv ct) :=
  ⟨fun_mk (st := st) l c k, (fun_mk (st := st) l c k).binds hb, PySem.W.mg_of X G a⟩
theorem ex1 {us : List Value} (h : us.length = 1) : ∃ a, us = [a] := by
  match us, h with
  | [a], _ => exact ⟨a, rfl⟩
theorem exS {us : List Value} {n : Nat} (h : us.length = n + 1) : ∃ a r, us = a :: r ∧ r.length = n := by
  match us, h with
  | a :: r, h => exact ⟨a, r, rfl, Nat.succ.inj h⟩
theorem ex2 {us : List Value} (h : us.length = 2) : ∃ a b, us = [a, b] := by
  obtain ⟨a, r, rfl, h2⟩ := exS h
  obtain ⟨b, rfl⟩ := ex1 h2
  exact ⟨a, b, rfl⟩
theorem ex3 {us : List Value} (h : us.length = 3) : ∃ a b c, us = [a, b, c] := by
  obtain ⟨a, r, rfl, h2⟩ := exS h
  obtain ⟨b, c, rfl⟩ := ex2 h2
  exact ⟨a, b, c, rfl⟩
theorem ex4 {us : List Value} (h : us.length = 4) : ∃ a b c d, us = [a, b, c, d] := by
  obtain ⟨a, r, rfl, h2⟩ := exS h
  obtain ⟨b, c, d, rfl⟩ := ex3 h2
  exact ⟨a, b, c, d, rfl⟩
theorem ex5 {us : List Value} (h : us.length = 5) : ∃ a b c d e, us = [a, b, c, d, e] := by
  obtain ⟨a, r, rfl, h2⟩ := exS h
  obtain ⟨b, c, d, e, rfl⟩ := ex4 h2
  exact ⟨a, b, c, d, e, rfl⟩
noncomputable def fdOf {K : PySem.W.Frag} {mg : Str → Option Value} {x : Str} {st : Stmt} {ps : List Str} {f : Addr} {fd : FuncData} (_ : Def K mg x st ps f fd) : FuncData := fd
noncomputable def fdM {K : PySem.W.Frag} {x q : Str} {st : Stmt} {f : Addr} {fd : FuncData} (_ : Fun K x q st f fd) : FuncData := fd

theorem all_mk {l : PySem.W.OpenLaw} {w : World} {K : PySem.W.Frag} {h : Heap} {mg : Str → Option Value} {fa f1 f2 f3 f4 f5 f6 f7 f8 f9 f10 f11 f12 f13 f14 f15 f16 f17 f18 f19 f20 f21 f22 f23 f24 f25 f26 f27 fiL fsL fiO fsO fiN fsN cA cL cO cN : Addr} (X : K.In h) (G : h.Ns mainGlobals mg) (hfa : mg "law" = some (.ref fa))
    {od1 an1 od2 an2 od3 an3 od4 an4 od5 an5 od6 an6 od7 an7 od8 an8 od9 an9 od10 an10 od11 an11 od12 an12 od13 an13 od14 an14 od15 an15 od16 an16 od17 an17 od18 an18 od19 an19 od20 an20 od21 an21 od22 an22 od23 an23 od24 an24 od25 an25 od26 an26 od27 an27 odiL aniL odsL ansL odiO aniO odsO ansO odiN aniN odsN ansN : Option Addr} {sl1 sl2 sl3 sl4 sl5 sl6 sl7 sl8 sl9 sl10 sl11 sl12 sl13 sl14 sl15 sl16 sl17 sl18 sl19 sl20 sl21 sl22 sl23 sl24 sl25 sl26 sl27 sliL slsL sliO slsO sliN slsN : Array (Option Value)} {oc1 kV1 dc1 pm1 cd1 ct1 oc2 kV2 dc2 pm2 cd2 ct2 oc3 kV3 dc3 pm3 cd3 ct3 oc4 kV4 dc4 pm4 cd4 ct4 oc5 kV5 dc5 pm5 cd5 ct5 oc6 kV6 dc6 pm6 cd6 ct6 oc7 kV7 dc7 pm7 cd7 ct7 oc8 kV8 dc8 pm8 cd8 ct8 oc9 kV9 dc9 pm9 cd9 ct9 oc10 kV10 dc10 pm10 cd10 ct10 oc11 kV11 dc11 pm11 cd11 ct11 oc12 kV12 dc12 pm12 cd12 ct12 oc13 kV13 dc13 pm13 cd13 ct13 oc14 kV14 dc14 pm14 cd14 ct14 oc15 kV15 dc15 pm15 cd15 ct15 oc16 kV16 dc16 pm16 cd16 ct16 oc17 kV17 dc17 pm17 cd17 ct17 oc18 kV18 dc18 pm18 cd18 ct18 oc19 kV19 dc19 pm19 cd19 ct19 oc20 kV20 dc20 pm20 cd20 ct20 oc21 kV21 dc21 pm21 cd21 ct21 oc22 kV22 dc22 pm22 cd22 ct22 oc23 kV23 dc23 pm23 cd23 ct23 oc24 kV24 dc24 pm24 cd24 ct24 oc25 kV25 dc25 pm25 cd25 ct25 oc26 kV26 dc26 pm26 cd26 ct26 oc27 kV27 dc27 pm27 cd27 ct27 ociL kViL dciL pmiL cdiL ctiL ocsL kVsL dcsL pmsL cdsL ctsL ociO kViO dciO pmiO cdiO ctiO ocsO kVsO dcsO pmsO cdsO ctsO ociN kViN dciN pmiN cdiN ctiN ocsN kVsN dcsN pmsN cdsN ctsN : Value} {t1 t2 : Tok}
    (a1 : PySem.W.nsIn K mainGlobals "is_whole" = some (some (.ref f1)))
    (l1 : K.lookup f1 = some ⟨oc1, od1, .func (PySem.W.fnOf "is_whole" "is_whole" (defArgs sWhole) (defBody sWhole) (defScope sWhole) .none kV1 dc1 pm1 an1 cd1 ct1), sl1⟩)
    (c1 : PySem.W.codeIn K cd1 "is_whole" = true)
    (k1 : PySem.W.keepIn K (.ref f1) = true)
    (a2 : PySem.W.nsIn K mainGlobals "is_prime" = some (some (.ref f2)))
    (l2 : K.lookup f2 = some ⟨oc2, od2, .func (PySem.W.fnOf "is_prime" "is_prime" (defArgs sPrime) (defBody sPrime) (defScope sPrime) .none kV2 dc2 pm2 an2 cd2 ct2), sl2⟩)
    (c2 : PySem.W.codeIn K cd2 "is_prime" = true)
    (k2 : PySem.W.keepIn K (.ref f2) = true)
    (a3 : PySem.W.nsIn K mainGlobals "is_rest" = some (some (.ref f3)))
    (l3 : K.lookup f3 = some ⟨oc3, od3, .func (PySem.W.fnOf "is_rest" "is_rest" (defArgs sRest) (defBody sRest) (defScope sRest) .none kV3 dc3 pm3 an3 cd3 ct3), sl3⟩)
    (c3 : PySem.W.codeIn K cd3 "is_rest" = true)
    (k3 : PySem.W.keepIn K (.ref f3) = true)
    (a4 : PySem.W.nsIn K mainGlobals "are_rests" = some (some (.ref f4)))
    (l4 : K.lookup f4 = some ⟨oc4, od4, .func (PySem.W.fnOf "are_rests" "are_rests" (defArgs sAre) (defBody sAre) (defScope sAre) .none kV4 dc4 pm4 an4 cd4 ct4), sl4⟩)
    (c4 : PySem.W.codeIn K cd4 "are_rests" = true)
    (k4 : PySem.W.keepIn K (.ref f4) = true)
    (a5 : PySem.W.nsIn K mainGlobals "need_prime" = some (some (.ref f5)))
    (l5 : K.lookup f5 = some ⟨oc5, od5, .func (PySem.W.fnOf "need_prime" "need_prime" (defArgs sNeedPrime) (defBody sNeedPrime) (defScope sNeedPrime) .none kV5 dc5 pm5 an5 cd5 ct5), sl5⟩)
    (c5 : PySem.W.codeIn K cd5 "need_prime" = true)
    (k5 : PySem.W.keepIn K (.ref f5) = true)
    (a6 : PySem.W.nsIn K mainGlobals "need_rule" = some (some (.ref f6)))
    (l6 : K.lookup f6 = some ⟨oc6, od6, .func (PySem.W.fnOf "need_rule" "need_rule" (defArgs sNeedRule) (defBody sNeedRule) (defScope sNeedRule) .none kV6 dc6 pm6 an6 cd6 ct6), sl6⟩)
    (c6 : PySem.W.codeIn K cd6 "need_rule" = true)
    (k6 : PySem.W.keepIn K (.ref f6) = true)
    (a7 : PySem.W.nsIn K mainGlobals "need_row" = some (some (.ref f7)))
    (l7 : K.lookup f7 = some ⟨oc7, od7, .func (PySem.W.fnOf "need_row" "need_row" (defArgs sNeedRow) (defBody sNeedRow) (defScope sNeedRow) .none kV7 dc7 pm7 an7 cd7 ct7), sl7⟩)
    (c7 : PySem.W.codeIn K cd7 "need_row" = true)
    (k7 : PySem.W.keepIn K (.ref f7) = true)
    (a8 : PySem.W.nsIn K mainGlobals "inverse" = some (some (.ref f8)))
    (l8 : K.lookup f8 = some ⟨oc8, od8, .func (PySem.W.fnOf "inverse" "inverse" (defArgs sInv) (defBody sInv) (defScope sInv) .none kV8 dc8 pm8 an8 cd8 ct8), sl8⟩)
    (c8 : PySem.W.codeIn K cd8 "inverse" = true)
    (k8 : PySem.W.keepIn K (.ref f8) = true)
    (a9 : PySem.W.nsIn K mainGlobals "makes" = some (some (.ref f9)))
    (l9 : K.lookup f9 = some ⟨oc9, od9, .func (PySem.W.fnOf "makes" "makes" (defArgs sMakes) (defBody sMakes) (defScope sMakes) .none kV9 dc9 pm9 an9 cd9 ct9), sl9⟩)
    (c9 : PySem.W.codeIn K cd9 "makes" = true)
    (k9 : PySem.W.keepIn K (.ref f9) = true)
    (a10 : PySem.W.nsIn K mainGlobals "due" = some (some (.ref f10)))
    (l10 : K.lookup f10 = some ⟨oc10, od10, .func (PySem.W.fnOf "due" "due" (defArgs sDue) (defBody sDue) (defScope sDue) .none kV10 dc10 pm10 an10 cd10 ct10), sl10⟩)
    (c10 : PySem.W.codeIn K cd10 "due" = true)
    (k10 : PySem.W.keepIn K (.ref f10) = true)
    (a11 : PySem.W.nsIn K mainGlobals "is_least" = some (some (.ref f11)))
    (l11 : K.lookup f11 = some ⟨oc11, od11, .func (PySem.W.fnOf "is_least" "is_least" (defArgs sIsLeast) (defBody sIsLeast) (defScope sIsLeast) .none kV11 dc11 pm11 an11 cd11 ct11), sl11⟩)
    (c11 : PySem.W.codeIn K cd11 "is_least" = true)
    (k11 : PySem.W.keepIn K (.ref f11) = true)
    (a12 : PySem.W.nsIn K mainGlobals "fails_first_at" = some (some (.ref f12)))
    (l12 : K.lookup f12 = some ⟨oc12, od12, .func (PySem.W.fnOf "fails_first_at" "fails_first_at" (defArgs sFails) (defBody sFails) (defScope sFails) .none kV12 dc12 pm12 an12 cd12 ct12), sl12⟩)
    (c12 : PySem.W.codeIn K cd12 "fails_first_at" = true)
    (k12 : PySem.W.keepIn K (.ref f12) = true)
    (a13 : PySem.W.nsIn K mainGlobals "least" = some (some (.ref f13)))
    (l13 : K.lookup f13 = some ⟨oc13, od13, .func (PySem.W.fnOf "least" "least" (defArgs sLeast) (defBody sLeast) (defScope sLeast) .none kV13 dc13 pm13 an13 cd13 ct13), sl13⟩)
    (c13 : PySem.W.codeIn K cd13 "least" = true)
    (k13 : PySem.W.keepIn K (.ref f13) = true)
    (a14 : PySem.W.nsIn K mainGlobals "mixed" = some (some (.ref f14)))
    (l14 : K.lookup f14 = some ⟨oc14, od14, .func (PySem.W.fnOf "mixed" "mixed" (defArgs sMixed) (defBody sMixed) (defScope sMixed) .none kV14 dc14 pm14 an14 cd14 ct14), sl14⟩)
    (c14 : PySem.W.codeIn K cd14 "mixed" = true)
    (k14 : PySem.W.keepIn K (.ref f14) = true)
    (a15 : PySem.W.nsIn K mainGlobals "_law_cell_at" = some (some (.ref f15)))
    (l15 : K.lookup f15 = some ⟨oc15, od15, .func (PySem.W.fnOf "_law_cell_at" "_law_cell_at" (defArgs lCell) (defBody lCell) (defScope lCell) .none kV15 dc15 pm15 an15 cd15 ct15), sl15⟩)
    (c15 : PySem.W.codeIn K cd15 "_law_cell_at" = true)
    (k15 : PySem.W.keepIn K (.ref f15) = true)
    (a16 : PySem.W.nsIn K mainGlobals "_law_draw" = some (some (.ref f16)))
    (l16 : K.lookup f16 = some ⟨oc16, od16, .func (PySem.W.fnOf "_law_draw" "_law_draw" (defArgs lDraw) (defBody lDraw) (defScope lDraw) .none kV16 dc16 pm16 an16 cd16 ct16), sl16⟩)
    (c16 : PySem.W.codeIn K cd16 "_law_draw" = true)
    (k16 : PySem.W.keepIn K (.ref f16) = true)
    (a17 : PySem.W.nsIn K mainGlobals "_law_prime" = some (some (.ref f17)))
    (l17 : K.lookup f17 = some ⟨oc17, od17, .func (PySem.W.fnOf "_law_prime" "_law_prime" (defArgs lPrime) (defBody lPrime) (defScope lPrime) .none kV17 dc17 pm17 an17 cd17 ct17), sl17⟩)
    (c17 : PySem.W.codeIn K cd17 "_law_prime" = true)
    (k17 : PySem.W.keepIn K (.ref f17) = true)
    (a18 : PySem.W.nsIn K mainGlobals "_law_rests" = some (some (.ref f18)))
    (l18 : K.lookup f18 = some ⟨oc18, od18, .func (PySem.W.fnOf "_law_rests" "_law_rests" (defArgs lRests) (defBody lRests) (defScope lRests) .none kV18 dc18 pm18 an18 cd18 ct18), sl18⟩)
    (c18 : PySem.W.codeIn K cd18 "_law_rests" = true)
    (k18 : PySem.W.keepIn K (.ref f18) = true)
    (a19 : PySem.W.nsIn K mainGlobals "_law_row" = some (some (.ref f19)))
    (l19 : K.lookup f19 = some ⟨oc19, od19, .func (PySem.W.fnOf "_law_row" "_law_row" (defArgs lRow) (defBody lRow) (defScope lRow) .none kV19 dc19 pm19 an19 cd19 ct19), sl19⟩)
    (c19 : PySem.W.codeIn K cd19 "_law_row" = true)
    (k19 : PySem.W.keepIn K (.ref f19) = true)
    (a20 : PySem.W.nsIn K mainGlobals "_law_due" = some (some (.ref f20)))
    (l20 : K.lookup f20 = some ⟨oc20, od20, .func (PySem.W.fnOf "_law_due" "_law_due" (defArgs lDue) (defBody lDue) (defScope lDue) .none kV20 dc20 pm20 an20 cd20 ct20), sl20⟩)
    (c20 : PySem.W.codeIn K cd20 "_law_due" = true)
    (k20 : PySem.W.keepIn K (.ref f20) = true)
    (a21 : PySem.W.nsIn K mainGlobals "_law_made" = some (some (.ref f21)))
    (l21 : K.lookup f21 = some ⟨oc21, od21, .func (PySem.W.fnOf "_law_made" "_law_made" (defArgs lMade) (defBody lMade) (defScope lMade) .none kV21 dc21 pm21 an21 cd21 ct21), sl21⟩)
    (c21 : PySem.W.codeIn K cd21 "_law_made" = true)
    (k21 : PySem.W.keepIn K (.ref f21) = true)
    (a22 : PySem.W.nsIn K mainGlobals "_law_rested" = some (some (.ref f22)))
    (l22 : K.lookup f22 = some ⟨oc22, od22, .func (PySem.W.fnOf "_law_rested" "_law_rested" (defArgs lRested) (defBody lRested) (defScope lRested) .none kV22 dc22 pm22 an22 cd22 ct22), sl22⟩)
    (c22 : PySem.W.codeIn K cd22 "_law_rested" = true)
    (k22 : PySem.W.keepIn K (.ref f22) = true)
    (a23 : PySem.W.nsIn K mainGlobals "_law_least" = some (some (.ref f23)))
    (l23 : K.lookup f23 = some ⟨oc23, od23, .func (PySem.W.fnOf "_law_least" "_law_least" (defArgs lLeast) (defBody lLeast) (defScope lLeast) .none kV23 dc23 pm23 an23 cd23 ct23), sl23⟩)
    (c23 : PySem.W.codeIn K cd23 "_law_least" = true)
    (k23 : PySem.W.keepIn K (.ref f23) = true)
    (a24 : PySem.W.nsIn K mainGlobals "is_sole" = some (some (.ref f24)))
    (l24 : K.lookup f24 = some ⟨oc24, od24, .func (PySem.W.fnOf "is_sole" "is_sole" (defArgs sSole) (defBody sSole) (defScope sSole) .none kV24 dc24 pm24 an24 cd24 ct24), sl24⟩)
    (c24 : PySem.W.codeIn K cd24 "is_sole" = true)
    (k24 : PySem.W.keepIn K (.ref f24) = true)
    (a25 : PySem.W.nsIn K mainGlobals "unlike" = some (some (.ref f25)))
    (l25 : K.lookup f25 = some ⟨oc25, od25, .func (PySem.W.fnOf "unlike" "unlike" (defArgs sUnlike) (defBody sUnlike) (defScope sUnlike) .none kV25 dc25 pm25 an25 cd25 ct25), sl25⟩)
    (c25 : PySem.W.codeIn K cd25 "unlike" = true)
    (k25 : PySem.W.keepIn K (.ref f25) = true)
    (a26 : PySem.W.nsIn K mainGlobals "_law_right" = some (some (.ref f26)))
    (l26 : K.lookup f26 = some ⟨oc26, od26, .func (PySem.W.fnOf "_law_right" "_law_right" (defArgs lRight) (defBody lRight) (defScope lRight) .none kV26 dc26 pm26 an26 cd26 ct26), sl26⟩)
    (c26 : PySem.W.codeIn K cd26 "_law_right" = true)
    (k26 : PySem.W.keepIn K (.ref f26) = true)
    (a27 : PySem.W.nsIn K mainGlobals "law" = some (some (.ref f27)))
    (l27 : K.lookup f27 = some ⟨oc27, od27, .func (PySem.W.fnOf "law" "law" (defArgs lLaw) (defBody lLaw) (defScope lLaw) .none kV27 dc27 pm27 an27 cd27 ct27), sl27⟩)
    (c27 : PySem.W.codeIn K cd27 "law" = true)
    (k27 : PySem.W.keepIn K (.ref f27) = true)
    (mcA : PySem.W.nsIn K mainGlobals "Answer" = some (some (.ref cA)))
    (mcL : PySem.W.nsIn K mainGlobals "Least" = some (some (.ref cL)))
    (mcO : PySem.W.nsIn K mainGlobals "Only" = some (some (.ref cO)))
    (mcN : PySem.W.nsIn K mainGlobals "Another" = some (some (.ref cN)))
    (aiL : PySem.W.findIn K (.ref cL) "__init__" = some (some (.ref fiL)))
    (iiL : PySem.W.isFn K (.ref fiL) = true)
    (liL : K.lookup fiL = some ⟨ociL, odiL, .func (PySem.W.fnOf "__init__" "Least.__init__" (defArgs sInitL) (defBody sInitL) (defScope sInitL) .none kViL dciL pmiL aniL cdiL ctiL), sliL⟩)
    (ciL : PySem.W.codeIn K cdiL "Least.__init__" = true)
    (kiL : PySem.W.keepIn K (.ref fiL) = true)
    (asL : PySem.W.findIn K (.ref cL) "shows" = some (some (.ref fsL)))
    (isL : PySem.W.isFn K (.ref fsL) = true)
    (lsL : K.lookup fsL = some ⟨ocsL, odsL, .func (PySem.W.fnOf "shows" "Least.shows" (defArgs sShowsL) (defBody sShowsL) (defScope sShowsL) .none kVsL dcsL pmsL ansL cdsL ctsL), slsL⟩)
    (csL : PySem.W.codeIn K cdsL "Least.shows" = true)
    (ksL : PySem.W.keepIn K (.ref fsL) = true)
    (aiO : PySem.W.findIn K (.ref cO) "__init__" = some (some (.ref fiO)))
    (iiO : PySem.W.isFn K (.ref fiO) = true)
    (liO : K.lookup fiO = some ⟨ociO, odiO, .func (PySem.W.fnOf "__init__" "Only.__init__" (defArgs sInitO) (defBody sInitO) (defScope sInitO) .none kViO dciO pmiO aniO cdiO ctiO), sliO⟩)
    (ciO : PySem.W.codeIn K cdiO "Only.__init__" = true)
    (kiO : PySem.W.keepIn K (.ref fiO) = true)
    (asO : PySem.W.findIn K (.ref cO) "shows" = some (some (.ref fsO)))
    (isO : PySem.W.isFn K (.ref fsO) = true)
    (lsO : K.lookup fsO = some ⟨ocsO, odsO, .func (PySem.W.fnOf "shows" "Only.shows" (defArgs sShowsO) (defBody sShowsO) (defScope sShowsO) .none kVsO dcsO pmsO ansO cdsO ctsO), slsO⟩)
    (csO : PySem.W.codeIn K cdsO "Only.shows" = true)
    (ksO : PySem.W.keepIn K (.ref fsO) = true)
    (aiN : PySem.W.findIn K (.ref cN) "__init__" = some (some (.ref fiN)))
    (iiN : PySem.W.isFn K (.ref fiN) = true)
    (liN : K.lookup fiN = some ⟨ociN, odiN, .func (PySem.W.fnOf "__init__" "Another.__init__" (defArgs sInitN) (defBody sInitN) (defScope sInitN) .none kViN dciN pmiN aniN cdiN ctiN), sliN⟩)
    (ciN : PySem.W.codeIn K cdiN "Another.__init__" = true)
    (kiN : PySem.W.keepIn K (.ref fiN) = true)
    (asN : PySem.W.findIn K (.ref cN) "shows" = some (some (.ref fsN)))
    (isN : PySem.W.isFn K (.ref fsN) = true)
    (lsN : K.lookup fsN = some ⟨ocsN, odsN, .func (PySem.W.fnOf "shows" "Another.shows" (defArgs sShowsN) (defBody sShowsN) (defScope sShowsN) .none kVsN dcsN pmsN ansN cdsN ctsN), slsN⟩)
    (csN : PySem.W.codeIn K cdsN "Another.shows" = true)
    (ksN : PySem.W.keepIn K (.ref fsN) = true)
    (pgcL : PySem.W.plainGet K cL Str.empty = true)
    (hdcL : PySem.W.hasDictIn K cL = true)
    (pocL : PySem.W.plainOver K cL = true)
    (sacL : PySem.W.findIn K (.ref cL) "__setattr__" = some (some (.builtin "object.__setattr__")))
    (mkcL : PySem.W.makesIn K cL = true)
    (kccL : PySem.W.keepIn K (.ref cL) = true)
    (n0cL : PySem.W.findIn K (.ref cL) "rule" = some none)
    (n1cL : PySem.W.findIn K (.ref cL) "shorter" = some none)
    (n2cL : PySem.W.findIn K (.ref cL) "place" = some none)
    (pgcO : PySem.W.plainGet K cO Str.empty = true)
    (hdcO : PySem.W.hasDictIn K cO = true)
    (pocO : PySem.W.plainOver K cO = true)
    (sacO : PySem.W.findIn K (.ref cO) "__setattr__" = some (some (.builtin "object.__setattr__")))
    (mkcO : PySem.W.makesIn K cO = true)
    (kccO : PySem.W.keepIn K (.ref cO) = true)
    (n0cO : PySem.W.findIn K (.ref cO) "rule" = some none)
    (n1cO : PySem.W.findIn K (.ref cO) "shorter" = some none)
    (n2cO : PySem.W.findIn K (.ref cO) "place" = some none)
    (pgcN : PySem.W.plainGet K cN Str.empty = true)
    (hdcN : PySem.W.hasDictIn K cN = true)
    (pocN : PySem.W.plainOver K cN = true)
    (sacN : PySem.W.findIn K (.ref cN) "__setattr__" = some (some (.builtin "object.__setattr__")))
    (mkcN : PySem.W.makesIn K cN = true)
    (kccN : PySem.W.keepIn K (.ref cN) = true)
    (n0cN : PySem.W.findIn K (.ref cN) "one" = some none)
    (n1cN : PySem.W.findIn K (.ref cN) "other" = some none)
    (n2cN : PySem.W.findIn K (.ref cN) "shorter" = some none)
    (n3cN : PySem.W.findIn K (.ref cN) "place" = some none)
    (hacO : PySem.W.findIn K (.ref cO) "__class__" = some (some (.builtin "object.__class__")))
    (hmcO : PySem.W.mroIn K cO (.type "object") = some true)
    (qcOcA : PySem.W.kitOne K (.ref cO) (.ref cA) = some true)
    (qcOcL : PySem.W.kitOne K (.ref cO) (.ref cL) = some false)
    (qcOcO : PySem.W.kitOne K (.ref cO) (.ref cO) = some true)
    (qcOcN : PySem.W.kitOne K (.ref cO) (.ref cN) = some false)
    (hacN : PySem.W.findIn K (.ref cN) "__class__" = some (some (.builtin "object.__class__")))
    (hmcN : PySem.W.mroIn K cN (.type "object") = some true)
    (qcNcA : PySem.W.kitOne K (.ref cN) (.ref cA) = some true)
    (qcNcL : PySem.W.kitOne K (.ref cN) (.ref cL) = some false)
    (qcNcO : PySem.W.kitOne K (.ref cN) (.ref cO) = some false)
    (qcNcN : PySem.W.kitOne K (.ref cN) (.ref cN) = some true)
    (hn : PySem.W.specialIn K (.builtin "object.__class__") "__get__" = some (some (.builtin "getset_descriptor.__get__")))
    (ht : PySem.W.takesIn K (.builtin "object.__class__") = some true)
    (z1 : PySem.W.nsIn K mainGlobals "isinstance" = some none)
    (z2 : PySem.W.nsIn K mainGlobals "int" = some none)
    (z3 : PySem.W.nsIn K mainGlobals "bool" = some none)
    (z4 : PySem.W.nsIn K mainGlobals "list" = some none)
    (z5 : PySem.W.nsIn K mainGlobals "len" = some none)
    (z6 : PySem.W.nsIn K mainGlobals "range" = some none)
    (z7 : PySem.W.nsIn K mainGlobals "sum" = some none)
    (z8 : PySem.W.nsIn K mainGlobals "zip" = some none)
    (z9 : PySem.W.nsIn K mainGlobals "reversed" = some none)
    (z10 : PySem.W.nsIn K mainGlobals "enumerate" = some none)
    (z11 : PySem.W.nsIn K mainGlobals "max" = some none)
    (z12 : PySem.W.nsIn K mainGlobals "min" = some none)
    (z13 : PySem.W.nsIn K mainGlobals "all" = some none)
    (z14 : PySem.W.nsIn K mainGlobals "any" = some none)
    (z15 : PySem.W.nsIn K mainGlobals "abs" = some none)
    (y1 : PySem.W.nsIn K mainGlobals "LOWEST_PRIME" = some (some (.int 2 t1)))
    (y2 : PySem.W.nsIn K mainGlobals "HIGHEST_PRIME" = some (some (.int 997 t2))) :
    ∃ fd : FuncData, (∀ (s : Shared) (v : Value), BindsTo s fd ⟨[v], []⟩ [("_law_script", v)]) ∧ ∀ base : Heap, K.In base → base.Ns mainGlobals mg → FnOk l.prog w K mg base CX0 10 fa fd ["_law_script"] (spLaw K) := by
  have e := hfa.symm.trans (PySem.W.mg_of X G a27)
  cases e
  have D1 := def_mk (st := sWhole) (ps := ["value"]) X G a1 l1 c1 k1 fun _ _ _ _ _ _ us hl => by obtain ⟨a0, rfl⟩ := ex1 hl; rfl
  have D2 := def_mk (st := sPrime) (ps := ["value"]) X G a2 l2 c2 k2 fun _ _ _ _ _ _ us hl => by obtain ⟨a0, rfl⟩ := ex1 hl; rfl
  have D3 := def_mk (st := sRest) (ps := ["prime", "value"]) X G a3 l3 c3 k3 fun _ _ _ _ _ _ us hl => by obtain ⟨a0, a1, rfl⟩ := ex2 hl; rfl
  have D4 := def_mk (st := sAre) (ps := ["prime", "value"]) X G a4 l4 c4 k4 fun _ _ _ _ _ _ us hl => by obtain ⟨a0, a1, rfl⟩ := ex2 hl; rfl
  have D5 := def_mk (st := sNeedPrime) (ps := ["prime"]) X G a5 l5 c5 k5 fun _ _ _ _ _ _ us hl => by obtain ⟨a0, rfl⟩ := ex1 hl; rfl
  have D6 := def_mk (st := sNeedRule) (ps := ["prime", "rule"]) X G a6 l6 c6 k6 fun _ _ _ _ _ _ us hl => by obtain ⟨a0, a1, rfl⟩ := ex2 hl; rfl
  have D7 := def_mk (st := sNeedRow) (ps := ["prime", "row"]) X G a7 l7 c7 k7 fun _ _ _ _ _ _ us hl => by obtain ⟨a0, a1, rfl⟩ := ex2 hl; rfl
  have D8 := def_mk (st := sInv) (ps := ["prime", "rest"]) X G a8 l8 c8 k8 fun _ _ _ _ _ _ us hl => by obtain ⟨a0, a1, rfl⟩ := ex2 hl; rfl
  have D9 := def_mk (st := sMakes) (ps := ["prime", "rule", "row"]) X G a9 l9 c9 k9 fun _ _ _ _ _ _ us hl => by obtain ⟨a0, a1, a2, rfl⟩ := ex3 hl; rfl
  have D10 := def_mk (st := sDue) (ps := ["prime", "rule", "row", "place"]) X G a10 l10 c10 k10 fun _ _ _ _ _ _ us hl => by obtain ⟨a0, a1, a2, a3, rfl⟩ := ex4 hl; rfl
  have D11 := def_mk (st := sIsLeast) (ps := ["prime", "row", "rule", "shorter", "place"]) X G a11 l11 c11 k11 fun _ _ _ _ _ _ us hl => by obtain ⟨a0, a1, a2, a3, a4, rfl⟩ := ex5 hl; rfl
  have D12 := def_mk (st := sFails) (ps := ["prime", "rule", "row", "place"]) X G a12 l12 c12 k12 fun _ _ _ _ _ _ us hl => by obtain ⟨a0, a1, a2, a3, rfl⟩ := ex4 hl; rfl
  have D13 := def_mk (st := sLeast) (ps := ["prime", "row"]) X G a13 l13 c13 k13 fun _ _ _ _ _ _ us hl => by obtain ⟨a0, a1, rfl⟩ := ex2 hl; rfl
  have D14 := def_mk (st := sMixed) (ps := ["prime", "rule", "shorter", "shift", "share"]) X G a14 l14 c14 k14 fun _ _ _ _ _ _ us hl => by obtain ⟨a0, a1, a2, a3, a4, rfl⟩ := ex5 hl; rfl
  have D15 := def_mk (st := lCell) (ps := ["_law_script", "_law_k"]) X G a15 l15 c15 k15 fun _ _ _ _ _ _ us hl => by obtain ⟨a0, a1, rfl⟩ := ex2 hl; rfl
  have D16 := def_mk (st := lDraw) (ps := ["_law_cell", "_law_k", "_law_many"]) X G a16 l16 c16 k16 fun _ _ _ _ _ _ us hl => by obtain ⟨a0, a1, a2, rfl⟩ := ex3 hl; rfl
  have D17 := def_mk (st := lPrime) (ps := ["_law_script"]) X G a17 l17 c17 k17 fun _ _ _ _ _ _ us hl => by obtain ⟨a0, rfl⟩ := ex1 hl; rfl
  have D18 := def_mk (st := lRests) (ps := ["_law_script", "_law_by", "_law_prime_here", "_law_many"]) X G a18 l18 c18 k18 fun _ _ _ _ _ _ us hl => by obtain ⟨a0, a1, a2, a3, rfl⟩ := ex4 hl; rfl
  have D19 := def_mk (st := lRow) (ps := ["_law_script", "_law_prime_here"]) X G a19 l19 c19 k19 fun _ _ _ _ _ _ us hl => by obtain ⟨a0, a1, rfl⟩ := ex2 hl; rfl
  have D20 := def_mk (st := lDue) (ps := ["_law_prime_here", "_law_rule", "_law_row_here", "_law_place"]) X G a20 l20 c20 k20 fun _ _ _ _ _ _ us hl => by obtain ⟨a0, a1, a2, a3, rfl⟩ := ex4 hl; rfl
  have D21 := def_mk (st := lMade) (ps := ["_law_prime_here", "_law_rule", "_law_row_here"]) X G a21 l21 c21 k21 fun _ _ _ _ _ _ us hl => by obtain ⟨a0, a1, a2, rfl⟩ := ex3 hl; rfl
  have D22 := def_mk (st := lRested) (ps := ["_law_prime_here", "_law_found"]) X G a22 l22 c22 k22 fun _ _ _ _ _ _ us hl => by obtain ⟨a0, a1, rfl⟩ := ex2 hl; rfl
  have D23 := def_mk (st := lLeast) (ps := ["_law_prime_here", "_law_row_here", "_law_rule", "_law_shorter", "_law_place"]) X G a23 l23 c23 k23 fun _ _ _ _ _ _ us hl => by obtain ⟨a0, a1, a2, a3, a4, rfl⟩ := ex5 hl; rfl
  have D24 := def_mk (st := sSole) (ps := ["rule", "row"]) X G a24 l24 c24 k24 fun _ _ _ _ _ _ us hl => by obtain ⟨a0, a1, rfl⟩ := ex2 hl; rfl
  have D25 := def_mk (st := sUnlike) (ps := ["prime", "row"]) X G a25 l25 c25 k25 fun _ _ _ _ _ _ us hl => by obtain ⟨a0, a1, rfl⟩ := ex2 hl; rfl
  have D26 := def_mk (st := lRight) (ps := ["_law_prime_here", "_law_row_here", "_law_found"]) X G a26 l26 c26 k26 fun _ _ _ _ _ _ us hl => by obtain ⟨a0, a1, a2, rfl⟩ := ex3 hl; rfl
  have D27 := def_mk (st := lLaw) (ps := ["_law_script"]) X G a27 l27 c27 k27 fun _ _ _ _ _ _ us hl => by obtain ⟨a0, rfl⟩ := ex1 hl; rfl
  have FiL := fun_mk (st := sInitL) liL ciL kiL
  have biL := FiL.binds (ps := ["self", "rule", "shorter", "place"]) fun _ _ _ _ _ _ us hl => by obtain ⟨a0, a1, a2, a3, rfl⟩ := ex4 hl; rfl
  have FsL := fun_mk (st := sShowsL) lsL csL ksL
  have bsL := FsL.binds (ps := ["self", "prime", "row"]) fun _ _ _ _ _ _ us hl => by obtain ⟨a0, a1, a2, rfl⟩ := ex3 hl; rfl
  have FiO := fun_mk (st := sInitO) liO ciO kiO
  have biO := FiO.binds (ps := ["self", "rule", "shorter", "place"]) fun _ _ _ _ _ _ us hl => by obtain ⟨a0, a1, a2, a3, rfl⟩ := ex4 hl; rfl
  have FsO := fun_mk (st := sShowsO) lsO csO ksO
  have bsO := FsO.binds (ps := ["self", "prime", "row"]) fun _ _ _ _ _ _ us hl => by obtain ⟨a0, a1, a2, rfl⟩ := ex3 hl; rfl
  have FiN := fun_mk (st := sInitN) liN ciN kiN
  have biN := FiN.binds (ps := ["self", "one", "other", "shorter", "place"]) fun _ _ _ _ _ _ us hl => by obtain ⟨a0, a1, a2, a3, a4, rfl⟩ := ex5 hl; rfl
  have FsN := fun_mk (st := sShowsN) lsN csN ksN
  have bsN := FsN.binds (ps := ["self", "prime", "row"]) fun _ _ _ _ _ _ us hl => by obtain ⟨a0, a1, a2, rfl⟩ := ex3 hl; rfl
  have CcL : Cl3 K cL := ⟨⟨pgcL, hdcL, pocL, sacL⟩, n0cL, n1cL, n2cL⟩
  have CcO : Cl3 K cO := ⟨⟨pgcO, hdcO, pocO, sacO⟩, n0cO, n1cO, n2cO⟩
  have CcN : Cl4 K cN := ⟨⟨pgcN, hdcN, pocN, sacN⟩, n0cN, n1cN, n2cN, n3cN⟩
  have TcO : TyC K cO := ⟨hacO, hn, ht, hmcO⟩
  have TcN : TyC K cN := ⟨hacN, hn, ht, hmcN⟩
  have o : Own mg := ⟨PySem.W.mg_none_of X G z1, PySem.W.mg_none_of X G z2, PySem.W.mg_none_of X G z3, PySem.W.mg_none_of X G z4, PySem.W.mg_none_of X G z5, PySem.W.mg_none_of X G z6, PySem.W.mg_none_of X G z7, PySem.W.mg_none_of X G z8, PySem.W.mg_none_of X G z9, PySem.W.mg_none_of X G z10, PySem.W.mg_none_of X G z11, PySem.W.mg_none_of X G z12, PySem.W.mg_none_of X G z13, PySem.W.mg_none_of X G z14, PySem.W.mg_none_of X G z15⟩
  refine ⟨PySem.W.fnOf "law" "law" (defArgs lLaw) (defBody lLaw) (defScope lLaw) .none kV27 dc27 pm27 an27 cd27 ct27, fun s v => .of_eq rfl, fun base _ _ => ?_⟩
  have G1 := ok_whole (P := l.prog) (w := w) (base := base) D1 o
  have G2 := ok_prime (P := l.prog) (w := w) (base := base) D2 o D1 G1 (PySem.W.mg_of X G y1) (PySem.W.mg_of X G y2)
  have G3 := ok_restB (P := l.prog) (w := w) (base := base) D3 D1 G1
  have G4 := ok_areB (P := l.prog) (w := w) (base := base) D4 o D3 G3
  have GA := ok_are G4
  have G5 := ok_needPrime (P := l.prog) (w := w) (base := base) D5 D2 G2
  have G6 := ok_needRule (P := l.prog) (w := w) (base := base) D6 D4 GA
  have G7 := ok_needRow (P := l.prog) (w := w) (base := base) D7 D4 GA
  have G10 := ok_due (P := l.prog) (w := w) (base := base) D10 o
  have G9 := ok_makes (P := l.prog) (w := w) (base := base) D9 o ⟨D5, G5, D6, G6, D7, G7⟩ D10 G10
  have G8 := ok_inv (P := l.prog) (w := w) (base := base) D8 
  have G12 := ok_fails (P := l.prog) (w := w) (base := base) D12 o D10 G10 D9 G9
  have G11 := ok_isLeast (P := l.prog) (w := w) (base := base) D11 o D4 G4 D1 G1 D9 G9 D12 G12
  have G14 := ok_mixed (P := l.prog) (w := w) (base := base) D14 o
  have GiL := ok_initL (P := l.prog) (w := w) (base := base) FiL o CcL
  have GsL := ok_showsL (P := l.prog) (w := w) (base := base) FsL CcL D11 G11
  have G13 := ok_least (P := l.prog) (w := w) (base := base) D13 o D5 G5 D7 G7 D10 G10 D8 G8 D14 G14 ⟨mkcL, aiL, iiL, kccL⟩ (PySem.W.mg_of X G mcL) GiL biL
  have G15 := ok_cell (P := l.prog) (w := w) (base := base) D15 o
  have G16 := ok_draw (P := l.prog) (w := w) (base := base) D16 
  have G17 := ok_primeL (P := l.prog) (w := w) (base := base) D17 D15 G15 D16 G16
  have G18 := ok_rests (P := l.prog) (w := w) (base := base) D18 o D15 G15 D16 G16
  have G20 := ok_dueL (P := l.prog) (w := w) (base := base) D20 o
  have G19 := ok_row (P := l.prog) (w := w) (base := base) D19 o D15 G15 D16 G16 D18 G18 D20 G20
  have G21 := ok_made (P := l.prog) (w := w) (base := base) D21 o D20 G20
  have G22 := ok_restedB (P := l.prog) (w := w) (base := base) D22 o
  have G23 := ok_lLeast (P := l.prog) (w := w) (base := base) D23 o D22 G22 D21 G21 D20 G20
  have G24 := ok_sole (P := l.prog) (w := w) (base := base) D24 o
  have GiO := ok_initO (P := l.prog) (w := w) (base := base) FiO o CcO
  have GiN := ok_initN (P := l.prog) (w := w) (base := base) FiN o CcN
  have GsO := ok_showsO (P := l.prog) (w := w) (base := base) FsO CcO D24 G24 D11 G11
  have GsN := ok_showsN (P := l.prog) (w := w) (base := base) FsN o CcN D11 G11
  have G25 := ok_unlike (P := l.prog) (w := w) (base := base) D25 o D13 G13 D24 G24 D14 G14 CcL ⟨mkcO, aiO, iiO, kccO⟩ (PySem.W.mg_of X G mcO) GiO biO ⟨mkcN, aiN, iiN, kccN⟩ (PySem.W.mg_of X G mcN) GiN biN
  have TT : Cls2 K mg cL cA cO cN := ⟨CcL, CcO, CcN, (PySem.W.mg_of X G mcA), (PySem.W.mg_of X G mcL), (PySem.W.mg_of X G mcO), (PySem.W.mg_of X G mcN), TcO, TcN, qcOcA, qcOcL, qcOcO, qcOcN, qcNcA, qcNcL, qcNcO, qcNcN⟩
  have G26 := ok_right2 (P := l.prog) (w := w) (base := base) D26 o TT D23 G23
  have T : Kit2 l.prog w K mg base (fun i => [f1, f17, f19, f13, f25, f26, f16, f15, fsO, fsN].getD i f1) (fun i => [fdOf D1, fdOf D17, fdOf D19, fdOf D13, fdOf D25, fdOf D26, fdOf D16, fdOf D15, fdM FsO, fdM FsN].getD i (fdOf D1)) cL cA cO cN := ⟨o, D17, G17, D19, G19, D13, G13, D25, (G25.imp fun _ _ _ _ h => unlike_one _ _ h), D26, G26, D16, G16, D15, G15, TT, ⟨asO, isO, ksO⟩, GsO, bsO, ⟨asN, isN, ksN⟩, GsN, bsN⟩
  exact ok_law D27 T

theorem walk {l : PySem.W.OpenLaw} {q : Program} {loose : List Str} {XP : (Str → Option Value) → Heap → Prop} {YP : World → Heap → Prop} {d : DefRec} {K : Params → PySem.W.Frag} (hn : l.most = some 63) (hdf : d.params.defaults = [])
    (hY : ∀ (w : World) (h : Heap), YP w h → (K w.params).In h)
    (F : ∀ (w : World) (mg : Str → Option Value) (fa : Addr) (h : Heap), (K w.params).In h → h.Ns mainGlobals mg → mg d.name = some (.ref fa) →
      ∃ fd : FuncData, (∀ (s : Shared) (u : Value), BindsTo s fd ⟨[u], []⟩ [("_law_script", u)]) ∧ ∀ base : Heap, (K w.params).In base → base.Ns mainGlobals mg → FnOk l.prog w (K w.params) mg base CX0 10 fa fd ["_law_script"] (spLaw (K w.params))) :
    PySem.W.WalkO q loose XP YP l.row.toRowW d [] (fun f vs => PySem.call f vs) :=
  L2.walk_of (n := 63) (k := 10) (x := "_law_script") (CX := fun _ => CX0) (sp := fun w => spLaw (K w.params)) hn (by decide) hdf ⟨rfl, by decide, by decide⟩ hY F (fun _ _ a ns hl _ hS => ⟨a, ns, rfl, hS, hl, fun _ => rfl⟩) fun _ _ _ _ _ z => z
end Rr

set_option Elab.async false
set_option linter.all false
open PySem PySem.W PyProof.Rows
set_option maxRecDepth 100000 in
set_option maxHeartbeats 0 in
theorem PySem.Challenge.cw_rulerow_k02_whole_others_holds : PySem.Challenge.rw_rulerow_k02_whole_others.Holds := by
  w_on; o_law; k_head; (case hw => w_witness2)
  k_fill
  refine Rr.walk (l := PySem.Challenge.rw_rulerow_k02_whole_others) rfl rfl (fun w h Y => PySem.W.kIn_of Y) ?F
  case F =>
    intro w mg fa h KX G hmg
    refine' Rr.all_mk KX G hmg ?a1 ?l1 ?c1 ?k1 ?a2 ?l2 ?c2 ?k2 ?a3 ?l3 ?c3 ?k3 ?a4 ?l4 ?c4 ?k4 ?a5 ?l5 ?c5 ?k5 ?a6 ?l6 ?c6 ?k6 ?a7 ?l7 ?c7 ?k7 ?a8 ?l8 ?c8 ?k8 ?a9 ?l9 ?c9 ?k9 ?a10 ?l10 ?c10 ?k10 ?a11 ?l11 ?c11 ?k11 ?a12 ?l12 ?c12 ?k12 ?a13 ?l13 ?c13 ?k13 ?a14 ?l14 ?c14 ?k14 ?a15 ?l15 ?c15 ?k15 ?a16 ?l16 ?c16 ?k16 ?a17 ?l17 ?c17 ?k17 ?a18 ?l18 ?c18 ?k18 ?a19 ?l19 ?c19 ?k19 ?a20 ?l20 ?c20 ?k20 ?a21 ?l21 ?c21 ?k21 ?a22 ?l22 ?c22 ?k22 ?a23 ?l23 ?c23 ?k23 ?a24 ?l24 ?c24 ?k24 ?a25 ?l25 ?c25 ?k25 ?a26 ?l26 ?c26 ?k26 ?a27 ?l27 ?c27 ?k27 ?mcA ?mcL ?mcO ?mcN ?aiL ?iiL ?liL ?ciL ?kiL ?asL ?isL ?lsL ?csL ?ksL ?aiO ?iiO ?liO ?ciO ?kiO ?asO ?isO ?lsO ?csO ?ksO ?aiN ?iiN ?liN ?ciN ?kiN ?asN ?isN ?lsN ?csN ?ksN ?pgcL ?hdcL ?pocL ?sacL ?mkcL ?kccL ?n0cL ?n1cL ?n2cL ?pgcO ?hdcO ?pocO ?sacO ?mkcO ?kccO ?n0cO ?n1cO ?n2cO ?pgcN ?hdcN ?pocN ?sacN ?mkcN ?kccN ?n0cN ?n1cN ?n2cN ?n3cN ?hacO ?hmcO ?qcOcA ?qcOcL ?qcOcO ?qcOcN ?hacN ?hmcN ?qcNcA ?qcNcL ?qcNcO ?qcNcN ?hn ?ht ?z1 ?z2 ?z3 ?z4 ?z5 ?z6 ?z7 ?z8 ?z9 ?z10 ?z11 ?z12 ?z13 ?z14 ?z15 ?y1 ?y2
    (case a1 => k_is)
    (case l1 => k_is)
    (case c1 => k_is)
    (case k1 => k_is)
    (case a2 => k_is)
    (case l2 => k_is)
    (case c2 => k_is)
    (case k2 => k_is)
    (case a3 => k_is)
    (case l3 => k_is)
    (case c3 => k_is)
    (case k3 => k_is)
    (case a4 => k_is)
    (case l4 => k_is)
    (case c4 => k_is)
    (case k4 => k_is)
    (case a5 => k_is)
    (case l5 => k_is)
    (case c5 => k_is)
    (case k5 => k_is)
    (case a6 => k_is)
    (case l6 => k_is)
    (case c6 => k_is)
    (case k6 => k_is)
    (case a7 => k_is)
    (case l7 => k_is)
    (case c7 => k_is)
    (case k7 => k_is)
    (case a8 => k_is)
    (case l8 => k_is)
    (case c8 => k_is)
    (case k8 => k_is)
    (case a9 => k_is)
    (case l9 => k_is)
    (case c9 => k_is)
    (case k9 => k_is)
    (case a10 => k_is)
    (case l10 => k_is)
    (case c10 => k_is)
    (case k10 => k_is)
    (case a11 => k_is)
    (case l11 => k_is)
    (case c11 => k_is)
    (case k11 => k_is)
    (case a12 => k_is)
    (case l12 => k_is)
    (case c12 => k_is)
    (case k12 => k_is)
    (case a13 => k_is)
    (case l13 => k_is)
    (case c13 => k_is)
    (case k13 => k_is)
    (case a14 => k_is)
    (case l14 => k_is)
    (case c14 => k_is)
    (case k14 => k_is)
    (case a15 => k_is)
    (case l15 => k_is)
    (case c15 => k_is)
    (case k15 => k_is)
    (case a16 => k_is)
    (case l16 => k_is)
    (case c16 => k_is)
    (case k16 => k_is)
    (case a17 => k_is)
    (case l17 => k_is)
    (case c17 => k_is)
    (case k17 => k_is)
    (case a18 => k_is)
    (case l18 => k_is)
    (case c18 => k_is)
    (case k18 => k_is)
    (case a19 => k_is)
    (case l19 => k_is)
    (case c19 => k_is)
    (case k19 => k_is)
    (case a20 => k_is)
    (case l20 => k_is)
    (case c20 => k_is)
    (case k20 => k_is)
    (case a21 => k_is)
    (case l21 => k_is)
    (case c21 => k_is)
    (case k21 => k_is)
    (case a22 => k_is)
    (case l22 => k_is)
    (case c22 => k_is)
    (case k22 => k_is)
    (case a23 => k_is)
    (case l23 => k_is)
    (case c23 => k_is)
    (case k23 => k_is)
    (case a24 => k_is)
    (case l24 => k_is)
    (case c24 => k_is)
    (case k24 => k_is)
    (case a25 => k_is)
    (case l25 => k_is)
    (case c25 => k_is)
    (case k25 => k_is)
    (case a26 => k_is)
    (case l26 => k_is)
    (case c26 => k_is)
    (case k26 => k_is)
    (case a27 => k_is)
    (case l27 => k_is)
    (case c27 => k_is)
    (case k27 => k_is)
    (case mcA => k_is)
    (case mcL => k_is)
    (case mcO => k_is)
    (case mcN => k_is)
    (case aiL => k_is)
    (case iiL => k_is)
    (case liL => k_is)
    (case ciL => k_is)
    (case kiL => k_is)
    (case asL => k_is)
    (case isL => k_is)
    (case lsL => k_is)
    (case csL => k_is)
    (case ksL => k_is)
    (case aiO => k_is)
    (case iiO => k_is)
    (case liO => k_is)
    (case ciO => k_is)
    (case kiO => k_is)
    (case asO => k_is)
    (case isO => k_is)
    (case lsO => k_is)
    (case csO => k_is)
    (case ksO => k_is)
    (case aiN => k_is)
    (case iiN => k_is)
    (case liN => k_is)
    (case ciN => k_is)
    (case kiN => k_is)
    (case asN => k_is)
    (case isN => k_is)
    (case lsN => k_is)
    (case csN => k_is)
    (case ksN => k_is)
    (case pgcL => k_is)
    (case hdcL => k_is)
    (case pocL => k_is)
    (case sacL => k_is)
    (case mkcL => k_is)
    (case kccL => k_is)
    (case n0cL => k_is)
    (case n1cL => k_is)
    (case n2cL => k_is)
    (case pgcO => k_is)
    (case hdcO => k_is)
    (case pocO => k_is)
    (case sacO => k_is)
    (case mkcO => k_is)
    (case kccO => k_is)
    (case n0cO => k_is)
    (case n1cO => k_is)
    (case n2cO => k_is)
    (case pgcN => k_is)
    (case hdcN => k_is)
    (case pocN => k_is)
    (case sacN => k_is)
    (case mkcN => k_is)
    (case kccN => k_is)
    (case n0cN => k_is)
    (case n1cN => k_is)
    (case n2cN => k_is)
    (case n3cN => k_is)
    (case hacO => k_is)
    (case hmcO => k_is)
    (case qcOcA => kernel_rfl)
    (case qcOcL => kernel_rfl)
    (case qcOcO => kernel_rfl)
    (case qcOcN => kernel_rfl)
    (case hacN => k_is)
    (case hmcN => k_is)
    (case qcNcA => kernel_rfl)
    (case qcNcL => kernel_rfl)
    (case qcNcO => kernel_rfl)
    (case qcNcN => kernel_rfl)
    (case hn => k_is)
    (case ht => k_is)
    (case z1 => k_is)
    (case z2 => k_is)
    (case z3 => k_is)
    (case z4 => k_is)
    (case z5 => k_is)
    (case z6 => k_is)
    (case z7 => k_is)
    (case z8 => k_is)
    (case z9 => k_is)
    (case z10 => k_is)
    (case z11 => k_is)
    (case z12 => k_is)
    (case z13 => k_is)
    (case z14 => k_is)
    (case z15 => k_is)
    (case y1 => k_is)
    (case y2 => k_is)
