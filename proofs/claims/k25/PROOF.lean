import PyProof.Rows.All
import Wide.All
import OpenK.AllK
import Wide.FinOn
import Lean
import PyProof.EqAt
import PyProof.EqKinds
import PyProof.TupleCall
import PySem.Challenge.RW_outlast_k25_lines_that_are_none
set_option Elab.async false
set_option linter.all false
set_option maxRecDepth 100000
/-! THE HAND LAYER, for ints, bools, texts, own classes, LISTS and tuples (index, slices, in, append, pop ..), calls, loops. Paste it whole ahead of your own text; what your proof does not reach may be deleted. -/
local macro_rules | `(tactic| omega) => `(tactic| first | assumption | lia | omega +splitDisjunctions)
namespace L2
open PySem PySem.Spec PyProof.Rows

/-- a key of ours: an int, a str, or None -/
inductive Key where
  | inl (i : Int) | inr (x : Str) | no
  deriving DecidableEq
noncomputable def keyIs : Key → Value → Bool
  | .inl k, v => Value.isInt k v
  | .inr x, v => Value.isStrOf x v
  | .no, .none => true
  | .no, _ => false
noncomputable def keyH (w : World) : Key → Int
  | .inl k => hashInt k
  | .inr x => hashStr w x
  | .no => reduceHash 0xFCA86420
theorem keyIs_shape : ∀ {k : Key} {v : Value}, keyIs k v = true → (∃ i t, k = Key.inl i ∧ v = Value.int i t) ∨ (∃ x t, k = Key.inr x ∧ v = Value.str x t) ∨ (k = Key.no ∧ v = Value.none)
  | .inl i, v, h => by
    obtain ⟨t, e⟩ := Value.isInt_shape (k := i) (v := v) h
    exact .inl ⟨i, t, rfl, e⟩
  | .inr x, v, h => by
    obtain ⟨t, e⟩ := Value.isStrOf_shape (x := x) (v := v) h
    exact .inr (.inl ⟨x, t, rfl, e⟩)
  | .no, v, h => by
    cases v <;> first | exact .inr (.inr ⟨rfl, rfl⟩) | cases h
theorem keyIs_int (i : Int) (t : Tok) : keyIs (.inl i) (.int i t) = true := by simp [keyIs, Value.isInt]
theorem keyIs_str (x : Str) (t : Tok) : keyIs (.inr x) (.str x t) = true := by simp [keyIs, Value.isStrOf]
theorem key_ll (a b : Int) : decide (Key.inl a = Key.inl b) = (a == b) := by
  by_cases e : a = b
  · subst e; simp
  · have h : ¬ Key.inl a = Key.inl b := fun q => e (Key.inl.inj q)
    rw [decide_eq_false h]
    exact (beq_eq_false_iff_ne.mpr e).symm
theorem key_rr (a b : Str) : decide (Key.inr a = Key.inr b) = decide (a = b) := by
  by_cases e : a = b
  · subst e; simp
  · have h : ¬ Key.inr a = Key.inr b := fun q => e (Key.inr.inj q)
    rw [decide_eq_false h, decide_eq_false e]
noncomputable def mixKind (prog : Program) (w : World) : PySem.KeyKind prog w Key where
  is := keyIs
  hash := keyH w
  inj := fun v a b ha hb => by
    rcases keyIs_shape ha with ⟨i, t, rfl, rfl⟩ | ⟨x, t, rfl, rfl⟩ | ⟨rfl, rfl⟩ <;> rcases keyIs_shape hb with ⟨j, u, rfl, e⟩ | ⟨y, u, rfl, e⟩ | ⟨rfl, e⟩ <;>
      first | rfl | (cases e <;> rfl)
  byValue := fun k v h => by
    rcases keyIs_shape h with ⟨i, t, rfl, rfl⟩ | ⟨x, t, rfl, rfl⟩ | ⟨rfl, rfl⟩ <;> rfl
  pyHash := fun hv h => by
    rcases keyIs_shape hv with ⟨i, t, rfl, rfl⟩ | ⟨x, t, rfl, rfl⟩ | ⟨rfl, rfl⟩
    · exact wpAny_pyHash_int h
    · exact wpAny_pyHash_str h
    · exact PySem.W.pyHash_slot (T := "NoneType") rfl F.slot_NoneType_hash F.entry_NoneType_hash (F.args_NoneType_hash_1 _) (beq_builtin_none _) (.inl rfl) (wpAny_bind (wpAny_pure (wpAny_bind (wpAny_mkInt (wpAny_pure ⟨_, _, rfl, h⟩)))))
  eqBool := fun hu hv h => by
    rcases keyIs_shape hu with ⟨i, t, rfl, rfl⟩ | ⟨x, t, rfl, rfl⟩ | ⟨rfl, rfl⟩ <;> rcases keyIs_shape hv with ⟨j, u, rfl, rfl⟩ | ⟨y, u, rfl, rfl⟩ | ⟨rfl, rfl⟩
    · rw [key_ll] at h; exact wpAny_eqBool_int h
    · exact SeqAt.EqAt.int_str i t y u _ _ _ _ h
    · exact SeqAt.EqAt.int_none i t _ _ _ _ h
    · exact SeqAt.EqAt.str_int x t j u _ _ _ _ h
    · rw [key_rr] at h; exact wpAny_eqBool_str h
    · exact SeqAt.EqAt.str_none x t _ _ _ _ h
    · exact SeqAt.EqAt.none_int j u _ _ _ _ h
    · exact SeqAt.EqAt.none_str y u _ _ _ _ h
    · exact SeqAt.EqAt.same .none _ _ _ _ h
  «strs» := fun k x t v h => by
    rcases keyIs_shape h with ⟨i, u, rfl, e⟩ | ⟨y, u, rfl, e⟩ | ⟨rfl, e⟩
    · exact nomatch e
    · injection e with e1 _
      subst e1
      cases v <;> rfl
    · exact nomatch e
theorem mixKind_int (prog : Program) (w : World) (i : Int) (t : Tok) : (mixKind prog w).is (.inl i) (.int i t) = true := keyIs_int i t
theorem mixKind_str (prog : Program) (w : World) (x : Str) (t : Tok) : (mixKind prog w).is (.inr x) (.str x t) = true := keyIs_str x t
end L2

namespace L2
open PySem PySem.Spec PyProof.Rows

/-- a value, without the heap -/
inductive V where
  | non | bl (b : Bool) | int (i : Int) | str (x : Str) | byt (b : Array UInt8) | flt (b : UInt64) | ref (a : Addr) | ty (n : String)
  deriving DecidableEq

noncomputable def RelV : V → Value → Prop
  | .non, u => u = Value.none
  | .bl b, u => u = Value.bool b
  | .int i, u => ∃ t, u = Value.int i t
  | .str x, u => ∃ t, u = Value.str x t
  | .byt b, u => ∃ t, u = Value.bytes b t
  | .flt b, u => ∃ t, u = Value.float b t
  | .ref a, u => u = Value.ref a
  | .ty n, u => u = Value.type n

noncomputable abbrev Vals : List V → List Value → Prop := Paired RelV
theorem Vals.length {xs : List V} {us : List Value} (r : Vals xs us) : xs.length = us.length := Paired.length r
theorem Vals.get : ∀ {xs : List V} {us : List Value} {i : Nat} {x : V}, Vals xs us → xs[i]? = some x → ∃ u, us[i]? = some u ∧ RelV x u
  | _, _, _, _, .nil, e => by simp at e
  | _, _, 0, _, .cons r _, e => by simp at e; subst e; exact ⟨_, rfl, r⟩
  | _, _, i + 1, x, .cons _ t, e => by
    obtain ⟨u, h1, h2⟩ := Vals.get (i := i) (x := x) t (by simpa using e)
    exact ⟨u, by simpa using h1, h2⟩
theorem Vals.set {x : V} {u : Value} (r : RelV x u) : ∀ {xs : List V} {us : List Value} (i : Nat), Vals xs us → Vals (xs.set i x) (us.set i u)
  | _, _, _, .nil => .nil
  | _, _, 0, .cons _ t => .cons r t
  | _, _, i + 1, .cons q t => .cons q (Vals.set r i t)
theorem Vals.append {xs ys : List V} {us ws : List Value} (h : Vals xs us) (s : Vals ys ws) : Vals (xs ++ ys) (us ++ ws) := by
  induction h with
  | nil => exact s
  | cons r _ ih => exact .cons r ih
theorem Vals.take : ∀ {xs : List V} {us : List Value} (n : Nat), Vals xs us → Vals (xs.take n) (us.take n)
  | _, _, 0, _ => .nil
  | _, _, _ + 1, .nil => .nil
  | _, _, n + 1, .cons r t => .cons r (Vals.take n t)
theorem Vals.drop : ∀ {xs : List V} {us : List Value} (n : Nat), Vals xs us → Vals (xs.drop n) (us.drop n)
  | _, _, 0, r => r
  | _, _, _ + 1, .nil => .nil
  | _, _, n + 1, .cons _ t => Vals.drop n t
noncomputable def RelO : Option V → Option Value → Prop
  | some v, some u => RelV v u
  | none, none => True
  | _, _ => False
noncomputable def KV {κ : Type} : List (κ × V) → List (κ × Value) → Prop := Paired fun (p : κ × V) (q : κ × Value) => p.1 = q.1 ∧ RelV p.2 q.2

/-- a key of a dict (00_mix): an int or a text -/
noncomputable def kV : Key → V
  | .inl i => .int i
  | .inr x => .str x
  | .no => .non

/-- what stands at a tracked address -/
inductive HO where
  /-- a list -/
  | lst (xs : List V)
  /-- a tuple (never changes) -/
  | tup (xs : List V)
  /-- a dict whose keys are ints and texts; one whose keys are tuples of ints and texts (the empty one is both) -/
  | dK (kvs : List (Key × V)) | dT (kvs : List (List Key × V))
  /-- a set of ints: its members, its size -/
  | set (S : Int → Bool) (n : Nat)
  /-- an instance of the class at C, its dict at dx, its attributes -/
  | ins (C dx : Addr) (fs : List (Str × V))
  /-- the dict of the instance at x -/
  | own (x : Addr)
  /-- the dict of an exception -/
  | xd (fs : List (Str × V))
  /-- a bound method, f of x -/
  | met (f x : Addr)
  /-- a range object lo, lo + 1, .. below hi -/
  | rng (lo hi : Int)
  /-- a thing that is known to the object (the script; a dict while a loop walks it): read, never written while it is so -/
  | frz (o : Obj) (u : HO)
  /-- a code object's table -/
  | tbl (ps : Array Value)
  /-- any other thing, by what is true of its one object (a def of one's own: SetO a S n := HO.ext fun h => ..) -/
  | ext (φ : Heap → Prop)

noncomputable abbrev Hp := Addr → Option HO
noncomputable def upd (H : Hp) (a : Addr) (o : HO) : Hp := fun b => if b = a then some o else H b
theorem upd_same {H : Hp} {a : Addr} {o : HO} : upd H a o a = some o := by unfold upd; rw [if_pos rfl]
theorem upd_ne {H : Hp} {a b : Addr} {o : HO} (h : b ≠ a) : upd H a o b = H b := by unfold upd; rw [if_neg h]
/-- two objects of different content stand apart -/
theorem ne_of {H : Hp} {a b : Addr} {o u : HO} (h : H a = some o) (h' : H b = some u) (d : o ≠ u) : a ≠ b := by
  intro e; subst e; rw [h] at h'; exact d (Option.some.inj h')
theorem ne_of_none {H : Hp} {a b : Addr} {o : HO} (h : H a = some o) (h' : H b = none) : a ≠ b := by
  intro e; subst e; rw [h] at h'; cases h'

section
variable (P : Program) (w : World)
noncomputable def ObjOk (H : Hp) (h : Heap) (a : Addr) : HO → Prop
  | .lst xs => xs.length ≤ sizeLine ∧ ∃ (its : List Value) (n : Nat), Vals xs its ∧ h.get? a = some { cls := .type "list", data := .seq its.toArray n }
  | .tup xs => xs.length ≤ sizeLine ∧ ∃ its : List Value, Vals xs its ∧ IsTup h a its.toArray
  | .dK kvs => kvs.length ≤ sizeLine ∧ (a == sysModules) = false ∧ ∃ vs, KV kvs vs ∧ h.DictOf (mixKind P w) a vs
  | .dT kvs => kvs.length ≤ sizeLine ∧ (a == sysModules) = false ∧ ∃ xs : List (List Key × Addr × Value),
      Paired (fun (p : List Key × V) (q : List Key × Addr × Value) => p.1 = q.1 ∧ H q.2.1 = some (.tup (p.1.map kV)) ∧ RelV p.2 q.2.2) kvs xs ∧
      ∃ o es ep, h.get? a = some o ∧ o.ExactDict ∧ o.data = .dict es ep ∧ es.toList = xs.map (entryOfKey (tupleKind (mixKind P w))) ∧ (xs.map (·.1)).Nodup
  | .set S n => h.SetOf (intKind P w) a S n
  | .ins C dx fs => H dx = some (.own a) ∧ fs.length ≤ 1000 ∧ dx ≠ a ∧ h.get? a = some (PySem.W.instObj C dx) ∧
      ∃ mA, h.Ns1 dx mA ∧ (∀ f, RelO (fs.lookup f) (mA f)) ∧ PySem.Within mA (fs.map (·.1))
  | .own _ => ∃ o, h.get? a = some o
  | .xd fs => ∃ mA, h.Ns1 a mA ∧ ∀ f, RelO (fs.lookup f) (mA f)
  | .rng lo hi => ∃ t u v, h.get? a = some { cls := .type "range", data := .fields #[.int lo t, .int hi u, .int 1 v] }
  | .frz o u => h.get? a = some o ∧ ObjOk H h a u
  | .tbl ps => h.get? a = some { cls := .none, data := .fields ps }
  | .met f x => h.get? a = some (PySem.W.methodObj (.ref f) (.ref x))
  | .ext φ => φ h ∧ (∃ o, h.get? a = some o) ∧ ∀ h1 h2 : Heap, φ h1 → (∀ o, h1.get? a = some o → h2.get? a = some o) → φ h2
/-- the abstract heap is held -/
noncomputable def HOk (H : Hp) (h : Heap) : Prop := ∀ a o, H a = some o → ObjOk P w H h a o
end

section
variable {P : Program} {w : World} {H H' : Hp} {h h' : Heap} {a : Addr} {o : HO}
theorem ObjOk.lt (x : ObjOk P w H h a o) : a < h.objs.size := by
  cases o with
  | lst xs => obtain ⟨_, _, _, _, e⟩ := x; exact Heap.lt_size e
  | tup xs => obtain ⟨_, _, _, p⟩ := x; exact p.lt
  | dK kvs => obtain ⟨_, _, _, _, o, _, _, e, _⟩ := x; exact Heap.lt_size e
  | dT kvs => obtain ⟨_, _, _, _, o, _, _, e, _⟩ := x; exact Heap.lt_size e
  | set S n => obtain ⟨o, _, _, _, e, _⟩ := x; exact Heap.lt_size e
  | ins C dx fs => obtain ⟨_, _, _, e, _⟩ := x; exact Heap.lt_size e
  | own y => obtain ⟨_, e⟩ := x; exact Heap.lt_size e
  | xd fs => obtain ⟨_, ⟨_, _, _, e, _⟩, _⟩ := x; exact Heap.lt_size e
  | rng lo hi => obtain ⟨_, _, _, e⟩ := x; exact Heap.lt_size e
  | frz ob u => obtain ⟨e, _⟩ := x; exact Heap.lt_size e
  | tbl ps => exact Heap.lt_size (show h.get? a = some _ from x)
  | met f y => exact Heap.lt_size (show h.get? a = some _ from x)
  | ext φ => obtain ⟨_, ⟨_, e⟩, _⟩ := x; exact Heap.lt_size e
theorem Paired.mapP {α β : Type} {F G : α → β → Prop} : ∀ {l₁ : List α} {l₂ : List β}, Paired F l₁ l₂ → (∀ a b, F a b → G a b) → Paired G l₁ l₂
  | _, _, .nil, _ => .nil
  | _, _, .cons r t, f => .cons (f _ _ r) (Paired.mapP t f)
/-- what an object's description leans on: its own object, its own dict, the tuples -/
theorem ObjOk.stay (x : ObjOk P w H h a o) (k : ∀ b u, (b = a ∨ H b = some (.own a)) → h.get? b = some u → h'.get? b = some u)
    (ho : ∀ b, H b = some (.own a) → H' b = some (.own a)) (ht : ∀ b xs, H b = some (.tup xs) → H' b = some (.tup xs)) : ObjOk P w H' h' a o := by
  induction o with
  | lst xs => obtain ⟨z, its, n, r, e⟩ := x; exact ⟨z, its, n, r, k _ _ (.inl rfl) e⟩
  | tup xs => obtain ⟨z, its, r, ob, e, c⟩ := x; exact ⟨z, its, r, ob, k _ _ (.inl rfl) e, c⟩
  | dK kvs => obtain ⟨z, y, vs, r, ob, es, ep, e, c⟩ := x; exact ⟨z, y, vs, r, ob, es, ep, k _ _ (.inl rfl) e, c⟩
  | dT kvs =>
    obtain ⟨z, y, xs, r, ob, es, ep, e, c⟩ := x
    exact ⟨z, y, xs, Paired.mapP r fun p q z => ⟨z.1, ht _ _ z.2.1, z.2.2⟩, ob, es, ep, k _ _ (.inl rfl) e, c⟩
  | set S n => obtain ⟨ob, es, ep, t, e, c⟩ := x; exact ⟨ob, es, ep, t, k _ _ (.inl rfl) e, c⟩
  | ins C dx fs =>
    obtain ⟨d, z, ne, e, mA, ⟨od, es, ep, e2, c⟩, r⟩ := x
    exact ⟨ho _ d, z, ne, k _ _ (.inl rfl) e, mA, ⟨od, es, ep, k _ _ (.inr d) e2, c⟩, r⟩
  | own y => obtain ⟨ob, e⟩ := x; exact ⟨ob, k _ _ (.inl rfl) e⟩
  | xd fs => obtain ⟨mA, ⟨od, es, ep, e, c⟩, r⟩ := x; exact ⟨mA, ⟨od, es, ep, k _ _ (.inl rfl) e, c⟩, r⟩
  | rng lo hi => obtain ⟨t, u, v, e⟩ := x; exact ⟨t, u, v, k _ _ (.inl rfl) e⟩
  | frz ob u ih => obtain ⟨e, q⟩ := x; exact ⟨k _ _ (.inl rfl) e, ih q⟩
  | tbl ps =>
    have e : h.get? a = some { cls := .none, data := .fields ps } := x
    show h'.get? a = some { cls := .none, data := .fields ps }
    exact k a _ (.inl rfl) e
  | met f y =>
    have e : h.get? a = some (PySem.W.methodObj (.ref f) (.ref y)) := x
    show h'.get? a = some (PySem.W.methodObj (.ref f) (.ref y))
    exact k a _ (.inl rfl) e
  | ext φ => obtain ⟨p, ⟨o, e⟩, st⟩ := x; exact ⟨st _ _ p fun o q => k _ _ (.inl rfl) q, ⟨o, k _ _ (.inl rfl) e⟩, st⟩
theorem HOk.lt (x : HOk P w H h) (e : H a = some o) : a < h.objs.size := (x a o e).lt
theorem HOk.fresh (x : HOk P w H h) (e : h.objs.size ≤ a) : H a = none := by
  cases q : H a with
  | none => rfl
  | some u => exact absurd (Nat.lt_of_lt_of_le (x.lt q) e) (Nat.lt_irrefl _)
/-- every object of the heap is kept -/
theorem HOk.kept (x : HOk P w H h) (k : ∀ b u, h.get? b = some u → h'.get? b = some u) : HOk P w H h' := fun a o e =>
  (x a o e).stay (fun b u _ q => k b u q) (fun _ q => q) fun _ _ q => q
/-- a new object is laid and tracked -/
theorem HOk.laid (x : HOk P w H h) (k : ∀ b u, h.get? b = some u → h'.get? b = some u) (hp : h.objs.size ≤ a) (new : ObjOk P w (upd H a o) h' a o) : HOk P w (upd H a o) h' := fun b u e => by
  have hn := x.fresh hp
  by_cases hb : b = a
  · subst hb; rw [upd_same] at e; cases e; exact new
  · rw [upd_ne hb] at e
    exact (x b u e).stay (fun c v _ q => k c v q) (fun c q => by rw [upd_ne (ne_of_none q hn)]; exact q) fun c xs q => by rw [upd_ne (ne_of_none q hn)]; exact q
end

/-- what may be read as u: it is u, or a known u -/
noncomputable def Rd (H : Hp) (a : Addr) (u : HO) : Prop := H a = some u ∨ ∃ o, H a = some (.frz o u)
theorem Rd.of {H : Hp} {a : Addr} {u : HO} (h : H a = some u) : Rd H a u := .inl h
theorem Rd.ok {P : Program} {w : World} {H : Hp} {h : Heap} {a : Addr} {u : HO} (r : Rd H a u) (x : HOk P w H h) : ObjOk P w H h a u := by
  rcases r with r | ⟨o, r⟩
  · exact x a u r
  · obtain ⟨_, q⟩ := x a _ r
    exact q
/-- what may be written -/
noncomputable def Mut : Option HO → Prop
  | some (.lst _) => True
  | some (.dK _) => True
  | some (.dT _) => True
  | some (.set _ _) => True
  | some (.ins _ _ _) => True
  | some (.ext _) => True
  | _ => False
section
variable {P : Program} {w : World} {H : Hp} {h h' : Heap} {x e : Addr} {o' : HO}
/-- the object at e is changed: x itself, or the dict of the instance x -/
theorem HOk.write (ok : HOk P w H h) (mu : Mut (H x)) (he : e = x ∨ H e = some (.own x)) (k : ∀ b u, b ≠ e → h.get? b = some u → h'.get? b = some u) (heo : ∃ u, h'.get? e = some u)
    (new : ObjOk P w (upd H x o') h' x o') : HOk P w (upd H x o') h' := fun b u q => by
  have nown : ∀ c y, H c = some (.own y) → c ≠ x := fun c y r z => by subst z; rw [r] at mu; exact mu
  have ntup : ∀ c xs, H c = some (.tup xs) → c ≠ x := fun c xs r z => by subst z; rw [r] at mu; exact mu
  by_cases hb : b = x
  · subst hb; rw [upd_same] at q; cases q; exact new
  · rw [upd_ne hb] at q
    by_cases hbe : b = e
    · have q' : H b = some (.own x) := by
        rcases he with z | z
        · exact absurd (hbe.trans z) hb
        · rw [hbe]; exact z
      rw [q] at q'; cases q'
      obtain ⟨v, hv⟩ := heo
      exact ⟨v, by rw [hbe]; exact hv⟩
    · refine (ok b u q).stay (fun c v hc r => k c v ?_ r) (fun c r => by rw [upd_ne (nown c b r)]; exact r) fun c xs r => by rw [upd_ne (ntup c xs r)]; exact r
      rcases hc with rfl | hc
      · exact hbe
      · rintro rfl
        rcases he with z | z
        · exact nown c b hc z
        · rw [hc] at z; cases z; exact hb rfl
end

/-! ### kept unless tracked; of the frames at fs (the callers') the slots may change (an exception that passes writes there); of the records at ex (iterators) nothing is said -/
structure Un (fs ex : List Addr) (H H' : Hp) (h h' : Heap) : Prop where
  keep : ∀ b o, h.get? b = some o → H b = none → b ∉ fs → b ∉ ex → h'.get? b = some o
  slot : ∀ b o, h.get? b = some o → H b = none → b ∈ fs → b ∉ ex → ∃ sl, h'.get? b = some { o with slots := sl }
  free : ∀ b o, h.get? b = some o → H b = none → b ∉ ex → H' b = none
  there : ∀ b o, h.get? b = some o → b ∉ ex → ∃ o', h'.get? b = some o'
  tups : ∀ b xs, H b = some (.tup xs) → H' b = some (.tup xs)
  frzs : ∀ b o u, H b = some (.frz o u) → H' b = some (.frz o u)
  tbls : ∀ b ps, H b = some (.tbl ps) → ∃ more, H' b = some (.tbl (ps ++ more))
section
variable {fs fs' ex ex' : List Addr} {H H1 H2 : Hp} {h h1 h2 h' : Heap} {a x e : Addr} {o : HO}
theorem Un.any (u : Un fs ex H H1 h h1) {b : Addr} {ob : Obj} (q : h.get? b = some ob) (n : H b = none) (hx : b ∉ ex) : ∃ sl, h1.get? b = some { ob with slots := sl } := by
  by_cases hb : b ∈ fs
  · exact u.slot b ob q n hb hx
  · exact ⟨ob.slots, u.keep b ob q n hb hx⟩
theorem Un.trans (a : Un fs ex H H1 h h1) (b : Un fs ex H1 H2 h1 h2) : Un fs ex H H2 h h2 where
  keep := fun c ob q n hc hx => b.keep c ob (a.keep c ob q n hc hx) (a.free c ob q n hx) hc hx
  slot := fun c ob q n hc hx => by
    obtain ⟨sl, e1⟩ := a.slot c ob q n hc hx
    obtain ⟨sl', e2⟩ := b.slot c _ e1 (a.free c ob q n hx) hc hx
    exact ⟨sl', e2⟩
  free := fun c ob q n hx => by
    obtain ⟨o', e1⟩ := a.there c ob q hx
    exact b.free c o' e1 (a.free c ob q n hx) hx
  there := fun c ob q hx => by
    obtain ⟨o', e1⟩ := a.there c ob q hx
    exact b.there c o' e1 hx
  tups := fun c xs q => b.tups c xs (a.tups c xs q)
  frzs := fun c ob xs q => b.frzs c ob xs (a.frzs c ob xs q)
  tbls := fun c ps q => by
    obtain ⟨m1, e1⟩ := a.tbls c ps q
    obtain ⟨m2, e2⟩ := b.tbls c _ e1
    exact ⟨m1 ++ m2, by rw [e2, Array.append_assoc]⟩
theorem Un.kept (k : ∀ b u, h.get? b = some u → h'.get? b = some u) : Un fs ex H H h h' :=
  ⟨fun b ob q _ _ _ => k b ob q, fun b ob q _ _ _ => ⟨ob.slots, k b ob q⟩, fun _ _ _ n _ => n, fun b ob q _ => ⟨ob, k b ob q⟩, fun _ _ q => q, fun _ _ _ q => q, fun _ ps q => ⟨#[], by rw [q]; simp⟩⟩
theorem Un.refl : Un fs ex H H h h := Un.kept fun _ _ q => q
theorem Un.laid (k : ∀ b u, h.get? b = some u → h'.get? b = some u) (hp : h.objs.size ≤ a) (hn : H a = none) : Un fs ex H (upd H a o) h h' where
  keep := fun b u q _ _ _ => k b u q
  slot := fun b u q _ _ _ => ⟨u.slots, k b u q⟩
  free := fun b u q n _ => by rw [upd_ne (Nat.ne_of_lt (Nat.lt_of_lt_of_le (Heap.lt_size q) hp))]; exact n
  there := fun b u q _ => ⟨u, k b u q⟩
  tups := fun b xs q => by rw [upd_ne (ne_of_none q hn)]; exact q
  frzs := fun b u xs q => by rw [upd_ne (ne_of_none q hn)]; exact q
  tbls := fun b ps q => ⟨#[], by rw [upd_ne (ne_of_none q hn), q]; simp⟩
theorem Un.write (mu : Mut (H x)) (he : e = x ∨ H e = some (.own x)) (k : ∀ b u, b ≠ e → h.get? b = some u → h'.get? b = some u) (heo : ∃ u, h'.get? e = some u) : Un fs ex H (upd H x o) h h' := by
  have hx : ∀ b, H b = none → b ≠ x := fun b n z => by subst z; rw [n] at mu; exact mu
  have hb : ∀ b, H b = none → b ≠ e := fun b n z => by
    subst z
    rcases he with r | r
    · exact hx b n r
    · rw [n] at r; cases r
  have hm : ∀ b u, H b = some u → ¬ Mut (some u) → b ≠ x := fun b u q nm z => by subst z; rw [q] at mu; exact nm mu
  refine ⟨fun b u q n _ _ => k b u (hb b n) q, fun b u q n _ _ => ⟨u.slots, k b u (hb b n) q⟩, fun b u q n _ => by rw [upd_ne (hx b n)]; exact n, fun b u q _ => ?_,
    fun b xs q => by rw [upd_ne (hm b _ q fun z => z)]; exact q, fun b u xs q => by rw [upd_ne (hm b _ q fun z => z)]; exact q, fun b ps q => ⟨#[], by rw [upd_ne (hm b _ q fun z => z), q]; simp⟩⟩
  by_cases hbe : b = e
  · subst hbe; exact heo
  · exact ⟨u, k b u hbe q⟩
theorem Un.mono (u : Un fs ex H H1 h h1) (hs : ∀ b ∈ fs, b ∈ fs') (hx : ∀ b ∈ ex, b ∈ ex') : Un fs' ex' H H1 h h1 :=
  ⟨fun b ob q n hb he => u.keep b ob q n (fun z => hb (hs b z)) fun z => he (hx b z), fun _ _ q n _ he => u.any q n fun z => he (hx _ z), fun b ob q n he => u.free b ob q n fun z => he (hx b z), fun b ob q he => u.there b ob q fun z => he (hx b z), u.tups, u.frzs, u.tbls⟩
end

/-! ### the heap without what is tracked -/
noncomputable def trk (h : Heap) (H : Hp) : List Addr := (List.range h.objs.size).filter fun a => (H a).isSome
noncomputable def hidT (h : Heap) (H : Hp) : Heap := PySem.W.hideAll h (trk h H)
theorem hidT_size (h : Heap) (H : Hp) : (hidT h H).objs.size = h.objs.size := PySem.W.hideAll_size _ _
theorem hidT_get {h : Heap} {H : Hp} {b : Addr} {o : Obj} (e : h.get? b = some o) (n : H b = none) : (hidT h H).get? b = some o :=
  PySem.W.hideAll_get _ e fun hm => by
    have q : (H b).isSome = true := (List.mem_filter.mp hm).2
    rw [n] at q; simp at q
theorem of_hidT {h : Heap} {H : Hp} {b : Addr} {o : Obj} (e : (hidT h H).get? b = some o) : h.get? b = some o ∧ H b = none := by
  have e' : h.get? b = some o := PySem.W.of_hideAll (trk h H) e
  refine ⟨e', ?_⟩
  cases q : H b with
  | none => rfl
  | some x =>
    have hm : b ∈ trk h H := List.mem_filter.mpr ⟨List.mem_range.mpr (Heap.lt_size e'), by simp [q]⟩
    have z : (hidT h H).get? b = none := PySem.W.hideAll_none (trk h H) hm
    rw [z] at e; cases e

/-! ### OpenK's ledger, filled with every new object but one -/
noncomputable def allNews (g h : Heap) (L : Addr) : List (Addr × Obj) := (List.range h.objs.size).filterMap fun a => if a = L ∨ (g.get? a).isSome = true then none else (h.get? a).map fun o => (a, o)
noncomputable def rest (g h : Heap) (L d : Addr) : List (Addr × Obj) := (allNews g h L).filter fun p => decide (p.1 ≠ d)
end L2

namespace L2
open PySem PySem.Spec PyProof.Rows

/-- the module's facts, over the base: the heap at the law's entry without what is tracked there -/
structure Mod (K : PySem.W.Frag) (mg : Str → Option Value) (base : Heap) : Prop where
  kin : K.In base
  glob : base.Ns mainGlobals mg
  blt : ∃ mb, base.Ns builtinsNs mb ∧ ∀ x : Str, x ≠ "__name__" → mb x = bootBuiltins x
  nolimit : base.NoLimit

/-- the context: a def's body (or a comprehension's block) running. base: fixed through the whole law; s₀, H₀: the entry; outer: the frames whose slots others may change (a def's callers); stack: all frames that run;
   ex: iterators that were made ahead of the entry and are walked here (a comprehension's); fn: the names whose cells were made at the entry (a def: all; a comprehension's block: its own); calm: not within an except suite; pn: pins that every state bears; xe: what is wanted of an exception that leaves the code -/
structure Cx where
  prog : Program
  w : World
  K : PySem.W.Frag
  mg : Str → Option Value
  base : Heap
  A : Around
  N : List Str
  s₀ : Shared
  H₀ : Hp
  env : Env
  outer : List Env
  stack : List Env
  ex : List Addr
  fn : Str → Bool
  calm : Bool
  pn : List (Addr × Obj)
  xe : Value → Shared → Prop
/-- the callers' frames -/
noncomputable def frs (l : List Env) : List Addr := l.filterMap (·.frame)
noncomputable abbrev Cx.fs (X : Cx) : List Addr := frs X.outer

noncomputable def Vis (sc : Scope) (x : Str) : Prop := sc.names.lookup x = some .local ∨ sc.names.lookup x = some .cell ∨ sc.names.lookup x = some .free
noncomputable def Loc (sc : Scope) (x : Str) : Prop := sc.names.lookup x = some .local ∨ sc.names.lookup x = some .cell
noncomputable def Look (env : Env) (h : Heap) (m : Str → Option Value) (x : Str) (u : Value) : Prop :=
  (env.kindOf x = some .local ∧ m x = some u) ∨ ((env.kindOf x = some .cell ∨ env.kindOf x = some .free) ∧ ∃ c, env.cells.lookup x = some c ∧ h.IsCell c (some u))

structure Cx.Ok (X : Cx) : Prop where
  mod : Mod X.K X.mg X.base
  kind : X.env.scope.kind = .function
  glob : X.env.globals = mainGlobals
  blt : X.env.builtins = builtinsNs
  above : X.s₀.heap.objs.size ≤ X.env.locals
  inj : ∀ x y c, X.env.cells.lookup x = some c → X.env.cells.lookup y = some c → x = y
  has : ∀ x, (X.env.kindOf x = some .cell ∨ X.env.kindOf x = some .free) → ∃ c, X.env.cells.lookup x = some c
  cab : ∀ x c, X.fn x = true → X.env.cells.lookup x = some c → X.s₀.heap.objs.size ≤ c
  hd : X.calm = true → X.A.handled = none
  frames : X.A.frames = some X.stack
  stk : X.stack = X.outer ∨ (X.stack = X.env :: X.outer ∧ X.env.frame = some X.env.locals)
  exf : ∀ b ∈ X.ex, b ≠ X.env.locals ∧ ∀ x c, X.env.cells.lookup x = some c → c ≠ b
  bs : ∀ b o, X.base.get? b = some o → X.s₀.heap.get? b = some o ∧ X.H₀ b = none
  bsz : X.base.objs.size ≤ X.s₀.heap.objs.size
  noex : ∀ b o, X.base.get? b = some o → b ∉ X.ex
  exfs : ∀ b ∈ X.ex, b ∉ X.fs
  funs : X.s₀.heap.FunFrames X.base X.outer
  frf : ∀ b ∈ X.fs, X.H₀ b = none

structure Inv (X : Cx) (pins : List (Addr × Obj)) (σ : List (Option V)) (H : Hp) (s : Shared) : Prop where
  ok : X.Ok
  os : s.os = X.s₀.os
  bare : AllBare s.gens
  base : Un X.fs X.ex X.H₀ H X.s₀.heap s.heap
  loc : ∃ m, s.heap.Ns X.env.locals m ∧ ∀ (i : Nat) (x : Str) (v : V), X.N[i]? = some x → σ[i]? = some (some v) → Vis X.env.scope x → ∃ u, RelV v u ∧ Look X.env s.heap m x u
  cell : ∀ x c, X.env.cells.lookup x = some c → ∃ v, s.heap.IsCell c v
  free : H X.env.locals = none
  freeC : ∀ x c, X.env.cells.lookup x = some c → H c = none
  pin : ∀ p ∈ X.pn ++ pins, s.heap.get? p.1 = some p.2 ∧ H p.1 = none ∧ p.1 ≠ X.env.locals ∧ p.1 ∉ X.fs ∧ ∀ v, p.2.data ≠ .cell v
  hok : HOk X.prog X.w H s.heap
  len : σ.length = X.N.length

section
variable {X : Cx} {pins : List (Addr × Obj)} {σ : List (Option V)} {H H' : Hp} {s : Shared} {h' : Heap}

theorem Cx.Ok.nofr (ok : X.Ok) {b : Addr} {o : Obj} (e : X.base.get? b = some o) : b ∉ X.fs := fun hb => by
  have := (ok.funs.mem hb).1
  rw [e] at this; cases this
theorem Inv.bs (I : Inv X pins σ H s) : ∀ b o, X.base.get? b = some o → s.heap.get? b = some o ∧ H b = none := fun b o e =>
  ⟨I.base.keep b o (I.ok.bs b o e).1 (I.ok.bs b o e).2 (I.ok.nofr e) (I.ok.noex b o e), I.base.free b o (I.ok.bs b o e).1 (I.ok.bs b o e).2 (I.ok.noex b o e)⟩
theorem Inv.bk (I : Inv X pins σ H s) : ∀ b o, X.base.get? b = some o → s.heap.get? b = some o := fun b o e => (I.bs b o e).1
theorem Inv.mod (I : Inv X pins σ H s) : Mod X.K X.mg X.base := I.ok.mod
theorem Inv.kIn (I : Inv X pins σ H s) : X.K.In s.heap := I.ok.mod.kin.keeps I.bk
theorem Inv.nolimit (I : Inv X pins σ H s) : s.heap.NoLimit := I.ok.mod.nolimit.keeps I.bk
/-- the frame over the base: for OpenK's rules (K.In X.base is I.mod.kin) -/
theorem Inv.fr (I : Inv X pins σ H s) : ∃ m, Fr X.base X.env.locals s.heap m :=
  let ⟨m, hn, _⟩ := I.loc
  ⟨m, hn, I.bk, Nat.le_trans I.ok.bsz I.ok.above⟩
theorem Inv.lt (I : Inv X pins σ H s) : X.env.locals < s.heap.objs.size := let ⟨_, hn, _⟩ := I.loc; hn.lt
theorem Inv.sz (I : Inv X pins σ H s) : X.s₀.heap.objs.size ≤ s.heap.objs.size := Nat.le_trans I.ok.above (Nat.le_of_lt I.lt)
theorem Inv.nofs (I : Inv X pins σ H s) {a : Addr} (h : s.heap.objs.size ≤ a) : a ∉ X.fs := fun hb => by
  obtain ⟨_, o, ho, _⟩ := I.ok.funs.mem hb
  exact absurd (Nat.lt_of_lt_of_le (Heap.lt_size ho) (Nat.le_trans I.sz h)) (Nat.lt_irrefl _)
theorem Inv.cne (I : Inv X pins σ H s) : ∀ x c, X.env.cells.lookup x = some c → c ≠ X.env.locals := fun x c e z => by
  obtain ⟨v, o, ho, hd⟩ := I.cell x c e
  obtain ⟨m, ⟨o', es, ep, ho', hd', _⟩, _⟩ := I.loc
  rw [z, ho'] at ho; cases ho; rw [hd'] at hd; cases hd
theorem Inv.funs (I : Inv X pins σ H s) : s.heap.FunFrames X.base X.outer := by
  have all : ∀ (l : List Env), (∀ b ∈ frs l, b ∈ X.fs) → X.s₀.heap.FunFrames X.base l → s.heap.FunFrames X.base l := by
    intro l
    induction l with
    | nil => intro _ _; trivial
    | cons env r ih =>
      intro hs hl
      obtain ⟨hk, ⟨L, o, hf, hn, ho, hd⟩, hr⟩ := hl
      have hL : L ∈ X.fs := hs L (by unfold frs; rw [List.filterMap_cons, hf]; exact List.mem_cons_self)
      obtain ⟨sl, e⟩ := I.base.slot L o ho (I.ok.frf L hL) hL fun z => I.ok.exfs L z hL
      exact ⟨hk, ⟨L, _, hf, hn, e, hd⟩, ih (fun b hb => hs b (by unfold frs; rw [List.filterMap_cons, hf]; exact List.mem_cons_of_mem _ hb)) hr⟩
  exact all X.outer (fun _ hb => hb) I.ok.funs

/-- the frames that run, for a call -/
theorem Inv.stack (I : Inv X pins σ H s) : s.heap.FunFrames X.base X.stack := by
  rcases I.ok.stk with e | ⟨e, hf⟩
  · rw [e]; exact I.funs
  · rw [e]
    obtain ⟨m, hn, _⟩ := I.loc
    refine .cons (by rw [I.ok.kind]; decide) hf hn ?_ I.funs
    exact Heap.get?_none_of_le (Nat.le_trans I.ok.bsz I.ok.above)
theorem Inv.stkSub (I : Inv X pins σ H s) : ∀ b ∈ frs X.stack, b ∈ X.env.locals :: X.fs := fun b hb => by
  rcases I.ok.stk with e | ⟨e, hf⟩
  · rw [e] at hb; exact List.mem_cons_of_mem _ hb
  · rw [e] at hb
    unfold frs at hb
    rw [List.filterMap_cons, hf] at hb
    exact hb
theorem Inv.stkFree (I : Inv X pins σ H s) : ∀ b ∈ frs X.stack, H b = none := fun b hb => by
  rcases List.mem_cons.mp (I.stkSub b hb) with e | hb
  · rw [e]; exact I.free
  · obtain ⟨_, o, ho, _⟩ := I.ok.funs.mem hb
    exact I.base.free b o ho (I.ok.frf b hb) fun z => I.ok.exfs b z hb

/-- THE STEP: the untracked objects but the frame and the records at ch are kept (the callers' frames up to slots), the frame's map is kept, the new abstract heap is held -/
theorem Inv.step {g' : Array GenState} {t' : Nat} {d' : Drawn} {ch : List Addr} (I : Inv X pins σ H s)
    (hch : ∀ b ∈ ch, (b ∈ X.ex ∨ X.s₀.heap.objs.size ≤ b) ∧ b ≠ X.env.locals ∧ (∀ x c, X.env.cells.lookup x = some c → c ≠ b) ∧ ∀ p ∈ X.pn ++ pins, p.1 ≠ b)
    (keep : ∀ b o, b ≠ X.env.locals → b ∉ X.fs → b ∉ ch → s.heap.get? b = some o → H b = none → h'.get? b = some o)
    (slot : ∀ b o, b ≠ X.env.locals → b ∈ X.fs → b ∉ ch → s.heap.get? b = some o → H b = none → ∃ sl, h'.get? b = some { o with slots := sl }) (free : ∀ b o, b ∉ ch → s.heap.get? b = some o → H b = none → H' b = none)
    (there : ∀ b o, b ∉ ch → s.heap.get? b = some o → ∃ o', h'.get? b = some o')
    (tups : ∀ b xs, H b = some (.tup xs) → H' b = some (.tup xs)) (frzs : ∀ b o u, H b = some (.frz o u) → H' b = some (.frz o u)) (tbls : ∀ b ps, H b = some (.tbl ps) → ∃ more, H' b = some (.tbl (ps ++ more)))
    (ns : ∀ m, s.heap.Ns X.env.locals m → h'.Ns X.env.locals m) (hok : HOk X.prog X.w H' h') (hg : AllBare g') :
    Inv X pins σ H' { s with heap := h', gens := g', drawn := d', toks := t' } := by
  have neL : ∀ b o, X.s₀.heap.get? b = some o → b ≠ X.env.locals := fun b o e => Nat.ne_of_lt (Nat.lt_of_lt_of_le (Heap.lt_size e) I.ok.above)
  have neC : ∀ b o, X.s₀.heap.get? b = some o → b ∉ X.ex → b ∉ ch := fun b o e hx hb => by
    rcases (hch b hb).1 with z | z
    · exact hx z
    · exact absurd (Nat.lt_of_lt_of_le (Heap.lt_size e) z) (Nat.lt_irrefl _)
  have cellK : ∀ x c, X.env.cells.lookup x = some c → ∀ v, s.heap.IsCell c v → h'.IsCell c v := fun x c e v ⟨o, ho, hd⟩ => by
    have nch : c ∉ ch := fun z => (hch c z).2.2.1 x c e rfl
    by_cases hc : c ∈ X.fs
    · obtain ⟨sl, q⟩ := slot c o (I.cne x c e) hc nch ho (I.freeC x c e)
      exact ⟨_, q, hd⟩
    · exact ⟨o, keep c o (I.cne x c e) hc nch ho (I.freeC x c e), hd⟩
  refine ⟨I.ok, I.os, hg, ⟨fun b o e n hb hx => ?_, fun b o e n hb hx => ?_, fun b o e n hx => ?_, fun b o e hx => ?_, fun b xs e => tups b xs (I.base.tups b xs e), fun b o xs e => frzs b o xs (I.base.frzs b o xs e), fun b ps e => ?_⟩, ?_, fun x c e => ?_, ?_, fun x c e => ?_, fun p hp => ?_, hok, I.len⟩
  · exact keep b o (neL b o e) hb (neC b o e hx) (I.base.keep b o e n hb hx) (I.base.free b o e n hx)
  · obtain ⟨sl, e1⟩ := I.base.slot b o e n hb hx
    obtain ⟨sl', e2⟩ := slot b _ (neL b o e) hb (neC b o e hx) e1 (I.base.free b o e n hx)
    exact ⟨sl', e2⟩
  · obtain ⟨o', e1⟩ := I.base.there b o e hx
    exact free b o' (neC b o e hx) e1 (I.base.free b o e n hx)
  · obtain ⟨o', e1⟩ := I.base.there b o e hx
    exact there b o' (neC b o e hx) e1
  · obtain ⟨m1, e1⟩ := I.base.tbls b ps e
    obtain ⟨m2, e2⟩ := tbls b _ e1
    exact ⟨m1 ++ m2, by rw [e2, Array.append_assoc]⟩
  · obtain ⟨m, hn, hl⟩ := I.loc
    refine ⟨m, ns m hn, fun i x v e1 e2 e3 => ?_⟩
    obtain ⟨u, r, l⟩ := hl i x v e1 e2 e3
    refine ⟨u, r, ?_⟩
    rcases l with l | ⟨k, c, e, z⟩
    · exact .inl l
    · exact .inr ⟨k, c, e, cellK x c e _ z⟩
  · obtain ⟨v, z⟩ := I.cell x c e
    exact ⟨v, cellK x c e v z⟩
  · obtain ⟨m, ⟨o, _, _, ho, _⟩, _⟩ := I.loc
    exact free _ o (fun z => (hch _ z).2.1 rfl) ho I.free
  · obtain ⟨v, o, ho, hd⟩ := I.cell x c e
    exact free c o (fun z => (hch c z).2.2.1 x c e rfl) ho (I.freeC x c e)
  · obtain ⟨e, n, ne, nf, d⟩ := I.pin p hp
    have nch : p.1 ∉ ch := fun z => (hch p.1 z).2.2.2 p hp rfl
    exact ⟨keep p.1 p.2 ne nf nch e n, free p.1 p.2 nch e n, ne, nf, d⟩
/-- .. where the frame's own object is kept too -/
theorem Inv.un {t' : Nat} (I : Inv X pins σ H s) (u : Un X.fs [] H H' s.heap h') (hok : HOk X.prog X.w H' h') : Inv X pins σ H' { s with heap := h', toks := t' } := by
  obtain ⟨m, ⟨o, es, ep, ho, r⟩, _⟩ := id I.loc
  obtain ⟨sl, hL⟩ := u.any ho I.free (by simp)
  exact I.step (g' := s.gens) (d' := s.drawn) (ch := []) (fun _ z => nomatch z) (fun b o _ hb _ e n => u.keep b o e n hb (by simp)) (fun b o _ hb _ e n => u.slot b o e n hb (by simp)) (fun b o _ e n => u.free b o e n (by simp)) (fun b o _ e => u.there b o e (by simp)) u.tups u.frzs u.tbls (fun m' hm => by
    obtain ⟨o', es', ep', ho', r'⟩ := hm
    rw [ho] at ho'; cases ho'
    exact ⟨_, es', ep', hL, r'⟩) hok I.bare
/-- behind a call (or a comprehension's block): the slots of this frame may have changed too, the records at ch may have turned -/
theorem Inv.call {g' : Array GenState} {t' : Nat} {d' : Drawn} {ch : List Addr} (I : Inv X pins σ H s) (u : Un (frs X.stack) ch H H' s.heap h') (hok : HOk X.prog X.w H' h') (hg : AllBare g')
    (hch : ∀ b ∈ ch, (b ∈ X.ex ∨ X.s₀.heap.objs.size ≤ b) ∧ b ≠ X.env.locals ∧ (∀ x c, X.env.cells.lookup x = some c → c ≠ b) ∧ ∀ p ∈ X.pn ++ pins, p.1 ≠ b) :
    Inv X pins σ H' { s with heap := h', gens := g', drawn := d', toks := t' } := by
  obtain ⟨m, ⟨o, es, ep, ho, r⟩, _⟩ := id I.loc
  obtain ⟨sl, hL⟩ := u.any ho I.free fun z => (hch _ z).2.1 rfl
  exact I.step (ch := ch) hch (fun b o hL hb hc e n => u.keep b o e n (fun z => (List.mem_cons.mp (I.stkSub b z)).elim hL hb) hc) (fun b o _ _ hc e n => u.any e n hc) (fun b o hc e n => u.free b o e n hc) (fun b o hc e => u.there b o e hc) u.tups u.frzs u.tbls (fun m' hm => by
    obtain ⟨o', es', ep', ho', r'⟩ := hm
    rw [ho] at ho'; cases ho'
    exact ⟨_, es', ep', hL, r'⟩) hok hg
/-- an untracked record of ours (an iterator) has turned -/
theorem Inv.turned {t' : Nat} {it : Addr} (I : Inv X pins σ H s) (k : ∀ b o, b ≠ it → s.heap.get? b = some o → h'.get? b = some o) (hn : H it = none) (hL : it ≠ X.env.locals)
    (h1 : it ∈ X.ex ∨ X.s₀.heap.objs.size ≤ it) (h2 : ∀ x c, X.env.cells.lookup x = some c → c ≠ it) (h3 : ∀ p ∈ X.pn ++ pins, p.1 ≠ it) : Inv X pins σ H { s with heap := h', toks := t' } := by
  have nit : ∀ b u, H b = some u → b ≠ it := fun b u e z => by rw [z, hn] at e; cases e
  refine I.step (g' := s.gens) (d' := s.drawn) (ch := [it]) (fun b hb => ?_) (fun b o _ _ hc e _ => k b o (fun z => hc (by simp [z])) e) (fun b o _ _ hc e _ => ⟨o.slots, k b o (fun z => hc (by simp [z])) e⟩) (fun _ _ _ _ n => n)
    (fun b o hc e => ⟨o, k b o (fun z => hc (by simp [z])) e⟩) (fun _ _ e => e) (fun _ _ _ e => e) (fun b ps e => ⟨#[], by rw [e]; simp⟩) (fun m hm => ?_) (fun b u e => ?_) I.bare
  · have e : b = it := by simpa using hb
    subst e
    exact ⟨h1, hL, h2, h3⟩
  · obtain ⟨o, es, ep, ho, r⟩ := hm
    exact ⟨o, es, ep, k _ o (Ne.symm hL) ho, r⟩
  · refine (I.hok b u e).stay (fun c v hc q => k c v ?_ q) (fun _ q => q) fun _ _ q => q
    rcases hc with z | z
    · rw [z]; exact nit b u e
    · exact nit c _ z
theorem Inv.tok (I : Inv X pins σ H s) (t : Nat) : Inv X pins σ H { s with toks := t } := I.un (h' := s.heap) (t' := t) Un.refl I.hok
/-- all objects kept -/
theorem Inv.kept {t' : Nat} (I : Inv X pins σ H s) (k : ∀ b u, s.heap.get? b = some u → h'.get? b = some u) : Inv X pins σ H { s with heap := h', toks := t' } := I.un (Un.kept k) (I.hok.kept k)
/-- a new object laid and tracked -/
theorem Inv.laid {a : Addr} {o : HO} {t' : Nat} (I : Inv X pins σ H s) (k : ∀ b u, s.heap.get? b = some u → h'.get? b = some u) (hp : s.heap.objs.size ≤ a) (new : ObjOk X.prog X.w (upd H a o) h' a o) :
    Inv X pins σ (upd H a o) { s with heap := h', toks := t' } := I.un (Un.laid k hp (I.hok.fresh hp)) (I.hok.laid k hp new)
/-- an object written -/
theorem Inv.write {x e : Addr} {o : HO} {t' : Nat} (I : Inv X pins σ H s) (mu : Mut (H x)) (he : e = x ∨ H e = some (.own x)) (k : ∀ b u, b ≠ e → s.heap.get? b = some u → h'.get? b = some u) (heo : ∃ u, h'.get? e = some u)
    (new : ObjOk X.prog X.w (upd H x o) h' x o) : Inv X pins σ (upd H x o) { s with heap := h', toks := t' } := I.un (Un.write mu he k heo) (I.hok.write mu he k heo new)
theorem Inv.pins_of {pins' : List (Addr × Obj)} (I : Inv X pins σ H s) (h : ∀ p ∈ pins', s.heap.get? p.1 = some p.2 ∧ H p.1 = none ∧ p.1 ≠ X.env.locals ∧ p.1 ∉ X.fs ∧ ∀ v, p.2.data ≠ .cell v) : Inv X pins' σ H s :=
  ⟨I.ok, I.os, I.bare, I.base, I.loc, I.cell, I.free, I.freeC, fun p hp => (List.mem_append.mp hp).elim (fun z => I.pin p (List.mem_append_left _ z)) (h p), I.hok, I.len⟩

theorem nodup_ix {N : List Str} (hN : N.Nodup) {i j : Nat} {x : Str} (a : N[i]? = some x) (b : N[j]? = some x) : i = j := by
  obtain ⟨h1, e1⟩ := List.getElem?_eq_some_iff.mp a
  obtain ⟨h2, e2⟩ := List.getElem?_eq_some_iff.mp b
  exact (List.getElem_inj hN).mp (e1.trans e2.symm)

/-- a name is stored; what changed -/
theorem store_ok2 {M : Model} {A : Around} {E : Value → Shared → Prop} {i : Nat} {x : Str} {v : V} {u : Value} {Q : Unit → Shared → Prop} (I : Inv X pins σ H s) (hN : X.N.Nodup) (hi : X.N[i]? = some x) (hx : Loc X.env.scope x) (r : RelV v u)
    (h : ∀ s', Inv X pins (σ.set i (some v)) H s' → (∃ a, Heap.SameBut a s.heap s'.heap ∧ (a = X.env.locals ∨ X.env.cells.lookup x = some a)) → Q () s') (hf : X.fn x = true ∨ X.env.scope.names.lookup x = some .local := by first | exact .inl rfl | exact .inr rfl | assumption) : wpAny M A (storeName X.env x u) Q E s := by
  obtain ⟨m, hn, hl⟩ := id I.loc
  have hcls : (X.env.scope.kind == .class || (X.env.scope.kind == .module && X.env.locals != X.env.globals)) = false := by rw [I.ok.kind]; rfl
  have hiσ : i < σ.length := by rw [I.len]; exact (List.getElem?_eq_some_iff.mp hi).1
  have cne := I.cne
  have tracked : ∀ {a : Addr} {h' : Heap}, (∃ o, s.heap.get? a = some o ∧ H a = none) → Heap.SameBut a s.heap h' → HOk X.prog X.w H h' := fun {a h'} ha hs b ob e => by
    obtain ⟨_, _, hfree⟩ := ha
    refine (I.hok b ob e).stay (fun c w' hc q => (hs.2 c ?_).trans q) (fun _ q => q) fun _ _ q => q
    rintro rfl
    rcases hc with rfl | hc
    · rw [hfree] at e; cases e
    · rw [hfree] at hc; cases hc
  rcases hx with hk | hk
  · refine wpAny_storeName_local hk hn (fun h' hn' hs => ?_) hcls
    obtain ⟨oL, _, _, hoL, _⟩ := id hn
    refine h _ ⟨I.ok, I.os, I.bare, ⟨fun b o e n hb hx => ?_, fun b o e n hb hx => ?_, I.base.free, fun b o e hx => ?_, I.base.tups, I.base.frzs, I.base.tbls⟩, ⟨_, hn', fun j y v' e1 e2 e3 => ?_⟩, fun y c e => ?_, I.free, I.freeC, fun p hp => ?_, tracked ⟨oL, hoL, I.free⟩ hs, by simpa using I.len⟩ ⟨_, hs, .inl rfl⟩
    · exact (hs.2 b (Nat.ne_of_lt (Nat.lt_of_lt_of_le (Heap.lt_size e) I.ok.above))).trans (I.base.keep b o e n hb hx)
    · obtain ⟨sl, e1⟩ := I.base.slot b o e n hb hx
      exact ⟨sl, (hs.2 b (Nat.ne_of_lt (Nat.lt_of_lt_of_le (Heap.lt_size e) I.ok.above))).trans e1⟩
    · obtain ⟨o', e1⟩ := I.base.there b o e hx
      exact ⟨o', (hs.2 b (Nat.ne_of_lt (Nat.lt_of_lt_of_le (Heap.lt_size e) I.ok.above))).trans e1⟩
    · by_cases hj : j = i
      · subst hj
        rw [hi] at e1; cases e1
        rw [List.getElem?_set_self hiσ] at e2
        cases e2
        exact ⟨u, r, .inl ⟨hk, by simp⟩⟩
      · rw [List.getElem?_set_ne (Ne.symm hj)] at e2
        obtain ⟨u', r', q⟩ := hl j y v' e1 e2 e3
        refine ⟨u', r', ?_⟩
        rcases q with ⟨k, e⟩ | ⟨k, c, e, z⟩
        · refine .inl ⟨k, ?_⟩
          have : y ≠ x := fun e => hj (nodup_ix hN e1 (e ▸ hi))
          simp [this, e]
        · exact .inr ⟨k, c, e, z.sameBut hs (cne y c e)⟩
    · obtain ⟨w', z⟩ := I.cell y c e
      exact ⟨w', z.sameBut hs (cne y c e)⟩
    · obtain ⟨e, n, ne, nf, d⟩ := I.pin p hp
      exact ⟨(hs.2 p.1 ne).trans e, n, ne, nf, d⟩
  · have hfn : X.fn x = true := by
      rcases hf with z | z
      · exact z
      · rw [z] at hk; cases hk
    obtain ⟨c, hc⟩ := I.ok.has x (.inl hk)
    obtain ⟨w', z⟩ := I.cell x c hc
    refine wpAny_storeName_cell I.ok.kind hk hc z (fun h' hc' hs => ?_)
    obtain ⟨oc, hoc, hocd⟩ := id z
    refine h { s with heap := h' } ⟨I.ok, I.os, I.bare, ⟨fun b o e n hb hx => ?_, fun b o e n hb hx => ?_, I.base.free, fun b o e hx => ?_, I.base.tups, I.base.frzs, I.base.tbls⟩, ⟨m, hn.sameBut hs (Ne.symm (cne x c hc)), fun j y v' e1 e2 e3 => ?_⟩, fun y c' e => ?_, I.free, I.freeC, fun p hp => ?_, tracked ⟨oc, hoc, I.freeC x c hc⟩ hs, by simpa using I.len⟩ ⟨c, hs, .inr hc⟩
    · exact (hs.2 b (Nat.ne_of_lt (Nat.lt_of_lt_of_le (Heap.lt_size e) (I.ok.cab x c hfn hc)))).trans (I.base.keep b o e n hb hx)
    · obtain ⟨sl, e1⟩ := I.base.slot b o e n hb hx
      exact ⟨sl, (hs.2 b (Nat.ne_of_lt (Nat.lt_of_lt_of_le (Heap.lt_size e) (I.ok.cab x c hfn hc)))).trans e1⟩
    · obtain ⟨o', e1⟩ := I.base.there b o e hx
      exact ⟨o', (hs.2 b (Nat.ne_of_lt (Nat.lt_of_lt_of_le (Heap.lt_size e) (I.ok.cab x c hfn hc)))).trans e1⟩
    · by_cases hj : j = i
      · subst hj
        rw [hi] at e1; cases e1
        rw [List.getElem?_set_self hiσ] at e2
        cases e2
        exact ⟨u, r, .inr ⟨.inl hk, c, hc, hc'⟩⟩
      · rw [List.getElem?_set_ne (Ne.symm hj)] at e2
        obtain ⟨u', r', q⟩ := hl j y v' e1 e2 e3
        refine ⟨u', r', ?_⟩
        rcases q with q | ⟨k, c', e, z'⟩
        · exact .inl q
        · refine .inr ⟨k, c', e, z'.sameBut hs ?_⟩
          rintro rfl
          exact hj (nodup_ix hN e1 (I.ok.inj _ _ _ e hc ▸ hi))
    · by_cases hcc : c' = c
      · subst hcc; exact ⟨_, hc'⟩
      · obtain ⟨w2, z2⟩ := I.cell y c' e
        exact ⟨w2, z2.sameBut hs hcc⟩
    · obtain ⟨e, n, ne, nf, d⟩ := I.pin p hp
      refine ⟨(hs.2 p.1 ?_).trans e, n, ne, nf, d⟩
      intro q
      rw [q, hoc] at e
      have q' : oc = p.2 := Option.some.inj e
      exact d w' (by rw [← q']; exact hocd)
theorem store_ok {M : Model} {A : Around} {E : Value → Shared → Prop} {i : Nat} {x : Str} {v : V} {u : Value} {Q : Unit → Shared → Prop} (I : Inv X pins σ H s) (hN : X.N.Nodup) (hi : X.N[i]? = some x) (hx : Loc X.env.scope x) (r : RelV v u)
    (h : ∀ s', Inv X pins (σ.set i (some v)) H s' → Q () s') (hf : X.fn x = true ∨ X.env.scope.names.lookup x = some .local := by first | exact .inl rfl | exact .inr rfl | assumption) : wpAny M A (storeName X.env x u) Q E s :=
  store_ok2 I hN hi hx r (fun s' I' _ => h s' I') hf
/-- behind a call or a block, the state as it is -/
theorem Inv.call' {s' : Shared} {ch : List Addr} (I : Inv X pins σ H s) (ho : s'.os = s.os) (u : Un (frs X.stack) ch H H' s.heap s'.heap) (hok : HOk X.prog X.w H' s'.heap) (hg : AllBare s'.gens)
    (hch : ∀ b ∈ ch, (b ∈ X.ex ∨ X.s₀.heap.objs.size ≤ b) ∧ b ≠ X.env.locals ∧ (∀ x c, X.env.cells.lookup x = some c → c ≠ b) ∧ ∀ p ∈ X.pn ++ pins, p.1 ≠ b) : Inv X pins σ H' s' := by
  obtain ⟨h', g', d', t', o'⟩ := s'
  have e : o' = s.os := ho
  subst e
  exact I.call (g' := g') (t' := t') (d' := d') u hok hg hch
end

/-! ### the judgements -/
/-- an exception: its class, its own dict's address (where it has one), the abstract heap behind it -/
noncomputable abbrev XK := Value → Option Addr → Hp → Prop
noncomputable abbrev St := List (Option V)
noncomputable abbrev VK := V → Hp → Prop
/-- an expression's reading; a test's; an argument list's -/
noncomputable abbrev TE := St → Hp → VK → Prop
noncomputable abbrev TT := St → Hp → (Bool → Hp → Prop) → Prop
noncomputable abbrev TA := St → Hp → (List V → Hp → Prop) → Prop
/-- what is wanted behind a statement -/
structure Ends where
  nx : St → Hp → Prop
  rt : VK
  bk : St → Hp → Prop := fun _ _ => False
  ct : St → Hp → Prop := fun _ _ => False
noncomputable abbrev TS := Ends → St → Hp → Prop

inductive EP (X : Cx) (pins : List (Addr × Obj)) (σ : St) (Q : VK) (u : Value) (s' : Shared) : Prop
  | mk (v : V) (H' : Hp) (I : Inv X pins σ H' s') (r : RelV v u) (q : Q v H') : EP X pins σ Q u s'
noncomputable def TP (X : Cx) (pins : List (Addr × Obj)) (σ : St) (Q : Bool → Hp → Prop) (b : Bool) (s' : Shared) : Prop := ∃ H', Inv X pins σ H' s' ∧ Q b H'
inductive AP (X : Cx) (pins : List (Addr × Obj)) (σ : St) (Q : List V → Hp → Prop) (us : List Value) (s' : Shared) : Prop
  | mk (vs : List V) (H' : Hp) (I : Inv X pins σ H' s') (r : Vals vs us) (q : Q vs H') : AP X pins σ Q us s'
noncomputable def SP (X : Cx) (pins : List (Addr × Obj)) (D : Ends) (f : Flow) (s' : Shared) : Prop :=
  match f with
  | .next => ∃ σ' H', Inv X pins σ' H' s' ∧ D.nx σ' H'
  | .brk => ∃ σ' H', Inv X pins σ' H' s' ∧ D.bk σ' H'
  | .cont => ∃ σ' H', Inv X pins σ' H' s' ∧ D.ct σ' H'
  | .ret u => ∃ v σ' H', Inv X pins σ' H' s' ∧ RelV v u ∧ D.rt v H'

noncomputable def PE (X : Cx) (e : Expr) (t : TE) : Prop :=
  ∀ (pins : List (Addr × Obj)) (s : Shared) (σ : St) (H : Hp) (Q : VK), Inv X pins σ H s → t σ H Q → wpAny (model X.prog X.w) X.A (eval e X.env) (EP X pins σ Q) X.xe s
noncomputable def PT (X : Cx) (e : Expr) (t : TT) : Prop :=
  ∀ (pins : List (Addr × Obj)) (s : Shared) (σ : St) (H : Hp) (Q : Bool → Hp → Prop), Inv X pins σ H s → t σ H Q → wpAny (model X.prog X.w) X.A (isTrue e X.env (eval e X.env)) (TP X pins σ Q) X.xe s
/-- a test whatever its 'whole' is (and, or) -/
noncomputable def PW (X : Cx) (e : Expr) (t : TT) : Prop :=
  ∀ (whole : Sem Value) (pins : List (Addr × Obj)) (s : Shared) (σ : St) (H : Hp) (Q : Bool → Hp → Prop), Inv X pins σ H s → t σ H Q → wpAny (model X.prog X.w) X.A (isTrue e X.env whole) (TP X pins σ Q) X.xe s
theorem PW.pt {X : Cx} {e : Expr} {t : TT} (h : PW X e t) : PT X e t := h _
/-- an argument list (no star), from the left -/
noncomputable def PA (X : Cx) (es : List Expr) (t : TA) : Prop :=
  ∀ (pos : Pos) (pins : List (Addr × Obj)) (s : Shared) (σ : St) (H : Hp) (Q : List V → Hp → Prop), Inv X pins σ H s → t σ H Q → wpAny (model X.prog X.w) X.A (spliced (backTo pos (starEach es X.env))) (AP X pins σ Q) X.xe s
noncomputable def PS (X : Cx) (st : Stmt) (t : TS) : Prop :=
  ∀ (pins : List (Addr × Obj)) (s : Shared) (σ : St) (H : Hp) (D : Ends), Inv X pins σ H s → t D σ H → wpAny (model X.prog X.w) X.A (exec st X.env) (SP X pins D) X.xe s
noncomputable def PSs (X : Cx) (st : List Stmt) (t : TS) : Prop :=
  ∀ (pins : List (Addr × Obj)) (s : Shared) (σ : St) (H : Hp) (D : Ends), Inv X pins σ H s → t D σ H → wpAny (model X.prog X.w) X.A (execs st X.env) (SP X pins D) X.xe s
/-- weaken the end -/
theorem thn {α : Type} {t : Sem α} {Q Q' : α → Shared → Prop} {M : Model} {A : Around} {E : Value → Shared → Prop} {s : Shared} (h : wpAny M A t Q E s) (hQ : ∀ a s, Q a s → Q' a s) : wpAny M A t Q' E s := wpAny_mono h hQ fun _ _ x => x
end L2

namespace L2
open PySem PySem.Spec PyProof.Rows
section
variable {X : Cx}

/-! ### names and constants -/
noncomputable def tVar (i : Nat) : TE := fun σ H Q => ∃ v, σ[i]? = some (some v) ∧ Q v H
noncomputable def tC (v : V) : TE := fun _ H Q => Q v H
theorem pe_var {i : Nat} {x : Str} {pos : Pos} (hN : X.N[i]? = some x) (hv : Vis X.env.scope x) (hd : (x == ("__debug__" : Str)) = false := by decide) (hcd : (x == ("__classdict__" : Str)) = false := by decide) : PE X (.Name x pos) (tVar i) := by
  intro pins s σ H Q I h
  obtain ⟨v, e, h⟩ := h
  obtain ⟨m, hn, hl⟩ := I.loc
  obtain ⟨u, r, l⟩ := hl i x v hN e hv
  have fin : EP X pins σ Q u s := ⟨v, H, I, r, h⟩
  rcases l with ⟨hk, hm⟩ | ⟨hk, c, hc, hcell⟩
  · exact wpAny_Name (wpAny_loadName_local I.ok.kind hk hn hm fin) hd
  · rcases hk with hk | hk
    · exact wpAny_Name (wpAny_loadName_cell I.ok.kind hk hc hcell fin) hd
    · exact wpAny_Name (wpAny_loadName_free I.ok.kind hk hc hcell fin hcd) hd
theorem pe_int {i j pos} : PE X (.Constant (.int i) j pos) (tC (.int i)) := fun _ _ _ H _ I h => wpAny_Constant_int ⟨.int i, H, I.tok _, ⟨_, rfl⟩, h⟩
theorem pe_bl {b j pos} : PE X (.Constant (.bool b) j pos) (tC (.bl b)) := fun _ _ _ H _ I h => Constant_bool ⟨.bl b, H, I, rfl, h⟩
theorem pe_non {j pos} : PE X (.Constant .none j pos) (tC .non) := fun _ _ _ H _ I h => Constant_none ⟨.non, H, I, rfl, h⟩
theorem pe_str {x j pos} : PE X (.Constant (.str x) j pos) (tC (.str x)) := fun _ _ _ H _ I h => Calls.Constant_str ⟨.str x, H, I.tok _, ⟨_, rfl⟩, h⟩

/-- a global name of the def -/
noncomputable def Gl (X : Cx) (x : Str) : Prop := X.env.kindOf x = some .globalImplicit
theorem ld_glob {E : Value → Shared → Prop} {pins : List (Addr × Obj)} {s : Shared} {σ : St} {H : Hp} {x : Str} {u : Value} {pos : Pos} {Q : Value → Shared → Prop} (I : Inv X pins σ H s) (hg : Gl X x) (hm : X.mg x = some u) (h : Q u s)
    (hd : (x == ("__debug__" : Str)) = false := by decide) : wpAny (model X.prog X.w) X.A (eval (.Name x pos) X.env) Q E s :=
  Calls.Name_function_global I.ok.kind hg (Calls.loadGlobal_global (by rw [I.ok.glob]; exact I.mod.glob.keeps I.bk) hm h) hd
theorem ld_blt {E : Value → Shared → Prop} {pins : List (Addr × Obj)} {s : Shared} {σ : St} {H : Hp} {x : Str} {u : Value} {pos : Pos} {Q : Value → Shared → Prop} (I : Inv X pins σ H s) (hg : Gl X x) (hm : X.mg x = none) (hv : bootBuiltins x = some u) (h : Q u s)
    (hn : x ≠ "__name__" := by decide) (hd : (x == ("__debug__" : Str)) = false := by decide) : wpAny (model X.prog X.w) X.A (eval (.Name x pos) X.env) Q E s := by
  obtain ⟨mb, h1, h2⟩ := I.mod.blt
  exact Calls.Name_function_global I.ok.kind hg (Calls.loadGlobal_builtin (by rw [I.ok.glob]; exact I.mod.glob.keeps I.bk) hm (by rw [I.ok.blt]; exact h1.keeps I.bk) ((h2 x hn).trans hv) h) hd
/-- a module's constant, a class, a function, as a value -/
theorem pe_glob {x : Str} {v : V} {u : Value} {pos : Pos} (hg : Gl X x) (hm : X.mg x = some u) (r : RelV v u) (hd : (x == ("__debug__" : Str)) = false := by decide) : PE X (.Name x pos) (tC v) :=
  fun _ _ _ H _ I h => ld_glob I hg hm ⟨v, H, I, r, h⟩ hd
theorem pe_bltn {x : Str} {v : V} {u : Value} {pos : Pos} (hg : Gl X x) (hm : X.mg x = none) (hv : bootBuiltins x = some u) (r : RelV v u) (hn : x ≠ "__name__" := by decide) (hd : (x == ("__debug__" : Str)) = false := by decide) : PE X (.Name x pos) (tC v) :=
  fun _ _ _ H _ I h => ld_blt I hg hm hv ⟨v, H, I, r, h⟩ hn hd

/-! ### arithmetic -/
variable {a b : Expr} {ta tb : TE} {pos : Pos}
/-! ### comparisons -/
/-- a comparison as a value, as a test -/
noncomputable def tB (t : TE) : TT := fun σ H Q => t σ H fun x H1 => ∃ c, x = .bl c ∧ Q c H1
/-- an expression whose value is a bool, as a test -/
theorem pt_val {e : Expr} {t : TE} (h : PE X e t) (he : ∀ whole, isTrue e X.env whole = (do let v ← whole; standAt e.pos; holding [v] (truthy v)) := by intro _; rfl) : PT X e (tB t) := by
  intro pins s σ H Q I hw
  refine isTrue_plain (thn (h pins s σ H _ I hw) fun v s1 ⟨x, H1, I1, r1, q1⟩ => ?_) (he _)
  obtain ⟨d, rfl, q⟩ := q1
  cases r1
  exact wpAny_truthy_bool ⟨H1, I1, q⟩

/-! ### and, or, not -/
variable {tA tB' : TT} {rest : List Expr}
noncomputable def tAnd (t u : TT) : TT := fun σ H Q => t σ H fun c H1 => if c = true then u σ H1 Q else Q false H1
noncomputable def tOr (t u : TT) : TT := fun σ H Q => t σ H fun c H1 => if c = true then Q true H1 else u σ H1 Q
noncomputable def tNot (t : TT) : TT := fun σ H Q => t σ H fun c H1 => Q (!c) H1
theorem pw_and1 (ha : PT X a tA) : PW X (.BoolOp .And [a] pos) tA := by
  intro wh pins s σ H Q I h
  refine isTrue_and (thn (ha pins s σ H Q I h) fun c s1 e => ?_)
  cases c with
  | true => exact isTrue_and_nil e
  | false => exact e
theorem pw_or1 (ha : PT X a tA) : PW X (.BoolOp .Or [a] pos) tA := by
  intro wh pins s σ H Q I h
  refine isTrue_or (thn (ha pins s σ H Q I h) fun c s1 e => ?_)
  cases c with
  | false => exact isTrue_or_nil e
  | true => exact e
theorem pw_and (ha : PT X a tA) (hb : PW X (.BoolOp .And (b :: rest) pos) tB') : PW X (.BoolOp .And (a :: b :: rest) pos) (tAnd tA tB') := by
  intro wh pins s σ H Q I h
  refine isTrue_and (thn (ha pins s σ H _ I h) fun c s1 ⟨H1, I1, q1⟩ => ?_)
  cases c with
  | true => exact hb wh pins s1 σ H1 Q I1 q1
  | false => exact ⟨H1, I1, q1⟩
theorem pw_or (ha : PT X a tA) (hb : PW X (.BoolOp .Or (b :: rest) pos) tB') : PW X (.BoolOp .Or (a :: b :: rest) pos) (tOr tA tB') := by
  intro wh pins s σ H Q I h
  refine isTrue_or (thn (ha pins s σ H _ I h) fun c s1 ⟨H1, I1, q1⟩ => ?_)
  cases c with
  | true => exact ⟨H1, I1, q1⟩
  | false => exact hb wh pins s1 σ H1 Q I1 q1
theorem pt_not (ha : PT X a tA) : PT X (.UnaryOp .Not a pos) (tNot tA) := by
  intro pins s σ H Q I h
  exact isTrue_not (ha pins s σ H (fun c H1 => Q (!c) H1) I h)
/-- .. as values (bools) -/
noncomputable def tAndV (ta tb : TE) : TE := fun σ H Q => ta σ H fun x H1 => ∃ c, x = .bl c ∧ if c = true then tb σ H1 Q else Q (.bl false) H1
noncomputable def tOrV (ta tb : TE) : TE := fun σ H Q => ta σ H fun x H1 => ∃ c, x = .bl c ∧ if c = true then Q (.bl true) H1 else tb σ H1 Q
noncomputable def tNotV (ta : TE) : TE := fun σ H Q => ta σ H fun x H1 => ∃ c, x = .bl c ∧ Q (.bl (!c)) H1
theorem pe_one {op} {t : TE} (h : PE X a t) : PE X (.BoolOp op [a] pos) t := fun pins s σ H Q I hw => BoolOp_one (h pins s σ H Q I hw)
theorem pe_and (ha : PE X a ta) (hb : PE X (.BoolOp .And (b :: rest) pos) tb) : PE X (.BoolOp .And (a :: b :: rest) pos) (tAndV ta tb) := by
  intro pins s σ H Q I h
  refine BoolOp_and (thn (ha pins s σ H _ I h) fun v s1 ⟨x, H1, I1, r1, q1⟩ => ?_)
  obtain ⟨c, rfl, q1⟩ := q1
  cases r1
  refine wpAny_truthy_bool ?_
  cases c with
  | true => exact hb pins s1 σ H1 Q I1 q1
  | false => exact ⟨.bl false, H1, I1, rfl, q1⟩
theorem pe_or (ha : PE X a ta) (hb : PE X (.BoolOp .Or (b :: rest) pos) tb) : PE X (.BoolOp .Or (a :: b :: rest) pos) (tOrV ta tb) := by
  intro pins s σ H Q I h
  refine BoolOp_or (thn (ha pins s σ H _ I h) fun v s1 ⟨x, H1, I1, r1, q1⟩ => ?_)
  obtain ⟨c, rfl, q1⟩ := q1
  cases r1
  refine wpAny_truthy_bool ?_
  cases c with
  | false => exact hb pins s1 σ H1 Q I1 q1
  | true => exact ⟨.bl true, H1, I1, rfl, q1⟩
/-- a if t else b -/
noncomputable def tIf (t : TT) (ta tb : TE) : TE := fun σ H Q => t σ H fun c H1 => if c = true then ta σ H1 Q else tb σ H1 Q
theorem pe_ifExp {c : Expr} (hc : PT X c tA) (ha : PE X a ta) (hb : PE X b tb) : PE X (.IfExp c a b pos) (tIf tA ta tb) := by
  intro pins s σ H Q I h
  refine wpAny_IfExp (thn (hc pins s σ H _ I h) fun d s1 ⟨H1, I1, q1⟩ => ?_)
  cases d with
  | true => exact ha pins s1 σ H1 Q I1 q1
  | false => exact hb pins s1 σ H1 Q I1 q1
end
end L2

namespace L2
open PySem PySem.Spec PyProof.Rows

/-! ### a list, a tuple that is read: tracked, frozen, or an object of the module -/
noncomputable def SqL (K : PySem.W.Frag) (H : Hp) (a : Addr) (xs : List V) : Prop :=
  Rd H a (.lst xs) ∨
    ∃ (o : Obj) (its : Array Value) (n : Nat), K.lookup a = some o ∧ o.cls = .type "list" ∧ o.dict = none ∧ o.data = .seq its n ∧ its.size ≤ sizeLine ∧ Vals xs its.toList
noncomputable def SqT (K : PySem.W.Frag) (H : Hp) (a : Addr) (xs : List V) : Prop :=
  Rd H a (.tup xs) ∨
    ∃ (o : Obj) (its : Array Value) (n : Nat), K.lookup a = some o ∧ o.cls = .type "tuple" ∧ o.data = .seq its n ∧ its.size ≤ sizeLine ∧ Vals xs its.toList
noncomputable def absV : Value → Option V
  | .none => some .non
  | .bool b => some (.bl b)
  | .int i _ => some (.int i)
  | .str x _ => some (.str x)
  | .bytes b _ => some (.byt b)
  | .float b _ => some (.flt b)
  | .ref a => some (.ref a)
  | .type n => some (.ty n)
  | _ => none
theorem RelV.abs {x : V} {u : Value} (r : RelV x u) : absV u = some x := by
  cases x with
  | non => cases r; rfl
  | bl _ => cases r; rfl
  | int _ => obtain ⟨t, rfl⟩ := r; rfl
  | str _ => obtain ⟨t, rfl⟩ := r; rfl
  | byt _ => obtain ⟨t, rfl⟩ := r; rfl
  | flt _ => obtain ⟨t, rfl⟩ := r; rfl
  | ref _ => cases r; rfl
  | ty _ => cases r; rfl
theorem RelV.inj {x y : V} {u : Value} (r : RelV x u) (q : RelV y u) : x = y := Option.some.inj (r.abs.symm.trans q.abs)
theorem Vals.inj {xs ys : List V} {us : List Value} (h : Vals xs us) (g : Vals ys us) : xs = ys := by
  induction h generalizing ys with
  | nil => cases g; rfl
  | cons r t ih =>
    cases g with
    | cons r' t' => rw [r.inj r', ih t']
section
variable {X : Cx} {pins : List (Addr × Obj)} {σ : St} {H : Hp} {s : Shared} {a : Addr} {xs ys : List V}
theorem SqL.of {K : PySem.W.Frag} (h : H a = some (.lst xs)) : SqL K H a xs := .inl (.inl h)
theorem SqT.of {K : PySem.W.Frag} (h : H a = some (.tup xs)) : SqT K H a xs := .inl (.inl h)
theorem Inv.list (I : Inv X pins σ H s) (h : SqL X.K H a xs) : ∃ its : List Value, Vals xs its ∧ PlainL s.heap a its.toArray ∧ xs.length ≤ sizeLine := by
  rcases h with h | ⟨o, its, n, hk, hc, hd, hs, hz, r⟩
  · obtain ⟨z, its, n, r, e⟩ := h.ok I.hok
    exact ⟨its, r, ⟨_, n, e, rfl, rfl, rfl⟩, z⟩
  · refine ⟨its.toList, r, ⟨o, n, I.kIn a o hk, hc, hd, by simpa using hs⟩, ?_⟩
    have e := r.length
    simp only [Array.length_toList] at e
    omega
theorem Inv.tuple (I : Inv X pins σ H s) (h : SqT X.K H a xs) : ∃ its : List Value, Vals xs its ∧ IsTup s.heap a its.toArray ∧ xs.length ≤ sizeLine := by
  rcases h with h | ⟨o, its, n, hk, hc, hs, hz, r⟩
  · obtain ⟨z, its, r, p⟩ := h.ok I.hok
    exact ⟨its, r, p, z⟩
  · refine ⟨its.toList, r, ⟨o, I.kIn a o hk, hc, n, by simpa using hs⟩, ?_⟩
    have e := r.length
    simp only [Array.length_toList] at e
    omega
theorem Inv.list_inj (I : Inv X pins σ H s) (h : SqL X.K H a xs) (h' : SqL X.K H a ys) : xs = ys := by
  obtain ⟨its, r, ⟨o, n, e, _, _, d⟩, _⟩ := I.list h
  obtain ⟨its', r', ⟨o', n', e', _, _, d'⟩, _⟩ := I.list h'
  rw [e] at e'; cases e'
  rw [d] at d'
  injection d' with d1 _
  have : its = its' := by simpa using congrArg Array.toList d1
  subst this
  exact r.inj r'
theorem Inv.tuple_inj (I : Inv X pins σ H s) (h : SqT X.K H a xs) (h' : SqT X.K H a ys) : xs = ys := by
  obtain ⟨its, r, ⟨o, e, _, n, d⟩, _⟩ := I.tuple h
  obtain ⟨its', r', ⟨o', e', _, n', d'⟩, _⟩ := I.tuple h'
  rw [e] at e'; cases e'
  rw [d] at d'
  injection d' with d1 _
  have : its = its' := by simpa using congrArg Array.toList d1
  subst this
  exact r.inj r'
end

/-! ### another wish about exceptions -/
noncomputable abbrev Cx.wish (X : Cx) (E : Value → Shared → Prop) : Cx := { X with xe := E }
/-- no exception leaves -/
noncomputable abbrev Cx.nox (X : Cx) : Cx := X.wish fun _ _ => False
theorem Cx.Ok.wish {X : Cx} (ok : X.Ok) (E : Value → Shared → Prop) : (X.wish E).Ok :=
  ⟨ok.mod, ok.kind, ok.glob, ok.blt, ok.above, ok.inj, ok.has, ok.cab, ok.hd, ok.frames, ok.stk, ok.exf, ok.bs, ok.bsz, ok.noex, ok.exfs, ok.funs, ok.frf⟩
theorem Cx.Ok.unwish {X : Cx} {E : Value → Shared → Prop} (ok : (X.wish E).Ok) : X.Ok :=
  ⟨ok.mod, ok.kind, ok.glob, ok.blt, ok.above, ok.inj, ok.has, ok.cab, ok.hd, ok.frames, ok.stk, ok.exf, ok.bs, ok.bsz, ok.noex, ok.exfs, ok.funs, ok.frf⟩
section
variable {X : Cx} {pins : List (Addr × Obj)} {σ : St} {H : Hp} {s : Shared} {E : Value → Shared → Prop}
theorem Inv.wish (I : Inv X pins σ H s) (E : Value → Shared → Prop) : Inv (X.wish E) pins σ H s := ⟨I.ok.wish E, I.os, I.bare, I.base, I.loc, I.cell, I.free, I.freeC, I.pin, I.hok, I.len⟩
theorem Inv.unwish (I : Inv (X.wish E) pins σ H s) : Inv X pins σ H s := ⟨I.ok.unwish, I.os, I.bare, I.base, I.loc, I.cell, I.free, I.freeC, I.pin, I.hok, I.len⟩
theorem SP.unwish {D : Ends} {f : Flow} {s' : Shared} (h : SP (X.wish E) pins D f s') : SP X pins D f s' := by
  cases f with
  | next => obtain ⟨σ', H', I, q⟩ := h; exact ⟨σ', H', I.unwish, q⟩
  | brk => obtain ⟨σ', H', I, q⟩ := h; exact ⟨σ', H', I.unwish, q⟩
  | cont => obtain ⟨σ', H', I, q⟩ := h; exact ⟨σ', H', I.unwish, q⟩
  | ret u => obtain ⟨v, σ', H', I, r, q⟩ := h; exact ⟨v, σ', H', I.unwish, r, q⟩
theorem PE.nox {e : Expr} {t : TE} (h : PE X.nox e t) : PE X e t := fun pins s σ H Q I hw =>
  wpAny_mono (h pins s σ H Q (I.wish _) hw) (fun _ _ ⟨v, H', I', r, q⟩ => ⟨v, H', I'.unwish, r, q⟩) fun _ _ z => False.elim z
theorem PT.nox {e : Expr} {t : TT} (h : PT X.nox e t) : PT X e t := fun pins s σ H Q I hw =>
  wpAny_mono (h pins s σ H Q (I.wish _) hw) (fun _ _ ⟨H', I', q⟩ => ⟨H', I'.unwish, q⟩) fun _ _ z => False.elim z
theorem PSs.nox {st : List Stmt} {t : TS} (h : PSs X.nox st t) : PSs X st t := fun pins s σ H D I hw =>
  wpAny_mono (h pins s σ H D (I.wish _) hw) (fun _ _ q => q.unwish) fun _ _ z => False.elim z
end

/-! ### blocks and small statements -/
section
variable {X : Cx} {st : Stmt} {rest : List Stmt} {t u : TS} {e : Expr} {te : TE} {pos : Pos}
noncomputable def tNext : TS := fun D σ H => D.nx σ H
noncomputable def tSeq (t u : TS) : TS := fun D σ H => t { D with nx := u D } σ H
theorem pss_nil : PSs X [] tNext := fun _ _ σ H _ I h => wpAny_execs_nil ⟨σ, H, I, h⟩
theorem pss_cons (h1 : PS X st t) (h2 : PSs X rest u) : PSs X (st :: rest) (tSeq t u) := by
  intro pins s σ H D I h
  refine wpAny_execs_cons (thn (h1 pins s σ H { D with nx := u D } I h) fun f s1 q => ?_)
  cases f with
  | next =>
    obtain ⟨σ', H', I', q⟩ := q
    exact h2 pins s1 σ' H' D I' q
  | ret v => exact q
  | brk => exact q
  | cont => exact q
theorem pss_one (h1 : PS X st t) : PSs X [st] t := by
  intro pins s σ H D I h
  refine wpAny_execs_cons (thn (h1 pins s σ H D I h) fun f s1 q => ?_)
  cases f with
  | next => exact wpAny_execs_nil q
  | ret v => exact q
  | brk => exact q
  | cont => exact q
noncomputable def tBreak : TS := fun D σ H => D.bk σ H
noncomputable def tCont : TS := fun D σ H => D.ct σ H
/-- in a def's body nothing is shown -/
theorem Inv.quiet {pins : List (Addr × Obj)} {σ : St} {H : Hp} {s : Shared} (I : Inv X pins σ H s) : interactive X.env = false := by simp [interactive, I.ok.kind]
/-- an expression whose value is dropped -/
noncomputable def tDrop (te : TE) : TS := fun D σ H => te σ H fun _ H1 => D.nx σ H1
theorem ps_expr (he : PE X e te) (hs : swapsWith e none pos.line X.env = pure false := by rfl) : PS X (.Expr e pos) (tDrop te) := by
  intro pins s σ H D I h
  exact wpAny_Expr_any (thn (he pins s σ H _ I h) fun v s1 ⟨x, H1, I1, r1, q1⟩ => ⟨σ, H1, I1, q1⟩) I.quiet hs
noncomputable def tRet (te : TE) : TS := fun D σ H => te σ H D.rt
theorem ps_ret (he : PE X e te) : PS X (.Return (some e) pos) (tRet te) := by
  intro pins s σ H D I h
  exact wpAny_Return_some (thn (he pins s σ H _ I h) fun v s1 ⟨x, H1, I1, r1, q1⟩ => ⟨x, σ, H1, I1, r1, q1⟩)
noncomputable def tRetN : TS := fun D _ H => D.rt .non H
noncomputable def tIfS (c : TT) (t u : TS) : TS := fun D σ H => c σ H fun b H1 => if b = true then t D σ H1 else u D σ H1
theorem ps_if {c : Expr} {a b : List Stmt} {tc : TT} (hc : PT X c tc) (ha : PSs X a t) (hb : PSs X b u) : PS X (.If c a b pos) (tIfS tc t u) := by
  intro pins s σ H D I h
  refine wpAny_If (thn (hc pins s σ H _ I h) fun d s1 ⟨H1, I1, q1⟩ => ?_)
  cases d with
  | true => exact ha pins s1 σ H1 D I1 q1
  | false => exact hb pins s1 σ H1 D I1 q1
/-- code that the proof never comes to -/
noncomputable def tNever : TS := fun _ _ _ => False
end

/-! ### targets -/
noncomputable abbrev TG := V → St → Hp → (St → Hp → Prop) → Prop
noncomputable abbrev TGs := List V → St → Hp → (St → Hp → Prop) → Prop
noncomputable def PG (X : Cx) (target : Expr) (t : TG) : Prop :=
  ∀ (pins : List (Addr × Obj)) (s : Shared) (σ : St) (H : Hp) (v : V) (u : Value) (Q : St → Hp → Prop), Inv X pins σ H s → RelV v u → t v σ H Q →
    wpAny (model X.prog X.w) X.A (assign target X.env u) (fun _ s' => ∃ σ' H', Inv X pins σ' H' s' ∧ Q σ' H') X.xe s
/-- several targets, one after another -/
noncomputable def PGs (X : Cx) (ts : List Expr) (t : TGs) : Prop :=
  ∀ (pins : List (Addr × Obj)) (s : Shared) (σ : St) (H : Hp) (vs : List V) (us : List Value) (Q : St → Hp → Prop), Inv X pins σ H s → Vals vs us → t vs σ H Q →
    wpAny (model X.prog X.w) X.A (assignInOrder ((assignEach ts X.env).map (·.2)) us) (fun _ s' => ∃ σ' H', Inv X pins σ' H' s' ∧ Q σ' H') X.xe s
/-- o[i] = v, by values -/
noncomputable abbrev TSet := V → V → V → Hp → (Hp → Prop) → Prop
noncomputable def PSet (X : Cx) (t : TSet) : Prop :=
  ∀ (pins : List (Addr × Obj)) (s : Shared) (σ : St) (H : Hp) (o i v : V) (ov iv u : Value) (Q : Hp → Prop), Inv X pins σ H s → RelV o ov → RelV i iv → RelV v u → t o i v H Q →
    wpAny (model X.prog X.w) X.A (setItem ov iv u) (fun _ s' => ∃ H', Inv X pins σ H' s' ∧ Q H') X.xe s
/-- a op= b, by values -/
noncomputable abbrev TIp := V → V → Hp → VK → Prop
section
variable {X : Cx} {pos : Pos}
noncomputable def gName (i : Nat) : TG := fun v σ H Q => Q (σ.set i (some v)) H
theorem pg_name {i : Nat} {x : Str} (hN : X.N.Nodup) (hi : X.N[i]? = some x) (hx : Loc X.env.scope x) (hf : X.fn x = true ∨ X.env.scope.names.lookup x = some .local := by first | exact .inl rfl | exact .inr rfl | assumption) : PG X (.Name x pos) (gName i) := by
  intro pins s σ H v u Q I r h
  exact wpAny_assign_Name (store_ok I hN hi hx r (fun s' I' => ⟨_, H, I', h⟩) hf)
noncomputable def gNil : TGs := fun vs σ H Q => vs = [] ∧ Q σ H
noncomputable def gCons (t : TG) (u : TGs) : TGs := fun vs σ H Q => ∃ v r, vs = v :: r ∧ t v σ H fun σ' H' => u r σ' H' Q
theorem pgs_nil : PGs X [] gNil := by
  intro pins s σ H vs us Q I r h
  obtain ⟨e, h⟩ := h
  subst e
  cases r
  exact assignInOrder_nil ⟨σ, H, I, h⟩
theorem pgs_cons {e : Expr} {es : List Expr} {t : TG} {u : TGs} (h1 : PG X e t) (h2 : PGs X es u)
    (hs : (assignEach (e :: es) X.env).map (·.2) = assign e X.env :: (assignEach es X.env).map (·.2) := by rfl) : PGs X (e :: es) (gCons t u) := by
  intro pins s σ H vs us Q I r h
  obtain ⟨v, vr, e1, h⟩ := h
  subst e1
  cases r with
  | cons r rr =>
    rw [hs]
    refine assignInOrder_cons (thn (h1 pins s σ H _ _ _ I r h) fun _ s1 ⟨σ1, H1, I1, q1⟩ => ?_)
    exact h2 pins s1 σ1 H1 _ _ Q I1 rr q1
/-- (a, b, ..) = a tuple of that length -/
noncomputable def gTup (K : PySem.W.Frag) (n : Nat) (t : TGs) : TG := fun v σ H Q => ∃ a xs, v = .ref a ∧ SqT K H a xs ∧ xs.length = n ∧ t xs σ H Q
theorem pg_tup {es : List Expr} {k : Nat} {t : TGs} {n : Nat} (hc : X.calm = true) (h : PGs X es t)
    (hn : (assignEach es X.env).length = n := by rfl) (hst : (assignEach es X.env).findIdx? (·.1) = none := by rfl) : PG X (.Tuple es k pos) (gTup X.K n t) := by
  intro pins s σ H v u Q I r hw
  obtain ⟨a, xs, e1, hq, hl, hw⟩ := hw
  subst e1
  cases r
  obtain ⟨its, rv, ht, hz⟩ := I.tuple hq
  refine assign_Tuple_tuple (I.ok.hd hc) ht (by simp [hn, ← hl, rv.length]) hst fun h' hx => ?_
  have I1 : Inv X pins σ H { s with heap := h' } := I.kept (t' := s.toks) fun b o e => hx b o (Nat.ne_of_lt (Heap.lt_size e)) e
  exact h pins _ σ H xs _ Q I1 (by simpa using rv) hw
/-- o[i] = .. -/
noncomputable def gSub (to ti : TE) (t : TSet) : TG := fun v σ H Q => to σ H fun o H1 => ti σ H1 fun i H2 => t o i v H2 fun H3 => Q σ H3
theorem pg_sub {o i : Expr} {to ti : TE} {t : TSet} (ho : PE X o to) (hi : PE X i ti) (hs : PSet X t)
    (ha : ∀ v, assign (.Subscript o i pos) X.env v = (do
      let ov ← holding [v] (eval o X.env)
      let iv ← holding [v, ov] (eval i X.env)
      standAt pos
      holding [v, ov, iv] (setItem ov iv v)
      release [v, ov, iv] []) := by intro _; rfl) : PG X (.Subscript o i pos) (gSub to ti t) := by
  intro pins s σ H v u Q I r h
  rw [ha]
  refine wpAny_bind (wpAny_holding (thn (ho pins s σ H _ I h) fun ov s1 ⟨x, H1, I1, r1, q1⟩ => ?_))
  refine wpAny_bind (wpAny_holding (thn (hi pins s1 σ H1 _ I1 q1) fun iv s2 ⟨y, H2, I2, r2, q2⟩ => ?_))
  refine wpAny_bind (wpAny_standAt (wpAny_bind (wpAny_holding (thn (hs pins s2 σ H2 x y v ov iv u _ I2 r1 r2 r q2) fun _ s3 ⟨H3, I3, q3⟩ => ?_))))
  exact wpAny_release ⟨σ, H3, I3, q3⟩
/-- target = value -/
noncomputable def tAsg (te : TE) (g : TG) : TS := fun D σ H => te σ H fun x H1 => g x σ H1 D.nx
theorem ps_asg {tg e : Expr} {te : TE} {g : TG} (he : PE X e te) (hg : PG X tg g) (hs : swapsWithSole [tg] e pos.line X.env = pure false := by rfl) (hw : swappedStores [tg] e X.env = pure none := by rfl)
    (h1 : (assignEach [tg] X.env).map (·.2) = [assign tg X.env] := by rfl) : PS X (.Assign [tg] e pos) (tAsg te g) := by
  intro pins s σ H D I h
  refine wpAny_Assign_stores (thn (he pins s σ H _ I h) fun v s1 ⟨x, H1, I1, r1, q1⟩ => ?_) hs hw
  rw [h1]
  exact thn (hg pins s1 σ H1 x v _ I1 r1 q1) fun _ s2 q => q
/-- name = value -/
theorem ps_set {i : Nat} {x : Str} {e : Expr} {te : TE} {pos' : Pos} (hN : X.N.Nodup) (hi : X.N[i]? = some x) (hx : Loc X.env.scope x) (he : PE X e te) (hs : swapsWith e (some (.Name x pos')) pos.line X.env = pure false := by rfl) (hf : X.fn x = true ∨ X.env.scope.names.lookup x = some .local := by first | exact .inl rfl | exact .inr rfl | assumption) :
    PS X (.Assign [.Name x pos'] e pos) (tAsg te (gName i)) := by
  intro pins s σ H D I h
  refine wpAny_Assign_Name (thn (he pins s σ H _ I h) fun v s1 ⟨y, H1, I1, r1, q1⟩ => ?_) hs
  exact store_ok I1 hN hi hx r1 (fun s2 I2 => ⟨_, H1, I2, q1⟩) hf
/-- name op= e -/
noncomputable def tAug (i : Nat) (te : TE) (ti : TIp) : TS := fun D σ H => ∃ x, σ[i]? = some (some x) ∧ te σ H fun y H1 => ti x y H1 fun z H2 => D.nx (σ.set i (some z)) H2
/-- o[i] op= e -/
noncomputable def tAugS (to ti te : TE) (tget : V → V → Hp → VK → Prop) (tip : TIp) (tset : TSet) : TS := fun D σ H => to σ H fun o H1 => ti σ H1 fun i H2 => tget o i H2 fun x H3 => te σ H3 fun y H4 => tip x y H4 fun z H5 => tset o i z H5 fun H6 => D.nx σ H6
end

/-! ### while -/
section
variable {X : Cx} {pos : Pos}
end

/-! ### what a loop or a comprehension walks -/
/-- at turn i: it yields x (the heap may grow), or it stops -/
structure It where
  go : Nat → Hp → Prop
  yld : Nat → Hp → V → Hp → Prop
  stop : Nat → Hp → Prop
/-- the iterator's own objects may turn: they are not the frame's, not pinned, younger than the entry (or a comprehension's own) -/
noncomputable def FpOk (X : Cx) (pins : List (Addr × Obj)) (H : Hp) (b : Addr) : Prop :=
  H b = none ∧ b ≠ X.env.locals ∧ b ∉ X.fs ∧ (b ∈ X.ex ∨ X.s₀.heap.objs.size ≤ b) ∧ (∀ x c, X.env.cells.lookup x = some c → c ≠ b) ∧ ∀ p ∈ X.pn ++ pins, p.1 ≠ b
theorem Inv.fpOk {X : Cx} {pins : List (Addr × Obj)} {σ : St} {H H' : Hp} {s : Shared} {b : Addr} (I : Inv X pins σ H s) (hb : s.heap.objs.size ≤ b) (hn : H' b = none) : FpOk X pins H' b := by
  refine ⟨hn, Nat.ne_of_gt (Nat.lt_of_lt_of_le I.lt hb), I.nofs hb, .inr (Nat.le_trans I.sz hb), fun x c e z => ?_, fun p hp z => ?_⟩
  · obtain ⟨v, q⟩ := I.cell x c e
    exact absurd (Nat.lt_of_lt_of_le q.lt (by rw [z]; exact hb)) (Nat.lt_irrefl _)
  · exact absurd (Nat.lt_of_lt_of_le (Heap.lt_size (I.pin p hp).1) (by rw [z]; exact hb)) (Nat.lt_irrefl _)
structure Turn (P : Program) (w : World) (K : PySem.W.Frag) (tg : Expr) (J : It) (fp : List Addr) (it : Addr) (tn : Nat → Heap → Prop) : Prop where
  mem : it ∈ fp
  obj : ∀ i h, tn i h → ∀ b ∈ fp, ∃ o, h.get? b = some o ∧ ∀ v, o.data ≠ .cell v
  keep : ∀ i h h', tn i h → (∀ b ∈ fp, ∀ o, h.get? b = some o → h'.get? b = some o) → tn i h'
  item : ∀ (X : Cx), X.prog = P → X.w = w → X.K = K → X.calm = true → ∀ (i : Nat) (pins : List (Addr × Obj)) (s : Shared) (σ : St) (H : Hp) (E : Value → Shared → Prop), Inv X pins σ H s → (∀ b ∈ fp, FpOk X pins H b) → tn i s.heap → J.go i H →
    wpAny (model P w) X.A (pyNext (.ref it)) (fun r s1 => ∃ u, r = some u ∧
      wpAny (model P w) X.A (letOwnedTupleGo tg (.ref it) u) (fun _ s2 => ∃ x H', Inv X pins σ H' s2 ∧ RelV x u ∧ J.yld i H x H' ∧ tn (i + 1) s2.heap ∧ ∀ b ∈ fp, H' b = none) E s1) E s
  done : ∀ (X : Cx), X.prog = P → X.w = w → X.K = K → X.calm = true → ∀ (i : Nat) (pins : List (Addr × Obj)) (s : Shared) (σ : St) (H : Hp) (E : Value → Shared → Prop), Inv X pins σ H s → (∀ b ∈ fp, FpOk X pins H b) → tn i s.heap → J.stop i H →
    wpAny (model P w) X.A (pyNext (.ref it)) (fun r s1 => r = none ∧ Inv X pins σ H s1) E s
  self : ∀ (A : Around) (i : Nat) (s : Shared) (Q : Value → Shared → Prop) (E : Value → Shared → Prop), tn i s.heap → Q (.ref it) s → wpAny (model P w) A (pyIter (.ref it)) Q E s
noncomputable abbrev TI := St → Hp → (It → Hp → Prop) → Prop
/-- an iterator has come -/
noncomputable def PIE (X : Cx) (pins : List (Addr × Obj)) (σ : St) (tg : Expr) (R : It → Hp → Prop) (itv : Value) (s2 : Shared) : Prop :=
  ∃ (it : Addr) (fp : List Addr) (tn : Nat → Heap → Prop) (J : It) (H' : Hp), itv = .ref it ∧ Inv X pins σ H' s2 ∧ Turn X.prog X.w X.K tg J fp it tn ∧ tn 0 s2.heap ∧ (∀ b ∈ fp, FpOk X pins H' b) ∧ R J H'
noncomputable def PI (X : Cx) (tg iter : Expr) (wi : TI) : Prop :=
  ∀ (pins : List (Addr × Obj)) (s : Shared) (σ : St) (H : Hp) (R : It → Hp → Prop), Inv X pins σ H s → wi σ H R →
    wpAny (model X.prog X.w) X.A (eval iter X.env) (fun v s1 => wpAny (model X.prog X.w) X.A (pyIter v) (PIE X pins σ tg R) X.xe s1) X.xe s

/-- the step ahead of the store is nothing for an iterator that keeps no tuple -/
theorem go_of {M : Model} {A : Around} {E : Value → Shared → Prop} {s : Shared} {tg : Expr} {it : Addr} {u : Value} {o : Obj} {n : String} {vs : Array Value} {Q : Unit → Shared → Prop} (ho : s.heap.get? it = some o) (hc : o.cls = .type n) (hd : o.data = .fields vs)
    (hn : ["enumerate", "zip", "dict_itemiterator", "dict_reverseitemiterator", "odict_iterator", "itertools.zip_longest", "itertools.pairwise"].contains n = false) (hQ : Q () s) : wpAny M A (letOwnedTupleGo tg (.ref it) u) Q E s := by
  unfold letOwnedTupleGo
  cases tg <;> first
    | exact wpAny_pure hQ
    | (cases u <;> first
        | exact wpAny_pure hQ
        | (refine wpAny_bind (wpAny_load ho ?_)
           rw [hc, hd]
           show wpAny M A (if (["enumerate", "zip", "dict_itemiterator", "dict_reverseitemiterator", "odict_iterator", "itertools.zip_longest", "itertools.pairwise"].contains n && vs[0]? == some (rawInt _)) = true then _ else _) Q E s
           rw [if_neg (by intro h; rw [hn, Bool.false_and] at h; cases h)]
           exact wpAny_pure hQ))

/-- the list at a, as it stands at each turn (a loop may append to it) -/
noncomputable def Itl (K : PySem.W.Frag) (a : Addr) : It :=
  ⟨fun i H => ∃ xs x, SqL K H a xs ∧ xs[i]? = some x, fun i H x H' => H' = H ∧ ∀ xs, SqL K H a xs → xs[i]? = some x, fun i H => ∃ xs, SqL K H a xs ∧ xs.length ≤ i⟩
noncomputable def Itt (K : PySem.W.Frag) (a : Addr) : It :=
  ⟨fun i H => ∃ xs x, SqT K H a xs ∧ xs[i]? = some x, fun i H x H' => H' = H ∧ ∀ xs, SqT K H a xs → xs[i]? = some x, fun i H => ∃ xs, SqT K H a xs ∧ xs.length ≤ i⟩
/-- lo, lo + 1, .. (n of them) -/
noncomputable def Itr (lo : Int) (n : Nat) : It := ⟨fun i _ => i < n, fun i H x H' => H' = H ∧ x = .int (lo + i), fun i _ => n ≤ i⟩
theorem turn_list {P : Program} {w : World} {K : PySem.W.Frag} {tg : Expr} (a it : Addr) : Turn P w K tg (Itl K a) [it] it (fun i h => h.IsListIter it a i) where
  mem := by simp
  obj := fun i h st b hb => by
    have e : b = it := by simpa using hb
    subst e
    obtain ⟨o, e, c, d⟩ := st
    exact ⟨o, e, fun v z => by rw [d] at z; cases z⟩
  keep := fun i h h' st k => st.at fun o e => k it (by simp) o e
  item := by
    intro X hP hw hK hc i pins s σ H E I hf st hg
    subst hP hw hK
    obtain ⟨xs, x, hq, hx⟩ := hg
    obtain ⟨its, rv, p, hz⟩ := I.list hq
    obtain ⟨u, hu, ru⟩ := rv.get hx
    obtain ⟨f0, f1, f2, f3, f4, f5⟩ := hf it (by simp)
    refine wpAny_pyNext_list_item st p.isList (x := u) (by simpa using hu) fun h' st' sb => ?_
    have I1 : Inv X pins σ H { s with heap := h' } := I.turned (t' := s.toks) (fun b o hb e => (sb.2 b hb).trans e) f0 f1 f3 f4 f5
    obtain ⟨o, e, c, d⟩ := id st'
    exact ⟨u, rfl, go_of (s := { s with heap := h' }) e c d (by decide) ⟨x, H, I1, ru, ⟨rfl, fun ys hy => by rw [I.list_inj hy hq]; exact hx⟩, st', fun b hb => (hf b hb).1⟩⟩
  done := by
    intro X hP hw hK hc i pins s σ H E I hf st hg
    subst hP hw hK
    obtain ⟨xs, hq, hx⟩ := hg
    obtain ⟨its, rv, p, hz⟩ := I.list hq
    obtain ⟨f0, f1, f2, f3, f4, f5⟩ := hf it (by simp)
    have hl := rv.length
    exact wpAny_pyNext_list_end (I.ok.hd hc) st p.isList (by simp; omega) fun h' eb => ⟨rfl, I.turned (t' := s.toks) (fun b o hb e => eb b o hb e) f0 f1 f3 f4 f5⟩
  self := fun _ _ _ _ _ st h => wpAny_pyIter_listiter st h
theorem turn_tuple {P : Program} {w : World} {K : PySem.W.Frag} {tg : Expr} (a it : Addr) : Turn P w K tg (Itt K a) [it] it (fun i h => h.IsTupleIter it a i) where
  mem := by simp
  obj := fun i h st b hb => by
    have e : b = it := by simpa using hb
    subst e
    obtain ⟨o, e, c, d⟩ := st
    exact ⟨o, e, fun v z => by rw [d] at z; cases z⟩
  keep := fun i h h' st k => st.at fun o e => k it (by simp) o e
  item := by
    intro X hP hw hK hc i pins s σ H E I hf st hg
    subst hP hw hK
    obtain ⟨xs, x, hq, hx⟩ := hg
    obtain ⟨its, rv, p, hz⟩ := I.tuple hq
    obtain ⟨u, hu, ru⟩ := rv.get hx
    obtain ⟨f0, f1, f2, f3, f4, f5⟩ := hf it (by simp)
    refine wpAny_pyNext_tuple_item st (show s.heap.IsTuple a its.toArray from p) (x := u) (by simpa using hu) fun h' st' sb => ?_
    have I1 : Inv X pins σ H { s with heap := h' } := I.turned (t' := s.toks) (fun b o hb e => (sb.2 b hb).trans e) f0 f1 f3 f4 f5
    obtain ⟨o, e, c, d⟩ := id st'
    exact ⟨u, rfl, go_of (s := { s with heap := h' }) e c d (by decide) ⟨x, H, I1, ru, ⟨rfl, fun ys hy => by rw [I.tuple_inj hy hq]; exact hx⟩, st', fun b hb => (hf b hb).1⟩⟩
  done := by
    intro X hP hw hK hc i pins s σ H E I hf st hg
    subst hP hw hK
    obtain ⟨xs, hq, hx⟩ := hg
    obtain ⟨its, rv, p, hz⟩ := I.tuple hq
    obtain ⟨f0, f1, f2, f3, f4, f5⟩ := hf it (by simp)
    have hl := rv.length
    exact wpAny_pyNext_tuple_end (I.ok.hd hc) st (show s.heap.IsTuple a its.toArray from p) (by simp; omega) fun h' eb => ⟨rfl, I.turned (t' := s.toks) (fun b o hb e => eb b o hb e) f0 f1 f3 f4 f5⟩
  self := fun _ _ _ _ _ st h => wpAny_pyIter_tupleiter st h
theorem turn_range {P : Program} {w : World} {K : PySem.W.Frag} {tg : Expr} (it : Addr) (lo : Int) (n : Nat) : Turn P w K tg (Itr lo n) [it] it (fun i h => IsRangeIter h it (lo + (i : Nat) * 1) ((n : Int) - (i : Nat)) 1) where
  mem := by simp
  obj := fun i h st b hb => by
    have e : b = it := by simpa using hb
    subst e
    exact ⟨_, st, fun v z => by
      have z' : Data.fields _ = Data.cell v := z
      cases z'⟩
  keep := fun i h h' st k => k it (by simp) _ st
  item := by
    intro X hP hw hK hc i pins s σ H E I hf st hg
    subst hP hw hK
    obtain ⟨f0, f1, f2, f3, f4, f5⟩ := hf it (by simp)
    have W := Walks.range (prog := X.prog) (w := X.w) (I.ok.hd hc) it lo 1 n
    refine W.item i s _ _ hg st fun v h' tk hv st' kk => ?_
    obtain ⟨t, rfl⟩ := hv
    have I1 : Inv X pins σ H { s with heap := h', toks := tk } := I.turned (fun b o hb e => kk b o (by simpa using hb) e) f0 f1 f3 f4 f5
    refine ⟨_, rfl, go_of (s := { s with heap := h', toks := tk }) (n := "range_iterator") st' rfl rfl (by decide) ⟨.int (lo + i), H, I1, ⟨t, ?_⟩, ⟨rfl, rfl⟩, st', fun b hb => (hf b hb).1⟩⟩
    rw [Int.mul_one]
  done := by
    intro X hP hw hK hc i pins s σ H E I hf st hg
    subst hP hw hK
    obtain ⟨f0, f1, f2, f3, f4, f5⟩ := hf it (by simp)
    exact wpAny_pyNext_range_end (I.ok.hd hc) st (by have : n ≤ i := hg; omega) fun h' eb => ⟨rfl, I.turned (t' := s.toks) (fun b o hb e => eb b o hb e) f0 f1 f3 f4 f5⟩
  self := fun _ _ _ _ _ st h => wpAny_pyIter_rangeiter st h
end L2

namespace L2
open PySem PySem.Spec PyProof.Rows
section
variable {X : Cx} {tg : Expr}
noncomputable def iList (K : PySem.W.Frag) (tl : TE) : TI := fun σ H R => tl σ H fun x H1 => ∃ a, x = .ref a ∧ (∃ xs, SqL K H1 a xs) ∧ R (Itl K a) H1
noncomputable def iTup (K : PySem.W.Frag) (tl : TE) : TI := fun σ H R => tl σ H fun x H1 => ∃ a, x = .ref a ∧ (∃ xs, SqT K H1 a xs) ∧ R (Itt K a) H1
theorem pi_list {l : Expr} {tl : TE} (hl : PE X l tl) : PI X tg l (iList X.K tl) := by
  intro pins s σ H R I h
  refine thn (hl pins s σ H _ I h) fun v s1 ⟨x, H1, I1, r1, q1⟩ => ?_
  obtain ⟨a, e, ⟨xs, hq⟩, q⟩ := q1
  subst e
  cases r1
  obtain ⟨its, rv, p, hz⟩ := I1.list hq
  refine wpAny_pyIter_list p.isList ?_
  refine ⟨s1.heap.objs.size, [s1.heap.objs.size], _, _, H1, rfl, I1.kept (t' := s1.toks) fun b o e => Heap.get?_push_of_some _ e, turn_list a _, ⟨_, Heap.get?_push_size _ rfl, rfl, rfl⟩, fun b hb => ?_, q⟩
  have e : b = s1.heap.objs.size := by simpa using hb
  subst e
  exact I1.fpOk (Nat.le_refl _) (I1.hok.fresh (Nat.le_refl _))
theorem pi_tup {l : Expr} {tl : TE} (hl : PE X l tl) : PI X tg l (iTup X.K tl) := by
  intro pins s σ H R I h
  refine thn (hl pins s σ H _ I h) fun v s1 ⟨x, H1, I1, r1, q1⟩ => ?_
  obtain ⟨a, e, ⟨xs, hq⟩, q⟩ := q1
  subst e
  cases r1
  obtain ⟨its, rv, p, hz⟩ := I1.tuple hq
  refine wpAny_pyIter_tuple (show s1.heap.IsTuple a its.toArray from p) ?_
  refine ⟨s1.heap.objs.size, [s1.heap.objs.size], _, _, H1, rfl, I1.kept (t' := s1.toks) fun b o e => Heap.get?_push_of_some _ e, turn_tuple a _, ⟨_, Heap.get?_push_size _ rfl, rfl, rfl⟩, fun b hb => ?_, q⟩
  have e : b = s1.heap.objs.size := by simpa using hb
  subst e
  exact I1.fpOk (Nat.le_refl _) (I1.hok.fresh (Nat.le_refl _))
/-- a range object just made, walked -/
theorem range_it {pins : List (Addr × Obj)} {σ : St} {H : Hp} {s : Shared} {R : It → Hp → Prop} {E : Value → Shared → Prop} {lo hi : Int} {t u v : Tok} {tk : Nat} (I : Inv X pins σ H s) (h1 : -(2 ^ 62) ≤ lo) (h2 : lo < 2 ^ 62) (h3 : -(2 ^ 62) ≤ hi) (h4 : hi < 2 ^ 62)
    (q : R (Itr lo (hi - lo).toNat) H) : wpAny (model X.prog X.w) X.A (pyIter (.ref s.heap.objs.size)) (PIE X pins σ tg R) E { s with heap := s.heap.push { cls := .type "range", data := .fields #[.int lo t, .int hi u, .int 1 v] }, toks := tk } := by
  refine wpAny_pyIter_range (IsRange.new ..) (small_one h1 h2 h3 h4) ?_
  have I1 : Inv X pins σ H { s with heap := s.heap.push { cls := .type "range", data := .fields #[.int lo t, .int hi u, .int 1 v] }, toks := tk } := I.kept fun b o e => Heap.get?_push_of_some _ e
  refine ⟨(s.heap.push { cls := .type "range", data := .fields #[.int lo t, .int hi u, .int 1 v] }).objs.size, [(s.heap.push { cls := .type "range", data := .fields #[.int lo t, .int hi u, .int 1 v] }).objs.size], _, _, H, rfl,
    I1.kept (t' := tk) fun b o e => Heap.get?_push_of_some _ e, turn_range _ lo (hi - lo).toNat, ?_, fun b hb => ?_, q⟩
  · have e1 : lo + ((0 : Nat) : Int) * 1 = lo := by simp
    have e2 : (((hi - lo).toNat : Nat) : Int) - ((0 : Nat) : Int) = Builtin.Range.rangeSize lo hi 1 := by rw [rangeSize_one]; split <;> omega
    show IsRangeIter _ _ (lo + ((0 : Nat) : Int) * 1) ((((hi - lo).toNat : Nat) : Int) - ((0 : Nat) : Int)) 1
    rw [e1, e2]
    exact Heap.get?_push_size _ rfl
  · have e : b = (s.heap.push { cls := .type "range", data := .fields #[.int lo t, .int hi u, .int 1 v] }).objs.size := by simpa using hb
    subst e
    exact I1.fpOk (Nat.le_refl _) (I1.hok.fresh (Nat.le_refl _))
noncomputable def iRng1 (ta : TA) : TI := fun σ H R => ta σ H fun vs H1 => ∃ j : Int, vs = [.int j] ∧ -(2 ^ 62) ≤ j ∧ j < 2 ^ 62 ∧ R (Itr 0 j.toNat) H1
noncomputable def iRng2 (ta : TA) : TI := fun σ H R => ta σ H fun vs H1 => ∃ i j : Int, vs = [.int i, .int j] ∧ (-(2 ^ 62) ≤ i ∧ i < 2 ^ 62 ∧ -(2 ^ 62) ≤ j ∧ j < 2 ^ 62) ∧ R (Itr i (j - i).toNat) H1
theorem pi_range1 {a : Expr} {ta : TA} {p pos : Pos} (hg : Gl X "range") (hm : X.mg "range" = none) (ha : PA X [a] ta) (hs : starEach [a] X.env = [(false, eval a X.env)] := by rfl) : PI X tg (.Call (.Name "range" p) [a] [] pos) (iRng1 ta) := by
  intro pins s σ H R I h
  refine Call_ (ld_blt I hg hm boot_range (PyProof.Rows.callWith_type1 (thn (ha pos pins s σ H _ I h) fun us s1 ⟨vs, H1, I1, r1, q1⟩ => ?_) hs rfl))
  obtain ⟨j, e, q1, q2, q⟩ := q1
  subst e
  cases r1 with
  | cons r rr =>
    cases rr
    obtain ⟨t, rfl⟩ := r
    exact call_range_1 (range_it I1 (by omega) (by omega) q1 q2 (by simpa using q))
/-! ### for -/
/-- W: the invariant by the turn and a measure; N: what the body is to reach -/
noncomputable def tFor (wi : TI) (g : TG) (tb : TS) : TS := fun D σ H => wi σ H fun J H1 => ∃ W : Nat → Nat → St → Hp → Prop, (∃ m, W 0 m σ H1) ∧ ∀ i m σ H, W i m σ H →
  (J.stop i H ∧ D.nx σ H) ∨ (J.go i H ∧ ∃ N : St → Hp → Prop, (∀ σ' H', N σ' H' → ∃ m', m' < m ∧ W (i + 1) m' σ' H') ∧ ∀ x H', J.yld i H x H' → g x σ H' fun σ2 H2 => tb { D with nx := N, ct := N, bk := D.nx } σ2 H2)
/-- the records at fp as they stand -/
noncomputable def pinsAt (fp : List Addr) (h : Heap) : List (Addr × Obj) := fp.filterMap fun b => (h.get? b).map fun o => (b, o)
theorem mem_pinsAt {fp : List Addr} {h : Heap} {b : Addr} {o : Obj} (hb : b ∈ fp) (e : h.get? b = some o) : (b, o) ∈ pinsAt fp h := List.mem_filterMap.mpr ⟨b, hb, by rw [e]; rfl⟩
theorem of_pinsAt {fp : List Addr} {h : Heap} {p : Addr × Obj} (hp : p ∈ pinsAt fp h) : p.1 ∈ fp ∧ h.get? p.1 = some p.2 := by
  obtain ⟨b, hb, e⟩ := List.mem_filterMap.mp hp
  cases q : h.get? b with
  | none => rw [q] at e; cases e
  | some o =>
    rw [q] at e
    have e' : (b, o) = p := Option.some.inj e
    subst e'
    exact ⟨hb, q⟩
theorem Inv.pinned {pins : List (Addr × Obj)} {σ : St} {H : Hp} {s : Shared} {fp : List Addr} (I : Inv X pins σ H s) (hf : ∀ b ∈ fp, FpOk X pins H b) (ho : ∀ b ∈ fp, ∃ o, s.heap.get? b = some o ∧ ∀ v, o.data ≠ .cell v) : Inv X (pins ++ pinsAt fp s.heap) σ H s :=
  I.pins_of fun p hp => (List.mem_append.mp hp).elim (fun z => I.pin p (List.mem_append_right _ z)) fun z => by
    obtain ⟨hb, e⟩ := of_pinsAt z
    obtain ⟨f0, f1, f2, _⟩ := hf p.1 hb
    obtain ⟨o, e', d⟩ := ho p.1 hb
    rw [e] at e'; cases e'
    exact ⟨e, f0, f1, f2, d⟩
theorem Inv.unpinned {pins pl : List (Addr × Obj)} {σ : St} {H : Hp} {s : Shared} (I : Inv X (pins ++ pl) σ H s) : Inv X pins σ H s := I.pins_of fun p hp => I.pin p (List.mem_append_right _ (List.mem_append_left _ hp))
theorem ps_for {iter : Expr} {body : List Stmt} {wi : TI} {g : TG} {tb : TS} {pos : Pos} (hp : PassesOwn (model X.prog X.w) X.A X.env X.xe) (hc : X.calm = true) (hi : PI X tg iter wi) (hg : PG X tg g) (hb : PSs X body tb)
    (hs : ∀ x, foldedSetIterable iter X.env x = pure x := by intro _; rfl) : PS X (.For tg iter body [] pos) (tFor wi g tb) := by
  intro pins s σ H D I h
  refine wpAny_For (thn (hi pins s σ H _ I h) fun v s1 h1 => thn h1 fun itv s2 h2 => ?_) hs
  obtain ⟨it, fp, tn, J, H2, e, I2, T, st2, f2, W, ⟨m0, w0⟩, turn⟩ := h2
  subst e
  -- what stays true of the iterator's objects through the loop
  have stat : ∀ {H' : Hp}, (∀ b ∈ fp, H' b = none) → ∀ b ∈ fp, FpOk X pins H' b := fun hn b hb => ⟨hn b hb, (f2 b hb).2⟩
  refine codeAny_forLoop_any (fun n s' => ∃ i σ' H', Inv X pins σ' H' s' ∧ tn i s'.heap ∧ (∀ b ∈ fp, H' b = none) ∧ W i n σ' H') ?_ m0 ⟨0, σ, H2, I2, st2, fun b hb => (f2 b hb).1, w0⟩
  rintro n s3 ⟨i, σ3, H3, I3, st3, fr3, w3⟩
  rcases turn i n σ3 H3 w3 with ⟨stop, qn⟩ | ⟨go, N, hN, step⟩
  · refine wpAny_passesOwn hp (thn (T.done X rfl rfl rfl hc i pins s3 σ3 H3 X.xe I3 (stat fr3) st3 stop) fun r s4 ⟨hr, I4⟩ => ?_)
    subst hr
    exact wpAny_execs_nil ⟨σ3, H3, I4, qn⟩
  · refine wpAny_passesOwn hp (thn (T.item X rfl rfl rfl hc i pins s3 σ3 H3 X.xe I3 (stat fr3) st3 go) fun r s4 ⟨u, hr, h4⟩ => ?_)
    subst hr
    refine wpAny_passesOwn hp (thn h4 fun _ s5 ⟨x, H5, I5, r5, y5, st5, fr5⟩ => ?_)
    have I5' := I5.pinned (stat fr5) (T.obj _ _ st5)
    refine wpAny_passesOwn hp (thn (hg _ s5 σ3 H5 x u _ I5' r5 (step x H5 y5)) fun _ s6 ⟨σ6, H6, I6, q6⟩ => ?_)
    refine wpAny_passesOwn hp (thn (hb _ s6 σ6 H6 _ I6 q6) fun f s7 q7 => ?_)
    have again : ∀ {σ7 : St} {H7 : Hp}, Inv X (pins ++ pinsAt fp s5.heap) σ7 H7 s7 → N σ7 H7 → ∃ m, m < n ∧ ∃ i σ' H', Inv X pins σ' H' s7 ∧ tn i s7.heap ∧ (∀ b ∈ fp, H' b = none) ∧ W i m σ' H' := fun {σ7 H7} I7 n7 => by
      obtain ⟨m', hm, w7⟩ := hN σ7 H7 n7
      refine ⟨m', hm, i + 1, σ7, H7, I7.unpinned, T.keep _ _ _ st5 fun b hb o e => (I7.pin (b, o) (List.mem_append_right _ (List.mem_append_right _ (mem_pinsAt hb e)))).1, fun b hb => ?_, w7⟩
      obtain ⟨o, e, d⟩ := T.obj _ _ st5 b hb
      exact (I7.pin (b, o) (List.mem_append_right _ (List.mem_append_right _ (mem_pinsAt hb e)))).2.1
    cases f with
    | next => obtain ⟨σ7, H7, I7, n7⟩ := q7; exact again I7 n7
    | cont => obtain ⟨σ7, H7, I7, n7⟩ := q7; exact again I7 n7
    | brk => obtain ⟨σ7, H7, I7, q7⟩ := q7; exact ⟨σ7, H7, I7.unpinned, q7⟩
    | ret v => obtain ⟨x7, σ7, H7, I7, r7, q7⟩ := q7; exact ⟨x7, σ7, H7, I7.unpinned, r7, q7⟩
end

/-! ### the forms one uses -/
/-- over a list that the body leaves as it is -/
theorem for_list {K : PySem.W.Frag} {a : Addr} {xs : List V} {g : TG} {tb : TS} {D : Ends} {σ : St} {H : Hp} (Pv : Nat → St → Hp → Prop) (h0 : Pv 0 σ H) (hl : ∀ i σ H, i ≤ xs.length → Pv i σ H → SqL K H a xs)
    (hs : ∀ i x σ H, xs[i]? = some x → Pv i σ H → g x σ H fun σ2 H2 => tb { D with nx := Pv (i + 1), ct := Pv (i + 1), bk := D.nx } σ2 H2) (hd : ∀ σ H, Pv xs.length σ H → D.nx σ H) :
    ∃ W : Nat → Nat → St → Hp → Prop, (∃ m, W 0 m σ H) ∧ ∀ i m σ H, W i m σ H →
      ((Itl K a).stop i H ∧ D.nx σ H) ∨ ((Itl K a).go i H ∧ ∃ N : St → Hp → Prop, (∀ σ' H', N σ' H' → ∃ m', m' < m ∧ W (i + 1) m' σ' H') ∧ ∀ x H', (Itl K a).yld i H x H' → g x σ H' fun σ2 H2 => tb { D with nx := N, ct := N, bk := D.nx } σ2 H2) := by
  refine ⟨fun i m σ H => m = xs.length - i ∧ i ≤ xs.length ∧ Pv i σ H, ⟨xs.length, by simp, Nat.zero_le _, h0⟩, ?_⟩
  rintro i m σ H ⟨rfl, hi, p⟩
  have q := hl i σ H hi p
  by_cases hlt : i < xs.length
  · refine .inr ⟨⟨xs, xs[i], q, by simp [hlt]⟩, Pv (i + 1), fun σ' H' p' => ⟨xs.length - (i + 1), by omega, rfl, hlt, p'⟩, fun x H' y => ?_⟩
    obtain ⟨e, y⟩ := y
    subst e
    exact hs i x σ _ (y xs q) p
  · have e : i = xs.length := by omega
    subst e
    exact .inl ⟨⟨xs, q, Nat.le_refl _⟩, hd σ H p⟩
end L2

namespace L2
open PySem PySem.Spec PyProof.Rows

noncomputable abbrev R2 := V → V → Hp → VK → Prop
/-- a two-place operation on values: f is binaryOp op, inplaceOp op or compareOp op -/
noncomputable def OpR (X : Cx) (f : Value → Value → Sem Value) (r : R2) : Prop :=
  ∀ (pins : List (Addr × Obj)) (s : Shared) (σ : St) (H : Hp) (x y : V) (v u : Value) (Q : VK), Inv X pins σ H s → RelV x v → RelV y u → r x y H Q →
    wpAny (model X.prog X.w) X.A (f v u) (EP X pins σ Q) X.xe s
/-- a one-place operation -/
noncomputable def UnR (X : Cx) (f : Value → Sem Value) (r : V → Hp → VK → Prop) : Prop :=
  ∀ (pins : List (Addr × Obj)) (s : Shared) (σ : St) (H : Hp) (x : V) (v : Value) (Q : VK), Inv X pins σ H s → RelV x v → r x H Q →
    wpAny (model X.prog X.w) X.A (f v) (EP X pins σ Q) X.xe s
/-- a call of a value that is known (a builtin, a type) with values -/
noncomputable def CallR (X : Cx) (f : Value) (r : List V → Hp → VK → Prop) : Prop :=
  ∀ (pins : List (Addr × Obj)) (s : Shared) (σ : St) (H : Hp) (xs : List V) (us : List Value) (Q : VK), Inv X pins σ H s → Vals xs us → r xs H Q →
    wpAny (model X.prog X.w) X.A (call f us) (EP X pins σ Q) X.xe s
noncomputable def tOp (r : R2) (ta tb : TE) : TE := fun σ H Q => ta σ H fun x H1 => tb σ H1 fun y H2 => r x y H2 Q
noncomputable def tUn (r : V → Hp → VK → Prop) (ta : TE) : TE := fun σ H Q => ta σ H fun x H1 => r x H1 Q
/-- ints in, under C, and a value out -/
noncomputable def rI (C : Int → Int → Prop) (g : Int → Int → V) : R2 := fun x y H Q => ∃ i j, x = .int i ∧ y = .int j ∧ C i j ∧ Q (g i j) H
noncomputable def rI0 (g : Int → Int → V) : R2 := fun x y H Q => ∃ i j, x = .int i ∧ y = .int j ∧ Q (g i j) H
noncomputable def rU (g : Int → V) : V → Hp → VK → Prop := fun x H Q => ∃ i, x = .int i ∧ Q (g i) H

section
variable {X : Cx} {a b c : Expr} {ta tb tc : TE} {pos : Pos}

theorem binT (ha : PE X a ta) (hb : PE X b tb) {pins : List (Addr × Obj)} {s : Shared} {σ : St} {H : Hp} {R : V → V → Hp → Prop} (I : Inv X pins σ H s)
    (h : ta σ H fun x H1 => tb σ H1 fun y H2 => R x y H2) {Q : Value → Shared → Prop} {f : Value → Value → Sem Value}
    (hf : ∀ v u s2 x y H2, Inv X pins σ H2 s2 → RelV x v → RelV y u → R x y H2 → wpAny (model X.prog X.w) X.A (f v u) Q X.xe s2) :
    wpAny (model X.prog X.w) X.A (eval a X.env) (fun v s₁ => wpAny (model X.prog X.w) X.A (eval b X.env) (fun u s₂ => wpAny (model X.prog X.w) X.A (f v u) Q X.xe s₂) X.xe s₁) X.xe s := by
  refine thn (ha pins s σ H _ I h) fun v s1 ⟨x, H1, I1, r1, q1⟩ => ?_
  refine thn (hb pins s1 σ H1 _ I1 q1) fun u s2 ⟨y, H2, I2, r2, q2⟩ => ?_
  exact hf v u s2 x y H2 I2 r1 r2 q2

theorem pe_op {op : Operator} {r : R2} (ho : OpR X (binaryOp op) r) (ha : PE X a ta) (hb : PE X b tb) : PE X (.BinOp a op b pos) (tOp r ta tb) := by
  intro pins s σ H Q I h
  exact wpAny_BinOp (binT ha hb I h fun v u s2 x y H2 I2 rx ry q => ho pins s2 σ H2 x y v u Q I2 rx ry q)
theorem pe_un {op : UnaryOp} {r : V → Hp → VK → Prop} (ho : UnR X (unaryOp op) r) (ha : PE X a ta) : PE X (.UnaryOp op a pos) (tUn r ta) := by
  intro pins s σ H Q I h
  exact UnaryOp_ (thn (ha pins s σ H _ I h) fun v s1 ⟨x, H1, I1, r1, q1⟩ => ho pins s1 σ H1 x v Q I1 r1 q1)
/-! ### ints -/
theorem opI {f : Value → Value → Sem Value} {C : Int → Int → Prop} {g : Int → Int → Int}
    (rule : ∀ (i j : Int) (t u : Tok) (s : Shared) (Q : Value → Shared → Prop) (E : Value → Shared → Prop), C i j → Q (.int (g i j) s.toks) { s with toks := s.toks + 1 } → wpAny (model X.prog X.w) X.A (f (.int i t) (.int j u)) Q E s) :
    OpR X f (rI C fun i j => .int (g i j)) := by
  intro pins s σ H x y v u Q I rx ry h
  obtain ⟨i, j, rfl, rfl, hc, q⟩ := h
  obtain ⟨t, rfl⟩ := rx
  obtain ⟨t', rfl⟩ := ry
  exact rule i j t t' s _ _ hc ⟨.int (g i j), H, I.tok _, ⟨_, rfl⟩, q⟩
theorem opI0 {f : Value → Value → Sem Value} {g : Int → Int → Int}
    (rule : ∀ (i j : Int) (t u : Tok) (s : Shared) (Q : Value → Shared → Prop) (E : Value → Shared → Prop), Q (.int (g i j) s.toks) { s with toks := s.toks + 1 } → wpAny (model X.prog X.w) X.A (f (.int i t) (.int j u)) Q E s) :
    OpR X f (rI0 fun i j => .int (g i j)) := by
  intro pins s σ H x y v u Q I rx ry h
  obtain ⟨i, j, rfl, rfl, q⟩ := h
  obtain ⟨t, rfl⟩ := rx
  obtain ⟨t', rfl⟩ := ry
  exact rule i j t t' s _ _ ⟨.int (g i j), H, I.tok _, ⟨_, rfl⟩, q⟩
theorem opB0 {f : Value → Value → Sem Value} {g : Int → Int → Bool}
    (rule : ∀ (i j : Int) (t u : Tok) (s : Shared) (Q : Value → Shared → Prop) (E : Value → Shared → Prop), Q (.bool (g i j)) s → wpAny (model X.prog X.w) X.A (f (.int i t) (.int j u)) Q E s) :
    OpR X f (rI0 fun i j => .bl (g i j)) := by
  intro pins s σ H x y v u Q I rx ry h
  obtain ⟨i, j, rfl, rfl, q⟩ := h
  obtain ⟨t, rfl⟩ := rx
  obtain ⟨t', rfl⟩ := ry
  exact rule i j t t' s _ _ ⟨.bl (g i j), H, I, rfl, q⟩

noncomputable def CPow (i j : Int) : Prop := 0 ≤ j ∧ j ≤ 1000000 ∧ i.natAbs < 2 ^ 64
noncomputable def CMul (i j : Int) : Prop := (-(2 ^ 64) < i ∧ i < 2 ^ 64) ∨ (-(2 ^ 64) < j ∧ j < 2 ^ 64)
theorem CMul.ok {i j : Int} (h : CMul i j) : IntMulOk i j := by
  rcases h with ⟨h1, h2⟩ | ⟨h1, h2⟩
  · exact .of_left (intBits_le_64 h1 h2)
  · exact .of_right (intBits_le_64 h1 h2)
theorem op_add : OpR X (binaryOp .Add) (rI0 fun i j => .int (i + j)) := opI0 fun _ _ _ _ _ _ _ q => add_int q
theorem op_sub : OpR X (binaryOp .Sub) (rI0 fun i j => .int (i - j)) := opI0 fun _ _ _ _ _ _ _ q => sub_int q
theorem op_mul : OpR X (binaryOp .Mult) (rI CMul fun i j => .int (i * j)) := opI fun _ _ _ _ _ _ _ hc q => mul_int q hc.ok
/-- % by a positive divisor of any size -/
theorem op_mod : OpR X (binaryOp .Mod) (rI (fun _ j => 0 < j) fun i j => .int (i % j)) := opI fun i j _ _ _ _ _ hc q => by
  have h1 : (0 : Int) < j := hc
  exact mod_int' (by omega) (by rw [Int.fmod_eq_emod_of_nonneg i (by omega)]; exact q)
theorem op_pow : OpR X (binaryOp .Pow) (rI CPow fun i j => .int (i ^ j.toNat)) := opI fun _ _ _ _ _ _ _ hc q => pow_int_small hc.1 hc.2.1 hc.2.2 q
theorem unI {f : Value → Sem Value} {g : Int → Int}
    (rule : ∀ (i : Int) (t : Tok) (s : Shared) (Q : Value → Shared → Prop) (E : Value → Shared → Prop), Q (.int (g i) s.toks) { s with toks := s.toks + 1 } → wpAny (model X.prog X.w) X.A (f (.int i t)) Q E s) :
    UnR X f (rU fun i => .int (g i)) := by
  intro pins s σ H x v Q I rx h
  obtain ⟨i, rfl, q⟩ := h
  obtain ⟨t, rfl⟩ := rx
  exact rule i t s _ _ ⟨.int (g i), H, I.tok _, ⟨_, rfl⟩, q⟩
theorem un_neg : UnR X (unaryOp .USub) (rU fun i => .int (-i)) := unI fun _ _ _ _ _ q => neg_int q
/-! ### bools among ints: n += (a < b) -/
end

/-! ### comparisons -/
/-- the scalars that == tells apart as data does -/
noncomputable def scal : V → V → Bool
  | .non, .non => true | .non, .int _ => true | .int _, .non => true | .non, .bl _ => true | .bl _, .non => true | .non, .str _ => true | .str _, .non => true
  | .int _, .int _ => true | .bl _, .bl _ => true | .str _, .str _ => true | .byt _, .byt _ => true
  | .int _, .str _ => true | .str _, .int _ => true | .bl _, .str _ => true | .str _, .bl _ => true
  | _, _ => false
noncomputable def rEq : R2 := fun x y H Q => scal x y = true ∧ Q (.bl (decide (x = y))) H
noncomputable def rNe : R2 := fun x y H Q => scal x y = true ∧ Q (.bl (!decide (x = y))) H

theorem dec_int {i j : Int} : decide (V.int i = V.int j) = (i == j) := by
  rw [Bool.eq_iff_iff]
  simp
theorem dec_bl {i j : Bool} : decide (V.bl i = V.bl j) = (i == j) := by
  rw [Bool.eq_iff_iff]
  simp
theorem dec_str {i j : Str} : decide (V.str i = V.str j) = (i == j) := by
  rw [Bool.eq_iff_iff]
  simp
theorem dec_byt {i j : Array UInt8} : decide (V.byt i = V.byt j) = (i.toList == j.toList) := by
  rw [Bool.eq_iff_iff]
  cases i
  cases j
  simp

section
variable {X : Cx} {a b c : Expr} {ta tb tc : TE} {pos : Pos}
theorem fin_bl {pins : List (Addr × Obj)} {σ : St} {H : Hp} {s : Shared} {Q : VK} {k k' : Bool} (I : Inv X pins σ H s) (q : Q (.bl k) H) (e : k = k') : EP X pins σ Q (.bool k') s := by
  subst e
  exact ⟨.bl k, H, I, rfl, q⟩
theorem op_eq : OpR X (compareOp .Eq) rEq := by
  intro pins s σ H x y v u Q I rx ry h
  obtain ⟨hs, q⟩ := h
  cases x with
  | non =>
    cases rx
    cases y with
    | non => cases ry; exact PySem.EqNone.eq_none_none (fin_bl I q (by simp))
    | bl j => cases ry; exact PySem.EqNone.eq_none_bool (fin_bl I q (by simp))
    | int j => obtain ⟨t', rfl⟩ := ry; exact PySem.EqNone.eq_none_int (fin_bl I q (by simp))
    | str j => obtain ⟨t', rfl⟩ := ry; exact PySem.EqNone.eq_none_str (fin_bl I q (by simp))
    | _ => exact absurd (show false = true from hs) Bool.false_ne_true
  | bl i =>
    cases rx
    cases y with
    | non => cases ry; exact PySem.EqNone.eq_bool_none (fin_bl I q (by simp))
    | bl j => cases ry; exact eq_bool (fin_bl I q dec_bl)
    | str j => obtain ⟨t', rfl⟩ := ry; exact PySem.EqMixed.eq_bool_str (fin_bl I q (by simp))
    | _ => exact absurd (show false = true from hs) Bool.false_ne_true
  | int i =>
    obtain ⟨t, rfl⟩ := rx
    cases y with
    | non => cases ry; exact PySem.EqNone.eq_int_none (fin_bl I q (by simp))
    | int j => obtain ⟨t', rfl⟩ := ry; exact eq_int (fin_bl I q dec_int)
    | str j => obtain ⟨t', rfl⟩ := ry; exact PySem.EqMixed.eq_int_str (fin_bl I q (by simp))
    | _ => exact absurd (show false = true from hs) Bool.false_ne_true
  | str i =>
    obtain ⟨t, rfl⟩ := rx
    cases y with
    | non => cases ry; exact PySem.EqNone.eq_str_none (fin_bl I q (by simp))
    | bl j => cases ry; exact PySem.EqMixed.eq_str_bool (fin_bl I q (by simp))
    | int j => obtain ⟨t', rfl⟩ := ry; exact PySem.EqMixed.eq_str_int (fin_bl I q (by simp))
    | str j => obtain ⟨t', rfl⟩ := ry; exact eq_str (fin_bl I q dec_str)
    | _ => exact absurd (show false = true from hs) Bool.false_ne_true
  | byt i =>
    obtain ⟨t, rfl⟩ := rx
    cases y with
    | byt j => obtain ⟨t', rfl⟩ := ry; exact PySem.W.eq_bytes (fin_bl I q dec_byt)
    | _ => exact absurd (show false = true from hs) Bool.false_ne_true
  | _ => cases y <;> exact absurd (show false = true from hs) Bool.false_ne_true
theorem op_ne : OpR X (compareOp .NotEq) rNe := by
  intro pins s σ H x y v u Q I rx ry h
  obtain ⟨hs, q⟩ := h
  cases x with
  | non =>
    cases rx
    cases y with
    | non => cases ry; exact PySem.EqNone.ne_none_none (fin_bl I q (by simp))
    | bl j => cases ry; exact PySem.EqNone.ne_none_bool (fin_bl I q (by simp))
    | int j => obtain ⟨t', rfl⟩ := ry; exact PySem.EqNone.ne_none_int (fin_bl I q (by simp))
    | str j => obtain ⟨t', rfl⟩ := ry; exact PySem.EqNone.ne_none_str (fin_bl I q (by simp))
    | _ => exact absurd (show false = true from hs) Bool.false_ne_true
  | bl i =>
    cases rx
    cases y with
    | non => cases ry; exact PySem.EqNone.ne_bool_none (fin_bl I q (by simp))
    | bl j => cases ry; exact ne_bool (fin_bl I q (congrArg not dec_bl))
    | str j => obtain ⟨t', rfl⟩ := ry; exact PySem.EqMixed.ne_bool_str (fin_bl I q (by simp))
    | _ => exact absurd (show false = true from hs) Bool.false_ne_true
  | int i =>
    obtain ⟨t, rfl⟩ := rx
    cases y with
    | non => cases ry; exact PySem.EqNone.ne_int_none (fin_bl I q (by simp))
    | int j => obtain ⟨t', rfl⟩ := ry; exact ne_int (fin_bl I q (congrArg not dec_int))
    | str j => obtain ⟨t', rfl⟩ := ry; exact PySem.EqMixed.ne_int_str (fin_bl I q (by simp))
    | _ => exact absurd (show false = true from hs) Bool.false_ne_true
  | str i =>
    obtain ⟨t, rfl⟩ := rx
    cases y with
    | non => cases ry; exact PySem.EqNone.ne_str_none (fin_bl I q (by simp))
    | bl j => cases ry; exact PySem.EqMixed.ne_str_bool (fin_bl I q (by simp))
    | int j => obtain ⟨t', rfl⟩ := ry; exact PySem.EqMixed.ne_str_int (fin_bl I q (by simp))
    | str j => obtain ⟨t', rfl⟩ := ry; exact ne_str (fin_bl I q (congrArg not dec_str))
    | _ => exact absurd (show false = true from hs) Bool.false_ne_true
  | byt i =>
    obtain ⟨t, rfl⟩ := rx
    cases y with
    | byt j => obtain ⟨t', rfl⟩ := ry; exact PySem.W.ne_bytes (fin_bl I q (congrArg not dec_byt))
    | _ => exact absurd (show false = true from hs) Bool.false_ne_true
  | _ => cases y <;> exact absurd (show false = true from hs) Bool.false_ne_true

theorem op_le : OpR X (compareOp .LtE) (rI0 fun i j => .bl (decide (i ≤ j))) := opB0 fun _ _ _ _ _ _ _ q => le_int q
theorem op_ge : OpR X (compareOp .GtE) (rI0 fun i j => .bl (decide (j ≤ i))) := opB0 fun _ _ _ _ _ _ _ q => ge_int q
/-- is None, is not None: the right side a value none -/
theorem op_isN : OpR X (compareOp .Is) (fun x y H Q => y = .non ∧ Q (.bl (decide (x = .non))) H) := by
  intro pins s σ H x y v u Q I rx ry h
  obtain ⟨rfl, q⟩ := h
  cases ry
  refine is_none_gen (fin_bl I q ?_)
  cases x <;> first
    | (cases rx; rfl)
    | (obtain ⟨t, rfl⟩ := rx; rfl)
/-- two rules for one operation: by cases -/
theorem OpR.or {f : Value → Value → Sem Value} {r r' : R2} (h : OpR X f r) (h' : OpR X f r') : OpR X f (fun x y H Q => r x y H Q ∨ r' x y H Q) := by
  intro pins s σ H x y v u Q I rx ry q
  rcases q with q | q
  · exact h pins s σ H x y v u Q I rx ry q
  · exact h' pins s σ H x y v u Q I rx ry q

theorem nomark (b : Expr) {op : CmpOp} (h : op ≠ .In := by decide) (h2 : op ≠ .NotIn := by decide) : behindInMarks op b = false := by
  have e1 : (op == CmpOp.In) = false := by cases op <;> first | rfl | exact absurd rfl h
  have e2 : (op == CmpOp.NotIn) = false := by cases op <;> first | rfl | exact absurd rfl h2
  cases b <;> simp [behindInMarks, e1, e2]
/-- a comparison as a value; hm: nomark b, or (for in, not in) by with_unfolding_all rfl -/
theorem pe_cmpR {op : CmpOp} {r : R2} (ho : OpR X (compareOp op) r) (ha : PE X a ta) (hb : PE X b tb) (hm : behindInMarks op b = false) : PE X (.Compare a [op] [b] pos) (tOp r ta tb) := by
  intro pins s σ H Q I h
  exact wpAny_Compare1 (binT ha hb I h fun v u s2 x y H2 I2 rx ry q => ho pins s2 σ H2 x y v u Q I2 rx ry q) hm
/-- a reading of a value as a test -/
noncomputable def tTest (t : TE) : TT := fun σ H Q => t σ H fun x H' => ∃ k, x = .bl k ∧ Q k H'
theorem pt_cmpR {op : CmpOp} {r : R2} (ho : OpR X (compareOp op) r) (ha : PE X a ta) (hb : PE X b tb) (hm : behindInMarks op b = false) : PT X (.Compare a [op] [b] pos) (tTest (tOp r ta tb)) := by
  intro pins s σ H Q I h
  refine wpAny_isTrue_Compare1 (thn (ha pins s σ H _ I h) fun v s1 ⟨x, H1, I1, r1, q1⟩ => thn (hb pins s1 σ H1 _ I1 q1) fun u s2 ⟨y, H2, I2, r2, q2⟩ =>
    thn (ho pins s2 σ H2 x y v u _ I2 r1 r2 q2) fun c s3 ⟨z, H3, I3, r3, k, e, q3⟩ => ?_) hm
  subst e
  cases r3
  exact wpAny_truthy_bool ⟨H3, I3, q3⟩
/-- a op1 b op2 c -/
noncomputable def tChain (r r' : R2) (ta tb tc : TE) : TE := fun σ H Q => ta σ H fun x H1 => tb σ H1 fun y H2 => r x y H2 fun z H3 => ∃ k, z = .bl k ∧
  (if k = true then tc σ H3 fun w' H4 => r' y w' H4 Q else Q (.bl false) H3)
theorem pe_chain {op op' : CmpOp} {r r' : R2} (ho : OpR X (compareOp op) r) (ho' : OpR X (compareOp op') r') (ha : PE X a ta) (hb : PE X b tb) (hc : PE X c tc)
    (hm : lastMarks [op, op'] [b, c] = false := by with_unfolding_all rfl) : PE X (.Compare a [op, op'] [b, c] pos) (tChain r r' ta tb tc) := by
  intro pins s σ H Q I h
  refine Compare_chain (thn (ha pins s σ H _ I h) fun v s1 ⟨x, H1, I1, r1, q1⟩ => chain_link (thn (hb pins s1 σ H1 _ I1 q1) fun u s2 ⟨y, H2, I2, r2, q2⟩ =>
    thn (ho pins s2 σ H2 x y v u _ I2 r1 r2 q2) fun d s3 ⟨z, H3, I3, r3, k, e, q3⟩ => ?_)) hm
  subst e
  cases r3
  refine wpAny_truthy_bool ?_
  cases k with
  | false => exact ite_ff ⟨.bl false, H3, I3, rfl, q3⟩
  | true => exact ite_tt (chain_last (thn (hc pins s3 σ H3 _ I3 q3) fun w' s4 ⟨z', H4, I4, r4, q4⟩ => ho' pins s4 σ H4 y z' u w' Q I4 r2 r4 q4))
theorem pt_chain {op op' : CmpOp} {r r' : R2} (ho : OpR X (compareOp op) r) (ho' : OpR X (compareOp op') r') (ha : PE X a ta) (hb : PE X b tb) (hc : PE X c tc)
    (hm : lastMarks [op, op'] [b, c] = false := by with_unfolding_all rfl) : PT X (.Compare a [op, op'] [b, c] pos) (tTest (tChain r r' ta tb tc)) := by
  intro pins s σ H Q I h
  refine isTrue_chain (thn (ha pins s σ H _ I h) fun v s1 ⟨x, H1, I1, r1, q1⟩ => test_link (thn (hb pins s1 σ H1 _ I1 q1) fun u s2 ⟨y, H2, I2, r2, q2⟩ =>
    thn (ho pins s2 σ H2 x y v u _ I2 r1 r2 q2) fun d s3 ⟨z, H3, I3, r3, k, e, q3⟩ => ?_)) hm
  subst e
  cases r3
  refine wpAny_truthy_bool ?_
  cases k with
  | false =>
    obtain ⟨k', e', q'⟩ := q3
    cases e'
    exact ite_ff ⟨H3, I3, q'⟩
  | true =>
    refine ite_tt (test_last (thn (hc pins s3 σ H3 _ I3 q3) fun w' s4 ⟨z', H4, I4, r4, q4⟩ => thn (ho' pins s4 σ H4 y z' u w' _ I4 r2 r4 q4) fun d' s5 ⟨z2, H5, I5, r5, k2, e2, q5⟩ => ?_))
    subst e2
    cases r5
    exact wpAny_truthy_bool ⟨H5, I5, q5⟩

/-! ### truth -/
theorem line63 : (sizeLine : Nat) < 2 ^ 63 := by rw [sizeLine_eq]; decide
/-! ### strs and bytes -/
theorem op_add_str : OpR X (binaryOp .Add) (fun x y H Q => ∃ i j, x = .str i ∧ y = .str j ∧ i.length + j.length ≤ sizeLine ∧ Q (.str (i ++ j)) H) := by
  intro pins s σ H x y v u Q I rx ry h
  obtain ⟨i, j, rfl, rfl, hz, q⟩ := h
  obtain ⟨t, rfl⟩ := rx
  obtain ⟨t', rfl⟩ := ry
  exact add_str (fun t' tk => ⟨.str (i ++ j), H, I.tok _, ⟨_, rfl⟩, q⟩) hz
/-! ### scalar builtins, by CallR -/
theorem vals1 {x : V} {us : List Value} (r : Vals [x] us) : ∃ u, us = [u] ∧ RelV x u := by
  cases r with
  | cons r1 r2 => cases r2; exact ⟨_, rfl, r1⟩
theorem vals2 {x y : V} {us : List Value} (r : Vals [x, y] us) : ∃ u w', us = [u, w'] ∧ RelV x u ∧ RelV y w' := by
  cases r with
  | cons r1 r2 =>
    cases r2 with
    | cons r3 r4 => cases r4; exact ⟨_, _, rfl, r1, r3⟩
theorem call_max2 (hc : X.calm = true) : CallR X (.builtin "max") (fun xs H Q => ∃ i j, xs = [.int i, .int j] ∧ Q (.int (if j > i then j else i)) H) := by
  intro pins s σ H xs us Q I r h
  obtain ⟨i, j, rfl, q⟩ := h
  obtain ⟨u, w', rfl, ⟨t, rfl⟩, ⟨t', rfl⟩⟩ := vals2 r
  refine max_two_ints (I.ok.hd hc) fun h' tk k => ⟨_, H, I.kept k, ?_, q⟩
  by_cases hj : j > i
  · rw [if_pos hj, if_pos hj]; exact ⟨_, rfl⟩
  · rw [if_neg hj, if_neg hj]; exact ⟨_, rfl⟩
theorem call_int1 : CallR X (.type "int") (fun xs H Q => (∃ i, xs = [.int i] ∧ Q (.int i) H) ∨ ∃ k, xs = [.bl k] ∧ Q (.int (if k then 1 else 0)) H) := by
  intro pins s σ H xs us Q I r h
  rcases h with ⟨i, rfl, q⟩ | ⟨k, rfl, q⟩
  · obtain ⟨u, rfl, t, rfl⟩ := vals1 r
    exact call_int_int ⟨.int i, H, I, ⟨_, rfl⟩, q⟩
  · obtain ⟨u, rfl, r1⟩ := vals1 r
    cases r1
    exact call_int_bool ⟨.int (if k then 1 else 0), H, I.tok _, ⟨_, rfl⟩, q⟩
theorem call_str_int : CallR X (.type "str") (fun xs H Q => ∃ i, xs = [.int i] ∧ i.natAbs.log2 < 1920 ∧ Q (.str (toString i)) H) := by
  intro pins s σ H xs us Q I r h
  obtain ⟨i, rfl, hz, q⟩ := h
  obtain ⟨u, rfl, t, rfl⟩ := vals1 r
  exact PySem.P.str_of_int hz ⟨.str _, H, I.tok _, ⟨_, rfl⟩, q⟩
/-- len of a str, a bytes, a list, a tuple -/
noncomputable def LenV (K : PySem.W.Frag) (x : V) (H : Hp) (n : Nat) : Prop :=
  match x with
  | .str y => y.length ≤ sizeLine ∧ n = y.length
  | .byt y => y.size ≤ sizeLine ∧ n = y.size
  | .ref p => (∃ xs, SqL K H p xs ∧ n = xs.length) ∨ ∃ xs, SqT K H p xs ∧ n = xs.length
  | _ => False
theorem call_len : CallR X (.builtin "len") (fun xs H Q => ∃ x n, xs = [x] ∧ LenV X.K x H n ∧ Q (.int n) H) := by
  intro pins s σ H xs us Q I r h
  obtain ⟨x, n, rfl, e, q⟩ := h
  obtain ⟨u, rfl, rx⟩ := vals1 r
  have hl := line63
  have hs : sizeLine = 16777216 := sizeLine_eq
  cases x with
  | str y =>
    obtain ⟨t, rfl⟩ := rx
    obtain ⟨hy, e'⟩ : y.length ≤ sizeLine ∧ n = y.length := e
    subst e'
    exact len_str (by omega) ⟨.int _, H, I.tok _, ⟨_, rfl⟩, q⟩
  | byt y =>
    obtain ⟨t, rfl⟩ := rx
    obtain ⟨hy, e'⟩ : y.size ≤ sizeLine ∧ n = y.size := e
    subst e'
    exact PySem.W.len_bytes (by omega) ⟨.int _, H, I.tok _, ⟨_, rfl⟩, q⟩
  | ref p =>
    cases rx
    have e' : (∃ xs, SqL X.K H p xs ∧ n = xs.length) ∨ ∃ xs, SqT X.K H p xs ∧ n = xs.length := e
    rcases e' with ⟨xs, hx, e'⟩ | ⟨xs, hx, e'⟩
    · subst e'
      obtain ⟨its, r', pl, hz⟩ := I.list hx
      have hlen := r'.length
      exact Calls.call_len_list pl.isList (by simp only [List.size_toArray]; omega) ⟨.int xs.length, H, I.tok _, ⟨_, by simp only [List.size_toArray]; rw [hlen]⟩, q⟩
    · subst e'
      obtain ⟨its, r', pl, hz⟩ := I.tuple hx
      have hlen := r'.length
      exact len_tuple pl (by simp only [List.size_toArray]; omega) ⟨.int xs.length, H, I.tok _, ⟨_, by simp only [List.size_toArray]; rw [hlen]⟩, q⟩
  | _ => exact (show False from e).elim
end
end L2

namespace L2
open PySem PySem.Spec PyProof.Rows

/-! ### an instance, its attributes a map -/
structure ObjM (h : Heap) (x dx C : Addr) (mA : Str → Option Value) : Prop where
  obj : h.get? x = some (PySem.W.instObj C dx)
  ns : h.Ns1 dx mA
  ne : dx ≠ x

theorem lookIn_ns {h : Heap} {dx : Addr} {mA : Str → Option Value} (n : h.Ns1 dx mA) : ∃ od, h.get? dx = some od ∧ ∀ name, PySem.W.lookIn name od = some (mA name) := by
  obtain ⟨o, es, ep, ho, hd, hk, _, hm⟩ := n
  refine ⟨o, ho, fun name => ?_⟩
  have e := hm name
  unfold nsFind findBy at e
  rw [← Array.find?_toList] at e
  unfold PySem.W.lookIn
  rw [hd]
  dsimp only
  split
  · rename_i y q
    rw [q] at e
    exact congrArg some e
  · rename_i q
    rw [q] at e
    have a : es.toList.any (·.refKey) = false := by
      rw [List.any_eq_false]
      intro y hy
      obtain ⟨z, t, hkey⟩ := hk y (Array.mem_toList_iff.mp hy)
      simp [DictEntry.refKey, hkey]
    have a' : ¬ es.toList.any (·.refKey) = true := by rw [a]; exact Bool.false_ne_true
    rw [if_neg a']
    exact congrArg some e

theorem ObjM.look {h : Heap} {x dx C : Addr} {mA : Str → Option Value} (I : ObjM h x dx C mA) : ∃ od, PySem.W.InstAt h x (PySem.W.instObj C dx) C (some od) ∧ ∀ name, PySem.W.lookIn name od = some (mA name) :=
  let ⟨od, ho, hl⟩ := lookIn_ns I.ns
  ⟨od, ⟨I.obj, rfl, rfl, ho⟩, hl⟩

section
variable {prog : Program} {w : World} {A : Around} {E : Value → Shared → Prop} {s : Shared} {K : PySem.W.Frag} {x dx C f : Addr} {mA : Str → Option Value} {name : Str} {v : Value}

end

/-! ### the attributes as a list of pairs -/
noncomputable def putF (f : Str) (v : V) : List (Str × V) → List (Str × V)
  | [] => [(f, v)]
  | (g, x) :: r => if g = f then (g, v) :: r else (g, x) :: putF f v r
theorem RelO.some_of {v : V} {o : Option Value} (r : RelO (some v) o) : ∃ u, o = some u ∧ RelV v u := by
  cases o with
  | none => exact (show False from r).elim
  | some u => exact ⟨u, rfl, r⟩
theorem handed_of {v : V} {u : Value} (r : RelV v u) : PySem.W.handedIn u = true := by
  cases v with
  | non => cases (show u = Value.none from r); rfl
  | bl b => cases (show u = Value.bool b from r); rfl
  | int i => obtain ⟨t, e⟩ := (show ∃ t, u = Value.int i t from r); cases e; rfl
  | str x => obtain ⟨t, e⟩ := (show ∃ t, u = Value.str x t from r); cases e; rfl
  | byt b => obtain ⟨t, e⟩ := (show ∃ t, u = Value.bytes b t from r); cases e; rfl
  | flt b => obtain ⟨t, e⟩ := (show ∃ t, u = Value.float b t from r); cases e; rfl
  | ref a => cases (show u = Value.ref a from r); rfl
  | ty n => cases (show u = Value.type n from r); rfl

section
variable {P : Program} {w : World} {H H' : Hp} {h h' : Heap} {a C dx : Addr} {fs fs' : List (Str × V)}
end

/-! ### what of the text a class must have -/
structure Cls (K : PySem.W.Frag) (C : Addr) : Prop where
  pg : PySem.W.plainGet K C Str.empty = true
  hd : PySem.W.hasDictIn K C = true
  po : PySem.W.plainOver K C = true
  sa : PySem.W.findIn K (.ref C) "__setattr__" = some (some (.builtin "object.__setattr__"))
theorem Cls.get {K : PySem.W.Frag} {C : Addr} (c : Cls K C) (f : Str) : PySem.W.plainGet K C f = true := c.pg
section
variable {X : Cx} {pins : List (Addr × Obj)} {σ : St} {H : Hp} {s : Shared} {a C dx : Addr} {fs : List (Str × V)} {f : Str} {v : V} {A : Around} {E : Value → Shared → Prop}

/-- a new instance, tracked, without attributes -/
theorem Inv.made (I : Inv X pins σ H s) : Inv X pins σ (upd (upd H s.heap.objs.size (.own (s.heap.objs.size + 1))) (s.heap.objs.size + 1) (.ins C s.heap.objs.size []))
    { s with heap := (s.heap.push PySem.W.emptyDict).push (PySem.W.instObj C s.heap.objs.size) } := by
  have e1 : (s.heap.push PySem.W.emptyDict).get? s.heap.objs.size = some PySem.W.emptyDict := Heap.get?_push_size s.heap rfl
  have e2 : ((s.heap.push PySem.W.emptyDict).push (PySem.W.instObj C s.heap.objs.size)).get? (s.heap.objs.size + 1) = some (PySem.W.instObj C s.heap.objs.size) := by
    have := Heap.get?_push_size (s.heap.push PySem.W.emptyDict) (o := PySem.W.instObj C s.heap.objs.size) rfl
    rwa [Heap.size_push] at this
  have e3 : (s.heap.push PySem.W.emptyDict).Ns s.heap.objs.size (fun _ => none) := ⟨PySem.W.emptyDict, #[], _, e1, rfl, (fun e he => absurd he (by simp)), fun _ => rfl⟩
  have I1 := I.laid (a := s.heap.objs.size) (o := .own (s.heap.objs.size + 1)) (h' := s.heap.push PySem.W.emptyDict) (t' := s.toks) (fun b u q => Heap.get?_push_of_some _ q) (Nat.le_refl _) ⟨_, e1⟩
  refine I1.laid (a := s.heap.objs.size + 1) (o := .ins C s.heap.objs.size []) (t' := s.toks) (fun b u q => Heap.get?_push_of_some _ q) (Nat.le_of_eq (Heap.size_push _ _)) ?_
  have ne : s.heap.objs.size ≠ s.heap.objs.size + 1 := Nat.ne_of_lt (Nat.lt_succ_self _)
  refine ⟨by rw [upd_ne ne, upd_same], Nat.zero_le _, ne, e2, fun _ => none, (Heap.Ns1.of_empty e3).at fun o q => Heap.get?_push_of_some _ q, fun _ => True.intro, fun y hy => absurd rfl hy⟩

/-- e.f where nothing but the object is asked: through attributeBase (super) and the last hold -/
theorem attr_of {prog : Program} {w : World} {env : Env} {e : Expr} {f : Str} {pos : Pos} {s : Shared} {Q : Value → Shared → Prop} (hb : attributeBase e f env (eval e env) = eval e env)
    (h : wpAny (model prog w) A (eval e env) (fun o s₁ => wpAny (model prog w) A (getAttr o f true) Q E s₁) E s) : wpAny (model prog w) A (eval (.Attribute e f pos) env) Q E s :=
  Attribute_any_ h (by rw [arm_eval_Attribute, hb])
end

/-! ### readings and rules -/
section
variable {X : Cx} {o e value : Expr} {f : Str} {pos pos' tpos : Pos} {ta tv : TE}
end

/-! ### isinstance -/
section
variable {X : Cx} {pins : List (Addr × Obj)} {σ : St} {H : Hp} {s : Shared} {A : Around} {E : Value → Shared → Prop} {Q : Value → Shared → Prop} {c : Value} {b : Bool}
end
end L2

namespace L2
open PySem PySem.Spec PyProof.Rows

/-! ### room -/
structure Room (k : Nat) (A : Around) : Prop where
  hd : A.handled = none
  dp : A.depth + 3 * k + 5 < recursionLimit
  un : A.units + 16 * k + 200 < cLine
theorem Room.mono {j k : Nat} {A : Around} (r : Room k A) (h : j ≤ k) : Room j A := ⟨r.hd, by have := r.dp; omega, by have := r.un; omega⟩
theorem Room.deeper {k : Nat} {A : Around} (r : Room (k + 1) A) (env : Env) : Room k (A.deeper env) :=
  ⟨r.hd, by have := r.dp; show A.depth + 1 + 3 * k + 5 < _; omega, by have := r.un; show A.units + 3 + 16 * k + 200 < _; omega⟩
theorem Room.in1 {k : Nat} {A : Around} (r : Room (k + 1) A) : Room k A.in1 :=
  ⟨r.hd, by have := r.dp; show A.depth + 3 * k + 5 < _; omega, by have := r.un; show A.units + 1 + 16 * k + 200 < _; omega⟩
theorem make_depth {A : Around} {C : Addr} {us : List Value} {kw : List (Str × Value)} : (A.under (.builtin "type.__call__" ⟨.ref C :: us, kw⟩)).depth = A.depth + 1 := by
  first | rfl | simp [Around.under, Code.weight, Code.isCreation, Code.isGuard, Code.isCaller, Code.frames, Code.isFrame, guardIds]
theorem make_units {A : Around} {C : Addr} {us : List Value} {kw : List (Str × Value)} : (A.under (.builtin "type.__call__" ⟨.ref C :: us, kw⟩)).units = A.units + 1 := by
  first | rfl | simp [Around.under, Code.cUnits, Code.frames, Code.isFrame]
theorem Room.make {k : Nat} {A : Around} (r : Room (k + 1) A) (C : Addr) (us : List Value) (kw : List (Str × Value)) : Room k (A.under (.builtin "type.__call__" ⟨.ref C :: us, kw⟩)) :=
  ⟨r.hd, by have := r.dp; rw [make_depth]; omega, by have := r.un; rw [make_units]; omega⟩
theorem Room.depth {k : Nat} {A : Around} (r : Room k A) : A.depth < recursionLimit := by have := r.dp; omega
theorem Room.units {k : Nat} {A : Around} (r : Room k A) : A.units + 64 < cLine := by have := r.un; omega
/-! ### argument lists and displays -/
noncomputable def tNil : TA := fun _ H Q => Q [] H
noncomputable def tCons (ta : TE) (tr : TA) : TA := fun σ H Q => ta σ H fun x H1 => tr σ H1 fun xs H2 => Q (x :: xs) H2
section
variable {X : Cx} {e : Expr} {es : List Expr} {te : TE} {t : TA} {pos : Pos}
theorem pa_nil : PA X [] tNil := fun _ _ _ _ H Q I h => Calls.spliced_nil ⟨[], H, I, .nil, h⟩
theorem pa_cons (ha : PE X e te) (hr : PA X es t) (hs : starEach (e :: es) X.env = (false, eval e X.env) :: starEach es X.env := by rfl) : PA X (e :: es) (tCons te t) := by
  intro pos pins s σ H Q I h
  rw [hs]
  show wpAny _ _ (spliced ((false, eval e X.env) :: backTo pos (starEach es X.env))) _ _ s
  refine Calls.spliced_cons (thn (ha pins s σ H _ I h) fun u s1 ⟨x, H1, I1, r1, q1⟩ => ?_)
  exact thn (hr pos pins s1 σ H1 _ I1 q1) fun us s2 ⟨xs, H2, I2, r2, q2⟩ => ⟨x :: xs, H2, I2, .cons r1 r2, q2⟩

/-- a tuple, a list of written items -/
noncomputable def tTup (t : TA) : TE := fun σ H Q => t σ H fun xs H1 => xs.length ≤ sizeLine ∧ ∀ p, H1 p = none → Q (.ref p) (upd H1 p (.tup xs))
noncomputable def tLst (t : TA) : TE := fun σ H Q => t σ H fun xs H1 => xs.length ≤ sizeLine ∧ ∀ p, H1 p = none → Q (.ref p) (upd H1 p (.lst xs))
theorem pe_tup {x1} (h : PA X es t) : PE X (.Tuple es x1 pos) (tTup t) := by
  intro pins s σ H Q I hq
  refine wpAny_Tuple_spliced (thn (h pos pins s σ H _ I hq) fun us s1 ⟨xs, H1, I1, r, z, q⟩ => ⟨by rw [← r.length]; exact z, ?_⟩)
  have hf : H1 s1.heap.objs.size = none := I1.hok.fresh (Nat.le_refl _)
  refine ⟨.ref s1.heap.objs.size, upd H1 s1.heap.objs.size (.tup xs), I1.laid (t' := s1.toks) (fun b u e => Heap.get?_push_of_some _ e) (Nat.le_refl _) ?_, rfl, q _ hf⟩
  exact ⟨z, us, r, ⟨_, Heap.get?_push_size _ rfl, rfl, _, rfl⟩⟩
theorem pe_lst (h : PA X es t) : PE X (.List es pos) (tLst t) := by
  intro pins s σ H Q I hq
  refine wpAny_List_spliced (thn (h pos pins s σ H _ I hq) fun us s1 ⟨xs, H1, I1, r, z, q⟩ => ⟨by rw [← r.length]; exact z, ?_⟩)
  have hf : H1 s1.heap.objs.size = none := I1.hok.fresh (Nat.le_refl _)
  refine ⟨.ref s1.heap.objs.size, upd H1 s1.heap.objs.size (.lst xs), I1.laid (t' := s1.toks) (fun b u e => Heap.get?_push_of_some _ e) (Nat.le_refl _) ?_, rfl, q _ hf⟩
  exact ⟨z, us, 0, r, Heap.get?_push_size _ rfl⟩
end

/-! ### what a def promises -/
/-- a def's promise: the bound arguments in the parameters' order, the heap, the wanted end, the wanted exception -/
noncomputable abbrev Sp := List V → Hp → VK → XK → Prop
/-- how an exception lies behind a call (file 08 gives it): the callers' frames, abstract heap and state ahead of the call, the wish, the exception, the state -/
noncomputable abbrev CXT := List Env → Hp → Shared → XK → Value → Shared → Prop

/-- the state at a call -/
structure Env0 (P : Program) (w : World) (K : PySem.W.Frag) (mg : Str → Option Value) (base : Heap) (A : Around) (outer : List Env) (s : Shared) (H : Hp) : Prop where
  frames : A.frames = some outer
  mod : Mod K mg base
  bs : ∀ b o, base.get? b = some o → s.heap.get? b = some o ∧ H b = none
  bsz : base.objs.size ≤ s.heap.objs.size
  funs : s.heap.FunFrames base outer
  frf : ∀ b ∈ frs outer, H b = none
  hok : HOk P w H s.heap
  bare : AllBare s.gens
/-- a call's end -/
noncomputable def CE (outer : List Env) (P : Program) (w : World) (H : Hp) (s : Shared) (Q : VK) (u : Value) (s' : Shared) : Prop :=
  ∃ v H', s'.os = s.os ∧ AllBare s'.gens ∧ Un (frs outer) [] H H' s.heap s'.heap ∧ HOk P w H' s'.heap ∧ RelV v u ∧ Q v H'
noncomputable def CR (CX : CXT) (outer : List Env) (P : Program) (w : World) (H : Hp) (s : Shared) (Q : VK) (E : XK) (r : Result) (s' : Shared) : Prop :=
  match r with
  | .ok (.ret u) => CE outer P w H s Q u s'
  | .ok _ => False
  | .error e => CX outer H s E e s'
structure FnOk (P : Program) (w : World) (K : PySem.W.Frag) (mg : Str → Option Value) (base : Heap) (CX : CXT) (k : Nat) (f : Addr) (fd : FuncData) (ps : List Str) (sp : Sp) : Prop where
  len : ∀ vs H Q E, sp vs H Q E → vs.length = ps.length
  run : ∀ (A : Around) (outer : List Env) (s : Shared) (H : Hp) (args : Args) (us : List Value) (vs : List V) (Q : VK) (E : XK), Room k A → Env0 P w K mg base A outer s H → BindsTo s fd args (ps.zip us) → Vals vs us → sp vs H Q E →
    codeAny (model P w) A (.call (.ref f) args) (CR CX outer P w H s Q E) s
theorem FnOk.mono {P : Program} {w : World} {K : PySem.W.Frag} {mg : Str → Option Value} {base : Heap} {CX : CXT} {j k : Nat} {f : Addr} {fd : FuncData} {ps : List Str} {sp : Sp} (F : FnOk P w K mg base CX j f fd ps sp) (h : j ≤ k) :
    FnOk P w K mg base CX k f fd ps sp := ⟨F.len, fun A outer s H args us vs Q E hr => F.run A outer s H args us vs Q E (hr.mono h)⟩
/-- a weaker promise -/
theorem FnOk.imp {P : Program} {w : World} {K : PySem.W.Frag} {mg : Str → Option Value} {base : Heap} {CX : CXT} {k : Nat} {f : Addr} {fd : FuncData} {ps : List Str} {sp sp' : Sp} (F : FnOk P w K mg base CX k f fd ps sp)
    (h : ∀ vs H Q E, sp' vs H Q E → sp vs H Q E) : FnOk P w K mg base CX k f fd ps sp' :=
  ⟨fun vs H Q E q => F.len vs H Q E (h _ _ _ _ q), fun A outer s H args us vs Q E hr he hb hv hs => F.run A outer s H args us vs Q E hr he hb hv (h _ _ _ _ hs)⟩

theorem Env0.make {P : Program} {w : World} {K : PySem.W.Frag} {mg : Str → Option Value} {base : Heap} {A : Around} {outer : List Env} {s : Shared} {H : Hp} (e : Env0 P w K mg base A outer s H) (C : Addr) (us : List Value) (kw : List (Str × Value)) :
    Env0 P w K mg base (A.under (.builtin "type.__call__" ⟨.ref C :: us, kw⟩)) outer s H := ⟨by first | exact e.frames | (simpa [Around.under, Code.envs, Code.isFrame, pushEnvs] using e.frames), e.mod, e.bs, e.bsz, e.funs, e.frf, e.hok, e.bare⟩
theorem Env0.in1 {P : Program} {w : World} {K : PySem.W.Frag} {mg : Str → Option Value} {base : Heap} {A : Around} {outer : List Env} {s : Shared} {H : Hp} (e : Env0 P w K mg base A outer s H) :
    Env0 P w K mg base A.in1 outer s H := ⟨e.frames, e.mod, e.bs, e.bsz, e.funs, e.frf, e.hok, e.bare⟩

section
variable {X : Cx} {pins : List (Addr × Obj)} {σ : St} {H : Hp} {s s' : Shared}
/-- from a body: what a callee wants -/
theorem Inv.env0 (I : Inv X pins σ H s) : Env0 X.prog X.w X.K X.mg X.base X.A X.stack s H :=
  ⟨I.ok.frames, I.ok.mod, I.bs, Nat.le_trans I.ok.bsz I.sz, I.stack, I.stkFree, I.hok, I.bare⟩
/-- behind a call -/
theorem Inv.after {Q : VK} {u : Value} (I : Inv X pins σ H s) (h : CE X.stack X.prog X.w H s Q u s') : EP X pins σ Q u s' := by
  obtain ⟨v, H', os, bare, un, hok, r, q⟩ := h
  obtain ⟨hh, g, d, t, os'⟩ := s'
  obtain rfl : os' = s.os := os
  exact ⟨v, H', I.call (h' := hh) (g' := g) (d' := d) (t' := t) (ch := []) un hok bare (fun b z => absurd z (by simp)), r, q⟩
end

/-! ### calls -/
/-- f(..): the written arguments, then the defaults dvs; E: what is wanted of an exception -/
noncomputable def tCall (sp : Sp) (dvs : List V) (E : XK) (t : TA) : TE := fun σ H Q => t σ H fun vs H1 => sp (vs ++ dvs) H1 Q E
/-- o.m(..) of an instance of the class at C -/
noncomputable def tMeth (C : Addr) (m : Str) (sp : Sp) (dvs : List V) (E : XK) (ta : TE) (t : TA) : TE := fun σ H Q => ta σ H fun x H1 => ∃ a dx fs, x = .ref a ∧ H1 a = some (.ins C dx fs) ∧ fs.lookup m = none ∧
  t σ H1 fun vs H2 => sp (x :: (vs ++ dvs)) H2 Q E
/-- C(..): a new instance and its dict, then __init__ -/
noncomputable def tMake (C : Addr) (sp : Sp) (dvs : List V) (E : XK) (t : TA) : TE := fun σ H Q => t σ H fun vs H1 => ∀ x dx, H1 x = none → H1 dx = none → dx ≠ x →
  sp (.ref x :: (vs ++ dvs)) (upd (upd H1 dx (.own x)) x (.ins C dx [])) (fun v H2 => v = .non ∧ Q (.ref x) H2) E

/-- how the parameters are bound: us the positional arguments, kw the keywords' values by name, ds the defaults that fill up -/
noncomputable def Binds (K : PySem.W.Frag) (fd : FuncData) (ps : List Str) (ds : List Value) : Prop :=
  ∀ (s : Shared) (us : List Value), K.In s.heap → (us ++ ds).length = ps.length → BindsTo s fd ⟨us, []⟩ (ps.zip (us ++ ds))
/-- every parameter is given -/
theorem Binds.all {K : PySem.W.Frag} {fd : FuncData} {ps : List Str} (h : ∀ us : List Value, us.length = ps.length → bindArgs fd ⟨us, []⟩ = pure (ps.zip us)) : Binds K fd ps [] := fun s us _ hl => by
  rw [List.append_nil] at hl ⊢
  exact .of_eq (h us hl)

/-- an exception of a callee reaches what this body wants of exceptions -/
noncomputable def Passes (CX : CXT) (X : Cx) (E : XK) : Prop := ∀ (pins : List (Addr × Obj)) (σ : St) (H : Hp) (s : Shared) (e : Value) (s' : Shared), Inv X pins σ H s → CX X.stack H s E e s' → X.xe e s'

section
variable {X : Cx} {CX : CXT} {k : Nat} {f C : Addr} {fd : FuncData} {ps : List Str} {sp : Sp} {dvs : List V} {ds : List Value} {E : XK} {x m : Str} {p pos apos : Pos} {e o : Expr} {es : List Expr} {ta : TE} {t : TA}

/-- the callee runs -/
theorem run_fn {pins : List (Addr × Obj)} {σ : St} {H : Hp} {s : Shared} {Q : VK} {us : List Value} {vs : List V} (F : FnOk X.prog X.w X.K X.mg X.base CX k f fd ps sp) (hr : Room k X.A) (hb : Binds X.K fd ps ds) (hd : Vals dvs ds) (hx : Passes CX X E)
    (I : Inv X pins σ H s) (r : Vals vs us) (h : sp (vs ++ dvs) H Q E) : wpAny (model X.prog X.w) X.A (call (.ref f) us) (EP X pins σ Q) X.xe s := by
  have r2 : Vals (vs ++ dvs) (us ++ ds) := r.append hd
  have hl : (us ++ ds).length = ps.length := by rw [← r2.length]; exact F.len _ _ _ _ h
  refine wpAny_call (codeAny_mono (F.run X.A X.stack s H ⟨us, []⟩ (us ++ ds) (vs ++ dvs) Q E hr I.env0 (hb s us I.kIn hl) r2 h) fun r s' hq => ?_)
  cases r with
  | error e => exact hx pins σ H s e s' I hq
  | ok fl =>
    cases fl with
    | ret u => exact I.after hq
    | next => exact False.elim hq
    | brk => exact False.elim hq
    | cont => exact False.elim hq

theorem pe_call (F : FnOk X.prog X.w X.K X.mg X.base CX k f fd ps sp) (hr : Room k X.A) (hg : Gl X x) (hm : X.mg x = some (.ref f)) (hk : PySem.W.keepIn X.K (.ref f) = true) (hb : Binds X.K fd ps ds) (hd : Vals dvs ds) (hx : Passes CX X E)
    (ha : PA X (e :: es) t) (hdb : (x == ("__debug__" : Str)) = false := by decide) (he : starEach (e :: es) X.env = (false, eval e X.env) :: starEach es X.env := by rfl) (hpl : (backTo pos (starEach es X.env)).any (·.1) = false := by rfl) :
    PE X (.Call (.Name x p) (e :: es) [] pos) (tCall sp dvs E t) := by
  intro pins s σ H Q I h
  refine wpAny_Call_Name_kw (ld_glob I hg hm ?_ hdb)
  refine PySem.W.callWith_K (h₀ := X.base) I.ok.mod.kin hk (thn (ha pos pins s σ H _ I h) fun us s1 ⟨vs, H1, I1, r, q⟩ => ⟨I1.kIn, ?_⟩) he hpl
  exact run_fn F hr hb hd hx I1 r q
end

/-! ### keywords -/
section
variable {X : Cx} {CX : CXT} {k : Nat} {f C : Addr} {fd : FuncData} {ps ks : List Str} {sp : Sp} {E : XK} {x m : Str} {p pos apos kpos : Pos} {e o : Expr} {es : List Expr} {kws : List Keyword} {te ta : TE} {t tk : TA} {nm : Option Str}
variable {g : List Value → List Value → List Value} {gV : List V → List V → List V}
end

/-! ### a def's body keeps its promise -/
/-- names: the parameters first -/
structure FnScope (N P : List Str) (sc : Scope) : Prop where
  kind : sc.kind = .function
  co : sc.isCoroutine = false
  gen : sc.isGenerator = false
  nd : N.Nodup
  pre : N.take P.length = P
  par : ∀ x ∈ P, sc.names.lookup x = some .local ∨ sc.names.lookup x = some .cell
  nofree : ∀ y ∈ sc.names, y.2 ≠ .free

theorem bindL_out {kindOf : Str → Option NameKind} {x : Str} : ∀ {binds : List (Str × Value)} {m : Str → Option Value}, (∀ v, (x, v) ∉ binds) → bindL kindOf binds m x = m x
  | [], _, _ => rfl
  | (n, v) :: r, m, h => by
    unfold bindL
    rw [bindL_out fun w hw => h w (List.mem_cons_of_mem _ hw)]
    split
    · have : x ≠ n := by rintro rfl; exact h v List.mem_cons_self
      simp [this]
    · rfl
theorem bindC_out {kindOf : Str → Option NameKind} {x : Str} : ∀ {binds : List (Str × Value)} {m : Str → Option Value}, (∀ v, (x, v) ∉ binds) → bindC kindOf binds m x = m x
  | [], _, _ => rfl
  | (n, v) :: r, m, h => by
    unfold bindC
    rw [bindC_out fun w hw => h w (List.mem_cons_of_mem _ hw)]
    split
    · rfl
    · have : x ≠ n := by rintro rfl; exact h v List.mem_cons_self
      simp [this]
theorem bindL_get {kindOf : Str → Option NameKind} {x : Str} {v : Value} : ∀ {P : List Str} {vs : List Value} {i : Nat} {m : Str → Option Value}, P.Nodup → P[i]? = some x → vs[i]? = some v → kindOf x = some .local →
    bindL kindOf (P.zip vs) m x = some v
  | [], _, _, _, _, h, _, _ => by simp at h
  | _ :: _, [], _, _, _, _, h, _ => by simp at h
  | p :: P, w :: vs, 0, m, nd, h1, h2, hk => by
    simp at h1 h2; subst h1; subst h2
    show bindL kindOf ((p, w) :: P.zip vs) m p = _
    unfold bindL
    rw [bindL_out fun v hv => (List.nodup_cons.mp nd).1 (List.of_mem_zip hv).1, if_pos hk]
    simp
  | p :: P, w :: vs, i + 1, m, nd, h1, h2, hk => by
    show bindL kindOf ((p, w) :: P.zip vs) m x = _
    unfold bindL
    exact bindL_get (i := i) (List.nodup_cons.mp nd).2 (by simpa using h1) (by simpa using h2) hk
theorem bindC_get {kindOf : Str → Option NameKind} {x : Str} {v : Value} : ∀ {P : List Str} {vs : List Value} {i : Nat} {m : Str → Option Value}, P.Nodup → P[i]? = some x → vs[i]? = some v → kindOf x ≠ some .local →
    bindC kindOf (P.zip vs) m x = some v
  | [], _, _, _, _, h, _, _ => by simp at h
  | _ :: _, [], _, _, _, _, h, _ => by simp at h
  | p :: P, w :: vs, 0, m, nd, h1, h2, hk => by
    simp at h1 h2; subst h1; subst h2
    show bindC kindOf ((p, w) :: P.zip vs) m p = _
    unfold bindC
    rw [bindC_out fun v hv => (List.nodup_cons.mp nd).1 (List.of_mem_zip hv).1, if_neg hk]
    simp
  | p :: P, w :: vs, i + 1, m, nd, h1, h2, hk => by
    show bindC kindOf ((p, w) :: P.zip vs) m x = _
    unfold bindC
    exact bindC_get (i := i) (List.nodup_cons.mp nd).2 (by simpa using h1) (by simpa using h2) hk

/-- the names' values at the entry -/
noncomputable def start (N : List Str) (vs : List V) : St := vs.map some ++ List.replicate (N.length - vs.length) none

/-- the context of a def's body, at its entry; an exception leaves the frame, then lies as CX says -/
noncomputable def cxOf (CX : CXT) (P : Program) (w : World) (K : PySem.W.Frag) (mg : Str → Option Value) (base : Heap) (N : List Str) (qual : Str) (scope : Scope) (f : Addr) (cd : Value) (A : Around) (outer : List Env) (s : Shared) (H : Hp) (E : XK) : Cx where
  prog := P
  w := w
  K := K
  mg := mg
  base := base
  A := A.deeper (envOfC qual scope s.heap.objs.size f cd)
  N := N
  s₀ := s
  H₀ := H
  env := envOfC qual scope s.heap.objs.size f cd
  outer := outer
  stack := envOfC qual scope s.heap.objs.size f cd :: outer
  ex := []
  calm := true
  fn := fun _ => true
  pn := []
  xe := fun e s' => wpAny (model P w) (A.deeper (envOfC qual scope s.heap.objs.size f cd)) (leaving (envOfC qual scope s.heap.objs.size f cd) e) (fun _ s'' => CX outer H s E e s'') (fun e' s'' => CX outer H s E e' s'') s'

theorem cell_has {sc : Scope} {n : Nat} {x : Str} (h : sc.names.lookup x = some .cell) : ∃ c, (cellsFrom n sc.names []).lookup x = some c := by
  have q := PySem.W.cellsFrom_some sc.names n [] (.inl h)
  exact Option.isSome_iff_exists.mp q

theorem inv_start {CX : CXT} {P : Program} {w : World} {K : PySem.W.Frag} {mg : Str → Option Value} {base : Heap} {N ps : List Str} {qual : Str} {scope : Scope} {f : Addr} {cd : Value} {A : Around} {outer : List Env} {s s1 : Shared} {H : Hp} {E : XK} {us : List Value} {vs : List V}
    (S : FnScope N ps scope) (hd : A.handled = none) (e0 : Env0 P w K mg base A outer s H) (hl : vs.length = ps.length) (r : Vals vs us)
    (x : InCallC s s.heap.objs.size (bindL (envOfC qual scope s.heap.objs.size f cd).kindOf (ps.zip us) fun _ => none) (cellsFrom (s.heap.objs.size + 1) scope.names []) (bindC (envOfC qual scope s.heap.objs.size f cd).kindOf (ps.zip us) fun _ => none) s1) :
    Inv (cxOf CX P w K mg base N qual scope f cd A outer s H E) [] (start N vs) H s1 := by
  have hpl : ps.length ≤ N.length := by have := congrArg List.length S.pre; rw [List.length_take] at this; omega
  obtain ⟨h1, tk, rfl, hk⟩ := x.done
  have noA : ∀ b : Addr, b ∉ (cxOf CX P w K mg base N qual scope f cd A outer s H E).ex := fun b z => absurd (show b ∈ ([] : List Addr) from z) (by simp)
  refine ⟨⟨e0.mod, S.kind, rfl, rfl, Nat.le_refl _, fun y z c h1 h2 => ?_, fun y hy => ?_, fun y c _ h => ?_, fun _ => hd, Around.frames_deeper e0.frames, .inr ⟨rfl, rfl⟩, fun b z => absurd z (noA b), e0.bs, e0.bsz, fun b _ _ => noA b, fun b z => absurd z (noA b), e0.funs, e0.frf⟩,
    rfl, e0.bare, Un.kept hk, ⟨_, x.toInCall.ns, fun i y v h1 h2 h3 => ?_⟩, fun y c h => ⟨_, x.cell y c h⟩, e0.hok.fresh (Nat.le_refl _), fun y c h => ?_, fun p hp => absurd (show p ∈ ([] : List (Addr × Obj)) from hp) (by simp), e0.hok.kept hk, ?_⟩
  · exact name_of_addr x.apart (PySem.mem_of_lookup h1) (PySem.mem_of_lookup h2)
  · have hy : scope.names.lookup y = some .cell ∨ scope.names.lookup y = some .free := hy
    rcases hy with hy | hy
    · exact cell_has hy
    · exact absurd rfl (S.nofree _ (PySem.mem_of_lookup hy))
  · exact Nat.le_of_lt (x.above y c (PySem.mem_of_lookup h))
  · have hi : i < vs.length := by
      unfold start at h2
      by_cases hi : i < vs.length
      · exact hi
      · rw [List.getElem?_append_right (by simpa using hi)] at h2
        rw [List.getElem?_replicate] at h2
        split at h2 <;> cases h2
    have ha : vs[i]? = some v := by
      unfold start at h2
      rw [List.getElem?_append_left (by simpa using hi), List.getElem?_map] at h2
      cases e : vs[i]? with
      | none => rw [e] at h2; cases h2
      | some a => rw [e] at h2; cases h2; rfl
    obtain ⟨u, hu, rv⟩ := r.get ha
    have hp : ps[i]? = some y := by
      rw [← S.pre, List.getElem?_take_of_lt (by omega)]; exact h1
    have ndP : ps.Nodup := by rw [← S.pre]; exact S.nd.sublist (List.take_sublist _ _)
    refine ⟨u, rv, ?_⟩
    rcases S.par y (List.mem_of_getElem? hp) with k | k
    · exact .inl ⟨k, bindL_get ndP hp hu k⟩
    · obtain ⟨c, e⟩ := cell_has (n := s.heap.objs.size + 1) k
      refine .inr ⟨.inl k, c, e, ?_⟩
      have q := x.cell y c e
      rw [bindC_get ndP hp hu (by show scope.names.lookup y ≠ _; rw [k]; decide)] at q
      exact q
  · exact e0.hok.fresh (Nat.le_of_lt (x.above y c (PySem.mem_of_lookup h)))
  · unfold start
    show _ = N.length
    rw [List.length_append, List.length_map, List.length_replicate]
    omega

/-- THE RULE: a def (or a method) of the text, by its body. The body's reading t is chosen for each entry; it is run at the parameters' values -/
theorem fn_of {CX : CXT} {P : Program} {w : World} {K : PySem.W.Frag} {mg : Str → Option Value} {base : Heap} {k : Nat} {f : Addr} {name qual : Str} {params : Arguments} {body : List Stmt} {scope : Scope} {dV kV doc pm cdv ct oc : Value} {an od : Option Addr}
    {osl : Array (Option Value)} {N ps : List Str} {sp : Sp} (lk : K.lookup f = some ⟨oc, od, .func (PySem.W.fnOf name qual params body scope dV kV doc pm an cdv ct), osl⟩) (hcd : PySem.W.codeIn K cdv qual = true) (S : FnScope N ps scope)
    (len : ∀ vs H Q E, sp vs H Q E → vs.length = ps.length)
    (hbody : ∀ (A : Around) (outer : List Env) (s : Shared) (H : Hp) (vs : List V) (Q : VK) (E : XK), Room k (A.deeper (envOfC qual scope s.heap.objs.size f cdv)) → sp vs H Q E →
      ∃ t, PSs (cxOf CX P w K mg base N qual scope f cdv A outer s H E) body t ∧ t { nx := fun _ H' => Q .non H', rt := Q } (start N vs) H) :
    FnOk P w K mg base CX (k + 1) f (PySem.W.fnOf name qual params body scope dV kV doc pm an cdv ct) ps sp := by
  refine ⟨len, fun A outer s H args us vs Q E hr e0 hb r hsp => ?_⟩
  have hl := len _ _ _ _ hsp
  have KX : K.In s.heap := e0.mod.kin.keeps fun b o e => (e0.bs b o e).1
  have lim : s.heap.NoLimit := e0.mod.nolimit.keeps fun b o e => (e0.bs b o e).1
  have hkind : ∀ y ∈ ps.zip us, scope.names.lookup y.1 = some .local ∨ (scope.names.lookup y.1 = some .cell ∧ ((cellsFrom (s.heap.objs.size + 1) scope.names []).lookup y.1).isSome = true) := fun ⟨n, v⟩ hy => by
    rcases S.par n (List.of_mem_zip hy).1 with q | q
    · exact .inl q
    · exact .inr ⟨q, PySem.W.cellsFrom_some _ _ _ (.inl q)⟩
  refine codeAny_call_function hr.depth (KX _ _ lk) rfl S.co S.gen rfl (PySem.W.codeRec_of KX hcd) (hb _ _ _ _ ?_)
  refine wpAny_newFunctionEnv_cells S.kind hkind fun env he s1 x => ?_
  subst he
  refine ⟨lim.keeps x.toInCall.keep, codeAny_func ?_⟩
  obtain ⟨t, ht, hq⟩ := hbody A outer s H vs Q E (hr.deeper _) hsp
  have I : Inv (cxOf CX P w K mg base N qual scope f cdv A outer s H E) [] (start N vs) H s1 := inv_start S hr.hd e0 hl r x
  refine wpAny_mono (ht [] s1 (start N vs) H _ I hq) (fun fl s' hs => ?_) fun e s' hs => hs
  have fin : ∀ {σ' : St} {H' : Hp} {v : V} {u : Value}, Inv (cxOf CX P w K mg base N qual scope f cdv A outer s H E) [] σ' H' s' → RelV v u → Q v H' → CE outer P w H s Q u s' :=
    fun {σ' H' v u} J rv q => ⟨v, H', J.os, J.bare, J.base, J.hok, rv, q⟩
  cases fl with
  | ret u =>
    obtain ⟨v, σ', H', J, rv, q⟩ := hs
    exact fin J rv q
  | next =>
    obtain ⟨σ', H', J, q⟩ := hs
    exact fin (v := V.non) (u := Value.none) J rfl q
  | brk =>
    obtain ⟨_, _, _, q⟩ := hs
    exact False.elim q
  | cont =>
    obtain ⟨_, _, _, q⟩ := hs
    exact False.elim q
end L2

namespace L2
open PySem PySem.Spec PyProof.Rows
section
variable {X : Cx} {x : Str} {p pos : Pos} {e : Expr} {es : List Expr} {t : TA} {id T : String} {r : List V → Hp → VK → Prop}

noncomputable def tCB (r : List V → Hp → VK → Prop) (t : TA) : TE := fun σ H Q => t σ H fun vs H1 => r vs H1 Q
/-- f(e, ..), f a built-in function -/
theorem pe_callB (hc : CallR X (.builtin id) r) (hg : Gl X x) (hm : X.mg x = none) (hv : bootBuiltins x = some (.builtin id)) (ha : PA X (e :: es) t) (hn : x ≠ "__name__" := by decide) (hdb : (x == ("__debug__" : Str)) = false := by decide)
    (he : starEach (e :: es) X.env = (false, eval e X.env) :: starEach es X.env := by rfl) (hpl : (backTo pos (starEach es X.env)).any (·.1) = false := by rfl) : PE X (.Call (.Name x p) (e :: es) [] pos) (tCB r t) := by
  intro pins s σ H Q I h
  refine wpAny_Call_Name_kw (ld_blt I hg hm hv ?_ hn hdb)
  exact PyProof.Rows.callWith_builtin1 (thn (ha pos pins s σ H _ I h) fun us s1 ⟨vs, H1, I1, r1, q1⟩ => hc pins s1 σ H1 vs us Q I1 r1 q1) he hpl
/-- T(e, ..), T a built-in type -/
theorem pe_callTy (hc : CallR X (.type T) r) (hg : Gl X x) (hm : X.mg x = none) (hv : bootBuiltins x = some (.type T)) (ha : PA X (e :: es) t) (hn : x ≠ "__name__" := by decide) (hdb : (x == ("__debug__" : Str)) = false := by decide)
    (he : starEach (e :: es) X.env = (false, eval e X.env) :: starEach es X.env := by rfl) (hpl : (backTo pos (starEach es X.env)).any (·.1) = false := by rfl) : PE X (.Call (.Name x p) (e :: es) [] pos) (tCB r t) := by
  intro pins s σ H Q I h
  refine wpAny_Call_Name_kw (ld_blt I hg hm hv ?_ hn hdb)
  exact PyProof.Rows.callWith_type1 (thn (ha pos pins s σ H _ I h) fun us s1 ⟨vs, H1, I1, r1, q1⟩ => hc pins s1 σ H1 vs us Q I1 r1 q1) he hpl
end
end L2

namespace HT
open PySem PyProof.Rows

section
open PySem.SeqAt
open PySem.AutoSeq1 (wpAny_loadPart')
open PySem.MeetsSeq PySem.MeetsSeq2 PySem.MeetsSeq3

end

section
variable {prog : Program} {w : World} {A : Around} {E : Value → Shared → Prop} {s : Shared}

/-- t + u, t not empty -/
theorem cat_tup {t b : Addr} {vs ws : List Value} {Q : Value → Shared → Prop} (ht : IsTup s.heap t vs.toArray) (hb : IsTup s.heap b ws.toArray) (hv : vs ≠ [])
    (h1 : ws = [] → Q (.ref t) s) (h2 : ws ≠ [] → Q (.ref s.heap.objs.size) { s with heap := s.heap.push { cls := .type "tuple", data := .seq (vs ++ ws).toArray } })
    (hsz : vs.length + ws.length ≤ sizeLine) : wpAny (model prog w) A (binaryOp .Add (.ref t) (.ref b)) Q E s := by
  obtain ⟨⟨cls, dd, data, sl⟩, ho, hc, n, hd⟩ := id ht
  obtain ⟨⟨cls2, dd2, data2, sl2⟩, ho2, hc2, n2, hd2⟩ := id hb
  simp only at hc hd hc2 hd2
  subst hc hd hc2 hd2
  have e : vs.toArray ++ ws.toArray = (vs ++ ws).toArray := by simp
  by_cases hw : ws = []
  · exact concat_meets ⟨_, ho, rfl⟩ ⟨_, ho2, rfl⟩ noFill_tuple_add seq_tuple_add PySem.F.slot_tuple_add PySem.F.entry_tuple_add (PySem.F.args_tuple_add_2 _ _)
      (tuple_addW1 t b vs.toArray ws.toArray n n2 dd dd2 sl sl2 (by simpa using hv) (by simp [hw])) ⟨ho, ho2, h1 hw⟩
  · refine concat_meets ⟨_, ho, rfl⟩ ⟨_, ho2, rfl⟩ noFill_tuple_add seq_tuple_add PySem.F.slot_tuple_add PySem.F.entry_tuple_add (PySem.F.args_tuple_add_2 _ _)
      (tuple_addW2 t b vs.toArray ws.toArray n n2 dd dd2 sl sl2 (by simpa using hv) (by simpa using hw) (by rw [List.size_toArray, List.size_toArray]; exact hsz)) ⟨ho, ho2, ?_⟩
    rw [e]
    exact h2 hw

/-! ### t[a:b], not the whole -/
/-- a slice's bound as a place among n (d where it is left out) -/
noncomputable def sIx (n d : Nat) : Option Int → Nat
  | none => d
  | some v => if v < 0 then (v + (n : Int)).toNat else min v.toNat n
theorem sIx_none (n d : Nat) : sIx n d none = d := rfl
theorem sIx_nat (n d k : Nat) : sIx n d (some (k : Int)) = min k n := by
  show (if (k : Int) < 0 then ((k : Int) + (n : Int)).toNat else min (k : Int).toNat n) = min k n
  rw [if_neg (by omega), Int.toNat_natCast]
theorem sIx_le (n d : Nat) (hd : d ≤ n) (o : Option Int) : sIx n d o ≤ n := by
  cases o with
  | none => exact hd
  | some v =>
    show (if v < 0 then (v + (n : Int)).toNat else min v.toNat n) ≤ n
    by_cases hv : v < 0
    · rw [if_pos hv]; omega
    · rw [if_neg hv]; exact Nat.min_le_right _ _
theorem clip_eq (v : Int) (n d : Nat) : (if v < 0 then max (v + (n : Int)) 0 else min v (n : Int)) = ((sIx n d (some v) : Nat) : Int) := by
  show (if v < 0 then max (v + (n : Int)) 0 else min v (n : Int)) = (((if v < 0 then (v + (n : Int)).toNat else min v.toNat n) : Nat) : Int)
  by_cases hv : v < 0
  · simp only [if_pos hv]; omega
  · simp only [if_neg hv]; omega
theorem adjust_gen (lo hi : Option Int) (n : Nat) : Builtin.Slice.sliceAdjust lo hi 1 (n : Int) = (((sIx n 0 lo : Nat) : Int), ((sIx n n hi : Nat) : Int)) := by
  have h1 : ¬ ((1 : Int) < 0) := by omega
  unfold Builtin.Slice.sliceAdjust
  simp only [h1, if_false]
  refine Prod.ext ?_ ?_
  · cases lo with
    | none => rfl
    | some v => exact clip_eq v n 0
  · cases hi with
    | none => rfl
    | some v => exact clip_eq v n n
theorem places_gen (i j : Nat) : Builtin.Slice.slicePlaces (i : Int) (j : Int) 1 = j - i := by
  unfold Builtin.Slice.slicePlaces
  have h1 : (1 : Int) > 0 := by omega
  simp only [h1, if_true, Int.ediv_one]
  split <;> omega
theorem slicePart_ {v : Value} {o : Option Int} {Q : Option Int → Shared → Prop} (p : IsPart v o) (h : Q o s) : wpAny (model prog w) A (Builtin.Slice.slicePartIndex v) Q E s := by
  cases p with
  | none => exact slicePart_none h
  | int i t => exact slicePart_int h
theorem sliceApplied_gen {sl : Addr} {vl vu : Value} {lo hi : Option Int} {n : Nat} {Q : Int × Int × Nat → Shared → Prop} (hs : s.heap.IsSliceOf sl vl vu .none) (pl : IsPart vl lo) (pu : IsPart vu hi)
    (h : Q (((sIx n 0 lo : Nat) : Int), 1, sIx n n hi - sIx n 0 lo) s) : wpAny (model prog w) A (Builtin.Slice.sliceApplied (.ref sl) (pure (n : Int))) Q E s := by
  obtain ⟨os, hos, hcs, hds⟩ := id hs
  unfold Builtin.Slice.sliceApplied Builtin.Slice.sliceFields
  refine wpAny_bind (wpAny_bind (wpAny_field hos hds (x := vl) rfl (wpAny_bind (wpAny_field hos hds (x := vu) rfl (wpAny_bind (wpAny_field hos hds (x := .none) rfl (wpAny_pure ?_)))))))
  refine wpAny_bind (slicePart_none ?_)
  show wpAny _ _ (if ((1 : Int) == 0) = true then _ else _) _ _ s
  rw [if_neg (by decide)]
  refine wpAny_bind (slicePart_ pl (wpAny_bind (slicePart_ pu (wpAny_bind (wpAny_pure ?_)))))
  show wpAny _ _ (match Builtin.Slice.sliceAdjust lo hi 1 (n : Int) with | (lo, hi) => pure (lo, (1 : Int), Builtin.Slice.slicePlaces lo hi 1)) _ _ s
  rw [adjust_gen lo hi n]
  show wpAny _ _ (pure (((sIx n 0 lo : Nat) : Int), (1 : Int), Builtin.Slice.slicePlaces ((sIx n 0 lo : Nat) : Int) ((sIx n n hi : Nat) : Int) 1)) _ _ s
  rw [places_gen]
  exact wpAny_pure h
theorem pick_gen (xs : Array Value) (i k : Nat) : ((List.range k).filterMap fun (m : Nat) => xs[((i : Int) + (m : Int) * 1).toNat]?).toArray = ((xs.toList.drop i).take k).toArray := by
  have e : (fun (m : Nat) => xs[((i : Int) + (m : Int) * 1).toNat]?) = fun m => xs[i + m]? := by
    funext m
    have : ((i : Int) + (m : Int) * 1).toNat = i + m := by omega
    rw [this]
  rw [e]
  have := pick_run xs i k
  rw [List.filterMap_map] at this
  have e2 : ((fun x => xs[x]?) ∘ fun x => i + x) = fun m => xs[i + m]? := rfl
  rw [e2] at this
  rw [this]

theorem getItem_tuple_cut {t sl : Addr} {items : Array Value} {vl vu : Value} {lo hi : Option Int} {Q : Value → Shared → Prop} (ht : IsTup s.heap t items) (hs : s.heap.IsSliceOf sl vl vu .none) (pl : IsPart vl lo) (pu : IsPart vu hi)
    (hw : ¬ (sIx items.size 0 lo = 0 ∧ sIx items.size items.size hi = items.size))
    (h : Q (.ref s.heap.objs.size) { s with heap := s.heap.push { cls := .type "tuple", data := .seq ((items.toList.drop (sIx items.size 0 lo)).take (sIx items.size items.size hi - sIx items.size 0 lo)).toArray } })
    (hsz : items.size ≤ sizeLine) : wpAny (model prog w) A (getItem (.ref t) (.ref sl)) Q E s := by
  have htake : sizeOk (.seq ((items.toList.drop (sIx items.size 0 lo)).take (sIx items.size items.size hi - sIx items.size 0 lo)).toArray) := by
    show ((items.toList.drop (sIx items.size 0 lo)).take (sIx items.size items.size hi - sIx items.size 0 lo)).toArray.size ≤ sizeLine
    rw [List.size_toArray, List.length_take, List.length_drop, Array.length_toList]
    omega
  have hj : sIx items.size items.size hi ≤ items.size := sIx_le _ _ (Nat.le_refl _) hi
  obtain ⟨os, hos, hcs, hds⟩ := id hs
  have hTs : s.TypeIs (.ref sl) "slice" := ⟨os, hos, hcs⟩
  unfold getItem
  try with_reducible refine wpAny_holding ?_
  first | refine wpAny_bind (wpAny_pure ?_) | skip
  refine wpAny_bind (wpAny_sequenceKey ht.typeIs (by decide) ?_)
  refine wpAny_bind (wpAny_callSpecial?_slot (name := Str.ofString "__getitem__") ht.typeIs PyProof.Rows.slot_tuple_getitem
    (wpAny_call_entry PyProof.Rows.slot_tuple_getitem ht.typeIs entry_tuple_getitem ?_ (args_tuple_getitem _ _)))
  show wpAny _ _ (Builtin.Tuple.tupleItemsOf (.ref t) >>= _) _ _ s
  refine wpAny_bind (tupleItemsOf_ ht ?_)
  refine wpAny_bind (wpAny_typeOf hTs ?_)
  rw [if_pos (by decide)]
  refine wpAny_bind (sliceApplied_gen hs pl pu ?_)
  have hno : ¬ ((((sIx items.size 0 lo : Nat) : Int) == 0 && (1 : Int) == 1 && (sIx items.size items.size hi - sIx items.size 0 lo) == items.size) = true) := by
    intro q
    rw [Bool.and_eq_true, Bool.and_eq_true] at q
    have q1 : ((sIx items.size 0 lo : Nat) : Int) = 0 := eq_of_beq q.1.1
    have q2 : sIx items.size items.size hi - sIx items.size 0 lo = items.size := eq_of_beq q.2
    exact hw ⟨by omega, by omega⟩
  show wpAny _ _ (if (((sIx items.size 0 lo : Nat) : Int) == 0 && (1 : Int) == 1 && (sIx items.size items.size hi - sIx items.size 0 lo) == items.size) = true then _ else _) _ _ s
  rw [if_neg hno, pick_gen]
  first
    | exact wpAny_bind (m := Builtin.Tuple.tupleExact _) (wpAny_newObj_type (wpAny_pure ⟨_, rfl, wpAny_pure h⟩) htake)
    | exact wpAny_bind (m := Builtin.Tuple.tupleExact _) (wpAny_newObj_type (wpAny_bind (wpAny_pure (wpAny_pure ⟨_, rfl, wpAny_pure h⟩))) htake)
    | exact wpAny_bind (wpAny_bind (m := Builtin.Tuple.tupleExact _) (wpAny_newObj_type (wpAny_pure (wpAny_pure ⟨_, rfl, wpAny_pure h⟩)) htake))
    | exact wpAny_bind (wpAny_bind (m := Builtin.Tuple.tupleExact _) (wpAny_newObj_type (wpAny_pure ⟨_, rfl, wpAny_pure h⟩) htake))
end
end HT

namespace L2
open PySem PySem.Spec PyProof.Rows

/-! ### the parts of a slice -/
noncomputable abbrev TO := St → Hp → (Option Int → Hp → Prop) → Prop
/-- a slice's part (left out, or an int) -/
noncomputable def PO (X : Cx) (e : Option Expr) (t : TO) : Prop :=
  ∀ (pins : List (Addr × Obj)) (s : Shared) (σ : St) (H : Hp) (Q : Option Int → Hp → Prop), Inv X pins σ H s → t σ H Q →
    wpAny (model X.prog X.w) X.A (evalPart e X.env) (fun u s' => ∃ o H', Inv X pins σ H' s' ∧ IsPart u o ∧ Q o H') X.xe s
noncomputable def tNoPart : TO := fun _ H Q => Q none H
noncomputable def tPart (t : TE) : TO := fun σ H Q => t σ H fun x H1 => ∃ i, x = .int i ∧ Q (some i) H1

section
variable {X : Cx} {e : Expr} {te : TE} {lo hi : Option Expr} {tl th : TO} {pos p2 : Pos}

theorem po_none : PO X none tNoPart := by
  intro pins s σ H Q I h
  rw [evalPart_none]
  exact wpAny_pure ⟨none, H, I, .none, h⟩
theorem po_some (h : PE X e te) : PO X (some e) (tPart te) := by
  intro pins s σ H Q I hw
  rw [evalPart_some]
  refine thn (h pins s σ H _ I hw) fun u s1 ⟨x, H1, I1, r1, q1⟩ => ?_
  obtain ⟨i, rfl, q⟩ := q1
  obtain ⟨t, rfl⟩ := r1
  exact ⟨some i, H1, I1, .int i t, q⟩

/-- what a slice of a value is, by values: the slice object stands at sl -/
noncomputable def SlR (X : Cx) (r : V → Option Int → Option Int → Hp → VK → Prop) : Prop :=
  ∀ (pins : List (Addr × Obj)) (s : Shared) (σ : St) (H : Hp) (x : V) (v vl vu : Value) (lo hi : Option Int) (sl : Addr) (Q : VK), Inv X pins σ H s → RelV x v → s.heap.IsSliceOf sl vl vu .none → IsPart vl lo → IsPart vu hi → r x lo hi H Q →
    ∃ T id, typeLookup (.type T) "__getitem__" = pure (some (.builtin id)) ∧ s.TypeIs v T ∧ wpAny (model X.prog X.w) X.A (getItem v (.ref sl)) (EP X pins σ Q) X.xe s
theorem SlR.or {r r' : V → Option Int → Option Int → Hp → VK → Prop} (h : SlR X r) (h' : SlR X r') : SlR X (fun x lo hi H Q => r x lo hi H Q ∨ r' x lo hi H Q) := by
  intro pins s σ H x v vl vu lo hi sl Q I rx hs pl pu q
  rcases q with q | q
  · exact h pins s σ H x v vl vu lo hi sl Q I rx hs pl pu q
  · exact h' pins s σ H x v vl vu lo hi sl Q I rx hs pl pu q
noncomputable def tSl (r : V → Option Int → Option Int → Hp → VK → Prop) (te : TE) (tl th : TO) : TE := fun σ H Q => te σ H fun x H1 => tl σ H1 fun l H2 => th σ H2 fun u H3 => r x l u H3 Q
/-- a[lo:hi], any a -/
theorem pe_slice {r : V → Option Int → Option Int → Hp → VK → Prop} (hr : SlR X r) (he : PE X e te) (hl : PO X lo tl) (hu : PO X hi th) : PE X (.Subscript e (.Slice lo hi none p2) pos) (tSl r te tl th) := by
  intro pins s σ H Q I h
  refine Subscript_ (thn (he pins s σ H _ I h) fun v s1 ⟨x, H1, I1, r1, q1⟩ => ?_)
  refine wpAny_Slice (thn (hl pins s1 σ H1 _ I1 q1) fun vl s2 ⟨l, H2, I2, pl, q2⟩ => thn (hu pins s2 σ H2 _ I2 q2) fun vu s3 ⟨u, H3, I3, pu, q3⟩ => ?_)
  rw [evalPart_none]
  refine wpAny_pure ?_
  have I4 : Inv X pins σ H3 { s3 with heap := s3.heap.push { cls := .type "slice", data := .fields #[vl, vu, .none] } } := I3.kept (t' := s3.toks) fun b ob q => Heap.get?_push_of_some _ q
  obtain ⟨T, id, hT, ht, hg⟩ := hr pins { s3 with heap := s3.heap.push { cls := .type "slice", data := .fields #[vl, vu, .none] } } σ H3 x v vl vu l u s3.heap.objs.size Q I4 r1 (Heap.IsSliceOf.new ..) pl pu q3
  show wpAny (model X.prog X.w) X.A (subscriptTail e (.Slice lo hi none p2) v (.ref s3.heap.objs.size)) (EP X pins σ Q) X.xe { s3 with heap := s3.heap.push { cls := .type "slice", data := .fields #[vl, vu, .none] } }
  exact tail_any (ops := [.ref s3.heap.objs.size, v]) ht hT hg (by with_unfolding_all rfl)

/-- the items of xs[lo:hi] -/
noncomputable def cutV (xs : List V) (lo hi : Option Int) : List V := (xs.drop (HT.sIx xs.length 0 lo)).take (HT.sIx xs.length xs.length hi - HT.sIx xs.length 0 lo)
theorem cutV_length (xs : List V) (lo hi : Option Int) : (cutV xs lo hi).length ≤ xs.length := by
  unfold cutV
  rw [List.length_take, List.length_drop]
  omega
/-- t[lo:hi], not the whole of it (the whole would be t itself) -/
noncomputable def rSlT (K : PySem.W.Frag) : V → Option Int → Option Int → Hp → VK → Prop := fun x lo hi H Q => ∃ a xs, x = .ref a ∧ SqT K H a xs ∧
  ¬ (HT.sIx xs.length 0 lo = 0 ∧ HT.sIx xs.length xs.length hi = xs.length) ∧ ∀ p, H p = none → Q (.ref p) (upd H p (.tup (cutV xs lo hi)))
theorem sl_tup : SlR X (rSlT X.K) := by
  intro pins s σ H x v vl vu lo hi sl Q I rx hs pl pu h
  obtain ⟨a, xs, rfl, hx, hw, q⟩ := h
  cases rx
  obtain ⟨its, r, ht, hz⟩ := I.tuple hx
  have hlen : its.toArray.size = xs.length := by rw [List.size_toArray]; exact r.length.symm
  refine ⟨"tuple", _, PyProof.Rows.slot_tuple_getitem.lookup, ht.typeIs, ?_⟩
  refine HT.getItem_tuple_cut ht hs pl pu (by rw [hlen]; exact hw) ?_ (by rw [hlen]; exact hz)
  rw [hlen]
  refine ⟨.ref s.heap.objs.size, _, I.laid (t' := s.toks) (o := .tup (cutV xs lo hi)) (fun b ob q => Heap.get?_push_of_some _ q) (Nat.le_refl _) ?_, rfl, q _ (I.hok.fresh (Nat.le_refl _))⟩
  exact ⟨Nat.le_trans (cutV_length xs lo hi) hz, _, (r.drop (HT.sIx xs.length 0 lo)).take (HT.sIx xs.length xs.length hi - HT.sIx xs.length 0 lo), IsTup.new _ _⟩

/-! ### t < u, t + u -/
/-- t + u, t not empty: u empty gives t itself -/
noncomputable def rCatT (K : PySem.W.Frag) : R2 := fun x y H Q => ∃ a b xs ys, x = .ref a ∧ y = .ref b ∧ SqT K H a xs ∧ SqT K H b ys ∧ xs ≠ [] ∧ xs.length + ys.length ≤ sizeLine ∧
  (ys = [] → Q (.ref a) H) ∧ (ys ≠ [] → ∀ p, H p = none → Q (.ref p) (upd H p (.tup (xs ++ ys))))
theorem Vals.nil_iff {xs : List V} {us : List Value} (r : Vals xs us) : us = [] ↔ xs = [] := by
  cases r with
  | nil => simp
  | cons _ _ => simp
theorem op_catT : OpR X (binaryOp .Add) (rCatT X.K) := by
  intro pins s σ H x y v u Q I rx ry h
  obtain ⟨a, b, xs, ys, rfl, rfl, ha, hb, hx, hz, q1, q2⟩ := h
  cases rx
  cases ry
  obtain ⟨its, r1, p1, _⟩ := I.tuple ha
  obtain ⟨its2, r2, p2, _⟩ := I.tuple hb
  refine HT.cat_tup p1 p2 (fun z => hx (r1.nil_iff.mp z)) (fun z => ⟨.ref a, H, I, rfl, q1 (r2.nil_iff.mp z)⟩) (fun z => ?_) (by rw [← r1.length, ← r2.length]; exact hz)
  refine ⟨.ref s.heap.objs.size, _, I.laid (t' := s.toks) (o := .tup (xs ++ ys)) (fun b ob q => Heap.get?_push_of_some _ q) (Nat.le_refl _) ?_, rfl, q2 (fun w => z (r2.nil_iff.mpr w)) _ (I.hok.fresh (Nat.le_refl _))⟩
  exact ⟨by rw [List.length_append]; exact hz, _, r1.append r2, IsTup.new _ _⟩
end
end L2

namespace L2
open PySem PySem.Spec PyProof.Rows

/-! ### places -/
/-- the place that an index of any sign means -/
noncomputable def ixN (n : Nat) (i : Int) : Option Nat := if 0 ≤ i then (if i < n then some i.toNat else none) else if -(n : Int) ≤ i then some (i + n).toNat else none
noncomputable def atI {α : Type} (xs : List α) (i : Int) : Option α := (ixN xs.length i).bind fun j => xs[j]?
theorem ixN_seq {n : Nat} {i : Int} {j : Nat} (h : ixN n i = some j) : seqIndex? i n = some j ∧ j < n ∧ -(n : Int) ≤ i ∧ i < n := by
  unfold ixN at h
  by_cases h0 : 0 ≤ i
  · rw [if_pos h0] at h
    by_cases h1 : i < n
    · rw [if_pos h1] at h
      have e : i.toNat = j := Option.some.inj h
      exact ⟨by rw [seqIndex_of h0 h1, e], by omega, by omega, h1⟩
    · rw [if_neg h1] at h; cases h
  · rw [if_neg h0] at h
    by_cases h1 : -(n : Int) ≤ i
    · rw [if_pos h1] at h
      have e : (i + n).toNat = j := Option.some.inj h
      exact ⟨by rw [seqIndex_neg (by omega) h1, e], by omega, h1, by omega⟩
    · rw [if_neg h1] at h; cases h
theorem atI_get {α : Type} {xs : List α} {i : Int} {v : α} (h : atI xs i = some v) : ∃ j, seqIndex? i xs.length = some j ∧ xs[j]? = some v ∧ j < xs.length ∧ -(xs.length : Int) ≤ i ∧ i < xs.length := by
  unfold atI at h
  cases e : ixN xs.length i with
  | none => rw [e] at h; cases h
  | some j =>
    rw [e] at h
    obtain ⟨h1, h2, h3, h4⟩ := ixN_seq e
    exact ⟨j, h1, h, h2, h3, h4⟩
theorem atI_nat {α : Type} {xs : List α} {j : Nat} {v : α} (h : xs[j]? = some v) : atI xs (j : Int) = some v := by
  have hj : j < xs.length := (List.getElem?_eq_some_iff.mp h).1
  have e : ixN xs.length (j : Int) = some j := by
    unfold ixN
    rw [if_pos (by omega), if_pos (by omega)]; simp
  unfold atI; rw [e]; exact h
theorem atI_last {α : Type} (xs : List α) (v : α) : atI (xs ++ [v]) (-1) = some v := by
  have hl : (xs ++ [v]).length = xs.length + 1 := by simp
  have e : ixN (xs ++ [v]).length (-1) = some xs.length := by
    unfold ixN
    rw [hl, if_neg (by decide), if_pos (by omega)]
    congr 1
    omega
  unfold atI
  rw [e]
  show (xs ++ [v])[xs.length]? = some v
  simp

/-! ### what may be subscripted -/
/-- what stands as an index of a plain subscript -/
noncomputable def PlainIx (b : Expr) : Prop := ∀ o i, subscripted b false o i = operate [o, i] (getItem o i)
/-- a subscript by values -/
noncomputable def IxR (X : Cx) (r : R2) : Prop :=
  ∀ (value slice : Expr) (pins : List (Addr × Obj)) (s : Shared) (σ : St) (H : Hp) (x y : V) (v u : Value) (Q : VK), Inv X pins σ H s → RelV x v → RelV y u → r x y H Q →
    subscripted slice false v u = operate [v, u] (getItem v u) → wpAny (model X.prog X.w) X.A (subscriptTail value slice v u) (EP X pins σ Q) X.xe s
/-- a call of a builtin's method by values: the receiver, the arguments -/
noncomputable def MtR (X : Cx) (id : String) (r : V → List V → Hp → VK → Prop) : Prop :=
  ∀ (pins : List (Addr × Obj)) (s : Shared) (σ : St) (H : Hp) (x : V) (xs : List V) (v : Value) (us : List Value) (Q : VK), Inv X pins σ H s → RelV x v → Vals xs us → r x xs H Q →
    wpAny (model X.prog X.w) X.A (call (.builtin id) (v :: us)) (EP X pins σ Q) X.xe s
section
variable {X : Cx} {a b : Expr} {ta tb : TE} {pos : Pos}
theorem IxR.or {r r' : R2} (h : IxR X r) (h' : IxR X r') : IxR X (fun x y H Q => r x y H Q ∨ r' x y H Q) := by
  intro value slice pins s σ H x y v u Q I rx ry q hs
  rcases q with q | q
  · exact h value slice pins s σ H x y v u Q I rx ry q hs
  · exact h' value slice pins s σ H x y v u Q I rx ry q hs
theorem MtR.or {id : String} {r r' : V → List V → Hp → VK → Prop} (h : MtR X id r) (h' : MtR X id r') : MtR X id (fun x xs H Q => r x xs H Q ∨ r' x xs H Q) := by
  intro pins s σ H x xs v us Q I rx rs q
  rcases q with q | q
  · exact h pins s σ H x xs v us Q I rx rs q
  · exact h' pins s σ H x xs v us Q I rx rs q
/-- a[b] -/
theorem pe_ix {r : R2} (hr : IxR X r) (ha : PE X a ta) (hb : PE X b tb) (hs : PlainIx b) : PE X (.Subscript a b pos) (tOp r ta tb) := by
  intro pins s σ H Q I h
  exact Subscript_ (binT ha hb I h fun v u s2 x y H2 I2 rx ry q => hr a b pins s2 σ H2 x y v u Q I2 rx ry q (hs _ _))

noncomputable def rIxL (K : PySem.W.Frag) : R2 := fun x y H Q => ∃ p xs i v, x = .ref p ∧ y = .int i ∧ SqL K H p xs ∧ atI xs i = some v ∧ Q v H
noncomputable def rIxT (K : PySem.W.Frag) : R2 := fun x y H Q => ∃ p xs i v, x = .ref p ∧ y = .int i ∧ SqT K H p xs ∧ atI xs i = some v ∧ Q v H
noncomputable def rIxS : R2 := fun x y H Q => ∃ z i c, x = .str z ∧ y = .int i ∧ z.length ≤ sizeLine ∧ atI z.cps.toList i = some c ∧ Q (.str ⟨#[c]⟩) H
theorem ix_list : IxR X (rIxL X.K) := by
  intro value slice pins s σ H x y v u Q I rx ry h hs
  obtain ⟨p, xs, i, z, rfl, rfl, hq, he, q⟩ := h
  cases rx
  obtain ⟨t, rfl⟩ := ry
  obtain ⟨its, r, pl, hz⟩ := I.list hq
  obtain ⟨j, h1, h2, h3, h4, h5⟩ := atI_get he
  obtain ⟨w, ew, rw'⟩ := r.get h2
  have hl := r.length
  have hn := line63
  have fin : EP X pins σ Q w s := ⟨z, H, I, rw', q⟩
  by_cases h0 : 0 ≤ i
  · have hj : i.toNat = j := by
      rw [seqIndex_of h0 h5] at h1
      exact Option.some.inj h1
    exact item_listR pl.isList h0 (by omega) (by rw [hj]; simpa using ew) fin hs
  · have hj : (i + (its.toArray.size : Int)).toNat = j := by
      rw [seqIndex_neg (by omega) h4] at h1
      rw [List.size_toArray, ← hl]
      exact Option.some.inj h1
    exact subscriptTail_builtinR (x := w) pl.isList.typeIs slot_list_getitem.lookup
      (wpAny_getItem_list_neg (Q := fun r s' => r = w ∧ EP X pins σ Q r s') pl.isList (by omega) (by rw [List.size_toArray] <;> omega) (by omega) (by rw [hj]; simpa using ew) ⟨rfl, fin⟩) hs
theorem ix_tup : IxR X (rIxT X.K) := by
  intro value slice pins s σ H x y v u Q I rx ry h hs
  obtain ⟨p, xs, i, z, rfl, rfl, hq, he, q⟩ := h
  cases rx
  obtain ⟨t, rfl⟩ := ry
  obtain ⟨its, r, pl, hz⟩ := I.tuple hq
  obtain ⟨j, h1, h2, h3, h4, h5⟩ := atI_get he
  obtain ⟨w, ew, rw'⟩ := r.get h2
  have hl := r.length
  have hn := line63
  have fin : EP X pins σ Q w s := ⟨z, H, I, rw', q⟩
  exact subscriptTail_builtinR (x := w) pl.typeIs slot_tuple_getitem.lookup
    (getItem_tuple (j := j) (Q := fun r s' => r = w ∧ EP X pins σ Q r s') pl (by omega) (by omega) (by rw [List.size_toArray, ← hl]; exact h1) (by simpa using ew) ⟨rfl, fin⟩) hs
theorem ix_str : IxR X rIxS := by
  intro value slice pins s σ H x y v u Q I rx ry h hs
  obtain ⟨z, i, c, rfl, rfl, hz, he, q⟩ := h
  obtain ⟨t, rfl⟩ := rx
  obtain ⟨t', rfl⟩ := ry
  obtain ⟨j, h1, h2, h3, h4, h5⟩ := atI_get he
  have hl : z.cps.toList.length = z.length := by simp [Str.length]
  rw [hl] at h1 h4 h5
  have hn := line63
  exact tail_any (typeIs_str s z t) slot_str_getitem.lookup (getItem_str (c := c) (by
    have e1 : decide (i < -(2 ^ 63 : Int)) = false := decide_eq_false (by omega)
    have e2 : decide (i ≥ 2 ^ 63) = false := decide_eq_false (by omega)
    rw [e1, e2, Bool.or_false]) (by rw [h1]; simpa using h2) ⟨.str ⟨#[c]⟩, H, I.tok _, ⟨_, rfl⟩, q⟩) hs
/-- list, tuple or str -/
noncomputable def rIx (K : PySem.W.Frag) : R2 := fun x y H Q => rIxL K x y H Q ∨ rIxT K x y H Q ∨ rIxS x y H Q
theorem ix_seq : IxR X (rIx X.K) := ix_list.or (ix_tup.or ix_str)

/-! ### xs[i] = v, any sign -/
/-- the list's object behind a store -/
theorem mapSeq_set (its : List Value) (n j : Nat) (u : Value) : Obj.mapSeq (·.setIfInBounds j u) { cls := .type "list", data := .seq its.toArray n } = { cls := .type "list", data := .seq (its.set j u).toArray n } := by
  simp [Obj.mapSeq]
theorem Inv.lst {pins : List (Addr × Obj)} {σ : St} {H : Hp} {s : Shared} {p : Addr} {xs : List V} (I : Inv X pins σ H s) (h : H p = some (.lst xs)) :
    ∃ (its : List Value) (n : Nat), Vals xs its ∧ s.heap.get? p = some { cls := .type "list", data := .seq its.toArray n } ∧ xs.length ≤ sizeLine := by
  obtain ⟨z, its, n, r, e⟩ := I.hok p _ h
  exact ⟨its, n, r, e, z⟩
/-- the list at p is written by an update of its object -/
theorem Inv.lstUpd {pins : List (Addr × Obj)} {σ : St} {H : Hp} {s : Shared} {p : Addr} {xs ys : List V} {its its' : List Value} {n n' : Nat} {f : Obj → Obj} (I : Inv X pins σ H s) (h : H p = some (.lst xs))
    (ho : s.heap.get? p = some { cls := .type "list", data := .seq its.toArray n }) (hf : f { cls := .type "list", data := .seq its.toArray n } = { cls := .type "list", data := .seq its'.toArray n' }) (r : Vals ys its') (hz : ys.length ≤ sizeLine) (t : Nat) :
    Inv X pins σ (upd H p (.lst ys)) { s with heap := s.heap.update p f, toks := t } := by
  have e : (s.heap.update p f).get? p = some { cls := .type "list", data := .seq its'.toArray n' } := by
    rw [Heap.get?_update_self f ho (by rw [hf] <;> rfl), hf]
  refine I.write (x := p) (e := p) (by rw [h]; trivial) (.inl rfl) (fun b u hb q => (Heap.get?_update_other _ _ (Ne.symm hb)).trans q) ⟨_, e⟩ ?_
  exact ⟨hz, its', n', r, e⟩
noncomputable def rSetL : V → V → V → Hp → (Hp → Prop) → Prop := fun o i v H Q => ∃ p xs k j, o = .ref p ∧ i = .int k ∧ H p = some (.lst xs) ∧ ixN xs.length k = some j ∧ Q (upd H p (.lst (xs.set j v)))
theorem set_list : PSet X rSetL := by
  intro pins s σ H o i v ov iv u Q I ro ri rv h
  obtain ⟨p, xs, k, j, rfl, rfl, hp, hj, q⟩ := h
  cases ro
  obtain ⟨t, rfl⟩ := ri
  obtain ⟨its, n, r, ho, hz⟩ := I.lst hp
  obtain ⟨h1, h2, h3, h4⟩ := ixN_seq hj
  have hl := r.length
  have hn := line63
  have I' : Inv X pins σ (upd H p (.lst (xs.set j v))) { s with heap := s.heap.update p (Obj.mapSeq (·.setIfInBounds j u)) } :=
    I.lstUpd hp ho (mapSeq_set its n j u) (r.set rv j) (by rw [List.length_set]; exact hz) s.toks
  by_cases h0 : 0 ≤ k
  · have hk : k.toNat = j := by
      rw [seqIndex_of h0 h4] at h1
      exact Option.some.inj h1
    exact PySem.W.ki_setAt ho h0 (by omega) (by rw [List.size_toArray, ← hl]; exact h4) (by rw [hk]; exact ⟨_, I', q⟩)
  · have hk : (k + (its.toArray.size : Int)).toNat = j := by
      rw [seqIndex_neg (by omega) h3] at h1
      rw [List.size_toArray, ← hl]
      exact Option.some.inj h1
    exact PySem.W.ki_setBack ho (by omega) (by rw [List.size_toArray, ← hl]; exact h3) (by omega) (by rw [hk]; exact ⟨_, I', q⟩)

/-! ### slices -/
theorem slice_bounds (lo hi : Option Int) (n : Nat) : (sliceBounds lo hi none n).1 = ((HT.sIx n 0 lo : Nat) : Int) ∧ (sliceBounds lo hi none n).2.1 = ((HT.sIx n n hi : Nat) : Int) ∧ (sliceBounds lo hi none n).2.2 = 1 := by
  refine ⟨?_, ?_, rfl⟩
  · cases lo with
    | none => simp [sliceBounds, HT.sIx]
    | some i =>
      simp only [sliceBounds, HT.sIx, Option.getD_none, show (1 : Int) > 0 by decide, if_true]
      by_cases h : i < 0
      · simp only [h, if_true] <;> omega
      · simp only [h, if_false] <;> omega
  · cases hi with
    | none => simp [sliceBounds, HT.sIx]
    | some i =>
      simp only [sliceBounds, HT.sIx, Option.getD_none, show (1 : Int) > 0 by decide, if_true]
      by_cases h : i < 0
      · simp only [h, if_true] <;> omega
      · simp only [h, if_false] <;> omega
theorem slicePick_cut (its : List Value) (lo hi : Option Int) : slicePick its.toArray lo hi none = ((its.drop (HT.sIx its.length 0 lo)).take (HT.sIx its.length its.length hi - HT.sIx its.length 0 lo)).toArray := by
  obtain ⟨h1, h2, h3⟩ := slice_bounds lo hi its.toArray.size
  unfold slicePick
  rw [h1, h2, h3]
  simp only [sliceRange_one, pick_run, List.size_toArray] <;> rfl
/-- xs[lo:hi] of a list: a new list -/
noncomputable def rSlL (K : PySem.W.Frag) : V → Option Int → Option Int → Hp → VK → Prop := fun x lo hi H Q => ∃ a xs, x = .ref a ∧ SqL K H a xs ∧ ∀ p, H p = none → Q (.ref p) (upd H p (.lst (cutV xs lo hi)))
theorem sl_list : SlR X (rSlL X.K) := by
  intro pins s σ H x v vl vu lo hi sl Q I rx hs pl pu h
  obtain ⟨a, xs, rfl, hx, q⟩ := h
  cases rx
  obtain ⟨its, r, ht, hz⟩ := I.list hx
  have hlen := r.length
  refine ⟨"list", _, slot_list_getitem.lookup, ht.isList.typeIs, ?_⟩
  refine wpAny_getItem_list_slice ht.isList hs pl pu .none (by simp) ?_ (by rw [List.size_toArray] <;> omega)
  rw [slicePick_cut, ← hlen]
  refine ⟨.ref s.heap.objs.size, _, I.laid (t' := s.toks) (o := .lst (cutV xs lo hi)) (fun b ob q => Heap.get?_push_of_some _ q) (Nat.le_refl _) ?_, rfl, q _ (I.hok.fresh (Nat.le_refl _))⟩
  exact ⟨Nat.le_trans (cutV_length xs lo hi) hz, _, 0, (r.drop (HT.sIx xs.length 0 lo)).take (HT.sIx xs.length xs.length hi - HT.sIx xs.length 0 lo), Heap.get?_push_size _ rfl⟩

/-! ### in, not in: flat items -/
noncomputable def flatV : V → Bool
  | .non => true
  | .bl _ => true
  | .int _ => true
  | .str _ => true
  | _ => false
/-- == of flat values -/
noncomputable def eqV : V → V → Bool
  | .non, .non => true
  | .bl a, .bl b => a == b
  | .bl a, .int b => (if a then 1 else 0) == b
  | .int a, .bl b => a == (if b then 1 else 0)
  | .int a, .int b => a == b
  | .str a, .str b => a == b
  | _, _ => false
theorem eqAt_V {A : Around} {s : Shared} {y x : V} {u v : Value} (ry : RelV y u) (rx : RelV x v) (fy : flatV y = true) (fx : flatV x = true) : SeqAt.EqAt A s u v (eqV y x) := by
  cases y with
  | non =>
    cases ry
    cases x with
    | non => cases rx; exact SeqAt.EqAt.same _
    | bl b => cases rx; exact SeqAt.EqAt.none_bool b
    | int b => obtain ⟨t, rfl⟩ := rx; exact SeqAt.EqAt.none_int b t
    | str b => obtain ⟨t, rfl⟩ := rx; exact SeqAt.EqAt.none_str b t
    | _ => exact absurd (show false = true from fx) Bool.false_ne_true
  | bl a =>
    cases ry
    cases x with
    | non => cases rx; exact SeqAt.EqAt.bool_none a
    | bl b => cases rx; exact SeqAt.EqAt.bool_bool a b
    | int b => obtain ⟨t, rfl⟩ := rx; exact SeqAt.EqAt.bool_int a b t
    | str b => obtain ⟨t, rfl⟩ := rx; exact SeqAt.EqAt.bool_str a b t
    | _ => exact absurd (show false = true from fx) Bool.false_ne_true
  | int a =>
    obtain ⟨t', rfl⟩ := ry
    cases x with
    | non => cases rx; exact SeqAt.EqAt.int_none a t'
    | bl b => cases rx; exact SeqAt.EqAt.int_bool a t' b
    | int b => obtain ⟨t, rfl⟩ := rx; exact SeqAt.EqAt.int_int a t' b t
    | str b => obtain ⟨t, rfl⟩ := rx; exact SeqAt.EqAt.int_str a t' b t
    | _ => exact absurd (show false = true from fx) Bool.false_ne_true
  | str a =>
    obtain ⟨t', rfl⟩ := ry
    cases x with
    | non => cases rx; exact SeqAt.EqAt.str_none a t'
    | bl b => cases rx; exact SeqAt.EqAt.str_bool a t' b
    | int b => obtain ⟨t, rfl⟩ := rx; exact SeqAt.EqAt.str_int a t' b t
    | str b => obtain ⟨t, rfl⟩ := rx; exact SeqAt.EqAt.str_str a t' b t
    | _ => exact absurd (show false = true from fx) Bool.false_ne_true
  | _ => exact absurd (show false = true from fy) Bool.false_ne_true
/-- the items' answers, read off the values (a value's own answer does not lean on its token) -/
noncomputable def eqU (x : V) (u : Value) : Bool := match u with
  | .none => eqV .non x
  | .bool b => eqV (.bl b) x
  | .int i _ => eqV (.int i) x
  | .str z _ => eqV (.str z) x
  | _ => false
theorem eqU_of {x y : V} {u : Value} (r : RelV y u) (f : flatV y = true) : eqU x u = eqV y x := by
  cases y with
  | non => cases r; rfl
  | bl b => cases r; rfl
  | int i => obtain ⟨t, rfl⟩ := r; rfl
  | str z => obtain ⟨t, rfl⟩ := r; rfl
  | _ => exact absurd (show false = true from f) Bool.false_ne_true
theorem any_eqU {x : V} : ∀ {xs : List V} {us : List Value}, Vals xs us → xs.all flatV = true → us.any (eqU x) = xs.any fun y => eqV y x
  | _, _, .nil, _ => rfl
  | y :: xs, u :: us, .cons r t, f => by
    rw [List.all_cons, Bool.and_eq_true] at f
    rw [List.any_cons, List.any_cons, eqU_of r f.1, any_eqU t f.2]
theorem mem_eqAt {A : Around} {s : Shared} {x : V} {v : Value} (rx : RelV x v) (fx : flatV x = true) : ∀ {xs : List V} {us : List Value}, Vals xs us → xs.all flatV = true → ∀ u ∈ us, SeqAt.EqAt A s u v (eqU x u)
  | _, _, .nil, _ => fun u hu => by cases hu
  | y :: xs, u :: us, .cons r t, f => fun u' hu => by
    rw [List.all_cons, Bool.and_eq_true] at f
    rcases List.mem_cons.mp hu with rfl | hu
    · rw [eqU_of r f.1]; exact eqAt_V r rx f.1 fx
    · exact mem_eqAt rx fx t f.2 u' hu
noncomputable def inV (x : V) (xs : List V) : Bool := xs.any fun y => eqV y x
/-- x in a list or tuple of flat items -/
noncomputable def rIn (K : PySem.W.Frag) (neg : Bool) : R2 := fun x y H Q => ∃ p xs, y = .ref p ∧ (SqL K H p xs ∨ SqT K H p xs) ∧ flatV x = true ∧ xs.all flatV = true ∧ Q (.bl (if neg then !inV x xs else inV x xs)) H
theorem op_in_seq : OpR X (compareOp .In) (rIn X.K false) := by
  intro pins s σ H x y v u Q I rx ry h
  obtain ⟨p, xs, rfl, hq, fx, fs, q⟩ := h
  cases ry
  rcases hq with hq | hq
  · obtain ⟨its, r, pl, hz⟩ := I.list hq
    refine SeqAt.in_listAt (eqU x) pl.isList (fun w hw => mem_eqAt rx fx r fs w (by simpa using hw)) ⟨.bl _, H, I, rfl, ?_⟩
    rw [show its.toArray.any (eqU x) = its.any (eqU x) by simp, any_eqU r fs]
    exact q
  · obtain ⟨its, r, pl, hz⟩ := I.tuple hq
    refine SeqAt.in_tupleAt (eqU x) pl (fun w hw => mem_eqAt rx fx r fs w (by simpa using hw)) ⟨.bl _, H, I, rfl, ?_⟩
    rw [show its.toArray.any (eqU x) = its.any (eqU x) by simp, any_eqU r fs]
    exact q
theorem op_notIn_seq : OpR X (compareOp .NotIn) (rIn X.K true) := by
  intro pins s σ H x y v u Q I rx ry h
  obtain ⟨p, xs, rfl, hq, fx, fs, q⟩ := h
  cases ry
  rcases hq with hq | hq
  · obtain ⟨its, r, pl, hz⟩ := I.list hq
    refine SeqAt.notIn_listAt (eqU x) pl.isList (fun w hw => mem_eqAt rx fx r fs w (by simpa using hw)) ⟨.bl _, H, I, rfl, ?_⟩
    rw [show its.toArray.any (eqU x) = its.any (eqU x) by simp, any_eqU r fs]
    exact q
  · obtain ⟨its, r, pl, hz⟩ := I.tuple hq
    refine SeqAt.notIn_tupleAt (eqU x) pl (fun w hw => mem_eqAt rx fx r fs w (by simpa using hw)) ⟨.bl _, H, I, rfl, ?_⟩
    rw [show its.toArray.any (eqU x) = its.any (eqU x) by simp, any_eqU r fs]
    exact q
/-! ### len, list(x), tuple(x) of any list or tuple that is read -/
theorem call_len_seq : CallR X (.builtin "len") (fun xs H Q => ∃ p ys, xs = [.ref p] ∧ (SqL X.K H p ys ∨ SqT X.K H p ys) ∧ Q (.int ys.length) H) := by
  intro pins s σ H xs us Q I r h
  obtain ⟨p, ys, rfl, hq, q⟩ := h
  obtain ⟨u, rfl, rx⟩ := vals1 r
  cases rx
  have hn := line63
  rcases hq with hq | hq
  · obtain ⟨its, r', pl, hz⟩ := I.list hq
    have hlen := r'.length
    exact Calls.call_len_list pl.isList (by simp only [List.size_toArray] <;> omega) ⟨.int ys.length, H, I.tok _, ⟨s.toks + 1, by rw [List.size_toArray, hlen]⟩, q⟩
  · obtain ⟨its, r', pl, hz⟩ := I.tuple hq
    have hlen := r'.length
    exact len_tuple pl (by simp only [List.size_toArray] <;> omega) ⟨.int ys.length, H, I.tok _, ⟨s.toks + 1, by rw [List.size_toArray, hlen]⟩, q⟩
theorem CallR.or {f : Value} {r r' : List V → Hp → VK → Prop} (h : CallR X f r) (h' : CallR X f r') : CallR X f (fun xs H Q => r xs H Q ∨ r' xs H Q) := by
  intro pins s σ H xs us Q I rs q
  rcases q with q | q
  · exact h pins s σ H xs us Q I rs q
  · exact h' pins s σ H xs us Q I rs q
theorem call_tuple_of : CallR X (.type "tuple") (fun xs H Q => ∃ p ys, xs = [.ref p] ∧ ((SqL X.K H p ys ∧ ∀ l, H l = none → Q (.ref l) (upd H l (.tup ys))) ∨ (SqT X.K H p ys ∧ Q (.ref p) H))) := by
  intro pins s σ H xs us Q I r h
  obtain ⟨p, ys, rfl, h⟩ := h
  obtain ⟨u, rfl, rx⟩ := vals1 r
  cases rx
  rcases h with ⟨hq, q⟩ | ⟨hq, q⟩
  · obtain ⟨its, r', pl, hz⟩ := I.list hq
    have hlen := r'.length
    refine call_tuple_list pl.isList (fun h' kp => ?_) (by simp only [List.size_toArray] <;> omega)
    have I1 : Inv X pins σ H { s with heap := h' } := I.kept (t' := s.toks) kp
    have I2 : Inv X pins σ (upd H h'.objs.size (.tup ys)) { s with heap := h'.push { cls := .type "tuple", data := .seq its.toArray } } :=
      I1.laid (t' := s.toks) (fun b o e => Heap.get?_push_of_some _ e) (Nat.le_refl _) (show ObjOk X.prog X.w _ _ _ (.tup ys) from ⟨hz, its, r', IsTup.new _ _⟩)
    exact ⟨.ref h'.objs.size, _, I2, rfl, q _ (I1.hok.fresh (Nat.le_refl _))⟩
  · obtain ⟨its, r', pl, hz⟩ := I.tuple hq
    exact call_tuple_same pl ⟨.ref p, H, I, rfl, q⟩

/-! ### the call of a builtin's method: o.m(..) -/
/-- the value is of that builtin type -/
noncomputable def tyV (K : PySem.W.Frag) (T : String) (x : V) (H : Hp) : Prop := match x with
  | .str _ => T = "str"
  | .int _ => T = "int"
  | .ref p => (T = "list" ∧ ∃ xs, SqL K H p xs) ∨ (T = "tuple" ∧ ∃ o, K.lookup p = some o ∧ o.cls = .type "tuple" ∧ o.dict = none) ∨
      (T = "dict" ∧ ((∃ kvs, H p = some (.dK kvs)) ∨ ∃ kvs, H p = some (.dT kvs))) ∨ (T = "set" ∧ ∃ S n, H p = some (.set S n))
  | _ => False
theorem tyV_is {pins : List (Addr × Obj)} {σ : St} {H : Hp} {s : Shared} {T : String} {x : V} {v : Value} (I : Inv X pins σ H s) (r : RelV x v) (ty : tyV X.K T x H) :
    s.TypeIs v T ∧ ∀ a, v = .ref a → ∃ ob, s.heap.get? a = some ob ∧ ob.dict = none := by
  cases x with
  | str z =>
    obtain ⟨t, rfl⟩ := r
    cases (show T = "str" from ty)
    exact ⟨typeIs_str s z t, fun _ e => nomatch e⟩
  | int i =>
    obtain ⟨t, rfl⟩ := r
    cases (show T = "int" from ty)
    exact ⟨typeIs_int s i t, fun _ e => nomatch e⟩
  | ref p =>
    cases r
    rcases ty with ⟨rfl, xs, hq⟩ | ⟨rfl, o, hk, hc, hd⟩ | ⟨rfl, hk⟩ | ⟨rfl, S, n, hk⟩
    · obtain ⟨its, _, pl, _⟩ := I.list hq
      refine ⟨pl.isList.typeIs, fun a e => ?_⟩
      cases e
      obtain ⟨o, n, e, c, hd, _⟩ := pl
      exact ⟨o, e, hd⟩
    · refine ⟨⟨o, I.kIn p o hk, hc⟩, fun a e => ?_⟩
      cases e
      exact ⟨o, I.kIn _ o hk, hd⟩
    · have z : ∃ o, s.heap.get? p = some o ∧ o.ExactDict := by
        rcases hk with ⟨kvs, hk⟩ | ⟨kvs, hk⟩
        · obtain ⟨_, _, _, _, o, _, _, e, ex, _⟩ := I.hok p _ hk
          exact ⟨o, e, ex⟩
        · obtain ⟨_, _, _, _, o, _, _, e, ex, _⟩ := I.hok p _ hk
          exact ⟨o, e, ex⟩
      obtain ⟨o, e, ex⟩ := z
      refine ⟨⟨o, e, ex.1⟩, fun a e2 => ?_⟩
      cases e2
      exact ⟨o, e, ex.2.1⟩
    · obtain ⟨o, _, _, _, e, ex, _⟩ := I.hok p _ hk
      refine ⟨⟨o, e, ex.1⟩, fun a e2 => ?_⟩
      cases e2
      exact ⟨o, e, ex.2.1⟩
  | _ => exact False.elim ty
noncomputable def tBM (K : PySem.W.Frag) (T : String) (r : V → List V → Hp → VK → Prop) (to : TE) (t : TA) : TE := fun σ H Q => to σ H fun x H1 => tyV K T x H1 ∧ t σ H1 fun xs H2 => r x xs H2 Q
variable {o e : Expr} {es : List Expr} {to : TE} {t : TA} {name : Str} {apos cpos : Pos} {T id : String} {r : V → List V → Hp → VK → Prop}
theorem pe_bm (pa : PlainAttrs T) (slot : Slot T name id) (hty : typeOf (.builtin id) = pure (.type "method_descriptor")) (hm : MtR X id r) (ho : PE X o to) (ha : PA X (e :: es) t)
    (hbase : attributeBase o name X.env (eval o X.env) = eval o X.env := by rfl)
    (hfew : ((backTo cpos (starEach (e :: es) X.env)).all (fun x => !x.1) && (backToKw cpos (keywordEach [] X.env)).all (fun x => x.1.isSome)
      && decide ((e :: es).length + ([] : List Keyword).length + (if ([] : List Keyword).isEmpty then 0 else 1) < 30)) = true := by rfl)
    (hline : (apos.endLine == cpos.line) = true := by rfl) (hs : starEach (e :: es) X.env = (false, eval e X.env) :: starEach es X.env := by rfl) (hplain : (backTo cpos (starEach es X.env)).any (·.1) = false := by rfl) :
    PE X (.Call (.Attribute o name apos) (e :: es) [] cpos) (tBM X.K T r to t) := by
  intro pins s σ H Q I h
  refine wpAny_Call_method_late hbase hfew hline rfl (thn (ho pins s σ H _ I h) fun v s1 ⟨x, H1, I1, r1, ty, q1⟩ => ?_)
  obtain ⟨h1, h2⟩ := tyV_is I1 r1 ty
  refine ⟨T, id, pa, slot, hty, h1, h2, ?_⟩
  have hA := ha cpos pins s1 σ H1 _ I1 q1
  rw [hs] at hA ⊢
  refine Calls.callWith_builtin (by show (false || (backTo cpos (starEach es X.env)).any (·.1)) = false; rw [hplain] <;> rfl) (Calls.evalArgs_plain ?_)
  exact thn hA fun us s2 ⟨vs, H2, I2, r2, q2⟩ => hm pins s2 σ H2 x vs v us Q I2 r1 r2 q2
/- xs.append(e), list.index on a module's tuple .. are MtR facts of 06m -/
end
end L2

namespace L2
open PySem PySem.Spec PyProof.Rows

noncomputable def MtM (X : Cx) (id : String) (r : V → List V → Hp → VK → Prop) : Prop :=
  ∀ (pins : List (Addr × Obj)) (s : Shared) (σ : St) (H : Hp) (x : V) (xs : List V) (v : Value) (us : List Value) (Q : VK), Inv X pins σ H s → RelV x v → Vals xs us → r x xs H Q →
    wpAny (model X.prog X.w) X.A (call (.builtin id) (v :: us)) (EP X pins σ Q) X.xe s

/-! ### lists of values -/
theorem Vals.one {x : V} {us : List Value} (h : Vals [x] us) : ∃ u, us = [u] ∧ RelV x u := by
  cases h with
  | cons r t => cases t; exact ⟨_, rfl, r⟩
theorem Vals.two : ∀ {x y : V} {us : List Value}, Vals [x, y] us → ∃ u v, us = [u, v] ∧ RelV x u ∧ RelV y v
  | _, _, _, .cons r (.cons q .nil) => ⟨_, _, rfl, r, q⟩
theorem Vals.zero : ∀ {us : List Value}, Vals [] us → us = []
  | _, .nil => rfl
theorem Vals.dropLast {xs : List V} {us : List Value} (h : Vals xs us) : Vals xs.dropLast us.dropLast := by
  induction h with
  | nil => exact .nil
  | cons r t ih =>
    cases t with
    | nil => exact .nil
    | cons q t' => exact .cons r ih
section
variable {X : Cx} {pins : List (Addr × Obj)} {σ : St} {H : Hp} {s : Shared} {l b : Addr} {xs ys zs : List V}

/-! ### the two steps: a tracked list is rewritten, a new list is laid -/
theorem Inv.lset {its its' : List Value} {n : Nat} {f : Array Value → Array Value} {t' : Nat} (I : Inv X pins σ H s) (hH : H l = some (.lst xs))
    (e : s.heap.get? l = some { cls := .type "list", data := .seq its.toArray n }) (hf : f its.toArray = its'.toArray) (hv : Vals ys its') (hz : ys.length ≤ sizeLine) :
    Inv X pins σ (upd H l (.lst ys)) { s with heap := s.heap.update l (Obj.mapSeq f), toks := t' } := by
  have q := PySem.IsL.update e f
  rw [hf] at q
  refine I.write (x := l) (e := l) (by rw [hH]; exact trivial) (.inl rfl) (fun b' u hb hu => (Heap.get?_update_other s.heap (Obj.mapSeq f) (Ne.symm hb)).trans hu) ⟨_, q⟩ ?_
  exact ⟨hz, its', _, hv, q⟩
theorem Inv.lnew {its : List Value} {t' : Nat} (I : Inv X pins σ H s) (hv : Vals ys its) (hz : ys.length ≤ sizeLine) :
    Inv X pins σ (upd H s.heap.objs.size (.lst ys)) { s with heap := s.heap.push { cls := .type "list", data := .seq its.toArray }, toks := t' } :=
  I.laid (fun _ _ q => Heap.get?_push_of_some _ q) (Nat.le_refl _) ⟨hz, its, 0, hv, Heap.get?_push_size _ rfl⟩
theorem Inv.fresh (I : Inv X pins σ H s) : H s.heap.objs.size = none := I.hok.fresh (Nat.le_refl _)
theorem Inv.lstM (I : Inv X pins σ H s) (hH : H l = some (.lst xs)) : xs.length ≤ sizeLine ∧ ∃ (its : List Value) (n : Nat), Vals xs its ∧ xs.length = its.length ∧ s.heap.get? l = some { cls := .type "list", data := .seq its.toArray n } := by
  obtain ⟨z, its, n, r, e⟩ := I.hok l _ hH
  exact ⟨z, its, n, r, r.length, e⟩

end

section
variable {X : Cx}

/-! ### methods -/
noncomputable def rAppend : V → List V → Hp → VK → Prop := fun x vs H Q => ∃ l xs y, x = .ref l ∧ vs = [y] ∧ H l = some (.lst xs) ∧ xs.length < sizeLine ∧ Q .non (upd H l (.lst (xs ++ [y])))
theorem mt_append : MtM X "list.append" rAppend := by
  intro pins s σ H x vs v us Q I rx rv h
  obtain ⟨l, xs, y, rfl, rfl, hH, hz, q⟩ := h
  cases rx
  obtain ⟨u, rfl, ru⟩ := rv.one
  obtain ⟨z, its, n, r, hl, e⟩ := I.lstM hH
  refine call_meets F.slot_list_append ⟨_, e, rfl⟩ F.entry_list_append (F.args_list_append_2 _ _) (PySem.list_append l its.toArray n u (by rw [List.size_toArray]; omega)) ⟨e, ?_⟩
  refine ⟨.non, _, I.lset (its' := its ++ [u]) hH e (by simp) (r.append (.cons ru .nil)) ?_, rfl, q⟩
  rw [List.length_append, List.length_singleton]
  omega

/-! ### list + list, list += list, list * int -/
noncomputable def rCat : R2 := fun x y H Q => ∃ l b xs zs, x = .ref l ∧ y = .ref b ∧ H l = some (.lst xs) ∧ H b = some (.lst zs) ∧ xs.length + zs.length ≤ sizeLine ∧ ∀ p, H p = none → Q (.ref p) (upd H p (.lst (xs ++ zs)))
theorem op_cat : OpR X (binaryOp .Add) rCat := by
  intro pins s σ H x y v u Q I rx ry h
  obtain ⟨l, b, xs, zs, rfl, rfl, hH, hB, hz, q⟩ := h
  cases rx
  cases ry
  obtain ⟨z, its, n, r, hl, e⟩ := I.lstM hH
  obtain ⟨z2, its2, n2, r2, hl2, e2⟩ := I.lstM hB
  refine PySem.P.add_list e e2 ?_ (by rw [List.size_toArray, List.size_toArray]; omega)
  have ea : its.toArray ++ its2.toArray = (its ++ its2).toArray := by simp
  rw [ea]
  exact ⟨.ref _, _, I.lnew (t' := s.toks) (r.append r2) (by rw [List.length_append]; omega), rfl, q _ I.fresh⟩
/-! ### del xs[i] -/
end

end L2

namespace L2
open PySem PySem.Spec PyProof.Rows

/-! ### lists of pairs as tables -/
section
variable {κ : Type} [DecidableEq κ]
noncomputable def valV (kvs : List (κ × V)) (k : κ) : Option V := (kvs.find? fun kv => decide (kv.1 = k)).map (·.2)
/-- in its place, or at the end -/
noncomputable def putK (kvs : List (κ × V)) (k : κ) (v : V) : List (κ × V) :=
  if (kvs.any fun kv => decide (kv.1 = k)) = true then kvs.map (fun kv => if kv.1 = k then (kv.1, v) else kv) else kvs ++ [(k, v)]
noncomputable def dropK (kvs : List (κ × V)) (k : κ) : List (κ × V) := kvs.filter fun kv => decide (kv.1 ≠ k)

theorem valV_pos {p : κ × V} {r : List (κ × V)} {k : κ} (e : p.1 = k) : valV (p :: r) k = some p.2 := by simp [valV, List.find?_cons, e]
theorem valV_neg {p : κ × V} {r : List (κ × V)} {k : κ} (e : ¬ p.1 = k) : valV (p :: r) k = valV r k := by simp [valV, List.find?_cons, e]
theorem valV_any (k : κ) : ∀ kvs : List (κ × V), (kvs.any fun kv => decide (kv.1 = k)) = (valV kvs k).isSome
  | [] => rfl
  | p :: r => by
    rw [List.any_cons]
    by_cases e : p.1 = k
    · simp only [valV_pos e, decide_eq_true e, Bool.true_or, Option.isSome_some]
    · rw [valV_neg e, decide_eq_false e, Bool.false_or]; exact valV_any k r
theorem RelO.isSome_eq {o : Option V} {u : Option Value} (r : RelO o u) : o.isSome = u.isSome := by
  cases o with
  | none => cases u with
    | none => rfl
    | some _ => exact (show False from r).elim
  | some _ => cases u with
    | none => exact (show False from r).elim
    | some _ => rfl
theorem RelO.getD {o : Option V} {u : Option Value} {d : V} {d' : Value} (r : RelO o u) (rd : RelV d d') : RelV (o.getD d) (u.getD d') := by
  cases o with
  | none => cases u with
    | none => exact rd
    | some _ => exact (show False from r).elim
  | some _ => cases u with
    | none => exact (show False from r).elim
    | some _ => exact r

/-- raw tables of the same keys -/
theorem KV.val {kvs : List (κ × V)} {vs : List (κ × Value)} (r : KV kvs vs) (k : κ) : RelO (valV kvs k) (valueAt vs k) := by
  unfold KV at r
  induction r with
  | nil => exact True.intro
  | @cons p q ps qs h t ih =>
    obtain ⟨h1, h2⟩ := h
    by_cases e : p.1 = k
    · have e' : q.1 = k := h1.symm.trans e
      have b : valueAt (q :: qs) k = some q.2 := by simp [valueAt, List.find?_cons, e']
      rw [valV_pos e, b]; exact h2
    · have e' : ¬ q.1 = k := fun z => e (h1.trans z)
      have b : valueAt (q :: qs) k = valueAt qs k := by simp [valueAt, List.find?_cons, e']
      rw [valV_neg e, b]; exact ih
theorem KV.any {kvs : List (κ × V)} {vs : List (κ × Value)} (r : KV kvs vs) (k : κ) : (kvs.any fun kv => decide (kv.1 = k)) = vs.any fun kv => decide (kv.1 = k) := by
  unfold KV at r
  induction r with
  | nil => rfl
  | cons h t ih => rw [List.any_cons, List.any_cons, ih, h.1]
theorem KV.repl {kvs : List (κ × V)} {vs : List (κ × Value)} (r : KV kvs vs) (k : κ) {y : V} {u : Value} (ry : RelV y u) :
    KV (kvs.map fun kv => if kv.1 = k then (kv.1, y) else kv) (vs.map fun kv => if kv.1 = k then (kv.1, u) else kv) := by
  unfold KV at r ⊢
  induction r with
  | nil => exact .nil
  | @cons p q ps qs h t ih =>
    rw [List.map_cons, List.map_cons]
    refine .cons ?_ ih
    obtain ⟨h1, h2⟩ := h
    by_cases e : p.1 = k
    · rw [if_pos e, if_pos (h1.symm.trans e)]; exact ⟨h1, ry⟩
    · rw [if_neg e, if_neg (fun z => e (h1.trans z))]; exact ⟨h1, h2⟩
theorem KV.put {kvs : List (κ × V)} {vs : List (κ × Value)} (r : KV kvs vs) (k : κ) {y : V} {u : Value} (ry : RelV y u) : KV (putK kvs k y) (stored vs k u) := by
  unfold putK stored
  rw [r.any k]
  by_cases e : (vs.any fun kv => decide (kv.1 = k)) = true
  · rw [if_pos e, if_pos e]; exact r.repl k ry
  · rw [if_neg e, if_neg e]; exact Paired.snoc r ⟨rfl, ry⟩
theorem KV.drop {kvs : List (κ × V)} {vs : List (κ × Value)} (r : KV kvs vs) (k : κ) : KV (dropK kvs k) (without vs k) := by
  unfold KV at r ⊢
  unfold dropK without
  induction r with
  | nil => exact .nil
  | @cons p q ps qs h t ih =>
    obtain ⟨h1, h2⟩ := h
    rw [List.filter_cons, List.filter_cons]
    by_cases e : p.1 = k
    · have a : ¬ decide (p.1 ≠ k) = true := by simp [e]
      have b : ¬ decide (q.1 ≠ k) = true := by simp [h1.symm.trans e]
      rw [if_neg a, if_neg b]; exact ih
    · have e' : ¬ q.1 = k := fun z => e (h1.trans z)
      have a : decide (p.1 ≠ k) = true := by simp [e]
      have b : decide (q.1 ≠ k) = true := by simp [e']
      rw [if_pos a, if_pos b]; exact .cons ⟨h1, h2⟩ ih
theorem KV.keys {kvs : List (κ × V)} {vs : List (κ × Value)} (r : KV kvs vs) : kvs.map (·.1) = vs.map (·.1) := by
  unfold KV at r
  induction r with
  | nil => rfl
  | cons h t ih => rw [List.map_cons, List.map_cons, ih, h.1]
theorem KV.length {kvs : List (κ × V)} {vs : List (κ × Value)} (r : KV kvs vs) : kvs.length = vs.length := Paired.length r
end


/-! ### a tracked dict, its keys ints and texts or tuples of these -/
theorem kV_is {P : Program} {w : World} {k : Key} {u : Value} (r : RelV (kV k) u) : (mixKind P w).is k u = true := by
  cases k with
  | inl i => obtain ⟨t, e⟩ := (show ∃ t, u = Value.int i t from r); subst e; exact mixKind_int P w i t
  | inr x => obtain ⟨t, e⟩ := (show ∃ t, u = Value.str x t from r); subst e; exact mixKind_str P w x t
  | no => cases (show u = Value.none from r); rfl
theorem items_are {P : Program} {w : World} : ∀ {ks : List Key} {us : List Value}, Vals (ks.map kV) us → ItemsAre (mixKind P w) ks us
  | [], _, r => by rw [List.map_nil] at r; cases r; exact .nil
  | k :: ks, _, r => by
    rw [List.map_cons] at r
    cases r with
    | cons h t => exact .cons (kV_is h) (items_are t)

/-- raw entries of a dict with tuple keys -/
noncomputable abbrev KT (H : Hp) : List (List Key × V) → List (List Key × Addr × Value) → Prop := Paired fun p q => p.1 = q.1 ∧ H q.2.1 = some (.tup (p.1.map kV)) ∧ RelV p.2 q.2.2
theorem KT.val {H : Hp} {kvs : List (List Key × V)} {xs : List (List Key × Addr × Value)} (r : KT H kvs xs) (k : List Key) : RelO (valV kvs k) ((atKey xs k).map (·.2)) := by
  induction r with
  | nil => exact True.intro
  | @cons p q ps qs h t ih =>
    obtain ⟨h1, _, h2⟩ := h
    by_cases e : p.1 = k
    · have e' : q.1 = k := h1.symm.trans e
      have b : atKey (q :: qs) k = some q.2 := by simp [atKey, List.find?_cons, e']
      rw [valV_pos e, b]; exact h2
    · have e' : ¬ q.1 = k := fun z => e (h1.trans z)
      have b : atKey (q :: qs) k = atKey qs k := by simp [atKey, List.find?_cons, e']
      rw [valV_neg e, b]; exact ih
theorem KT.repl {H : Hp} {kvs : List (List Key × V)} {xs : List (List Key × Addr × Value)} (r : KT H kvs xs) (k : List Key) {y : V} {u : Value} (ry : RelV y u) :
    KT H (kvs.map fun kv => if kv.1 = k then (kv.1, y) else kv) (xs.map (putAt k u)) := by
  induction r with
  | nil => exact .nil
  | @cons p q ps qs h t ih =>
    rw [List.map_cons, List.map_cons]
    refine .cons ?_ ih
    obtain ⟨h1, h2, h3⟩ := h
    unfold putAt
    by_cases e : p.1 = k
    · rw [if_pos e, if_pos (h1.symm.trans e)]; exact ⟨h1, h2, ry⟩
    · rw [if_neg e, if_neg (fun z => e (h1.trans z))]; exact ⟨h1, h2, h3⟩
theorem KT.put {H : Hp} {kvs : List (List Key × V)} {xs : List (List Key × Addr × Value)} (r : KT H kvs xs) (k : List Key) {b : Addr} {y : V} {u : Value} (hb : H b = some (.tup (k.map kV))) (ry : RelV y u) :
    KT H (putK kvs k y) (storedH xs k b u) := by
  have e : (kvs.any fun kv => decide (kv.1 = k)) = (atKey xs k).isSome := by
    rw [valV_any, (r.val k).isSome_eq, Option.isSome_map]
  unfold putK storedH
  rw [e]
  by_cases q : (atKey xs k).isSome = true
  · rw [if_pos q, if_pos q]; exact r.repl k ry
  · rw [if_neg q, if_neg q]; exact Paired.snoc r ⟨rfl, hb, ry⟩
theorem KT.keeps {H H' : Hp} {kvs : List (List Key × V)} {xs : List (List Key × Addr × Value)} (r : KT H kvs xs) (ht : ∀ b ys, H b = some (.tup ys) → H' b = some (.tup ys)) : KT H' kvs xs :=
  Paired.mapP r fun _ _ z => ⟨z.1, ht _ _ z.2.1, z.2.2⟩

section
variable {P : Program} {w : World} {H : Hp} {h : Heap} {a : Addr}
theorem rd_of {u : HO} (ok : HOk P w H h) (e : Rd H a u) : ObjOk P w H h a u := e.ok ok
theorem dk_rd {kvs : List (Key × V)} (ok : HOk P w H h) (e : Rd H a (.dK kvs)) : kvs.length ≤ sizeLine ∧ (a == sysModules) = false ∧ ∃ vs, KV kvs vs ∧ h.DictOf (mixKind P w) a vs :=
  show ObjOk P w H h a (.dK kvs) from rd_of ok e
/-- a tracked tuple of ints and texts is a key -/
theorem key_of {ks : List Key} (ok : HOk P w H h) (e : H a = some (.tup (ks.map kV))) : (tupleKind (mixKind P w)).is h ks a := by
  obtain ⟨_, its, r, o, h1, h2, n, h3⟩ := (show ObjOk P w H h a (.tup (ks.map kV)) from ok a _ e)
  exact ⟨o, its.toArray, n, h1, h2, h3, by simpa using items_are r⟩
theorem dt_rd {kvs : List (List Key × V)} (ok : HOk P w H h) (e : Rd H a (.dT kvs)) : kvs.length ≤ sizeLine ∧ (a == sysModules) = false ∧
    ∃ xs, KT H kvs xs ∧ h.DictOfH (tupleKind (mixKind P w)) a xs := by
  obtain ⟨z, y, xs, r, o, es, ep, h1, h2, h3, h4, h5⟩ := (show ObjOk P w H h a (.dT kvs) from rd_of ok e)
  refine ⟨z, y, xs, r, o, es, ep, h1, h2, h3, h4, fun x hx => ?_, h5⟩
  have all : ∀ {l : List (List Key × V)} {m : List (List Key × Addr × Value)}, KT H l m → ∀ x ∈ m, (tupleKind (mixKind P w)).is h x.1 x.2.1 := by
    intro l m q
    induction q with
    | nil => intro x hx; exact nomatch hx
    | @cons p q ps qs hq t ih =>
      intro x hx
      rcases List.mem_cons.mp hx with e | hx
      · subst e
        exact key_of ok (by rw [← hq.1]; exact hq.2.1)
      · exact ih x hx
  exact all r x hx
end

/-- what the dict at a holds at the key y -/
noncomputable def DGet (H : Hp) (a : Addr) (y : V) (r : Option V) : Prop :=
  (∃ kvs k, Rd H a (.dK kvs) ∧ y = kV k ∧ r = valV kvs k) ∨ ∃ kvs k b, Rd H a (.dT kvs) ∧ y = .ref b ∧ H b = some (.tup (k.map kV)) ∧ r = valV kvs k
/-- the heap behind a[y] = v -/
noncomputable def DPut (H : Hp) (a : Addr) (y v : V) (H' : Hp) : Prop :=
  (∃ kvs k, H a = some (.dK kvs) ∧ y = kV k ∧ kvs.length < sizeLine ∧ H' = upd H a (.dK (putK kvs k v))) ∨
  ∃ kvs k b, H a = some (.dT kvs) ∧ y = .ref b ∧ H b = some (.tup (k.map kV)) ∧ kvs.length < sizeLine ∧ H' = upd H a (.dT (putK kvs k v))
theorem DGet.k {H : Hp} {a : Addr} {kvs : List (Key × V)} {k : Key} (e : H a = some (.dK kvs)) : DGet H a (kV k) (valV kvs k) := .inl ⟨kvs, k, .inl e, rfl, rfl⟩
theorem DGet.t {H : Hp} {a b : Addr} {kvs : List (List Key × V)} {k : List Key} (e : H a = some (.dT kvs)) (eb : H b = some (.tup (k.map kV))) : DGet H a (.ref b) (valV kvs k) := .inr ⟨kvs, k, b, .inl e, rfl, eb, rfl⟩
theorem DPut.k {H : Hp} {a : Addr} {kvs : List (Key × V)} {k : Key} {v : V} (e : H a = some (.dK kvs)) (hl : kvs.length < sizeLine) : DPut H a (kV k) v (upd H a (.dK (putK kvs k v))) := .inl ⟨kvs, k, e, rfl, hl, rfl⟩
theorem DPut.t {H : Hp} {a b : Addr} {kvs : List (List Key × V)} {k : List Key} {v : V} (e : H a = some (.dT kvs)) (eb : H b = some (.tup (k.map kV))) (hl : kvs.length < sizeLine) :
    DPut H a (.ref b) v (upd H a (.dT (putK kvs k v))) := .inr ⟨kvs, k, b, e, rfl, eb, hl, rfl⟩


section
variable {X : Cx} {pins : List (Addr × Obj)} {σ : St} {H : Hp} {s : Shared} {a : Addr} {y v : V} {u r : Value} {o : Option V} {A : Around} {E : Value → Shared → Prop}

theorem Inv.big (I : Inv X pins σ H s) : sysModules < s.heap.objs.size := by
  have h : mainGlobals < s.heap.objs.size := (I.mod.glob.keeps I.bk).lt
  exact Nat.lt_trans (by decide) h

theorem dk_new {P : Program} {w : World} {H' : Hp} {h' : Heap} {kvs : List (Key × V)} {vs : List (Key × Value)} (z : kvs.length ≤ sizeLine) (hd : (a == sysModules) = false) (rel : KV kvs vs) (dd : h'.DictOf (mixKind P w) a vs) :
    ObjOk P w H' h' a (.dK kvs) := ⟨z, hd, vs, rel, dd⟩
end

section
variable {X : Cx} {pins : List (Addr × Obj)} {σ : St} {H : Hp} {s : Shared} {a : Addr} {kvs : List (Key × V)} {k : Key} {u : Value} {A : Around} {E : Value → Shared → Prop}
end


/-! ### readings and rules -/
theorem dict_typeIs {X : Cx} {pins : List (Addr × Obj)} {σ : St} {H : Hp} {s : Shared} {a : Addr} {y : V} {o : Option V} (I : Inv X pins σ H s) (g : DGet H a y o) : s.TypeIs (.ref a) "dict" := by
  rcases g with ⟨kvs, k, e, _, _⟩ | ⟨kvs, k, b, e, _, _, _⟩
  · obtain ⟨_, _, vs, _, dd⟩ := dk_rd I.hok e
    exact dd.typeIs
  · obtain ⟨_, _, xs, _, dd⟩ := dt_rd I.hok e
    exact dd.typeIs
/-- d[y] -/
noncomputable def tDGet (td ty : TE) : TE := fun σ H Q => td σ H fun x H1 => ty σ H1 fun y H2 => ∃ a v, x = .ref a ∧ DGet H2 a y (some v) ∧ Q v H2
/-- y in d, y not in d -/
noncomputable def tDIn (ty td : TE) : TE := fun σ H Q => ty σ H fun y H1 => td σ H1 fun x H2 => ∃ a o, x = .ref a ∧ DGet H2 a y o ∧ Q (.bl o.isSome) H2
section
variable {X : Cx} {o i e value : Expr} {pos pos' tpos : Pos} {td ty tv : TE}
end


/-! ### displays -/
/-- {}, to be a dict of the kind that is wanted -/
noncomputable def tDNewK : TE := fun _ H Q => ∀ p, H p = none → Q (.ref p) (upd H p (.dK []))
section
variable {X : Cx} {pos : Pos}
end

/-- the pairs of a display, from the left -/
noncomputable def tPairs : List (TE × TE) → St → Hp → (List (V × V) → Hp → Prop) → Prop
  | [], _, H, Q => Q [] H
  | (tk, tv) :: r, σ, H, Q => tk σ H fun x H1 => tv σ H1 fun y H2 => tPairs r σ H2 fun ps H3 => Q ((x, y) :: ps) H3
noncomputable abbrev VV : List (V × V) → List (Value × Value) → Prop := Paired fun p q => RelV p.1 q.1 ∧ RelV p.2 q.2
noncomputable def PPs (X : Cx) (pos : Pos) (keys : List (Option Expr)) (values : List Expr) (trs : List (TE × TE)) : Prop :=
  ∀ (pins : List (Addr × Obj)) (s : Shared) (σ : St) (H : Hp) (Q : List (V × V) → Hp → Prop), Inv X pins σ H s → tPairs trs σ H Q →
    wpAny (model X.prog X.w) X.A (evalPairs (pairTrees keys values X.env pos)) (fun vs s' => ∃ ps H', Inv X pins σ H' s' ∧ VV ps vs ∧ Q ps H') X.xe s
noncomputable def mergeK (kvs more : List (Key × V)) : List (Key × V) := more.foldl (fun acc kv => putK acc kv.1 kv.2) kvs
/-! ### methods -/
/-- a method call o.m(e) of a built-in, with one argument: what must be seen of the text -/
structure M1 (X : Cx) (o : Expr) (m : Str) (apos : Pos) (e : Expr) (cpos : Pos) : Prop where
  base : attributeBase o m X.env (eval o X.env) = eval o X.env
  few : ((backTo cpos (starEach [e] X.env)).all (fun x => !x.1) && (backToKw cpos (keywordEach [] X.env)).all (fun x => x.1.isSome)
    && decide (([e] : List Expr).length + ([] : List Keyword).length + (if ([] : List Keyword).isEmpty then 0 else 1) < 30)) = true
  line : (apos.endLine == cpos.line) = true
  trees : backTo cpos (starEach [e] X.env) = [(false, eval e X.env)]
structure M2 (X : Cx) (o : Expr) (m : Str) (apos : Pos) (e f : Expr) (cpos : Pos) : Prop where
  base : attributeBase o m X.env (eval o X.env) = eval o X.env
  few : ((backTo cpos (starEach [e, f] X.env)).all (fun x => !x.1) && (backToKw cpos (keywordEach [] X.env)).all (fun x => x.1.isSome)
    && decide (([e, f] : List Expr).length + ([] : List Keyword).length + (if ([] : List Keyword).isEmpty then 0 else 1) < 30)) = true
  line : (apos.endLine == cpos.line) = true
  trees : backTo cpos (starEach [e, f] X.env) = [(false, eval e X.env), (false, eval f X.env)]

/-- a is a dict, whatever its keys -/
noncomputable def IsD (H : Hp) (a : Addr) : Prop := (∃ kvs, Rd H a (.dK kvs)) ∨ ∃ kvs, Rd H a (.dT kvs)
theorem isD_at {X : Cx} {pins : List (Addr × Obj)} {σ : St} {H : Hp} {s : Shared} {a : Addr} (I : Inv X pins σ H s) (d : IsD H a) :
    s.TypeIs (.ref a) "dict" ∧ (∀ b, Value.ref a = .ref b → ∃ ob, s.heap.get? b = some ob ∧ ob.dict = none) ∧ (a == sysModules) = false := by
  rcases d with ⟨kvs, e⟩ | ⟨kvs, e⟩
  · obtain ⟨_, hd, vs, _, dd⟩ := dk_rd I.hok e
    refine ⟨dd.typeIs, fun b q => ?_, hd⟩
    cases q
    obtain ⟨ob, _, _, h1, h2, _⟩ := dd
    exact ⟨ob, h1, h2.2.1⟩
  · obtain ⟨_, hd, xs, _, dd⟩ := dt_rd I.hok e
    refine ⟨dd.typeIs, fun b q => ?_, hd⟩
    cases q
    obtain ⟨ob, _, _, h1, h2, _⟩ := dd
    exact ⟨ob, h1, h2.2.1⟩

section
variable {X : Cx} {pins : List (Addr × Obj)} {σ : St} {H : Hp} {s : Shared} {a : Addr} {y d : V} {u r : Value} {o : Option V} {A : Around} {E : Value → Shared → Prop}
/-- d.get(y) -/
theorem d_get1 {Q : Value → Shared → Prop} (hu : A.units + 1 < cLine) (I : Inv X pins σ H s) (g : DGet H a y o) (ry : RelV y u) (h : ∀ w' s', Inv X pins σ H s' → RelV (o.getD .non) w' → Q w' s') :
    wpAny (model X.prog X.w) A (call (.builtin "dict.get") [.ref a, u]) Q E s := by
  rcases g with ⟨kvs, k, e, ey, l⟩ | ⟨kvs, k, b, e, ey, eb, l⟩
  · subst ey
    obtain ⟨z, hd, vs, rel, dd⟩ := dk_rd I.hok e
    refine call_meetsIn PySem.F.slot_dict_get dd.typeIs PySem.F.entry_dict_get (PySem.F.args_dict_get_2 _ _) (meets_dict_get (mixKind X.prog X.w) a (kV_is ry) hd) ⟨_, dd.mapOf, h _ _ (I.tok _) ?_⟩
    rw [l]
    exact (rel.val k).getD rfl
  · subst ey
    cases (show u = Value.ref b from ry)
    obtain ⟨z, hd, xs, rel, dd⟩ := dt_rd I.hok e
    refine call_meetsIn PySem.F.slot_dict_get dd.typeIs PySem.F.entry_dict_get (PySem.F.args_dict_get_2 _ _) (meetsH_dict_get (tupleKind (mixKind X.prog X.w)) a b hd) ⟨tupleKind_room_in1 hu, k, xs, key_of I.hok eb, dd, h _ _ (I.tok _) ?_⟩
    rw [l]
    exact (rel.val k).getD rfl
end

noncomputable def tDGet1 (td ty : TE) : TE := fun σ H Q => td σ H fun x H1 => ∃ a, x = .ref a ∧ IsD H1 a ∧ ty σ H1 fun y H2 => ∃ o, DGet H2 a y o ∧ Q (o.getD .non) H2
noncomputable def tDPop2 (td ty tx : TE) : TE := fun σ H Q => td σ H fun x H1 => ∃ a, x = .ref a ∧ IsD H1 a ∧ ty σ H1 fun y H2 => tx σ H2 fun z H3 => ∃ kvs k, H3 a = some (.dK kvs) ∧ y = kV k ∧
  (∀ v, valV kvs k = some v → Q v (upd H3 a (.dK (dropK kvs k)))) ∧ (valV kvs k = none → Q z H3)
section
variable {X : Cx} {o e f : Expr} {apos cpos : Pos} {td ty tx : TE}
end

/-! ### dict(d): a copy -/
section
variable {X : Cx} {pins : List (Addr × Obj)} {σ : St} {H : Hp} {s : Shared} {a : Addr} {kvs : List (Key × V)} {A : Around} {E : Value → Shared → Prop}
end


section
variable {X : Cx} {pins : List (Addr × Obj)} {σ : St} {H : Hp} {s : Shared} {a : Addr} {y : V} {u : Value} {A : Around} {E : Value → Shared → Prop}
end
end L2

namespace Att
open PySem PySem.W PySem.Calls PyProof.Rows

/-! ### the script -/
theorem ints_of_wellAll {P : Params} {h : Heap} : ∀ (ns : List Int) (vs : List Value), WellAll P h vs (ns.map WData.int) → IntsAre vs ns := by
  intro ns
  induction ns with
  | nil =>
    intro vs w
    rw [List.map_nil] at w
    cases w
    exact .nil
  | cons n ns ih =>
    intro vs w
    rw [List.map_cons] at w
    cases w with
    | cons a b =>
      cases a
      exact .cons _ _ (ih _ b)

theorem script_of {l : OpenLaw} {n : Nat} (hn : l.most = some n) {P : Params} {h : Heap} {args : List WData} {vals : List Value}
    (hpre : l.row.toRowW.claim.pre args = true) (hwl : WellAll P h vals args) :
    ∃ a vs ns, vals = [Value.ref a] ∧ args = [WData.list (ns.map WData.int)] ∧ h.get? a = some { cls := .type "list", data := .seq vs.toArray } ∧ IntsAre vs ns ∧ ns.length ≤ n := by
  have hsh : WShape.hasAll [] args [.list .int] = true := (pre_splitW hpre).1
  have hc : l.pre.holds [] { args := args } = true := (pre_splitW hpre).2
  obtain ⟨d, r, rfl, h1, h2⟩ := hasAllW_cons hsh
  obtain rfl := hasAllW_nil h2
  obtain ⟨xs, rfl, h3⟩ := hasW_list h1
  obtain ⟨ns, rfl⟩ := items_int h3
  have hlen : ns.length ≤ n := by
    unfold OpenLaw.pre at hc
    have h4 : (WTm.not (.lt (.lit (.int (n : Int))) (.len (.arg 0)))).holds [] { args := [.list (ns.map .int)] } = true := by
      have h4 := (holds_andW hc).1
      rw [hn] at h4
      exact h4
    have h5 := condW_of h4 (w_not (w_lt w_lit (w_len_list (w_arg rfl))))
    rw [List.length_map] at h5
    refine Nat.le_of_not_lt fun q => ?_
    have q' : (n : Int) < ((ns.length : Nat) : Int) := by omega
    first
      | (rw [decide_eq_true q'] at h5; exact absurd h5 (by decide))
      | (simp at h5; omega)
  cases hwl with
  | cons w1 w2 =>
    cases w2
    cases w1 with
    | list ho hall => exact ⟨_, _, ns, rfl, rfl, ho, ints_of_wellAll ns _ hall, hlen⟩

theorem post_true (l : OpenLaw) (args : List WData) : l.row.toRowW.claim.post args (.bool true) args = true :=
  postW_of (r := l.row.toRowW) (X := (true == true))
    (show WShape.has [] (.bool true) .bool = true by first | rfl | decide | simp [WShape.has, WShape.arms, WShape.armsAll])
    (show (WTm.eq .res (.lit (.bool true))).value [] { args := args, res := some (.bool true), after := args } = some (.bool (true == true)) from w_eq_bool (w_res rfl) w_lit) rfl

/-! ### the attachment: holds_open's last premise (the goal 'hc' behind k_head) from a wpAny of the law's body -/
/-- the same from a codeAny of the CALL (for a layer whose function contracts speak of calls) -/
theorem attach_call {l : OpenLaw} {n : Nat} {q : Program} {loose : List Str} {XP : (Str → Option Value) → Heap → Prop} {YP : World → Heap → Prop} {d : DefRec}
    (hn : l.most = some n) (hdf : d.params.defaults = [])
    (call : ∀ (w : World) (s₀ s₁ : Shared) (mg mb : Str → Option Value) (fa : Addr) (o : Obj) (pm cd doc : Value) (a : Addr) (vs : List Value) (ns : List Int),
      Ground q loose [] XP w s₀ mg mb s₁.heap → YP w s₁.heap →
      s₁.heap.get? fa = some o → o.data = .func (docDef d.name d.params d.body d.scope pm cd doc) → s₁.heap.CodeRec cd d.name → mg d.name = some (.ref fa) →
      s₁.heap.get? a = some { cls := .type "list", data := .seq vs.toArray } → IntsAre vs ns → ns.length ≤ n → s₁.gens = #[] →
      codeAny (model l.prog w) callerA (.call (.ref fa) ⟨[.ref a], []⟩) (fun r s' => r = .ok (.ret (.bool true)) ∧ OldK s₁.heap s'.heap ∧ s'.os = s₁.os ∧ AllBare s'.gens) s₁) :
    WalkO q loose XP YP l.row.toRowW d [] (fun f vs => PySem.call f vs) := by
  intro w s₀ s₁ mg mb G Y fa o pm cd doc dV kV ho hd hcd hD hmg hg args vals as hpre hlay hrd hwl hlo
  obtain rfl : dV = .none := Dflts.none hD hdf
  obtain rfl : kV = .none := Dflts.noKw hD
  obtain ⟨a, vs, ns, rfl, rfl, hobj, hints, hlen⟩ := script_of hn hpre hwl
  refine enter_call (codeAny_mono (call w s₀ s₁ mg mb fa o pm cd doc a vs ns G Y ho (fd_plain hd) hcd hmg hobj hints hlen hg) fun r s' hq => ?_)
  obtain ⟨rfl, h2, h3, h4⟩ := hq
  exact ⟨.inl ⟨.bool true, .bool true, [], rfl, fun _ => rfl, .bool true, post_true l _, fun _ => ⟨List.Pairwise.nil, fun _ hm => (nomatch hm)⟩⟩, h2, h3, h4⟩

/-! ### rules over ANY heap (no ledger) from facts about the written part K: the library's own take a ledger (News) for what they write -/
section
variable {prog : Program} {w : World} {A : Around} {E : Value → Shared → Prop} {s : Shared} {K : Frag}

/-! the whole heap as the ledger: makes every rule that writes through a ledger a rule over any heap -/
noncomputable def ledger (h : Heap) (L d : Addr) : List (Addr × Obj) := (List.range h.objs.size).filterMap fun a => if a = L ∨ a = d then none else (h.get? a).map fun o => (a, o)
end
end Att

namespace L2
open PySem PySem.Spec PyProof.Rows

theorem vals_ints : ∀ {vs : List Value} {ns : List Int}, IntsAre vs ns → Vals (ns.map V.int) vs
  | _, _, .nil => .nil
  | _, _, .cons n t h => .cons ⟨t, rfl⟩ (vals_ints h)

/-- nothing is tracked but the script, known to the object (or it is an object of the module) -/
noncomputable def Only (H : Hp) : Prop := ∀ b, H b = none ∨ ∃ o xs, H b = some (.frz o (.lst xs))

/-- THE HEAD: the law's promise, at the heap behind the top. F, the promise of the law's def, may use that base is part of the heap (so K.In base, base.Ns mainGlobals mg stand in Mod) -/
theorem law_call {P : Program} {w : World} {K : PySem.W.Frag} {mg mb : Str → Option Value} {CX : CXT} {k : Nat} {fa a : Addr} {fd : FuncData} {x : Str} {sp : Sp} {s₁ : Shared} {vs : List Value} {ns : List Int}
    (KX : K.In s₁.heap) (hns : s₁.heap.Ns mainGlobals mg) (hb : s₁.heap.Ns builtinsNs mb) (hbb : ∀ x : Str, x ≠ "__name__" → mb x = bootBuiltins x) (hlim : s₁.heap.NoLimit) (hg : s₁.gens = #[])
    (ha : s₁.heap.get? a = some { cls := .type "list", data := .seq vs.toArray }) (hi : IntsAre vs ns) (hl : ns.length ≤ sizeLine) (hr : Room k callerA)
    (F : ∀ base : Heap, K.In base → base.Ns mainGlobals mg → FnOk P w K mg base CX k fa fd [x] sp) (hbind : ∀ (s : Shared) (u : Value), BindsTo s fd ⟨[u], []⟩ [(x, u)])
    (hsp : ∀ H : Hp, Only H → SqL K H a (ns.map V.int) → sp [.ref a] H (fun v _ => v = .bl true) fun _ _ _ => False)
    (hCX : ∀ H e s', CX [] H s₁ (fun _ _ _ => False) e s' → False) :
    codeAny (model P w) callerA (.call (.ref fa) ⟨[.ref a], []⟩) (fun r s' => r = .ok (.ret (.bool true)) ∧ OldK s₁.heap s'.heap ∧ s'.os = s₁.os ∧ AllBare s'.gens) s₁ := by
  have rv := vals_ints hi
  have lenV := hi.length
  -- from an abstract heap in which nothing but the script may be tracked
  have core : ∀ H : Hp, Only H → SqL K H a (ns.map V.int) → HOk P w H s₁.heap → (∀ b, H b ≠ none → b = a) → (H a ≠ none → K.lookup a = none) →
      codeAny (model P w) callerA (.call (.ref fa) ⟨[.ref a], []⟩) (fun r s' => r = .ok (.ret (.bool true)) ∧ OldK s₁.heap s'.heap ∧ s'.os = s₁.os ∧ AllBare s'.gens) s₁ := by
    intro H hO hS hok hA hK
    have base_of : ∀ {b : Addr} {o : Obj}, s₁.heap.get? b = some o → H b = none → (hidT s₁.heap H).get? b = some o := fun e n => hidT_get e n
    have noA : ∀ {b : Addr} {o : Obj} {es : Array DictEntry} {ep : Nat}, s₁.heap.get? b = some o → o.data = .dict es ep → H b = none := fun {b o es ep} e d => by
      cases q : H b with
      | none => rfl
      | some u =>
        have e' : b = a := hA b (by rw [q]; simp)
        subst e'
        rw [ha] at e; cases e
        have d' : Data.seq vs.toArray _ = Data.dict es ep := d
        cases d'
    have nsK : ∀ {b : Addr} {m : Str → Option Value}, s₁.heap.Ns b m → (hidT s₁.heap H).Ns b m := fun {b m} ⟨o, es, ep, e, d, r⟩ => ⟨o, es, ep, base_of e (noA e d), d, r⟩
    have hKb : K.In (hidT s₁.heap H) := fun b o e => base_of (KX b o e) (by
      cases q : H b with
      | none => rfl
      | some u =>
        have e' : b = a := hA b (by rw [q]; simp)
        subst e'
        rw [hK (by rw [q]; simp)] at e; cases e)
    have hM : Mod K mg (hidT s₁.heap H) := ⟨hKb, nsK hns, ⟨mb, nsK hb, hbb⟩, let ⟨mc, h1, h2⟩ := hlim; ⟨mc, nsK h1, h2⟩⟩
    have e0 : Env0 P w K mg (hidT s₁.heap H) callerA [] s₁ H := ⟨rfl, hM, fun b o e => of_hidT e, Nat.le_of_eq (hidT_size _ _), trivial, fun b hb => absurd (show b ∈ ([] : List Addr) from hb) (by simp), hok, .of_eq hg⟩
    refine codeAny_mono ((F _ hKb (nsK hns)).run callerA [] s₁ H ⟨[.ref a], []⟩ [.ref a] [.ref a] _ _ hr e0 (hbind s₁ (.ref a)) (.cons rfl .nil) (hsp H hO hS)) fun r s' h => ?_
    cases r with
    | error e => exact (hCX H e s' h).elim
    | ok fl =>
      cases fl with
      | next => exact False.elim h
      | brk => exact False.elim h
      | cont => exact False.elim h
      | ret u =>
        obtain ⟨v, H', os, bare, un, hok', r', q⟩ := h
        have q' : v = .bl true := q
        subst q'
        obtain rfl : u = Value.bool true := r'
        refine ⟨rfl, OldK.of_keep fun b o e => ?_, os, bare⟩
        cases q : H b with
        | none => exact un.keep b o e q (by intro z; exact absurd (show b ∈ ([] : List Addr) from z) (by simp)) (by simp)
        | some u =>
          rcases hO b with z | ⟨ob, xs, z⟩
          · rw [q] at z; cases z
          · have z2 := un.frzs b ob _ z
            obtain ⟨e1, _⟩ := hok b _ z
            obtain ⟨e2, _⟩ := hok' b _ z2
            rw [e] at e1; cases e1
            exact e2
  cases hk : K.lookup a with
  | some o =>
    -- the script is one of the module's own objects
    have e := KX a o hk
    rw [ha] at e
    cases e
    refine core (fun _ => none) (fun _ => .inl rfl) (.inr ⟨_, vs.toArray, _, hk, rfl, rfl, rfl, by rw [List.size_toArray, lenV]; exact hl, by simpa using rv⟩) (fun b u z => by have z' : (none : Option HO) = some u := z; cases z') (fun b z => absurd rfl z) fun z => absurd rfl z
  | none =>
    refine core (fun b => if b = a then some (.frz { cls := .type "list", data := .seq vs.toArray } (.lst (ns.map V.int))) else none) (fun b => ?_) (.inl (.inr ⟨{ cls := .type "list", data := .seq vs.toArray }, if_pos rfl⟩)) (fun b u z => ?_) (fun b z => ?_) fun _ => hk
    · by_cases hb : b = a
      · exact .inr ⟨_, _, if_pos hb⟩
      · exact .inl (if_neg hb)
    · by_cases hb : b = a
      · have z' := (if_pos hb).symm.trans z
        cases z'
        subst hb
        exact ⟨ha, by rw [List.length_map]; exact hl, vs, _, rv, ha⟩
      · have z' := (if_neg hb).symm.trans z
        cases z'
    · by_cases hb : b = a
      · exact hb
      · exact absurd (if_neg hb) z
end L2

namespace L2
open PySem PySem.Spec PyProof.Rows

/-- the goal that k_head leaves (case hc), from the law's promise. F gives the function object fd (K's own) once, then the promise over every base -/
theorem walk_of {l : PySem.W.OpenLaw} {n k : Nat} {q : Program} {loose : List Str} {XP : (Str → Option Value) → Heap → Prop} {YP : World → Heap → Prop} {d : DefRec} {K : Params → PySem.W.Frag} {CX : World → CXT} {sp : World → Sp} {x : Str}
    (hn : l.most = some n) (hn2 : n ≤ sizeLine) (hdf : d.params.defaults = []) (hr : Room k callerA)
    (hY : ∀ (w : World) (h : Heap), YP w h → (K w.params).In h)
    (F : ∀ (w : World) (mg : Str → Option Value) (fa : Addr) (h : Heap), (K w.params).In h → h.Ns mainGlobals mg → mg d.name = some (.ref fa) →
      ∃ fd : FuncData, (∀ (s : Shared) (u : Value), BindsTo s fd ⟨[u], []⟩ [(x, u)]) ∧
        ∀ base : Heap, (K w.params).In base → base.Ns mainGlobals mg → FnOk l.prog w (K w.params) mg base (CX w) k fa fd [x] (sp w))
    (hsp : ∀ (w : World) (H : Hp) (a : Addr) (ns : List Int), ns.length ≤ n → Only H → SqL (K w.params) H a (ns.map V.int) → sp w [.ref a] H (fun v _ => v = .bl true) fun _ _ _ => False)
    (hCX : ∀ (w : World) (H : Hp) (s : Shared) (e : Value) (s' : Shared), CX w [] H s (fun _ _ _ => False) e s' → False) :
    PySem.W.WalkO q loose XP YP l.row.toRowW d [] (fun f vs => PySem.call f vs) := by
  refine Att.attach_call hn hdf fun w s₀ s₁ mg mb fa o pm cd doc a vs ns G Y ho hd hcd hmg hobj hints hlen hg => ?_
  have KX := hY w _ Y
  obtain ⟨fd, hb, hF⟩ := F w mg fa _ KX G.T.g hmg
  exact law_call KX G.T.g G.T.b G.T.builtins G.T.nolimit hg hobj hints (Nat.le_trans hlen hn2) hr hF hb (fun H hO hS => hsp w H a ns hlen hO hS) fun H e s' => hCX w H s₁ e s'
end L2



/-! SHORT WORDS over the layer: a def of the text, its body, what a loop and a test want. -/
namespace L2
open PySem PySem.Spec PyProof.Rows

/-! ### the text by places -/
/-- the j-th statement of a class's body -/
noncomputable def inClass (s : Stmt) (j : Nat) : Stmt := match s with
  | .ClassDef _ _ _ body _ _ _ _ _ _ _ => body.getD j (.Pass ⟨0, 0, 0, 0⟩)
  | _ => .Pass ⟨0, 0, 0, 0⟩
noncomputable def defArgs (s : Stmt) : Arguments := match s with
  | .FunctionDef _ a _ _ _ _ _ _ _ _ => a
  | _ => { posonlyargs := [], args := [], vararg := none, kwonlyargs := [], kw_defaults := [], kwarg := none, defaults := [] }
noncomputable def defBody (s : Stmt) : List Stmt := match s with
  | .FunctionDef _ _ b _ _ _ _ _ _ _ => b
  | _ => []
noncomputable def defScope (s : Stmt) : Scope := match s with
  | .FunctionDef _ _ _ _ _ _ sc _ _ _ => sc
  | _ => { kind := .function, names := [], isGenerator := false, isCoroutine := false }

/-! ### no exception leaves a def -/
noncomputable abbrev CX0 : CXT := fun _ _ _ _ _ _ => False
noncomputable abbrev E0 : XK := fun _ _ _ => False
theorem pass0 {X : Cx} : Passes CX0 X E0 := fun _ _ _ _ _ _ _ h => h.elim

/-! ### a def (or method) of the text as it stands behind the top -/
structure Fun (K : PySem.W.Frag) (x qual : Str) (st : Stmt) (f : Addr) (fd : FuncData) : Prop where
  ex : ∃ (oc : Value) (od : Option Addr) (kV doc pm : Value) (an : Option Addr) (cdv ct : Value) (osl : Array (Option Value)),
    fd = PySem.W.fnOf x qual (defArgs st) (defBody st) (defScope st) .none kV doc pm an cdv ct ∧ K.lookup f = some ⟨oc, od, .func fd, osl⟩ ∧ PySem.W.codeIn K cdv qual = true
  kp : PySem.W.keepIn K (.ref f) = true
section
variable {P : Program} {w : World} {K : PySem.W.Frag} {mg : Str → Option Value} {base : Heap}
/-- THE RULE for a def: its body as a term of rules, and the reading of that term -/
theorem Fun.ok {x qual : Str} {st : Stmt} {f : Addr} {fd : FuncData} {N ps : List Str} {k : Nat} {sp : Sp} (F : Fun K x qual st f fd) (S : FnScope N ps (defScope st)) (len : ∀ vs H Q E, sp vs H Q E → vs.length = ps.length)
    (hbody : ∀ (cdv : Value) (A : Around) (outer : List Env) (s : Shared) (H : Hp) (vs : List V) (Q : VK) (E : XK), Room k (A.deeper (envOfC qual (defScope st) s.heap.objs.size f cdv)) → sp vs H Q E →
      ∃ t, PSs (cxOf CX0 P w K mg base N qual (defScope st) f cdv A outer s H E).nox (defBody st) t ∧ t { nx := fun _ H' => Q .non H', rt := Q } (start N vs) H) : FnOk P w K mg base CX0 (k + 1) f fd ps sp := by
  obtain ⟨oc, od, kV, doc, pm, an, cdv, ct, osl, rfl, lk, hcd⟩ := F.ex
  refine fn_of lk hcd S len fun A outer s H vs Q E hr hsp => ?_
  obtain ⟨t, h, q⟩ := hbody cdv A outer s H vs Q E hr hsp
  exact ⟨t, h.nox, q⟩
/-- how its arguments bind (no defaults): h is «fun _ _ _ _ _ _ us hl => match us, hl with | [_, _], _ => rfl», one _ a parameter -/
theorem Fun.binds {x qual : Str} {st : Stmt} {f : Addr} {fd : FuncData} {ps : List Str} (F : Fun K x qual st f fd)
    (h : ∀ (kV doc pm : Value) (an : Option Addr) (cdv ct : Value) (us : List Value), us.length = ps.length → bindArgs (PySem.W.fnOf x qual (defArgs st) (defBody st) (defScope st) .none kV doc pm an cdv ct) ⟨us, []⟩ = pure (ps.zip us)) : Binds K fd ps [] := by
  obtain ⟨oc, od, kV, doc, pm, an, cdv, ct, osl, rfl, lk, hcd⟩ := F.ex
  exact .all (h kV doc pm an cdv ct)
theorem fun_mk {x qual : Str} {st : Stmt} {f : Addr} {oc : Value} {od an : Option Addr} {osl : Array (Option Value)} {kV doc pm cdv ct : Value} (l : K.lookup f = some ⟨oc, od, .func (PySem.W.fnOf x qual (defArgs st) (defBody st) (defScope st) .none kV doc pm an cdv ct), osl⟩)
    (c : PySem.W.codeIn K cdv qual = true) (k : PySem.W.keepIn K (.ref f) = true) : Fun K x qual st f (PySem.W.fnOf x qual (defArgs st) (defBody st) (defScope st) .none kV doc pm an cdv ct) := ⟨⟨oc, od, kV, doc, pm, an, cdv, ct, osl, rfl, l, c⟩, k⟩
end
theorem hu_of {A : Around} {k : Nat} (hr : Room k A) : A.units + 1 < cLine := Nat.lt_of_le_of_lt (Nat.add_le_add_left (by decide : 1 ≤ 64) _) hr.units
theorem small1000 {n : Nat} (h : n ≤ 1000) : n < sizeLine := Nat.lt_of_le_of_lt h (by decide)

/-! ### expressions in short: the name that stands in the i-th slot -/
section
variable {X : Cx}
theorem pv (i : Nat) {x : Str} {pos : Pos} (hN : X.N[i]? = some x := by rfl) (hv : Vis X.env.scope x := by first | exact Or.inl rfl | exact Or.inr (Or.inl rfl) | exact Or.inr (Or.inr rfl)) (hd : (x == ("__debug__" : Str)) = false := by decide)
    (hcd : (x == ("__classdict__" : Str)) = false := by decide) : PE X (.Name x pos) (tVar i) := pe_var hN hv hd hcd
end

/-! ### tests -/
/-! ### heaps -/
/-- all that was tracked is as it was -/
noncomputable def Same (H H' : Hp) : Prop := ∀ b o, H b = some o → H' b = some o
theorem Same.refl (H : Hp) : Same H H := fun _ _ h => h
theorem Same.trans {H H1 H2 : Hp} (a : Same H H1) (b : Same H1 H2) : Same H H2 := fun c o h => b c o (a c o h)
theorem Same.free {H H' : Hp} (e : Same H H') {l : Addr} (h : H' l = Option.none) : H l = Option.none := by
  cases q : H l with
  | none => rfl
  | some o =>
    rw [e l o q] at h
    cases h
theorem Same.seq {K : PySem.W.Frag} {H H' : Hp} {a : Addr} {xs : List V} (e : Same H H') (h : SqL K H a xs) : SqL K H' a xs := by
  rcases h with (h | ⟨o, h⟩) | h
  · exact .inl (.inl (e _ _ h))
  · exact .inl (.inr ⟨o, e _ _ h⟩)
  · exact .inr h

end L2

namespace L2
open PySem PySem.Spec PyProof.Rows
section
variable {X : Cx}
end
end L2
namespace L2
open PySem PySem.Spec PyProof.Rows
/-! ### a dict's pairs: keys that differ -/
section
variable {κ : Type} [DecidableEq κ]
end
end L2

set_option maxHeartbeats 4000000
namespace L2
open PySem PySem.Spec PyProof.Rows
theorem bt_int : bootBuiltins "int" = some (.type "int") := by decide +kernel
theorem bt_bool : bootBuiltins "bool" = some (.type "bool") := by decide +kernel
theorem bt_str : bootBuiltins "str" = some (.type "str") := by decide +kernel
theorem bt_dict : bootBuiltins "dict" = some (.type "dict") := by decide +kernel
theorem bt_tuple : bootBuiltins "tuple" = some (.type "tuple") := by decide +kernel
theorem bt_isinstance : bootBuiltins "isinstance" = some (.builtin "isinstance") := by decide +kernel
theorem bt_max : bootBuiltins "max" = some (.builtin "max") := by decide +kernel
theorem bt_all : bootBuiltins "all" = some (.builtin "all") := by decide +kernel
theorem bt_len : bootBuiltins "len" = some (.builtin "len") := by decide +kernel
section
variable {X : Cx}
/-- // by a positive divisor of fewer than 9000 bits -/
noncomputable def CDivB (_ j : Int) : Prop := 0 < j ∧ j.natAbs.log2 < 9000
theorem op_fdivB : OpR X (binaryOp .FloorDiv) (rI CDivB fun i j => .int (i / j)) := opI fun i j _ _ _ _ _ hc q => by
  have h1 : (0 : Int) < j := hc.1
  exact floordiv_int (by omega) (by rw [Int.fdiv_eq_ediv_of_nonneg i (by omega)]; exact q) (.inl (PyProof.noPylong_of_log2 hc.2))
theorem log2_lt {j : Int} (h0 : 0 < j) (h : j ≤ 10 ^ 45) : j.natAbs.log2 < 9000 := by
  have h1 : j.natAbs ≤ 10 ^ 45 := by omega
  have h2 : j.natAbs < 2 ^ 150 := Nat.lt_of_le_of_lt h1 (by decide)
  have h3 : j.natAbs.log2 < 150 := (Nat.log2_lt (by omega)).mpr h2
  omega

/-- isinstance(v, T): by the value and the heap -/
inductive IsI (K : PySem.W.Frag) (H : Hp) : V → String → Bool → Prop
  | ii (n : Int) : IsI K H (.int n) "int" true
  | ib (n : Int) : IsI K H (.int n) "bool" false
  | is (n : Int) : IsI K H (.int n) "str" false
  | it (n : Int) : IsI K H (.int n) "tuple" false
  | bi (b : Bool) : IsI K H (.bl b) "int" true
  | bb (b : Bool) : IsI K H (.bl b) "bool" true
  | bs (b : Bool) : IsI K H (.bl b) "str" false
  | bt (b : Bool) : IsI K H (.bl b) "tuple" false
  | si (x : Str) : IsI K H (.str x) "int" false
  | sb (x : Str) : IsI K H (.str x) "bool" false
  | ss (x : Str) : IsI K H (.str x) "str" true
  | st (x : Str) : IsI K H (.str x) "tuple" false
  | ni : IsI K H .non "int" false
  | nb : IsI K H .non "bool" false
  | ns : IsI K H .non "str" false
  | nt : IsI K H .non "tuple" false
  | li {a : Addr} {xs : List V} : SqL K H a xs → IsI K H (.ref a) "int" false
  | lb {a : Addr} {xs : List V} : SqL K H a xs → IsI K H (.ref a) "bool" false
  | ls {a : Addr} {xs : List V} : SqL K H a xs → IsI K H (.ref a) "str" false
  | lt {a : Addr} {xs : List V} : SqL K H a xs → IsI K H (.ref a) "tuple" false
  | ti {a : Addr} {xs : List V} : SqT K H a xs → IsI K H (.ref a) "int" false
  | tb {a : Addr} {xs : List V} : SqT K H a xs → IsI K H (.ref a) "bool" false
  | ts {a : Addr} {xs : List V} : SqT K H a xs → IsI K H (.ref a) "str" false
  | tt {a : Addr} {xs : List V} : SqT K H a xs → IsI K H (.ref a) "tuple" true
  | di {a : Addr} {kvs : List (Key × V)} : H a = some (.dK kvs) → IsI K H (.ref a) "int" false
  | db {a : Addr} {kvs : List (Key × V)} : H a = some (.dK kvs) → IsI K H (.ref a) "bool" false
  | ds {a : Addr} {kvs : List (Key × V)} : H a = some (.dK kvs) → IsI K H (.ref a) "str" false
theorem Inv.listObj {pins : List (Addr × Obj)} {σ : St} {H : Hp} {s : Shared} {a : Addr} {xs : List V} (I : Inv X pins σ H s) (h : SqL X.K H a xs) : ∃ o, s.heap.get? a = some o ∧ o.cls = .type "list" := by
  obtain ⟨its, _, ⟨o, n, e, c, _, _⟩, _⟩ := I.list h
  exact ⟨o, e, c⟩
theorem Inv.tupObj {pins : List (Addr × Obj)} {σ : St} {H : Hp} {s : Shared} {a : Addr} {xs : List V} (I : Inv X pins σ H s) (h : SqT X.K H a xs) : ∃ o, s.heap.get? a = some o ∧ o.cls = .type "tuple" := by
  obtain ⟨its, _, ⟨o, e, c, _⟩, _⟩ := I.tuple h
  exact ⟨o, e, c⟩
theorem Inv.dictObj {pins : List (Addr × Obj)} {σ : St} {H : Hp} {s : Shared} {a : Addr} {kvs : List (Key × V)} (I : Inv X pins σ H s) (h : H a = some (.dK kvs)) : ∃ o, s.heap.get? a = some o ∧ o.cls = .type "dict" :=
  dict_typeIs I (DGet.k (k := .inl 0) h)
theorem call_isi : CallR X (.builtin "isinstance") (fun xs H Q => ∃ v T b, xs = [v, .ty T] ∧ IsI X.K H v T b ∧ Q (.bl b) H) := by
  intro pins s σ H xs us Q I r h
  obtain ⟨v, T, b, rfl, hi, q⟩ := h
  obtain ⟨u, w', rfl, r1, r2⟩ := vals2 r
  cases r2
  have fin : EP X pins σ Q (.bool b) s := ⟨.bl b, H, I, rfl, q⟩
  have fin' : EP X pins σ Q (.bool b) { s with toks := s.toks + 1 } := ⟨.bl b, H, I.tok _, rfl, q⟩
  cases hi with
  | ii n => obtain ⟨t, rfl⟩ := r1; exact IsiPair.int_int fin
  | ib n => obtain ⟨t, rfl⟩ := r1; exact IsiPair.int_bool fin'
  | is n => obtain ⟨t, rfl⟩ := r1; exact IsiPair.int_str fin'
  | it n => obtain ⟨t, rfl⟩ := r1; exact IsiPair.int_tuple fin'
  | bi b => cases r1; exact IsiPair.bool_int fin
  | bb b => cases r1; exact IsiPair.bool_bool fin
  | bs b => cases r1; exact IsiPair.bool_str fin'
  | bt b => cases r1; exact IsiPair.bool_tuple fin'
  | si x => obtain ⟨t, rfl⟩ := r1; exact IsiPair.str_int fin'
  | sb x => obtain ⟨t, rfl⟩ := r1; exact IsiPair.str_bool fin'
  | ss x => obtain ⟨t, rfl⟩ := r1; exact IsiPair.str_str fin
  | st x => obtain ⟨t, rfl⟩ := r1; exact IsiPair.str_tuple fin'
  | ni => cases r1; exact IsiPair.NoneType_int fin'
  | nb => cases r1; exact IsiPair.NoneType_bool fin'
  | ns => cases r1; exact IsiPair.NoneType_str fin'
  | nt => cases r1; exact IsiPair.NoneType_tuple fin'
  | li hl => cases r1; obtain ⟨o, e, c⟩ := Inv.listObj I hl; exact IsiPair.list_int e c fin'
  | lb hl => cases r1; obtain ⟨o, e, c⟩ := Inv.listObj I hl; exact IsiPair.list_bool e c fin'
  | ls hl => cases r1; obtain ⟨o, e, c⟩ := Inv.listObj I hl; exact IsiPair.list_str e c fin'
  | lt hl => cases r1; obtain ⟨o, e, c⟩ := Inv.listObj I hl; exact IsiPair.list_tuple e c fin'
  | ti hl => cases r1; obtain ⟨o, e, c⟩ := Inv.tupObj I hl; exact IsiPair.tuple_int e c fin'
  | tb hl => cases r1; obtain ⟨o, e, c⟩ := Inv.tupObj I hl; exact IsiPair.tuple_bool e c fin'
  | ts hl => cases r1; obtain ⟨o, e, c⟩ := Inv.tupObj I hl; exact IsiPair.tuple_str e c fin'
  | tt hl => cases r1; obtain ⟨o, e, c⟩ := Inv.tupObj I hl; exact IsiPair.tuple_tuple e c fin
  | di hl => cases r1; obtain ⟨o, e, c⟩ := Inv.dictObj I hl; exact IsiPair.dict_int e c fin'
  | db hl => cases r1; obtain ⟨o, e, c⟩ := Inv.dictObj I hl; exact IsiPair.dict_bool e c fin'
  | ds hl => cases r1; obtain ⟨o, e, c⟩ := Inv.dictObj I hl; exact IsiPair.dict_str e c fin'

end
/-! ### an argument list item by item, the rest a letter -/
noncomputable def isStar : Expr → Bool
  | .Starred .. => true
  | _ => false
theorem star_cons {e : Expr} {es : List Expr} {env : Env} (h : isStar e = false) : starEach (e :: es) env = (false, eval e env) :: starEach es env := by
  cases e <;> first | rfl | cases h
section
variable {X : Cx} {e : Expr} {es : List Expr} {te : TE} {t : TA}
theorem pa_n (ha : PE X e te) (hr : PA X es t) (h : isStar e = false := by rfl) : PA X (e :: es) (tCons te t) := pa_cons ha hr (star_cons h)
end
end L2
namespace L2
open PySem PySem.Spec PyProof.Rows

noncomputable abbrev noteE (prog : Program) (w : World) (A : Around) (env : Env) (R : Result → Shared → Prop) : Value → Shared → Prop := notedBy (model prog w) A env fun e s' => R (.error e) s'
noncomputable abbrev testsOf (ifs : List Expr) (env : Env) : Sem Bool := forIn ifs true fun c r => if r = true then do let ok ← isTrue c env (eval c env); pure (ForInStep.yield ok) else pure (ForInStep.yield r)

section
variable {prog : Program} {w : World} {A : Around} {R : Result → Shared → Prop} {s : Shared}
theorem compLoop_go {elt target iter : Expr} {ifs : List Expr} {scope : Scope} {pos : Pos} {it acc : Value} {env : Env} (I : Nat → Shared → Prop)
    (turn : ∀ n s, I n s → wpAny (model prog w) A (pyNext it) (fun r s₁ => match r with
      | none => R (.ok .next) s₁
      | some v => wpAny (model prog w) A (letOwnedTupleGo target it v) (fun _ s₁' => wpAny (model prog w) A (assign target env v) (fun _ s₂ =>
          wpAny (model prog w) A (testsOf ifs env) (fun ok s₃ =>
            if ok = true then wpAny (model prog w) A (eval elt env) (fun x s₄ =>
              wpAny (model prog w) A (call (.builtin "list.append") [acc, x]) (fun _ s₅ => ∃ m, m < n ∧ I m s₅) (noteE prog w A env R) s₄) (noteE prog w A env R) s₃
            else ∃ m, m < n ∧ I m s₃) (noteE prog w A env R) s₂) (noteE prog w A env R) s₁') (noteE prog w A env R) s₁) (noteE prog w A env R) s)
    (n : Nat) (h : I n s) : codeAny (model prog w) A (.compLoop (.ListComp elt [⟨target, iter, ifs, 0⟩] scope pos) 0 it acc env) R s := by
  refine codeAny_loop rfl I (fun n s hI => ?_) n h
  show wpAny _ A ((compTurn (.ListComp elt [⟨target, iter, ifs, 0⟩] scope pos) 0 it acc env).onRaise (fun x => do noteFrame x env; theTreesLotGoes x)) _ _ s
  refine wpAny_noted ?_
  rw [compTurn_list]
  refine wpAny_bind (wpAny_standAt (wpAny_bind (wpAny_mono (turn n s hI) (fun r s₁ h₁ => ?_) fun _ _ h' => h')))
  cases r with
  | none => exact wpAny_pure h₁
  | some v =>
    refine wpAny_bind (wpAny_mono h₁ (fun _ s₁' h₁' => ?_) fun _ _ h' => h')
    refine wpAny_bind (wpAny_mono h₁' (fun _ s₂ h₂ => wpAny_bind (wpAny_mono h₂ (fun ok s₃ h₃ => ?_) fun _ _ h' => h')) fun _ _ h' => h')
    cases ok with
    | false => exact wpAny_pure ⟨rfl, h₃⟩
    | true =>
      exact wpAny_bind (wpAny_bind (wpAny_mono h₃ (fun x s₄ h₄ => wpAny_bind (wpAny_mono h₄ (fun _ s₅ h₅ => wpAny_pure (wpAny_pure ⟨rfl, h₅⟩)) fun _ _ h' => h')) fun _ _ h' => h'))
end

/-! ### a comprehension's block as a context of its own -/
noncomputable def compCx (X : Cx) (sc : Scope) (cl : List (Str × Addr)) (C : Addr) (N : List Str) (s : Shared) (H : Hp) (ex : List Addr) (pn : List (Addr × Obj)) : Cx :=
  { X with env := compEnvC sc cl C X.env, N := N, s₀ := s, H₀ := H, outer := X.stack, ex := ex, fn := fun _ => false, pn := pn }
/-- what is asked of the block's scope: x its own name, fr the slots of the frame's names that it reads -/
structure CompSc (X : Cx) (sc : Scope) (cl : List (Str × Addr)) (x : Str) (fr : List Nat) (N : List Str) : Prop where
  kind : sc.kind = .function
  nocell : ∀ y ∈ sc.names, y.2 ≠ .cell
  names : ∀ y ∈ sc.names, y.2 = .local → sc.names.lookup y.1 = some .local
  clos : closureFor sc X.env = pure cl
  sub : ∀ y c, cl.lookup y = some c → X.env.cells.lookup y = some c
  has : ∀ y, ((relabel sc X.env).names.lookup y = some .cell ∨ (relabel sc X.env).names.lookup y = some .free) → ∃ c, cl.lookup y = some c
  tgt : sc.names.lookup x = some .local
  nd : N.Nodup
  N0 : N = x :: fr.map fun j => X.N.getD j x
  frc : ∀ j ∈ fr, ∃ y, X.N[j]? = some y ∧ X.env.kindOf y = some .cell ∧ ((relabel sc X.env).names.lookup y = some .cell ∨ (relabel sc X.env).names.lookup y = some .free)
noncomputable def compSt (fr : List Nat) (σ : St) : St := fr.map fun j => (σ[j]?).join

section
variable {X : Cx} {pins : List (Addr × Obj)} {σ : St} {H : Hp} {s : Shared} {sc : Scope} {cl : List (Str × Addr)} {C : Addr} {x : Str} {fr : List Nat} {N : List Str} {fp : List Addr}
theorem comp_ok (I : Inv X pins σ H s) (S : CompSc X sc cl x fr N) (hf : ∀ b ∈ fp, FpOk X pins H b) (hfo : ∀ b ∈ fp, b < s.heap.objs.size) (hC : s.heap.objs.size ≤ C) :
    (compCx X sc cl C N s H fp (X.pn ++ pins)).Ok where
  mod := I.ok.mod
  kind := S.kind
  glob := I.ok.glob
  blt := I.ok.blt
  above := hC
  inj := fun y z c h1 h2 => I.ok.inj y z c (S.sub y c h1) (S.sub z c h2)
  has := S.has
  cab := fun _ _ h => by cases h
  hd := I.ok.hd
  frames := I.ok.frames
  stk := .inl rfl
  exf := fun b hb => ⟨Nat.ne_of_lt (Nat.lt_of_lt_of_le (hfo b hb) hC), fun y c e => (hf b hb).2.2.2.2.1 y c (S.sub y c e)⟩
  bs := I.bs
  bsz := Nat.le_trans I.ok.bsz I.sz
  noex := fun b o e hb => by
    rcases (hf b hb).2.2.2.1 with z | z
    · exact I.ok.noex b o e z
    · exact absurd (Nat.lt_of_lt_of_le (Heap.lt_size e) (Nat.le_trans I.ok.bsz z)) (Nat.lt_irrefl _)
  exfs := fun b hb hm => by
    rcases List.mem_cons.mp (I.stkSub b hm) with z | z
    · exact (hf b hb).2.1 z
    · exact (hf b hb).2.2.1 z
  funs := I.stack
  frf := I.stkFree

theorem nostk (I : Inv X pins σ H s) {b : Addr} (h1 : b ≠ X.env.locals) (h2 : b ∉ X.fs) : b ∉ frs X.stack := fun hm => by
  rcases List.mem_cons.mp (I.stkSub b hm) with z | z
  · exact h1 z
  · exact h2 z

theorem comp_inv (I : Inv X pins σ H s) (S : CompSc X sc cl x fr N) (hf : ∀ b ∈ fp, FpOk X pins H b) (hfo : ∀ b ∈ fp, b < s.heap.objs.size) (hC : s.heap.objs.size ≤ C) {h1 : Heap} {t1 : Nat} {m0 : Str → Option Value}
    (hn : h1.Ns C m0) (hk : ∀ b o, s.heap.get? b = some o → h1.get? b = some o) : Inv (compCx X sc cl C N s H fp (X.pn ++ pins)) [] (none :: compSt fr σ) H { s with heap := h1, toks := t1 } := by
  refine ⟨comp_ok I S hf hfo hC, rfl, I.bare, Un.kept hk, ⟨m0, hn, fun i y v e1 e2 e3 => ?_⟩, fun y c e => ?_, I.hok.fresh hC, fun y c e => I.freeC y c (S.sub y c e), fun p hp => ?_, I.hok.kept hk, ?_⟩
  · have e1' : N[i]? = some y := e1
    rw [S.N0] at e1'
    cases i with
    | zero =>
      have z : (some (none : Option V)) = some (some v) := e2
      cases z
    | succ j =>
      have e1'' : (fr.map fun j => X.N.getD j x)[j]? = some y := e1'
      have e2' : (compSt fr σ)[j]? = some (some v) := e2
      unfold compSt at e2'
      rw [List.getElem?_map] at e1'' e2'
      cases q : fr[j]? with
      | none => rw [q] at e1''; cases e1''
      | some k =>
        rw [q] at e1'' e2'
        have ey : X.N.getD k x = y := Option.some.inj e1''
        have ev : (σ[k]?).join = some v := Option.some.inj e2'
        obtain ⟨y', hy, hkind, hvis⟩ := S.frc k (List.mem_of_getElem? q)
        have eyy : y = y' := by
          rw [← ey, List.getD_eq_getElem?_getD, hy]
          rfl
        subst eyy
        have ev' : σ[k]? = some (some v) := by
          cases z : σ[k]? with
          | none => rw [z] at ev; cases ev
          | some o =>
            rw [z] at ev
            have ev2 : o = some v := ev
            rw [ev2]
        obtain ⟨m, _, hl⟩ := I.loc
        obtain ⟨u, r, l⟩ := hl k y v hy ev' (.inr (.inl hkind))
        refine ⟨u, r, .inr ⟨hvis, ?_⟩⟩
        rcases l with ⟨z, _⟩ | ⟨_, c, hc, o, ho, hd⟩
        · rw [hkind] at z
          cases z
        · obtain ⟨c', hc'⟩ := S.has y hvis
          have z := S.sub y c' hc'
          rw [hc] at z
          cases z
          exact ⟨c, hc', o, hk c o ho, hd⟩
  · obtain ⟨v, o, ho, hd⟩ := I.cell y c (S.sub y c e)
    exact ⟨v, o, hk c o ho, hd⟩
  · have hp' : p ∈ X.pn ++ pins := by
      have z : p ∈ (X.pn ++ pins) ++ [] := hp
      simpa using z
    obtain ⟨e, n, ne, nf, d⟩ := I.pin p hp'
    exact ⟨hk _ _ e, n, Nat.ne_of_lt (Nat.lt_of_lt_of_le (Heap.lt_size e) hC), nostk I ne nf, d⟩
  · show (none :: compSt fr σ).length = N.length
    rw [S.N0]
    simp [compSt]

/-- behind the block: the frame again, the made list tracked -/
theorem comp_end (I : Inv X pins σ H s) (hf : ∀ b ∈ fp, FpOk X pins H b) {D : Addr} {pl : List (Addr × Obj)} {σ' : St} {H' : Hp} {s' : Shared} (J : Inv (compCx X sc cl C N s H fp (X.pn ++ pins)) pl σ' H' s')
    (hC : s.heap.objs.size ≤ C) (hD : s.heap.objs.size ≤ D) (hDC : D ≠ C) (hDn : H' D = none) {xs : List V} {vals : List Value} {k : Nat} (hg : s'.heap.get? D = some { cls := .type "list", data := .seq vals.toArray k }) (rv : Vals xs vals) (hz : xs.length ≤ sizeLine)
    {h' : Heap} (hs : Heap.SameBut C s'.heap h') : Inv X pins σ (upd H' D (.lst xs)) { s' with heap := h' } := by
  have lt : ∀ {b : Addr} {o : Obj}, s.heap.get? b = some o → b < s.heap.objs.size := fun e => Heap.lt_size e
  have neC : ∀ {b : Addr} {o : Obj}, s.heap.get? b = some o → b ≠ C := fun e => Nat.ne_of_lt (Nat.lt_of_lt_of_le (Heap.lt_size e) hC)
  have neD : ∀ {b : Addr} {o : Obj}, s.heap.get? b = some o → b ≠ D := fun e => Nat.ne_of_lt (Nat.lt_of_lt_of_le (Heap.lt_size e) hD)
  have neDt : ∀ {b : Addr} {o : HO}, H b = some o → b ≠ D := fun e => Nat.ne_of_lt (Nat.lt_of_lt_of_le (I.hok.lt e) hD)
  have base : Un (frs X.stack) fp H H' s.heap s'.heap := J.base
  have HC : H' C = none := J.free
  refine I.call' (s' := { s' with heap := h' }) (ch := fp) J.os ⟨fun b o e n hb hx => ?_, fun b o e n hb hx => ?_, fun b o e n hx => ?_, fun b o e hx => ?_, fun b ys e => ?_, fun b o u e => ?_, fun b ps e => ?_⟩ (fun b u e => ?_) J.bare (fun b hb => ?_)
  · exact (hs.2 b (neC e)).trans (base.keep b o e n hb hx)
  · obtain ⟨sl, q⟩ := base.slot b o e n hb hx
    exact ⟨sl, (hs.2 b (neC e)).trans q⟩
  · rw [upd_ne (neD e)]
    exact base.free b o e n hx
  · obtain ⟨o', q⟩ := base.there b o e hx
    exact ⟨o', (hs.2 b (neC e)).trans q⟩
  · rw [upd_ne (neDt e)]
    exact base.tups b ys e
  · rw [upd_ne (neDt e)]
    exact base.frzs b o u e
  · rw [upd_ne (neDt e)]
    exact base.tbls b ps e
  · by_cases hb : b = D
    · subst hb
      rw [upd_same] at e
      cases e
      exact ⟨hz, vals, k, rv, (hs.2 b hDC).trans hg⟩
    · rw [upd_ne hb] at e
      have tC : ∀ {c : Addr} {o : HO}, H' c = some o → c ≠ C := fun q z => by rw [z, HC] at q; cases q
      have tD : ∀ {c : Addr} {o : HO}, H' c = some o → c ≠ D := fun q z => by rw [z, hDn] at q; cases q
      refine (J.hok b u e).stay (fun c v hc q => (hs.2 c ?_).trans q) (fun c q => by rw [upd_ne (tD q)]; exact q) fun c ys q => by rw [upd_ne (tD q)]; exact q
      rcases hc with z | z
      · rw [z]; exact tC e
      · exact tC z
  · obtain ⟨_, f1, _, f3, f4, f5⟩ := hf b hb
    exact ⟨f3, f1, f4, f5⟩
end

/-- the tests of a comprehension's clause -/
noncomputable def PTs (Y : Cx) (ifs : List Expr) (t : TT) : Prop :=
  ∀ (pins : List (Addr × Obj)) (s : Shared) (σ : St) (H : Hp) (Q : Bool → Hp → Prop), Inv Y pins σ H s → t σ H Q → wpAny (model Y.prog Y.w) Y.A (testsOf ifs Y.env) (TP Y pins σ Q) Y.xe s
noncomputable def tTrue : TT := fun _ H Q => Q true H
theorem pts_nil {Y : Cx} : PTs Y [] tTrue := fun _ _ _ H _ I h => wpAny_tests_nil ⟨H, I, h⟩
/-- W: the invariant by the turn, a measure and the items so far -/
@[irreducible] def tComp (wi : TI) (fr : List Nat) (tc : TT) (te : TE) : TE := fun σ H Q => wi σ H fun J H1 => ∃ W : Nat → Nat → List V → Hp → Prop, (∃ m, W 0 m [] H1) ∧ ∀ i m xs H, W i m xs H → xs.length ≤ 1000000 ∧
  ((J.stop i H ∧ ∀ p, H p = none → Q (.ref p) (upd H p (.lst xs))) ∨
   (J.go i H ∧ ∀ y H', J.yld i H y H' → tc (some y :: compSt fr σ) H' fun b H2 => if b = true then te (some y :: compSt fr σ) H2 (fun z H3 => ∃ m', m' < m ∧ W (i + 1) m' (xs ++ [z]) H3) else ∃ m', m' < m ∧ W (i + 1) m' xs H2))

section
variable {X : Cx} {sc : Scope} {cl : List (Str × Addr)} {x : Str} {fr : List Nat} {N : List Str} {elt iter : Expr} {px pos : Pos} {ifs : List Expr} {wi : TI} {tc : TT} {te : TE}
/-- the block itself, from the iterator on: what is wanted behind it is asked of every heap in which the block's own names are let go -/
theorem comp_blockG {tg : Expr} {g : TG} {τ0 : St} {O : St → Prop} (hc : X.calm = true) (hx : ∀ e s, ¬ X.xe e s) (NC : ∀ y ∈ sc.names, y.2 ≠ .cell) (KD : sc.kind = .function) (SB : ∀ y c, cl.lookup y = some c → X.env.cells.lookup y = some c) (hpg : ∀ C s H ex pn, PG (compCx X sc cl C N s H ex pn) tg g)
    (hb : ∀ C s H ex pn, PTs (compCx X sc cl C N s H ex pn) ifs tc ∧ PE (compCx X sc cl C N s H ex pn) elt te)
    {pins : List (Addr × Obj)} {σ : St} {H : Hp} {s : Shared} {it : Addr} {fp : List Addr} {tn : Nat → Heap → Prop} {J : It} {Q : VK} {RR : Value → Addr → Result → Shared → Prop} {E : Value → Shared → Prop}
    (I : Inv X pins σ H s) (T : Turn X.prog X.w X.K tg J fp it tn) (st : tn 0 s.heap) (hf : ∀ b ∈ fp, FpOk X pins H b)
    (inv0 : ∀ (C : Addr) (h1 : Heap) (t1 : Nat) (m0 : Str → Option Value), (∀ b ∈ fp, b < s.heap.objs.size) → s.heap.objs.size ≤ C → h1.Ns C m0 → (∀ b o, s.heap.get? b = some o → h1.get? b = some o) → Inv (compCx X sc cl C N s H fp (X.pn ++ pins)) [] τ0 H { s with heap := h1, toks := t1 }) (ok0 : O τ0)
    {W : Nat → Nat → List V → Hp → Prop} {m0 : Nat} (w0 : W 0 m0 [] H)
    (turn : ∀ i m xs H, W i m xs H → xs.length ≤ 1000000 ∧
      ((J.stop i H ∧ ∀ p, H p = none → Q (.ref p) (upd H p (.lst xs))) ∨
       (J.go i H ∧ ∀ y H', J.yld i H y H' → ∀ σ1, O σ1 → g y σ1 H' fun σ2 H1 => O σ2 ∧ tc σ2 H1 fun b H2 => if b = true then te σ2 H2 (fun z H3 => ∃ m', m' < m ∧ W (i + 1) m' (xs ++ [z]) H3) else ∃ m', m' < m ∧ W (i + 1) m' xs H2)))
    (fin : ∀ (D C : Addr) (s' : Shared) (m' : Str → Option Value) (H' : Hp), s'.heap.Ns C m' → FpOk X pins H' C → (∀ h', Heap.SameBut C s'.heap h' → Inv X pins σ H' { s' with heap := h' }) → Q (.ref D) H' → RR (.ref D) C (.ok .next) s') :
    wpAny (model X.prog X.w) X.A (newList []) (fun acc s₃ => wpAny (model X.prog X.w) X.A (newFunctionEnv sc X.env.globals cl [] X.env.qual none .none (some X.env)) (fun cenv s₄ =>
      codeAny (model X.prog X.w) X.A (.compStart (.ListComp elt [⟨tg, iter, ifs, 0⟩] sc pos) 0 (.ref it) acc { cenv with scope := relabel sc X.env }) (RR acc cenv.locals) s₄) E s₃) E s := by
  refine wpAny_newObj_type (wpAny_newFunctionEnv NC (by intro y hy; simp at hy) (fun h₁ hns₁ hsb₁ => ?_) KD)
  dsimp only at hns₁ hsb₁ ⊢
  generalize hH2 : s.heap.push { cls := .type "list", dict := none, data := .seq ([] : List Value).toArray } = G2 at hns₁ hsb₁ ⊢
  have hCs : G2.objs.size = s.heap.objs.size + 1 := by rw [← hH2, Heap.size_push]
  have hDC : s.heap.objs.size ≠ G2.objs.size := by rw [hCs]; exact Nat.ne_of_lt (Nat.lt_succ_self _)
  have hC : s.heap.objs.size ≤ G2.objs.size := by rw [hCs]; exact Nat.le_succ _
  have below : ∀ b, b < s.heap.objs.size → b ≠ G2.objs.size := fun b hb => by rw [hCs]; exact Nat.ne_of_lt (Nat.lt_succ_of_lt hb)
  have old : ∀ b o, s.heap.get? b = some o → h₁.get? b = some o := fun b o e => hsb₁.extBut b o (below b (Heap.lt_size e)) (Heap.get?_push_of_some _ (hH2 ▸ Heap.get?_push_of_some _ e))
  have hD1 : h₁.get? s.heap.objs.size = some { cls := .type "list", data := .seq ([] : List Value).toArray 0 } := hsb₁.extBut _ _ hDC (Heap.get?_push_of_some _ (hH2 ▸ Heap.get?_push_size _ rfl))
  have hfo : ∀ b ∈ fp, b < s.heap.objs.size := fun b hbm => by
    obtain ⟨o, e, _⟩ := T.obj 0 s.heap st b hbm
    exact Heap.lt_size e
  have hDn : H s.heap.objs.size = none := I.hok.fresh (Nat.le_refl _)
  -- what stays true of the made list's place
  have Dstk : s.heap.objs.size ∉ frs X.stack := fun hm => by
    rcases List.mem_cons.mp (I.stkSub _ hm) with z | z
    · exact absurd I.lt (by rw [← z]; exact Nat.lt_irrefl _)
    · exact I.nofs (Nat.le_refl _) z
  have Dcell : ∀ y c, cl.lookup y = some c → c ≠ s.heap.objs.size := fun y c e z => by
    obtain ⟨v, q⟩ := I.cell y c (SB y c e)
    exact absurd q.lt (by rw [z]; exact Nat.lt_irrefl _)
  have Dpin : ∀ p ∈ X.pn ++ pins, p.1 ≠ s.heap.objs.size := fun p hp z => absurd (Heap.lt_size (I.pin p hp).1) (by rw [z]; exact Nat.lt_irrefl _)
  have Dfp : s.heap.objs.size ∉ fp := fun hm => Nat.lt_irrefl _ (hfo _ hm)
  have loop : ∀ s₃ : Shared, s₃ = { s with heap := h₁, toks := s.toks + ([] : List (Str × Value)).length } →
      codeAny (model X.prog X.w) X.A (.compLoop (.ListComp elt [⟨tg, iter, ifs, 0⟩] sc pos) 0 (.ref it) (.ref s.heap.objs.size) (compEnvC sc cl G2.objs.size X.env)) (RR (.ref s.heap.objs.size) G2.objs.size) s₃ := by
    rintro s₃ rfl
    have I0 := inv0 G2.objs.size h₁ (s.toks + ([] : List (Str × Value)).length) _ hfo hC hns₁ old
    refine compLoop_go (fun n s' => ∃ (i : Nat) (xs : List V) (vals : List Value) (k : Nat) (v0 : St) (H' : Hp), Inv (compCx X sc cl G2.objs.size N s H fp (X.pn ++ pins)) [] v0 H' s' ∧ O v0 ∧ tn i s'.heap ∧ (∀ b ∈ fp, H' b = none) ∧
      s'.heap.get? s.heap.objs.size = some { cls := .type "list", data := .seq vals.toArray k } ∧ Vals xs vals ∧ H' s.heap.objs.size = none ∧ W i n xs H') ?_ m0
      ⟨0, [], [], 0, τ0, H, I0, ok0, T.keep _ _ _ st fun b _ o e => old b o e, fun b hb => (hf b hb).1, hD1, .nil, hDn, w0⟩
    rintro n s1 ⟨i, xs, vals, k, v0, H1, I1, ok1, st1, fr1, hg1, rv1, hD1', w1⟩
    have hlen := rv1.length
    obtain ⟨hz, step⟩ := turn i n xs H1 w1
    have hz2 : xs.length ≤ sizeLine := Nat.le_trans hz (by decide)
    have stat : ∀ {H' : Hp} {pl : List (Addr × Obj)}, (∀ b ∈ fp, H' b = none) → (∀ p ∈ pl, p.1 = s.heap.objs.size) → ∀ b ∈ fp, FpOk (compCx X sc cl G2.objs.size N s H fp (X.pn ++ pins)) pl H' b := fun {H' pl} hn hpl b hb =>
      ⟨hn b hb, below b (hfo b hb), nostk I (hf b hb).2.1 (hf b hb).2.2.1, .inl hb, fun y c e => (hf b hb).2.2.2.2.1 y c (SB y c e), fun p hp z => by
        rcases List.mem_append.mp hp with q | q
        · exact (hf b hb).2.2.2.2.2 p q z
        · exact Dfp (by rw [← hpl p q, z]; exact hb)⟩
    have I1' : Inv (compCx X sc cl G2.objs.size N s H fp (X.pn ++ pins)) [(s.heap.objs.size, { cls := .type "list", data := .seq vals.toArray k })] v0 H1 s1 := I1.pins_of fun p hp => by
      have e : p = (s.heap.objs.size, { cls := .type "list", data := .seq vals.toArray k }) := by simpa using hp
      subst e
      exact ⟨hg1, hD1', hDC, Dstk, fun v z => by cases z⟩
    rcases step with ⟨stop, hq⟩ | ⟨go, step⟩
    · refine thn (T.done (compCx X sc cl G2.objs.size N s H fp (X.pn ++ pins)) rfl rfl rfl hc i [(s.heap.objs.size, { cls := .type "list", data := .seq vals.toArray k })] s1 _ H1 _ I1' (stat fr1 fun p hp => by
        have e : p = (s.heap.objs.size, { cls := .type "list", data := .seq vals.toArray k }) := by simpa using hp
        rw [e]) st1 stop) fun r s2 ⟨hr, I2⟩ => ?_
      subst hr
      obtain ⟨g2, n2, _⟩ := I2.pin (s.heap.objs.size, { cls := .type "list", data := .seq vals.toArray k }) (List.mem_append_right _ (by simp))
      obtain ⟨m2, hn2, _⟩ := I2.loc
      have hCn : upd H1 s.heap.objs.size (.lst xs) G2.objs.size = none := by
        rw [upd_ne (Ne.symm hDC)]
        exact I2.free
      exact fin s.heap.objs.size G2.objs.size s2 m2 _ hn2 (I.fpOk hC hCn) (fun h' hs' => comp_end I hf I2 hC (Nat.le_refl _) hDC n2 g2 rv1 hz2 hs') (hq _ n2)
    · refine thn (T.item (compCx X sc cl G2.objs.size N s H fp (X.pn ++ pins)) rfl rfl rfl hc i [(s.heap.objs.size, { cls := .type "list", data := .seq vals.toArray k })] s1 _ H1 _ I1' (stat fr1 fun p hp => by
        have e : p = (s.heap.objs.size, { cls := .type "list", data := .seq vals.toArray k }) := by simpa using hp
        rw [e]) st1 go) fun r s2 ⟨u, hr, h2⟩ => ?_
      subst hr
      refine thn h2 fun _ s3 ⟨y, H3, I3, r3, y3, st3, fr3⟩ => ?_
      have I3' := I3.pinned (stat fr3 fun p hp => by
        have e : p = (s.heap.objs.size, { cls := .type "list", data := .seq vals.toArray k }) := by simpa using hp
        rw [e]) (T.obj _ _ st3)
      -- what the pins say again behind each part
      have back : ∀ {σ9 : St} {H9 : Hp} {s9 : Shared}, Inv (compCx X sc cl G2.objs.size N s H fp (X.pn ++ pins)) ([(s.heap.objs.size, { cls := .type "list", data := .seq vals.toArray k })] ++ pinsAt fp s3.heap) σ9 H9 s9 →
          tn (i + 1) s9.heap ∧ (∀ b ∈ fp, H9 b = none) ∧ s9.heap.get? s.heap.objs.size = some { cls := .type "list", data := .seq vals.toArray k } ∧ H9 s.heap.objs.size = none := fun {σ9 H9 s9} I9 => by
        refine ⟨T.keep _ _ _ st3 fun b hb o e => (I9.pin (b, o) (List.mem_append_right _ (List.mem_append_right _ (mem_pinsAt hb e)))).1, fun b hb => ?_, ?_⟩
        · obtain ⟨o, e, d⟩ := T.obj _ _ st3 b hb
          exact (I9.pin (b, o) (List.mem_append_right _ (List.mem_append_right _ (mem_pinsAt hb e)))).2.1
        · obtain ⟨a1, a2, _⟩ := I9.pin (s.heap.objs.size, { cls := .type "list", data := .seq vals.toArray k }) (List.mem_append_right _ (List.mem_append_left _ (by simp)))
          exact ⟨a1, a2⟩
      have noX : ∀ e s', (compCx X sc cl G2.objs.size N s H fp (X.pn ++ pins)).xe e s' → noteE X.prog X.w X.A (compEnvC sc cl G2.objs.size X.env) (RR (.ref s.heap.objs.size) G2.objs.size) e s' := fun e s' z => (hx e s' z).elim
      refine wpAny_mono (hpg _ _ _ _ _ _ s3 _ H3 y u _ I3' r3 (step y H3 y3 v0 ok1)) (fun _ s4 ⟨σ4, H4, I4, ok4, hstep⟩ => ?_) noX
      obtain ⟨hbT, hbE⟩ := hb G2.objs.size s H fp (X.pn ++ pins)
      refine wpAny_mono (hbT _ s4 _ H4 _ I4 hstep) (fun ok s5 ⟨H5, I5, q5⟩ => ?_) noX
      cases ok with
      | false =>
        rw [if_neg Bool.false_ne_true]
        have q5' : ∃ m', m' < n ∧ W (i + 1) m' xs H5 := q5
        obtain ⟨m', hm, w5⟩ := q5'
        obtain ⟨b1, b2, b3, b4⟩ := back I5
        exact ⟨m', hm, i + 1, xs, vals, k, σ4, H5, I5.pins_of (fun p hp => absurd hp (by simp)), ok4, b1, b2, b3, rv1, b4, w5⟩
      | true =>
        rw [if_pos rfl]
        refine wpAny_mono (hbE _ s5 _ H5 _ I5 q5) (fun z s6 ⟨v6, H6, I6, r6, q6⟩ => ?_) noX
        obtain ⟨m', hm, w6⟩ := q6
        obtain ⟨b1, b2, b3, b4⟩ := back I6
        refine call_meets F.slot_list_append ⟨_, b3, rfl⟩ F.entry_list_append (F.args_list_append_2 _ _) (PySem.list_append s.heap.objs.size vals.toArray k z (by rw [List.size_toArray]; omega)) ⟨b3, ?_⟩
        have q7 := PySem.IsL.update b3 (fun a : Array Value => a.push z)
        have hpush : vals.toArray.push z = (vals ++ [z]).toArray := by simp
        rw [hpush] at q7
        have I6' : Inv (compCx X sc cl G2.objs.size N s H fp (X.pn ++ pins)) [] σ4 H6 s6 := I6.pins_of (fun p hp => absurd hp (by simp))
        have others : ∀ b o, b ≠ s.heap.objs.size → s6.heap.get? b = some o → (s6.heap.update s.heap.objs.size (Obj.mapSeq fun a => a.push z)).get? b = some o := fun b o hb' e => (Heap.get?_update_other _ _ (Ne.symm hb')).trans e
        refine ⟨m', hm, i + 1, xs ++ [v6], vals ++ [z], _, σ4, H6, I6'.turned (it := s.heap.objs.size) others b4 hDC (.inr (Nat.le_refl _)) Dcell (fun p hp z' => ?_), ok4, T.keep _ _ _ b1 fun b hb' o e => others b o (fun z' => Dfp (by rw [← z']; exact hb')) e, b2, q7, rv1.append (.cons r6 .nil), b4, w6⟩
        have hp' : p ∈ X.pn ++ pins := by
          have z2 : p ∈ (X.pn ++ pins) ++ [] := hp
          simpa using z2
        exact Dpin p hp' z'
  exact codeAny_compStart_list (loop _ rfl) (T.self _ _ _ _ _ (T.keep _ _ _ st fun b _ o e => old b o e) (loop _ rfl))
theorem comp_block (hc : X.calm = true) (hx : ∀ e s, ¬ X.xe e s) (S : CompSc X sc cl x fr N)
    (hb : ∀ C s H ex pn, PTs (compCx X sc cl C N s H ex pn) ifs tc ∧ PE (compCx X sc cl C N s H ex pn) elt te)
    {pins : List (Addr × Obj)} {σ : St} {H : Hp} {s : Shared} {it : Addr} {fp : List Addr} {tn : Nat → Heap → Prop} {J : It} {Q : VK} {RR : Value → Addr → Result → Shared → Prop} {E : Value → Shared → Prop}
    (I : Inv X pins σ H s) (T : Turn X.prog X.w X.K (.Name x px) J fp it tn) (st : tn 0 s.heap) (hf : ∀ b ∈ fp, FpOk X pins H b)
    {W : Nat → Nat → List V → Hp → Prop} {m0 : Nat} (w0 : W 0 m0 [] H)
    (turn : ∀ i m xs H, W i m xs H → xs.length ≤ 1000000 ∧
      ((J.stop i H ∧ ∀ p, H p = none → Q (.ref p) (upd H p (.lst xs))) ∨
       (J.go i H ∧ ∀ y H', J.yld i H y H' → tc (some y :: compSt fr σ) H' fun b H2 => if b = true then te (some y :: compSt fr σ) H2 (fun z H3 => ∃ m', m' < m ∧ W (i + 1) m' (xs ++ [z]) H3) else ∃ m', m' < m ∧ W (i + 1) m' xs H2)))
    (fin : ∀ (D C : Addr) (s' : Shared) (m' : Str → Option Value) (H' : Hp), s'.heap.Ns C m' → FpOk X pins H' C → (∀ h', Heap.SameBut C s'.heap h' → Inv X pins σ H' { s' with heap := h' }) → Q (.ref D) H' → RR (.ref D) C (.ok .next) s') :
    wpAny (model X.prog X.w) X.A (newList []) (fun acc s₃ => wpAny (model X.prog X.w) X.A (newFunctionEnv sc X.env.globals cl [] X.env.qual none .none (some X.env)) (fun cenv s₄ =>
      codeAny (model X.prog X.w) X.A (.compStart (.ListComp elt [⟨.Name x px, iter, ifs, 0⟩] sc pos) 0 (.ref it) acc { cenv with scope := relabel sc X.env }) (RR acc cenv.locals) s₄) E s₃) E s :=
  comp_blockG (τ0 := none :: compSt fr σ) (O := fun σ1 => ∃ v0, σ1 = v0 :: compSt fr σ) (g := gName 0) hc hx S.nocell S.kind S.sub (fun C s H ex pn => pg_name (i := 0) S.nd (show N[0]? = some x by rw [S.N0]; rfl) (.inl (lookup_relabel_local S.tgt)) (.inr (lookup_relabel_local S.tgt))) hb I T st hf
    (fun C h1 t1 m0 hfo hC hn hk => comp_inv I S hf hfo hC hn hk) ⟨_, rfl⟩ w0
    (fun i m xs H w => let ⟨l, z⟩ := turn i m xs H w; ⟨l, z.imp id fun ⟨g, h⟩ => ⟨g, fun y H' hy σ1 ⟨v0, e⟩ => by subst e; exact ⟨⟨_, rfl⟩, h y H' hy⟩⟩⟩) fin

/-- [elt for x in iter if ..] -/
theorem pe_comp (hc : X.calm = true) (hx : ∀ e s, ¬ X.xe e s) (S : CompSc X sc cl x fr N) (hi : PI X (.Name x px) iter wi)
    (hb : ∀ C s H ex pn, PTs (compCx X sc cl C N s H ex pn) ifs tc ∧ PE (compCx X sc cl C N s H ex pn) elt te)
    (hs : ∀ v, foldedSetIterable iter X.env v = pure v := by intro _; rfl) : PE X (.ListComp elt [⟨.Name x px, iter, ifs, 0⟩] sc pos) (tComp wi fr tc te) := by
  intro pins s σ H Q I h
  unfold tComp at h
  rw [eval_ListComp]
  refine wpAny_comprehension_free (use := none) rfl hs S.clos S.kind S.names ?_
  refine thn (hi pins s σ H _ I h) fun v s1 h1 => thn h1 fun itv s2 h2 => ?_
  obtain ⟨it, fp, tn, J, H2, e, I2, T, st2, f2, W, ⟨m0, w0⟩, turn⟩ := h2
  subst e
  refine comp_block (RR := fun acc C => compPost (model X.prog X.w) X.A X.xe none (EP X pins σ Q) acc C) hc hx S hb I2 T st2 f2 w0 turn ?_
  intro D C s' m' H' hn _ hfin q
  exact ⟨m', hn, fun h' hs' => ⟨.ref D, H', hfin h' hs', rfl, q⟩⟩
end

/-- a block that reads none of the frame's names -/
theorem CompSc.nofree {X : Cx} {sc : Scope} {x : Str} (kind : sc.kind = .function) (nc : (sc.names.all fun y => y.2 != .cell && y.2 != .free) = true)
    (nm : (sc.names.all fun y => !(y.2 == .local) || sc.names.lookup y.1 == some .local) = true) (tgt : sc.names.lookup x = some .local) : CompSc X sc [] x [] [x] where
  kind := kind
  nocell := fun y hy e => by
    have h := List.all_eq_true.mp nc y hy
    rw [e] at h
    exact absurd h (by decide)
  names := fun y hy e => by
    have h := List.all_eq_true.mp nm y hy
    rw [e] at h
    simpa using h
  clos := closureFor_none fun y hy e => by
    have h := List.all_eq_true.mp nc y hy
    rw [e] at h
    exact absurd h (by decide)
  sub := fun y c h => by cases h
  has := fun y h => by
    exfalso
    have key : ∀ l : List (Str × NameKind), (l.all fun y => y.2 != .cell && y.2 != .free) = true → ∀ k, (l.map fun (n, k) => if (k == NameKind.free && X.env.scope.kind == .function && X.env.kindOf n == some .cell) then (n, NameKind.cell) else (n, k)).lookup y = some k → k ≠ .cell ∧ k ≠ .free := by
      intro l
      induction l with
      | nil => intro _ k e; cases e
      | cons p r ih =>
        obtain ⟨n, kk⟩ := p
        intro ha k e
        rw [List.all_cons, Bool.and_eq_true, Bool.and_eq_true] at ha
        obtain ⟨⟨h1, h2⟩, h3⟩ := ha
        have h2' : (kk == NameKind.free) = false := by simpa using h2
        rw [List.map_cons] at e
        dsimp only at e
        rw [h2', Bool.false_and, Bool.false_and, if_neg Bool.false_ne_true, List.lookup_cons] at e
        cases q : (y == n) with
        | true =>
          rw [q] at e
          have e' : kk = k := Option.some.inj e
          subst e'
          exact ⟨by simpa using h1, by simpa using h2⟩
        | false =>
          rw [q] at e
          exact ih h3 k e
    rcases h with h | h
    · exact (key sc.names nc _ h).1 rfl
    · exact (key sc.names nc _ h).2 rfl
  tgt := tgt
  nd := by simp
  N0 := rfl
  frc := fun j hj => by cases hj
end L2
namespace L2
open PySem PySem.Spec PyProof.Rows
section
variable {X : Cx}
theorem op_le_str : OpR X (compareOp .LtE) (fun x y H Q => ∃ i j, x = .str i ∧ y = .str j ∧ Q (.bl (!decide (j.cps.toList < i.cps.toList))) H) := by
  intro pins s σ H x y v u Q I rx ry h
  obtain ⟨i, j, rfl, rfl, q⟩ := h
  obtain ⟨t, rfl⟩ := rx
  obtain ⟨t', rfl⟩ := ry
  exact PySem.P.le_str (fin_bl I q rfl)
/-- a cut of a text -/
theorem sl_str : SlR X (fun x lo hi H Q => ∃ z, x = .str z ∧ z.length ≤ sizeLine ∧ Q (.str (Txt.slice z lo hi)) H) := by
  intro pins s σ H x v vl vu lo hi sl Q I rx hs pl pu h
  obtain ⟨z, rfl, hz, q⟩ := h
  obtain ⟨t, rfl⟩ := rx
  have fin : ∀ t' k, EP X pins σ Q (.str (Txt.slice z lo hi) t') { s with toks := k } := fun t' k => ⟨.str _, H, I.tok _, ⟨_, rfl⟩, q⟩
  refine ⟨"str", _, F.slot_str_getitem.lookup, typeIs_str s z t, ?_⟩
  cases pl with
  | none =>
    cases pu with
    | none => exact wpAny_getItem_str_slice (l := none) (u := none) (st := none) hs rfl (post_val_or_str ⟨Nat.le_trans (Txt.slice_le z _ _) hz, fin⟩)
    | int j uj => exact wpAny_getItem_str_slice (l := none) (u := some (j, uj)) (st := none) hs rfl (post_val_or_str ⟨Nat.le_trans (Txt.slice_le z _ _) hz, fin⟩)
  | int i ui =>
    cases pu with
    | none => exact wpAny_getItem_str_slice (l := some (i, ui)) (u := none) (st := none) hs rfl (post_val_or_str ⟨Nat.le_trans (Txt.slice_le z _ _) hz, fin⟩)
    | int j uj => exact wpAny_getItem_str_slice (l := some (i, ui)) (u := some (j, uj)) (st := none) hs rfl (post_val_or_str ⟨Nat.le_trans (Txt.slice_le z _ _) hz, fin⟩)

/-! ### == of two lists of flat items -/
/-- all(xs) of a list of truths -/
theorem call_all (hc : X.calm = true) : CallR X (.builtin "all") (fun xs H Q => ∃ (p : Addr) (bs : List Bool), xs = [.ref p] ∧ SqL X.K H p (bs.map V.bl) ∧ Q (.bl (bs.all id)) H) := by
  intro pins s σ H xs us Q I r h
  obtain ⟨p, bs, rfl, hq, q⟩ := h
  obtain ⟨u, rfl, ru⟩ := vals1 r
  cases ru
  obtain ⟨its, rv, pl, hz⟩ := I.list hq
  have hl := rv.length
  rw [List.length_map] at hl
  have plL := pl.isList
  have hlt : p < s.heap.objs.size := by obtain ⟨_, e, _⟩ := plL; exact Heap.lt_size e
  refine call_all_walk (wpAny_pyIter_list plL ?_)
  refine ⟨s.heap.objs.size, [s.heap.objs.size, p], [s.heap.objs.size], its.toArray.size, _, _, fun i => (bs[i]?).getD true, rfl, Walks.list (A := X.A.in1) (I.ok.hd hc) _ p (Nat.ne_of_lt hlt) its.toArray,
    ⟨⟨_, Heap.get?_push_size _ rfl, rfl, rfl⟩, plL.push _⟩, fun i v s' Q' E' hP hQ => ?_, fun h' tk hk => ?_⟩
  · have hP' : its[i]? = some v := by simpa using hP
    have hi : i < its.length := (List.getElem?_eq_some_iff.mp hP').1
    have e1 : bs[i]? = some bs[i] := List.getElem?_eq_getElem (by omega)
    obtain ⟨u1, g1, s1⟩ := rv.get (i := i) (x := V.bl bs[i]) (by rw [List.getElem?_map, e1] <;> rfl)
    rw [hP'] at g1
    cases g1
    cases s1
    simp only [e1, Option.getD_some] at hQ
    exact wpAny_truthy_bool hQ
  · have e : ((List.range its.toArray.size).all fun i => (bs[i]?).getD true) = bs.all id := by
      rw [List.size_toArray, ← hl]
      rw [Bool.eq_iff_iff, List.all_eq_true, List.all_eq_true]
      constructor
      · intro h x hx
        obtain ⟨i, hi, e⟩ := List.getElem_of_mem hx
        have := h i (List.mem_range.mpr hi)
        rw [List.getElem?_eq_getElem hi, Option.getD_some, e] at this
        exact this
      · intro h i hi
        have hi' := List.mem_range.mp hi
        rw [List.getElem?_eq_getElem hi', Option.getD_some]
        exact h _ (List.getElem_mem hi')
    rw [e]
    exact ⟨.bl (bs.all id), H, I.kept (fun b o eb => hk b o (fun hm => by rw [List.mem_singleton.mp hm] at eb; exact Nat.lt_irrefl _ (Heap.lt_size eb)) (Heap.get?_push_of_some _ eb)), rfl, q⟩
end

/-! ### a text's signs, one by one -/
noncomputable def Its (x : Str) : It := ⟨fun i _ => i < x.cps.size, fun i H y H' => H' = H ∧ ∃ c, x.cps[i]? = some c ∧ y = .str ⟨#[c]⟩, fun i _ => x.cps.size ≤ i⟩
theorem turn_str {P : Program} {w : World} {K : PySem.W.Frag} {tg : Expr} {T : String} (hT : T = "str_ascii_iterator" ∨ T = "str_iterator") (x : Str) (t : Tok) (it : Addr) :
    Turn P w K tg (Its x) [it] it (fun i h => i ≤ x.cps.size ∧ h.IsStrIter it T x t i) where
  mem := by simp
  obj := fun i h st b hb => by
    have e : b = it := by simpa using hb
    subst e
    obtain ⟨o, e, c, d⟩ := st.2
    exact ⟨o, e, fun v z => by rw [d] at z; cases z⟩
  keep := fun i h h' st k => ⟨st.1, let ⟨o, e, r⟩ := st.2; ⟨o, k it (by simp) o e, r⟩⟩
  item := by
    intro X hP hw hK hc i pins s σ H E I hf st hg
    subst hP hw hK
    obtain ⟨f0, f1, f2, f3, f4, f5⟩ := hf it (by simp)
    have W : Walks X.prog X.w X.A it [it] [it] x.cps.size (SignAt x) (fun i h => h.IsStrIter it T x t i) := by
      rcases hT with e | e
      · subst e; exact Walks.strAscii (I.ok.hd hc) it x t
      · subst e; exact Walks.strWide (I.ok.hd hc) it x t
    refine W.item i s _ _ hg st.2 fun v h' tk hv st' kk => ?_
    obtain ⟨c, u, hcx, rfl⟩ := hv
    have I1 : Inv X pins σ H { s with heap := h', toks := tk } := I.turned (fun b o hb e => kk b o (by simpa using hb) e) f0 f1 f3 f4 f5
    obtain ⟨o, eo, co, d⟩ := id st'
    have hn : ["enumerate", "zip", "dict_itemiterator", "dict_reverseitemiterator", "odict_iterator", "itertools.zip_longest", "itertools.pairwise"].contains T = false := by
      rcases hT with e | e <;> subst e <;> decide
    exact ⟨_, rfl, go_of (s := { s with heap := h', toks := tk }) (n := T) eo co d hn ⟨.str ⟨#[c]⟩, H, I1, ⟨_, rfl⟩, ⟨rfl, c, hcx, rfl⟩, ⟨hg, st'⟩, fun b hb => (hf b hb).1⟩⟩
  done := by
    intro X hP hw hK hc i pins s σ H E I hf st hg
    subst hP hw hK
    obtain ⟨f0, f1, f2, f3, f4, f5⟩ := hf it (by simp)
    have W : Walks X.prog X.w X.A it [it] [it] x.cps.size (SignAt x) (fun i h => h.IsStrIter it T x t i) := by
      rcases hT with e | e
      · subst e; exact Walks.strAscii (I.ok.hd hc) it x t
      · subst e; exact Walks.strWide (I.ok.hd hc) it x t
    have ei : i = x.cps.size := Nat.le_antisymm st.1 hg
    subst ei
    exact W.done s _ _ st.2 fun h' tk kk => ⟨rfl, I.turned (fun b o hb e => kk b o (by simpa using hb) e) f0 f1 f3 f4 f5⟩
  self := fun A i s Q E st h => by
    rcases hT with e | e
    · subst e; exact wpAny_pyIter_striter_ascii st.2 h
    · subst e; exact wpAny_pyIter_striter_wide st.2 h
section
variable {X : Cx} {tg : Expr}
noncomputable def iStr (tl : TE) : TI := fun σ H R => tl σ H fun x H1 => ∃ z, x = .str z ∧ R (Its z) H1
theorem pi_str {l : Expr} {tl : TE} (hl : PE X l tl) : PI X tg l (iStr tl) := by
  intro pins s σ H R I h
  refine thn (hl pins s σ H _ I h) fun v s1 ⟨x, H1, I1, r1, q1⟩ => ?_
  obtain ⟨z, e, q⟩ := q1
  subst e
  obtain ⟨t, rfl⟩ := r1
  cases ha : z.cps.all (· < 128) with
  | true =>
    refine wpAny_pyIter_ascii ha ⟨s1.heap.objs.size, [s1.heap.objs.size], _, _, H1, rfl, I1.kept (t' := s1.toks) fun b o e => Heap.get?_push_of_some _ e, turn_str (.inl rfl) z t _, ⟨Nat.zero_le _, _, Heap.get?_push_size _ rfl, rfl, rfl⟩, fun b hb => ?_, q⟩
    have e : b = s1.heap.objs.size := by simpa using hb
    subst e
    exact I1.fpOk (Nat.le_refl _) (I1.hok.fresh (Nat.le_refl _))
  | false =>
    refine wpAny_pyIter_wide ha ⟨s1.heap.objs.size, [s1.heap.objs.size], _, _, H1, rfl, I1.kept (t' := s1.toks) fun b o e => Heap.get?_push_of_some _ e, turn_str (.inr rfl) z t _, ⟨Nat.zero_le _, _, Heap.get?_push_size _ rfl, rfl, rfl⟩, fun b hb => ?_, q⟩
    have e : b = s1.heap.objs.size := by simpa using hb
    subst e
    exact I1.fpOk (Nat.le_refl _) (I1.hok.fresh (Nat.le_refl _))
end
/-- a comprehension by its turns: n items, a word Pv of the turn, the items kept, the heap -/
noncomputable def cW (n : Nat) (Pv : Nat → List V → Hp → Prop) (i m : Nat) (xs : List V) (H : Hp) : Prop := m = n - i ∧ i ≤ n ∧ Pv i xs H
theorem cW.next {n : Nat} {Pv : Nat → List V → Hp → Prop} {i : Nat} {xs : List V} {H : Hp} (hi : i < n) (p : Pv (i + 1) xs H) : ∃ m', m' < n - i ∧ cW n Pv (i + 1) m' xs H := ⟨n - (i + 1), by omega, rfl, hi, p⟩
section
variable {fr : List Nat} {tc : TT} {te : TE} {σ : St} {H : Hp} {Q : VK}
/-- over a list that stays -/
theorem comp_list {K : PySem.W.Frag} {a : Addr} {ys : List V} (Pv : Nat → List V → Hp → Prop) (h0 : Pv 0 [] H) (hz : ∀ i xs H, Pv i xs H → xs.length ≤ 1000000) (hl : ∀ i xs H, Pv i xs H → SqL K H a ys)
    (hs : ∀ i y xs H, i < ys.length → ys[i]? = some y → Pv i xs H → tc (some y :: compSt fr σ) H fun b H2 => if b = true then te (some y :: compSt fr σ) H2 (fun z H3 => ∃ m', m' < ys.length - i ∧ cW ys.length Pv (i + 1) m' (xs ++ [z]) H3) else ∃ m', m' < ys.length - i ∧ cW ys.length Pv (i + 1) m' xs H2)
    (hd : ∀ xs H, Pv ys.length xs H → ∀ p, H p = none → Q (.ref p) (upd H p (.lst xs))) :
    ∃ W : Nat → Nat → List V → Hp → Prop, (∃ m, W 0 m [] H) ∧ ∀ i m xs H, W i m xs H → xs.length ≤ 1000000 ∧
      (((Itl K a).stop i H ∧ ∀ p, H p = none → Q (.ref p) (upd H p (.lst xs))) ∨
       ((Itl K a).go i H ∧ ∀ y H', (Itl K a).yld i H y H' → tc (some y :: compSt fr σ) H' fun b H2 => if b = true then te (some y :: compSt fr σ) H2 (fun z H3 => ∃ m', m' < m ∧ W (i + 1) m' (xs ++ [z]) H3) else ∃ m', m' < m ∧ W (i + 1) m' xs H2)) := by
  refine ⟨cW ys.length Pv, ⟨ys.length, by simp, Nat.zero_le _, h0⟩, ?_⟩
  rintro i m xs H ⟨rfl, hi, p⟩
  refine ⟨hz i xs H p, ?_⟩
  have q := hl i xs H p
  by_cases hlt : i < ys.length
  · refine .inr ⟨⟨ys, ys[i], q, by simp [hlt]⟩, fun y H' yy => ?_⟩
    obtain ⟨e, yy⟩ := yy
    subst e
    exact hs i y xs _ hlt (yy ys q) p
  · have e : i = ys.length := by omega
    subst e
    exact .inl ⟨⟨ys, q, Nat.le_refl _⟩, hd xs H p⟩
/-- over a text's signs -/
theorem comp_str {x : Str} (Pv : Nat → List V → Hp → Prop) (h0 : Pv 0 [] H) (hz : ∀ i xs H, Pv i xs H → xs.length ≤ 1000000)
    (hs : ∀ i c xs H, i < x.cps.size → x.cps[i]? = some c → Pv i xs H → tc (some (.str ⟨#[c]⟩) :: compSt fr σ) H fun b H2 => if b = true then te (some (.str ⟨#[c]⟩) :: compSt fr σ) H2 (fun z H3 => ∃ m', m' < x.cps.size - i ∧ cW x.cps.size Pv (i + 1) m' (xs ++ [z]) H3) else ∃ m', m' < x.cps.size - i ∧ cW x.cps.size Pv (i + 1) m' xs H2)
    (hd : ∀ xs H, Pv x.cps.size xs H → ∀ p, H p = none → Q (.ref p) (upd H p (.lst xs))) :
    ∃ W : Nat → Nat → List V → Hp → Prop, (∃ m, W 0 m [] H) ∧ ∀ i m xs H, W i m xs H → xs.length ≤ 1000000 ∧
      (((Its x).stop i H ∧ ∀ p, H p = none → Q (.ref p) (upd H p (.lst xs))) ∨
       ((Its x).go i H ∧ ∀ y H', (Its x).yld i H y H' → tc (some y :: compSt fr σ) H' fun b H2 => if b = true then te (some y :: compSt fr σ) H2 (fun z H3 => ∃ m', m' < m ∧ W (i + 1) m' (xs ++ [z]) H3) else ∃ m', m' < m ∧ W (i + 1) m' xs H2)) := by
  refine ⟨cW x.cps.size Pv, ⟨x.cps.size, by simp, Nat.zero_le _, h0⟩, ?_⟩
  rintro i m xs H ⟨rfl, hi, p⟩
  refine ⟨hz i xs H p, ?_⟩
  by_cases hlt : i < x.cps.size
  · refine .inr ⟨hlt, fun y H' yy => ?_⟩
    obtain ⟨e, c, hc, rfl⟩ := yy
    subst e
    exact hs i c xs _ hlt hc p
  · have e : i = x.cps.size := by omega
    subst e
    exact .inl ⟨Nat.le_refl _, hd xs H p⟩
/-- over a range -/
theorem comp_range {lo : Int} {n : Nat} (Pv : Nat → List V → Hp → Prop) (h0 : Pv 0 [] H) (hz : ∀ i xs H, Pv i xs H → xs.length ≤ 1000000)
    (hs : ∀ i xs H, i < n → Pv i xs H → tc (some (.int (lo + i)) :: compSt fr σ) H fun b H2 => if b = true then te (some (.int (lo + i)) :: compSt fr σ) H2 (fun z H3 => ∃ m', m' < n - i ∧ cW n Pv (i + 1) m' (xs ++ [z]) H3) else ∃ m', m' < n - i ∧ cW n Pv (i + 1) m' xs H2)
    (hd : ∀ xs H, Pv n xs H → ∀ p, H p = none → Q (.ref p) (upd H p (.lst xs))) :
    ∃ W : Nat → Nat → List V → Hp → Prop, (∃ m, W 0 m [] H) ∧ ∀ i m xs H, W i m xs H → xs.length ≤ 1000000 ∧
      (((Itr lo n).stop i H ∧ ∀ p, H p = none → Q (.ref p) (upd H p (.lst xs))) ∨
       ((Itr lo n).go i H ∧ ∀ y H', (Itr lo n).yld i H y H' → tc (some y :: compSt fr σ) H' fun b H2 => if b = true then te (some y :: compSt fr σ) H2 (fun z H3 => ∃ m', m' < m ∧ W (i + 1) m' (xs ++ [z]) H3) else ∃ m', m' < m ∧ W (i + 1) m' xs H2)) := by
  refine ⟨cW n Pv, ⟨n, by simp, Nat.zero_le _, h0⟩, ?_⟩
  rintro i m xs H ⟨rfl, hi, p⟩
  refine ⟨hz i xs H p, ?_⟩
  by_cases hlt : i < n
  · refine .inr ⟨hlt, fun y H' yy => ?_⟩
    obtain ⟨e, rfl⟩ := yy
    subst e
    exact hs i xs _ hlt p
  · have e : i = n := by omega
    subst e
    exact .inl ⟨Nat.le_refl _, hd xs H p⟩
end
section
variable {fr : List Nat} {tc : TT} {te : TE} {σ : St} {H H1 : Hp} {Q : VK}
end
end L2
namespace L2
open PySem PySem.Spec PyProof.Rows

/-! ### a comprehension's block that reads names of the frame -/
theorem mem_of_lookupS {l : List (Str × NameKind)} {y : Str} {k : NameKind} (h : l.lookup y = some k) : (y, k) ∈ l := PySem.mem_of_lookup h
theorem CompSc.free {X : Cx} {sc : Scope} {cl : List (Str × Addr)} {x : Str} {fr : List Nat} {N : List Str} (kind : sc.kind = .function) (nc : (sc.names.all fun y => y.2 != .cell) = true)
    (nm : (sc.names.all fun y => !(y.2 == .local) || sc.names.lookup y.1 == some .local) = true) (tgt : sc.names.lookup x = some .local) (clos : closureFor sc X.env = pure cl)
    (sub : ∀ y c, cl.lookup y = some c → X.env.cells.lookup y = some c) (has : ((relabel sc X.env).names.all fun y => (y.2 != .cell && y.2 != .free) || (cl.lookup y.1).isSome) = true)
    (nd : N.Nodup) (N0 : N = x :: fr.map fun j => X.N.getD j x) (frc : ∀ j ∈ fr, ∃ y, X.N[j]? = some y ∧ X.env.kindOf y = some .cell ∧ ((relabel sc X.env).names.lookup y = some .cell ∨ (relabel sc X.env).names.lookup y = some .free)) : CompSc X sc cl x fr N where
  kind := kind
  nocell := fun y hy e => by
    have h := List.all_eq_true.mp nc y hy
    rw [e] at h
    exact absurd h (by decide)
  names := fun y hy e => by
    have h := List.all_eq_true.mp nm y hy
    rw [e] at h
    simpa using h
  clos := clos
  sub := sub
  has := fun y h => by
    have key : ∀ k, (relabel sc X.env).names.lookup y = some k → (k = .cell ∨ k = .free) → ∃ c, cl.lookup y = some c := fun k e hk => by
      have h := List.all_eq_true.mp has (y, k) (mem_of_lookupS e)
      rcases hk with rfl | rfl
      · exact Option.isSome_iff_exists.mp (by simpa using h)
      · exact Option.isSome_iff_exists.mp (by simpa using h)
    rcases h with h | h
    · exact key _ h (.inl rfl)
    · exact key _ h (.inr rfl)
  tgt := tgt
  nd := nd
  N0 := N0
  frc := frc

section
variable {X : Cx} {sc : Scope} {cl : List (Str × Addr)} {x : Str} {fr : List Nat} {N : List Str} {elt iter : Expr} {px pos : Pos} {ifs : List Expr} {wi : TI} {tc : TT} {te : TE}
/-- y = [elt for x in iter ..] in one row -/
theorem ps_setComp {i : Nat} {y : Str} {py spos : Pos} (hc : X.calm = true) (hx : ∀ e s, ¬ X.xe e s) (S : CompSc X sc cl x fr N) (hi : PI X (.Name x px) iter wi)
    (hb : ∀ C s H ex pn, PTs (compCx X sc cl C N s H ex pn) ifs tc ∧ PE (compCx X sc cl C N s H ex pn) elt te)
    (hN : X.N.Nodup) (hy : X.N[i]? = some y) (hl : Loc X.env.scope y) (hsw : swapsWith (.ListComp elt [⟨.Name x px, iter, ifs, 0⟩] sc pos) (some (.Name y py)) spos.line X.env = pure true := by rfl)
    (hs : ∀ v, foldedSetIterable iter X.env v = pure v := by intro _; rfl) (hf : X.fn y = true ∨ X.env.scope.names.lookup y = some .local := by first | exact .inl rfl | exact .inr rfl | assumption) :
    PS X (.Assign [.Name y py] (.ListComp elt [⟨.Name x px, iter, ifs, 0⟩] sc pos) spos) (tAsg (tComp wi fr tc te) (gName i)) := by
  intro pins s σ H D I h
  have h : tComp wi fr tc te σ H (fun x H1 => gName i x σ H1 D.nx) := h
  unfold tComp at h
  rw [exec_Assign_Name_used _ _ _ _ hsw]
  refine wpAny_bind (wpAny_standAt (wpAny_bind ?_))
  show wpAny _ X.A (do let _ ← comprehension (.ListComp elt [⟨.Name x px, iter, ifs, 0⟩] sc pos) sc X.env _ (newList []) false (eval iter X.env) (some (assign (.Name y py) X.env))) _ _ s
  refine wpAny_bind (wpAny_mono (wpAny_comprehension_free (use := some (assign (.Name y py) X.env)) (Q := fun _ s' => SP X pins D .next s') rfl hs S.clos S.kind S.names
    (thn (hi pins s σ H _ I h) fun v s1 h1 => thn h1 fun itv s2 h2 => ?_)) (fun _ s' hq => wpAny_pure (wpAny_pure hq)) fun _ _ e => e)
  obtain ⟨it, fp, tn, J, H2, e, I2, T, st2, f2, W, ⟨m0, w0⟩, turn⟩ := h2
  subst e
  refine comp_block (Q := fun x H1 => gName i x σ H1 D.nx) (RR := fun acc C => compPost (model X.prog X.w) X.A X.xe (some (assign (.Name y py) X.env)) (fun _ s' => SP X pins D .next s') acc C) hc hx S hb I2 T st2 f2 w0 turn ?_
  intro D' C s' m' H' hn fC hfin q
  show wpAny _ X.A (assign (.Name y py) X.env (.ref D')) _ _ _
  have I' : Inv X pins σ H' s' := hfin s'.heap (Heap.SameBut.refl ..)
  refine wpAny_assign_Name (store_ok2 (v := .ref D') I' hN hy hl rfl (fun s'' I'' ⟨a, hsa, ha⟩ => ?_) hf)
  obtain ⟨f0, f1, f2', f3, f4, f5⟩ := fC
  have hCa : C ≠ a := fun z => by
    rcases ha with ha | ha
    · exact f1 (z.trans ha)
    · exact f4 y a ha z.symm
  refine ⟨m', hn.sameBut hsa hCa, fun h' hs' => ?_⟩
  exact ⟨σ.set i (some (.ref D')), H', I''.turned (t' := s''.toks) (fun b o hb' e => (hs'.2 b hb').trans e) f0 f1 f3 f4 f5, q⟩
end

/-! ### d.get(None) of a dict whose keys are ints and texts -/
section
variable {prog : Program} {w : World} {A : Around} {E : Value → Shared → Prop} {s : Shared}
end
end L2
namespace L2
open PySem PySem.Spec PyProof.Rows
/-! ### readings as rewriting rules -/
section
variable {σ : St} {H : Hp} {Q : VK} {i j : Int} {x y : Str} {v : V} {n : Nat} {a : Addr}
theorem w_v0s : tVar 0 (some v :: σ) H Q = Q v H := by simp [tVar]
theorem w_vS {o : Option V} : tVar (n + 1) (o :: σ) H Q = tVar n σ H Q := by simp [tVar]
theorem w_v1 {o0 : Option V} : tVar 1 (o0 :: some v :: σ) H Q = Q v H := (w_vS.trans w_v0s)
theorem w_v2 {o0 o1 : Option V} : tVar 2 (o0 :: o1 :: some v :: σ) H Q = Q v H := (w_vS.trans w_v1)
theorem w_v3 {o0 o1 o2 : Option V} : tVar 3 (o0 :: o1 :: o2 :: some v :: σ) H Q = Q v H := (w_vS.trans w_v2)
theorem w_v4 {o0 o1 o2 o3 : Option V} : tVar 4 (o0 :: o1 :: o2 :: o3 :: some v :: σ) H Q = Q v H := (w_vS.trans w_v3)
theorem w_v5 {o0 o1 o2 o3 o4 : Option V} : tVar 5 (o0 :: o1 :: o2 :: o3 :: o4 :: some v :: σ) H Q = Q v H := (w_vS.trans w_v4)
theorem w_v6 {o0 o1 o2 o3 o4 o5 : Option V} : tVar 6 (o0 :: o1 :: o2 :: o3 :: o4 :: o5 :: some v :: σ) H Q = Q v H := (w_vS.trans w_v5)
theorem w_v7 {o0 o1 o2 o3 o4 o5 o6 : Option V} : tVar 7 (o0 :: o1 :: o2 :: o3 :: o4 :: o5 :: o6 :: some v :: σ) H Q = Q v H := (w_vS.trans w_v6)
theorem w_v8 {o0 o1 o2 o3 o4 o5 o6 o7 : Option V} : tVar 8 (o0 :: o1 :: o2 :: o3 :: o4 :: o5 :: o6 :: o7 :: some v :: σ) H Q = Q v H := (w_vS.trans w_v7)
theorem w_v9 {o0 o1 o2 o3 o4 o5 o6 o7 o8 : Option V} : tVar 9 (o0 :: o1 :: o2 :: o3 :: o4 :: o5 :: o6 :: o7 :: o8 :: some v :: σ) H Q = Q v H := (w_vS.trans w_v8)
theorem w_v10 {o0 o1 o2 o3 o4 o5 o6 o7 o8 o9 : Option V} : tVar 10 (o0 :: o1 :: o2 :: o3 :: o4 :: o5 :: o6 :: o7 :: o8 :: o9 :: some v :: σ) H Q = Q v H := (w_vS.trans w_v9)
theorem w_v11 {o0 o1 o2 o3 o4 o5 o6 o7 o8 o9 o10 : Option V} : tVar 11 (o0 :: o1 :: o2 :: o3 :: o4 :: o5 :: o6 :: o7 :: o8 :: o9 :: o10 :: some v :: σ) H Q = Q v H := (w_vS.trans w_v10)
theorem w_v12 {o0 o1 o2 o3 o4 o5 o6 o7 o8 o9 o10 o11 : Option V} : tVar 12 (o0 :: o1 :: o2 :: o3 :: o4 :: o5 :: o6 :: o7 :: o8 :: o9 :: o10 :: o11 :: some v :: σ) H Q = Q v H := (w_vS.trans w_v11)
theorem w_v13 {o0 o1 o2 o3 o4 o5 o6 o7 o8 o9 o10 o11 o12 : Option V} : tVar 13 (o0 :: o1 :: o2 :: o3 :: o4 :: o5 :: o6 :: o7 :: o8 :: o9 :: o10 :: o11 :: o12 :: some v :: σ) H Q = Q v H := (w_vS.trans w_v12)
theorem w_v14 {o0 o1 o2 o3 o4 o5 o6 o7 o8 o9 o10 o11 o12 o13 : Option V} : tVar 14 (o0 :: o1 :: o2 :: o3 :: o4 :: o5 :: o6 :: o7 :: o8 :: o9 :: o10 :: o11 :: o12 :: o13 :: some v :: σ) H Q = Q v H := (w_vS.trans w_v13)
theorem w_v15 {o0 o1 o2 o3 o4 o5 o6 o7 o8 o9 o10 o11 o12 o13 o14 : Option V} : tVar 15 (o0 :: o1 :: o2 :: o3 :: o4 :: o5 :: o6 :: o7 :: o8 :: o9 :: o10 :: o11 :: o12 :: o13 :: o14 :: some v :: σ) H Q = Q v H := (w_vS.trans w_v14)
theorem w_v16 {o0 o1 o2 o3 o4 o5 o6 o7 o8 o9 o10 o11 o12 o13 o14 o15 : Option V} : tVar 16 (o0 :: o1 :: o2 :: o3 :: o4 :: o5 :: o6 :: o7 :: o8 :: o9 :: o10 :: o11 :: o12 :: o13 :: o14 :: o15 :: some v :: σ) H Q = Q v H := (w_vS.trans w_v15)
theorem w_v17 {o0 o1 o2 o3 o4 o5 o6 o7 o8 o9 o10 o11 o12 o13 o14 o15 o16 : Option V} : tVar 17 (o0 :: o1 :: o2 :: o3 :: o4 :: o5 :: o6 :: o7 :: o8 :: o9 :: o10 :: o11 :: o12 :: o13 :: o14 :: o15 :: o16 :: some v :: σ) H Q = Q v H := (w_vS.trans w_v16)
theorem w_v18 {o0 o1 o2 o3 o4 o5 o6 o7 o8 o9 o10 o11 o12 o13 o14 o15 o16 o17 : Option V} : tVar 18 (o0 :: o1 :: o2 :: o3 :: o4 :: o5 :: o6 :: o7 :: o8 :: o9 :: o10 :: o11 :: o12 :: o13 :: o14 :: o15 :: o16 :: o17 :: some v :: σ) H Q = Q v H := (w_vS.trans w_v17)
theorem w_v19 {o0 o1 o2 o3 o4 o5 o6 o7 o8 o9 o10 o11 o12 o13 o14 o15 o16 o17 o18 : Option V} : tVar 19 (o0 :: o1 :: o2 :: o3 :: o4 :: o5 :: o6 :: o7 :: o8 :: o9 :: o10 :: o11 :: o12 :: o13 :: o14 :: o15 :: o16 :: o17 :: o18 :: some v :: σ) H Q = Q v H := (w_vS.trans w_v18)
theorem w_v20 {o0 o1 o2 o3 o4 o5 o6 o7 o8 o9 o10 o11 o12 o13 o14 o15 o16 o17 o18 o19 : Option V} : tVar 20 (o0 :: o1 :: o2 :: o3 :: o4 :: o5 :: o6 :: o7 :: o8 :: o9 :: o10 :: o11 :: o12 :: o13 :: o14 :: o15 :: o16 :: o17 :: o18 :: o19 :: some v :: σ) H Q = Q v H := (w_vS.trans w_v19)
theorem w_v21 {o0 o1 o2 o3 o4 o5 o6 o7 o8 o9 o10 o11 o12 o13 o14 o15 o16 o17 o18 o19 o20 : Option V} : tVar 21 (o0 :: o1 :: o2 :: o3 :: o4 :: o5 :: o6 :: o7 :: o8 :: o9 :: o10 :: o11 :: o12 :: o13 :: o14 :: o15 :: o16 :: o17 :: o18 :: o19 :: o20 :: some v :: σ) H Q = Q v H := (w_vS.trans w_v20)
theorem w_v22 {o0 o1 o2 o3 o4 o5 o6 o7 o8 o9 o10 o11 o12 o13 o14 o15 o16 o17 o18 o19 o20 o21 : Option V} : tVar 22 (o0 :: o1 :: o2 :: o3 :: o4 :: o5 :: o6 :: o7 :: o8 :: o9 :: o10 :: o11 :: o12 :: o13 :: o14 :: o15 :: o16 :: o17 :: o18 :: o19 :: o20 :: o21 :: some v :: σ) H Q = Q v H := (w_vS.trans w_v21)
theorem w_v23 {o0 o1 o2 o3 o4 o5 o6 o7 o8 o9 o10 o11 o12 o13 o14 o15 o16 o17 o18 o19 o20 o21 o22 : Option V} : tVar 23 (o0 :: o1 :: o2 :: o3 :: o4 :: o5 :: o6 :: o7 :: o8 :: o9 :: o10 :: o11 :: o12 :: o13 :: o14 :: o15 :: o16 :: o17 :: o18 :: o19 :: o20 :: o21 :: o22 :: some v :: σ) H Q = Q v H := (w_vS.trans w_v22)
theorem w_v24 {o0 o1 o2 o3 o4 o5 o6 o7 o8 o9 o10 o11 o12 o13 o14 o15 o16 o17 o18 o19 o20 o21 o22 o23 : Option V} : tVar 24 (o0 :: o1 :: o2 :: o3 :: o4 :: o5 :: o6 :: o7 :: o8 :: o9 :: o10 :: o11 :: o12 :: o13 :: o14 :: o15 :: o16 :: o17 :: o18 :: o19 :: o20 :: o21 :: o22 :: o23 :: some v :: σ) H Q = Q v H := (w_vS.trans w_v23)
theorem w_v25 {o0 o1 o2 o3 o4 o5 o6 o7 o8 o9 o10 o11 o12 o13 o14 o15 o16 o17 o18 o19 o20 o21 o22 o23 o24 : Option V} : tVar 25 (o0 :: o1 :: o2 :: o3 :: o4 :: o5 :: o6 :: o7 :: o8 :: o9 :: o10 :: o11 :: o12 :: o13 :: o14 :: o15 :: o16 :: o17 :: o18 :: o19 :: o20 :: o21 :: o22 :: o23 :: o24 :: some v :: σ) H Q = Q v H := (w_vS.trans w_v24)
theorem w_v26 {o0 o1 o2 o3 o4 o5 o6 o7 o8 o9 o10 o11 o12 o13 o14 o15 o16 o17 o18 o19 o20 o21 o22 o23 o24 o25 : Option V} : tVar 26 (o0 :: o1 :: o2 :: o3 :: o4 :: o5 :: o6 :: o7 :: o8 :: o9 :: o10 :: o11 :: o12 :: o13 :: o14 :: o15 :: o16 :: o17 :: o18 :: o19 :: o20 :: o21 :: o22 :: o23 :: o24 :: o25 :: some v :: σ) H Q = Q v H := (w_vS.trans w_v25)
theorem w_v27 {o0 o1 o2 o3 o4 o5 o6 o7 o8 o9 o10 o11 o12 o13 o14 o15 o16 o17 o18 o19 o20 o21 o22 o23 o24 o25 o26 : Option V} : tVar 27 (o0 :: o1 :: o2 :: o3 :: o4 :: o5 :: o6 :: o7 :: o8 :: o9 :: o10 :: o11 :: o12 :: o13 :: o14 :: o15 :: o16 :: o17 :: o18 :: o19 :: o20 :: o21 :: o22 :: o23 :: o24 :: o25 :: o26 :: some v :: σ) H Q = Q v H := (w_vS.trans w_v26)
theorem w_v28 {o0 o1 o2 o3 o4 o5 o6 o7 o8 o9 o10 o11 o12 o13 o14 o15 o16 o17 o18 o19 o20 o21 o22 o23 o24 o25 o26 o27 : Option V} : tVar 28 (o0 :: o1 :: o2 :: o3 :: o4 :: o5 :: o6 :: o7 :: o8 :: o9 :: o10 :: o11 :: o12 :: o13 :: o14 :: o15 :: o16 :: o17 :: o18 :: o19 :: o20 :: o21 :: o22 :: o23 :: o24 :: o25 :: o26 :: o27 :: some v :: σ) H Q = Q v H := (w_vS.trans w_v27)
theorem w_v29 {o0 o1 o2 o3 o4 o5 o6 o7 o8 o9 o10 o11 o12 o13 o14 o15 o16 o17 o18 o19 o20 o21 o22 o23 o24 o25 o26 o27 o28 : Option V} : tVar 29 (o0 :: o1 :: o2 :: o3 :: o4 :: o5 :: o6 :: o7 :: o8 :: o9 :: o10 :: o11 :: o12 :: o13 :: o14 :: o15 :: o16 :: o17 :: o18 :: o19 :: o20 :: o21 :: o22 :: o23 :: o24 :: o25 :: o26 :: o27 :: o28 :: some v :: σ) H Q = Q v H := (w_vS.trans w_v28)
theorem w_v30 {o0 o1 o2 o3 o4 o5 o6 o7 o8 o9 o10 o11 o12 o13 o14 o15 o16 o17 o18 o19 o20 o21 o22 o23 o24 o25 o26 o27 o28 o29 : Option V} : tVar 30 (o0 :: o1 :: o2 :: o3 :: o4 :: o5 :: o6 :: o7 :: o8 :: o9 :: o10 :: o11 :: o12 :: o13 :: o14 :: o15 :: o16 :: o17 :: o18 :: o19 :: o20 :: o21 :: o22 :: o23 :: o24 :: o25 :: o26 :: o27 :: o28 :: o29 :: some v :: σ) H Q = Q v H := (w_vS.trans w_v29)
theorem m_cons {α β : Type} {f : α → β} {a : α} {l : List α} : List.map f (a :: l) = f a :: List.map f l := rfl
theorem m_nil {α β : Type} {f : α → β} : List.map f [] = [] := rfl
theorem w_rI {C : Int → Int → Prop} {g : Int → Int → V} : rI C g (.int i) (.int j) H Q = (C i j ∧ Q (g i j) H) := by simp [rI]
theorem w_rI0 {g : Int → Int → V} : rI0 g (.int i) (.int j) H Q = Q (g i j) H := by simp [rI0]
theorem w_rU {g : Int → V} : rU g (.int i) H Q = Q (g i) H := by simp [rU]
theorem w_lit (h : Nat.ble n 1000 = true) : (n ≤ sizeLine) = True := eq_true (Nat.le_of_lt (small1000 (Nat.le_of_ble_eq_true h)))
theorem w_eqI : rEq (.int i) (.int j) H Q = Q (.bl (decide (i = j))) H := by simp only [rEq, show scal (.int i) (.int j) = true from rfl, V.int.injEq, true_and]
theorem w_eqS : rEq (.str x) (.str y) H Q = Q (.bl (decide (x = y))) H := by simp only [rEq, show scal (.str x) (.str y) = true from rfl, V.str.injEq, true_and]
theorem w_neI : rNe (.int i) (.int j) H Q = Q (.bl (!decide (i = j))) H := by simp only [rNe, show scal (.int i) (.int j) = true from rfl, V.int.injEq, true_and]
theorem w_neS : rNe (.str x) (.str y) H Q = Q (.bl (!decide (x = y))) H := by simp only [rNe, show scal (.str x) (.str y) = true from rfl, V.str.injEq, true_and]
end
theorem w_sinj {a b : String} : (Str.ofString a = Str.ofString b) = (a = b) := by
  refine propext ⟨fun h => ?_, fun h => by rw [h]⟩
  rw [Str.ofString_eq_toList, Str.ofString_eq_toList] at h
  have e : (a.toList.map Char.toNat) = (b.toList.map Char.toNat) := by
    have := congrArg (fun z : Str => z.cps.toList) h
    simpa using this
  have inj : ∀ x y : Char, x.toNat = y.toNat → x = y := fun x y q => Char.ext (UInt32.toNat_inj.mp q)
  have := (List.map_inj_right (f := Char.toNat) (fun x y q => inj x y q)).mp e
  exact String.toList_inj.mp this
/-- what stood, but at the places of S, stands -/
noncomputable def Kp (S : List Addr) (H H' : Hp) : Prop := ∀ b o, H b = some o → b ∉ S → H' b = some o
section
variable {S T : List Addr} {H H1 H2 : Hp} {a p : Addr} {o : HO}
theorem Kp.refl : Kp S H H := fun _ _ h _ => h
theorem Kp.trans (x : Kp S H H1) (y : Kp S H1 H2) : Kp S H H2 := fun b o h n => y b o (x b o h n) n
theorem Kp.mono (x : Kp S H H1) (h : ∀ b ∈ S, b ∈ T) : Kp T H H1 := fun b o e n => x b o e fun z => n (h b z)
theorem Kp.new (h : H p = none) : Kp S H (upd H p o) := fun b u e _ => by rw [upd_ne (ne_of_none e h)]; exact e
theorem Kp.set (h : p ∈ S) : Kp S H (upd H p o) := fun b u e n => by rw [upd_ne (show b ≠ p from fun z => n (by rw [z]; exact h))]; exact e
theorem Kp.at (x : Kp S H H1) (e : H a = some o) (n : a ∉ S := by first | exact List.not_mem_nil | simp_all) : H1 a = some o := x a o e n
theorem Kp.same (x : Kp [] H H1) : Same H H1 := fun b o e => x b o e (by simp)
theorem Kp.of (x : Same H H1) : Kp S H H1 := fun b o e _ => x b o e
/-- an object made on the way that is dropped again -/
theorem Kp.drop (x : Kp (p :: S) H H1) (h : H p = none) : Kp S H H1 := fun b o e n => x b o e (by
  simp only [List.mem_cons, not_or]
  exact ⟨ne_of_none e h, n⟩)
end
end L2
namespace L2
open PySem PySem.Spec PyProof.Rows
/-! ### readings that look the heap up: one for all kinds of values -/
noncomputable abbrev Tg {α : Type} (_ : α) : Type := Unit
noncomputable def onO {α : Type} (o : Option α) (k : α → Prop) (_u : Tg k := ()) : Prop := match o with
  | some x => k x
  | none => False
noncomputable def onB (x : V) (k : Bool → Prop) (_u : Tg k := ()) : Prop := match x with
  | .bl b => k b
  | _ => False
/-- a list; a tuple or list; a dict stands there -/
noncomputable def onLst (o : Option HO) (k : List V → Prop) (_u : Tg k := ()) : Prop := match o with
  | some (.lst xs) => k xs
  | _ => False
noncomputable def onSeq (o : Option HO) (k : List V → Prop) (_u : Tg k := ()) : Prop := match o with
  | some (.lst xs) => k xs
  | some (.tup xs) => k xs
  | _ => False
noncomputable def onDct (o : Option HO) (k : List (Key × V) → Prop) (_u : Tg k := ()) : Prop := match o with
  | some (.dK xs) => k xs
  | _ => False
noncomputable def onRef (x : V) (k : Addr → Prop) (_u : Tg k := ()) : Prop := match x with
  | .ref p => k p
  | _ => False
noncomputable def onInt (x : V) (k : Int → Prop) (_u : Tg k := ()) : Prop := match x with
  | .int i => k i
  | _ => False
theorem onO_of {α : Type} {o : Option α} {k : α → Prop} (h : onO o k) : ∃ x, o = some x ∧ k x := by
  cases o with
  | none => exact h.elim
  | some x => exact ⟨x, rfl, h⟩
theorem onB_of {x : V} {k : Bool → Prop} (h : onB x k) : ∃ b, x = .bl b ∧ k b := by
  cases x with
  | bl b => exact ⟨b, rfl, h⟩
  | _ => exact h.elim
theorem onB_eq {x : V} {k : Bool → Prop} : (∃ b, x = .bl b ∧ k b) = onB x k := by
  refine propext ⟨fun ⟨b, e, h⟩ => by subst e; exact h, onB_of⟩
theorem onRef_of {x : V} {k : Addr → Prop} (h : onRef x k) : ∃ b, x = .ref b ∧ k b := by
  cases x with
  | ref b => exact ⟨b, rfl, h⟩
  | _ => exact h.elim
theorem onInt_of {x : V} {k : Int → Prop} (h : onInt x k) : ∃ b, x = .int b ∧ k b := by
  cases x with
  | int b => exact ⟨b, rfl, h⟩
  | _ => exact h.elim
theorem onLst_of {o : Option HO} {k : List V → Prop} (h : onLst o k) : ∃ xs, o = some (.lst xs) ∧ k xs := by
  unfold onLst at h
  split at h
  · exact ⟨_, rfl, h⟩
  · exact h.elim
theorem onSeq_of {o : Option HO} {k : List V → Prop} (h : onSeq o k) : ∃ xs, (o = some (.lst xs) ∨ o = some (.tup xs)) ∧ k xs := by
  unfold onSeq at h
  split at h
  · exact ⟨_, .inl rfl, h⟩
  · exact ⟨_, .inr rfl, h⟩
  · exact h.elim
theorem onDct_of {o : Option HO} {k : List (Key × V) → Prop} (h : onDct o k) : ∃ xs, o = some (.dK xs) ∧ k xs := by
  unfold onDct at h
  split at h
  · exact ⟨_, rfl, h⟩
  · exact h.elim
noncomputable def cIx : R2 := fun x y H Q => match x with
  | .ref p => onSeq (H p) fun xs => onInt y fun i => onO (atI xs i) fun v => Q v H
  | .str z => onInt y fun i => z.length ≤ sizeLine ∧ onO (atI z.cps.toList i) fun c => Q (.str ⟨#[c]⟩) H
  | _ => False
noncomputable def cCat (H : Hp) (Q : VK) (a : Addr) (oa ob : Option HO) : Prop := match oa, ob with
  | some (.lst xs), some (.lst ys) => xs.length + ys.length ≤ sizeLine ∧ ∀ p, H p = none → Q (.ref p) (upd H p (.lst (xs ++ ys)))
  | some (.tup xs), some (.tup ys) => xs ≠ [] ∧ xs.length + ys.length ≤ sizeLine ∧ (ys ≠ [] → ∀ p, H p = none → Q (.ref p) (upd H p (.tup (xs ++ ys)))) ∧ (ys = [] → Q (.ref a) H)
  | _, _ => False
noncomputable def cAdd : R2 := fun x y H Q => match x, y with
  | .int i, .int j => Q (.int (i + j)) H
  | .str a, .str b => a.length + b.length ≤ sizeLine ∧ Q (.str (a ++ b)) H
  | .ref a, .ref b => cCat H Q a (H a) (H b)
  | _, _ => False
noncomputable def cCut (lo hi : Option Int) (H : Hp) (Q : VK) (o : Option HO) : Prop := match o with
  | some (.lst xs) => ∀ p, H p = none → Q (.ref p) (upd H p (.lst (cutV xs lo hi)))
  | some (.tup xs) => ¬ (HT.sIx xs.length 0 lo = 0 ∧ HT.sIx xs.length xs.length hi = xs.length) ∧ ∀ p, H p = none → Q (.ref p) (upd H p (.tup (cutV xs lo hi)))
  | _ => False
noncomputable def cSl : V → Option Int → Option Int → Hp → VK → Prop := fun x lo hi H Q => match x with
  | .str z => z.length ≤ sizeLine ∧ Q (.str (Txt.slice z lo hi)) H
  | .ref a => cCut lo hi H Q (H a)
  | _ => False
noncomputable def cLen : List V → Hp → VK → Prop := fun vs H Q => match vs with
  | [.str z] => z.length ≤ sizeLine ∧ Q (.int z.length) H
  | [.ref p] => onSeq (H p) fun xs => Q (.int xs.length) H
  | _ => False
noncomputable def cSet : V → V → V → Hp → (Hp → Prop) → Prop := fun o i v H Q => onRef o fun p => onInt i fun k => onLst (H p) fun xs => onO (ixN xs.length k) fun j => Q (upd H p (.lst (xs.set j v)))
/-- a key as it is written -/
noncomputable def keyO : V → Option Key
  | .int i => some (.inl i)
  | .str x => some (.inr x)
  | .non => some .no
  | _ => none
theorem keyO_kV {y : V} {k : Key} (h : keyO y = some k) : y = kV k := by
  cases y <;> simp only [keyO, Option.some.injEq, reduceCtorEq] at h <;> subst h <;> rfl
noncomputable def cGet1 (td ty : TE) : TE := fun σ H Q => td σ H fun x H1 => onRef x fun a => onDct (H1 a) fun _ => ty σ H1 fun y H2 => onDct (H2 a) fun kvs => onO (keyO y) fun k => Q ((valV kvs k).getD .non) H2
noncomputable def cGet (td ty : TE) : TE := fun σ H Q => td σ H fun x H1 => ty σ H1 fun y H2 => onRef x fun a => onDct (H2 a) fun kvs => onO (keyO y) fun k => onO (valV kvs k) fun v => Q v H2
noncomputable def cPut (td ty tv : TE) : TS := fun D σ H => tv σ H fun v H1 => td σ H1 fun x H2 => ty σ H2 fun y H3 => onRef x fun a => onDct (H3 a) fun kvs => onO (keyO y) fun k => kvs.length < sizeLine ∧ D.nx σ (upd H3 a (.dK (putK kvs k v)))
noncomputable def cIn (neg : Bool) : R2 := fun x y H Q => onRef y fun p => onSeq (H p) fun xs => flatV x = true ∧ xs.all flatV = true ∧ Q (.bl (if neg = true then !inV x xs else inV x xs)) H
noncomputable def cInt : List V → Hp → VK → Prop := fun vs H Q => match vs with
  | [.int i] => Q (.int i) H
  | [.bl k] => Q (.int (if k = true then 1 else 0)) H
  | _ => False
noncomputable def cIsN : R2 := fun x y H Q => match y with
  | .non => Q (.bl (decide (x = .non))) H
  | _ => False
noncomputable def cNotN : R2 := fun x y H Q => match y with
  | .non => Q (.bl (!decide (x = .non))) H
  | _ => False
noncomputable def cMax : List V → Hp → VK → Prop := fun vs H Q => match vs with
  | [.int i, .int j] => Q (.int (if j > i then j else i)) H
  | _ => False
noncomputable def cMin : List V → Hp → VK → Prop := fun vs H Q => match vs with
  | [.int i, .int j] => Q (.int (if j < i then j else i)) H
  | _ => False
noncomputable def cAbs : List V → Hp → VK → Prop := fun vs H Q => match vs with
  | [.int i] => Q (.int (if i < 0 then -i else i)) H
  | _ => False
/-- isinstance: of a flat value; of what stands in the heap -/
noncomputable def kSc (v : V) (T : String) : Option Bool := match v with
  | .int _ => if T = "int" then some true else if T = "bool" ∨ T = "str" ∨ T = "tuple" then some false else none
  | .bl _ => if T = "int" ∨ T = "bool" then some true else if T = "str" ∨ T = "tuple" then some false else none
  | .str _ => if T = "str" then some true else if T = "int" ∨ T = "bool" ∨ T = "tuple" then some false else none
  | .non => if T = "int" ∨ T = "bool" ∨ T = "str" ∨ T = "tuple" then some false else none
  | _ => none
noncomputable def kRef (o : Option HO) (T : String) : Option Bool := match o with
  | some (.lst _) => if T = "int" ∨ T = "bool" ∨ T = "str" ∨ T = "tuple" then some false else none
  | some (.tup _) => if T = "tuple" then some true else if T = "int" ∨ T = "bool" ∨ T = "str" then some false else none
  | some (.dK _) => if T = "int" ∨ T = "bool" ∨ T = "str" then some false else none
  | _ => none
noncomputable def cIsi : List V → Hp → VK → Prop := fun vs H Q => match vs with
  | [.ref p, .ty T] => onO (kRef (H p) T) fun b => Q (.bl b) H
  | [v, .ty T] => onO (kSc v T) fun b => Q (.bl b) H
  | _ => False
theorem kSc_of {K : PySem.W.Frag} {H : Hp} {v : V} {T : String} {b : Bool} (h : kSc v T = some b) : IsI K H v T b := by
  unfold kSc at h
  split at h
  all_goals (repeat' split at h)
  all_goals first
    | cases h
    | skip
  all_goals first
    | (subst_vars; constructor)
    | (rename_i q; rcases q with rfl | rfl <;> constructor)
    | (rename_i q _; rcases q with rfl | rfl <;> constructor)
    | (rename_i q; rcases q with rfl | rfl | rfl <;> constructor)
    | (rename_i q; rcases q with rfl | rfl | rfl | rfl <;> constructor)
theorem kRef_of {K : PySem.W.Frag} {H : Hp} {p : Addr} {T : String} {b : Bool} (h : kRef (H p) T = some b) : IsI K H (.ref p) T b := by
  unfold kRef at h
  split at h
  · rename_i xs e
    have q : SqL K H p xs := .inl (.inl e)
    split at h
    · cases h
      rename_i z
      rcases z with rfl | rfl | rfl | rfl
      · exact .li q
      · exact .lb q
      · exact .ls q
      · exact .lt q
    · cases h
  · rename_i xs e
    have q : SqT K H p xs := .inl (.inl e)
    split at h
    · cases h
      subst_vars
      exact .tt q
    · split at h
      · cases h
        rename_i z
        rcases z with rfl | rfl | rfl
        · exact .ti q
        · exact .tb q
        · exact .ts q
      · cases h
  · rename_i kvs e
    split at h
    · cases h
      rename_i z
      rcases z with rfl | rfl | rfl
      · exact .di e
      · exact .db e
      · exact .ds e
    · cases h
  · cases h
/-- xs.append(e), xs.pop() -/
noncomputable def cApp (to te : TE) : TE := fun σ H Q => to σ H fun x H1 => onRef x fun a => onLst (H1 a) fun _ => te σ H1 fun y H2 => onLst (H2 a) fun xs => xs.length < sizeLine ∧ Q .non (upd H2 a (.lst (xs ++ [y])))
noncomputable def cPop (to : TE) : TE := fun σ H Q => to σ H fun x H1 => onRef x fun a => onLst (H1 a) fun xs => onO (xs[xs.length - 1]?) fun y => Q y (upd H1 a (.lst xs.dropLast))
section
variable {X : Cx}
theorem IxR.imp {r r' : R2} (h : IxR X r) (f : ∀ x y H Q, r' x y H Q → r x y H Q) : IxR X r' := fun value slice pins s σ H x y v u Q I rx ry q => h value slice pins s σ H x y v u Q I rx ry (f _ _ _ _ q)
theorem OpR.imp {f : Value → Value → Sem Value} {r r' : R2} (h : OpR X f r) (g : ∀ x y H Q, r' x y H Q → r x y H Q) : OpR X f r' := fun pins s σ H x y v u Q I rx ry q => h pins s σ H x y v u Q I rx ry (g _ _ _ _ q)
theorem ix_c : IxR X cIx := ix_seq.imp fun x y H Q h => by
  cases x with
  | ref p =>
    obtain ⟨xs, e, h⟩ := onSeq_of h
    obtain ⟨i, rfl, h⟩ := onInt_of h
    obtain ⟨v, e2, h⟩ := onO_of h
    rcases e with e | e
    · exact .inl ⟨_, _, _, _, rfl, rfl, .inl (.inl e), e2, h⟩
    · exact .inr (.inl ⟨_, _, _, _, rfl, rfl, .inl (.inl e), e2, h⟩)
  | str z =>
    obtain ⟨i, rfl, h1, h⟩ := onInt_of h
    obtain ⟨v, e2, h⟩ := onO_of h
    exact .inr (.inr ⟨_, _, _, rfl, rfl, h1, e2, h⟩)
  | _ => exact h.elim
theorem op_addC : OpR X (binaryOp .Add) cAdd := (op_add.or (op_add_str.or (op_cat.or op_catT))).imp fun x y H Q h => by
  unfold cAdd cCat at h
  split at h
  · exact .inl ⟨_, _, rfl, rfl, h⟩
  · exact .inr (.inl ⟨_, _, rfl, rfl, h.1, h.2⟩)
  · split at h
    · exact .inr (.inr (.inl ⟨_, _, _, _, rfl, rfl, ‹_›, ‹_›, h.1, h.2⟩))
    · exact .inr (.inr (.inr ⟨_, _, _, _, rfl, rfl, .inl (.inl ‹_›), .inl (.inl ‹_›), h.1, h.2.1, h.2.2.2, h.2.2.1⟩))
    · exact h.elim
  · exact h.elim
theorem sl_c : SlR X cSl := fun pins s σ H x v vl vu lo hi sl Q I rx hs pl pu h => by
  refine (sl_list.or (sl_tup.or sl_str)) pins s σ H x v vl vu lo hi sl Q I rx hs pl pu ?_
  unfold cSl cCut at h
  split at h
  · exact .inr (.inr ⟨_, rfl, h.1, h.2⟩)
  · split at h
    · exact .inl ⟨_, _, rfl, .inl (.inl ‹_›), h⟩
    · exact .inr (.inl ⟨_, _, rfl, .inl (.inl ‹_›), h.1, h.2⟩)
    · exact h.elim
  · exact h.elim
theorem call_lenC : CallR X (.builtin "len") cLen := fun pins s σ H xs us Q I r h => by
  unfold cLen at h
  split at h
  · exact call_len pins s σ H _ us Q I r ⟨_, _, rfl, ⟨h.1, rfl⟩, h.2⟩
  · obtain ⟨ys, e, h⟩ := onSeq_of h
    rcases e with e | e
    · exact call_len pins s σ H _ us Q I r ⟨_, _, rfl, .inl ⟨_, .inl (.inl e), rfl⟩, h⟩
    · exact call_len pins s σ H _ us Q I r ⟨_, _, rfl, .inr ⟨_, .inl (.inl e), rfl⟩, h⟩
  · exact h.elim
theorem set_c : PSet X cSet := fun pins s σ H o i v ov iv u Q I ro ri rv h => by
  obtain ⟨p, rfl, h⟩ := onRef_of h
  obtain ⟨k, rfl, h⟩ := onInt_of h
  obtain ⟨xs, e, h⟩ := onLst_of h
  obtain ⟨j, e2, h⟩ := onO_of h
  exact set_list pins s σ H _ _ v ov iv u Q I ro ri rv ⟨_, _, _, _, rfl, rfl, e, e2, h⟩
theorem op_inC : OpR X (compareOp .In) (cIn false) := op_in_seq.imp fun x y H Q h => by
  obtain ⟨p, rfl, h⟩ := onRef_of h
  obtain ⟨xs, e, h1, h2, h⟩ := onSeq_of h
  exact ⟨_, _, rfl, e.imp (fun e => .inl (.inl e)) (fun e => .inl (.inl e)), h1, h2, h⟩
theorem call_intC : CallR X (.type "int") cInt := fun pins s σ H xs us Q I r h => by
  refine call_int1 pins s σ H xs us Q I r ?_
  unfold cInt at h
  split at h
  · exact .inl ⟨_, rfl, h⟩
  · exact .inr ⟨_, rfl, by
      rename_i k
      cases k <;> exact h⟩
  · exact h.elim
theorem op_isC : OpR X (compareOp .Is) cIsN := op_isN.imp fun x y H Q h => by
  cases y with
  | non => exact ⟨rfl, h⟩
  | _ => exact h.elim
theorem call_maxC (hc : X.calm = true) : CallR X (.builtin "max") cMax := fun pins s σ H xs us Q I r h => by
  refine call_max2 hc pins s σ H xs us Q I r ?_
  unfold cMax at h
  split at h
  · exact ⟨_, _, rfl, h⟩
  · exact h.elim
theorem call_isiC : CallR X (.builtin "isinstance") cIsi := fun pins s σ H xs us Q I r h => by
  refine call_isi pins s σ H xs us Q I r ?_
  unfold cIsi at h
  split at h
  · obtain ⟨b, e, h⟩ := onO_of h
    exact ⟨_, _, b, rfl, kRef_of e, h⟩
  · obtain ⟨b, e, h⟩ := onO_of h
    exact ⟨_, _, b, rfl, kSc_of e, h⟩
  · exact h.elim
variable {o e : Expr} {to te : TE} {apos cpos : Pos}
theorem pe_appC (ho : PE X o to) (he : PE X e te) (hbase : attributeBase o "append" X.env (eval o X.env) = eval o X.env := by rfl)
    (hfew : ((backTo cpos (starEach [e] X.env)).all (fun x => !x.1) && (backToKw cpos (keywordEach [] X.env)).all (fun x => x.1.isSome)
      && decide ([e].length + ([] : List Keyword).length + (if ([] : List Keyword).isEmpty then 0 else 1) < 30)) = true := by rfl)
    (hline : (apos.endLine == cpos.line) = true := by rfl) (hs : starEach [e] X.env = (false, eval e X.env) :: starEach [] X.env := by rfl) (hplain : (backTo cpos (starEach [] X.env)).any (·.1) = false := by rfl) :
    PE X (.Call (.Attribute o "append" apos) [e] [] cpos) (cApp to te) := by
  intro pins s σ H Q I h
  refine wpAny_Call_method_late hbase hfew hline rfl (thn (ho pins s σ H _ I h) fun v s1 ⟨x, H1, I1, r1, q1⟩ => ?_)
  obtain ⟨a, rfl, q1⟩ := onRef_of q1
  obtain ⟨xs, e1, q1⟩ := onLst_of q1
  obtain ⟨h1, h2⟩ := tyV_is (T := "list") I1 r1 (.inl ⟨rfl, xs, .inl (.inl e1)⟩)
  refine ⟨"list", "list.append", PySem.F.plainAttrs_list, PySem.F.slot_list_append, PySem.F.type_list_append, h1, h2, ?_⟩
  have q2 : tCons te tNil σ H1 (fun vs H2 => vs.length = 1 ∧ onLst (H2 a) fun xs => xs.length < sizeLine ∧ Q .non (upd H2 a (.lst (xs ++ vs)))) := by
    simpa only [tCons, tNil, List.length_cons, List.length_nil, Nat.zero_add, true_and] using q1
  have hA := pa_cons he pa_nil hs cpos pins s1 σ H1 _ I1 q2
  rw [hs] at hA ⊢
  refine Calls.callWith_builtin (by show (false || (backTo cpos (starEach [] X.env)).any (·.1)) = false; rw [hplain] <;> rfl) (Calls.evalArgs_plain ?_)
  refine thn hA fun us s2 ⟨vs, H2, I2, r2, l2, q3⟩ => ?_
  obtain ⟨xs, e3, q4, q5⟩ := onLst_of q3
  match vs, l2, r2, q5 with
  | [y], _, r2, q5 => exact mt_append pins s2 σ H2 _ _ v us Q I2 r1 r2 ⟨_, _, _, rfl, rfl, e3, q4, q5⟩
end
/-! ### dicts -/
section
variable {X : Cx} {o i e value : Expr} {pos pos' apos cpos : Pos} {td ty tv : TE}
theorem pe_getC (hu : X.A.units + 1 < cLine) (ho : PE X o td) (he : PE X e ty) (m : M1 X o "get" apos e cpos) : PE X (.Call (.Attribute o "get" apos) [e] [] cpos) (cGet1 td ty) := by
  intro pins s σ H Q I h
  refine wpAny_Call_method m.base m.few m.line PySem.F.plainAttrs_dict PySem.F.slot_dict_get PySem.F.type_dict_get (thn (ho pins s σ H _ I h) fun u s1 ⟨x, H1, I1, rx, q1⟩ => ?_)
  obtain ⟨a, rfl, q1⟩ := onRef_of q1
  obtain ⟨kvs, e1, q1⟩ := onDct_of q1
  obtain rfl : u = Value.ref a := rx
  obtain ⟨t1, t2, _⟩ := isD_at I1 (.inl ⟨_, .inl e1⟩)
  refine ⟨t1, t2, ?_⟩
  rw [m.trees]
  refine Calls.callWith_builtin rfl (Calls.evalArgs_plain (Calls.spliced_cons (thn (he pins s1 σ H1 _ I1 q1) fun iv s2 ⟨y, H2, I2, ry, q2⟩ => Calls.spliced_nil ?_)))
  obtain ⟨kvs, e1, q2⟩ := onDct_of q2
  obtain ⟨k, e2, q2⟩ := onO_of q2
  have g : DGet H2 a y (valV kvs k) := by rw [keyO_kV e2]; exact DGet.k e1
  exact d_get1 hu I2 g ry fun w' s3 I3 rw' => ⟨_, H2, I3, rw', q2⟩
/-- dict(d) of one dict: a copy -/
noncomputable def cDict : List V → Hp → VK → Prop := fun vs H Q => match vs with
  | [.ref a] => onDct (H a) fun kvs => ∀ p, H p = none → Q (.ref p) (upd H p (.dK kvs))
  | _ => False
end
/-! ### for x in reversed(a list that the body leaves as it is) -/
noncomputable def Itv (K : PySem.W.Frag) (a : Addr) (n : Nat) : It :=
  ⟨fun i H => i < n ∧ ∃ xs, SqL K H a xs ∧ xs.length = n, fun i H x H' => H' = H ∧ ∀ xs, SqL K H a xs → xs[n - 1 - i]? = some x, fun i H => i = n ∧ ∃ xs, SqL K H a xs ∧ xs.length = n⟩
noncomputable def iRev (K : PySem.W.Frag) (ta : TA) : TI := fun σ H R => ta σ H fun vs H1 => ∃ a xs, vs = [.ref a] ∧ SqL K H1 a xs ∧ R (Itv K a xs.length) H1
end L2
namespace L2
open PySem PySem.Spec PyProof.Rows
/-! ### evaluation: each reading is rewritten where its head is known -/
section
variable {σ : St} {H : Hp} {Q : VK} {D : Ends} {t u : TS} {te ta tb tc to ti : TE} {tl th : TO} {g : TG} {gs : TGs} {tt tt' : TT} {as : TA} {i j : Int} {n : Nat} {x y : Str} {v w : V} {vs : List V} {b : Bool} {p a : Addr} {r r' : R2} {B : Bool → Hp → Prop} {K : PySem.W.Frag}
theorem e_seq : tSeq t u D σ H = t { D with nx := u D } σ H := rfl
theorem e_asg : tAsg te g D σ H = te σ H fun x H1 => g x σ H1 D.nx := rfl
theorem e_name {N : St → Hp → Prop} : gName n v σ H N = N (σ.set n (some v)) H := rfl
theorem e_ret : tRet te D σ H = te σ H D.rt := rfl
theorem e_retN : tRetN D σ H = D.rt .non H := rfl
theorem e_ifS : tIfS tt t u D σ H = tt σ H fun b H1 => if b = true then t D σ H1 else u D σ H1 := rfl
theorem e_test : tTest te σ H B = te σ H fun x H' => onB x fun k => B k H' := by simp only [tTest, onB_eq]
theorem e_tB : tB te σ H B = te σ H fun x H' => onB x fun k => B k H' := by simp only [tB, onB_eq]
theorem e_if : tIf tt ta tb σ H Q = tt σ H fun c H1 => if c = true then ta σ H1 Q else tb σ H1 Q := rfl
theorem e_op : tOp r ta tb σ H Q = ta σ H fun x H1 => tb σ H1 fun y H2 => r x y H2 Q := rfl
theorem e_un {q : V → Hp → VK → Prop} : tUn q ta σ H Q = ta σ H fun x H1 => q x H1 Q := rfl
theorem e_c : tC v σ H Q = Q v H := rfl
theorem e_cons {A : List V → Hp → Prop} : tCons te as σ H A = te σ H fun x H1 => as σ H1 fun xs H2 => A (x :: xs) H2 := rfl
theorem e_nil {A : List V → Hp → Prop} : tNil σ H A = A [] H := rfl
theorem e_call {sp : Sp} {E : XK} : tCall sp [] E as σ H Q = as σ H fun vs H1 => sp vs H1 Q E := by simp only [tCall, List.append_nil]
theorem e_cb {q : List V → Hp → VK → Prop} : tCB q as σ H Q = as σ H fun vs H1 => q vs H1 Q := rfl
theorem e_lst : tLst as σ H Q = as σ H fun xs H1 => xs.length ≤ sizeLine ∧ ∀ p, H1 p = none → Q (.ref p) (upd H1 p (.lst xs)) := rfl
theorem e_tup : tTup as σ H Q = as σ H fun xs H1 => xs.length ≤ sizeLine ∧ ∀ p, H1 p = none → Q (.ref p) (upd H1 p (.tup xs)) := rfl
theorem e_dnew : tDNewK σ H Q = ∀ p, H p = none → Q (.ref p) (upd H p (.dK [])) := rfl
theorem e_drop : tDrop te D σ H = te σ H fun _ H1 => D.nx σ H1 := rfl
theorem e_next : tNext D σ H = D.nx σ H := rfl
theorem e_break : tBreak D σ H = D.bk σ H := rfl
theorem e_cont : tCont D σ H = D.ct σ H := rfl
theorem e_andV : tAndV ta tb σ H Q = ta σ H fun x H1 => onB x fun c => if c = true then tb σ H1 Q else Q (.bl false) H1 := by simp only [tAndV, onB_eq]
theorem e_orV : tOrV ta tb σ H Q = ta σ H fun x H1 => onB x fun c => if c = true then Q (.bl true) H1 else tb σ H1 Q := by simp only [tOrV, onB_eq]
theorem e_notV : tNotV ta σ H Q = ta σ H fun x H1 => onB x fun c => Q (.bl (!c)) H1 := by simp only [tNotV, onB_eq]
theorem e_and : tAnd tt tt' σ H B = tt σ H fun c H1 => if c = true then tt' σ H1 B else B false H1 := rfl
theorem e_or : tOr tt tt' σ H B = tt σ H fun c H1 => if c = true then B true H1 else tt' σ H1 B := rfl
theorem e_not : tNot tt σ H B = tt σ H fun c H1 => B (!c) H1 := rfl
theorem e_chain : tChain r r' ta tb tc σ H Q = ta σ H fun x H1 => tb σ H1 fun y H2 => r x y H2 fun z H3 => onB z fun k => if k = true then tc σ H3 fun w' H4 => r' y w' H4 Q else Q (.bl false) H3 := by simp only [tChain, onB_eq]
theorem e_sl {q : V → Option Int → Option Int → Hp → VK → Prop} : tSl q te tl th σ H Q = te σ H fun x H1 => tl σ H1 fun l H2 => th σ H2 fun u H3 => q x l u H3 Q := rfl
theorem onInt_eq {k : Int → Prop} : (∃ i, v = .int i ∧ k i) = onInt v k := propext ⟨fun ⟨i, e, h⟩ => by subst e; exact h, onInt_of⟩
theorem e_part {O : Option Int → Hp → Prop} : tPart te σ H O = te σ H fun x H1 => onInt x fun i => O (some i) H1 := by simp only [tPart, onInt_eq]
theorem e_nopart {O : Option Int → Hp → Prop} : tNoPart σ H O = O none H := rfl
theorem e_gsub {s : TSet} {N : St → Hp → Prop} : gSub to ti s v σ H N = to σ H fun o H1 => ti σ H1 fun i H2 => s o i v H2 fun H3 => N σ H3 := rfl
theorem e_gnil {N : St → Hp → Prop} : gNil [] σ H N = N σ H := by simp [gNil]
theorem e_gcons {N : St → Hp → Prop} : gCons g gs (v :: vs) σ H N = g v σ H fun σ' H' => gs vs σ' H' N := propext ⟨fun ⟨_, _, e, h⟩ => by cases e; exact h, fun h => ⟨_, _, rfl, h⟩⟩
theorem e_get1 : cGet1 ta tb σ H Q = ta σ H fun x H1 => onRef x fun a => onDct (H1 a) fun _ => tb σ H1 fun y H2 => onDct (H2 a) fun kvs => onO (keyO y) fun k => Q ((valV kvs k).getD .non) H2 := rfl
theorem e_get : cGet ta tb σ H Q = ta σ H fun x H1 => tb σ H1 fun y H2 => onRef x fun a => onDct (H2 a) fun kvs => onO (keyO y) fun k => onO (valV kvs k) fun v => Q v H2 := rfl
theorem e_put : cPut ta tb tc D σ H = tc σ H fun v H1 => ta σ H1 fun x H2 => tb σ H2 fun y H3 => onRef x fun a => onDct (H3 a) fun kvs => onO (keyO y) fun k => kvs.length < sizeLine ∧ D.nx σ (upd H3 a (.dK (putK kvs k v))) := rfl
theorem e_app : cApp to te σ H Q = to σ H fun x H1 => onRef x fun a => onLst (H1 a) fun _ => te σ H1 fun y H2 => onLst (H2 a) fun xs => xs.length < sizeLine ∧ Q .non (upd H2 a (.lst (xs ++ [y]))) := rfl
theorem e_pop : cPop to σ H Q = to σ H fun x H1 => onRef x fun a => onLst (H1 a) fun xs => onO (xs[xs.length - 1]?) fun y => Q y (upd H1 a (.lst xs.dropLast)) := rfl
theorem e_onO {α : Type} {z : α} {k : α → Prop} {u : Tg k} : @onO _ (some z) k u = k z := rfl
theorem e_onB {k : Bool → Prop} {u : Tg k} : @onB (.bl b) k u = k b := rfl
theorem e_onRef {k : Addr → Prop} {u : Tg k} : @onRef (.ref p) k u = k p := rfl
theorem e_onInt {k : Int → Prop} {u : Tg k} : @onInt (.int i) k u = k i := rfl
theorem e_onLst {k : List V → Prop} {u : Tg k} : @onLst (some (.lst vs)) k u = k vs := rfl
theorem e_onSeqL {k : List V → Prop} {u : Tg k} : @onSeq (some (.lst vs)) k u = k vs := rfl
theorem e_onSeqT {k : List V → Prop} {u : Tg k} : @onSeq (some (.tup vs)) k u = k vs := rfl
theorem e_onDct {kvs : List (Key × V)} {k : List (Key × V) → Prop} {u : Tg k} : @onDct (some (.dK kvs)) k u = k kvs := rfl
theorem e_ixR : cIx (.ref p) w H Q = onSeq (H p) fun xs => onInt w fun i => onO (atI xs i) fun v => Q v H := rfl
theorem e_ixS : cIx (.str x) w H Q = onInt w fun i => x.length ≤ sizeLine ∧ onO (atI x.cps.toList i) fun c => Q (.str ⟨#[c]⟩) H := rfl
theorem e_addI : cAdd (.int i) (.int j) H Q = Q (.int (i + j)) H := rfl
theorem e_addS : cAdd (.str x) (.str y) H Q = (x.length + y.length ≤ sizeLine ∧ Q (.str (x ++ y)) H) := rfl
theorem e_addR : cAdd (.ref a) (.ref p) H Q = cCat H Q a (H a) (H p) := rfl
theorem e_catL {us : List V} : cCat H Q a (some (.lst vs)) (some (.lst us)) = (vs.length + us.length ≤ sizeLine ∧ ∀ p, H p = none → Q (.ref p) (upd H p (.lst (vs ++ us)))) := rfl
theorem e_slS {lo hi : Option Int} : cSl (.str x) lo hi H Q = (x.length ≤ sizeLine ∧ Q (.str (Txt.slice x lo hi)) H) := rfl
theorem e_slR {lo hi : Option Int} : cSl (.ref a) lo hi H Q = cCut lo hi H Q (H a) := rfl
theorem e_cutL {lo hi : Option Int} : cCut lo hi H Q (some (.lst vs)) = ∀ p, H p = none → Q (.ref p) (upd H p (.lst (cutV vs lo hi))) := rfl
theorem e_lenS : cLen [.str x] H Q = (x.length ≤ sizeLine ∧ Q (.int x.length) H) := rfl
theorem e_lenR : cLen [.ref p] H Q = onSeq (H p) fun xs => Q (.int xs.length) H := rfl
theorem e_set {N : Hp → Prop} : cSet (.ref p) (.int i) v H N = onLst (H p) fun xs => onO (ixN xs.length i) fun j => N (upd H p (.lst (xs.set j v))) := rfl
theorem e_in {neg : Bool} : cIn neg v (.ref p) H Q = onSeq (H p) fun xs => flatV v = true ∧ xs.all flatV = true ∧ Q (.bl (if neg = true then !inV v xs else inV v xs)) H := rfl
theorem e_dict : cDict [.ref a] H Q = onDct (H a) fun kvs => ∀ p, H p = none → Q (.ref p) (upd H p (.dK kvs)) := rfl
theorem e_keyI : keyO (.int i) = some (.inl i) := rfl
theorem e_keyS : keyO (.str x) = some (.inr x) := rfl
theorem e_keyN : keyO .non = some .no := rfl
theorem e_atI {α : Type} {xs : List α} {k : Nat} : atI xs (OfNat.ofNat k) = xs[k]? := by
  show atI xs ((k : Nat) : Int) = xs[k]?
  cases e : xs[k]? with
  | some z => exact atI_nat e
  | none =>
    have := List.getElem?_eq_none_iff.mp e
    unfold atI ixN
    rw [if_pos (by omega), if_neg (by omega)]
    rfl
theorem e_at0 {α : Type} {xs : List α} : atI xs 0 = xs[0]? := e_atI (k := 0)
theorem e_at1 {α : Type} {xs : List α} : atI xs 1 = xs[1]? := e_atI (k := 1)
theorem e_at2 {α : Type} {xs : List α} : atI xs 2 = xs[2]? := e_atI (k := 2)
theorem e_at3 {α : Type} {xs : List α} : atI xs 3 = xs[3]? := e_atI (k := 3)
theorem e_at4 {α : Type} {xs : List α} : atI xs 4 = xs[4]? := e_atI (k := 4)
theorem e_at5 {α : Type} {xs : List α} : atI xs 5 = xs[5]? := e_atI (k := 5)
theorem e_at6 {α : Type} {xs : List α} : atI xs 6 = xs[6]? := e_atI (k := 6)
theorem e_at7 {α : Type} {xs : List α} : atI xs 7 = xs[7]? := e_atI (k := 7)
theorem e_at8 {α : Type} {xs : List α} : atI xs 8 = xs[8]? := e_atI (k := 8)
theorem e_at9 {α : Type} {xs : List α} : atI xs 9 = xs[9]? := e_atI (k := 9)
theorem e_at10 {α : Type} {xs : List α} : atI xs 10 = xs[10]? := e_atI (k := 10)
theorem e_at11 {α : Type} {xs : List α} : atI xs 11 = xs[11]? := e_atI (k := 11)
theorem e_at12 {α : Type} {xs : List α} : atI xs 12 = xs[12]? := e_atI (k := 12)
theorem e_cmul1 : CMul 1 j = True := eq_true (.inl ⟨by decide, by decide⟩)
theorem e_cmul2 : CMul 2 j = True := eq_true (.inl ⟨by decide, by decide⟩)
theorem e_cmul3 : CMul 3 j = True := eq_true (.inl ⟨by decide, by decide⟩)
theorem e_cmul10 : CMul 10 j = True := eq_true (.inl ⟨by decide, by decide⟩)
theorem e_cpow6 : CPow 10 6 = True := eq_true ⟨by decide, by decide, by decide⟩
theorem e_cpow9 : CPow 10 9 = True := eq_true ⟨by decide, by decide, by decide⟩
theorem e_cpow12 : CPow 10 12 = True := eq_true ⟨by decide, by decide, by decide⟩
theorem e_cpow18 : CPow 10 18 = True := eq_true ⟨by decide, by decide, by decide⟩
theorem e_cpow30 : CPow 10 30 = True := eq_true ⟨by decide, by decide, by decide⟩
theorem e_cpow40 : CPow 10 40 = True := eq_true ⟨by decide, by decide, by decide⟩
theorem e_cpow45 : CPow 10 45 = True := eq_true ⟨by decide, by decide, by decide⟩
theorem e_ixN0 {m : Nat} : ixN (m + 1) 0 = some 0 := by simp [ixN] <;> omega
theorem e_ixN1 {m : Nat} : ixN (m + 2) 1 = some 1 := by simp [ixN] <;> omega
theorem e_intI : cInt [.int i] H Q = Q (.int i) H := rfl
theorem e_intB : cInt [.bl b] H Q = Q (.int (if b = true then 1 else 0)) H := rfl
theorem e_is : cIsN v .non H Q = Q (.bl (decide (v = .non))) H := by cases v <;> rfl
theorem e_isnot : cNotN v .non H Q = Q (.bl (!decide (v = .non))) H := by cases v <;> rfl
theorem e_max : cMax [.int i, .int j] H Q = Q (.int (if j > i then j else i)) H := rfl
theorem e_min : cMin [.int i, .int j] H Q = Q (.int (if j < i then j else i)) H := rfl
theorem e_abs : cAbs [.int i] H Q = Q (.int (if i < 0 then -i else i)) H := rfl
theorem e_isi_int_int : cIsi [(.int i), .ty "int"] H Q = Q (.bl true) H := by simp [cIsi, kSc, onO]
theorem e_isi_int_bl : cIsi [(.bl b), .ty "int"] H Q = Q (.bl true) H := by simp [cIsi, kSc, onO]
theorem e_isi_int_str : cIsi [(.str x), .ty "int"] H Q = Q (.bl false) H := by simp [cIsi, kSc, onO]
theorem e_isi_int_non : cIsi [.non, .ty "int"] H Q = Q (.bl false) H := by simp [cIsi, kSc, onO]
theorem e_isi_int_ref : cIsi [.ref p, .ty "int"] H Q = onO (kRef (H p) "int") fun b => Q (.bl b) H := rfl
theorem e_isi_bool_int : cIsi [(.int i), .ty "bool"] H Q = Q (.bl false) H := by simp [cIsi, kSc, onO]
theorem e_isi_bool_bl : cIsi [(.bl b), .ty "bool"] H Q = Q (.bl true) H := by simp [cIsi, kSc, onO]
theorem e_isi_bool_str : cIsi [(.str x), .ty "bool"] H Q = Q (.bl false) H := by simp [cIsi, kSc, onO]
theorem e_isi_bool_non : cIsi [.non, .ty "bool"] H Q = Q (.bl false) H := by simp [cIsi, kSc, onO]
theorem e_isi_bool_ref : cIsi [.ref p, .ty "bool"] H Q = onO (kRef (H p) "bool") fun b => Q (.bl b) H := rfl
theorem e_isi_str_int : cIsi [(.int i), .ty "str"] H Q = Q (.bl false) H := by simp [cIsi, kSc, onO]
theorem e_isi_str_bl : cIsi [(.bl b), .ty "str"] H Q = Q (.bl false) H := by simp [cIsi, kSc, onO]
theorem e_isi_str_str : cIsi [(.str x), .ty "str"] H Q = Q (.bl true) H := by simp [cIsi, kSc, onO]
theorem e_isi_str_non : cIsi [.non, .ty "str"] H Q = Q (.bl false) H := by simp [cIsi, kSc, onO]
theorem e_isi_str_ref : cIsi [.ref p, .ty "str"] H Q = onO (kRef (H p) "str") fun b => Q (.bl b) H := rfl
theorem e_isi_tuple_int : cIsi [(.int i), .ty "tuple"] H Q = Q (.bl false) H := by simp [cIsi, kSc, onO]
theorem e_isi_tuple_bl : cIsi [(.bl b), .ty "tuple"] H Q = Q (.bl false) H := by simp [cIsi, kSc, onO]
theorem e_isi_tuple_str : cIsi [(.str x), .ty "tuple"] H Q = Q (.bl false) H := by simp [cIsi, kSc, onO]
theorem e_isi_tuple_non : cIsi [.non, .ty "tuple"] H Q = Q (.bl false) H := by simp [cIsi, kSc, onO]
theorem e_isi_tuple_ref : cIsi [.ref p, .ty "tuple"] H Q = onO (kRef (H p) "tuple") fun b => Q (.bl b) H := rfl
theorem e_kl_int : kRef (some (.lst vs)) "int" = some false := by simp [kRef]
theorem e_kt_int : kRef (some (.tup vs)) "int" = some false := by simp [kRef]
theorem e_kl_bool : kRef (some (.lst vs)) "bool" = some false := by simp [kRef]
theorem e_kt_bool : kRef (some (.tup vs)) "bool" = some false := by simp [kRef]
theorem e_kl_str : kRef (some (.lst vs)) "str" = some false := by simp [kRef]
theorem e_kt_str : kRef (some (.tup vs)) "str" = some false := by simp [kRef]
theorem e_kl_tuple : kRef (some (.lst vs)) "tuple" = some false := by simp [kRef]
theorem e_kt_tuple : kRef (some (.tup vs)) "tuple" = some true := by simp [kRef]
theorem e_kd_int {kvs : List (Key × V)} : kRef (some (.dK kvs)) "int" = some false := by simp [kRef]
theorem e_kd_bool {kvs : List (Key × V)} : kRef (some (.dK kvs)) "bool" = some false := by simp [kRef]
theorem e_kd_str {kvs : List (Key × V)} : kRef (some (.dK kvs)) "str" = some false := by simp [kRef]
theorem e_chk {c : Prop} [Decidable c] {P R : Prop} : (if (decide c) = true then P else R) = if c then P else R := by
  by_cases h : c <;> simp [h]
theorem e_chn {c : Prop} [Decidable c] {P R : Prop} : (if (!decide c) = true then P else R) = if c then R else P := by
  by_cases h : c <;> simp [h]
theorem e_ite1 {P R : Prop} : (if true = true then P else R) = P := rfl
theorem e_ite0 {P R : Prop} : (if false = true then P else R) = R := rfl
end
theorem Kp.at1 {r a : Addr} {H H' : Hp} {o : HO} (x : Kp [r] H H') (e : H a = some o) (n : a ≠ r) : H' a = some o := x a o e (by simpa using n)
/-- an item by a draw -/
theorem r_draw {xs : List V} {i : Int} {k : V → Prop} (h0 : 0 ≤ i) (h1 : i < (xs.length : Int)) (q : ∀ v ∈ xs, k v) : onO (atI xs i) k := by
  have hk : i.toNat < xs.length := by omega
  have ek : i = ((i.toNat : Nat) : Int) := by omega
  have e : atI xs ((i.toNat : Nat) : Int) = some xs[i.toNat] := atI_nat (List.getElem?_eq_getElem hk)
  rw [← ek] at e
  rw [e]
  exact q _ (List.getElem_mem hk)
theorem r_drawS {x : Str} {i : Int} {k : Nat → Prop} (h0 : 0 ≤ i) (h1 : i < (x.length : Int)) (q : ∀ c ∈ x.cps.toList, k c) : onO (atI x.cps.toList i) k := by
  have hl : x.cps.toList.length = x.length := by simp [Str.length]
  have hk : i.toNat < x.cps.toList.length := by omega
  have ek : i = ((i.toNat : Nat) : Int) := by omega
  have e : atI x.cps.toList ((i.toNat : Nat) : Int) = some x.cps.toList[i.toNat] := atI_nat (List.getElem?_eq_getElem hk)
  rw [← ek] at e
  rw [e]
  exact q _ (List.getElem_mem hk)
end L2
namespace L2
open PySem PySem.Spec PyProof.Rows
/-! ### loops -/
noncomputable def on1 (vs : List V) (k : V → Prop) (_u : Tg k := ()) : Prop := match vs with
  | [v] => k v
  | _ => False
/-- the loop over J, from its first turn -/
noncomputable def lp (J : It) (g : TG) (tb : TS) (D : Ends) (σ : St) (H : Hp) : Prop := ∃ W : Nat → Nat → St → Hp → Prop, (∃ m, W 0 m σ H) ∧ ∀ i m σ H, W i m σ H →
  (J.stop i H ∧ D.nx σ H) ∨ (J.go i H ∧ ∃ N : St → Hp → Prop, (∀ σ' H', N σ' H' → ∃ m', m' < m ∧ W (i + 1) m' σ' H') ∧ ∀ x H', J.yld i H x H' → g x σ H' fun σ2 H2 => tb { D with nx := N, ct := N, bk := D.nx } σ2 H2)
section
variable {σ : St} {H : Hp} {D : Ends} {g : TG} {tb : TS} {as : TA} {te : TE} {K : PySem.W.Frag} {v w : V}
theorem on1_eq {vs : List V} {k : V → Prop} : (∃ z, vs = [z] ∧ k z) = on1 vs k := by
  refine propext ⟨fun ⟨z, e, h⟩ => by subst e; exact h, fun h => ?_⟩
  unfold on1 at h
  split at h
  · exact ⟨_, rfl, h⟩
  · exact h.elim
theorem e_on1 {k : V → Prop} {u : Tg k} : @on1 [v] k u = k v := rfl
theorem e_forR1 : tFor (iRng1 as) g tb D σ H = as σ H fun vs H1 => on1 vs fun v => onInt v fun j => (-(2 ^ 62) ≤ j ∧ j < 2 ^ 62) ∧ lp (Itr 0 j.toNat) g tb D σ H1 := by
  unfold tFor iRng1
  congr 1
  funext vs H1
  refine propext ⟨fun ⟨j, e, h1, h2, h⟩ => by subst e; exact ⟨⟨h1, h2⟩, h⟩, fun h => ?_⟩
  unfold on1 at h
  split at h
  · obtain ⟨j, rfl, ⟨h1, h2⟩, h⟩ := onInt_of h
    exact ⟨j, rfl, h1, h2, h⟩
  · exact h.elim
noncomputable def on2 (vs : List V) (k : V → V → Prop) (_u : Tg k := ()) : Prop := match vs with
  | [v, w] => k v w
  | _ => False
theorem e_on2 {k : V → V → Prop} {u : Tg k} : @on2 [v, w] k u = k v w := rfl
theorem e_forR2 : tFor (iRng2 as) g tb D σ H = as σ H fun vs H1 => on2 vs fun v w => onInt v fun i => onInt w fun j => (-(2 ^ 62) ≤ i ∧ i < 2 ^ 62 ∧ -(2 ^ 62) ≤ j ∧ j < 2 ^ 62) ∧ lp (Itr i (j - i).toNat) g tb D σ H1 := by
  unfold tFor iRng2
  congr 1
  funext vs H1
  refine propext ⟨fun ⟨i, j, e, h1, h⟩ => by subst e; exact ⟨h1, h⟩, fun h => ?_⟩
  unfold on2 at h
  split at h
  · obtain ⟨i, rfl, h'⟩ := onInt_of h
    obtain ⟨j, rfl, h1, h''⟩ := onInt_of h'
    exact ⟨i, j, rfl, h1, h''⟩
  · exact h.elim
theorem e_forL : tFor (iList K te) g tb D σ H = te σ H fun x H1 => onRef x fun a => (∃ xs, SqL K H1 a xs) ∧ lp (Itl K a) g tb D σ H1 := by
  unfold tFor iList
  congr 1
  funext x H1
  exact propext ⟨fun ⟨a, e, h1, h⟩ => by subst e; exact ⟨h1, h⟩, fun h => by obtain ⟨a, rfl, h1, h⟩ := onRef_of h; exact ⟨a, rfl, h1, h⟩⟩
theorem e_forT : tFor (iTup K te) g tb D σ H = te σ H fun x H1 => onRef x fun a => (∃ xs, SqT K H1 a xs) ∧ lp (Itt K a) g tb D σ H1 := by
  unfold tFor iTup
  congr 1
  funext x H1
  exact propext ⟨fun ⟨a, e, h1, h⟩ => by subst e; exact ⟨h1, h⟩, fun h => by obtain ⟨a, rfl, h1, h⟩ := onRef_of h; exact ⟨a, rfl, h1, h⟩⟩
theorem e_forV : tFor (iRev K as) g tb D σ H = as σ H fun vs H1 => on1 vs fun x => onRef x fun a => ∃ xs, SqL K H1 a xs ∧ lp (Itv K a xs.length) g tb D σ H1 := by
  unfold tFor iRev
  congr 1
  funext vs H1
  refine propext ⟨fun ⟨a, xs, e, h1, h⟩ => by subst e; exact ⟨xs, h1, h⟩, fun h => ?_⟩
  unfold on1 at h
  split at h
  · obtain ⟨a, rfl, xs, h1, h⟩ := onRef_of h
    exact ⟨a, xs, rfl, h1, h⟩
  · exact h.elim
end
end L2
namespace L2
open PySem PySem.Spec PyProof.Rows
/-! ### comprehensions -/
noncomputable def lc (J : It) (fr : List Nat) (tc : TT) (te : TE) (σ : St) (H : Hp) (Q : VK) : Prop := ∃ W : Nat → Nat → List V → Hp → Prop, (∃ m, W 0 m [] H) ∧ ∀ i m xs H, W i m xs H → xs.length ≤ 1000000 ∧
  ((J.stop i H ∧ ∀ p, H p = none → Q (.ref p) (upd H p (.lst xs))) ∨
   (J.go i H ∧ ∀ y H', J.yld i H y H' → tc (some y :: compSt fr σ) H' fun b H2 => if b = true then te (some y :: compSt fr σ) H2 (fun z H3 => ∃ m', m' < m ∧ W (i + 1) m' (xs ++ [z]) H3) else ∃ m', m' < m ∧ W (i + 1) m' xs H2))
section
variable {fr : List Nat} {tc : TT} {te tl : TE} {σ : St} {H H1 : Hp} {Q : VK} {as : TA} {K : PySem.W.Frag}
theorem e_compR : tComp (iRng1 as) fr tc te σ H Q = as σ H fun vs H1 => on1 vs fun v => onInt v fun j => (-(2 ^ 62) ≤ j ∧ j < 2 ^ 62) ∧ lc (Itr 0 j.toNat) fr tc te σ H1 Q := by
  unfold tComp iRng1
  congr 1
  funext vs H1
  refine propext ⟨fun ⟨j, e, h1, h2, h⟩ => by subst e; exact ⟨⟨h1, h2⟩, h⟩, fun h => ?_⟩
  unfold on1 at h
  split at h
  · obtain ⟨j, rfl, ⟨h1, h2⟩, h⟩ := onInt_of h
    exact ⟨j, rfl, h1, h2, h⟩
  · exact h.elim
theorem e_compL : tComp (iList K tl) fr tc te σ H Q = tl σ H fun x H1 => onRef x fun a => (∃ xs, SqL K H1 a xs) ∧ lc (Itl K a) fr tc te σ H1 Q := by
  unfold tComp iList
  congr 1
  funext x H1
  exact propext ⟨fun ⟨a, e, h1, h⟩ => by subst e; exact ⟨h1, h⟩, fun h => by obtain ⟨a, rfl, h1, h⟩ := onRef_of h; exact ⟨a, rfl, h1, h⟩⟩
noncomputable def onStr (x : V) (k : Str → Prop) (_u : Tg k := ()) : Prop := match x with
  | .str p => k p
  | _ => False
theorem e_onStr {x : Str} {k : Str → Prop} {u : Tg k} : @onStr (.str x) k u = k x := rfl
theorem e_compS : tComp (iStr tl) fr tc te σ H Q = tl σ H fun x H1 => onStr x fun z => lc (Its z) fr tc te σ H1 Q := by
  unfold tComp iStr
  congr 1
  funext x H1
  refine propext ⟨fun ⟨a, e, h⟩ => by subst e; exact h, fun h => ?_⟩
  cases x with
  | str z => exact ⟨z, rfl, h⟩
  | _ => exact h.elim
theorem e_true {B : Bool → Hp → Prop} : tTrue σ H B = B true H := rfl
theorem e_cs0 : compSt [] σ = [] := rfl
theorem cW_eq {n : Nat} {Pv : Nat → List V → Hp → Prop} {i : Nat} {xs : List V} (hi : i < n) : (∃ m', m' < n - i ∧ cW n Pv (i + 1) m' xs H) = Pv (i + 1) xs H :=
  propext ⟨fun ⟨_, _, _, _, h⟩ => h, fun h => cW.next hi h⟩
theorem lc_range {lo : Int} {n : Nat} (Pv : Nat → List V → Hp → Prop) (h0 : Pv 0 [] H) (hz : ∀ i xs H, Pv i xs H → xs.length ≤ 1000000)
    (hs : ∀ i xs H, i < n → Pv i xs H → tc (some (.int (lo + i)) :: compSt fr σ) H fun b H2 => if b = true then te (some (.int (lo + i)) :: compSt fr σ) H2 (fun z H3 => Pv (i + 1) (xs ++ [z]) H3) else Pv (i + 1) xs H2)
    (hd : ∀ xs H, Pv n xs H → ∀ p, H p = none → Q (.ref p) (upd H p (.lst xs))) : lc (Itr lo n) fr tc te σ H Q :=
  comp_range Pv h0 hz (fun i xs H hi h => by simp only [cW_eq hi]; exact hs i xs H hi h) hd
theorem lc_list {a : Addr} {ys : List V} (Pv : Nat → List V → Hp → Prop) (h0 : Pv 0 [] H) (hz : ∀ i xs H, Pv i xs H → xs.length ≤ 1000000) (hl : ∀ i xs H, Pv i xs H → SqL K H a ys)
    (hs : ∀ i y xs H, i < ys.length → ys[i]? = some y → Pv i xs H → tc (some y :: compSt fr σ) H fun b H2 => if b = true then te (some y :: compSt fr σ) H2 (fun z H3 => Pv (i + 1) (xs ++ [z]) H3) else Pv (i + 1) xs H2)
    (hd : ∀ xs H, Pv ys.length xs H → ∀ p, H p = none → Q (.ref p) (upd H p (.lst xs))) : lc (Itl K a) fr tc te σ H Q :=
  comp_list Pv h0 hz hl (fun i y xs H hi e h => by simp only [cW_eq hi]; exact hs i y xs H hi e h) hd
theorem lc_str {x : Str} (Pv : Nat → List V → Hp → Prop) (h0 : Pv 0 [] H) (hz : ∀ i xs H, Pv i xs H → xs.length ≤ 1000000)
    (hs : ∀ i c xs H, i < x.cps.size → x.cps[i]? = some c → Pv i xs H → tc (some (.str ⟨#[c]⟩) :: compSt fr σ) H fun b H2 => if b = true then te (some (.str ⟨#[c]⟩) :: compSt fr σ) H2 (fun z H3 => Pv (i + 1) (xs ++ [z]) H3) else Pv (i + 1) xs H2)
    (hd : ∀ xs H, Pv x.cps.size xs H → ∀ p, H p = none → Q (.ref p) (upd H p (.lst xs))) : lc (Its x) fr tc te σ H Q :=
  comp_str Pv h0 hz (fun i c xs H hi e h => by simp only [cW_eq hi]; exact hs i c xs H hi e h) hd
end
end L2
namespace L2
open PySem PySem.Spec PyProof.Rows
/-! ### == and != of values that hold others -/
/-- the pairs of the one, looked up in the other -/
noncomputable def dHit (kb : List (Key × V)) : List (Key × V) → Bool
  | [] => true
  | (k, v) :: r => match valV kb k with
    | none => false
    | some y => eqV v y && dHit kb r
mutual
inductive EqA (K : PySem.W.Frag) (H : Hp) : Nat → V → V → Bool → Prop
  | flat {n : Nat} {x y : V} : flatV x = true → flatV y = true → EqA K H n x y (eqV x y)
  | same {n : Nat} {a : Addr} : EqA K H n (.ref a) (.ref a) true
  | refs {n : Nat} {a b : Addr} {r : Bool} : a ≠ b → RcA K H n a b r → EqA K H n (.ref a) (.ref b) r
inductive RcA (K : PySem.W.Frag) (H : Hp) : Nat → Addr → Addr → Bool → Prop
  | list {n : Nat} {a b : Addr} {xs ys : List V} {e : Nat → Bool} : SqL K H a xs → SqL K H b ys → xs.length = ys.length → (∀ j x y, xs[j]? = some x → ys[j]? = some y → EqA K H n x y (e j)) → RcA K H (n + 1) a b ((List.range xs.length).all e)
  | listLen {n : Nat} {a b : Addr} {xs ys : List V} : SqL K H a xs → SqL K H b ys → xs.length ≠ ys.length → RcA K H (n + 1) a b false
  | tup {n : Nat} {a b : Addr} {xs ys : List V} {e : Nat → Bool} : SqT K H a xs → SqT K H b ys → (∀ j x y, xs[j]? = some x → ys[j]? = some y → EqA K H n x y (e j)) → RcA K H (n + 1) a b ((List.range (min xs.length ys.length)).all e && xs.length == ys.length)
end
section
variable {X : Cx} {pins : List (Addr × Obj)} {σ : St} {H : Hp} {s : Shared}
theorem item_of {xs : List V} {its : List Value} (r : Vals xs its) {j : Nat} (h : j < its.toArray.size) : ∃ x, xs[j]? = some x ∧ RelV x its.toArray[j] := by
  have hj : j < xs.length := by have := r.length; simp only [List.size_toArray] at h; omega
  have e := List.getElem?_eq_getElem hj
  obtain ⟨u, g, ru⟩ := r.get e
  refine ⟨_, e, ?_⟩
  obtain ⟨_, q⟩ := List.getElem?_eq_some_iff.mp g
  have : its.toArray[j] = u := by simpa using q
  rw [this]
  exact ru
theorem eqrc_at : ∀ (n : Nat), (∀ {a b : Addr} {r : Bool}, RcA X.K H n a b r → ∀ {A : Around}, Inv X pins σ H s → A.units + n < cLine → SeqAt.RcAt A s (.ref a) (.ref b) r) ∧ (∀ {x y : V} {b : Bool}, EqA X.K H n x y b → ∀ {A : Around} {v u : Value}, Inv X pins σ H s → RelV x v → RelV y u → A.units + n < cLine → SeqAt.EqAt A s v u b) := by
  intro n
  have up : ∀ {n : Nat}, (∀ {a b : Addr} {r : Bool}, RcA X.K H n a b r → ∀ {A : Around}, Inv X pins σ H s → A.units + n < cLine → SeqAt.RcAt A s (.ref a) (.ref b) r) → (∀ {x y : V} {b : Bool}, EqA X.K H n x y b → ∀ {A : Around} {v u : Value}, Inv X pins σ H s → RelV x v → RelV y u → A.units + n < cLine → SeqAt.EqAt A s v u b) := by
    intro n rc x y b h A v u I rx ry hu
    cases h with
    | flat fx fy => exact eqAt_V rx ry fx fy
    | same =>
      cases rx
      cases ry
      exact SeqAt.EqAt.same _
    | refs ne h =>
      cases rx
      cases ry
      exact SeqAt.EqAt.of_refs ne (rc h I hu)
  suffices g : ∀ {a b : Addr} {r : Bool}, RcA X.K H n a b r → ∀ {A : Around}, Inv X pins σ H s → A.units + n < cLine → SeqAt.RcAt A s (.ref a) (.ref b) r from ⟨g, up g⟩
  induction n with
  | zero => intro a b r h; cases h
  | succ n ih =>
    intro a b r h A I hu
    have ih := @up n @ih
    cases h with
    | list hx hy hl he =>
      obtain ⟨its, r1, p1, z1⟩ := I.list hx
      obtain ⟨jts, r2, p2, z2⟩ := I.list hy
      have l1 := r1.length
      have l2 := r2.length
      have := SeqAt.RcAt.lists p1.isList p2.isList (by simp only [List.size_toArray]; omega) (by omega) (A := A) (fun j h1 h2 => by
        obtain ⟨x, ex, rx⟩ := item_of r1 h1
        obtain ⟨y, ey, ry⟩ := item_of r2 h2
        exact ih (he j x y ex ey) I rx ry (by show A.units + 1 + _ < _; omega))
      rw [List.size_toArray, ← l1] at this
      exact this
    | listLen hx hy hl =>
      obtain ⟨its, r1, p1, z1⟩ := I.list hx
      obtain ⟨jts, r2, p2, z2⟩ := I.list hy
      have l1 := r1.length
      have l2 := r2.length
      exact SeqAt.RcAt.lists_lengths p1.isList p2.isList (by simp only [List.size_toArray, bne_iff_ne, ne_eq]; omega) (by omega)
    | tup hx hy he =>
      obtain ⟨its, r1, p1, z1⟩ := I.tuple hx
      obtain ⟨jts, r2, p2, z2⟩ := I.tuple hy
      have l1 := r1.length
      have l2 := r2.length
      have := SeqAt.RcAt.tuples (show s.heap.IsTuple _ its.toArray from p1) (show s.heap.IsTuple _ jts.toArray from p2) (by omega) (A := A) (fun j h1 h2 => by
        obtain ⟨x, ex, rx⟩ := item_of r1 h1
        obtain ⟨y, ey, ry⟩ := item_of r2 h2
        exact ih (he j x y ex ey) I rx ry (by show A.units + 1 + _ < _; omega))
      rw [List.size_toArray, List.size_toArray, ← l1, ← l2] at this
      exact this
theorem eqA_at {n : Nat} {x y : V} {b : Bool} (h : EqA X.K H n x y b) {A : Around} {v u : Value} (I : Inv X pins σ H s) (rx : RelV x v) (ry : RelV y u) (hu : A.units + n < cLine) : SeqAt.EqAt A s v u b := (eqrc_at n).2 h I rx ry hu
end
/-- two values ==, as this program and world have it -/
noncomputable def EqP (P : Program) (W : World) (A : Around) (s : Shared) (y x : Value) (r : Bool) : Prop := ∀ (E : Value → Shared → Prop) (Q : Bool → Shared → Prop), Q r s → wpAny (model P W) A (eqBool y x) Q E s
theorem EqP.of {P : Program} {W : World} {A : Around} {s : Shared} {y x : Value} {r : Bool} (h : SeqAt.EqAt A s y x r) : EqP P W A s y x r := h P W
/-- != of a list and the empty list -/
noncomputable def cNeE : R2 := fun x y H Q => onRef x fun a => onRef y fun b => onLst (H a) fun xs => onLst (H b) fun ys => ys = [] ∧ Q (.bl (!xs.isEmpty)) H
/-- != of two lists of dicts with flat values, no dict in both -/
inductive DPairs (H : Hp) : List V → List V → Bool → Prop
  | nil : DPairs H [] [] true
  | cons {a b : Addr} {ka kb : List (Key × V)} {xs ys : List V} {r : Bool} : a ≠ b → H a = some (.dK ka) → H b = some (.dK kb) → (ka.all fun kv => flatV kv.2) = true → (kb.all fun kv => flatV kv.2) = true → DPairs H xs ys r →
      DPairs H (.ref a :: xs) (.ref b :: ys) ((ka.length == kb.length && dHit kb ka) && r)
theorem DPairs.len {H : Hp} {xs ys : List V} {r : Bool} (h : DPairs H xs ys r) : xs.length = ys.length := by
  induction h with
  | nil => rfl
  | cons _ _ _ _ _ _ ih => simp [ih]
theorem DPairs.at {H : Hp} {xs ys : List V} {r : Bool} (h : DPairs H xs ys r) : ∃ f : Nat → Bool, (List.range xs.length).all f = r ∧ ∀ j x y, xs[j]? = some x → ys[j]? = some y → ∃ a b ka kb, x = .ref a ∧ y = .ref b ∧ a ≠ b ∧ H a = some (.dK ka) ∧ H b = some (.dK kb) ∧ (ka.all fun kv => flatV kv.2) = true ∧ (kb.all fun kv => flatV kv.2) = true ∧ f j = (ka.length == kb.length && dHit kb ka) := by
  induction h with
  | nil => exact ⟨fun _ => true, rfl, fun j x y e => by simp at e⟩
  | @cons a b ka kb xs ys r ne ea eb fa fb _ ih =>
    obtain ⟨f, hf, hp⟩ := ih
    refine ⟨fun j => match j with | 0 => (ka.length == kb.length && dHit kb ka) | j + 1 => f j, ?_, ?_⟩
    · rw [List.length_cons, List.range_succ_eq_map, List.all_cons, List.all_map, ← hf]
      rfl
    · intro j x y e1 e2
      cases j with
      | zero =>
        simp only [List.getElem?_cons_zero, Option.some.injEq] at e1 e2
        exact ⟨a, b, ka, kb, e1.symm, e2.symm, ne, ea, eb, fa, fb, rfl⟩
      | succ j => exact hp j x y (by simpa using e1) (by simpa using e2)
noncomputable def cNeD : R2 := fun x y H Q => onRef x fun a => onRef y fun b => onLst (H a) fun xs => onLst (H b) fun ys => ∃ r, DPairs H xs ys r ∧ Q (.bl (!r)) H
end L2
namespace L2
open PySem PySem.Spec PyProof.Rows
/-! ### xs.index(e) of flat items -/
/-- the first place at which y is -/
noncomputable def idxV (y : V) (xs : List V) : Option Nat := xs.findIdx? fun z => eqV z y
section
variable {X : Cx}
variable {o e : Expr} {to te : TE} {apos cpos : Pos}
noncomputable def cIdx (to te : TE) : TE := fun σ H Q => to σ H fun x H1 => onRef x fun a => onLst (H1 a) fun _ => te σ H1 fun y H2 => onLst (H2 a) fun xs => flatV y = true ∧ xs.all flatV = true ∧ onO (idxV y xs) fun j => Q (.int j) H2
theorem e_idx {σ : St} {H : Hp} {Q : VK} : cIdx to te σ H Q = to σ H fun x H1 => onRef x fun a => onLst (H1 a) fun _ => te σ H1 fun y H2 => onLst (H2 a) fun xs => flatV y = true ∧ xs.all flatV = true ∧ onO (idxV y xs) fun j => Q (.int j) H2 := rfl
end
section
variable {H : Hp} {Q : VK} {a b p : Addr} {x : V}
theorem e_eqB {a b : Bool} : rEq (.bl a) (.bl b) H Q = Q (.bl (decide (a = b))) H := by simp only [rEq, show scal (.bl a) (.bl b) = true from rfl, V.bl.injEq, true_and]
theorem e_eqNN : rEq .non .non H Q = Q (.bl true) H := by simp only [rEq, show scal .non .non = true from rfl, decide_true, true_and]
theorem e_eqNI {i : Int} : rEq .non (.int i) H Q = Q (.bl false) H := by simp only [rEq, show scal .non (.int i) = true from rfl, reduceCtorEq, decide_false, true_and]
theorem e_eqIN {i : Int} : rEq (.int i) .non H Q = Q (.bl false) H := by simp only [rEq, show scal (.int i) .non = true from rfl, reduceCtorEq, decide_false, true_and]
theorem e_slLr {K : PySem.W.Frag} {lo hi : Option Int} : rSlL K (.ref a) lo hi H Q = ∃ xs, SqL K H a xs ∧ ∀ p, H p = none → Q (.ref p) (upd H p (.lst (cutV xs lo hi))) := by simp [rSlL]
theorem e_gtup {K : PySem.W.Frag} {n : Nat} {t : TGs} {σ : St} {N : St → Hp → Prop} : gTup K n t (.ref a) σ H N = ∃ xs, SqT K H a xs ∧ xs.length = n ∧ t xs σ H N := by simp [gTup]
theorem e_c0 : ((0 : Nat) : Int) = 0 := rfl
theorem e_c1 : ((1 : Nat) : Int) = 1 := rfl
theorem e_c2 : ((2 : Nat) : Int) = 2 := rfl
theorem e_neE : cNeE (.ref a) (.ref b) H Q = onLst (H a) fun xs => onLst (H b) fun ys => ys = [] ∧ Q (.bl (!xs.isEmpty)) H := rfl
theorem e_neD : cNeD (.ref a) (.ref b) H Q = onLst (H a) fun xs => onLst (H b) fun ys => ∃ r, DPairs H xs ys r ∧ Q (.bl (!r)) H := rfl
end
end L2
namespace L2
open PySem PySem.Spec PyProof.Rows
/-! ### tuples: t + u of any, t == () -/
noncomputable def onTup (o : Option HO) (k : List V → Prop) (_u : Tg k := ()) : Prop := match o with
  | some (.tup xs) => k xs
  | _ => False
noncomputable def cTcat : R2 := fun x y H Q => onRef x fun a => onRef y fun b => onTup (H a) fun xs => onTup (H b) fun ys => xs.length + ys.length ≤ sizeLine ∧ (if xs = [] then Q y H else if ys = [] then Q x H else ∀ p, H p = none → Q (.ref p) (upd H p (.tup (xs ++ ys))))
noncomputable def cEqTE : R2 := fun x y H Q => onRef x fun a => onRef y fun b => onTup (H a) fun xs => onTup (H b) fun ys => ys = [] ∧ xs.all flatV = true ∧ Q (.bl xs.isEmpty) H
section
variable {X : Cx}
end
section
variable {H : Hp} {Q : VK} {a b p : Addr} {vs : List V} {lo hi : Option Int}
theorem e_onTup {k : List V → Prop} {u : Tg k} : @onTup (some (.tup vs)) k u = k vs := rfl
theorem e_tcat : cTcat (.ref a) (.ref b) H Q = onTup (H a) fun xs => onTup (H b) fun ys => xs.length + ys.length ≤ sizeLine ∧ (if xs = [] then Q (.ref b) H else if ys = [] then Q (.ref a) H else ∀ p, H p = none → Q (.ref p) (upd H p (.tup (xs ++ ys)))) := rfl
theorem e_eqTE : cEqTE (.ref a) (.ref b) H Q = onTup (H a) fun xs => onTup (H b) fun ys => ys = [] ∧ xs.all flatV = true ∧ Q (.bl xs.isEmpty) H := rfl
theorem e_cutT : cCut lo hi H Q (some (.tup vs)) = (¬ (HT.sIx vs.length 0 lo = 0 ∧ HT.sIx vs.length vs.length hi = vs.length) ∧ ∀ p, H p = none → Q (.ref p) (upd H p (.tup (cutV vs lo hi)))) := rfl
end
end L2
namespace L2
open PySem PySem.Spec PyProof.Rows
section
variable {prog : Program} {w : World} {A : Around} {E : Value → Shared → Prop}
end
/-- dict(pairs): a list of tuples of two -/
noncomputable def PairsAt (H : Hp) (xs : List V) (kvs : List (Key × V)) : Prop := xs.length = kvs.length ∧ ∀ (j : Nat) (x : V), xs[j]? = some x → ∃ (t : Addr) (k : Key) (v : V), x = .ref t ∧ H t = some (.tup [kV k, v]) ∧ kvs[j]? = some (k, v)
noncomputable def cDictP : List V → Hp → VK → Prop := fun vs H Q => on1 vs fun x => onRef x fun l => onLst (H l) fun xs => ∃ kvs, PairsAt H xs kvs ∧ ∀ p, H p = none → Q (.ref p) (upd H p (.dK (mergeK [] kvs)))
end L2
namespace L2
open PySem PySem.Spec PyProof.Rows
/-! ### a loop over a dict's keys: the dict is frozen from then on -/
noncomputable def Itd (a : Addr) (o : Obj) (kvs : List (Key × V)) : It :=
  ⟨fun i H => i < kvs.length ∧ H a = some (.frz o (.dK kvs)), fun i H x H' => H' = H ∧ ∃ kv, kvs[i]? = some kv ∧ x = kV kv.1, fun i H => i = kvs.length ∧ H a = some (.frz o (.dK kvs))⟩
theorem KV.at {kvs : List (Key × V)} {vs : List (Key × Value)} (r : KV kvs vs) {i : Nat} {kv : Key × V} (e : kvs[i]? = some kv) : ∃ v, vs[i]? = some (kv.1, v) := by
  unfold KV at r
  induction r generalizing i with
  | nil => simp at e
  | @cons p q ps qs h t ih => cases i with
    | zero =>
      have e' : p = kv := by simpa using e
      subst e'
      exact ⟨q.2, by simp [h.1]⟩
    | succ i => simpa using ih (i := i) (by simpa using e)
noncomputable def iDct (tl : TE) : TI := fun σ H R => tl σ H fun x H1 => onRef x fun a => onDct (H1 a) fun kvs => ∀ o, R (Itd a o kvs) (upd H1 a (.frz o (.dK kvs)))
section
variable {fr : List Nat} {tc : TT} {te tl : TE} {σ : St} {H : Hp} {Q : VK}
theorem e_compD : tComp (iDct tl) fr tc te σ H Q = tl σ H fun x H1 => onRef x fun a => onDct (H1 a) fun kvs => ∀ o, lc (Itd a o kvs) fr tc te σ (upd H1 a (.frz o (.dK kvs))) Q := by
  unfold tComp iDct
  rfl
end
/-! ### reading dicts, frozen or not -/
section
variable {td ty tx : TE} {σ : St} {H : Hp} {Q : VK} {D : Ends} {a : Addr} {v w x : V}
theorem onRef_eq {k : Addr → Prop} : (∃ a, x = .ref a ∧ k a) = onRef x k := propext ⟨fun ⟨a, e, h⟩ => by subst e; exact h, onRef_of⟩
theorem e_rget1 : tDGet1 td ty σ H Q = td σ H fun x H1 => onRef x fun a => IsD H1 a ∧ ty σ H1 fun y H2 => ∃ o, DGet H2 a y o ∧ Q (o.getD .non) H2 := by simp only [tDGet1, onRef_eq]
theorem e_rget : tDGet td ty σ H Q = td σ H fun x H1 => ty σ H1 fun y H2 => onRef x fun a => ∃ v, DGet H2 a y (some v) ∧ Q v H2 := by
  unfold tDGet
  congr 1
  funext x H1
  congr 1
  funext y H2
  exact propext ⟨fun ⟨a, v, e, h⟩ => by subst e; exact ⟨v, h⟩, fun h => by obtain ⟨a, rfl, v, h⟩ := onRef_of h; exact ⟨a, v, rfl, h⟩⟩
theorem e_rin : tDIn ty td σ H Q = ty σ H fun y H1 => td σ H1 fun x H2 => onRef x fun a => ∃ o, DGet H2 a y o ∧ Q (.bl o.isSome) H2 := by
  unfold tDIn
  congr 1
  funext y H1
  congr 1
  funext x H2
  exact propext ⟨fun ⟨a, o, e, h⟩ => by subst e; exact ⟨o, h⟩, fun h => by obtain ⟨a, rfl, o, h⟩ := onRef_of h; exact ⟨a, o, rfl, h⟩⟩
theorem e_rpop2 : tDPop2 td ty tx σ H Q = td σ H fun x H1 => onRef x fun a => IsD H1 a ∧ ty σ H1 fun y H2 => tx σ H2 fun z H3 => ∃ kvs k, H3 a = some (.dK kvs) ∧ y = kV k ∧ (∀ v, valV kvs k = some v → Q v (upd H3 a (.dK (dropK kvs k)))) ∧ (valV kvs k = none → Q z H3) := by
  simp only [tDPop2, onRef_eq]
theorem e_dictP {l : Addr} : cDictP [.ref l] H Q = onLst (H l) fun xs => ∃ kvs, PairsAt H xs kvs ∧ ∀ p, H p = none → Q (.ref p) (upd H p (.dK (mergeK [] kvs))) := rfl
end
end L2
namespace L2
open PySem PySem.Spec PyProof.Rows
/-! ### texts: str(x), sep.join(xs), x.split(sep); tuple(xs) -/
/-- the items are texts: these -/
noncomputable def strsV : List V → Option (List Str)
  | [] => some []
  | .str x :: vs => (strsV vs).map (x :: ·)
  | _ :: _ => none
theorem strsV_map : ∀ ys : List Str, strsV (ys.map V.str) = some ys
  | [] => rfl
  | y :: ys => by
    show (strsV (ys.map V.str)).map (y :: ·) = _
    rw [strsV_map ys]
    rfl
theorem strsV_of : ∀ {xs : List V} {ys : List Str}, strsV xs = some ys → xs = ys.map V.str
  | [], ys, h => by cases h; rfl
  | x :: xs, ys, h => by
    cases x with
    | str z =>
      simp only [strsV, Option.map_eq_some_iff] at h
      obtain ⟨zs, e, rfl⟩ := h
      rw [strsV_of e]
      rfl
    | _ => cases h
theorem strsAre : ∀ {ys : List Str} {its : List Value}, Vals (ys.map V.str) its → StrsAre its ys
  | [], _, .nil => .nil
  | _ :: _, _, .cons ⟨_, h⟩ r => by subst h; exact .cons _ _ (strsAre r)
theorem vals_from : ∀ (ys : List Str) (k : Nat), Vals (ys.map V.str) (strsFrom k ys)
  | [], _ => .nil
  | _ :: ys, k => .cons ⟨_, rfl⟩ (vals_from ys (k + 1))
noncomputable def cStr : List V → Hp → VK → Prop := fun vs H Q => match vs with
  | [.int i] => i.natAbs.log2 < 1920 ∧ Q (.str (toString i)) H
  | [.str x] => Q (.str x) H
  | _ => False
noncomputable def cJoin : V → List V → Hp → VK → Prop := fun x vs H Q => onStr x fun sep => on1 vs fun y => onRef y fun l => onLst (H l) fun xs => onO (strsV xs) fun ys => (ys.map fun z => z.length).sum + ys.length * sep.length ≤ 16777216 ∧ Q (.str (Txt.join sep ys)) H
noncomputable def cSplit : V → List V → Hp → VK → Prop := fun x vs H Q => onStr x fun z => on1 vs fun y => onStr y fun sep => (sep.length == 0) = false ∧ z.length + 2 ≤ sizeLine ∧ ∀ l, H l = none → Q (.ref l) (upd H l (.lst ((Txt.split z sep).map V.str)))
noncomputable def cTupOf : List V → Hp → VK → Prop := fun vs H Q => on1 vs fun x => onRef x fun p => onLst (H p) fun ys => ∀ l, H l = none → Q (.ref l) (upd H l (.tup ys))
theorem onStr_is {x : V} {k : Str → Prop} (h : onStr x k) : ∃ z, x = .str z ∧ k z := by
  unfold onStr at h
  split at h
  · exact ⟨_, rfl, h⟩
  · exact h.elim
theorem on1_is {vs : List V} {k : V → Prop} (h : on1 vs k) : ∃ v, vs = [v] ∧ k v := by
  unfold on1 at h
  split at h
  · exact ⟨_, rfl, h⟩
  · exact h.elim
section
variable {X : Cx}
theorem call_strC : CallR X (.type "str") cStr := fun pins s σ H xs us Q I r h => by
  unfold cStr at h
  split at h
  · exact call_str_int pins s σ H _ us Q I r ⟨_, rfl, h.1, h.2⟩
  · obtain ⟨u, rfl, t, rfl⟩ := vals1 r
    exact PySem.P.str_of_str ⟨.str _, H, I, ⟨_, rfl⟩, h⟩
  · exact h.elim
theorem call_tupC : CallR X (.type "tuple") cTupOf := fun pins s σ H xs us Q I r h => by
  obtain ⟨x, rfl, h⟩ := on1_is h
  obtain ⟨p, rfl, h⟩ := onRef_of h
  obtain ⟨ys, e, h⟩ := onLst_of h
  exact call_tuple_of pins s σ H _ us Q I r ⟨_, _, rfl, .inl ⟨.inl (.inl e), h⟩⟩
theorem mt_join : MtR X "str.join" cJoin := by
  intro pins s σ H x xs v us Q I rx r h
  obtain ⟨sep, rfl, h⟩ := onStr_is h
  obtain ⟨y, rfl, h⟩ := on1_is h
  obtain ⟨l, rfl, h⟩ := onRef_of h
  obtain ⟨zs, e, h⟩ := onLst_of h
  obtain ⟨ys, ey, hz, q⟩ := onO_of h
  cases strsV_of ey
  obtain ⟨u, rfl, ru⟩ := vals1 r
  cases ru
  obtain ⟨t, rfl⟩ := rx
  obtain ⟨its, r', pl, _⟩ := I.list (.inl (.inl e) : SqL X.K H l _)
  exact join_list pl.isList (by simpa using strsAre r') hz fun t' k => ⟨.str _, H, I.tok _, ⟨_, rfl⟩, q⟩
theorem mt_split : MtR X "str.split" cSplit := by
  intro pins s σ H x xs v us Q I rx r h
  obtain ⟨z, rfl, h1⟩ := onStr_is h
  obtain ⟨y, rfl, h2⟩ := on1_is h1
  obtain ⟨sep, rfl, h0, hz, q⟩ := onStr_is h2
  obtain ⟨u, rfl, t', rfl⟩ := vals1 r
  obtain ⟨t, rfl⟩ := rx
  have fin : ∀ (l : List Value) (n : Nat) (k : Nat), Vals ((Txt.split z sep).map V.str) l → (Txt.split z sep).length ≤ sizeLine → EP X pins σ Q (.ref s.heap.objs.size) { s with heap := s.heap.push { cls := .type "list", data := .seq l.toArray n }, toks := k } := fun l n k hv hl => by
    refine ⟨.ref _, _, I.laid (t' := k) (fun b o e => Heap.get?_push_of_some _ e) (Nat.le_refl _) (show ObjOk X.prog X.w _ _ _ (.lst ((Txt.split z sep).map V.str)) from ⟨by simpa using hl, l, n, hv, ?_⟩), rfl, q _ (I.hok.fresh (Nat.le_refl _))⟩
    exact Heap.get?_push_size _ rfl
  have hl : (Txt.split z sep).length ≤ sizeLine := by
    have := len_le_of_split (l := (Txt.split z sep).map fun a => (a, (0 : Nat))) (x := z) (y := sep) (by simp [Function.comp_def])
    simp only [List.length_map] at this
    omega
  unfold Txt.split at fin hl
  by_cases c1 : (decide (z.length < sep.length) || decide (Builtin.Str.strKind z < Builtin.Str.strKind sep)) = true
  · rw [if_pos c1] at fin hl
    exact call_meets F.slot_str_split (typeIs_str s z t) F.entry_str_split (F.args_str_split_2 _ _) (meets_str_split_cannot_occur z sep t t' c1) (fin [.str z t] 0 s.toks (.cons ⟨_, rfl⟩ .nil) hl)
  rw [if_neg c1] at fin hl
  by_cases c2 : (Builtin.Str.occurrences z sep 0 z.length (z.length + 1)).isEmpty = true
  · rw [if_pos c2] at fin hl
    exact call_meets F.slot_str_split (typeIs_str s z t) F.entry_str_split (F.args_str_split_2 _ _) (meets_str_split_not_found z sep t t' (by simpa using c1) h0 c2) (fin [.str z t] 0 s.toks (.cons ⟨_, rfl⟩ .nil) hl)
  · rw [if_neg c2] at fin hl
    exact call_meets F.slot_str_split (typeIs_str s z t) F.entry_str_split (F.args_str_split_2 _ _) (meets_str_split_sep z sep t t' (by simpa using c1) h0 (by simpa using c2) (by omega) hl) (fin _ 0 _ (vals_from _ _) hl)
/-- != of a tuple and () -/
noncomputable def cNeTE : R2 := fun x y H Q => onRef x fun a => onRef y fun b => onTup (H a) fun xs => onTup (H b) fun ys => ys = [] ∧ Q (.bl (!xs.isEmpty)) H
end
section
variable {K : PySem.W.Frag} {T : String} {r : V → List V → Hp → VK → Prop} {to : TE} {t : TA} {σ : St} {H : Hp} {Q : VK} {x y : Str} {i : Int} {p : Addr} {ys : List Str}
theorem e_bm : tBM K T r to t σ H Q = to σ H fun x H1 => tyV K T x H1 ∧ t σ H1 fun xs H2 => r x xs H2 Q := rfl
theorem e_tyS : tyV K "str" (.str x) H = True := eq_true rfl
theorem e_strI : cStr [.int i] H Q = (i.natAbs.log2 < 1920 ∧ Q (.str (toString i)) H) := rfl
theorem e_strS : cStr [.str x] H Q = Q (.str x) H := rfl
theorem e_join : cJoin (.str x) [.ref p] H Q = onLst (H p) fun xs => onO (strsV xs) fun ys => (ys.map fun z => z.length).sum + ys.length * x.length ≤ 16777216 ∧ Q (.str (Txt.join x ys)) H := rfl
theorem e_strsV : strsV (ys.map V.str) = some ys := strsV_map ys
theorem e_split : cSplit (.str x) [.str y] H Q = ((y.length == 0) = false ∧ x.length + 2 ≤ sizeLine ∧ ∀ l, H l = none → Q (.ref l) (upd H l (.lst ((Txt.split x y).map V.str)))) := rfl
theorem e_neTE {q : Addr} : cNeTE (.ref p) (.ref q) H Q = onTup (H p) fun xs => onTup (H q) fun ys => ys = [] ∧ Q (.bl (!xs.isEmpty)) H := rfl
theorem e_tupOf : cTupOf [.ref p] H Q = onLst (H p) fun ys => ∀ l, H l = none → Q (.ref l) (upd H l (.tup ys)) := rfl
end
end L2
namespace L2
open PySem PySem.Spec PyProof.Rows
/-! ### f-strings; list methods with arguments; truths of lists, tuples, dicts; comprehensions over tuples; a raise that is never come to -/
noncomputable abbrev TJ := Str → St → Hp → (Str → Hp → Prop) → Prop
noncomputable def tFmt (te : TE) : TE := fun σ H Q => te σ H fun x H1 => onStr x fun z => z.length ≤ sizeLine ∧ Q (.str z) H1
noncomputable def tJ0 : TJ := fun acc _ H Q => Q acc H
noncomputable def tJ1 (te : TE) (tj : TJ) : TJ := fun acc σ H Q => te σ H fun x H1 => onStr x fun z => (acc ++ z).length ≤ sizeLine ∧ tj (acc ++ z) σ H1 Q
noncomputable def tJoined (tj : TJ) : TE := fun σ H Q => tj Str.empty σ H fun out H1 => out.length ≤ sizeLine ∧ Q (.str out) H1
section
variable {X : Cx} {e a b : Expr} {es : List Expr} {te : TE} {tj : TJ} {pos : Pos}
end
/-- a method of a list, handed one thing or more -/
noncomputable def tLM (r : V → List V → Hp → VK → Prop) (to : TE) (t : TA) : TE := fun σ H Q => to σ H fun x H1 => onRef x fun a => onLst (H1 a) fun _ => t σ H1 fun xs H2 => r (.ref a) xs H2 Q
noncomputable def cExt : V → List V → Hp → VK → Prop := fun x vs H Q => onRef x fun a => on1 vs fun y => onRef y fun b => onLst (H a) fun xs => onLst (H b) fun zs => xs.length + zs.length ≤ sizeLine ∧ Q .non (upd H a (.lst (xs ++ zs)))
/-- xs.pop(0) -/
noncomputable def cPop0 : V → List V → Hp → VK → Prop := fun x vs H Q => onRef x fun a => on1 vs fun y => onInt y fun i => onLst (H a) fun xs => i = 0 ∧ onO xs[0]? fun v => Q v (upd H a (.lst xs.tail))
section
variable {X : Cx} {o e : Expr} {es : List Expr} {to : TE} {t : TA} {name : Str} {apos cpos : Pos} {id : String} {r : V → List V → Hp → VK → Prop}
end
noncomputable def truR : Option HO → Option Bool
  | some (.lst xs) => some (!xs.isEmpty)
  | some (.tup xs) => some (!xs.isEmpty)
  | some (.dK kvs) => some (!kvs.isEmpty)
  | _ => none
noncomputable def truO (H : Hp) : V → Option Bool
  | .non => some false
  | .bl b => some b
  | .int i => some (i != 0)
  | .ref p => truR (H p)
  | _ => none
noncomputable def tTruth (ta : TE) : TT := fun σ H Q => ta σ H fun x H' => onO (truO H' x) fun k => Q k H'
section
variable {te to : TE} {t : TA} {tj : TJ} {σ : St} {H : Hp} {Q : VK} {x acc : Str} {r : V → List V → Hp → VK → Prop} {QS : Str → Hp → Prop} {B : Bool → Hp → Prop} {D : Ends} {p q : Addr} {vs : List V} {kvs : List (Key × V)} {v : V} {b : Bool} {i : Int}
theorem e_fmt : tFmt te σ H Q = te σ H fun x H1 => onStr x fun z => z.length ≤ sizeLine ∧ Q (.str z) H1 := rfl
theorem e_j0 : tJ0 acc σ H QS = QS acc H := rfl
theorem e_j1 : tJ1 te tj acc σ H QS = te σ H fun x H1 => onStr x fun z => (acc ++ z).length ≤ sizeLine ∧ tj (acc ++ z) σ H1 QS := rfl
theorem e_joined : tJoined tj σ H Q = tj Str.empty σ H fun out H1 => out.length ≤ sizeLine ∧ Q (.str out) H1 := rfl
theorem e_estr : Str.empty ++ x = x := by
  show (⟨#[] ++ x.cps⟩ : Str) = x
  rw [Array.empty_append]
theorem e_lm : tLM r to t σ H Q = to σ H fun x H1 => onRef x fun a => onLst (H1 a) fun _ => t σ H1 fun xs H2 => r (.ref a) xs H2 Q := rfl
theorem e_ext : cExt (.ref p) [.ref q] H Q = onLst (H p) fun xs => onLst (H q) fun zs => xs.length + zs.length ≤ sizeLine ∧ Q .non (upd H p (.lst (xs ++ zs))) := rfl
theorem e_pop0 : cPop0 (.ref p) [.int 0] H Q = onLst (H p) fun xs => (0 : Int) = 0 ∧ onO xs[0]? fun v => Q v (upd H p (.lst xs.tail)) := rfl
theorem e_truth : tTruth te σ H B = te σ H fun x H' => onO (truO H' x) fun k => B k H' := rfl
theorem e_truN : truO H .non = some false := rfl
theorem e_truB : truO H (.bl b) = some b := rfl
theorem e_truI : truO H (.int i) = some (i != 0) := rfl
theorem e_truRef : truO H (.ref p) = truR (H p) := rfl
theorem e_truL : truR (some (.lst vs)) = some (!vs.isEmpty) := rfl
theorem e_truT : truR (some (.tup vs)) = some (!vs.isEmpty) := rfl
theorem e_truD : truR (some (.dK kvs)) = some (!kvs.isEmpty) := rfl
theorem e_never : tNever D σ H = False := rfl
variable {fr : List Nat} {tc : TT} {tl : TE} {K : PySem.W.Frag}
theorem e_compT : tComp (iTup K tl) fr tc te σ H Q = tl σ H fun x H1 => onRef x fun a => (∃ xs, SqT K H1 a xs) ∧ lc (Itt K a) fr tc te σ H1 Q := by
  unfold tComp iTup
  congr 1
  funext x H1
  exact propext ⟨fun ⟨a, e, h1, h⟩ => by subst e; exact ⟨h1, h⟩, fun h => by obtain ⟨a, rfl, h1, h⟩ := onRef_of h; exact ⟨a, rfl, h1, h⟩⟩
theorem lc_tup {a : Addr} {ys : List V} (Pv : Nat → List V → Hp → Prop) (h0 : Pv 0 [] H) (hz : ∀ i xs H, Pv i xs H → xs.length ≤ 1000000) (hl : ∀ i xs H, Pv i xs H → SqT K H a ys)
    (hs : ∀ i y xs H, i < ys.length → ys[i]? = some y → Pv i xs H → tc (some y :: compSt fr σ) H fun b H2 => if b = true then te (some y :: compSt fr σ) H2 (fun z H3 => Pv (i + 1) (xs ++ [z]) H3) else Pv (i + 1) xs H2)
    (hd : ∀ xs H, Pv ys.length xs H → ∀ p, H p = none → Q (.ref p) (upd H p (.lst xs))) : lc (Itt K a) fr tc te σ H Q := by
  refine ⟨cW ys.length Pv, ⟨ys.length, by simp, Nat.zero_le _, h0⟩, ?_⟩
  rintro i m xs H ⟨rfl, hi, p⟩
  refine ⟨hz i xs H p, ?_⟩
  have q := hl i xs H p
  by_cases hlt : i < ys.length
  · refine .inr ⟨⟨ys, ys[i], q, by simp [hlt]⟩, fun y H' yy => ?_⟩
    obtain ⟨e, yy⟩ := yy
    subst e
    simp only [cW_eq hlt]
    exact hs i y xs _ hlt (yy ys q) p
  · have e : i = ys.length := by omega
    subst e
    exact .inl ⟨⟨ys, q, Nat.le_refl _⟩, hd xs H p⟩
end
end L2
namespace L2
open PySem PySem.Spec PyProof.Rows
/-! ### == and != of lists and tuples that hold others; xs * n, list(xs), len(script) -/
section
variable {X : Cx} {pins : List (Addr × Obj)} {σ : St} {H : Hp} {s : Shared}
theorem rcNe_at {n : Nat} {a b : Addr} {r : Bool} {A : Around} (h : RcA X.K H n a b r) (I : Inv X pins σ H s) (hu : A.units + n < cLine) : SeqAt.RcNeAt A s (.ref a) (.ref b) (!r) := by
  cases h with
  | list hx hy hl he =>
    obtain ⟨its, r1, p1, z1⟩ := I.list hx
    obtain ⟨jts, r2, p2, z2⟩ := I.list hy
    have l1 := r1.length
    have l2 := r2.length
    have := SeqAt.RcNeAt.lists p1.isList p2.isList (by simp only [List.size_toArray]; omega) (by omega) (A := A) (fun j h1 h2 => by
      obtain ⟨x, ex, rx⟩ := item_of r1 h1
      obtain ⟨y, ey, ry⟩ := item_of r2 h2
      exact eqA_at (he j x y ex ey) I rx ry (by show A.units + 1 + _ < _; omega))
    rw [List.size_toArray, ← l1] at this
    exact this
  | listLen hx hy hl =>
    obtain ⟨its, r1, p1, z1⟩ := I.list hx
    obtain ⟨jts, r2, p2, z2⟩ := I.list hy
    have l1 := r1.length
    have l2 := r2.length
    exact SeqAt.RcNeAt.lists_lengths p1.isList p2.isList (by simp only [List.size_toArray, bne_iff_ne, ne_eq]; omega) (by omega)
  | tup hx hy he =>
    obtain ⟨its, r1, p1, z1⟩ := I.tuple hx
    obtain ⟨jts, r2, p2, z2⟩ := I.tuple hy
    have l1 := r1.length
    have l2 := r2.length
    have := SeqAt.RcNeAt.tuples (show s.heap.IsTuple _ its.toArray from p1) (show s.heap.IsTuple _ jts.toArray from p2) (by omega) (A := A) (fun j h1 h2 => by
      obtain ⟨x, ex, rx⟩ := item_of r1 h1
      obtain ⟨y, ey, ry⟩ := item_of r2 h2
      exact eqA_at (he j x y ex ey) I rx ry (by show A.units + 1 + _ < _; omega))
    rw [List.size_toArray, List.size_toArray, ← l1, ← l2] at this
    exact this
end
noncomputable def cNeA (K : PySem.W.Frag) (n : Nat) : R2 := fun x y H Q => onRef x fun a => onRef y fun b => ∃ r, RcA K H n a b r ∧ Q (.bl (!r)) H
noncomputable def cEqA (K : PySem.W.Frag) (n : Nat) : R2 := fun x y H Q => onRef x fun a => onRef y fun b => ∃ r, RcA K H n a b r ∧ Q (.bl r) H
theorem hu_n {A : Around} {k : Nat} (hr : Room k A) {n : Nat} (h : n ≤ 60) : A.units + n < cLine := Nat.lt_of_le_of_lt (Nat.add_le_add_left (by omega : n ≤ 64) _) hr.units
noncomputable def repV (n : Int) (xs : List V) : List V := (List.replicate n.toNat xs).flatten
noncomputable def cRep : R2 := fun x y H Q => onRef x fun l => onInt y fun k => onLst (H l) fun xs => (-(2 ^ 63) ≤ k ∧ k < 2 ^ 63) ∧ xs.length * k.toNat ≤ sizeLine ∧ ∀ p, H p = none → Q (.ref p) (upd H p (.lst (repV k xs)))
noncomputable def cLstOf : List V → Hp → VK → Prop := fun vs H Q => on1 vs fun x => onRef x fun p => onSeq (H p) fun ys => ∀ l, H l = none → Q (.ref l) (upd H l (.lst ys))
noncomputable def cLenK (K : PySem.W.Frag) : List V → Hp → VK → Prop := fun vs H Q => on1 vs fun x => onRef x fun p => ∃ xs, SqL K H p xs ∧ Q (.int xs.length) H
section
variable {X : Cx}
theorem op_neA (n : Nat) (hu : X.A.units + n < cLine) : OpR X (compareOp .NotEq) (cNeA X.K n) := fun pins s σ H x y v u Q I rx ry h => by
  obtain ⟨a, rfl, h1⟩ := onRef_of h
  obtain ⟨b, rfl, r, e, q⟩ := onRef_of h1
  cases rx
  cases ry
  exact rcNe_at e I hu X.prog X.w X.xe _ (fin_bl I q rfl)
end
section
variable {K : PySem.W.Frag} {H : Hp} {Q : VK} {a b p : Addr} {n : Nat} {i : Int}
theorem e_neA : cNeA K n (.ref a) (.ref b) H Q = ∃ r, RcA K H n a b r ∧ Q (.bl (!r)) H := rfl
theorem e_eqA : cEqA K n (.ref a) (.ref b) H Q = ∃ r, RcA K H n a b r ∧ Q (.bl r) H := rfl
theorem e_rep : cRep (.ref a) (.int i) H Q = onLst (H a) fun xs => (-(2 ^ 63) ≤ i ∧ i < 2 ^ 63) ∧ xs.length * i.toNat ≤ sizeLine ∧ ∀ p, H p = none → Q (.ref p) (upd H p (.lst (repV i xs))) := rfl
theorem e_lstOf : cLstOf [.ref p] H Q = onSeq (H p) fun ys => ∀ l, H l = none → Q (.ref l) (upd H l (.lst ys)) := rfl
theorem e_lenK : cLenK K [.ref p] H Q = ∃ xs, SqL K H p xs ∧ Q (.int xs.length) H := rfl
end
/-- two lists of the same things, all of them in the heap -/
theorem RcA.same {K : PySem.W.Frag} {H : Hp} {a b : Addr} {xs : List V} (h1 : H a = some (.lst xs)) (h2 : H b = some (.lst xs)) (h : ∀ x ∈ xs, ∃ c, x = .ref c) : RcA K H 1 a b true := by
  have := RcA.list (K := K) (H := H) (n := 0) (a := a) (b := b) (e := fun _ => true) (SqL.of h1) (SqL.of h2) rfl fun j x y e1 e2 => by
    rw [e1] at e2
    cases e2
    obtain ⟨c, rfl⟩ := h x (List.mem_of_getElem? e1)
    exact .same
  rwa [show ((List.range xs.length).all fun _ => true) = true by simp [List.all_eq_true]] at this
end L2
namespace L2
open PySem PySem.Spec PyProof.Rows
/-! ### texts: split and join by one sign, lines, int(text), startswith, endswith, <= of texts, all -/
noncomputable def Str.cs (x : Str) : List Nat := x.cps.toList
theorem str_ext {x y : Str} (h : x.cps.toList = y.cps.toList) : x = y := by
  cases x; cases y; simp only [Str.mk.injEq]; exact Array.toList_inj.mp h
theorem cps_app (a b : Str) : (a ++ b).cps.toList = a.cps.toList ++ b.cps.toList := Array.toList_append
/-- texts put together with one sign between -/
noncomputable def jn (c : Nat) : List (List Nat) → List Nat
  | [] => []
  | [w] => w
  | w :: v :: r => w ++ c :: jn c (v :: r)
theorem cut_eq {c : Nat} : ∀ {u w R S : List Nat}, c ∉ u → c ∉ w → u ++ c :: R = w ++ c :: S → u = w ∧ R = S
  | [], [], _, _, _, _, h => by simpa using h
  | [], y :: w, _, _, _, hw, h => by
    simp only [List.nil_append, List.cons_append, List.cons.injEq] at h
    exact absurd (List.mem_cons.mpr (.inl h.1)) hw
  | x :: u, [], _, _, hu, _, h => by
    simp only [List.nil_append, List.cons_append, List.cons.injEq] at h
    exact absurd (List.mem_cons.mpr (.inl h.1.symm)) hu
  | x :: u, y :: w, R, S, hu, hw, h => by
    simp only [List.cons_append, List.cons.injEq] at h
    obtain ⟨e, f⟩ := cut_eq (fun z => hu (List.mem_cons_of_mem _ z)) (fun z => hw (List.mem_cons_of_mem _ z)) h.2
    exact ⟨by rw [h.1, e], f⟩
theorem jn_inj {c : Nat} : ∀ {us ws : List (List Nat)}, us ≠ [] → ws ≠ [] → (∀ u ∈ us, c ∉ u) → (∀ w ∈ ws, c ∉ w) → jn c us = jn c ws → us = ws
  | [], _, h, _, _, _, _ => absurd rfl h
  | _ :: _, [], _, h, _, _, _ => absurd rfl h
  | [u], [w], _, _, _, _, h => by rw [show u = w from h]
  | [u], w :: v :: r, _, _, hu, _, h => by
    have h : u = w ++ c :: jn c (v :: r) := h
    exact absurd (by rw [h]; simp) (hu u (by simp))
  | u :: v :: r, [w], _, _, _, hw, h => by
    have h : u ++ c :: jn c (v :: r) = w := h
    exact absurd (by rw [← h]; simp) (hw w (by simp))
  | u :: u2 :: us, w :: w2 :: ws, _, _, hu, hw, h => by
    obtain ⟨e, f⟩ := cut_eq (hu u (by simp)) (hw w (by simp)) (show u ++ c :: jn c (u2 :: us) = w ++ c :: jn c (w2 :: ws) from h)
    rw [e, jn_inj (by simp) (by simp) (fun z hz => hu z (List.mem_cons_of_mem _ hz)) (fun z hz => hw z (List.mem_cons_of_mem _ hz)) f]
theorem fold_jn (c : Nat) : ∀ (l : List Str) (x : List Nat), (List.foldl (fun acc (p : Str) => acc ++ (#[c] : Array Nat) ++ p.cps) x.toArray l).toList = jn c (x :: l.map fun p => p.cps.toList)
  | [], x => by simp [jn]
  | y :: l, x => by
    show (List.foldl _ (x.toArray ++ #[c] ++ y.cps) l).toList = _
    have e : x.toArray ++ #[c] ++ y.cps = (x ++ c :: y.cps.toList).toArray := by apply Array.toList_inj.mp; simp
    rw [e, fold_jn c l (x ++ c :: y.cps.toList)]
    cases l with
    | nil => simp [jn]
    | cons z l => simp [jn]
theorem join_jn (c : Nat) (ws : List Str) : (Txt.join ⟨#[c]⟩ ws).cps.toList = jn c (ws.map fun p => p.cps.toList) := by
  cases ws with
  | nil => rfl
  | cons w ws =>
    exact fold_jn c ws w.cps.toList
theorem split_ne (x y : Str) : Txt.split x y ≠ [] := by
  unfold Txt.split
  split
  · simp
  · split
    · simp
    · unfold Builtin.Str.partsBetween
      simp only [ne_eq, List.map_eq_nil_iff]
      intro h
      have := congrArg List.length h
      simp at this
theorem map_cps {us ws : List Str} (h : (us.map fun p => p.cps.toList) = ws.map fun p => p.cps.toList) : us = ws := by
  induction us generalizing ws with
  | nil => cases ws with
    | nil => rfl
    | cons w ws => simp at h
  | cons u us ih => cases ws with
    | nil => simp at h
    | cons w ws =>
      simp only [List.map_cons, List.cons.injEq] at h
      rw [str_ext h.1, ih h.2]
/-- what was joined by a sign is split by it -/
theorem split_one {c : Nat} {ws : List Str} (ne : ws ≠ []) (fr : ∀ w ∈ ws, c ∉ w.cps.toList) : Txt.split (Txt.join ⟨#[c]⟩ ws) ⟨#[c]⟩ = ws := by
  apply map_cps
  refine jn_inj (c := c) (by simpa using split_ne _ _) (by simpa using ne) (fun u hu => ?_) (fun u hu => ?_) ?_
  · obtain ⟨p, hp, rfl⟩ := List.mem_map.mp hu
    exact StrLaws.split_free _ _ p hp
  · obtain ⟨p, hp, rfl⟩ := List.mem_map.mp hu
    exact fr p hp
  · rw [← join_jn, ← join_jn]
    show (Builtin.Str.glued _ _).cps.toList = _
    rw [StrLaws.glued_eq_join, StrLaws.join_split]
theorem fold_flat : ∀ (l : List Str) (x : List Nat), (List.foldl (fun acc (p : Str) => acc ++ ("" : Str).cps ++ p.cps) x.toArray l).toList = x ++ (l.map fun p => p.cps.toList).flatten
  | [], x => by simp
  | y :: l, x => by
    have e0 : ("" : Str).cps = #[] := by decide +kernel
    show (List.foldl _ (x.toArray ++ ("" : Str).cps ++ y.cps) l).toList = _
    have e : x.toArray ++ ("" : Str).cps ++ y.cps = (x ++ y.cps.toList).toArray := by rw [e0]; apply Array.toList_inj.mp; simp
    rw [e, fold_flat l (x ++ y.cps.toList)]
    simp
theorem join_flat (ws : List Str) : (Txt.join "" ws).cps.toList = (ws.map fun p => p.cps.toList).flatten := by
  cases ws with
  | nil => rfl
  | cons w ws =>
    exact fold_flat ws w.cps.toList
theorem nl_cps : ("\n" : Str) = ⟨#[10]⟩ ∧ (" " : Str) = ⟨#[32]⟩ ∧ ("-" : Str) = ⟨#[45]⟩ ∧ ("0" : Str) = ⟨#[48]⟩ ∧ ("9" : Str) = ⟨#[57]⟩ := by decide +kernel
/-- lines, each with its line feed, and what stands behind -/
theorem lines_tail (rows : List Str) (tl : Str) : Txt.join "" (rows.map fun r : Str => r ++ "\n") ++ tl = Txt.join "\n" (rows ++ [tl]) := by
  apply str_ext
  rw [cps_app, join_flat, nl_cps.1, join_jn]
  induction rows with
  | nil => simp [jn]
  | cons r rows ih =>
    simp only [List.map_cons, List.flatten_cons, cps_app, List.cons_append, List.append_assoc] at ih ⊢
    rw [ih]
    cases rows with
    | nil => simp [jn]
    | cons z l => simp [jn]
theorem lines_split {rows : List Str} {tl : Str} (h : ∀ r ∈ rows, 10 ∉ r.cps.toList) (ht : 10 ∉ tl.cps.toList) : Txt.split (Txt.join "" (rows.map fun r : Str => r ++ "\n") ++ tl) "\n" = rows ++ [tl] := by
  rw [lines_tail, nl_cps.1]
  exact split_one (by simp) fun w hw => by
    rcases List.mem_append.mp hw with hw | hw
    · exact h w hw
    · rw [show w = tl by simpa using hw]; exact ht
theorem cut_last1 {α : Type} (f : α → V) (xs : List α) (y : α) : cutV ((xs ++ [y]).map f) none (some (-1)) = xs.map f := by
  have hl : ((xs ++ [y]).map f).length = xs.length + 1 := by simp
  unfold cutV
  have h1 : HT.sIx ((xs ++ [y]).map f).length 0 none = 0 := rfl
  have h2 : HT.sIx ((xs ++ [y]).map f).length ((xs ++ [y]).map f).length (some (-1)) = xs.length := by
    rw [hl]
    unfold HT.sIx
    simp
    omega
  rw [h1, h2]
  simp
/-! rules -/
noncomputable def cIntT : List V → Hp → VK → Prop := fun vs H Q => on1 vs fun x => onStr x fun z => z.length ≤ 640 ∧ onO (intText? z) fun n => Q (.int n) H
noncomputable def cStarts : V → List V → Hp → VK → Prop := fun x vs H Q => onStr x fun z => on1 vs fun y => onStr y fun p => Q (.bl (Txt.startswith z p)) H
noncomputable def cEnds : V → List V → Hp → VK → Prop := fun x vs H Q => onStr x fun z => on1 vs fun y => onStr y fun p => Q (.bl (Txt.endswith z p)) H
noncomputable def cLeS : R2 := fun x y H Q => onStr x fun i => onStr y fun j => Q (.bl (!decide (j.cps.toList < i.cps.toList))) H
noncomputable def boolsV : List V → Option (List Bool)
  | [] => some []
  | .bl b :: r => (boolsV r).map (b :: ·)
  | _ => none
theorem boolsV_of : ∀ {xs : List V} {bs : List Bool}, boolsV xs = some bs → xs = bs.map V.bl
  | [], bs, h => by cases h; rfl
  | x :: xs, bs, h => by
    cases x with
    | bl b =>
      simp only [boolsV, Option.map_eq_some_iff] at h
      obtain ⟨cs, e, rfl⟩ := h
      rw [boolsV_of e]
      rfl
    | _ => cases h
theorem e_boolsV : ∀ {bs : List Bool}, boolsV (bs.map V.bl) = some bs
  | [] => rfl
  | b :: bs => by
    show (boolsV (bs.map V.bl)).map (b :: ·) = _
    rw [e_boolsV]
    rfl
noncomputable def cAll : List V → Hp → VK → Prop := fun vs H Q => on1 vs fun x => onRef x fun p => onLst (H p) fun xs => onO (boolsV xs) fun bs => Q (.bl (bs.all id)) H
/-- in, not in: a tuple of the module -/
noncomputable def cInK (K : PySem.W.Frag) (neg : Bool) : R2 := fun x y H Q => onRef y fun p => ∃ xs, SqT K H p xs ∧ flatV x = true ∧ xs.all flatV = true ∧ Q (.bl (if neg = true then !inV x xs else inV x xs)) H
section
variable {X : Cx}
theorem call_intT : CallR X (.type "int") cIntT := fun pins s σ H xs us Q I r h => by
  obtain ⟨x, rfl, h1⟩ := on1_is h
  obtain ⟨z, rfl, hz, h2⟩ := onStr_is h1
  obtain ⟨n, e, q⟩ := onO_of h2
  obtain ⟨u, rfl, t, rfl⟩ := vals1 r
  exact PySem.W.KIN.call_text e hz ⟨.int n, H, I.tok _, ⟨_, rfl⟩, q⟩
theorem mt_startswith : MtR X "str.startswith" cStarts := fun pins s σ H x xs v us Q I rx r h => by
  obtain ⟨z, rfl, h1⟩ := onStr_is h
  obtain ⟨y, rfl, h2⟩ := on1_is h1
  obtain ⟨p, rfl, q⟩ := onStr_is h2
  obtain ⟨u, rfl, t', rfl⟩ := vals1 r
  obtain ⟨t, rfl⟩ := rx
  exact PySem.SC.startswith ⟨.bl _, H, I, rfl, q⟩
theorem op_leS : OpR X (compareOp .LtE) cLeS := op_le_str.imp fun x y H Q h => by
  obtain ⟨i, rfl, h1⟩ := onStr_is h
  obtain ⟨j, rfl, q⟩ := onStr_is h1
  exact ⟨i, j, rfl, rfl, q⟩
theorem call_allC (hc : X.calm = true) : CallR X (.builtin "all") cAll := fun pins s σ H xs us Q I r h => by
  obtain ⟨x, rfl, h1⟩ := on1_is h
  obtain ⟨p, rfl, h2⟩ := onRef_of h1
  obtain ⟨ys, e, h3⟩ := onLst_of h2
  obtain ⟨bs, eb, q⟩ := onO_of h3
  cases boolsV_of eb
  exact call_all hc pins s σ H _ us Q I r ⟨p, bs, rfl, SqL.of e, q⟩
theorem op_notInK : OpR X (compareOp .NotIn) (cInK X.K true) := op_notIn_seq.imp fun x y H Q h => by
  obtain ⟨p, rfl, xs, e, h1, h2, q⟩ := onRef_of h
  exact ⟨_, _, rfl, .inr e, h1, h2, q⟩
end
section
variable {K : PySem.W.Frag} {H : Hp} {Q : VK} {p : Addr} {x y z : Str} {neg : Bool} {v : V}
theorem e_intT : cIntT [.str z] H Q = (z.length ≤ 640 ∧ onO (intText? z) fun n => Q (.int n) H) := rfl
theorem e_starts : cStarts (.str z) [.str y] H Q = Q (.bl (Txt.startswith z y)) H := rfl
theorem e_ends : cEnds (.str z) [.str y] H Q = Q (.bl (Txt.endswith z y)) H := rfl
theorem e_leS : cLeS (.str x) (.str y) H Q = Q (.bl (!decide (y.cps.toList < x.cps.toList))) H := rfl
theorem e_all : cAll [.ref p] H Q = onLst (H p) fun xs => onO (boolsV xs) fun bs => Q (.bl (bs.all id)) H := rfl
theorem e_inK : cInK K neg v (.ref p) H Q = ∃ xs, SqT K H p xs ∧ flatV v = true ∧ xs.all flatV = true ∧ Q (.bl (if neg = true then !inV v xs else inV v xs)) H := rfl
end
/-! ### numbers as they are written -/
noncomputable def digs (n : Nat) : List Nat := (Nat.toDigits 10 n).map Char.toNat
theorem digs_all (n : Nat) : ∀ c ∈ digs n, 48 ≤ c ∧ c ≤ 57 := by
  intro c hc
  obtain ⟨d, hd, rfl⟩ := List.mem_map.mp hc
  have := Nat.isDigit_of_mem_toDigits (by decide) (by decide) hd
  simp only [Char.isDigit, Bool.and_eq_true, decide_eq_true_eq] at this
  exact ⟨this.1, this.2⟩
theorem digs_ne (n : Nat) : digs n ≠ [] := by simpa [digs] using Nat.toDigits_ne_nil
theorem digs_len {n k : Nat} (hk : 0 < k) : (digs n).length ≤ k ↔ n < 10 ^ k := by
  rw [digs, List.length_map]
  exact Nat.length_toDigits_le_iff (by decide) hk
theorem digs_val (n : Nat) : NumText.digitsVal (digs n) = n := PySem.W.KIN.val_back n
theorem val_lt : ∀ (cs : List Nat) (a : Nat), (∀ c ∈ cs, 48 ≤ c ∧ c ≤ 57) → List.foldl (fun acc c => acc * 10 + (c - 48)) a cs < (a + 1) * 10 ^ cs.length
  | [], a, _ => by simp
  | c :: cs, a, h => by
    have h1 := h c (by simp)
    have h2 := val_lt cs (a * 10 + (c - 48)) fun z hz => h z (List.mem_cons_of_mem _ hz)
    rw [List.foldl_cons]
    refine Nat.lt_of_lt_of_le h2 ?_
    rw [List.length_cons, Nat.pow_succ, ← Nat.mul_assoc, Nat.mul_right_comm]
    exact Nat.mul_le_mul_right _ (by omega)
theorem digs_head {n : Nat} {cs : List Nat} (h : digs n = 48 :: cs) : n = 0 := by
  have hv := digs_val n
  have ha := digs_all n
  rw [h] at hv ha
  cases cs with
  | nil => rw [← hv]; rfl
  | cons c cs =>
    have h2 := val_lt (c :: cs) 0 fun z hz => ha z (List.mem_cons_of_mem _ hz)
    have h3 : NumText.digitsVal (48 :: c :: cs) = NumText.digitsVal (c :: cs) := by simp [NumText.digitsVal]
    rw [h3] at hv
    have h4 : n < 10 ^ (c :: cs).length := by
      rw [← hv]
      simpa [NumText.digitsVal] using h2
    have h5 := (digs_len (n := n) (k := (c :: cs).length) (by simp)).mpr h4
    rw [h] at h5
    simp at h5
    omega
theorem int_nat (n : Nat) : (Str.ofString (toString (n : Int))).cps.toList = digs n := by
  show (Str.ofString (Nat.repr n)).cps.toList = _
  rw [Nat.repr_eq_ofList_toDigits, PySem.W.Fast.ofString_ofList]
  rfl
theorem int_neg (n : Nat) : (Str.ofString (toString (Int.negSucc n))).cps.toList = 45 :: digs (n + 1) := by
  show (Str.ofString ("-" ++ Nat.repr (n + 1))).cps.toList = _
  rw [PySem.Str.ofString_eq_toList, String.toList_append, Nat.repr_eq_ofList_toDigits]
  simp [digs]
theorem int_reads (i : Int) (h : i.natAbs < 10 ^ 100) : intText? (Str.ofString (toString i)) = some i := by
  cases i with
  | ofNat n =>
    have e : (Str.ofString (toString (Int.ofNat n))).cps.toList = digs n := int_nat n
    have l : (digs n).length ≤ 100 := (digs_len (by decide)).mpr h
    rw [intText_digits (by rw [e]; exact digs_all n) (by rw [e]; exact digs_ne n) (by show (Str.ofString (toString (Int.ofNat n))).cps.size ≤ 4300; rw [← Array.length_toList, e]; omega), e, digs_val]
    rfl
  | negSucc n =>
    have e := int_neg n
    have l : (digs (n + 1)).length ≤ 100 := (digs_len (by decide)).mpr (by simpa [Int.natAbs] using h)
    rw [intText_neg e (digs_all _) (digs_ne _) (by show (Str.ofString (toString (Int.negSucc n))).cps.size ≤ 4300; rw [← Array.length_toList, e]; simp; omega), digs_val]
    rfl
/-- the figures of a word: what stands behind a - ahead -/
noncomputable def figL : List Nat → List Nat
  | 45 :: r => r
  | l => l
noncomputable def numW (w : Str) (lo hi : Int) : Bool :=
  let f := figL w.cps.toList
  decide (1 ≤ f.length) && decide (f.length ≤ (Str.ofString (toString (if hi > -lo then hi else -lo))).length) && f.all (fun c => decide (48 ≤ c) && decide (c ≤ 57)) && !(decide (f[0]? = some 48) && !decide (w = "0")) &&
    match intText? w with
    | some v => decide (lo ≤ v) && decide (v ≤ hi)
    | none => false
theorem starts_minus (w : Str) : Txt.startswith w "-" = decide (w.cps.toList[0]? = some 45) := by
  rw [nl_cps.2.2.1]
  have h := StrLaws.subAt_one w 45 0
  unfold Txt.startswith
  rw [Bool.eq_iff_iff, Bool.and_eq_true, decide_eq_true_eq, decide_eq_true_eq]
  exact h
theorem slice_one (w : Str) (h : 1 ≤ w.length) : (Txt.slice w (some 1) none).cps.toList = w.cps.toList.drop 1 := by
  have e : Txt.slice w (some 1) none = StrLaws.sliceText w (some 1) none := rfl
  rw [e, StrLaws.sliceText_from (i := 1) ⟨by decide, by simp only [Array.length_toList]; exact Int.ofNat_le.mpr h⟩]
  simp only [Int.toNat_one]
  apply List.take_of_length_le
  simp only [List.length_drop]
  omega
theorem figL_eq (w : Str) : (if Txt.startswith w "-" = true then Txt.slice w (some 1) none else w).cps.toList = figL w.cps.toList := by
  rw [starts_minus]
  cases h : w.cps.toList with
  | nil =>
    simp only [List.getElem?_nil, reduceCtorEq, decide_false, Bool.false_eq_true, if_false]
    rw [h]
    rfl
  | cons c r =>
    simp only [List.getElem?_cons_zero, Option.some.injEq]
    by_cases hc : c = 45
    · subst hc
      simp only [decide_true, if_true]
      rw [slice_one w (by show 1 ≤ w.cps.size; rw [← Array.length_toList, h]; simp), h]
      rfl
    · simp only [hc, decide_false, Bool.false_eq_true, if_false]
      rw [h]
      unfold figL
      split
      · next e => simp only [List.cons.injEq] at e; exact absurd e.1 hc
      · rfl
end L2
namespace L2
open PySem PySem.Spec PyProof.Rows
/-! ### objects of own classes: fields, methods, making -/
noncomputable def onIns (C : Addr) (o : Option HO) (k : Addr → List (Str × V) → Prop) (_u : Tg k := ()) : Prop := match o with
  | some (.ins C' dx fs) => C' = C ∧ k dx fs
  | _ => False
theorem onIns_of {C : Addr} {o : Option HO} {k : Addr → List (Str × V) → Prop} (h : onIns C o k) : ∃ dx fs, o = some (.ins C dx fs) ∧ k dx fs := by
  unfold onIns at h
  split at h
  · obtain ⟨rfl, h⟩ := h
    exact ⟨_, _, rfl, h⟩
  · exact h.elim
noncomputable def cFld (C : Addr) (f : Str) (ta : TE) : TE := fun σ H Q => ta σ H fun x H1 => onRef x fun a => onIns C (H1 a) fun _ fs => onO (fs.lookup f) fun v => Q v H1
noncomputable def cSetF (C : Addr) (f : Str) (ta tv : TE) : TS := fun D σ H => tv σ H fun y H1 => ta σ H1 fun x H2 => onRef x fun a => onIns C (H2 a) fun dx fs => fs.length < 1000 ∧ D.nx σ (upd H2 a (.ins C dx (putF f y fs)))
noncomputable def cAugF (C : Addr) (f : Str) (ta tv : TE) : TS := fun D σ H => ta σ H fun x H1 => onRef x fun a => onIns C (H1 a) fun _ fs => onO (fs.lookup f) fun v => tv σ H1 fun y H2 => onInt v fun i => onInt y fun j => onIns C (H2 a) fun dx fs' => fs'.length < 1000 ∧ D.nx σ (upd H2 a (.ins C dx (putF f (.int (i + j)) fs')))
section
variable {X : Cx} {o e value : Expr} {f : Str} {pos pos' tpos : Pos} {ta tv : TE} {C : Addr}
end
section
variable {C a dx : Addr} {fs : List (Str × V)} {k : Addr → List (Str × V) → Prop} {m f : Str} {sp : Sp} {E : XK} {ta tv : TE} {t : TA} {σ : St} {H : Hp} {Q : VK} {D : Ends} {v u : V} {r : List (Str × V)}
theorem e_onIns {k : Addr → List (Str × V) → Prop} {u : Tg k} : @onIns C (some (.ins C dx fs)) k u = k dx fs := by simp [onIns]
theorem e_fld : cFld C f ta σ H Q = ta σ H fun x H1 => onRef x fun a => onIns C (H1 a) fun _ fs => onO (fs.lookup f) fun v => Q v H1 := rfl
theorem e_setF : cSetF C f ta tv D σ H = tv σ H fun y H1 => ta σ H1 fun x H2 => onRef x fun a => onIns C (H2 a) fun dx fs => fs.length < 1000 ∧ D.nx σ (upd H2 a (.ins C dx (putF f y fs))) := rfl
theorem e_augF : cAugF C f ta tv D σ H = ta σ H fun x H1 => onRef x fun a => onIns C (H1 a) fun _ fs => onO (fs.lookup f) fun v => tv σ H1 fun y H2 => onInt v fun i => onInt y fun j => onIns C (H2 a) fun dx fs' => fs'.length < 1000 ∧ D.nx σ (upd H2 a (.ins C dx (putF f (.int (i + j)) fs'))) := rfl
theorem e_meth : tMeth C m sp [] E ta t σ H Q = ta σ H fun x H1 => onRef x fun a => onIns C (H1 a) fun _ fs => fs.lookup m = none ∧ t σ H1 fun vs H2 => sp (.ref a :: vs) H2 Q E := by
  unfold tMeth
  congr 1
  funext x H1
  refine propext ⟨fun ⟨a, dx, fs, e, e1, l, h⟩ => ?_, fun h => ?_⟩
  · subst e
    show onIns C (H1 a) _
    rw [e1, e_onIns]
    simp only [List.append_nil] at h
    exact ⟨l, h⟩
  · obtain ⟨a, rfl, h⟩ := onRef_of h
    obtain ⟨dx, fs, e1, l, h⟩ := onIns_of h
    exact ⟨a, dx, fs, rfl, e1, l, by simpa only [List.append_nil] using h⟩
theorem e_make : tMake C sp [] E t σ H Q = t σ H fun vs H1 => ∀ x dx, H1 x = none → H1 dx = none → dx ≠ x → sp (.ref x :: vs) (upd (upd H1 dx (.own x)) x (.ins C dx [])) (fun v H2 => v = .non ∧ Q (.ref x) H2) E := by
  unfold tMake
  simp only [List.append_nil]
theorem of_inj {x y : String} : (Str.ofString x = Str.ofString y) = (x = y) := w_sinj
theorem e_lookup {x y : String} : List.lookup (Str.ofString x) ((Str.ofString y, v) :: r) = if x = y then some v else List.lookup (Str.ofString x) r := by
  by_cases h : x = y
  · subst h
    simp [List.lookup]
  · have : (Str.ofString x == Str.ofString y) = false := beq_eq_false_iff_ne.mpr fun z => h (of_inj ▸ z)
    simp only [List.lookup, this, if_neg h]
theorem e_lookup0 {x : Str} : List.lookup x ([] : List (Str × V)) = none := rfl
theorem e_putF {x y : String} : putF (Str.ofString x) u ((Str.ofString y, v) :: r) = if y = x then (Str.ofString y, u) :: r else (Str.ofString y, v) :: putF (Str.ofString x) u r := by
  rw [show putF (Str.ofString x) u ((Str.ofString y, v) :: r) = (if Str.ofString y = Str.ofString x then (Str.ofString y, u) :: r else (Str.ofString y, v) :: putF (Str.ofString x) u r) from rfl]
  by_cases h : y = x
  · rw [if_pos h, if_pos (by rw [h])]
  · rw [if_neg h, if_neg fun z => h (of_inj ▸ z)]
theorem e_putF0 {x : Str} : putF x u [] = [(x, u)] := rfl
end
end L2
namespace L2
open PySem PySem.Spec PyProof.Rows
/-! ### isinstance(x, (T, U)) -/
noncomputable def tysV : List V → Option (List String)
  | [] => some []
  | .ty T :: r => (tysV r).map (T :: ·)
  | _ => none
noncomputable def tyObj (Ts : List String) : Obj := { cls := .type "tuple", data := .seq (Ts.map Value.type).toArray }
noncomputable def tTupF (t : TA) : TE := fun σ H Q => t σ H fun xs H1 => onO (tysV xs) fun Ts => xs.length ≤ sizeLine ∧ ∀ p, H1 p = none → Q (.ref p) (upd H1 p (.frz (tyObj Ts) (.tup xs)))
/-- the kind of a value -/
noncomputable def kindR : Option HO → Option String
  | some (.tup _) => some "tuple"
  | some (.lst _) => some "list"
  | _ => none
noncomputable def kindO (H : Hp) : V → Option String
  | .int _ => some "int"
  | .str _ => some "str"
  | .non => some "NoneType"
  | .bl _ => some "bool"
  | .ref p => kindR (H p)
  | _ => none
/-- a kind is among these -/
noncomputable def isiK : String → String → Bool
  | "int", "int" => true
  | "bool", "int" => true
  | "str", "str" => true
  | "tuple", "tuple" => true
  | "list", "list" => true
  | _, _ => false
noncomputable def cIsiF : List V → Hp → VK → Prop := fun vs H Q => on2 vs fun x y => onRef y fun p => ∃ Ts xs, H p = some (.frz (tyObj Ts) (.tup xs)) ∧ (Ts = ["int", "str"] ∨ Ts = ["list", "tuple"]) ∧ onO (kindO H x) fun kd => Q (.bl (Ts.any (isiK kd))) H
theorem on2_is {vs : List V} {k : V → V → Prop} (h : on2 vs k) : ∃ v w, vs = [v, w] ∧ k v w := by
  unfold on2 at h
  split at h
  · exact ⟨_, _, rfl, h⟩
  · exact h.elim
section
variable {X : Cx}
end
section
variable {H : Hp} {Q : VK} {x : V} {p : Addr} {σ : St} {t : TA} {vs : List V} {i : Int} {z : Str} {b : Bool}
theorem e_tupF : tTupF t σ H Q = t σ H fun xs H1 => onO (tysV xs) fun Ts => xs.length ≤ sizeLine ∧ ∀ p, H1 p = none → Q (.ref p) (upd H1 p (.frz (tyObj Ts) (.tup xs))) := rfl
theorem e_tys2 {S T : String} : tysV [.ty S, .ty T] = some [S, T] := rfl
theorem e_isiF : cIsiF [x, .ref p] H Q = ∃ Ts xs, H p = some (.frz (tyObj Ts) (.tup xs)) ∧ (Ts = ["int", "str"] ∨ Ts = ["list", "tuple"]) ∧ onO (kindO H x) fun kd => Q (.bl (Ts.any (isiK kd))) H := rfl
end
/-! ### trees that are equal -/
mutual
theorem EqA.mono {K : PySem.W.Frag} {H : Hp} : ∀ {n m : Nat} {x y : V} {b : Bool}, EqA K H n x y b → n ≤ m → EqA K H m x y b
  | _, _, _, _, _, .flat a b, _ => .flat a b
  | _, _, _, _, _, .same, _ => .same
  | _, _, _, _, _, .refs ne r, h => .refs ne (RcA.mono r h)
theorem RcA.mono {K : PySem.W.Frag} {H : Hp} : ∀ {n m : Nat} {a b : Addr} {r : Bool}, RcA K H n a b r → n ≤ m → RcA K H m a b r
  | _, m + 1, _, _, _, .list a b c d, h => .list a b c fun j x y e1 e2 => EqA.mono (d j x y e1 e2) (by omega)
  | _, m + 1, _, _, _, .listLen a b c, _ => .listLen a b c
  | _, m + 1, _, _, _, .tup a b d, h => .tup a b fun j x y e1 e2 => EqA.mono (d j x y e1 e2) (by omega)
  | _, 0, _, _, _, .list _ _ _ _, h => absurd h (by omega)
  | _, 0, _, _, _, .listLen _ _ _, h => absurd h (by omega)
  | _, 0, _, _, _, .tup _ _ _, h => absurd h (by omega)
end
/-- two trees of one thing are equal -/
theorem EqA.pair {K : PySem.W.Frag} {H : Hp} {n : Nat} {a b : Addr} {xs ys : List V} (e1 : H a = some (.tup xs)) (e2 : H b = some (.tup ys)) (hl : xs.length = ys.length) (he : ∀ (j : Nat) (x y : V), xs[j]? = some x → ys[j]? = some y → EqA K H n x y true) : EqA K H (n + 1) (.ref a) (.ref b) true := by
  by_cases h : a = b
  · subst h
    exact .same
  · have := RcA.tup (K := K) (H := H) (n := n) (e := fun _ => true) (SqT.of e1) (SqT.of e2) he
    rw [show ((List.range (min xs.length ys.length)).all (fun _ => true) && xs.length == ys.length) = true by rw [hl]; simp [List.all_eq_true]] at this
    exact .refs h this
end L2
namespace L2
open PySem PySem.Spec PyProof.Rows
/-! ### a dict that was walked through is written again: thawed behind the loop -/
section
variable {X : Cx} {pins : List (Addr × Obj)} {σ : St} {H : Hp} {s : Shared} {a : Addr} {o : Obj} {kvs : List (Key × V)}
end
noncomputable def thawE (H₀ : Hp) (D : Ends) : Ends :=
  { nx := fun σ H => ∃ a o kvs, H a = some (.frz o (.dK kvs)) ∧ (∀ ob u, H₀ a ≠ some (.frz ob u)) ∧ D.nx σ (upd H a (.dK kvs))
    bk := fun σ H => ∃ a o kvs, H a = some (.frz o (.dK kvs)) ∧ (∀ ob u, H₀ a ≠ some (.frz ob u)) ∧ D.bk σ (upd H a (.dK kvs))
    ct := fun σ H => ∃ a o kvs, H a = some (.frz o (.dK kvs)) ∧ (∀ ob u, H₀ a ≠ some (.frz ob u)) ∧ D.ct σ (upd H a (.dK kvs))
    rt := fun v H => ∃ a o kvs, H a = some (.frz o (.dK kvs)) ∧ (∀ ob u, H₀ a ≠ some (.frz ob u)) ∧ D.rt v (upd H a (.dK kvs)) }
noncomputable def tThaw (H₀ : Hp) (t : TS) : TS := fun D σ H => t (thawE H₀ D) σ H
/-! ### dicts: in, pop, clear, get with a default, setdefault -/
noncomputable def cDIn (ty td : TE) : TE := fun σ H Q => ty σ H fun y H1 => td σ H1 fun x H2 => onRef x fun a => onDct (H2 a) fun kvs => onO (keyO y) fun k => Q (.bl (valV kvs k).isSome) H2
noncomputable def cDPop1 (td ty : TE) : TE := fun σ H Q => td σ H fun x H1 => onRef x fun a => onDct (H1 a) fun _ => ty σ H1 fun y H2 => onDct (H2 a) fun kvs => onO (keyO y) fun k => onO (valV kvs k) fun v => Q v (upd H2 a (.dK (dropK kvs k)))
noncomputable def cDGet2 (td ty tx : TE) : TE := fun σ H Q => td σ H fun x H1 => onRef x fun a => onDct (H1 a) fun _ => ty σ H1 fun y H2 => tx σ H2 fun z H3 => onDct (H3 a) fun kvs => onO (keyO y) fun k => Q ((valV kvs k).getD z) H3
section
variable {X : Cx} {o e f : Expr} {apos cpos : Pos} {td ty tx : TE}
/-- d.clear() -/
noncomputable def cDClear (td : TE) : TE := fun σ H Q => td σ H fun x H1 => onRef x fun a => onDct (H1 a) fun _ => Q .non (upd H1 a (.dK []))
/-- d.setdefault(k, x) -/
noncomputable def cDSet (td ty tx : TE) : TE := fun σ H Q => td σ H fun x H1 => onRef x fun a => onDct (H1 a) fun _ => ty σ H1 fun y H2 => tx σ H2 fun z H3 => onDct (H3 a) fun kvs => onO (keyO y) fun k => kvs.length < sizeLine ∧
  (∀ v, valV kvs k = some v → Q v H3) ∧ (valV kvs k = none → Q z (upd H3 a (.dK (putK kvs k z))))
end
section
variable {td ty tx : TE} {σ : St} {H H₀ : Hp} {Q : VK} {t : TS} {D : Ends} {v : V}
theorem e_thaw : tThaw H₀ t D σ H = t (thawE H₀ D) σ H := rfl
theorem e_dinC : cDIn ty td σ H Q = ty σ H fun y H1 => td σ H1 fun x H2 => onRef x fun a => onDct (H2 a) fun kvs => onO (keyO y) fun k => Q (.bl (valV kvs k).isSome) H2 := rfl
theorem e_dpopC : cDPop1 td ty σ H Q = td σ H fun x H1 => onRef x fun a => onDct (H1 a) fun _ => ty σ H1 fun y H2 => onDct (H2 a) fun kvs => onO (keyO y) fun k => onO (valV kvs k) fun v => Q v (upd H2 a (.dK (dropK kvs k))) := rfl
theorem e_dget2C : cDGet2 td ty tx σ H Q = td σ H fun x H1 => onRef x fun a => onDct (H1 a) fun _ => ty σ H1 fun y H2 => tx σ H2 fun z H3 => onDct (H3 a) fun kvs => onO (keyO y) fun k => Q ((valV kvs k).getD z) H3 := rfl
theorem e_dclear : cDClear td σ H Q = td σ H fun x H1 => onRef x fun a => onDct (H1 a) fun _ => Q .non (upd H1 a (.dK [])) := rfl
theorem e_dsetC : cDSet td ty tx σ H Q = td σ H fun x H1 => onRef x fun a => onDct (H1 a) fun _ => ty σ H1 fun y H2 => tx σ H2 fun z H3 => onDct (H3 a) fun kvs => onO (keyO y) fun k => kvs.length < sizeLine ∧ (∀ v, valV kvs k = some v → Q v H3) ∧ (valV kvs k = none → Q z (upd H3 a (.dK (putK kvs k z)))) := rfl
end
/-! ### o[i] += e of a list; a dict of the module; the def that lies in it called -/
noncomputable def cGetL : V → V → Hp → VK → Prop := fun x y H Q => onRef x fun p => onInt y fun i => onLst (H p) fun xs => onO (atI xs i) fun v => Q v H
noncomputable def cIpA : TIp := fun x y H Q => onInt x fun i => onInt y fun j => Q (.int (i + j)) H
section
variable {X : Cx}
end
/-- d[k](a, b ..): each def that lies in d keeps its promise -/
noncomputable def tDeed (tab : List (Str × Sp)) (tk : TE) (t : TA) : TE := fun σ H Q => tk σ H fun y H1 => onStr y fun x => onO (tab.lookup x) fun sp => t σ H1 fun vs H2 => sp vs H2 Q E0
section
variable {tab : List (Str × Sp)} {tk to ti te : TE} {t : TA} {σ : St} {H : Hp} {Q : VK} {D : Ends} {p : Addr} {i j : Int} {tget : V → V → Hp → VK → Prop} {tip : TIp} {tset : TSet}
theorem e_deed : tDeed tab tk t σ H Q = tk σ H fun y H1 => onStr y fun x => onO (tab.lookup x) fun sp => t σ H1 fun vs H2 => sp vs H2 Q E0 := rfl
theorem e_getL : cGetL (.ref p) (.int i) H Q = onLst (H p) fun xs => onO (atI xs i) fun v => Q v H := rfl
theorem e_ipA : cIpA (.int i) (.int j) H Q = Q (.int (i + j)) H := rfl
theorem e_augS : tAugS to ti te tget tip tset D σ H = to σ H fun o H1 => ti σ H1 fun i H2 => tget o i H2 fun x H3 => te σ H3 fun y H4 => tip x y H4 fun z H5 => tset o i z H5 fun H6 => D.nx σ H6 := rfl
theorem e_aug {i : Nat} {ti : TIp} : tAug i te ti D σ H = ∃ x, σ[i]? = some (some x) ∧ te σ H fun y H1 => ti x y H1 fun z H2 => D.nx (σ.set i (some z)) H2 := rfl
end
end L2
namespace L2
open PySem PySem.Spec PyProof.Rows
/-! ### sorted(d): a dict of fewer than 64 whole numbers -/
noncomputable def intKeys : List (Key × V) → Option (List Int)
  | [] => some []
  | (.inl i, _) :: r => (intKeys r).map (i :: ·)
  | _ => none
theorem ObjOk.there {P : Program} {w : World} {H : Hp} {h : Heap} {a : Addr} {o : HO} (x : ObjOk P w H h a o) : ∃ ob, h.get? a = some ob := by
  cases o with
  | lst xs => obtain ⟨_, _, _, _, e⟩ := x; exact ⟨_, e⟩
  | tup xs => obtain ⟨_, _, _, o, e, _⟩ := x; exact ⟨_, e⟩
  | dK kvs => obtain ⟨_, _, _, _, o, _, _, e, _⟩ := x; exact ⟨_, e⟩
  | dT kvs => obtain ⟨_, _, _, _, o, _, _, e, _⟩ := x; exact ⟨_, e⟩
  | set S n => obtain ⟨o, _, _, _, e, _⟩ := x; exact ⟨_, e⟩
  | ins C dx fs => obtain ⟨_, _, _, e, _⟩ := x; exact ⟨_, e⟩
  | own y => obtain ⟨_, e⟩ := x; exact ⟨_, e⟩
  | xd fs => obtain ⟨_, ⟨_, _, _, e, _⟩, _⟩ := x; exact ⟨_, e⟩
  | rng lo hi => obtain ⟨_, _, _, e⟩ := x; exact ⟨_, e⟩
  | frz ob u => obtain ⟨e, _⟩ := x; exact ⟨_, e⟩
  | tbl ps => exact ⟨_, (show h.get? a = some _ from x)⟩
  | met f y => exact ⟨_, (show h.get? a = some _ from x)⟩
  | ext φ => obtain ⟨_, ⟨_, e⟩, _⟩ := x; exact ⟨_, e⟩
noncomputable def cSortD : List V → Hp → VK → Prop := fun vs H Q => on1 vs fun x => onRef x fun p => onDct (H p) fun kvs => onO (intKeys kvs) fun ns => ns.length < 64 ∧ ∀ (l : Addr) (ns' : List Int), H l = none → ns'.Perm ns → ns'.Pairwise (· ≤ ·) → Q (.ref l) (upd H l (.lst (ns'.map V.int)))
section
variable {H : Hp} {Q : VK} {p : Addr}
theorem e_sortD : cSortD [.ref p] H Q = onDct (H p) fun kvs => onO (intKeys kvs) fun ns => ns.length < 64 ∧ ∀ (l : Addr) (ns' : List Int), H l = none → ns'.Perm ns → ns'.Pairwise (· ≤ ·) → Q (.ref l) (upd H l (.lst (ns'.map V.int))) := rfl
end
end L2
namespace L2
open PySem PySem.Spec PyProof.Rows
/-! ### zip and enumerate: iterators that hand out a pair -/
section
variable {X : Cx} {pins : List (Addr × Obj)} {σ : St} {H : Hp} {s : Shared} {h' : Heap}
/-- untracked records of ours have turned, and a new tuple is tracked -/
theorem Inv.turnedT {t' : Nat} {ch : List Addr} {p : Addr} {xs : List V} (I : Inv X pins σ H s) (hf : ∀ b ∈ ch, FpOk X pins H b) (k : ∀ b o, b ∉ ch → s.heap.get? b = some o → h'.get? b = some o) (hp : s.heap.objs.size ≤ p)
    (new : ObjOk X.prog X.w (upd H p (.tup xs)) h' p (.tup xs)) : Inv X pins σ (upd H p (.tup xs)) { s with heap := h', toks := t' } := by
  have hn : H p = none := I.hok.fresh hp
  have nch : ∀ b u, H b = some u → b ∉ ch := fun b u e z => by rw [(hf b z).1] at e; cases e
  have nep : ∀ {b u}, H b = some u → b ≠ p := fun {b u} e z => by rw [z, hn] at e; cases e
  have keepT : ∀ {b u}, H b = some u → upd H p (.tup xs) b = some u := fun {b u} e => by rw [upd_ne (nep e)]; exact e
  refine I.step (g' := s.gens) (d' := s.drawn) (ch := ch) (fun b hb => ?_) (fun b o _ _ hc e _ => k b o hc e) (fun b o _ _ hc e _ => ⟨o.slots, k b o hc e⟩)
    (fun b o _ e n => ?_) (fun b o hc e => ⟨o, k b o hc e⟩) (fun _ _ e => keepT e) (fun _ _ _ e => keepT e) (fun b ps e => ⟨#[], by rw [keepT e]; simp⟩) (fun m hm => ?_) (fun b u e => ?_) I.bare
  · obtain ⟨_, f1, _, f3, f4, f5⟩ := hf b hb
    exact ⟨f3, f1, f4, f5⟩
  · rw [upd_ne (Nat.ne_of_lt (Nat.lt_of_lt_of_le (Heap.lt_size e) hp))]
    exact n
  · obtain ⟨o, es, ep, ho, r⟩ := hm
    exact ⟨o, es, ep, k _ o (fun z => (hf _ z).2.1 rfl) ho, r⟩
  · by_cases hb : b = p
    · subst hb
      rw [upd_same] at e
      cases e
      exact new
    · rw [upd_ne hb] at e
      refine (I.hok b u e).stay (fun c v hc q => k c v ?_ q) (fun _ q => keepT q) fun _ _ q => keepT q
      rcases hc with z | z
      · rw [z]; exact nch b u e
      · exact nch c _ z
/-- .. and none is -/
theorem Inv.turnedN {t' : Nat} {ch : List Addr} (I : Inv X pins σ H s) (hf : ∀ b ∈ ch, FpOk X pins H b) (k : ∀ b o, b ∉ ch → s.heap.get? b = some o → h'.get? b = some o) : Inv X pins σ H { s with heap := h', toks := t' } := by
  have nch : ∀ b u, H b = some u → b ∉ ch := fun b u e z => by rw [(hf b z).1] at e; cases e
  refine I.step (g' := s.gens) (d' := s.drawn) (ch := ch) (fun b hb => ?_) (fun b o _ _ hc e _ => k b o hc e) (fun b o _ _ hc e _ => ⟨o.slots, k b o hc e⟩)
    (fun b o _ e n => n) (fun b o hc e => ⟨o, k b o hc e⟩) (fun _ _ e => e) (fun _ _ _ e => e) (fun b ps e => ⟨#[], by rw [e]; simp⟩) (fun m hm => ?_) (fun b u e => ?_) I.bare
  · obtain ⟨_, f1, _, f3, f4, f5⟩ := hf b hb
    exact ⟨f3, f1, f4, f5⟩
  · obtain ⟨o, es, ep, ho, r⟩ := hm
    exact ⟨o, es, ep, k _ o (fun z => (hf _ z).2.1 rfl) ho, r⟩
  · refine (I.hok b u e).stay (fun c v hc q => k c v ?_ q) (fun _ q => q) fun _ _ q => q
    rcases hc with z | z
    · rw [z]; exact nch b u e
    · exact nch c _ z
end

/-- a list (false) or a tuple (true), and its iterator -/
noncomputable def SOk (t : Bool) (h : Heap) (a : Addr) (us : Array Value) : Prop := match t with
  | true => h.IsTuple a us
  | false => h.IsList a us
noncomputable def SIter (t : Bool) (h : Heap) (it a : Addr) (i : Nat) : Prop := match t with
  | true => h.IsTupleIter it a i
  | false => h.IsListIter it a i
noncomputable def sName (t : Bool) : String := match t with
  | true => "tuple_iterator"
  | false => "list_iterator"
theorem SOk.keep {t : Bool} {h h' : Heap} {a : Addr} {us : Array Value} (x : SOk t h a us) (e : ∀ o, h.get? a = some o → h'.get? a = some o) : SOk t h' a us := by
  cases t <;> (obtain ⟨o, ho, r⟩ := x; exact ⟨o, e o ho, r⟩)
theorem SIter.keep {t : Bool} {h h' : Heap} {it a : Addr} {i : Nat} (x : SIter t h it a i) (e : ∀ o, h.get? it = some o → h'.get? it = some o) : SIter t h' it a i := by
  cases t <;> (obtain ⟨o, ho, r⟩ := x; exact ⟨o, e o ho, r⟩)
theorem SIter.obj {t : Bool} {h : Heap} {it a : Addr} {i : Nat} (x : SIter t h it a i) : ∃ o, h.get? it = some o ∧ ∀ v, o.data ≠ .cell v := by
  cases t <;> (obtain ⟨o, ho, c, d⟩ := x; exact ⟨o, ho, fun v z => by rw [d] at z; cases z⟩)
section
variable {prog : Program} {w : World} {A : Around} {E : Value → Shared → Prop} {s : Shared}
theorem nextT_item {it l : Addr} {i : Nat} {us : Array Value} {x : Value} {Q : Value → Shared → Prop} (st : s.heap.IsTupleIter it l i) (sq : s.heap.IsTuple l us) (hx : us[i]? = some x)
    (fin : ∀ h', h'.IsTupleIter it l (i + 1) → Heap.SameBut it s.heap h' → Q x { s with heap := h' }) : wpAny (model prog w) A (Builtin.SmallTypes.nextOf (.ref it)) Q E s := by
  obtain ⟨oi, hoi, ci, di⟩ := id st
  obtain ⟨ot, hot, _, nt, dt⟩ := sq
  unfold Builtin.SmallTypes.nextOf; refine wpAny_bind (wpAny_callSpecial?_slot (name := Str.ofString "__next__") st.typeIs F.slot_tuple_iterator_next (wpAny_call_entry F.slot_tuple_iterator_next st.typeIs F.entry_tuple_iterator_next ?_ (F.args_tuple_iterator_next_1 _)))
  show wpAny _ _ (field (.ref it) 0 >>= _) _ _ s; refine wpAny_bind (wpAny_field hoi di (x := .ref l) rfl ?_)
  show wpAny _ _ (if (Value.ref l == Value.none) = true then _ else _) _ _ s; rw [if_neg (show ¬ ((Value.ref l == Value.none) = true) from Bool.false_ne_true)]
  show wpAny _ _ (field (.ref it) 1 >>= _) _ _ s; refine wpAny_bind (wpAny_field hoi di (x := .int i 0) rfl ?_)
  show wpAny _ _ (seqItems? (.ref l) >>= _) _ _ s; refine wpAny_bind (wpAny_seqItems hot dt ?_)
  simp only [hx, Int.toNat_natCast]
  refine wpAny_bind (wpAny_setField hoi di (by simp) (wpAny_pure ⟨x, rfl, wpAny_pure (fin _ ?_ (Heap.SameBut.update ..))⟩))
  exact ⟨_, Heap.get?_update_self _ hoi (Obj.isFreed_of_fields (Obj.data_mapFields di _)), (Obj.cls_mapFields ..).trans ci, by rw [Obj.data_mapFields di]; simp [rawInt]⟩
theorem nextT_end {it l : Addr} {i : Nat} {us : Array Value} {Q : Value → Shared → Prop} (hh : A.handled = none) (st : s.heap.IsTupleIter it l i) (sq : s.heap.IsTuple l us) (hx : us[i]? = none)
    (fin : ∀ h' e, Heap.ExtBut it s.heap h' → (∃ o, h'.get? e = some o ∧ o.cls = .type "StopIteration") → E (.ref e) { s with heap := h' }) : wpAny (model prog w) A (Builtin.SmallTypes.nextOf (.ref it)) Q E s := by
  obtain ⟨oi, hoi, ci, di⟩ := id st
  obtain ⟨ot, hot, _, nt, dt⟩ := sq
  unfold Builtin.SmallTypes.nextOf; refine wpAny_bind (wpAny_callSpecial?_slot (name := Str.ofString "__next__") st.typeIs F.slot_tuple_iterator_next (wpAny_call_entry F.slot_tuple_iterator_next st.typeIs F.entry_tuple_iterator_next ?_ (F.args_tuple_iterator_next_1 _)))
  show wpAny _ _ (field (.ref it) 0 >>= _) _ _ s; refine wpAny_bind (wpAny_field hoi di (x := .ref l) rfl ?_)
  show wpAny _ _ (if (Value.ref l == Value.none) = true then _ else _) _ _ s; rw [if_neg (show ¬ ((Value.ref l == Value.none) = true) from Bool.false_ne_true)]
  show wpAny _ _ (field (.ref it) 1 >>= _) _ _ s; refine wpAny_bind (wpAny_field hoi di (x := .int i 0) rfl ?_)
  show wpAny _ _ (seqItems? (.ref l) >>= _) _ _ s; refine wpAny_bind (wpAny_seqItems hot dt ?_)
  simp only [hx, Int.toNat_natCast]
  refine wpAny_bind (wpAny_rule (wpAny_bind (wpAny_setField hoi di (by simp) ?_)))
  show wpAny _ _ (newExc (.type "StopIteration") [] >>= _) _ _ _; refine wpAny_bind ?_; simp only [newTuple, newExc]
  refine wpAny_bind (wpAny_newObj_type ?_ (by size_fits)); refine wpAny_bind (m := firstArgMember _ _) (wpAny_of_eq (a := Value.none) (by first | rfl | (simp only [firstArgMember]; rfl)) ?_); refine wpAny_newObj_type ?_ (by size_fits)
  simp only [raiseNew]; refine wpAny_bind (wpAny_handled ?_); first | rw [hh] | rw [show A.in1.handled = none from hh]
  exact wpAny_bind (wpAny_pure (wpAny_throw (fin _ _ (((Heap.SameBut.update ..).extBut.push _).push _) ⟨_, Heap.get?_push_size _ rfl, rfl⟩)))
theorem nextS_item {t : Bool} {it l : Addr} {i : Nat} {us : Array Value} {x : Value} {Q : Value → Shared → Prop} (st : SIter t s.heap it l i) (sq : SOk t s.heap l us) (hx : us[i]? = some x)
    (fin : ∀ h', SIter t h' it l (i + 1) → Heap.SameBut it s.heap h' → Q x { s with heap := h' }) : wpAny (model prog w) A (Builtin.SmallTypes.nextOf (.ref it)) Q E s := by
  cases t
  · exact wpAny_nextOf_list_item st sq hx fin
  · exact nextT_item st sq hx fin
theorem nextS_end {t : Bool} {it l : Addr} {i : Nat} {us : Array Value} {Q : Value → Shared → Prop} (hh : A.handled = none) (st : SIter t s.heap it l i) (sq : SOk t s.heap l us) (hx : us[i]? = none)
    (fin : ∀ h' e, Heap.ExtBut it s.heap h' → (∃ o, h'.get? e = some o ∧ o.cls = .type "StopIteration") → E (.ref e) { s with heap := h' }) : wpAny (model prog w) A (Builtin.SmallTypes.nextOf (.ref it)) Q E s := by
  cases t
  · exact wpAny_nextOf_list_end hh st sq hx fin
  · exact nextT_end hh st sq hx fin

theorem zipS_item {z ti to i1 i2 a b : Addr} {t1 t2 : Bool} {k : Nat} {us vs : Array Value} {x y p q : Value} {Q : Value → Shared → Prop} (D : ZipApart z ti to i1 i2 a b)
    (ez : IsZip s.heap z ti to .none) (et : IsPair s.heap ti (.ref i1) (.ref i2)) (eo : IsPair s.heap to p q) (w1 : SIter t1 s.heap i1 a k) (w2 : SIter t2 s.heap i2 b k) (q1 : SOk t1 s.heap a us) (q2 : SOk t2 s.heap b vs) (hx : us[k]? = some x) (hy : vs[k]? = some y)
    (done : ∀ h', IsZip h' z ti to (rawInt s.heap.objs.size) → IsPair h' to x y → SIter t1 h' i1 a (k + 1) → SIter t2 h' i2 b (k + 1) → IsPair h' s.heap.objs.size x y →
      (∀ c o, c ∉ [z, ti, to, i1, i2] → s.heap.get? c = some o → h'.get? c = some o) → IsPair h' ti (.ref i1) (.ref i2) → Q (.ref s.heap.objs.size) { s with heap := h' }) :
    wpAny (model prog w) A (Builtin.«zip.__next__» ⟨[.ref z], []⟩) (fun r s' => ∃ v, r = .done (.ret v) ∧ Q v s') E s := by
  show wpAny _ _ (field (.ref z) 2 >>= _) _ _ _; refine wpAny_bind (wpAny_field ez rfl (x := .bool false) rfl ?_)
  show wpAny _ _ (field (.ref z) 3 >>= _) _ _ _; refine wpAny_bind (wpAny_field ez rfl (x := .ref ti) rfl (wpAny_bind (wpAny_seqItems et rfl ?_)))
  show wpAny _ _ (Builtin.SmallTypes.ownedTupleIsFree (.ref z) >>= _) _ _ _; refine wpAny_bind ?_; unfold Builtin.SmallTypes.ownedTupleIsFree
  refine wpAny_bind (wpAny_field ez rfl (x := .none) rfl (wpAny_pure ?_)); simp only [if_true]
  refine wpAny_bind (wpAny_rule (wpAny_bind (wpAny_field ez rfl (x := .ref to) rfl (wpAny_bind (wpAny_setField_rec ez (by simp) fun g1 z1 b1 => ?_)))))
  replace z1 : IsZip g1 z ti to .ellipsis := z1
  refine wpAny_bind ?_; simp only [List.forIn_cons, List.forIn_nil, List.zipIdx_cons, List.zipIdx_nil]
  refine wpAny_bind (wpAny_bind (wpAny_onRaise ?_))
  show wpAny _ _ (Builtin.SmallTypes.nextOf (.ref i1) >>= _) _ _ _
  refine wpAny_bind (nextS_item (w1.keep fun o e => b1.extBut _ _ D.i1z e) (q1.keep fun o e => b1.extBut _ _ D.l1z e) hx fun g2 v2 b2 => wpAny_pure ?_)
  have o2 : IsPair g2 to p q := b2.extBut _ _ D.TOi1 (b1.extBut _ _ D.TOz eo)
  refine wpAny_bind (wpAny_seqItems o2 rfl (wpAny_bind (wpAny_updateSeq_pair o2 fun g3 o3 b3 => ?_)))
  replace o3 : IsPair g3 to x q := o3
  refine wpAny_bind (wpAny_letGo (wpAny_pure (wpAny_bind (wpAny_bind (wpAny_onRaise ?_)))))
  show wpAny _ _ (Builtin.SmallTypes.nextOf (.ref i2) >>= _) _ _ _
  refine wpAny_bind (nextS_item (w2.keep fun o e => b3.extBut _ _ D.TOi2.symm (b2.extBut _ _ D.i12.symm (b1.extBut _ _ D.i2z e))) (q2.keep fun o e => b3.extBut _ _ D.l2TO (b2.extBut _ _ D.l2i1 (b1.extBut _ _ D.l2z e))) hy fun g4 v4 b4 => wpAny_pure ?_)
  have o4 : IsPair g4 to x q := b4.extBut _ _ D.TOi2 o3
  refine wpAny_bind (wpAny_seqItems o4 rfl (wpAny_bind (wpAny_updateSeq_pair o4 fun g5 o5 b5 => ?_)))
  replace o5 : IsPair g5 to x y := o5
  refine wpAny_bind (wpAny_letGo (wpAny_pure (wpAny_pure (wpAny_bind (wpAny_seqItems o5 rfl (wpAny_bind (wpAny_newTuple ?_)))))))
  have sz : g5.objs.size = s.heap.objs.size := by rw [b5.1, b4.1, b3.1, b2.1, b1.1]
  have z5 : IsZip g5 z ti to .ellipsis := b5.extBut _ _ D.TOz.symm (b4.extBut _ _ D.i2z.symm (b3.extBut _ _ D.TOz.symm (b2.extBut _ _ D.i1z.symm z1)))
  have lz : z < g5.objs.size := Heap.lt_size z5
  show wpAny _ _ (Builtin.SmallTypes.ownedTupleHandOut (.ref z) (.ref g5.objs.size) >>= _) _ _ _; refine wpAny_bind ?_; unfold Builtin.SmallTypes.ownedTupleHandOut
  have z6 : IsZip (g5.push { cls := .type "tuple", data := .seq #[x, y] }) z ti to .ellipsis := Heap.get?_push_of_some _ z5
  refine wpAny_bind (wpAny_setField_rec z6 (by simp) fun g7 z7 b7 => ?_)
  replace z7 : IsZip g7 z ti to (rawInt g5.objs.size) := z7
  refine wpAny_setField_rec z7 (by simp) fun g8 z8 b8 => ?_
  replace z8 : IsZip g8 z ti to (rawInt g5.objs.size) := z8
  have up : ∀ c o, c ≠ z → g5.get? c = some o → g8.get? c = some o := fun c o n e => b8.extBut _ _ n (b7.extBut _ _ n (Heap.get?_push_of_some _ e))
  have p8 : IsPair g8 g5.objs.size x y := b8.extBut _ _ (Nat.ne_of_gt lz) (b7.extBut _ _ (Nat.ne_of_gt lz) (Heap.get?_push_size _ rfl))
  rw [sz] at z8 p8
  refine wpAny_pure ⟨_, rfl, ?_⟩
  show Q (.ref g5.objs.size) _; rw [sz]
  have all : ∀ c o, c ≠ z → c ≠ to → c ≠ i1 → c ≠ i2 → s.heap.get? c = some o → g8.get? c = some o := fun c o c1 c2 c3 c4 e => up c o c1 (b5.extBut _ _ c2 (b4.extBut _ _ c4 (b3.extBut _ _ c2 (b2.extBut _ _ c3 (b1.extBut _ _ c1 e)))))
  refine done g8 z8 (up _ _ D.TOz o5) (v2.keep fun o e => up _ o D.i1z (b5.extBut _ _ D.TOi1.symm (b4.extBut _ _ D.i12 (b3.extBut _ _ D.TOi1.symm e)))) (v4.keep fun o e => up _ o D.i2z (b5.extBut _ _ D.TOi2.symm e)) p8 (fun c o hc e => ?_) (all _ _ D.TIz D.TITO D.TIi1 D.TIi2 et)
  simp only [List.mem_cons, List.not_mem_nil, or_false, not_or] at hc
  exact all c o hc.1 hc.2.2.1 hc.2.2.2.1 hc.2.2.2.2 e

theorem zipS_end {z ti to i1 i2 a b : Addr} {t1 t2 : Bool} {k : Nat} {us vs : Array Value} {p q : Value} {Q : Fin → Shared → Prop} (hh : A.handled = none) (D : ZipApart z ti to i1 i2 a b)
    (ez : IsZip s.heap z ti to .none) (et : IsPair s.heap ti (.ref i1) (.ref i2)) (eo : IsPair s.heap to p q) (w1 : SIter t1 s.heap i1 a k) (w2 : SIter t2 s.heap i2 b k) (q1 : SOk t1 s.heap a us) (q2 : SOk t2 s.heap b vs) (out : us[k]? = none ∨ vs[k]? = none)
    (done : ∀ h' e, (∀ c o, c ∉ [z, ti, to, i1, i2] → s.heap.get? c = some o → h'.get? c = some o) → (∃ o, h'.get? e = some o ∧ o.cls = .type "StopIteration") → E (.ref e) { s with heap := h' }) :
    wpAny (model prog w) A (Builtin.«zip.__next__» ⟨[.ref z], []⟩) Q E s := by
  have done : ∀ h' e, (∀ c o, c ≠ z → c ≠ to → c ≠ i1 → c ≠ i2 → s.heap.get? c = some o → h'.get? c = some o) → (∃ o, h'.get? e = some o ∧ o.cls = .type "StopIteration") → E (.ref e) { s with heap := h' } := fun h' e hk => done h' e fun c o hc => by
    simp only [List.mem_cons, List.not_mem_nil, or_false, not_or] at hc
    exact hk c o hc.1 hc.2.2.1 hc.2.2.2.1 hc.2.2.2.2
  show wpAny _ _ (field (.ref z) 2 >>= _) _ _ _; refine wpAny_bind (wpAny_field ez rfl (x := .bool false) rfl ?_)
  show wpAny _ _ (field (.ref z) 3 >>= _) _ _ _; refine wpAny_bind (wpAny_field ez rfl (x := .ref ti) rfl (wpAny_bind (wpAny_seqItems et rfl ?_)))
  show wpAny _ _ (Builtin.SmallTypes.ownedTupleIsFree (.ref z) >>= _) _ _ _; refine wpAny_bind ?_; unfold Builtin.SmallTypes.ownedTupleIsFree
  refine wpAny_bind (wpAny_field ez rfl (x := .none) rfl (wpAny_pure ?_)); simp only [if_true]
  refine wpAny_bind (wpAny_rule (wpAny_bind (wpAny_field ez rfl (x := .ref to) rfl (wpAny_bind (wpAny_setField_rec ez (by simp) fun g1 z1 b1 => ?_)))))
  replace z1 : IsZip g1 z ti to .ellipsis := z1
  refine wpAny_bind ?_; simp only [List.forIn_cons, List.forIn_nil, List.zipIdx_cons, List.zipIdx_nil]
  refine wpAny_bind (wpAny_bind (wpAny_onRaise ?_))
  show wpAny _ _ (Builtin.SmallTypes.nextOf (.ref i1) >>= _) _ _ _
  cases hx : us[k]? with
  | none =>
    refine wpAny_bind (nextS_end hh (w1.keep fun o e => b1.extBut _ _ D.i1z e) (q1.keep fun o e => b1.extBut _ _ D.l1z e) hx fun g2 e b2 x2 => ?_)
    obtain ⟨oe, he, ce⟩ := x2
    have z2 : IsZip g2 z ti to .ellipsis := b2 _ _ D.i1z.symm z1
    have nz : e ≠ z := fun x => by subst x; rw [z2] at he; cases he; simp at ce
    exact wpAny_setField_rec z2 (by simp) fun g3 _ b3 => done g3 e (fun c o c1 _ c3 _ x => b3.extBut _ _ c1 (b2 _ _ c3 (b1.extBut _ _ c1 x))) ⟨oe, b3.extBut _ _ nz he, ce⟩
  | some x =>
    have hy : vs[k]? = none := out.elim (fun h => by rw [hx] at h; cases h) id
    refine wpAny_bind (nextS_item (w1.keep fun o e => b1.extBut _ _ D.i1z e) (q1.keep fun o e => b1.extBut _ _ D.l1z e) hx fun g2 v2 b2 => wpAny_pure ?_)
    have o2 : IsPair g2 to p q := b2.extBut _ _ D.TOi1 (b1.extBut _ _ D.TOz eo)
    refine wpAny_bind (wpAny_seqItems o2 rfl (wpAny_bind (wpAny_updateSeq_pair o2 fun g3 o3 b3 => ?_)))
    refine wpAny_bind (wpAny_letGo (wpAny_pure (wpAny_bind (wpAny_bind (wpAny_onRaise ?_)))))
    show wpAny _ _ (Builtin.SmallTypes.nextOf (.ref i2) >>= _) _ _ _
    refine wpAny_bind (nextS_end hh (w2.keep fun o e => b3.extBut _ _ D.TOi2.symm (b2.extBut _ _ D.i12.symm (b1.extBut _ _ D.i2z e))) (q2.keep fun o e => b3.extBut _ _ D.l2TO (b2.extBut _ _ D.l2i1 (b1.extBut _ _ D.l2z e))) hy fun g4 e b4 x4 => ?_)
    obtain ⟨oe, he, ce⟩ := x4
    have z4 : IsZip g4 z ti to .ellipsis := b4 _ _ D.i2z.symm (b3.extBut _ _ D.TOz.symm (b2.extBut _ _ D.i1z.symm z1))
    have nz : e ≠ z := fun x => by subst x; rw [z4] at he; cases he; simp at ce
    exact wpAny_setField_rec z4 (by simp) fun g5 _ b5 => done g5 e (fun c o c1 c2 c3 c4 x => b5.extBut _ _ c1 (b4 _ _ c4 (b3.extBut _ _ c2 (b2.extBut _ _ c3 (b1.extBut _ _ c1 x))))) ⟨oe, b5.extBut _ _ nz he, ce⟩
end
end L2
namespace L2
open PySem PySem.Spec PyProof.Rows
section
variable {prog : Program} {w : World} {A : Around} {E : Value → Shared → Prop} {s : Shared}
theorem iterS {t : Bool} {a : Addr} {us : Array Value} {Q : Value → Shared → Prop} (sq : SOk t s.heap a us) (q : Q (.ref s.heap.objs.size) { s with heap := s.heap.push { cls := .type (sName t), data := .fields #[.ref a, .int 0 0] } }) :
    wpAny (model prog w) A (pyIter (.ref a)) Q E s := by
  cases t
  · exact wpAny_pyIter_list sq q
  · exact wpAny_pyIter_tuple sq q
noncomputable abbrev zs1 (h : Heap) (t : Bool) (a : Addr) : Heap := h.push { cls := .type (sName t), data := .fields #[.ref a, .int 0 0] }
noncomputable abbrev zs2 (h : Heap) (t u : Bool) (a b : Addr) : Heap := zs1 (zs1 h t a) u b
noncomputable abbrev zs3 (h : Heap) (t u : Bool) (a b : Addr) : Heap := (zs2 h t u a b).push { cls := .type "tuple", data := .seq #[.ref h.objs.size, .ref (zs1 h t a).objs.size] }
noncomputable abbrev zs4 (h : Heap) (t u : Bool) (a b : Addr) : Heap := (zs3 h t u a b).push { cls := .type "tuple", data := .seq #[.none, .none] }
noncomputable abbrev zs5 (h : Heap) (t u : Bool) (a b : Addr) : Heap := (zs4 h t u a b).push { cls := .type "zip", data := .fields #[.none, .bool false, .bool false, .ref (zs2 h t u a b).objs.size, .ref (zs3 h t u a b).objs.size] }
theorem zipS_new (t u : Bool) (a b : Addr) (us vs : Array Value) : Meets (Builtin.«zip.__new__» ⟨[.type "zip", .ref a, .ref b], []⟩) (fun _ R s => SOk t s.heap a us ∧ SOk u s.heap b vs ∧ R (.ok (.ret (.ref (zs4 s.heap t u a b).objs.size))) { s with heap := zs5 s.heap t u a b }) :=
  .of_wp fun prog w A R s h => by
    obtain ⟨hp, g, d, tk, os⟩ := s
    obtain ⟨h1, h2, h⟩ := h
    have hs := sub_zip
    have e1 : SOk t (Shared.heap ⟨hp, g, d, tk, os⟩) a us := h1
    have e2 : SOk u (Shared.heap ⟨zs1 hp t a, g, d, tk, os⟩) b vs := h2.keep fun o e => Heap.get?_push_of_some _ e
    wp_walk using iterS e1, iterS e2
    exact ⟨_, rfl, h⟩
theorem call_zipS {t u : Bool} {a b : Addr} {us vs : Array Value} {Q : Value → Shared → Prop} (q1 : SOk t s.heap a us) (q2 : SOk u s.heap b vs)
    (fin : ∀ h', IsZip h' (s.heap.objs.size + 4) (s.heap.objs.size + 2) (s.heap.objs.size + 3) .none → IsPair h' (s.heap.objs.size + 2) (.ref s.heap.objs.size) (.ref (s.heap.objs.size + 1)) → IsPair h' (s.heap.objs.size + 3) .none .none →
      SIter t h' s.heap.objs.size a 0 → SIter u h' (s.heap.objs.size + 1) b 0 → (∀ c o, s.heap.get? c = some o → h'.get? c = some o) → Q (.ref (s.heap.objs.size + 4)) { s with heap := h' }) :
    wpAny (model prog w) A (call (.type "zip") [.ref a, .ref b]) Q E s := by
  refine callType_new F.called_zip (by decide) (F.typeCall_zip_2 _ _) (F.newCall_zip_2 _ _) (fun obj => F.args_object_init_3 obj _ _) F.entry_zip_new (zipS_new t u a b us vs) ⟨q1, q2, ?_⟩
  have n1 : (zs1 s.heap t a).objs.size = s.heap.objs.size + 1 := Heap.size_push ..
  have n2 : (zs2 s.heap t u a b).objs.size = s.heap.objs.size + 2 := by rw [Heap.size_push, n1]
  have n3 : (zs3 s.heap t u a b).objs.size = s.heap.objs.size + 3 := by rw [Heap.size_push, n2]
  have n4 : (zs4 s.heap t u a b).objs.size = s.heap.objs.size + 4 := by rw [Heap.size_push, n3]
  have up : ∀ {h : Heap} {x y z : Obj} {c : Addr} {o : Obj}, h.get? c = some o → (((h.push x).push y).push z).get? c = some o := fun e => Heap.get?_push_of_some _ (Heap.get?_push_of_some _ (Heap.get?_push_of_some _ e))
  have g5 : (zs5 s.heap t u a b).get? (zs4 s.heap t u a b).objs.size = some _ := Heap.get?_push_size _ rfl
  have g4 : (zs5 s.heap t u a b).get? (zs3 s.heap t u a b).objs.size = some _ := Heap.get?_push_of_some _ (Heap.get?_push_size _ rfl)
  have g3 : (zs5 s.heap t u a b).get? (zs2 s.heap t u a b).objs.size = some _ := Heap.get?_push_of_some _ (Heap.get?_push_of_some _ (Heap.get?_push_size _ rfl))
  have g2 : (zs5 s.heap t u a b).get? (zs1 s.heap t a).objs.size = some _ := up (Heap.get?_push_size _ rfl)
  have g1 : (zs5 s.heap t u a b).get? s.heap.objs.size = some _ := up (Heap.get?_push_of_some _ (Heap.get?_push_size _ rfl))
  show _ ∧ _
  rw [n2, n3, n4] at g5
  rw [n1, n2] at g3
  rw [n3] at g4
  rw [n1] at g2
  rw [n4]
  refine ⟨⟨_, g5, rfl⟩, fin _ g5 g3 g4 ?_ ?_ fun c o x => up (Heap.get?_push_of_some _ (Heap.get?_push_of_some _ x))⟩
  · cases t <;> exact ⟨_, g1, rfl, rfl⟩
  · cases u <;> exact ⟨_, g2, rfl, rfl⟩
end
/-- a list or a tuple that is read -/
noncomputable def SqS (K : PySem.W.Frag) (t : Bool) (H : Hp) (a : Addr) (xs : List V) : Prop := match t with
  | true => SqT K H a xs
  | false => SqL K H a xs
section
variable {X : Cx} {pins : List (Addr × Obj)} {σ : St} {H : Hp} {s : Shared} {a : Addr} {xs ys : List V} {t : Bool}
theorem Inv.seqS (I : Inv X pins σ H s) (h : SqS X.K t H a xs) : ∃ its : List Value, Vals xs its ∧ SOk t s.heap a its.toArray := by
  cases t
  · obtain ⟨its, rv, p, _⟩ := I.list h
    exact ⟨its, rv, p.isList⟩
  · obtain ⟨its, rv, p, _⟩ := I.tuple h
    exact ⟨its, rv, p⟩
theorem Inv.seqS_inj (I : Inv X pins σ H s) (h : SqS X.K t H a xs) (h' : SqS X.K t H a ys) : xs = ys := by
  cases t
  · exact I.list_inj h h'
  · exact I.tuple_inj h h'
theorem Inv.seqS_lt (I : Inv X pins σ H s) (h : SqS X.K t H a xs) : a < s.heap.objs.size := by
  obtain ⟨its, _, q⟩ := I.seqS h
  cases t <;> (obtain ⟨o, ho, _⟩ := q; exact Heap.lt_size ho)
end
noncomputable def Itz (K : PySem.W.Frag) (t u : Bool) (a b : Addr) : It :=
  ⟨fun i H => ∃ xs ys x y, SqS K t H a xs ∧ SqS K u H b ys ∧ xs[i]? = some x ∧ ys[i]? = some y,
   fun i H v H' => ∃ p x y, H p = none ∧ v = .ref p ∧ H' = upd H p (.tup [x, y]) ∧ (∀ xs, SqS K t H a xs → xs[i]? = some x) ∧ ∀ ys, SqS K u H b ys → ys[i]? = some y,
   fun i H => ∃ xs ys, SqS K t H a xs ∧ SqS K u H b ys ∧ (xs.length ≤ i ∨ ys.length ≤ i)⟩
noncomputable def Ite (K : PySem.W.Frag) (a : Addr) : It :=
  ⟨fun i H => ∃ xs x, SqL K H a xs ∧ xs[i]? = some x, fun i H v H' => ∃ p x, H p = none ∧ v = .ref p ∧ H' = upd H p (.tup [.int i, x]) ∧ ∀ xs, SqL K H a xs → xs[i]? = some x,
   fun i H => ∃ xs, SqL K H a xs ∧ xs.length ≤ i⟩
/-- what a zip in use is made of -/
structure ZipAt (t u : Bool) (z ti to i1 i2 a b : Addr) (i : Nat) (h : Heap) : Prop where
  ez : IsZip h z ti to .none
  et : IsPair h ti (.ref i1) (.ref i2)
  eo : ∃ p q, IsPair h to p q
  e1 : SIter t h i1 a i
  e2 : SIter u h i2 b i
theorem turn_zip {P : Program} {w : World} {K : PySem.W.Frag} {elts : List Expr} {k : Nat} {pos : Pos} {t u : Bool} {z ti to i1 i2 a b : Addr} (D : ZipApart z ti to i1 i2 a b) :
    Turn P w K (.Tuple elts k pos) (Itz K t u a b) [z, ti, to, i1, i2] z (ZipAt t u z ti to i1 i2 a b) where
  mem := by simp
  obj := fun i h st c hc => by
    obtain ⟨ez, et, ⟨p, q, eo⟩, e1, e2⟩ := st
    simp only [List.mem_cons, List.not_mem_nil, or_false] at hc
    rcases hc with rfl | rfl | rfl | rfl | rfl
    · exact ⟨_, ez, fun v y => nomatch y⟩
    · exact ⟨_, et, fun v y => nomatch y⟩
    · exact ⟨_, eo, fun v y => nomatch y⟩
    · exact e1.obj
    · exact e2.obj
  keep := fun i h h' st k => by
    obtain ⟨ez, et, ⟨p, q, eo⟩, e1, e2⟩ := st
    exact ⟨k z (by simp) _ ez, k ti (by simp) _ et, ⟨p, q, k to (by simp) _ eo⟩, e1.keep fun o e => k i1 (by simp) o e, e2.keep fun o e => k i2 (by simp) o e⟩
  item := by
    intro X hP hw hK hc i pins s σ H E I hf st hg
    subst hP hw hK
    obtain ⟨xs, ys, x, y, q1, q2, hx, hy⟩ := hg
    obtain ⟨ez, et, ⟨p, q, eo⟩, e1, e2⟩ := st
    obtain ⟨us, r1, s1⟩ := I.seqS q1
    obtain ⟨vs, r2, s2⟩ := I.seqS q2
    obtain ⟨x', hx', rx⟩ := r1.get hx
    obtain ⟨y', hy', ry⟩ := r2.get hy
    have hT : s.TypeIs (.ref z) "zip" := ⟨_, ez, rfl⟩
    unfold pyNext; refine wpAny_bind (wpAny_attempt (wpAny_callSpecial?_slot (name := Str.ofString "__next__") hT F.slot_zip_next (wpAny_call_entry F.slot_zip_next hT F.entry_zip_next
      (zipS_item (x := x') (y := y') D ez et eo e1 e2 s1 s2 (by simpa using hx') (by simpa using hy') fun h' z' o' v1 v2 np kk t' => wpAny_pure ?_) (F.args_zip_next_1 _))))
    refine ⟨_, rfl, wpAny_letOwnedTupleGo_zip z' fun h2 z2 b2 => ?_⟩
    have lt : ∀ c ∈ [z, ti, to, i1, i2], c ≠ s.heap.objs.size := fun c hc => by
      simp only [List.mem_cons, List.not_mem_nil, or_false] at hc
      rcases hc with rfl | rfl | rfl | rfl | rfl
      · exact Nat.ne_of_lt (Heap.lt_size ez)
      · exact Nat.ne_of_lt (Heap.lt_size et)
      · exact Nat.ne_of_lt (Heap.lt_size eo)
      · obtain ⟨o, e, _⟩ := e1.obj; exact Nat.ne_of_lt (Heap.lt_size e)
      · obtain ⟨o, e, _⟩ := e2.obj; exact Nat.ne_of_lt (Heap.lt_size e)
    refine ⟨.ref s.heap.objs.size, upd H s.heap.objs.size (.tup [x, y]), I.turnedT (t' := s.toks) (p := s.heap.objs.size) (h' := h2) hf (fun c o hc e => ?_) (Nat.le_refl _) ⟨show 2 ≤ sizeLine by decide, [x', y'], .cons rx (.cons ry .nil), ?_⟩, rfl, ⟨_, x, y, I.hok.fresh (Nat.le_refl _), rfl, rfl, fun l hl => by rw [I.seqS_inj hl q1]; exact hx, fun l hl => by rw [I.seqS_inj hl q2]; exact hy⟩, ?_, fun c hc => ?_⟩
    · exact b2.extBut _ _ (fun q => hc (by simp [q])) (kk c o hc e)
    · exact ⟨_, b2.extBut _ _ (Ne.symm (lt z (by simp))) np, rfl, 0, rfl⟩
    · exact ⟨z2, b2.extBut _ _ D.TIz t', ⟨_, _, b2.extBut _ _ D.TOz o'⟩, v1.keep fun o e => b2.extBut _ _ D.i1z e, v2.keep fun o e => b2.extBut _ _ D.i2z e⟩
    · rw [upd_ne (lt c hc)]
      exact (hf c hc).1
  done := by
    intro X hP hw hK hc i pins s σ H E I hf st hg
    subst hP hw hK
    obtain ⟨xs, ys, q1, q2, hl⟩ := hg
    obtain ⟨ez, et, ⟨p, q, eo⟩, e1, e2⟩ := st
    obtain ⟨us, r1, s1⟩ := I.seqS q1
    obtain ⟨vs, r2, s2⟩ := I.seqS q2
    have l1 := r1.length
    have l2 := r2.length
    have hT : s.TypeIs (.ref z) "zip" := ⟨_, ez, rfl⟩
    unfold pyNext; refine wpAny_bind (wpAny_attempt (wpAny_callSpecial?_slot (name := Str.ofString "__next__") hT F.slot_zip_next (wpAny_call_entry F.slot_zip_next hT F.entry_zip_next
      (zipS_end (I.ok.hd hc) D ez et eo e1 e2 s1 s2 (hl.imp (fun h => by simp; omega) fun h => by simp; omega) fun h' e kk he => ?_) (F.args_zip_next_1 _))))
    obtain ⟨o, ho, co⟩ := he
    exact wpAny_bind (wpAny_isInstance (T := "StopIteration") (b := true) ⟨o, ho, co⟩ isSubtype_stop (wpAny_pure ⟨rfl, I.turnedN (t' := s.toks) hf kk⟩))
  self := fun _ _ _ _ _ st h => wpAny_pyIter_zip st.ez h
theorem turn_enum {P : Program} {w : World} {K : PySem.W.Frag} {elts : List Expr} {k : Nat} {pos : Pos} {e it a : Addr} (ne : e ≠ it) :
    Turn P w K (.Tuple elts k pos) (Ite K a) [e, it] e (fun i h => (∃ old, IsEnum h e it i old) ∧ h.IsListIter it a i) where
  mem := by simp
  obj := fun i h st c hc => by
    obtain ⟨⟨old, ee⟩, ei⟩ := st
    simp only [List.mem_cons, List.not_mem_nil, or_false] at hc
    rcases hc with rfl | rfl
    · exact ⟨_, ee, fun v y => nomatch y⟩
    · exact SIter.obj (t := false) ei
  keep := fun i h h' st k => by
    obtain ⟨⟨old, ee⟩, ei⟩ := st
    exact ⟨⟨old, k e (by simp) _ ee⟩, ei.at fun o q => k it (by simp) o q⟩
  item := by
    intro X hP hw hK hc i pins s σ H E I hf st hg
    subst hP hw hK
    obtain ⟨xs, x, q1, hx⟩ := hg
    obtain ⟨⟨old, ee⟩, ei⟩ := st
    obtain ⟨us, r1, s1, _⟩ := I.list q1
    obtain ⟨x', hx', rx⟩ := r1.get hx
    refine wpAny_pyNext_enum_item (x := x') ee ei s1.isList (by simpa using hx') ne fun h' z' v' np _ kk => ?_
    refine ⟨_, rfl, wpAny_letOwnedTupleGo_enum z' fun h2 z2 b2 => ?_⟩
    have lt : ∀ c ∈ [e, it], c ≠ s.heap.objs.size := fun c hc => by
      simp only [List.mem_cons, List.not_mem_nil, or_false] at hc
      rcases hc with rfl | rfl
      · exact Nat.ne_of_lt (Heap.lt_size ee)
      · obtain ⟨o, e, _⟩ := ei; exact Nat.ne_of_lt (Heap.lt_size e)
    refine ⟨.ref s.heap.objs.size, upd H s.heap.objs.size (.tup [.int i, x]), I.turnedT (t' := s.toks + 1) (p := s.heap.objs.size) (h' := h2) hf (fun c o hc e => ?_) (Nat.le_refl _) ⟨show 2 ≤ sizeLine by decide, [.int i s.toks, x'], .cons ⟨_, rfl⟩ (.cons rx .nil), ?_⟩, rfl, ⟨_, x, I.hok.fresh (Nat.le_refl _), rfl, rfl, fun l hl => by rw [I.list_inj hl q1]; exact hx⟩, ?_, fun c hc => ?_⟩
    · exact b2.extBut _ _ (fun q => hc (by simp [q])) (kk c o (fun q => hc (by simp [q])) (fun q => hc (by simp [q])) e)
    · exact ⟨_, b2.extBut _ _ (Ne.symm (lt e (by simp))) np, rfl, 0, rfl⟩
    · exact ⟨⟨_, by simpa using z2⟩, v'.extBut b2.extBut (Ne.symm ne)⟩
    · rw [upd_ne (lt c hc)]
      exact (hf c hc).1
  done := by
    intro X hP hw hK hc i pins s σ H E I hf st hg
    subst hP hw hK
    obtain ⟨xs, q1, hl⟩ := hg
    obtain ⟨⟨old, ee⟩, ei⟩ := st
    obtain ⟨us, r1, s1, _⟩ := I.list q1
    have l1 := r1.length
    exact wpAny_pyNext_enum_end (I.ok.hd hc) ee ei s1.isList (by simp; omega) fun h' kk => ⟨rfl, I.turnedN (t' := s.toks) hf fun c o hc q => kk c o (fun z => hc (by simp [z])) q⟩
  self := fun _ _ _ _ _ st h => by
    obtain ⟨⟨old, ee⟩, _⟩ := st
    exact wpAny_pyIter_enum ee h
section
variable {X : Cx} {elts : List Expr} {k : Nat} {tp : Pos}
noncomputable def iZip (K : PySem.W.Frag) (ta : TA) : TI := fun σ H R => ta σ H fun vs H1 => on2 vs fun x y => onRef x fun a => onRef y fun b => ∃ t u, (∃ xs, SqS K t H1 a xs) ∧ (∃ ys, SqS K u H1 b ys) ∧ R (Itz K t u a b) H1
noncomputable def iEnu (K : PySem.W.Frag) (ta : TA) : TI := fun σ H R => ta σ H fun vs H1 => on1 vs fun x => onRef x fun a => (∃ xs, SqL K H1 a xs) ∧ R (Ite K a) H1
theorem pi_zip {a b : Expr} {ta : TA} {p pos : Pos} (hg : Gl X "zip") (hm : X.mg "zip" = none) (ha : PA X [a, b] ta) (hs : starEach [a, b] X.env = [(false, eval a X.env), (false, eval b X.env)] := by rfl) (hs2 : starEach [b] X.env = [(false, eval b X.env)] := by rfl) :
    PI X (.Tuple elts k tp) (.Call (.Name "zip" p) [a, b] [] pos) (iZip X.K ta) := by
  intro pins s σ H R I h
  refine Call_ (ld_blt I hg hm boot_zip (PyProof.Rows.callWith_type1 (thn (ha pos pins s σ H _ I h) fun us s1 ⟨vs, H1, I1, r1, q1⟩ => ?_) (by rw [hs, hs2]) (by rw [hs2]; rfl)))
  obtain ⟨x, y, rfl, q2⟩ := on2_is q1
  obtain ⟨c, rfl, q3⟩ := onRef_of q2
  obtain ⟨d, rfl, t, u, ⟨xs, hx⟩, ⟨ys, hy⟩, q⟩ := onRef_of q3
  cases r1 with
  | cons r rr =>
    cases rr with
    | cons r' rr =>
      cases rr
      cases r
      cases r'
      obtain ⟨_, _, s2⟩ := I1.seqS hx
      obtain ⟨_, _, s3⟩ := I1.seqS hy
      have l1 := I1.seqS_lt hx
      have l2 := I1.seqS_lt hy
      refine call_zipS s2 s3 fun h' ez et eo e1 e2 kk => ?_
      have D : ZipApart (s1.heap.objs.size + 4) (s1.heap.objs.size + 2) (s1.heap.objs.size + 3) s1.heap.objs.size (s1.heap.objs.size + 1) c d := by
        have ne : ∀ j, c ≠ s1.heap.objs.size + j := fun j => Nat.ne_of_lt (Nat.lt_of_lt_of_le l1 (Nat.le_add_right _ _))
        have me : ∀ j, d ≠ s1.heap.objs.size + j := fun j => Nat.ne_of_lt (Nat.lt_of_lt_of_le l2 (Nat.le_add_right _ _))
        have pp : ∀ i j, i ≠ j → s1.heap.objs.size + i ≠ s1.heap.objs.size + j := fun i j n q => n (Nat.add_left_cancel q)
        exact ⟨pp 2 4 (by decide), pp 3 4 (by decide), pp 0 4 (by decide), pp 1 4 (by decide), pp 2 3 (by decide), pp 2 0 (by decide), pp 2 1 (by decide), pp 3 0 (by decide), pp 3 1 (by decide), pp 0 1 (by decide), ne 4, ne 3, ne 0, ne 1, me 4, me 3, me 0, me 1⟩
      refine wpAny_pyIter_zip (s := { s1 with heap := h' }) ez ⟨_, _, _, _, H1, rfl, I1.kept (t' := s1.toks) kk, turn_zip D, ⟨ez, et, ⟨_, _, eo⟩, e1, e2⟩, fun b hb => ?_, q⟩
      have : s1.heap.objs.size ≤ b := by
        simp only [List.mem_cons, List.not_mem_nil, or_false] at hb
        rcases hb with rfl | rfl | rfl | rfl | rfl <;> first | exact Nat.le_add_right _ _ | exact Nat.le_refl _
      exact I1.fpOk this (I1.hok.fresh this)
theorem pi_enum {a : Expr} {ta : TA} {p pos : Pos} (hg : Gl X "enumerate") (hm : X.mg "enumerate" = none) (ha : PA X [a] ta) (hs : starEach [a] X.env = [(false, eval a X.env)] := by rfl) : PI X (.Tuple elts k tp) (.Call (.Name "enumerate" p) [a] [] pos) (iEnu X.K ta) := by
  intro pins s σ H R I h
  refine Call_ (ld_blt I hg hm boot_enumerate (PyProof.Rows.callWith_type1 (thn (ha pos pins s σ H _ I h) fun us s1 ⟨vs, H1, I1, r1, q1⟩ => ?_) hs rfl))
  have q1 : on1 vs _ := q1
  rw [← on1_eq] at q1
  obtain ⟨x, rfl, q2⟩ := q1
  obtain ⟨c, rfl, ⟨xs, hx⟩, q⟩ := onRef_of q2
  cases r1 with
  | cons r rr =>
    cases rr
    cases r
    obtain ⟨_, _, s2, _⟩ := I1.list hx
    refine call_enumerate_list s2.isList fun h' ee ei _ kk => ?_
    refine wpAny_pyIter_enum (s := { s1 with heap := h' }) ee ⟨_, _, _, _, H1, rfl, I1.kept (t' := s1.toks) kk, turn_enum (Nat.ne_of_gt (Nat.lt_succ_self _)), ⟨⟨_, ee⟩, ei⟩, fun b hb => ?_, q⟩
    have : s1.heap.objs.size ≤ b := by
      simp only [List.mem_cons, List.not_mem_nil, or_false] at hb
      rcases hb with rfl | rfl <;> first | exact Nat.le_succ _ | exact Nat.le_refl _
    exact I1.fpOk this (I1.hok.fresh this)
end
section
variable {σ : St} {H : Hp} {D : Ends} {g : TG} {tb : TS} {as : TA} {K : PySem.W.Frag}
theorem e_forZ : tFor (iZip K as) g tb D σ H = as σ H fun vs H1 => on2 vs fun x y => onRef x fun a => onRef y fun b => ∃ t u, (∃ xs, SqS K t H1 a xs) ∧ (∃ ys, SqS K u H1 b ys) ∧ lp (Itz K t u a b) g tb D σ H1 := rfl
theorem e_forE : tFor (iEnu K as) g tb D σ H = as σ H fun vs H1 => on1 vs fun x => onRef x fun a => (∃ xs, SqL K H1 a xs) ∧ lp (Ite K a) g tb D σ H1 := rfl
theorem for_enum {a : Addr} {xs : List V} (Pv : Nat → St → Hp → Prop) (h0 : Pv 0 σ H) (hl : ∀ i σ H, i ≤ xs.length → Pv i σ H → SqL K H a xs)
    (hs : ∀ (i : Nat) x σ H, xs[i]? = some x → Pv i σ H → ∀ p, H p = none → g (.ref p) σ (upd H p (.tup [.int i, x])) fun σ2 H2 => tb { D with nx := Pv (i + 1), ct := Pv (i + 1), bk := D.nx } σ2 H2) (hd : ∀ σ H, Pv xs.length σ H → D.nx σ H) : lp (Ite K a) g tb D σ H := by
  refine ⟨fun i m σ H => m = xs.length - i ∧ i ≤ xs.length ∧ Pv i σ H, ⟨xs.length, by simp, Nat.zero_le _, h0⟩, ?_⟩
  rintro i m σ H ⟨rfl, hi, pv⟩
  have q1 := hl i σ H hi pv
  by_cases lt : i < xs.length
  · refine .inr ⟨⟨xs, xs[i], q1, by simp [lt]⟩, Pv (i + 1), fun σ' H' p' => ⟨xs.length - (i + 1), by omega, rfl, lt, p'⟩, fun v H' yy => ?_⟩
    obtain ⟨p, x, hp, rfl, rfl, e1⟩ := yy
    exact hs i x σ H (e1 xs q1) pv p hp
  · obtain rfl : i = xs.length := by omega
    exact .inl ⟨⟨xs, q1, Nat.le_refl _⟩, hd σ H pv⟩
end
end L2
namespace L2
open PySem PySem.Spec PyProof.Rows
/-! ### comprehensions of two names: [elt for x, y in iter if ..] -/
structure CompSc2 (X : Cx) (sc : Scope) (cl : List (Str × Addr)) (x y0 : Str) (fr : List Nat) (N : List Str) : Prop where
  kind : sc.kind = .function
  nocell : ∀ y ∈ sc.names, y.2 ≠ .cell
  names : ∀ y ∈ sc.names, y.2 = .local → sc.names.lookup y.1 = some .local
  clos : closureFor sc X.env = pure cl
  sub : ∀ y c, cl.lookup y = some c → X.env.cells.lookup y = some c
  has : ∀ y, ((relabel sc X.env).names.lookup y = some .cell ∨ (relabel sc X.env).names.lookup y = some .free) → ∃ c, cl.lookup y = some c
  tgt : sc.names.lookup x = some .local
  tgt2 : sc.names.lookup y0 = some .local
  nd : N.Nodup
  N0 : N = x :: y0 :: fr.map fun j => X.N.getD j x
  frc : ∀ j ∈ fr, ∃ y, X.N[j]? = some y ∧ X.env.kindOf y = some .cell ∧ ((relabel sc X.env).names.lookup y = some .cell ∨ (relabel sc X.env).names.lookup y = some .free)
section
variable {X : Cx} {pins : List (Addr × Obj)} {σ : St} {H : Hp} {s : Shared} {sc : Scope} {cl : List (Str × Addr)} {C : Addr} {x y0 : Str} {fr : List Nat} {N : List Str} {fp : List Addr}
theorem comp_ok2 (I : Inv X pins σ H s) (S : CompSc2 X sc cl x y0 fr N) (hf : ∀ b ∈ fp, FpOk X pins H b) (hfo : ∀ b ∈ fp, b < s.heap.objs.size) (hC : s.heap.objs.size ≤ C) :
    (compCx X sc cl C N s H fp (X.pn ++ pins)).Ok where
  mod := I.ok.mod
  kind := S.kind
  glob := I.ok.glob
  blt := I.ok.blt
  above := hC
  inj := fun n z c h1 h2 => I.ok.inj n z c (S.sub n c h1) (S.sub z c h2)
  has := S.has
  cab := fun _ _ h => by cases h
  hd := I.ok.hd
  frames := I.ok.frames
  stk := .inl rfl
  exf := fun b hb => ⟨Nat.ne_of_lt (Nat.lt_of_lt_of_le (hfo b hb) hC), fun n c e => (hf b hb).2.2.2.2.1 n c (S.sub n c e)⟩
  bs := I.bs
  bsz := Nat.le_trans I.ok.bsz I.sz
  noex := fun b o e hb => by
    rcases (hf b hb).2.2.2.1 with z | z
    · exact I.ok.noex b o e z
    · exact absurd (Nat.lt_of_lt_of_le (Heap.lt_size e) (Nat.le_trans I.ok.bsz z)) (Nat.lt_irrefl _)
  exfs := fun b hb hm => by
    rcases List.mem_cons.mp (I.stkSub b hm) with z | z
    · exact (hf b hb).2.1 z
    · exact (hf b hb).2.2.1 z
  funs := I.stack
  frf := I.stkFree

theorem comp_inv2 (I : Inv X pins σ H s) (S : CompSc2 X sc cl x y0 fr N) (hf : ∀ b ∈ fp, FpOk X pins H b) (hfo : ∀ b ∈ fp, b < s.heap.objs.size) (hC : s.heap.objs.size ≤ C) {h1 : Heap} {t1 : Nat} {m0 : Str → Option Value}
    (hn : h1.Ns C m0) (hk : ∀ b o, s.heap.get? b = some o → h1.get? b = some o) : Inv (compCx X sc cl C N s H fp (X.pn ++ pins)) [] (none :: none :: compSt fr σ) H { s with heap := h1, toks := t1 } := by
  refine ⟨comp_ok2 I S hf hfo hC, rfl, I.bare, Un.kept hk, ⟨m0, hn, fun i y v e1 e2 e3 => ?_⟩, fun y c e => ?_, I.hok.fresh hC, fun y c e => I.freeC y c (S.sub y c e), fun p hp => ?_, I.hok.kept hk, ?_⟩
  · have e1' : N[i]? = some y := e1
    rw [S.N0] at e1'
    match i, e1', e2 with
    | 0, _, e2 => exact absurd (show (some (none : Option V)) = some (some v) from e2) (by simp)
    | 1, _, e2 => exact absurd (show (some (none : Option V)) = some (some v) from e2) (by simp)
    | j + 2, e1', e2 =>
      have e1'' : (fr.map fun j => X.N.getD j x)[j]? = some y := e1'
      have e2' : (compSt fr σ)[j]? = some (some v) := e2
      unfold compSt at e2'
      rw [List.getElem?_map] at e1'' e2'
      cases q : fr[j]? with
      | none => rw [q] at e1''; cases e1''
      | some k =>
        rw [q] at e1'' e2'
        have ey : X.N.getD k x = y := Option.some.inj e1''
        have ev : (σ[k]?).join = some v := Option.some.inj e2'
        obtain ⟨y', hy, hkind, hvis⟩ := S.frc k (List.mem_of_getElem? q)
        have eyy : y = y' := by
          rw [← ey, List.getD_eq_getElem?_getD, hy]
          rfl
        subst eyy
        have ev' : σ[k]? = some (some v) := by
          cases z : σ[k]? with
          | none => rw [z] at ev; cases ev
          | some o =>
            rw [z] at ev
            have ev2 : o = some v := ev
            rw [ev2]
        obtain ⟨m, _, hl⟩ := I.loc
        obtain ⟨u, r, l⟩ := hl k y v hy ev' (.inr (.inl hkind))
        refine ⟨u, r, .inr ⟨hvis, ?_⟩⟩
        rcases l with ⟨z, _⟩ | ⟨_, c, hc, o, ho, hd⟩
        · rw [hkind] at z
          cases z
        · obtain ⟨c', hc'⟩ := S.has y hvis
          have z := S.sub y c' hc'
          rw [hc] at z
          cases z
          exact ⟨c, hc', o, hk c o ho, hd⟩
  · obtain ⟨v, o, ho, hd⟩ := I.cell y c (S.sub y c e)
    exact ⟨v, o, hk c o ho, hd⟩
  · have hp' : p ∈ X.pn ++ pins := by
      have z : p ∈ (X.pn ++ pins) ++ [] := hp
      simpa using z
    obtain ⟨e, n, ne, nf, d⟩ := I.pin p hp'
    exact ⟨hk _ _ e, n, Nat.ne_of_lt (Nat.lt_of_lt_of_le (Heap.lt_size e) hC), nostk I ne nf, d⟩
  · show (none :: none :: compSt fr σ).length = N.length
    rw [S.N0]
    simp [compSt]

end
@[irreducible] def tComp2 (K : PySem.W.Frag) (wi : TI) (fr : List Nat) (tc : TT) (te : TE) : TE := fun σ H Q => wi σ H fun J H1 => ∃ W : Nat → Nat → List V → Hp → Prop, (∃ m, W 0 m [] H1) ∧ ∀ i m xs H, W i m xs H → xs.length ≤ 1000000 ∧
  ((J.stop i H ∧ ∀ p, H p = none → Q (.ref p) (upd H p (.lst xs))) ∨
   (J.go i H ∧ ∀ v H', J.yld i H v H' → ∃ p y y2, v = .ref p ∧ SqT K H' p [y, y2] ∧ tc (some y :: some y2 :: compSt fr σ) H' fun b H2 => if b = true then te (some y :: some y2 :: compSt fr σ) H2 (fun z H3 => ∃ m', m' < m ∧ W (i + 1) m' (xs ++ [z]) H3) else ∃ m', m' < m ∧ W (i + 1) m' xs H2))
section
variable {X : Cx} {sc : Scope} {cl : List (Str × Addr)} {x y0 : Str} {fr : List Nat} {N : List Str} {elt iter : Expr} {px py tp pos : Pos} {tk : Nat} {ifs : List Expr} {wi : TI} {tc : TT} {te : TE}
theorem comp_block2 (hc : X.calm = true) (hx : ∀ e s, ¬ X.xe e s) (S : CompSc2 X sc cl x y0 fr N)
    (hb : ∀ C s H ex pn, PTs (compCx X sc cl C N s H ex pn) ifs tc ∧ PE (compCx X sc cl C N s H ex pn) elt te)
    {pins : List (Addr × Obj)} {σ : St} {H : Hp} {s : Shared} {it : Addr} {fp : List Addr} {tn : Nat → Heap → Prop} {J : It} {Q : VK} {RR : Value → Addr → Result → Shared → Prop} {E : Value → Shared → Prop}
    (I : Inv X pins σ H s) (T : Turn X.prog X.w X.K (.Tuple [.Name x px, .Name y0 py] tk tp) J fp it tn) (st : tn 0 s.heap) (hf : ∀ b ∈ fp, FpOk X pins H b)
    {W : Nat → Nat → List V → Hp → Prop} {m0 : Nat} (w0 : W 0 m0 [] H)
    (turn : ∀ i m xs H, W i m xs H → xs.length ≤ 1000000 ∧
      ((J.stop i H ∧ ∀ p, H p = none → Q (.ref p) (upd H p (.lst xs))) ∨
       (J.go i H ∧ ∀ v H', J.yld i H v H' → ∃ p y y2, v = .ref p ∧ SqT X.K H' p [y, y2] ∧ tc (some y :: some y2 :: compSt fr σ) H' fun b H2 => if b = true then te (some y :: some y2 :: compSt fr σ) H2 (fun z H3 => ∃ m', m' < m ∧ W (i + 1) m' (xs ++ [z]) H3) else ∃ m', m' < m ∧ W (i + 1) m' xs H2)))
    (fin : ∀ (D C : Addr) (s' : Shared) (m' : Str → Option Value) (H' : Hp), s'.heap.Ns C m' → FpOk X pins H' C → (∀ h', Heap.SameBut C s'.heap h' → Inv X pins σ H' { s' with heap := h' }) → Q (.ref D) H' → RR (.ref D) C (.ok .next) s') :
    wpAny (model X.prog X.w) X.A (newList []) (fun acc s₃ => wpAny (model X.prog X.w) X.A (newFunctionEnv sc X.env.globals cl [] X.env.qual none .none (some X.env)) (fun cenv s₄ =>
      codeAny (model X.prog X.w) X.A (.compStart (.ListComp elt [⟨.Tuple [.Name x px, .Name y0 py] tk tp, iter, ifs, 0⟩] sc pos) 0 (.ref it) acc { cenv with scope := relabel sc X.env }) (RR acc cenv.locals) s₄) E s₃) E s :=
  comp_blockG (τ0 := none :: none :: compSt fr σ) (O := fun σ1 => ∃ v0 v1, σ1 = v0 :: v1 :: compSt fr σ) (g := gTup X.K 2 (gCons (gName 0) (gCons (gName 1) gNil))) hc hx S.nocell S.kind S.sub
    (fun C s H ex pn => pg_tup hc (pgs_cons (pg_name (i := 0) S.nd (show N[0]? = some x by rw [S.N0]; rfl) (.inl (lookup_relabel_local S.tgt)) (.inr (lookup_relabel_local S.tgt))) (pgs_cons (pg_name (i := 1) S.nd (show N[1]? = some y0 by rw [S.N0]; rfl) (.inl (lookup_relabel_local S.tgt2)) (.inr (lookup_relabel_local S.tgt2))) pgs_nil))) hb I T st hf
    (fun C h1 t1 m0 hfo hC hn hk => comp_inv2 I S hf hfo hC hn hk) ⟨_, _, rfl⟩ w0
    (fun i m xs H w => let ⟨l, z⟩ := turn i m xs H w; ⟨l, z.imp id fun ⟨g, h⟩ => ⟨g, fun v H' hy σ1 ⟨v0, v1, e⟩ => by
      subst e
      obtain ⟨pp, y, y2, rfl, hpp, hs⟩ := h v H' hy
      exact ⟨pp, [y, y2], rfl, hpp, rfl, _, _, rfl, _, _, rfl, rfl, ⟨_, _, rfl⟩, hs⟩⟩⟩) fin

theorem pe_comp2 (hc : X.calm = true) (hx : ∀ e s, ¬ X.xe e s) (S : CompSc2 X sc cl x y0 fr N) (hi : PI X (.Tuple [.Name x px, .Name y0 py] tk tp) iter wi)
    (hb : ∀ C s H ex pn, PTs (compCx X sc cl C N s H ex pn) ifs tc ∧ PE (compCx X sc cl C N s H ex pn) elt te)
    (hs : ∀ v, foldedSetIterable iter X.env v = pure v := by intro _; rfl) : PE X (.ListComp elt [⟨.Tuple [.Name x px, .Name y0 py] tk tp, iter, ifs, 0⟩] sc pos) (tComp2 X.K wi fr tc te) := by
  intro pins s σ H Q I h
  unfold tComp2 at h
  rw [eval_ListComp]
  refine wpAny_comprehension_free (use := none) rfl hs S.clos S.kind S.names ?_
  refine thn (hi pins s σ H _ I h) fun v s1 h1 => thn h1 fun itv s2 h2 => ?_
  obtain ⟨it, fp, tn, J, H2, e, I2, T, st2, f2, W, ⟨m0, w0⟩, turn⟩ := h2
  subst e
  refine comp_block2 (RR := fun acc C => compPost (model X.prog X.w) X.A X.xe none (EP X pins σ Q) acc C) hc hx S hb I2 T st2 f2 w0 turn ?_
  intro D C s' m' H' hn _ hfin q
  exact ⟨m', hn, fun h' hs' => ⟨.ref D, H', hfin h' hs', rfl, q⟩⟩
end
theorem CompSc2.of {X : Cx} {sc : Scope} {cl : List (Str × Addr)} {x y0 : Str} {fr : List Nat} {N M : List Str} (S : CompSc X sc cl x fr M) (tgt2 : sc.names.lookup y0 = some .local) (nd : N.Nodup) (N0 : N = x :: y0 :: fr.map fun j => X.N.getD j x) : CompSc2 X sc cl x y0 fr N :=
  ⟨S.kind, S.nocell, S.names, S.clos, S.sub, S.has, S.tgt, tgt2, nd, N0, S.frc⟩
noncomputable def lc2 (K : PySem.W.Frag) (J : It) (fr : List Nat) (tc : TT) (te : TE) (σ : St) (H : Hp) (Q : VK) : Prop := ∃ W : Nat → Nat → List V → Hp → Prop, (∃ m, W 0 m [] H) ∧ ∀ i m xs H, W i m xs H → xs.length ≤ 1000000 ∧
  ((J.stop i H ∧ ∀ p, H p = none → Q (.ref p) (upd H p (.lst xs))) ∨
   (J.go i H ∧ ∀ v H', J.yld i H v H' → ∃ p y y2, v = .ref p ∧ SqT K H' p [y, y2] ∧ tc (some y :: some y2 :: compSt fr σ) H' fun b H2 => if b = true then te (some y :: some y2 :: compSt fr σ) H2 (fun z H3 => ∃ m', m' < m ∧ W (i + 1) m' (xs ++ [z]) H3) else ∃ m', m' < m ∧ W (i + 1) m' xs H2))
section
variable {fr : List Nat} {tc : TT} {te : TE} {σ : St} {H : Hp} {Q : VK} {as : TA} {K : PySem.W.Frag}
theorem e_comp2Z : tComp2 K (iZip K as) fr tc te σ H Q = as σ H fun vs H1 => on2 vs fun x y => onRef x fun a => onRef y fun b => ∃ t u, (∃ xs, SqS K t H1 a xs) ∧ (∃ ys, SqS K u H1 b ys) ∧ lc2 K (Itz K t u a b) fr tc te σ H1 Q := by
  unfold tComp2 iZip
  rfl
theorem e_comp2E : tComp2 K (iEnu K as) fr tc te σ H Q = as σ H fun vs H1 => on1 vs fun x => onRef x fun a => (∃ xs, SqL K H1 a xs) ∧ lc2 K (Ite K a) fr tc te σ H1 Q := by
  unfold tComp2 iEnu
  rfl
theorem lc_zip {t u : Bool} {a b : Addr} {us vs : List V} (hlen : us.length = vs.length) (Pv : Nat → List V → Hp → Prop) (h0 : Pv 0 [] H) (hz : ∀ i xs H, Pv i xs H → xs.length ≤ 1000000) (hl : ∀ i xs H, Pv i xs H → SqS K t H a us ∧ SqS K u H b vs)
    (hs : ∀ i y y2 xs H, i < us.length → us[i]? = some y → vs[i]? = some y2 → Pv i xs H → ∀ p, H p = none → tc (some y :: some y2 :: compSt fr σ) (upd H p (.tup [y, y2])) fun b H2 => if b = true then te (some y :: some y2 :: compSt fr σ) H2 (fun z H3 => Pv (i + 1) (xs ++ [z]) H3) else Pv (i + 1) xs H2)
    (hd : ∀ xs H, Pv us.length xs H → ∀ p, H p = none → Q (.ref p) (upd H p (.lst xs))) : lc2 K (Itz K t u a b) fr tc te σ H Q := by
  refine ⟨cW us.length Pv, ⟨us.length, by simp, Nat.zero_le _, h0⟩, ?_⟩
  rintro i m xs H ⟨rfl, hi, pv⟩
  refine ⟨hz i xs H pv, ?_⟩
  obtain ⟨q1, q2⟩ := hl i xs H pv
  by_cases lt : i < us.length
  · refine .inr ⟨⟨us, vs, us[i], vs[i], q1, q2, by simp [lt], by simp [← hlen, lt]⟩, fun v H' yy => ?_⟩
    obtain ⟨p, x, y, hp, rfl, rfl, e1, e2⟩ := yy
    refine ⟨p, x, y, rfl, SqT.of upd_same, ?_⟩
    simp only [cW_eq lt]
    exact hs i x y xs H lt (e1 us q1) (e2 vs q2) pv p hp
  · obtain rfl : i = us.length := by omega
    exact .inl ⟨⟨us, vs, q1, q2, .inl (Nat.le_refl _)⟩, hd xs H pv⟩
end
/-! ### dict(d) of a dict of the module -/
/-- the entries, by their keys -/
inductive EntsAre : List DictEntry → List (Key × V) → Prop
  | nil : EntsAre [] []
  | cons {h : Int} {x : Str} {t : Tok} {u : Value} {v : V} {es : List DictEntry} {kvs : List (Key × V)} : RelV v u → EntsAre es kvs → EntsAre ({ hash := h, key := .str x t, val := u } :: es) ((.inr x, v) :: kvs)
structure ModT (P : Params) (K : PySem.W.Frag) (d : Addr) (kvs : List (Key × V)) : Prop where
  ex : ∃ es n, K.lookup d = some { cls := .type "dict", data := .dict es n } ∧ PySem.W.KeysLit P es.toList ∧ EntsAre es.toList kvs
  nd : (kvs.map (·.1)).Nodup
  ne : (d == sysModules) = false
  z : kvs.length ≤ sizeLine
noncomputable def cDictM (d : Addr) (kvs : List (Key × V)) : List V → Hp → VK → Prop := fun vs H Q => vs = [.ref d] ∧ ∀ p, H p = none → Q (.ref p) (upd H p (.dK kvs))
theorem EntsAre.vals {P : Program} {w : World} {es : List DictEntry} {kvs : List (Key × V)} (h : EntsAre es kvs) : ∃ vs : List (Key × Value), KV kvs vs ∧ Pairs (mixKind P w) es vs := by
  induction h with
  | nil => exact ⟨[], .nil, .nil⟩
  | @cons h x t u v es kvs r _ ih =>
    obtain ⟨vs, a, b⟩ := ih
    exact ⟨(.inr x, u) :: vs, .cons ⟨rfl, r⟩ a, .cons (mixKind_str P w x t) rfl b⟩
theorem KV.keysJ {κ : Type} {kvs : List (κ × V)} {vs : List (κ × Value)} (r : KV kvs vs) : kvs.map (·.1) = vs.map (·.1) := by
  unfold KV at r
  induction r with
  | nil => rfl
  | cons h _ ih => rw [List.map_cons, List.map_cons, h.1, ih]
theorem call_dictM {X : Cx} {d : Addr} {kvs : List (Key × V)} (M : ModT X.w.params X.K d kvs) : CallR X (.type "dict") (cDictM d kvs) := fun pins s σ H xs us Q I r h => by
  obtain ⟨rfl, q⟩ := h
  obtain ⟨u, rfl, ru⟩ := r.one
  cases ru
  obtain ⟨es, n, lk, kl, en⟩ := M.ex
  obtain ⟨vs, rel, pr⟩ := en.vals (P := X.prog) (w := X.w)
  have nd : (vs.map (·.1)).Nodup := by
    rw [← rel.keysJ]
    exact M.nd
  have dd : s.heap.DictOf (mixKind X.prog X.w) d vs := ⟨_, es, n, I.kIn _ _ lk, ⟨rfl, rfl, rfl⟩, rfl, fun e he => by
    obtain ⟨x, t, e1, e2⟩ := kl.all e (Array.mem_toList_iff.mpr he)
    exact ⟨.inr x, by rw [e1]; exact mixKind_str _ _ x t, e2⟩, pr, nd⟩
  refine kt_call_dict M.ne dd (by rw [← rel.length]; exact M.z) fun h' dd' hs => ⟨.ref s.heap.objs.size, upd H s.heap.objs.size (.dK kvs), I.laid (t' := s.toks) (fun b o e => ?_) (Nat.le_refl _) (dk_new M.z (beq_eq_false_iff_ne.mpr (Ne.symm (Nat.ne_of_lt I.big))) rel dd'), rfl, q _ (I.hok.fresh (Nat.le_refl _))⟩
  exact (hs.2 b (Nat.ne_of_lt (Heap.lt_size e))).trans (Heap.get?_push_of_some _ e)
theorem e_dictM {d : Addr} {kvs : List (Key × V)} {H : Hp} {Q : VK} : cDictM d kvs [.ref d] H Q = ∀ p, H p = none → Q (.ref p) (upd H p (.dK kvs)) := by simp [cDictM]
end L2
namespace L2
open PySem PySem.Spec PyProof.Rows
/-! ### isinstance(x, list), xs.clear(), != of truths -/
noncomputable def kLst : Option HO → Option Bool
  | some (.lst _) => some true
  | some (.tup _) => some false
  | _ => none
noncomputable def cIsiL : List V → Hp → VK → Prop := fun vs H Q => on2 vs fun x y => onRef x fun p => y = .ty "list" ∧ onO (kLst (H p)) fun b => Q (.bl b) H
section
variable {X : Cx}
noncomputable def cLenT (K : PySem.W.Frag) : List V → Hp → VK → Prop := fun vs H Q => on1 vs fun x => onRef x fun p => ∃ xs, SqT K H p xs ∧ Q (.int xs.length) H
theorem call_lenT : CallR X (.builtin "len") (cLenT X.K) := fun pins s σ H xs us Q I r h => by
  obtain ⟨x, rfl, h1⟩ := on1_is h
  obtain ⟨p, rfl, ys, e, q⟩ := onRef_of h1
  exact call_len_seq pins s σ H _ us Q I r ⟨p, ys, rfl, .inr e, q⟩
variable {o : Expr} {to : TE} {apos cpos : Pos}
noncomputable def cLClear (to : TE) : TE := fun σ H Q => to σ H fun x H1 => onRef x fun a => onLst (H1 a) fun _ => Q .non (upd H1 a (.lst []))
end
section
variable {H : Hp} {Q : VK} {p : Addr} {σ : St} {to : TE} {vs : List V}
theorem e_isiL : cIsiL [.ref p, .ty "list"] H Q = onO (kLst (H p)) fun b => Q (.bl b) H := by
  unfold cIsiL on2
  simp only [onRef, true_and]
theorem e_lenT {K : PySem.W.Frag} : cLenT K [.ref p] H Q = ∃ xs, SqT K H p xs ∧ Q (.int xs.length) H := rfl
theorem e_kll : kLst (some (.lst vs)) = some true := rfl
theorem e_klt : kLst (some (.tup vs)) = some false := rfl
theorem e_lclear : cLClear to σ H Q = to σ H fun x H1 => onRef x fun a => onLst (H1 a) fun _ => Q .non (upd H1 a (.lst [])) := rfl
theorem e_neB {a b : Bool} : rNe (.bl a) (.bl b) H Q = Q (.bl (!decide (a = b))) H := by simp only [rNe, show scal (.bl a) (.bl b) = true from rfl, V.bl.injEq, true_and]
end
end L2
namespace L2
open PySem PySem.Spec PyProof.Rows
/-! ### sum(ints), a read list + a list -/
noncomputable def cSum (K : PySem.W.Frag) : List V → Hp → VK → Prop := fun vs H Q => on1 vs fun x => onRef x fun p => ∃ ns : List Int, SqL K H p (ns.map V.int) ∧ ∀ z : Int, Q (.int z) H
noncomputable def cCatS (K : PySem.W.Frag) : R2 := fun x y H Q => onRef x fun a => onRef y fun b => ∃ xs ys, SqL K H a xs ∧ SqL K H b ys ∧ xs.length + ys.length ≤ sizeLine ∧ ∀ p, H p = none → Q (.ref p) (upd H p (.lst (xs ++ ys)))
section
variable {X : Cx}
end
section
variable {K : PySem.W.Frag} {H : Hp} {Q : VK} {p a b : Addr}
theorem e_sum : cSum K [.ref p] H Q = ∃ ns : List Int, SqL K H p (ns.map V.int) ∧ ∀ z : Int, Q (.int z) H := rfl
theorem e_catS : cCatS K (.ref a) (.ref b) H Q = ∃ xs ys, SqL K H a xs ∧ SqL K H b ys ∧ xs.length + ys.length ≤ sizeLine ∧ ∀ p, H p = none → Q (.ref p) (upd H p (.lst (xs ++ ys))) := rfl
end
section
variable {X : Cx} {sc : Scope} {cl : List (Str × Addr)} {x y0 : Str} {fr : List Nat} {N : List Str} {elt iter : Expr} {px px0 tp pos : Pos} {tk : Nat} {ifs : List Expr} {wi : TI} {tc : TT} {te : TE}
end
end L2
namespace L2
open PySem PySem.Spec PyProof.Rows
/-! ### what follows a statement, hidden while it is read -/
section
variable {a b : TS} {D : Ends} {σ : St} {H : Hp}
theorem cut_seq (h : ∀ R : St → Hp → Prop, (∀ σ' H', b D σ' H' → R σ' H') → a { D with nx := R } σ H) : tSeq a b D σ H := h (b D) fun _ _ x => x
end
end L2
namespace L2
open PySem PySem.Spec PyProof.Rows
/-! ### exceptions on their way, with their dicts -/
theorem dict_mapF (o : Obj) (f : Array Value → Array Value) : (o.mapFields f).dict = o.dict := by
  obtain ⟨_, _, x, _⟩ := o
  cases x <;> rfl
/-- an exception that was noted in some frame: its class, its dict -/
noncomputable def TrD (h base : Heap) (e : Addr) (cls : Value) (od : Option Addr) (fl : Value) : Prop := ∃ oe vs T oT ts, (h.get? e = some oe ∧ oe.cls = cls ∧ oe.dict = od ∧ oe.data = .fields vs) ∧ (vs[1]? = some (.ref T) ∧ base.get? T = none ∧ T ≠ e) ∧ h.get? T = some oT ∧ oT.data = .fields ts ∧ ts[3]? = some fl
/-- one that was noted nowhere yet -/
noncomputable def NwD (h : Heap) (e : Addr) (cls : Value) (od : Option Addr) : Prop := ∃ oe vs, (h.get? e = some oe ∧ oe.cls = cls ∧ oe.dict = od ∧ oe.data = .fields vs) ∧ vs[1]? = some .none
/-- what a frame's note leaves -/
structure NtD (base : Heap) (l : List Env) (e : Addr) (cls : Value) (od : Option Addr) (fl : Value) (h h' : Heap) : Prop where
  st : base.StaysIn h'
  fr : h'.FunFrames base l
  tr : TrD h' base e cls od fl
  up : h.UpToSlots h'
section
variable {M : Model} {A : Around} {E : Value → Shared → Prop} {s : Shared} {base : Heap} {env : Env} {outer l : List Env} {L e : Addr} {cls fl : Value} {od : Option Addr} {Q : Unit → Shared → Prop}
theorem ent_d {oe : Obj} {vs : Array Value} {head : Value} {hn : Bool} (hfr : A.frames = some (env :: outer)) (fr : s.heap.FunFrames base (env :: outer)) (hf : env.frame = some L) (st : base.StaysIn s.heap) (nb : base.get? e = none)
    (he : s.heap.get? e = some oe ∧ oe.cls = cls ∧ oe.dict = od ∧ oe.data = .fields vs) (hz : 1 < vs.size) (q : ∀ h', NtD base (env :: outer) e cls od (rawInt L) s.heap h' → Q () { s with heap := h' }) :
    wpAny M A (do let a ← frameOf env; let pl ← entryPlaceOf L hn; let b ← EntryCells.newEntry head a .none (rawInt L) .none pl; setField (.ref e) 1 b) Q E s := by
  obtain ⟨e0, e1, e2, e3⟩ := he
  have nf : ∀ b o, s.heap.get? b = some o → (∀ ws, o.data ≠ .fields ws) → b ≠ e := fun b o hb hd z => by
    subst z
    rw [e0] at hb
    cases hb
    exact hd _ e3
  have ne : e ∉ (env :: outer).filterMap (·.frame) := fun z => by
    obtain ⟨_, o, ho, hd⟩ := fr.mem z
    exact nf e o ho hd rfl
  refine wpAny_bind (wpAny_frameOf_fun hfr fr hf fun g so => wpAny_bind (wpAny_entryPlaceOf fun pl hpl => ?_))
  unfold EntryCells.newEntry newFields
  refine wpAny_bind (wpAny_newObj_type ?_ (hpl.sizeOk5 _ _ _ _ _))
  generalize eT : ([head, Value.ref L, Value.none, rawInt L, Value.none] ++ (if pl.isEmpty then List.replicate 6 Value.none else pl)).toArray = tv
  have t3 : tv[3]? = some (rawInt L) := by rw [← eT]; simp
  have ge : g.get? e = some oe := (so.2.1 e ne).trans e0
  have nT : g.objs.size ≠ e := Nat.ne_of_gt (Heap.lt_size ge)
  have d3 := Obj.data_mapFields e3 (·.setIfInBounds 1 (Value.ref g.objs.size))
  refine wpAny_setField (Heap.get?_push_of_some _ ge) e3 hz (q _ ?_)
  have ke : ∀ b o, b ≠ e → g.get? b = some o → ((g.push { cls := .type "traceback", dict := none, data := .fields tv }).update e (Obj.mapFields (·.setIfInBounds 1 (Value.ref g.objs.size)))).get? b = some o := fun b o hb ho => by
    rw [Heap.get?_update_other _ _ hb.symm]
    exact Heap.get?_push_of_some _ ho
  refine ⟨fun b o hb => ke b o (fun z => by rw [z, nb] at hb; cases hb) ?_, fr.of_keeps fun b o hb hd => ?_, ?_, fun b o hb hd => ?_⟩
  · rw [so.2.1 b fun z => by rw [(fr.mem z).1] at hb; cases hb]
    exact st b o hb
  · obtain ⟨sl, hs⟩ := so.2.2 b o hb
    exact ⟨_, ke b _ (nf b o hb hd) hs, rfl⟩
  · refine ⟨_, _, g.objs.size, { cls := .type "traceback", dict := none, data := .fields tv }, tv, ⟨Heap.get?_update_self _ (Heap.get?_push_of_some _ ge) (Obj.isFreed_of_fields d3), (Obj.cls_mapFields _ _).trans e1, (dict_mapF _ _).trans e2, d3⟩, ⟨by simp [hz], ?_, nT⟩, ?_, rfl, t3⟩
    · cases z : base.get? g.objs.size with
      | none => rfl
      | some o =>
        have hb : g.objs.size ∉ (env :: outer).filterMap (·.frame) := fun y => by rw [(fr.mem y).1] at z; cases z
        have := (so.2.1 _ hb).trans (st _ o z)
        exact absurd (Heap.lt_size this) (Nat.lt_irrefl _)
    · rw [Heap.get?_update_other _ _ nT.symm]
      exact Heap.get?_push_size g rfl
  · obtain ⟨sl, hs⟩ := so.2.2 b o hb
    exact ⟨sl, ke b _ (nf b o hb hd) hs⟩
theorem note_d (hfr : A.frames = some (env :: outer)) (fr : s.heap.FunFrames base (env :: outer)) (hf : env.frame = some L) (st : base.StaysIn s.heap) (nb : base.get? e = none) (x : NwD s.heap e cls od ∨ TrD s.heap base e cls od .none)
    (q : ∀ h', NtD base (env :: outer) e cls od (rawInt L) s.heap h' → Q () { s with heap := h' }) : wpAny M A (noteFrame (.ref e) env) Q E s := by
  unfold noteFrame
  simp only [hf]
  rcases x with ⟨oe, vs, he, h1⟩ | ⟨oe, vs, T, oT, ts, he, ⟨h1, h2, h3⟩, hT, dT, t3⟩
  · refine wpAny_bind (wpAny_field he.1 he.2.2.2 h1 ?_)
    rw [if_neg (by decide)]
    exact ent_d hfr fr hf st nb he (Array.getElem?_eq_some_iff.mp h1).1 q
  · refine wpAny_bind (wpAny_field he.1 he.2.2.2 h1 ?_)
    rw [if_pos (show (Value.ref T != Value.none) = true by simp)]
    refine wpAny_bind (wpAny_field hT dT t3 ?_)
    rw [if_neg (by simp [rawInt])]
    refine wpAny_bind (wpAny_setField hT dT (Array.getElem?_eq_some_iff.mp t3).1 ?_)
    have oth : ∀ b, b ≠ T → (s.heap.update T (Obj.mapFields (·.setIfInBounds 3 Value.none))).get? b = s.heap.get? b := fun b hb => Heap.get?_update_other _ _ hb.symm
    have nr : ∀ b o, s.heap.get? b = some o → (∀ ws, o.data ≠ .fields ws) → b ≠ T := fun b o hb hd z => by
      subst z
      rw [hT] at hb
      cases hb
      exact hd _ dT
    refine ent_d hfr (fr.of_keeps fun b o hb hd => ⟨o, (oth b (nr b o hb hd)).trans hb, rfl⟩) hf (fun b o hb => (oth b fun z => by rw [z, h2] at hb; cases hb).trans (st b o hb)) nb ⟨(oth e h3.symm).trans he.1, he.2⟩ (Array.getElem?_eq_some_iff.mp h1).1 fun h' n => q h' ⟨n.st, n.fr, n.tr, fun b o hb hd => n.up b o ((oth b (nr b o hb hd)).trans hb) hd⟩
theorem flag_d (fr : s.heap.FunFrames base l) (st : base.StaysIn s.heap) (x : TrD s.heap base e cls od fl) (q : ∀ h', NtD base l e cls od .none s.heap h' → Q () { s with heap := h' }) : wpAny M A (setFlight (.ref e) none) Q E s := by
  obtain ⟨oe, vs, T, oT, ts, he, ⟨h1, h2, h3⟩, hT, dT, t3⟩ := x
  have z3 := (Array.getElem?_eq_some_iff.mp t3).1
  unfold setFlight
  refine wpAny_bind (wpAny_field he.1 he.2.2.2 h1 ?_)
  rw [if_pos (show (Value.ref T != Value.none) = true by simp)]
  refine wpAny_setField hT dT z3 (q _ ?_)
  have oth : ∀ b, b ≠ T → (s.heap.update T (Obj.mapFields (·.setIfInBounds 3 ((none : Option Addr).elim Value.none fun f => rawInt f)))).get? b = s.heap.get? b := fun b hb => Heap.get?_update_other _ _ hb.symm
  have nr : ∀ b o, s.heap.get? b = some o → (∀ ws, o.data ≠ .fields ws) → b ≠ T := fun b o hb hd z => by
    subst z
    rw [hT] at hb
    cases hb
    exact hd _ dT
  exact ⟨fun b o hb => (oth b fun z => by rw [z, h2] at hb; cases hb).trans (st b o hb), fr.of_keeps fun b o hb hd => ⟨o, (oth b (nr b o hb hd)).trans hb, rfl⟩, ⟨oe, vs, T, _, _, ⟨(oth e h3.symm).trans he.1, he.2⟩, ⟨h1, h2, h3⟩, Heap.get?_update_self _ hT (Obj.isFreed_of_fields (Obj.data_mapFields dT _)), Obj.data_mapFields dT _, by simp [z3]⟩,
    fun b o hb hd => ⟨o.slots, (oth b (nr b o hb hd)).trans hb⟩⟩
/-- in flight over l -/
structure FlD (base : Heap) (l : List Env) (e : Addr) (cls : Value) (od : Option Addr) (h : Heap) : Prop where
  st : base.StaysIn h
  nb : base.get? e = none
  fr : h.FunFrames base l
  tr : TrD h base e cls od .none
theorem leave_d (hfr : A.frames = some (env :: outer)) (fr : s.heap.FunFrames base (env :: outer)) (hf : env.frame = some L) (st : base.StaysIn s.heap) (nb : base.get? e = none) (x : NwD s.heap e cls od ∨ TrD s.heap base e cls od .none)
    (q : ∀ h', FlD base outer e cls od h' → s.heap.UpToSlots h' → Q () { s with heap := h' }) : wpAny M A (leaving env (.ref e)) Q E s := by
  unfold leaving
  refine wpAny_bind (note_d hfr fr hf st nb x fun h' n => flag_d (s := { s with heap := h' }) n.fr n.st n.tr fun h2 n2 => q h2 ⟨n2.st, nb, n2.fr.2.2, n2.tr⟩ (n.up.trans n2.up))
end
end L2
namespace L2
open PySem PySem.Spec PyProof.Rows
/-- an exception on its way: behind a call that began at H, s; it flies over the frames outer -/
structure Fl (P : Program) (w : World) (base : Heap) (outer : List Env) (H : Hp) (s : Shared) (H' : Hp) (x : Addr) (cls : Value) (od : Option Addr) (s' : Shared) : Prop where
  os : s'.os = s.os
  bare : AllBare s'.gens
  un : Un (frs outer) [] H H' s.heap s'.heap
  hok : HOk P w H' s'.heap
  fly : ∃ B, FlD B outer x cls od s'.heap ∧ base.StaysIn B ∧ (∀ a o, H' a = some o → ∃ ob, B.get? a = some ob) ∧
    (∀ b o, s.heap.get? b = some o → H b = none → b ∉ frs outer → B.get? b = some o) ∧ ∀ b o, s.heap.get? b = some o → b ∉ frs outer → ∃ ob, B.get? b = some ob
  nx : H' x = none
/-- how an exception lies behind a call: its class, its dict -/
noncomputable def CX1 (P : Program) (w : World) (base : Heap) : CXT := fun outer H s E e s' => ∃ x cls od H', e = .ref x ∧ Fl P w base outer H s H' x cls od s' ∧ E cls od H'
section
variable {P : Program} {w : World} {K : PySem.W.Frag} {mg : Str → Option Value} {base : Heap} {N : List Str} {qual : Str} {scope : Scope} {f : Addr} {cd : Value} {A : Around} {outer : List Env} {s0 s s' : Shared} {H0 H H' : Hp} {E : XK} {pins : List (Addr × Obj)} {σ : St} {x : Addr} {cls : Value} {od : Option Addr} {B h' : Heap}
/-- the abstract heap holds where all that it tracks has stayed -/
theorem HOk.flown (x : HOk P w H' s'.heap) (b0 : B.StaysIn s'.heap) (b1 : B.StaysIn h') (b2 : ∀ a o, H' a = some o → ∃ ob, B.get? a = some ob) : HOk P w H' h' := fun a o e =>
  (x a o e).stay (fun b u hb q => by
    obtain ⟨ob, hob⟩ : ∃ ob, B.get? b = some ob := by
      rcases hb with rfl | hb
      · exact b2 _ _ e
      · exact b2 _ _ hb
    have := b0 b ob hob
    rw [q] at this
    cases this
    exact b1 b _ hob) (fun _ q => q) fun _ _ q => q
/-- it leaves a frame: what is then told of the frame's caller -/
theorem Fl.out (I : Inv (cxOf (CX1 P w base) P w K mg base N qual scope f cd A outer s0 H0 E) pins σ H' s) (hs : ∀ b o, s.heap.get? b = some o → (∀ vs, o.data ≠ .fields vs) → ∃ sl, h'.get? b = some { o with slots := sl })
    (fl : FlD B outer x cls od h') (bs : base.StaysIn B) (b2 : ∀ a o, H' a = some o → ∃ ob, B.get? a = some ob) (hok : HOk P w H' h')
    (b3 : ∀ b o, s0.heap.get? b = some o → H0 b = none → b ∉ frs outer → B.get? b = some o) (b4 : ∀ b o, s0.heap.get? b = some o → b ∉ frs outer → ∃ ob, B.get? b = some ob) (nx : H' x = none) :
    Fl P w base outer H0 s0 H' x cls od { s with heap := h' } := by
  have slot : ∀ b o, s0.heap.get? b = some o → H0 b = none → b ∈ frs outer → ∃ sl, h'.get? b = some { o with slots := sl } := fun b o q n hb => by
    obtain ⟨sl, e⟩ := I.base.slot b o q n hb (by intro z; cases z)
    obtain ⟨_, o', ho', hn⟩ := I.funs.mem hb
    rw [e] at ho'
    cases ho'
    obtain ⟨sl', e'⟩ := hs b _ e hn
    exact ⟨sl', e'⟩
  refine ⟨I.os, I.bare, ⟨fun b o q n hb _ => fl.st b o (b3 b o q n hb), fun b o q n hb _ => slot b o q n hb, fun b o q n _ => I.base.free b o q n (by intro z; cases z), fun b o q _ => ?_, I.base.tups, I.base.frzs, I.base.tbls⟩, hok, ⟨B, fl, bs, b2, b3, b4⟩, nx⟩
  by_cases hb : b ∈ frs outer
  · obtain ⟨_, o', ho', _⟩ := fl.fr.mem hb
    exact ⟨o', ho'⟩
  · obtain ⟨ob, hob⟩ := b4 b o q hb
    exact ⟨ob, fl.st b ob hob⟩
theorem frs_own {env : Env} {L b : Addr} (h : env.frame = some L) (hb : b ∈ frs (env :: outer)) : b = L ∨ b ∈ frs outer := by
  unfold frs at hb
  rw [List.filterMap_cons, h] at hb
  exact List.mem_cons.mp hb
/-- an exception of a callee goes through -/
theorem pass1 {E1 : XK} (h : ∀ cls od G, E1 cls od G → E cls od G) : Passes (CX1 P w base) (cxOf (CX1 P w base) P w K mg base N qual scope f cd A outer s0 H0 E) E1 := by
  intro pins σ H s e s' I hx
  obtain ⟨x, cls, od, H', rfl, F, hE⟩ := hx
  obtain ⟨B, fly, bs, b2, b3, b4⟩ := F.fly
  have I' : Inv (cxOf (CX1 P w base) P w K mg base N qual scope f cd A outer s0 H0 E) pins σ H' s' := I.call' F.os F.un F.hok F.bare (by simp)
  have nL : ∀ b o, s0.heap.get? b = some o → b ∉ frs outer → b ∉ frs (envOfC qual scope s0.heap.objs.size f cd :: outer) := fun b o q hb z => by
    rcases frs_own (L := s0.heap.objs.size) rfl z with z | z
    · exact absurd (Heap.lt_size q) (by rw [z]; exact Nat.lt_irrefl _)
    · exact hb z
  refine leave_d (L := s0.heap.objs.size) I.ok.frames fly.fr rfl fly.st fly.nb (.inr fly.tr) fun h' fl' up => ?_
  refine ⟨x, cls, od, H', rfl, Fl.out I' up fl' bs b2 (F.hok.flown fly.st fl'.st b2) (fun b o q n hb => ?_) (fun b o q hb => ?_) F.nx, h _ _ _ hE⟩
  · exact b3 b o (I.base.keep b o q n hb (by intro z; cases z)) (I.base.free b o q n (by intro z; cases z)) (nL b o q hb)
  · obtain ⟨o', ho'⟩ := I.base.there b o q (by intro z; cases z)
    exact b4 b o' ho' (nL b o q hb)
/-- a new exception that is not tracked leaves -/
theorem raisedN (I : Inv (cxOf (CX1 P w base) P w K mg base N qual scope f cd A outer s0 H0 E) pins σ H s) (nx : H x = none) (hx : NwD s.heap x cls od) (n0 : s0.heap.get? x = none) (hE : E cls od H) :
    (cxOf (CX1 P w base) P w K mg base N qual scope f cd A outer s0 H0 E).xe (.ref x) s := by
  have nL : ∀ b o, s0.heap.get? b = some o → b ∉ frs outer → b ∉ x :: frs (envOfC qual scope s0.heap.objs.size f cd :: outer) := fun b o q hb z => by
    rcases List.mem_cons.mp z with z | z
    · rw [z, n0] at q; cases q
    · rcases frs_own (L := s0.heap.objs.size) rfl z with z | z
      · exact absurd (Heap.lt_size q) (by rw [z]; exact Nat.lt_irrefl _)
      · exact hb z
  have stk := I.stack
  have hin : ∀ env ∈ (envOfC qual scope s0.heap.objs.size f cd :: outer), ∀ b, env.frame = some b → b ∈ x :: frs (envOfC qual scope s0.heap.objs.size f cd :: outer) := fun env he b hb => .tail _ (List.mem_filterMap.mpr ⟨env, he, hb⟩)
  have bs : base.StaysIn (PySem.W.hideAll s.heap (x :: frs (envOfC qual scope s0.heap.objs.size f cd :: outer))) := fun b o q => PySem.W.hideAll_get _ (I.bk b o q) fun hm => by
    rcases List.mem_cons.mp hm with hm | hm
    · have := (I.ok.bs b o q).1
      rw [hm] at this
      rw [show (cxOf (CX1 P w base) P w K mg base N qual scope f cd A outer s0 H0 E).s₀ = s0 from rfl, n0] at this
      cases this
    · have : base.get? b = none := (stk.mem hm).1
      rw [q] at this
      cases this
  have b2 : ∀ a o, H a = some o → ∃ ob, (PySem.W.hideAll s.heap (x :: frs (envOfC qual scope s0.heap.objs.size f cd :: outer))).get? a = some ob := fun a o e => by
    obtain ⟨ob, hob⟩ := (I.hok a o e).there
    refine ⟨ob, PySem.W.hideAll_get _ hob fun hm => ?_⟩
    rcases List.mem_cons.mp hm with hm | hm
    · rw [hm, nx] at e; cases e
    · rw [I.stkFree a hm] at e
      cases e
  refine leave_d (L := s0.heap.objs.size) I.ok.frames (PySem.W.funFrames_hide stk hin) rfl (fun b o q => PySem.W.of_hideAll _ q) (PySem.W.hideAll_none _ (.head _)) (.inl hx) fun h2 fl up => ?_
  refine ⟨x, cls, od, H, rfl, Fl.out I up fl bs b2 (I.hok.flown (fun b o q => PySem.W.of_hideAll _ q) fl.st b2) (fun b o q n hb => ?_) (fun b o q hb => ?_) nx, hE⟩
  · exact PySem.W.hideAll_get _ (I.base.keep b o q n hb (by intro z; cases z)) (nL b o q hb)
  · obtain ⟨o', ho'⟩ := I.base.there b o q (by intro z; cases z)
    exact ⟨o', PySem.W.hideAll_get _ ho' (nL b o q hb)⟩
end

/-- a class's row of classes -/
noncomputable def mroIs (K : PySem.W.Frag) (C : Addr) (l : List Value) : Bool := match K.lookup C with
  | some ob => (match ob.data with
    | .cls cd => cd.mro == l
    | _ => false)
  | none => false
/-- the words of a class of one's own without an __init__ of its own, under ValueError -/
noncomputable abbrev vErr : List Value := [.type "ValueError", .type "Exception", .type "BaseException", .type "object"]
/-- an exception's class of the text, under ValueError: it may have an __init__ of its own, those above have none -/
noncomputable def excJ (K : PySem.W.Frag) (C : Addr) : Bool := match K.lookup C with
  | some ⟨.type "type", _, .cls cd, sl⟩ => (match cd.mro, sl.toList with
    | .ref C' :: bm, [_, _, _, _, some (.builtin n), _] => C' == C && n == "ValueError.__new__" && !cd.hasDel && PySem.W.tailIn K vErr bm && PySem.W.nsOkIn K cd.ns
    | _, _ => false)
  | _ => false
structure XCls (K : PySem.W.Frag) (C : Addr) (bm : List Value) : Prop where
  ok : excJ K C = true
  mro : mroIs K C (.ref C :: bm) = true
theorem ns_of {K : PySem.W.Frag} {h : Heap} {N : Addr} {mN : Str → Option Value} {n : Str} {r : Option Value} (X : K.In h) (G : h.Ns N mN) (q : PySem.W.nsIn K N n = some r) : mN n = r := by
  obtain ⟨o, es, ep, ho, hd, _, hf⟩ := G
  unfold PySem.W.nsIn at q
  split at q
  · next lk =>
    have z := X _ _ lk
    rw [ho] at z
    cases z
    cases hd
    rw [← hf]
    unfold nsFind findBy
    rw [← Array.find?_toList]
    split at q
    · next w => cases q; rw [w]; rfl
    · next w =>
      split at q
      · cases q
      · cases q; rw [w]; rfl
  · cases q
/-- the class as an object; names are in it by nsIn of the part K -/
theorem XCls.obj {K : PySem.W.Frag} {h : Heap} {C : Addr} {bm : List Value} (x : XCls K C bm) (X : K.In h) : ∃ N nm q bs hdct sn sub ab col dd k0 k1 k2 k3 k5 mN, h.get? C = some (excClassObj nm q C N bs bm hdct sn sub ab col dd k0 k1 k2 k3 k5 "ValueError.__new__") ∧ h.Ns N mN ∧ PySem.W.clsIn K C = some (⟨nm, bs, .ref C :: bm, N, q, hdct, sn, sub, ab, col, false⟩ : ClassData) ∧ OwnTail h vErr bm := by
  obtain ⟨ok, mro⟩ := x
  unfold mroIs at mro
  unfold excJ at ok
  split at ok
  · next dct cdt slt lk =>
    rw [lk] at mro
    have e1 := X C _ lk
    split at ok
    · next D l a0 a1 a2 a3 idn a5 e2 e3 =>
      simp only [Bool.and_eq_true, beq_iff_eq, Bool.not_eq_true'] at ok mro
      obtain ⟨⟨⟨⟨rfl, rfl⟩, o3⟩, o4⟩, o5⟩ := ok
      rw [e2] at mro
      cases mro
      obtain ⟨c1, c2, c3, c4, c5, c6, c7, c8, c9, c10, c11⟩ := cdt
      simp only at e2 o3 o5
      subst e2 o3
      obtain ⟨ls⟩ := slt
      simp only at e3
      subst e3
      refine ⟨c4, c1, c5, c2, c6, c7, c8, c9, c10, dct, a0, a1, a2, a3, a5, _, e1, .of_isNs (PySem.W.isNs_of_in X o5), ?_, PySem.W.tail_of_in X o4⟩
      unfold PySem.W.clsIn
      rw [lk]
    · cases ok
  · cases ok
theorem XCls.ns {K : PySem.W.Frag} {C N : Addr} {bm : List Value} {h : Heap} {mN : Str → Option Value} {cd : ClassData} (X : K.In h) (G : h.Ns N mN) (c : PySem.W.clsIn K C = some cd) (e : cd.ns = N) {n : Str} {r : Option Value} (q : (PySem.W.clsIn K C).bind (fun cd => PySem.W.nsIn K cd.ns n) = some r) : mN n = r := by
  rw [c, Option.bind_some, e] at q
  exact ns_of X G q

/-- a body in which an exception may be made: it is what is wanted of exceptions there -/
noncomputable def Throws (X : Cx) (E : XK) : Prop := ∀ (pins : List (Addr × Obj)) (σ : St) (H : Hp) (s : Shared) (x : Addr) (cls : Value) (od : Option Addr), Inv X pins σ H s → H x = none → NwD s.heap x cls od → X.s₀.heap.get? x = none → E cls od H → X.xe (.ref x) s
theorem throws1 {P : Program} {w : World} {K : PySem.W.Frag} {mg : Str → Option Value} {base : Heap} {N : List Str} {qual : Str} {scope : Scope} {f : Addr} {cd : Value} {A : Around} {outer : List Env} {s0 : Shared} {H0 : Hp} {E : XK} : Throws (cxOf (CX1 P w base) P w K mg base N qual scope f cd A outer s0 H0 E) E :=
  fun _ _ _ _ _ _ _ I n hx z hE => raisedN I n hx z hE
/-- what is new here is new to the start -/
theorem Inv.new0 {X : Cx} {pins : List (Addr × Obj)} {σ : St} {H : Hp} {s : Shared} {x : Addr} (I : Inv X pins σ H s) (hex : X.ex = []) (h : s.heap.get? x = none) : X.s₀.heap.get? x = none ∧ H x = none := by
  refine ⟨?_, ?_⟩
  · cases e : X.s₀.heap.get? x with
    | none => rfl
    | some o =>
      obtain ⟨o', q⟩ := I.base.there x o e (by rw [hex]; exact List.not_mem_nil)
      rw [h] at q
      cases q
  · cases e : H x with
    | none => rfl
    | some o =>
      obtain ⟨ob, hob⟩ := (I.hok x o e).there
      rw [h] at hob
      cases hob
noncomputable def tRaise (C : Addr) (E : XK) (t : TA) : TS := fun _ σ H => t σ H fun vs H1 => vs.length ≤ 100 ∧ E (.ref C) none H1
/-- an exception's object, by its class -/
noncomputable def ExcO (x C : Addr) (d : Option Addr) : HO := .ext fun h => ∃ oe vs, h.get? x = some oe ∧ oe.cls = .ref C ∧ oe.data = .fields vs ∧ oe.dict = d
/-- the suite of an except: another mark, and none leaves -/
noncomputable abbrev Cx.sui (X : Cx) (x : Addr) : Cx := { X with A := X.A.mark (some (.ref x)), calm := false, xe := fun _ _ => False }
section
variable {X : Cx} {pins : List (Addr × Obj)} {σ : St} {H H' : Hp} {s s' : Shared} {x C : Addr} {h' : Heap}
theorem Cx.Ok.sui (ok : X.Ok) (x : Addr) : (X.sui x).Ok :=
  ⟨ok.mod, ok.kind, ok.glob, ok.blt, ok.above, ok.inj, ok.has, ok.cab, (fun z => by cases z), ok.frames, ok.stk, ok.exf, ok.bs, ok.bsz, ok.noex, ok.exfs, ok.funs, ok.frf⟩
theorem Inv.sui (I : Inv X pins σ H s) (x : Addr) : Inv (X.sui x) pins σ H s := ⟨I.ok.sui x, I.os, I.bare, I.base, I.loc, I.cell, I.free, I.freeC, I.pin, I.hok, I.len⟩
theorem Inv.unsui (ok : X.Ok) (I : Inv (X.sui x) pins σ H s) : Inv X pins σ H s := ⟨ok, I.os, I.bare, I.base, I.loc, I.cell, I.free, I.freeC, I.pin, I.hok, I.len⟩
/-- an object that was untracked is tracked from here on -/
theorem Inv.track {o : HO} (I : Inv X pins σ H s) (h0 : X.s₀.heap.get? x = none) (hn : H x = none) (nL : x ≠ X.env.locals) (nC : ∀ y c, X.env.cells.lookup y = some c → c ≠ x) (nP : ∀ p ∈ X.pn ++ pins, p.1 ≠ x) (new : ObjOk X.prog X.w (upd H x o) s.heap x o) : Inv X pins σ (upd H x o) s := by
  have ne : ∀ b ob, X.s₀.heap.get? b = some ob → b ≠ x := fun b ob e z => by rw [z, h0] at e; cases e
  have nt : ∀ b u, H b = some u → b ≠ x := fun b u e => ne_of_none e hn
  refine ⟨I.ok, I.os, I.bare, ⟨I.base.keep, I.base.slot, fun b ob e n hx => by rw [upd_ne (ne b ob e)]; exact I.base.free b ob e n hx, I.base.there, fun b xs e => by have := I.base.tups b xs e; rw [upd_ne (nt b _ this)]; exact this, fun b ob u e => by have := I.base.frzs b ob u e; rw [upd_ne (nt b _ this)]; exact this, fun b ps e => by
    obtain ⟨m, q⟩ := I.base.tbls b ps e
    exact ⟨m, by rw [upd_ne (nt b _ q)]; exact q⟩⟩, I.loc, I.cell, by rw [upd_ne nL.symm]; exact I.free, fun y c e => by rw [upd_ne (nC y c e)]; exact I.freeC y c e, fun p hp => ?_, fun b u e => ?_, I.len⟩
  · obtain ⟨a, b, c⟩ := I.pin p hp
    exact ⟨a, by rw [upd_ne (nP p hp)]; exact b, c⟩
  · by_cases hb : b = x
    · subst hb
      rw [upd_same] at e
      cases e
      exact new
    · rw [upd_ne hb] at e
      exact (I.hok b u e).stay (fun _ _ _ q => q) (fun c q => by rw [upd_ne (nt c _ q)]; exact q) fun c xs q => by rw [upd_ne (nt c _ q)]; exact q
/-- a name is gone -/
theorem Inv.gone {j : Nat} {y : Str} {m : Str → Option Value} {v : Option Value} {t' : Nat} (I : Inv X pins σ H s) (hN : X.N.Nodup) (hj : X.N[j]? = some y) (hm : s.heap.Ns X.env.locals m) (hn : h'.Ns X.env.locals (fun z => if z = y then v else m z)) (hs : Heap.SameBut X.env.locals s.heap h') :
    Inv X pins (σ.set j none) H { s with heap := h', toks := t' } := by
  obtain ⟨m', hm', hl⟩ := id I.loc
  obtain ⟨oL, _, _, hoL, _⟩ := id hm
  have up : ∀ b ob, X.s₀.heap.get? b = some ob → b ≠ X.env.locals := fun b ob e => Nat.ne_of_lt (Nat.lt_of_lt_of_le (Heap.lt_size e) I.ok.above)
  have em : m' = m := by
    obtain ⟨o1, es1, ep1, a1, a2, _, a4⟩ := hm'
    obtain ⟨o2, es2, ep2, b1, b2, _, b4⟩ := hm
    rw [a1] at b1
    cases b1
    rw [a2] at b2
    cases b2
    funext z
    rw [← a4, ← b4]
  subst em
  refine ⟨I.ok, I.os, I.bare, ⟨fun b o e n hb hx => (hs.2 b (up b o e)).trans (I.base.keep b o e n hb hx), fun b o e n hb hx => ?_, I.base.free, fun b o e hx => ?_, I.base.tups, I.base.frzs, I.base.tbls⟩, ⟨_, hn, fun i z w e1 e2 e3 => ?_⟩, fun z c e => ?_, I.free, I.freeC, fun p hp => ?_, fun b ob e => ?_, by simpa using I.len⟩
  · obtain ⟨sl, q⟩ := I.base.slot b o e n hb hx
    exact ⟨sl, (hs.2 b (up b o e)).trans q⟩
  · obtain ⟨o', q⟩ := I.base.there b o e hx
    exact ⟨o', (hs.2 b (up b o e)).trans q⟩
  · have hi : i ≠ j := fun z => by
      subst z
      by_cases hlt : i < σ.length
      · rw [List.getElem?_set_self hlt] at e2; cases e2
      · rw [List.getElem?_eq_none (by simpa using hlt)] at e2; cases e2
    rw [List.getElem?_set_ne (Ne.symm hi)] at e2
    obtain ⟨u, r, q⟩ := hl i z w e1 e2 e3
    refine ⟨u, r, ?_⟩
    rcases q with ⟨k, q⟩ | ⟨k, c, q1, q2⟩
    · refine .inl ⟨k, ?_⟩
      show (if z = y then v else m' z) = some u
      rw [if_neg (fun zy : z = y => hi (nodup_ix hN e1 (by rw [zy]; exact hj)))]
      exact q
    · exact .inr ⟨k, c, q1, q2.sameBut hs (I.cne z c q1)⟩
  · obtain ⟨w, q⟩ := I.cell z c e
    exact ⟨w, q.sameBut hs (I.cne z c e)⟩
  · obtain ⟨a, b, c, d⟩ := I.pin p hp
    exact ⟨(hs.2 p.1 c).trans a, b, c, d⟩
  · refine (I.hok b ob e).stay (fun c u hc q => (hs.2 c ?_).trans q) (fun _ q => q) fun _ _ q => q
    rintro rfl
    rcases hc with rfl | hc
    · rw [I.free] at e; cases e
    · rw [I.free] at hc; cases hc
end

theorem Fl.move {P : Program} {w : World} {base : Heap} {outer : List Env} {H : Hp} {s : Shared} {H' : Hp} {x : Addr} {cls : Value} {od : Option Addr} {s' : Shared} (F : Fl P w base outer H s H' x cls od s') {B h' : Heap} (fly : FlD B outer x cls od s'.heap) (bs : base.StaysIn B) (b2 : ∀ a o, H' a = some o → ∃ ob, B.get? a = some ob)
    (b3 : ∀ b o, s.heap.get? b = some o → H b = none → b ∉ frs outer → B.get? b = some o) (b4 : ∀ b o, s.heap.get? b = some o → b ∉ frs outer → ∃ ob, B.get? b = some ob) (fly' : FlD B outer x cls od h') (up : s'.heap.UpToSlots h') : Fl P w base outer H s H' x cls od { s' with heap := h' } := by
  refine ⟨F.os, F.bare, ⟨fun b o q n hb _ => fly'.st b o (b3 b o q n hb), fun b o q n hb hx => ?_, F.un.free, fun b o q hx => ?_, F.un.tups, F.un.frzs, F.un.tbls⟩, F.hok.flown fly.st fly'.st b2, ⟨B, fly', bs, b2, b3, b4⟩, F.nx⟩
  · obtain ⟨sl, e⟩ := F.un.slot b o q n hb hx
    obtain ⟨_, o', ho', hn⟩ := fly.fr.mem hb
    rw [e] at ho'
    cases ho'
    obtain ⟨sl', e'⟩ := up b _ e hn
    exact ⟨sl', e'⟩
  · by_cases hb : b ∈ frs outer
    · obtain ⟨_, o', ho', _⟩ := fly'.fr.mem hb
      exact ⟨o', ho'⟩
    · obtain ⟨ob, hob⟩ := b4 b o q hb
      exact ⟨ob, fly'.st b ob hob⟩
section
variable {M : Model} {A : Around} {E : Value → Shared → Prop} {h : Heap} {g : Array GenState} {d : Drawn} {t : Nat} {os : OsState}
/-- except by a class above the exception's own -/
theorem exc_super {Q : Bool → Shared → Prop} {e C D : Addr} {oe : Obj} {nm q nm' q' : Str} {N N' : Addr} {bs bm bs' bm' : List Value} {hdct hdct' : Bool} {sn sn' : List Str} {sub sub' : List Value} {ab ab' : Bool} {col col' : Option Bool} {dd dd' : Option Addr} {k0 k1 k2 k3 k5 j0 j1 j2 j3 j5 : Option Value} {i1 i2 : String}
    (hC : h.get? C = some (excClassObj nm q C N bs bm hdct sn sub ab col dd k0 k1 k2 k3 k5 i1)) (hD : h.get? D = some (excClassObj nm' q' D N' bs' bm' hdct' sn' sub' ab' col' dd' j0 j1 j2 j3 j5 i2)) (he : h.get? e = some oe) (hcls : oe.cls = .ref C)
    (hb : (Value.ref D :: bm').contains (.type "BaseException") = true) (hs : (Value.ref C :: bm).contains (.ref D) = true) (hq : Q true ⟨h, g, d, t, os⟩) : wpAny M A (excMatches (.ref e) (.ref D)) Q E ⟨h, g, d, t, os⟩ := by
  have f := tc_notTuple
  unfold excMatches
  repeat (first | (with_reducible refine wpAny_loadPart_at he ?_; rw [hcls]) | with_reducible refine wpAny_loadPart_at hD ?_ | (with_reducible refine wpAny_isSubtype_exc hD ?_; rw [hb]) | (with_reducible refine wpAny_isSubtype_exc hC ?_; rw [hs]) | wp_step)
  exact hq
end
section
variable {X : Cx} {pins : List (Addr × Obj)} {σ : St} {H H' : Hp} {s s' : Shared} {x C Dc : Addr} {od : Option Addr} {bm bmD : List Value} {j : Nat} {n cx : Str} {b0 : Stmt} {suite : List Stmt} {np hp : Pos} {ts : TS} {D0 : Ends}
/-- the suite's ends -/
noncomputable abbrev sEnds (D0 : Ends) (j : Nat) : Ends := { nx := fun σ' G => D0.nx (σ'.set j none) G, rt := fun _ _ => False }
theorem caught1 (I : Inv X pins σ H s) (F : Fl X.prog X.w X.base X.stack H s H' x (.ref C) od s') (hst : X.stack = X.env :: X.outer ∧ X.env.frame = some X.env.locals) (hN : X.N.Nodup) (hj : X.N[j]? = some n) (hl : X.env.kindOf n = some .local) (hg : Gl X cx) (hm : X.mg cx = some (.ref Dc)) (xC : XCls X.K C bm) (xD : XCls X.K Dc bmD)
    (hCD : (Value.ref C :: bm).contains (.ref Dc) = true) (hsu : PSs (X.sui x) (b0 :: suite) ts) (q : ts (sEnds D0 j) (σ.set j (some (.ref x))) (upd H' x (ExcO x C od))) (hdb : (cx == ("__debug__" : Str)) = false) (hex : X.ex = []) :
    wpAny (model X.prog X.w) X.A (noteFrame (.ref x) X.env) (fun _ s₂ => wpAny (model X.prog X.w) X.A (setFlight (.ref x) none) (fun _ s₃ => wpAny (model X.prog X.w) X.A (handleBy (.ref x) X.env [.ExceptHandler (some (.Name cx np)) (some n) (b0 :: suite) hp]) (SP X pins D0) X.xe s₃) X.xe s₂) X.xe s' := by
  obtain ⟨B, fly, bs, b2, b3, b4⟩ := F.fly
  obtain ⟨N, nm, q1, bs1, hdct, sn, sub, ab, col, dd, k0, k1, k2, k3, k5, mN, c1, c2, c3, c4⟩ := xC.obj I.ok.mod.kin
  obtain ⟨N', nm', q2, bs2, hdct', sn', sub', ab', col', dd', j0, j1, j2, j3, j5, mN', d1, d2, d3, d4⟩ := xD.obj I.ok.mod.kin
  refine note_d (L := X.env.locals) (by rw [I.ok.frames, hst.1]) (by rw [← hst.1]; exact fly.fr) hst.2 fly.st fly.nb (.inr fly.tr) fun h4 n4 => ?_
  refine flag_d (s := { s' with heap := h4 }) n4.fr n4.st n4.tr fun h5 n5 => ?_
  have fl5 : FlD B X.stack x (.ref C) od h5 := ⟨n5.st, fly.nb, by rw [hst.1]; exact n5.fr, n5.tr⟩
  have F5 := F.move fly bs b2 b3 b4 fl5 (n4.up.trans n5.up)
  have I5 : Inv X pins σ H' { s' with heap := h5 } := I.call' F5.os F5.un F5.hok F5.bare (by simp)
  obtain ⟨oe, _, _, _, _, ⟨hoe, hoc, _⟩, _⟩ := id n5.tr
  refine wpAny_handleBy_cons (codeAny_handlers_test (ld_glob (X := X.sui x) (I5.sui x) hg hm ?_ hdb)) (by intro z; cases z)
  refine exc_super (I5.bk _ _ c1) (I5.bk _ _ d1) hoe hoc (by rw [List.contains_cons, show bmD.contains (Value.type "BaseException") = true from d4.hasType (by rfl), Bool.or_true]) hCD ?_
  refine codeAny_handlers_suite_as ?_
  refine flag_d (s := { s' with heap := h5 }) n5.fr n5.st n5.tr fun h6 n6 => ?_
  have fl6 : FlD B X.stack x (.ref C) od h6 := ⟨n6.st, fly.nb, by rw [hst.1]; exact n6.fr, n6.tr⟩
  have F6 := F5.move fl5 bs b2 b3 b4 fl6 n6.up
  have I6 : Inv X pins σ H' { s' with heap := h6 } := I.call' F6.os F6.un F6.hok F6.bare (by simp)
  obtain ⟨oe6, vs6, _, _, _, ⟨he6, hc6, hdc6, hd6⟩, _⟩ := id n6.tr
  have nf : x ∉ frs X.stack := fun z => by
    obtain ⟨_, o', ho', hn'⟩ := fl6.fr.mem z
    rw [he6] at ho'
    cases ho'
    exact hn' _ hd6
  have nB : ∀ b ob, s.heap.get? b = some ob → b ≠ x := fun b ob e z => by
    subst z
    obtain ⟨o', ho'⟩ := b4 b ob e nf
    rw [fly.nb] at ho'
    cases ho'
  have It : Inv X pins σ (upd H' x (ExcO x C od)) { s' with heap := h6 } := by
    refine I6.track ?_ F.nx ?_ (fun y c e z => ?_) (fun p hp z => ?_) ?_
    · cases e : X.s₀.heap.get? x with
      | none => rfl
      | some o0 =>
        have h0 : x ∉ X.ex := by rw [hex]; exact List.not_mem_nil
        obtain ⟨o', ho'⟩ := I.base.there x o0 e h0
        exact absurd rfl (nB x o' ho')
    · intro z
      exact nf (by rw [hst.1, z]; unfold frs; rw [List.filterMap_cons, hst.2]; exact List.mem_cons_self)
    · obtain ⟨v, o1, ho1, _⟩ := I.cell y c e
      exact nB c o1 ho1 z
    · exact nB p.1 p.2 (I.pin p hp).1 z
    · exact ⟨⟨oe6, vs6, he6, hc6, hd6, hdc6⟩, ⟨oe6, he6⟩, fun h1 h2 ⟨o1, v1, a1, a2, a3⟩ k => ⟨o1, v1, k _ a1, a2, a3⟩⟩
  refine store_ok (X := X.sui x) (i := j) (v := .ref x) (It.sui x) hN hj (.inl hl) rfl (fun s6 Is => ?_) (.inr hl)
  refine wpAny_mono (hsu pins s6 _ _ _ Is q) (fun f s7 hs => ?_) (fun _ _ z => z.elim)
  cases f with
  | next =>
    obtain ⟨σ', H'', J, q'⟩ := hs
    have J' := J.unsui I.ok
    obtain ⟨m, hm', _⟩ := id J'.loc
    exact wpAny_nameGoes_keeps hl hm' (by rw [I.ok.kind]; rfl) fun h8 v hn hs => ⟨σ'.set j none, H'', J'.gone hN hj hm' hn hs, q'⟩
  | ret u => obtain ⟨_, _, _, _, _, z⟩ := hs; exact z.elim
  | brk => obtain ⟨_, _, _, z⟩ := hs; exact z.elim
  | cont => obtain ⟨_, _, _, z⟩ := hs; exact z.elim
end

/-- try: y = f(..) except C as n: a suite -/
noncomputable def tTryA (sp : Sp) (dvs : List V) (t : TA) (i j : Nat) (C : Addr) (ts : TS) : TS := fun D σ H => t σ H fun vs H1 => sp (vs ++ dvs) H1 (fun v H2 => D.nx (σ.set i (some v)) H2) fun cls od H2 => cls = .ref C ∧ ∀ x, H2 x = none → ts (sEnds D j) (σ.set j (some (.ref x))) (upd H2 x (ExcO x C od))
/-- try: f(..) except C as n: a suite -/
noncomputable def tTryE (sp : Sp) (dvs : List V) (t : TA) (j : Nat) (C : Addr) (ts : TS) : TS := fun D σ H => t σ H fun vs H1 => sp (vs ++ dvs) H1 (fun _ H2 => D.nx σ H2) fun cls od H2 => cls = .ref C ∧ ∀ x, H2 x = none → ts (sEnds D j) (σ.set j (some (.ref x))) (upd H2 x (ExcO x C od))
section
variable {X : Cx} {k : Nat} {f C Dc : Addr} {fd : FuncData} {ps : List Str} {sp : Sp} {dvs : List V} {ds : List Value} {bm bmD : List Value} {i j : Nat} {y n cx fx : Str} {b0 : Stmt} {suite : List Stmt} {np hp yp fp cp ap pos : Pos} {ts : TS} {e : Expr} {es : List Expr} {t : TA}
/-- what an except makes of an exception -/
noncomputable abbrev hWish (X : Cx) (pins : List (Addr × Obj)) (cx n : Str) (b0 : Stmt) (suite : List Stmt) (np hp : Pos) (D0 : Ends) : Value → Shared → Prop := fun e s₁ => wpAny (model X.prog X.w) X.A (noteFrame e X.env) (fun _ s₂ => wpAny (model X.prog X.w) X.A (setFlight e none) (fun _ s₃ => wpAny (model X.prog X.w) X.A (handleBy e X.env [.ExceptHandler (some (.Name cx np)) (some n) (b0 :: suite) hp]) (SP X pins D0) X.xe s₃) X.xe s₂) X.xe s₁
/-- the call within a try -/
theorem try_call {pins : List (Addr × Obj)} {σ : St} {H : Hp} {s : Shared} {Q : VK} {D0 : Ends} (F : FnOk X.prog X.w X.K X.mg X.base (CX1 X.prog X.w X.base) k f fd ps sp) (hr : Room k X.A) (hgf : Gl X fx) (hmf : X.mg fx = some (.ref f)) (hk : PySem.W.keepIn X.K (.ref f) = true) (hb : Binds X.K fd ps ds) (hd : Vals dvs ds)
    (ha : ∀ E, PA (X.wish E) (e :: es) t) (hst : X.stack = X.env :: X.outer ∧ X.env.frame = some X.env.locals) (hN : X.N.Nodup) (hj : X.N[j]? = some n) (hl : X.env.kindOf n = some .local) (hg : Gl X cx) (hm : X.mg cx = some (.ref Dc)) (xC : XCls X.K C bm) (xD : XCls X.K Dc bmD) (hCD : (Value.ref C :: bm).contains (.ref Dc) = true) (hsu : ∀ x, PSs (X.sui x) (b0 :: suite) ts)
    (hdf : (fx == ("__debug__" : Str)) = false) (hdb : (cx == ("__debug__" : Str)) = false) (hex : X.ex = []) (he : starEach (e :: es) X.env = (false, eval e X.env) :: starEach es X.env) (hpl : (backTo cp (starEach es X.env)).any (·.1) = false) (I : Inv X pins σ H s)
    (h : t σ H fun vs H1 => sp (vs ++ dvs) H1 Q fun cls od H2 => cls = .ref C ∧ ∀ x, H2 x = none → ts (sEnds D0 j) (σ.set j (some (.ref x))) (upd H2 x (ExcO x C od))) :
    wpAny (model X.prog X.w) X.A (eval (.Call (.Name fx fp) (e :: es) [] cp) X.env) (EP X pins σ Q) (hWish X pins cx n b0 suite np hp D0) s := by
  refine wpAny_Call_Name_kw (ld_glob I hgf hmf ?_ hdf)
  refine PySem.W.callWith_K (h₀ := X.base) I.ok.mod.kin hk (thn (ha (hWish X pins cx n b0 suite np hp D0) cp pins s σ H _ (I.wish _) h) fun us s1 ⟨vs, H1, I1, r, q⟩ => ⟨I1.unwish.kIn, ?_⟩) he hpl
  have I1 := I1.unwish
  have r2 : Vals (vs ++ dvs) (us ++ ds) := r.append hd
  have hlen : (us ++ ds).length = ps.length := by rw [← r2.length]; exact F.len _ _ _ _ q
  refine wpAny_call (codeAny_mono (F.run X.A X.stack s1 H1 ⟨us, []⟩ (us ++ ds) (vs ++ dvs) _ _ hr I1.env0 (hb s1 us I1.kIn hlen) r2 q) fun r s' hq => ?_)
  cases r with
  | error e1 =>
    obtain ⟨x, cls, od, H', rfl, Fx, rfl, hts⟩ := hq
    exact caught1 I1 Fx hst hN hj hl hg hm xC xD hCD (hsu x) (hts x Fx.nx) hdb hex
  | ok fl =>
    cases fl with
    | ret u => exact I1.after hq
    | next => exact False.elim hq
    | brk => exact False.elim hq
    | cont => exact False.elim hq
theorem ps_tryE (F : FnOk X.prog X.w X.K X.mg X.base (CX1 X.prog X.w X.base) k f fd ps sp) (hr : Room k X.A) (hgf : Gl X fx) (hmf : X.mg fx = some (.ref f)) (hk : PySem.W.keepIn X.K (.ref f) = true) (hb : Binds X.K fd ps ds) (hd : Vals dvs ds)
    (ha : ∀ E, PA (X.wish E) (e :: es) t) (hN : X.N.Nodup) (hj : X.N[j]? = some n) (hg : Gl X cx) (hm : X.mg cx = some (.ref Dc)) (xC : XCls X.K C bm) (xD : XCls X.K Dc bmD) (hCD : (Value.ref C :: bm).contains (.ref Dc) = true) (hsu : ∀ x, PSs (X.sui x) (b0 :: suite) ts)
    (hl : X.env.kindOf n = some .local := by rfl) (hst : X.stack = X.env :: X.outer ∧ X.env.frame = some X.env.locals := by exact ⟨rfl, rfl⟩) (hdf : (fx == ("__debug__" : Str)) = false := by decide) (hdb : (cx == ("__debug__" : Str)) = false := by decide) (hex : X.ex = [] := by rfl) (he : starEach (e :: es) X.env = (false, eval e X.env) :: starEach es X.env := by rfl) (hpl : (backTo cp (starEach es X.env)).any (·.1) = false := by rfl)
    (hs : swapsWith (.Call (.Name fx fp) (e :: es) [] cp) none ap.line X.env = pure false := by rfl) :
    PS X (.Try [.Expr (.Call (.Name fx fp) (e :: es) [] cp) ap] [.ExceptHandler (some (.Name cx np)) (some n) (b0 :: suite) hp] [] [] pos) (tTryE sp dvs t j C ts) := by
  intro pins s σ H D I h
  refine wpAny_Try_except (wpAny_execs_cons (wpAny_Expr_any (thn (try_call (D0 := D) F hr hgf hmf hk hb hd ha hst hN hj hl hg hm xC xD hCD hsu hdf hdb hex he hpl I h) fun v s1 ⟨z, H1, I1, r1, q1⟩ => ?_) I.quiet hs))
  exact wpAny_execs_nil (wpAny_execs_nil ⟨σ, H1, I1, q1⟩)
end
end L2
namespace L2
open PySem PySem.Spec PyProof.Rows
/-- none of one's own classes in the row has the name -/
noncomputable def quietIn (K : PySem.W.Frag) (n : Str) : List Value → Bool
  | .ref a :: r => (match K.lookup a with
    | some ob => (match ob.data with
      | .cls cd => PySem.W.nsIn K cd.ns n == some none
      | _ => false)
    | none => false) && quietIn K n r
  | _ => true
section
variable {K : PySem.W.Frag} {M : Model} {A : Around} {E : Value → Shared → Prop} {h : Heap} {g : Array GenState} {d : Drawn} {t : Nat} {os : OsState} {n : Str} {y : Option Value} {Q : Option Value → Shared → Prop} {C : Addr} {bm : List Value}
theorem quiet_one {a : Addr} {c0 : Value} {dd : Option Addr} {cd : ClassData} {sl : Array (Option Value)} {mA : Str → Option Value} (X : K.In h) (ha : h.get? a = some { cls := c0, dict := dd, data := .cls cd, slots := sl }) (hN : h.Ns cd.ns mA) {r : List Value} (q : quietIn K n (.ref a :: r) = true) : mA n = none ∧ quietIn K n r = true := by
  simp only [quietIn, Bool.and_eq_true] at q
  refine ⟨?_, q.2⟩
  have q1 := q.1
  split at q1
  · next ob lk =>
    have e := X _ _ lk
    rw [ha] at e
    cases e
    simp only [beq_iff_eq] at q1
    exact PySem.W.ns_none_of X hN q1
  · cases q1
theorem look_along {l : List Value} (X : K.In h) (T : OwnTail h vErr l) (q : quietIn K n l = true) (hr : lookupAlong vErr n = pure y) (hq : Q y ⟨h, g, d, t, os⟩) : wpAny M A (lookupAlong l n) Q E ⟨h, g, d, t, os⟩ := by
  induction T with
  | base => rw [hr]; exact wpAny_pure hq
  | own hA hN _ _ ih =>
    obtain ⟨q1, q2⟩ := quiet_one X hA hN q
    rw [lookupAlong_cons]
    unfold classOwn classData
    refine wpAny_bind (wpAny_bind (wpAny_bind (wpAny_load hA (wpAny_pure (wpAny_nsGet hN ?_)))))
    rw [q1]
    exact ih q2
/-- a name that only the classes below have -/
theorem tl_own (xc : XCls K C bm) (X : K.In h) (q : quietIn K n (.ref C :: bm) = true) (hB : typeLookup (.type "ValueError") n = pure y) (hv : mroOf (.type "ValueError") = pure vErr) (hq : Q y ⟨h, g, d, t, os⟩) : wpAny M A (typeLookup (.ref C) n) Q E ⟨h, g, d, t, os⟩ := by
  obtain ⟨N, nm, q1, bs1, hdct, sn, sub, ab, col, dd, k0, k1, k2, k3, k5, mN, c1, c2, c3, c4⟩ := xc.obj X
  have hr : lookupAlong vErr n = pure y := by rw [typeLookup_eq, hv] at hB; exact hB
  rw [typeLookup_eq]
  refine wpAny_bind (wpAny_mroOf_exc c1 ?_)
  obtain ⟨e1, e2⟩ := quiet_one X c1 c2 q
  rw [lookupAlong_cons]
  refine wpAny_bind (wpAny_classOwn_exc c1 c2 ?_)
  rw [e1]
  exact look_along X c4 e2 hr hq
end

section
variable {K : PySem.W.Frag} {prog : Program} {w : World} {A : Around} {E : Value → Shared → Prop} {h : Heap} {g : Array GenState} {d : Drawn} {t : Nat} {os : OsState} {C a : Addr} {bm : List Value} {o : Obj}
theorem xcls_sub (xc : XCls K C bm) (X : K.In h) (T : String) (b : Bool) (hb : vErr.contains (.type T) = b) {M : Model} {Q : Bool → Shared → Prop} (hq : Q b ⟨h, g, d, t, os⟩) : wpAny M A (isSubtype (.ref C) (.type T)) Q E ⟨h, g, d, t, os⟩ := by
  obtain ⟨N, nm, q1, bs1, hdct, sn, sub, ab, col, dd, k0, k1, k2, k3, k5, mN, c1, c2, c3, c4⟩ := xc.obj X
  refine wpAny_isSubtype_exc c1 ?_
  rw [List.contains_cons, show bm.contains (Value.type T) = b from c4.hasType hb]
  cases b <;> exact hq
theorem lk_verr_class : typeLookup (.type "ValueError") "__class__" = pure (some (.builtin "object.__class__")) := by rw [typeLookup_type, builtinLookup_eq_fast]; kernel_rfl
theorem cls_get {R : Result → Shared → Prop} (xc : XCls K C bm) (X : K.In h) (hx : h.get? a = some o) (hc : o.cls = .ref C) (hq : R (.ok (.ret (.ref C))) ⟨h, g, d, t, os⟩) :
    codeAny (model prog w) A (.call (.builtin "getset_descriptor.__get__") ⟨[.builtin "object.__class__", .ref a, .ref C], []⟩) R ⟨h, g, d, t, os⟩ := by
  have f1 : (⟨h, g, d, t, os⟩ : Shared).TypeIs (.builtin "object.__class__") "getset_descriptor" := F.typeOf_object_class
  have f2 : ∀ {M : Model} {A : Around} {E : Value → Shared → Prop} {Q : Bool → Shared → Prop}, Q true ⟨h, g, d, t, os⟩ → wpAny M A (isSubtype (.ref C) (.type (".".intercalate ("object.__class__".cutAt '.').dropLast))) Q E ⟨h, g, d, t, os⟩ := fun z => by
    rw [F.owner_object_class]
    exact xcls_sub xc X "object" true (by rfl) z
  refine codeAny_call_builtin F.slot_gs_get.plain F.entry_gs_get (F.slot_gs_get.check _ _ _ _ _ _ _ _ f1 (F.args_gs_get _ _ _) ?_)
  repeat (any_goals (first | assumption | (with_reducible refine wpAny_loadPart_at hx ?_; rw [hc]) | with_reducible refine f2 ?_ | wp_step))
  refine ⟨Code.quiet_builtin _ (by decide +kernel), codeAny_builtin F.entry_object_class ?_⟩
  repeat (any_goals (first | assumption | (with_reducible refine wpAny_loadPart_at hx ?_; rw [hc]) | wp_step))
/-- the names by which an attribute is asked for -/
structure XQ (K : PySem.W.Frag) (C : Addr) (bm : List Value) : Prop extends XCls K C bm where
  q1 : quietIn K "__getattribute__" (.ref C :: bm) = true
  q2 : quietIn K "__getattr__" (.ref C :: bm) = true
  q3 : quietIn K "__class__" (.ref C :: bm) = true
theorem ga_check {M : Model} {nv : Value} {Q : Unit → Shared → Prop} (xc : XCls K C bm) (X : K.In h) (hx : h.get? a = some o) (hc : o.cls = .ref C) (hq : Q () ⟨h, g, d, t, os⟩) : wpAny M A (checkBuiltinCall "BaseException.__getattribute__" ⟨[.ref a, nv], []⟩) Q E ⟨h, g, d, t, os⟩ := by
  have k1 : builtinKind "BaseException.__getattribute__" = some .slot := by decide +kernel
  have k2 : splitId "BaseException.__getattribute__" = some ("BaseException", "__getattribute__") := by decide +kernel
  have k3 := F.args_bexc_ga (.ref a) nv
  have f2 : ∀ {M : Model} {A : Around} {E : Value → Shared → Prop} {Q : Bool → Shared → Prop}, Q true ⟨h, g, d, t, os⟩ → wpAny M A (isSubtype (.ref C) (.type "BaseException")) Q E ⟨h, g, d, t, os⟩ := fun z => xcls_sub xc X "BaseException" true (by rfl) z
  simp only [checkBuiltinCall, k1, k2]
  refine wpAny_bind ?_
  unfold isInstance
  repeat (first | (with_reducible refine wpAny_loadPart_at hx ?_; rw [hc]) | with_reducible refine f2 ?_ | wp_step)
  exact hq
theorem cls_entry {tk : Tok} {Q : Fin → Shared → Prop} (xc : XQ K C bm) (X : K.In h) (hx : h.get? a = some o) (hc : o.cls = .ref C) (hq : Q (.done (.ret (.ref C))) ⟨h, g, d, t, os⟩) :
    wpAny (model prog w) A (Builtin.«object.__getattribute__» ⟨[.ref a, .str "__class__" tk], []⟩) Q E ⟨h, g, d, t, os⟩ := by
  have f1 : (⟨h, g, d, t, os⟩ : Shared).TypeIs (.builtin "object.__class__") "getset_descriptor" := F.typeOf_object_class
  have f2 := F.typeOf_object_class
  have f3 := F.slot_gs_get.lookup
  have f4 := F.slot_gs_set.lookup
  have lk : ∀ {M : Model} {A : Around} {E : Value → Shared → Prop} {Q : Option Value → Shared → Prop}, Q (some (.builtin "object.__class__")) ⟨h, g, d, t, os⟩ → wpAny M A (typeLookup (.ref C) "__class__") Q E ⟨h, g, d, t, os⟩ := fun z => tl_own xc.toXCls X xc.q3 lk_verr_class F.attrBase_ValueError.mro z
  repeat (any_goals (first | assumption | (with_reducible refine wpAny_loadPart_at hx ?_; rw [hc]) | with_reducible refine lk ?_ | wp_step))
  refine cls_get xc.toXCls X hx hc ?_
  repeat (any_goals (first | assumption | wp_step))
theorem cls_by {tk : Tok} {fill expr : Bool} {Q : Value → Shared → Prop} (xc : XQ K C bm) (X : K.In h) (hx : h.get? a = some o) (hc : o.cls = .ref C) (hq : Q (.ref C) ⟨h, g, d, t, os⟩) : wpAny (model prog w) A (getAttrBy (.ref a) (.str "__class__" tk) fill expr) Q E ⟨h, g, d, t, os⟩ := by
  have FB := F.attrBase_ValueError
  have f3 := FB.ga.bind (.ref a)
  have y0 : (expr && onTheHeap (Value.builtin "BaseException.__getattribute__")) = false := by cases expr <;> rfl
  have y2 : (Value.builtin "BaseException.__getattribute__" == Value.builtin "object.__getattribute__") = false := by decide +kernel
  have y1 : (onTheHeap (Value.ref C) && Value.builtin "BaseException.__getattribute__" == Value.builtin "object.__getattribute__") = false := by rw [y2]; rfl
  have l1 : ∀ {M : Model} {A : Around} {E : Value → Shared → Prop} {Q : Option Value → Shared → Prop}, Q (some (.builtin "BaseException.__getattribute__")) ⟨h, g, d, t, os⟩ → wpAny M A (typeLookup (.ref C) "__getattribute__") Q E ⟨h, g, d, t, os⟩ := fun z => tl_own xc.toXCls X xc.q1 FB.ga.lookup FB.mro z
  have l2 : ∀ {M : Model} {A : Around} {E : Value → Shared → Prop} {Q : Option Value → Shared → Prop}, Q none ⟨h, g, d, t, os⟩ → wpAny M A (typeLookup (.ref C) "__getattr__") Q E ⟨h, g, d, t, os⟩ := fun z => tl_own xc.toXCls X xc.q2 FB.noGetattr FB.mro z
  repeat (any_goals (first | assumption | (with_reducible refine wpAny_loadPart_at hx ?_; rw [hc]) | with_reducible refine l1 ?_ | with_reducible refine l2 ?_ | wp_step))
  refine codeAny_call_builtin FB.ga.plain F.entry_bexc_ga (ga_check xc.toXCls X hx hc (cls_entry xc X hx hc ?_))
  repeat (any_goals (first | assumption | wp_step))
theorem cls_attr {Q : Option Value → Shared → Prop} (xc : XQ K C bm) (X : K.In h) (hx : h.get? a = some o) (hc : o.cls = .ref C) (hq : Q (some (.ref C)) ⟨h, g, d, t + 1, os⟩) : wpAny (model prog w) A (getAttr? (.ref a) "__class__") Q E ⟨h, g, d, t, os⟩ := by
  unfold getAttr? getAttrBy?
  repeat (any_goals (first | assumption | with_reducible apply cls_by xc X hx hc | wp_step))
/-- an exception at an address, in a state -/
noncomputable def XP (K : PySem.W.Frag) (C a : Addr) : Shared → Prop := fun s => K.In s.heap ∧ ∃ o, s.heap.get? a = some o ∧ o.cls = .ref C
theorem ans_self (xc : XCls K C bm) : Answers (XP K C a) (.ref a) (.ref C) true := fun dep tk prog w A R s hs => by
  obtain ⟨h, g, d, t, os⟩ := s
  obtain ⟨⟨X, o, hx, hc⟩, hq⟩ := hs
  have e : (Value.ref C == Value.ref C) = true := by simp
  have q0 := hq t
  repeat (any_goals (first | assumption | (with_reducible refine wpAny_loadPart_at hx ?_; rw [hc]) | wp_step))
theorem ans_verr (xc : XCls K C bm) : Answers (XP K C a) (.ref a) (.type "ValueError") true := fun dep tk prog w A R s hs => by
  obtain ⟨h, g, d, t, os⟩ := s
  obtain ⟨⟨X, o, hx, hc⟩, hq⟩ := hs
  have q0 := hq t
  have f2 : ∀ {M : Model} {A : Around} {E : Value → Shared → Prop} {Q : Bool → Shared → Prop}, Q true ⟨h, g, d, t, os⟩ → wpAny M A (isSubtype (.ref C) (.type "ValueError")) Q E ⟨h, g, d, t, os⟩ := fun z => xcls_sub xc X "ValueError" true (by rfl) z
  have ty : typeOf (.type "ValueError") = pure (.type "type") := by kernel_rfl
  repeat (any_goals (first | assumption | (with_reducible refine wpAny_loadPart_at hx ?_; rw [hc]) | with_reducible refine f2 ?_ | wp_step))
/-- a class of the text -/
noncomputable def clsK (K : PySem.W.Frag) (D : Addr) : Bool := match K.lookup D with
  | some ⟨.type "type", _, .cls _, _⟩ => true
  | _ => false
theorem ans_not {D : Addr} (xc : XQ K C bm) (xd : clsK K D = true) (hn : (Value.ref C :: bm).contains (.ref D) = false) : Answers (XP K C a) (.ref a) (.ref D) false := fun dep tk prog w A R s hs => by
  obtain ⟨h, g, d, t, os⟩ := s
  obtain ⟨⟨X, o, hx, hc⟩, hq⟩ := hs
  obtain ⟨N, nm, q1, bs1, hdct, sn, sub, ab, col, dd, k0, k1, k2, k3, k5, mN, c1, c2, c3, c4⟩ := xc.toXCls.obj X
  obtain ⟨od, cdD, slD, d1⟩ : ∃ od cdD slD, h.get? D = some (⟨.type "type", od, .cls cdD, slD⟩ : Obj) := by
    unfold clsK at xd
    split at xd
    · next lk => exact ⟨_, _, _, X _ _ lk⟩
    · cases xd
  have q0 := hq (t + 1)
  have ne : (Value.ref C == Value.ref D) = false := by
    rw [List.contains_cons, Bool.or_eq_false_iff] at hn
    exact beq_eq_false_iff_ne.mpr fun z => beq_eq_false_iff_ne.mp hn.1 z.symm
  have f2 : ∀ {M : Model} {A : Around} {E : Value → Shared → Prop} {t : Nat} {Q : Bool → Shared → Prop}, Q false ⟨h, g, d, t, os⟩ → wpAny M A (isSubtype (.ref C) (.ref D)) Q E ⟨h, g, d, t, os⟩ := fun z => wpAny_isSubtype_exc c1 (by rw [hn]; exact z)
  repeat (any_goals (first | assumption | (with_reducible refine wpAny_loadPart_at hx ?_; rw [hc]) | with_reducible refine wpAny_loadPart_at c1 ?_ | with_reducible refine wpAny_loadPart_at d1 ?_ | with_reducible refine f2 ?_ | with_reducible apply cls_attr xc X hx hc | wp_step))
theorem ans_all {P : Shared → Prop} {x : Value} : ∀ {cs : List Value}, (∀ c ∈ cs, Answers P x c false) → AnswersAll P x cs (cs.map fun _ => false)
  | [], _ => trivial
  | c :: cs, h => ⟨h c (by simp), ans_all fun c' hc => h c' (by simp [hc])⟩
/-- isinstance of an exception and a row of classes -/
theorem isi_tup {tp : Addr} {cs : List Value} {vs : List Bool} {tk : Tok} {s : Shared} {Q : Fin → Shared → Prop} {nn : Nat} {dt : Option Addr} {sl : Array (Option Value)} (xc : XCls K C bm) (hp : XP K C a s) (ht : s.heap.get? tp = some { cls := .type "tuple", dict := dt, data := .seq cs.toArray nn, slots := sl }) (ha : AnswersAll (XP K C a) (.ref a) cs vs)
    (hq : ∀ tk', Q (.done (.ret (.bool (vs.any id)))) { s with toks := tk' }) : wpAny (model prog w) A (Builtin.«isinstance.nested» ⟨[.ref a, .ref tp, .int 0 tk], []⟩) Q E s := by
  obtain ⟨h, g, d, t, os⟩ := s
  obtain ⟨X, o, hx, hc⟩ := id hp
  have t2 : (⟨h, g, d, t, os⟩ : Shared).TypeIs (.ref tp) "tuple" := ⟨_, ht, rfl⟩
  have f1 := F.isi_sub_tuple
  have ne : (Value.ref C == Value.ref tp) = false := beq_eq_false_iff_ne.mpr fun z => by
    obtain ⟨_, _, _, _, _, _, _, _, _, _, _, _, _, _, _, _, c1, _⟩ := xc.obj X
    injection z with z
    rw [z, ht] at c1
    have z2 := congrArg Obj.cls (Option.some.inj c1)
    injection z2 with z2
    exact absurd z2 (by decide)
  repeat (any_goals (first | assumption | (with_reducible refine wpAny_loadPart_at hx ?_; rw [hc]) | wp_step))
  refine wpAny_arrayLoop ?_
  simp only [Option.getD_some, List.toList_toArray]
  refine isinstance_items (dep := 0) (fun _ _ z => z) cs vs _ _ ha hp fun tk' => ?_
  cases hv : vs.any id <;> simp only [if_true, Bool.false_eq_true, if_false] <;> repeat (any_goals (first | assumption | wp_step))
  all_goals exact hv ▸ hq tk'
end
section
variable {X : Cx} {C : Addr} {bm : List Value}
noncomputable def cIsX (K : PySem.W.Frag) (C : Addr) (bm : List Value) : List V → Hp → VK → Prop := fun vs H Q => ∃ x d, H x = some (ExcO x C d) ∧ (((vs = [.ref x, .ref C] ∨ vs = [.ref x, .ty "ValueError"]) ∧ Q (.bl true) H) ∨
  ∃ p cs, vs = [.ref x, .ref p] ∧ H p = some (.tup cs) ∧ (∀ c ∈ cs, ∃ D, c = .ref D ∧ clsK K D = true ∧ (Value.ref C :: bm).contains (.ref D) = false) ∧ Q (.bl false) H)
theorem call_isX (xc : XQ X.K C bm) : CallR X (.builtin "isinstance") (cIsX X.K C bm) := fun pins s σ H xs us Q I r h => by
  obtain ⟨x, d, hx, h⟩ := h
  obtain ⟨⟨oe, vs, e1, e2, e3, _⟩, _⟩ := I.hok x _ hx
  have P : XP X.K C x s := ⟨I.kIn, oe, e1, e2⟩
  have fin : ∀ {b : Bool} {c : Value}, Answers (XP X.K C x) (.ref x) c b → Q (.bl b) H → wpAny (model X.prog X.w) X.A (call (.builtin "isinstance") [.ref x, c]) (EP X pins σ Q) X.xe s := fun {b c} A q =>
    call_isinstance (S := fun _ R s => XP X.K C x s ∧ ∀ tk', R (.ok (.ret (.bool b))) { s with toks := tk' }) (fun _ _ _ _ _ hs => isinstance_outer (A 0 _ _ _ _ _ _ hs) (by intro e; cases e)) ⟨P, fun tk' => ⟨.bl b, H, I.tok tk', rfl, q⟩⟩
  rcases h with ⟨rfl | rfl, q⟩ | ⟨p, cs, rfl, hp, hc, q⟩
  · cases r with
    | cons r1 r =>
      cases r with
      | cons r2 r =>
        cases r
        cases r1
        cases r2
        exact fin (ans_self xc.toXCls) q
  · cases r with
    | cons r1 r =>
      cases r with
      | cons r2 r =>
        cases r
        cases r1
        cases r2
        exact fin (ans_verr xc.toXCls) q
  · cases r with
    | cons r1 r =>
      cases r with
      | cons r2 r =>
        cases r
        cases r1
        cases r2
        obtain ⟨_, its, rv, ⟨c0, dt, da, sl⟩, t1, t2, nt, t3⟩ := I.hok p _ hp
        simp only at t2 t3
        subst t2 t3
        have al : ∀ u ∈ its, Answers (XP X.K C x) (.ref x) u false := fun u hu => by
          obtain ⟨i, hi⟩ := List.mem_iff_getElem?.mp hu
          have li : i < cs.length := by rw [rv.length]; exact (List.getElem?_eq_some_iff.mp hi).1
          obtain ⟨u', hu', ru⟩ := rv.get (List.getElem?_eq_getElem li)
          rw [hi] at hu'
          cases hu'
          obtain ⟨D, eD, xd, hn⟩ := hc _ (List.getElem_mem li)
          rw [eD] at ru
          cases ru
          exact ans_not xc xd hn
        have q' : ∀ tk', EP X pins σ Q (.bool ((its.map fun _ => false).any id)) { s with toks := tk' } := fun tk' => by
          rw [show (its.map fun _ => false).any id = false by simp]
          exact ⟨.bl false, H, I.tok tk', rfl, q⟩
        exact call_isinstance (S := fun _ R s' => s' = s ∧ ∀ tk', R (.ok (.ret (.bool ((its.map fun _ => false).any id)))) { s' with toks := tk' }) (fun _ _ _ _ _ hs => isinstance_outer (by obtain ⟨rfl, hs⟩ := hs; exact isi_tup xc.toXCls P t1 (ans_all al) hs) (by intro e; cases e)) ⟨rfl, q'⟩
end
end L2
namespace L2
open PySem PySem.Spec PyProof.Rows
theorem bt_ValueError : bootBuiltins "ValueError" = some (.type "ValueError") := by decide +kernel
section
variable {P : Program} {w : World} {K : PySem.W.Frag} {mg : Str → Option Value} {base : Heap}
/-- a def that may raise -/
theorem Fun.okE {x qual : Str} {st : Stmt} {f : Addr} {fd : FuncData} {N ps : List Str} {k : Nat} {sp : Sp} (F : Fun K x qual st f fd) (S : FnScope N ps (defScope st)) (len : ∀ vs H Q E, sp vs H Q E → vs.length = ps.length)
    (hbody : ∀ (cdv : Value) (A : Around) (outer : List Env) (s : Shared) (H : Hp) (vs : List V) (Q : VK) (E : XK), Room k (A.deeper (envOfC qual (defScope st) s.heap.objs.size f cdv)) → sp vs H Q E →
      ∃ t, PSs (cxOf (CX1 P w base) P w K mg base N qual (defScope st) f cdv A outer s H E) (defBody st) t ∧ t { nx := fun _ H' => Q .non H', rt := Q } (start N vs) H) : FnOk P w K mg base (CX1 P w base) (k + 1) f fd ps sp := by
  obtain ⟨oc, od, kV, doc, pm, an, cdv, ct, osl, rfl, lk, hcd⟩ := F.ex
  exact fn_of lk hcd S len fun A outer s H vs Q E hr hsp => hbody cdv A outer s H vs Q E hr hsp
/-- a call that is known not to raise -/
theorem passN {X : Cx} : Passes (CX1 P w base) X E0 := fun _ _ _ _ _ _ _ h => by
  obtain ⟨_, _, _, _, _, _, z⟩ := h
  exact z.elim
end
/-- a list's first, or what holds where there is none -/
noncomputable def onC (xs : List V) (n : Prop) (c : V → List V → Prop) (_u : Tg c := ()) : Prop := match xs with
  | [] => n
  | v :: r => c v r
section
variable {n : Prop} {c : V → List V → Prop} {v : V} {r : List V} {D : Ends} {σ : St} {H : Hp} {C : Addr} {E : XK} {t : TA} {sp : Sp} {i j : Nat} {ts : TS}
theorem e_onC0 : onC [] n c = n := rfl
theorem e_onC1 : onC (v :: r) n c = c v r := rfl
theorem e_neN {y : Str} {Q : VK} : rNe .non (.str y) H Q = Q (.bl true) H := by simp [rNe, scal]
theorem e_raise : tRaise C E t D σ H = t σ H fun vs H1 => vs.length ≤ 100 ∧ E (.ref C) none H1 := rfl
theorem e_tryA : tTryA sp [] t i j C ts D σ H = t σ H fun vs H1 => sp vs H1 (fun v H2 => D.nx (σ.set i (some v)) H2) fun cls od H2 => cls = .ref C ∧ ∀ x, H2 x = none → ts (sEnds D j) (σ.set j (some (.ref x))) (upd H2 x (ExcO x C od)) := by simp only [tTryA, List.append_nil]
end
theorem call_isXK {X : Cx} {C : Addr} {bm : List Value} (K : PySem.W.Frag) (e : X.K = K) (xc : XQ K C bm) : CallR X (.builtin "isinstance") (cIsX K C bm) := by subst e; exact call_isX xc
theorem xq_mk {K : PySem.W.Frag} {C : Addr} {bm : List Value} (a : excJ K C = true) (b : mroIs K C (.ref C :: bm) = true) (c : quietIn K "__getattribute__" (.ref C :: bm) = true) (d : quietIn K "__getattr__" (.ref C :: bm) = true) (e : quietIn K "__class__" (.ref C :: bm) = true) : XQ K C bm := ⟨⟨a, b⟩, c, d, e⟩
end L2
namespace L2
open PySem PySem.Spec PyProof.Rows
/-! ### an exception's class with an __init__ of its own -/
/-- what the class must have: its __init__ is the def at f; none of its classes of the text has the names by which fields are put and read -/
structure XI (K : PySem.W.Frag) (C f : Addr) (bm : List Value) (fd : Str) : Prop extends XQ K C bm where
  ini : PySem.W.findIn K (.ref C) "__init__" = some (some (.ref f))
  fn : PySem.W.isFn K (.ref f) = true
  has : (PySem.W.clsIn K C).map (·.hasDict) = some true
  q4 : quietIn K "__setattr__" (.ref C :: bm) = true
  q5 : quietIn K fd (.ref C :: bm) = true
  kp : PySem.W.keepIn K (.ref C) = true
theorem fn_obj {K : PySem.W.Frag} {h : Heap} {f : Addr} (X : K.In h) (e : PySem.W.isFn K (.ref f) = true) : ∃ o, h.get? f = some o ∧ o.cls = .type "function" := by
  have e := beq_iff_eq.mp e
  obtain ⟨o, l, z⟩ := Option.map_eq_some_iff.mp (show (K.lookup f).map (·.cls) = some (.type "function") from e)
  exact ⟨o, X f o l, z⟩
section
variable {K : PySem.W.Frag} {prog : Program} {w : World} {A : Around} {E : Value → Shared → Prop} {h : Heap} {g : Array GenState} {d : Drawn} {t : Nat} {os : OsState} {C f : Addr} {bm : List Value} {fd : Str}
theorem xi_type {rest : List Value} {R : Fin → Shared → Prop} (x : XI K C f bm fd) (X : K.In h) (le : rest.length ≤ sizeLine)
    (hq : ∀ h' a, Heap.MadeExcOf h h' a (.ref C) rest → wpAny (model prog w) A (call (.ref f) (.ref a :: rest)) (fun r s' => r = .none ∧ R (.done (.ret (.ref a))) s') E ⟨h', g, d, t, os⟩) :
    wpAny (model prog w) A (Builtin.«type.__call__» ⟨.ref C :: rest, []⟩) R E ⟨h, g, d, t, os⟩ := by
  obtain ⟨N, nm, q1, bs1, hdct, sn, sub, ab, col, dd, k0, k1, k2, k3, k5, mN, c1, c2, c3, c4⟩ := x.toXCls.obj X
  have vE := PySem.F.excBase_ValueError
  obtain ⟨of, hof, hfc⟩ : ∃ o, h.get? f = some o ∧ o.cls = .type "function" := fn_obj X x.fn
  repeat (first | with_reducible refine wpAny_loadPart_at c1 ?_ | with_reducible refine wpAny_madeBy_exc c1 ?_ | wp_step)
  refine codeAny_call_builtin_code (Code.quiet_builtin _ vE.quiet) (wpAny_check_new_subU (bmB := vErr) vE (by rfl) c4 c1 ?_)
  refine codeAny_exc_new_subU (bmB := vErr) vE (by rfl) vE c4 c1 ?_ le
  generalize eh : (h.push { cls := .type "tuple", data := .seq rest.toArray }).push { cls := .ref C, data := .fields #[.ref h.objs.size, .none, .none, .none, .bool false, .none] } = h2
  have kp : ∀ b o, h.get? b = some o → h2.get? b = some o := fun b o z => by rw [← eh]; exact Heap.get?_push_of_some _ (Heap.get?_push_of_some _ z)
  have hx : h2.get? (h.objs.size + 1) = some { cls := .ref C, data := .fields #[.ref h.objs.size, .none, .none, .none, .bool false, .none] } := by rw [← eh]; heap_get
  have ht : h2.get? h.objs.size = some { cls := .type "tuple", data := .seq rest.toArray } := by rw [← eh]; exact Heap.get?_push_of_some _ (Heap.get?_push_at rfl rfl)
  have self : (Value.ref C :: bm).contains (.ref C) = true := by simp
  show wpAny _ _ _ _ _ _
  unfold isInstance
  repeat (first | with_reducible refine wpAny_loadPart_at hx ?_ | (with_reducible refine wpAny_isSubtype_exc (kp _ _ c1) ?_; rw [self]) | wp_step)
  show wpAny _ _ (typeLookup (.ref C) _) _ _ _
  refine PySem.W.Looks.here (s := ⟨h2, g, d, t, os⟩) (PySem.W.looks_findIn (fun a o l => kp _ _ (X a o l)) x.ini) ?_
  refine wpAny_holding (wpAny_bind ?_)
  unfold bindSpecial
  refine wpAny_bind (wpAny_typeOf (T := "function") ⟨_, kp _ _ hof, hfc⟩ ?_)
  rw [if_pos (by decide)]
  refine wpAny_pure (wpAny_bind (wpAny_mono (hq h2 (h.objs.size + 1) ⟨kp, Heap.get?_none_of_le (Nat.le_succ _), h.objs.size, hx, Heap.get?_none_of_le (Nat.le_refl _), ht⟩) (fun r s' ⟨e, z⟩ => ?_) fun _ _ z => z))
  subst e
  wp_walk
  exact z
theorem xi_call {rest : List Value} {Q : Value → Shared → Prop} (x : XI K C f bm fd) (X : K.In h) (le : rest.length ≤ sizeLine)
    (hq : ∀ h' a, Heap.MadeExcOf h h' a (.ref C) rest → wpAny (model prog w) (A.under (.builtin "type.__call__" ⟨.ref C :: rest, []⟩)) (call (.ref f) (.ref a :: rest)) (fun r s' => r = .none ∧ Q (.ref a) s') E ⟨h', g, d, t, os⟩) :
    wpAny (model prog w) A (call (.ref C) rest) Q E ⟨h, g, d, t, os⟩ := by
  obtain ⟨N, nm, q1, bs1, hdct, sn, sub, ab, col, dd, k0, k1, k2, k3, k5, mN, c1, c2, c3, c4⟩ := x.toXCls.obj X
  have y1 := tc_lookup
  have y2 := tc_bind (.ref C)
  have y3 : (⟨h, g, d, t, os⟩ : Shared).TypeIs (.ref C) "type" := ⟨_, c1, rfl⟩
  refine wpAny_call (codeAny_of_tree ?_)
  show wpAny _ _ (callAny (.ref C) _) _ _ _
  repeat (any_goals (first | assumption | with_reducible refine wpAny_loadPart_at c1 ?_ | wp_step))
  exact ⟨rfl, codeAny_call_builtin_at (Code.quiet_builtin _ (by decide +kernel)) entry_typeCall (wpAny_check_type_call_sub c1 (xi_type x X le hq))⟩
end
end L2
namespace L2
open PySem PySem.Spec PyProof.Rows
/-! ### a field of an exception put and read -/
theorem lk_verr_line : typeLookup (.type "ValueError") "line" = pure none := by rw [typeLookup_type, builtinLookup_eq_fast]; kernel_rfl
section
variable {K : PySem.W.Frag} {prog : Program} {w : World} {A : Around} {E : Value → Shared → Prop} {h : Heap} {g : Array GenState} {d : Drawn} {t : Nat} {os : OsState} {C f a : Addr} {bm : List Value} {fd : Str} {v : Value} {o : Obj}
theorem refuse_tail {l : List Value} (self : Value) (T : OwnTail h vErr l) : refuseLoop self "__setattr__" l = pure () := by
  induction T with
  | base => exact PySem.F.store_ValueError.passes self
  | own _ _ _ _ ih => rw [refuseLoop_ref]; exact ih
theorem osa_check {M : Model} {n u : Value} {Q : Unit → Shared → Prop} (x : XCls K C bm) (X : K.In h) (hx : h.get? a = some o) (hc : o.cls = .ref C) (q : Q () ⟨h, g, d, t, os⟩) : wpAny M A (checkBuiltinCall "object.__setattr__" ⟨[.ref a, n, u], []⟩) Q E ⟨h, g, d, t, os⟩ := by
  have SF := PySem.F.store_ValueError
  have y := SF.args (.ref a) n u
  have f2 : ∀ {M : Model} {A : Around} {E : Value → Shared → Prop} {Q : Bool → Shared → Prop}, Q true ⟨h, g, d, t, os⟩ → wpAny M A (isSubtype (.ref C) (.type "object")) Q E ⟨h, g, d, t, os⟩ := fun z => xcls_sub x X "object" true (by rfl) z
  simp only [checkBuiltinCall, SF.kind, SF.split]
  refine wpAny_bind ?_
  unfold isInstance
  repeat (first | (with_reducible refine wpAny_loadPart_at hx ?_; rw [hc]) | with_reducible refine f2 ?_ | wp_step)
  exact q
/-- the first field of an exception: its dict is made -/
theorem osa_new {tk : Tok} {Q : Fin → Shared → Prop} (x : XI K C f bm fd) (X : K.In h) (hB : typeLookup (.type "ValueError") fd = pure none) (hx : h.get? a = some o) (hc : o.cls = .ref C) (hn : o.dict = none) {vs : Array Value} (hd : o.data = .fields vs)
    (q : ∀ h' tk', h'.get? a = some { o with dict := some h.objs.size } → (∀ b u, b ≠ a → h.get? b = some u → h'.get? b = some u) → h'.Ns1 h.objs.size (fun y => if y = fd then some v else none) → Q (.done (.ret .none)) ⟨h', g, d, tk', os⟩) :
    wpAny (model prog w) A (Builtin.«object.__setattr__» ⟨[.ref a, .str fd tk, v], []⟩) Q E ⟨h, g, d, t, os⟩ := by
  obtain ⟨N, nm, q1, bs1, hdct, sn, sub, ab, col, dd, k0, k1, k2, k3, k5, mN, c1, c2, c3, c4⟩ := x.toXCls.obj X
  have hh : hdct = true := by have := x.has; rw [c3] at this; simpa using this
  subst hh
  have rt := refuse_tail (.ref a) c4
  have l2 : ∀ {M : Model} {A : Around} {E : Value → Shared → Prop} {Q : Option Value → Shared → Prop}, Q none ⟨h, g, d, t, os⟩ → wpAny M A (typeLookup (.ref C) fd) Q E ⟨h, g, d, t, os⟩ := fun z => tl_own x.toXCls X x.q5 hB F.attrBase_ValueError.mro z
  rw [PySem.W.osa_eq, refuse_eq]
  repeat (first | (rw [refuseLoop_ref, rt]) | (with_reducible refine wpAny_loadPart_at hx ?_; rw [hc]) | with_reducible refine wpAny_mroOf_exc c1 ?_ | with_reducible refine l2 ?_ | wp_step)
  rw [hn, if_neg (by simp [typeHasDict])]
  simp only [hd]
  have ha : (h.push { cls := .type "dict", data := .dict #[] }).get? a = some o := Heap.get?_push_of_some _ hx
  have na : a ≠ h.objs.size := Nat.ne_of_lt (Heap.lt_size hx)
  refine wpAny_bind (wpAny_alloc' (wpAny_bind (wpAny_update' ha (wpAny_pure ?_))))
  generalize eh : (h.push { cls := .type "dict", data := .dict #[] }).update a (fun o => { cls := o.cls, dict := some h.objs.size, data := o.data, slots := o.slots }) = h2
  have g1 : h2.get? h.objs.size = some { cls := .type "dict", data := .dict #[] } := by rw [← eh, Heap.get?_update_ne _ _ _ _ na.symm]; exact Heap.get?_push_at rfl rfl
  have g2 : h2.get? a = some { o with dict := some h.objs.size } := by
    rw [← eh]
    refine Heap.get?_update_self _ ha ?_
    have fr := (Heap.get?_some_iff.mp hx).2
    obtain ⟨_, _, da, _⟩ := o
    cases da <;> first | rfl | exact fr
  have g3 : ∀ b u, b ≠ a → h.get? b = some u → h2.get? b = some u := fun b u hb z => by rw [← eh, Heap.get?_update_ne _ _ _ _ hb]; exact Heap.get?_push_of_some _ z
  have g4 : h2.Ns h.objs.size (fun _ => none) := ⟨_, #[], _, g1, rfl, fun e he => absurd he (by simp), fun _ => rfl⟩
  show wpAny _ _ (Builtin.ObjectAttr.storeInDict h.objs.size (.str fd tk) fd v) _ _ _
  unfold Builtin.ObjectAttr.storeInDict Builtin.ObjectAttr.newKeyGuard
  refine wpAny_bind (wpAny_pure (wpAny_bind (wpAny_nsSet1 (Heap.Ns1.of_empty g4) fun h3 n3 s3 => ?_)))
  obtain ⟨oD, eD, pD, z1, z2, z3⟩ := n3.count (Within.cons fd v Within.nil)
  refine wpAny_bind (wpAny_lookBehind z1 (by rw [z2]; exact pastItsLine_dict (Nat.le_trans z3 (by rw [List.length_cons, List.length_nil, sizeLine_eq]; omega))) ?_)
  wp_walk
  exact q h3 _ ((s3.2 a na).trans g2) (fun b u hb z => (s3.2 b (Nat.ne_of_lt (Heap.lt_size z))).trans (g3 b u hb z)) n3
theorem set_new {Q : Unit → Shared → Prop} (x : XI K C f bm fd) (X : K.In h) (hB : typeLookup (.type "ValueError") fd = pure none) (hx : h.get? a = some o) (hc : o.cls = .ref C) (hn : o.dict = none) {vs : Array Value} (hd : o.data = .fields vs)
    (q : ∀ h' tk', h'.get? a = some { o with dict := some h.objs.size } → (∀ b u, b ≠ a → h.get? b = some u → h'.get? b = some u) → h'.Ns1 h.objs.size (fun y => if y = fd then some v else none) → Q () ⟨h', g, d, tk', os⟩) :
    wpAny (model prog w) A (setAttr (.ref a) fd v) Q E ⟨h, g, d, t, os⟩ := by
  have SF := PySem.F.store_ValueError
  have y1 := SF.slot.bind (.ref a)
  have l1 : ∀ {M : Model} {A : Around} {E : Value → Shared → Prop} {t : Nat} {Q : Option Value → Shared → Prop}, Q (some (.builtin "object.__setattr__")) ⟨h, g, d, t, os⟩ → wpAny M A (typeLookup (.ref C) "__setattr__") Q E ⟨h, g, d, t, os⟩ := fun z => tl_own x.toXCls X x.q4 SF.slot.lookup F.attrBase_ValueError.mro z
  unfold setAttr callSpecial? specialOf
  repeat (any_goals (first | assumption | (with_reducible refine wpAny_loadPart_at hx ?_; rw [hc]) | with_reducible refine l1 ?_ | wp_step))
  refine codeAny_call_builtin SF.slot.plain SF.entry (osa_check x.toXCls X hx hc (osa_new x X hB hx hc hn hd fun h' tk' z1 z2 z3 => ?_))
  repeat (any_goals (first | assumption | wp_step))
  exact q h' tk' z1 z2 z3
/-- a field read -/
theorem get_entry {tk : Tok} {Q : Fin → Shared → Prop} {D : Addr} {mA : Str → Option Value} (x : XI K C f bm fd) (X : K.In h) (hB : typeLookup (.type "ValueError") fd = pure none) (hx : h.get? a = some o) (hc : o.cls = .ref C) (hn : o.dict = some D) {vs : Array Value} (hd : o.data = .fields vs)
    (hD : h.Ns1 D mA) (hv : mA fd = some v) (hq : Q (.done (.ret v)) ⟨h, g, d, t, os⟩) :
    wpAny (model prog w) A (Builtin.«object.__getattribute__» ⟨[.ref a, .str fd tk], []⟩) Q E ⟨h, g, d, t, os⟩ := by
  obtain ⟨N, nm, q1, bs1, hdct, sn, sub, ab, col, dd, k0, k1, k2, k3, k5, mN, c1, c2, c3, c4⟩ := x.toXCls.obj X
  have hh : hdct = true := by have := x.has; rw [c3] at this; simpa using this
  subst hh
  have lk : ∀ {M : Model} {A : Around} {E : Value → Shared → Prop} {Q : Option Value → Shared → Prop}, Q none ⟨h, g, d, t, os⟩ → wpAny M A (typeLookup (.ref C) fd) Q E ⟨h, g, d, t, os⟩ := fun z => tl_own x.toXCls X x.q5 hB F.attrBase_ValueError.mro z
  repeat (any_goals (first | assumption | (with_reducible refine wpAny_loadPart_at hx ?_; rw [hc]) | with_reducible refine lk ?_ | wp_step))
  simp only [hd]
  unfold instanceDict
  repeat (first | (with_reducible refine wpAny_loadPart_at hx ?_; rw [hc]) | with_reducible refine wpAny_loadPart_at c1 ?_ | wp_step)
  rw [hn]
  repeat (any_goals (first | assumption | (with_reducible refine wpAny_nsGet hD.ns ?_; rw [hv]) | wp_step))
theorem get_by {tk : Tok} {fill expr : Bool} {Q : Value → Shared → Prop} {D : Addr} {mA : Str → Option Value} (x : XI K C f bm fd) (X : K.In h) (hB : typeLookup (.type "ValueError") fd = pure none) (hx : h.get? a = some o) (hc : o.cls = .ref C) (hn : o.dict = some D) {vs : Array Value} (hd : o.data = .fields vs)
    (hD : h.Ns1 D mA) (hv : mA fd = some v) (hh : handedOut v = pure v) (hq : Q v ⟨h, g, d, t, os⟩) : wpAny (model prog w) A (getAttrBy (.ref a) (.str fd tk) fill expr) Q E ⟨h, g, d, t, os⟩ := by
  have FB := F.attrBase_ValueError
  have f3 := FB.ga.bind (.ref a)
  have y0 : (expr && onTheHeap (Value.builtin "BaseException.__getattribute__")) = false := by cases expr <;> rfl
  have y2 : (Value.builtin "BaseException.__getattribute__" == Value.builtin "object.__getattribute__") = false := by decide +kernel
  have y1 : (onTheHeap (Value.ref C) && Value.builtin "BaseException.__getattribute__" == Value.builtin "object.__getattribute__") = false := by rw [y2]; rfl
  have l1 : ∀ {M : Model} {A : Around} {E : Value → Shared → Prop} {Q : Option Value → Shared → Prop}, Q (some (.builtin "BaseException.__getattribute__")) ⟨h, g, d, t, os⟩ → wpAny M A (typeLookup (.ref C) "__getattribute__") Q E ⟨h, g, d, t, os⟩ := fun z => tl_own x.toXCls X x.q1 FB.ga.lookup FB.mro z
  have l2 : ∀ {M : Model} {A : Around} {E : Value → Shared → Prop} {Q : Option Value → Shared → Prop}, Q none ⟨h, g, d, t, os⟩ → wpAny M A (typeLookup (.ref C) "__getattr__") Q E ⟨h, g, d, t, os⟩ := fun z => tl_own x.toXCls X x.q2 FB.noGetattr FB.mro z
  repeat (any_goals (first | assumption | (with_reducible refine wpAny_loadPart_at hx ?_; rw [hc]) | with_reducible refine l1 ?_ | with_reducible refine l2 ?_ | wp_step))
  refine codeAny_call_builtin FB.ga.plain F.entry_bexc_ga (ga_check x.toXCls X hx hc (get_entry x X hB hx hc hn hd hD hv ?_))
  repeat (any_goals (first | assumption | wp_step))
  all_goals (show wpAny _ _ (handedOut v) _ _ _; rw [hh]; exact wpAny_pure hq)
theorem get_fld {expr : Bool} {Q : Value → Shared → Prop} {D : Addr} {mA : Str → Option Value} (x : XI K C f bm fd) (X : K.In h) (hB : typeLookup (.type "ValueError") fd = pure none) (hx : h.get? a = some o) (hc : o.cls = .ref C) (hn : o.dict = some D) {vs : Array Value} (hd : o.data = .fields vs)
    (hD : h.Ns1 D mA) (hv : mA fd = some v) (hh : handedOut v = pure v) (hq : Q v ⟨h, g, d, t + 1, os⟩) : wpAny (model prog w) A (getAttr (.ref a) fd expr) Q E ⟨h, g, d, t, os⟩ := by
  unfold getAttr
  repeat (any_goals (first | assumption | with_reducible apply get_by x X hB hx hc hn hd hD hv hh | wp_step))
end
end L2
namespace L2
open PySem PySem.Spec PyProof.Rows
/-- an exception just made: without a dict; with the dict at D -/
noncomputable def ExcN (x C : Addr) : HO := .ext fun h => ∃ t, h.get? x = some { cls := .ref C, data := .fields #[.ref t, .none, .none, .none, .bool false, .none] }
noncomputable def ExcD (x C D : Addr) : HO := .ext fun h => ∃ t, h.get? x = some { cls := .ref C, dict := some D, data := .fields #[.ref t, .none, .none, .none, .bool false, .none] }
/-- untracked again -/
noncomputable def del (H : Hp) (x : Addr) : Hp := fun a => if a = x then none else H a
theorem del_at {H : Hp} {x : Addr} : del H x x = none := if_pos rfl
theorem del_ne {H : Hp} {x a : Addr} (h : a ≠ x) : del H x a = H a := if_neg h
section
variable {X : Cx} {pins : List (Addr × Obj)} {σ : St} {H : Hp} {s : Shared} {h' : Heap} {x C D f : Addr} {bm : List Value} {fn : Str}
theorem Inv.drop {φ : Heap → Prop} (I : Inv X pins σ H s) (e : H x = some (.ext φ)) : Inv X pins σ (del H x) s := by
  have no : ∀ b, H b = none → del H x b = none := fun b z => by
    by_cases y : b = x
    · rw [y, del_at]
    · rw [del_ne y]; exact z
  have ne : ∀ b u, H b = some u → (∀ ψ, u ≠ .ext ψ) → del H x b = some u := fun b u z n => by
    rw [del_ne fun y => by rw [y, e] at z; cases z; exact n _ rfl]
    exact z
  refine ⟨I.ok, I.os, I.bare, ⟨I.base.keep, I.base.slot, fun b o z n m => no b (I.base.free b o z n m), I.base.there, fun b xs z => ne b _ (I.base.tups b xs z) (by intro _ y; cases y), fun b o u z => ne b _ (I.base.frzs b o u z) (by intro _ y; cases y), fun b ps z => ?_⟩, I.loc, I.cell, no _ I.free, fun y c z => no _ (I.freeC y c z), fun p hp => ?_, fun a o z => ?_, I.len⟩
  · obtain ⟨m, q⟩ := I.base.tbls b ps z
    exact ⟨m, ne b _ q (by intro _ y; cases y)⟩
  · obtain ⟨a, b, c⟩ := I.pin p hp
    exact ⟨a, no _ b, c⟩
  · have y : a ≠ x := fun y => by rw [y, del_at] at z; cases z
    rw [del_ne y] at z
    exact (I.hok a o z).stay (fun _ _ _ q => q) (fun c q => ne c _ q (by intro _ y; cases y)) fun c xs q => ne c _ q (by intro _ y; cases y)
/-- an exception made: tracked -/
theorem Inv.madeX {vs : List Value} (I : Inv X pins σ H s) (hex : X.ex = []) (m : Heap.MadeExcOf s.heap h' x (.ref C) vs) : Inv X pins σ (upd H x (ExcN x C)) { s with heap := h' } := by
  obtain ⟨n0, hn⟩ := I.new0 hex m.new
  obtain ⟨t, he, _⟩ := m.there
  have ne : ∀ b o, s.heap.get? b = some o → b ≠ x := fun b o z y => by rw [y, m.new] at z; cases z
  refine (I.kept (t' := s.toks) m.keeps).track n0 hn ?_ (fun y c z => ?_) (fun p hp => ?_) ⟨⟨t, he⟩, ⟨_, he⟩, fun h1 h2 ⟨t, a⟩ k => ⟨t, k _ a⟩⟩
  · obtain ⟨_, ⟨o, _, _, z, _⟩, _⟩ := I.loc
    exact (ne _ o z).symm
  · obtain ⟨_, o, z, _⟩ := I.cell y c z
    exact ne _ o z
  · exact ne _ _ (I.pin p hp).1
end
end L2
namespace L2
open PySem PySem.Spec PyProof.Rows
/-- C(..) of an exception's class with an __init__ of its own -/
noncomputable def tMakeX (C : Addr) (sp : Sp) (t : TA) : TE := fun σ H Q => t σ H fun vs H1 => vs.length ≤ 100 ∧ ∀ a, H1 a = none → sp (.ref a :: vs) (upd H1 a (ExcN a C)) (fun v H2 => v = .non ∧ Q (.ref a) H2) E0
/-- raise C(..) of such a class -/
noncomputable def tRaiseX (C : Addr) (sp : Sp) (E : XK) (t : TA) : TS := fun _ σ H => t σ H fun vs H1 => vs.length ≤ 100 ∧ ∀ a, H1 a = none → sp (.ref a :: vs) (upd H1 a (ExcN a C)) (fun v H2 => v = .non ∧ ∃ D, H2 a = some (ExcD a C D) ∧ E (.ref C) (some D) (del H2 a)) E0
/-- the first field of an exception put -/
noncomputable def sFldX (C : Addr) (f : Str) (ta tv : TE) : TS := fun D σ H => tv σ H fun y H1 => ta σ H1 fun x H2 => ∃ a, x = .ref a ∧ H2 a = some (ExcN a C) ∧ ∀ d, H2 d = none → d ≠ a → D.nx σ (upd (upd H2 a (ExcD a C d)) d (.xd [(f, y)]))
/-- a field of an exception -/
noncomputable def tFldX (C : Addr) (f : Str) (ta : TE) : TE := fun σ H Q => ta σ H fun x H1 => ∃ a D v, x = .ref a ∧ (H1 a = some (ExcD a C D) ∨ H1 a = some (ExcO a C (some D))) ∧ H1 D = some (.xd [(f, v)]) ∧ Q v H1
section
variable {X : Cx} {k : Nat} {f C : Addr} {fd : FuncData} {ps : List Str} {sp : Sp} {bm : List Value} {fn x : Str} {pins : List (Addr × Obj)} {σ : St} {H : Hp} {s : Shared} {e o value : Expr} {es : List Expr} {t : TA} {ta tv : TE} {p pos pos' np cpos : Pos} {E : XK}
theorem run_makeX {us : List Value} {vs : List V} {Q : Addr → Hp → Prop} (xi : XI X.K C f bm fn) (F : FnOk X.prog X.w X.K X.mg X.base CX0 k f fd ps sp) (hr : Room (k + 1) X.A) (hb : Binds X.K fd ps []) (hex : X.ex = []) (I : Inv X pins σ H s) (r : Vals vs us) (le : vs.length ≤ 100)
    (h : ∀ a, H a = none → sp (.ref a :: vs) (upd H a (ExcN a C)) (fun v H2 => v = .non ∧ Q a H2) E0) :
    wpAny (model X.prog X.w) X.A (call (.ref C) us) (fun u s' => ∃ a H2, u = .ref a ∧ X.s₀.heap.get? a = none ∧ Inv X pins σ H2 s' ∧ Q a H2) X.xe s := by
  obtain ⟨hh, g, d, tk, os⟩ := s
  refine xi_call xi I.kIn (by rw [← r.length, sizeLine_eq]; omega) fun h' a m => ?_
  obtain ⟨n0, hn⟩ := I.new0 hex m.new
  have hq := h a hn
  have I2 := I.madeX hex m
  have r2 : Vals (V.ref a :: vs) (Value.ref a :: us) := .cons rfl r
  have hl : (Value.ref a :: us ++ []).length = ps.length := by
    rw [List.append_nil, ← r2.length]
    exact F.len _ _ _ _ hq
  have hb2 := hb _ (Value.ref a :: us) I2.kIn hl
  rw [List.append_nil] at hb2
  refine wpAny_call (codeAny_mono (F.run _ X.stack _ _ ⟨Value.ref a :: us, []⟩ (Value.ref a :: us) _ _ E0 (hr.make C us []) (I2.env0.make C us []) hb2 r2 hq) fun r s' hq' => ?_)
  cases r with
  | error e => exact False.elim hq'
  | ok fl =>
    cases fl with
    | ret u =>
      obtain ⟨v, H', I3, rv, ev, q3⟩ := I2.after hq'
      subst ev
      cases rv
      exact ⟨rfl, a, H', rfl, n0, I3, q3⟩
    | next => exact False.elim hq'
    | brk => exact False.elim hq'
    | cont => exact False.elim hq'
theorem ev_makeX {Q : Addr → Hp → Prop} (xi : XI X.K C f bm fn) (F : FnOk X.prog X.w X.K X.mg X.base CX0 k f fd ps sp) (hr : Room (k + 1) X.A) (hg : Gl X x) (hm : X.mg x = some (.ref C)) (hb : Binds X.K fd ps []) (ha : PA X (e :: es) t) (hex : X.ex = [])
    (hdb : (x == ("__debug__" : Str)) = false) (he : starEach (e :: es) X.env = (false, eval e X.env) :: starEach es X.env) (hpl : (backTo pos (starEach es X.env)).any (·.1) = false) (I : Inv X pins σ H s)
    (h : t σ H fun vs H1 => vs.length ≤ 100 ∧ ∀ a, H1 a = none → sp (.ref a :: vs) (upd H1 a (ExcN a C)) (fun v H2 => v = .non ∧ Q a H2) E0) :
    wpAny (model X.prog X.w) X.A (eval (.Call (.Name x p) (e :: es) [] pos) X.env) (fun u s' => ∃ a H2, u = .ref a ∧ X.s₀.heap.get? a = none ∧ Inv X pins σ H2 s' ∧ Q a H2) X.xe s := by
  refine wpAny_Call_Name_kw (ld_glob I hg hm ?_ hdb)
  exact PySem.W.callWith_K (h₀ := X.base) I.ok.mod.kin xi.kp (thn (ha pos pins s σ H _ I h) fun us s1 ⟨vs, H1, I1, r, le, q⟩ => ⟨I1.kIn, run_makeX xi F hr hb hex I1 r le q⟩) he hpl
theorem pe_makeX (xi : XI X.K C f bm fn) (F : FnOk X.prog X.w X.K X.mg X.base CX0 k f fd ps sp) (hr : Room (k + 1) X.A) (hg : Gl X x) (hm : X.mg x = some (.ref C)) (hb : Binds X.K fd ps []) (ha : PA X (e :: es) t) (hex : X.ex = [] := by rfl)
    (hdb : (x == ("__debug__" : Str)) = false := by decide) (he : starEach (e :: es) X.env = (false, eval e X.env) :: starEach es X.env := by rfl) (hpl : (backTo pos (starEach es X.env)).any (·.1) = false := by rfl) : PE X (.Call (.Name x p) (e :: es) [] pos) (tMakeX C sp t) := by
  intro pins s σ H Q I h
  exact thn (ev_makeX (Q := fun a H2 => Q (.ref a) H2) xi F hr hg hm hb ha hex hdb he hpl I h) fun u s1 ⟨a, H2, eu, _, I2, q⟩ => by subst eu; exact ⟨.ref a, H2, I2, rfl, q⟩
theorem raise_at {M : Model} {A : Around} {E : Value → Shared → Prop} {x : Sem Value} {Q : Flow → Shared → Prop} {env : Env} {K : PySem.W.Frag} (xc : XCls K C bm) (hh : A.handled = none)
    (h : wpAny M A x (fun v s₁ => ∃ a D t, v = .ref a ∧ K.In s₁.heap ∧ s₁.heap.get? a = some { cls := .ref C, dict := some D, data := .fields #[.ref t, .none, .none, .none, .bool false, .none] } ∧ E (.ref a) s₁) E s) : wpAny M A (raiseStmt env (some x) none) Q E s := by
  unfold raiseStmt
  refine wpAny_bind (wpAny_mono h (fun v s₁ z => ?_) fun _ _ z => z)
  obtain ⟨a, D, t, rfl, X, he, hE⟩ := z
  obtain ⟨N, nm, q1, bs1, hdct, sn, sub, ab, col, dd, k0, k1, k2, k3, k5, mN, c1, c2, c3, c4⟩ := xc.obj X
  have cB : (Value.ref C :: bm).contains (.type "BaseException") = true := by rw [List.contains_cons, show bm.contains (Value.type "BaseException") = true from c4.hasType (by rfl), Bool.or_true]
  obtain ⟨hp, g, d, tk, os⟩ := s₁
  repeat (first | with_reducible refine wpAny_loadPart_at he ?_ | with_reducible refine wpAny_loadPart_at c1 ?_ | (with_reducible refine wpAny_isSubtype_exc c1 ?_; rw [cB]) | wp_step)
  exact wpAny_raiseNew_none hh hE
theorem ps_raiseX (hX : Throws X E) (hc : X.calm = true) (xi : XI X.K C f bm fn) (F : FnOk X.prog X.w X.K X.mg X.base CX0 k f fd ps sp) (hr : Room (k + 1) X.A) (hg : Gl X x) (hm : X.mg x = some (.ref C)) (hb : Binds X.K fd ps []) (ha : PA X (e :: es) t) (hex : X.ex = [] := by rfl)
    (hdb : (x == ("__debug__" : Str)) = false := by decide) (he : starEach (e :: es) X.env = (false, eval e X.env) :: starEach es X.env := by rfl) (hpl : (backTo cpos (starEach es X.env)).any (·.1) = false := by rfl) : PS X (.Raise (some (.Call (.Name x np) (e :: es) [] cpos)) none pos) (tRaiseX C sp E t) := by
  intro pins s σ H D I h
  rw [arm_exec_Raise]
  simp only [evalOpt, Option.map]
  refine wpAny_bind (wpAny_standAt (raise_at xi.toXCls (I.ok.hd hc) ?_))
  refine wpAny_bind (wpAny_mono (ev_makeX (Q := fun a H2 => ∃ D, H2 a = some (ExcD a C D) ∧ E (.ref C) (some D) (del H2 a)) xi F hr hg hm hb ha hex hdb he hpl I h) (fun u s1 z => ?_) fun _ _ z => z)
  obtain ⟨a, H2, rfl, n0, I2, Dd, e2, q⟩ := z
  refine wpAny_bind (wpAny_standAt (wpAny_pure ?_))
  obtain ⟨⟨t, he2⟩, _⟩ := I2.hok a _ e2
  exact ⟨a, Dd, t, rfl, I2.kIn, he2, hX _ _ _ _ _ _ _ (I2.drop e2) del_at ⟨_, _, ⟨he2, rfl, rfl, rfl⟩, rfl⟩ n0 q⟩
theorem ps_fldX (xi : XI X.K C f bm fn) (hB : typeLookup (.type "ValueError") fn = pure none) (ha : PE X o ta) (hv : PE X value tv) (hs : swapsWith value (some (.Attribute o fn pos')) pos.line X.env = pure false) : PS X (.Assign [.Attribute o fn pos'] value pos) (sFldX C fn ta tv) := by
  intro pins s σ H D I h
  refine plainObj_wpAny_Assign_Attribute (thn (hv pins s σ H _ I h) fun u s1 ⟨y, H1, I1, ry, q⟩ => thn (ha pins s1 σ H1 _ I1 q) fun ov s2 ⟨x, H2, I2, rx, a, ex, ea, q2⟩ => ?_) hs
  subst ex
  obtain rfl : ov = Value.ref a := rx
  obtain ⟨⟨t, he⟩, _⟩ := I2.hok a _ ea
  obtain ⟨hh, g, d, tk, os⟩ := s2
  have na : hh.objs.size ≠ a := Nat.ne_of_gt (Heap.lt_size he)
  have fr : H2 hh.objs.size = none := I2.hok.fresh (Nat.le_refl _)
  refine set_new xi I2.kIn hB he rfl rfl rfl fun h' tk' z1 z2 z3 => ?_
  have I3 := I2.write (x := a) (e := a) (o := ExcD a C hh.objs.size) (h' := h') (t' := tk') (by rw [ea]; exact True.intro) (.inl rfl) z2 ⟨_, z1⟩ ⟨⟨t, z1⟩, ⟨_, z1⟩, fun h1 h2 ⟨t, z⟩ k => ⟨t, k _ z⟩⟩
  have ne : ∀ b o, hh.get? b = some o → b ≠ hh.objs.size := fun b o z => Nat.ne_of_lt (Heap.lt_size z)
  have n0 : X.s₀.heap.get? hh.objs.size = none := Heap.get?_none_of_le I2.sz
  have I4 := I3.track (x := hh.objs.size) (o := .xd [(fn, y)]) n0 (by rw [upd_ne na]; exact fr) (by
      obtain ⟨_, ⟨o, _, _, z, _⟩, _⟩ := I2.loc
      exact (ne _ o z).symm) (fun y c z => by
      obtain ⟨_, o, z, _⟩ := I2.cell y c z
      exact ne _ o z) (fun p hp => ne _ _ (I2.pin p hp).1) ⟨_, z3, fun g => by
      by_cases z : g = fn
      · subst z
        rw [List.lookup_cons_self]
        show RelO (some y) (if g = g then some u else none)
        rw [if_pos rfl]
        exact ry
      · rw [List.lookup_cons, show (g == fn) = false by simpa using z]
        show RelO none (if g = fn then some u else none)
        rw [if_neg z]
        exact True.intro⟩
  exact ⟨σ, _, I4, q2 _ fr na⟩
theorem pe_fldX (xi : XI X.K C f bm fn) (hB : typeLookup (.type "ValueError") fn = pure none) (he : PE X e ta) (hb : attributeBase e fn X.env (eval e X.env) = eval e X.env) : PE X (.Attribute e fn pos) (tFldX C fn ta) := by
  intro pins s σ H Q I h
  refine attr_of hb (thn (he pins s σ H _ I h) fun u s1 ⟨x, H1, I1, rx, a, D, v, ex, ea, eD, q⟩ => ?_)
  subst ex
  obtain rfl : u = Value.ref a := rx
  obtain ⟨oe, ws, e1, e2, e3, e4⟩ : ∃ oe ws, s1.heap.get? a = some oe ∧ oe.cls = .ref C ∧ oe.data = .fields ws ∧ oe.dict = some D := by
    rcases ea with ea | ea
    · obtain ⟨⟨t, z⟩, _⟩ := I1.hok a _ ea
      exact ⟨_, _, z, rfl, rfl, rfl⟩
    · obtain ⟨z, _⟩ := I1.hok a _ ea
      exact z
  obtain ⟨mA, n1, r⟩ := I1.hok D _ eD
  obtain ⟨uv, hu, ru⟩ := RelO.some_of (v := v) (o := mA fn) (by have := r fn; simpa [List.lookup] using this)
  obtain ⟨hh, g, d, tk, os⟩ := s1
  exact get_fld xi I1.kIn hB e1 e2 e4 e3 n1 hu (PySem.W.handedOut_of (handed_of ru)) ⟨v, H1, I1.tok _, ru, q⟩
end
section
variable {C a D f : Addr} {sp : Sp} {E : XK} {t : TA} {ta tv : TE} {D0 : Ends} {σ : St} {H : Hp} {Q : VK} {fn : Str} {v : V}
theorem e_raiseX : tRaiseX C sp E t D0 σ H = t σ H fun vs H1 => vs.length ≤ 100 ∧ ∀ a, H1 a = none → sp (.ref a :: vs) (upd H1 a (ExcN a C)) (fun v H2 => v = .non ∧ ∃ D, H2 a = some (ExcD a C D) ∧ E (.ref C) (some D) (del H2 a)) E0 := rfl
theorem e_makeX : tMakeX C sp t σ H Q = t σ H fun vs H1 => vs.length ≤ 100 ∧ ∀ a, H1 a = none → sp (.ref a :: vs) (upd H1 a (ExcN a C)) (fun v H2 => v = .non ∧ Q (.ref a) H2) E0 := rfl
theorem e_sFldX : sFldX C fn ta tv D0 σ H = tv σ H fun y H1 => ta σ H1 fun x H2 => ∃ a, x = .ref a ∧ H2 a = some (ExcN a C) ∧ ∀ d, H2 d = none → d ≠ a → D0.nx σ (upd (upd H2 a (ExcD a C d)) d (.xd [(fn, y)])) := rfl
theorem e_tFldX : tFldX C fn ta σ H Q = ta σ H fun x H1 => ∃ a D v, x = .ref a ∧ (H1 a = some (ExcD a C D) ∨ H1 a = some (ExcO a C (some D))) ∧ H1 D = some (.xd [(fn, v)]) ∧ Q v H1 := rfl
theorem e_tryE {j : Nat} {ts : TS} : tTryE sp [] t j C ts D0 σ H = t σ H fun vs H1 => sp vs H1 (fun _ H2 => D0.nx σ H2) fun cls od H2 => cls = .ref C ∧ ∀ x, H2 x = none → ts (sEnds D0 j) (σ.set j (some (.ref x))) (upd H2 x (ExcO x C od)) := by simp only [tTryE, List.append_nil]
theorem xi_mk {K : PySem.W.Frag} {bm : List Value} (q : XQ K C bm) (a : PySem.W.findIn K (.ref C) "__init__" = some (some (.ref f))) (b : PySem.W.isFn K (.ref f) = true) (c : (PySem.W.clsIn K C).map (·.hasDict) = some true) (d : quietIn K "__setattr__" (.ref C :: bm) = true) (e : quietIn K fn (.ref C :: bm) = true) (g : PySem.W.keepIn K (.ref C) = true) : XI K C f bm fn := ⟨q, a, b, c, d, e, g⟩
end
end L2
namespace L2
open PySem PySem.Spec PyProof.Rows
/-- a text told k times -/
noncomputable def repS (z : Str) (k : Nat) : Str := ⟨(List.replicate k z.cps).foldl (· ++ ·) #[]⟩
theorem foldl_size (c : Array Nat) : ∀ (n : Nat) (a : Array Nat), ((List.replicate n c).foldl (· ++ ·) a).size = a.size + c.size * n
  | 0, a => by simp
  | n + 1, a => by
    rw [List.replicate_succ, List.foldl_cons, foldl_size c n, Array.size_append, Nat.mul_succ]
    omega
theorem repS_len (z : Str) (k : Nat) : (repS z k).length = z.length * k := by
  show ((List.replicate k z.cps).foldl (· ++ ·) #[]).size = z.cps.size * k
  rw [foldl_size]
  exact Nat.zero_add _
theorem foldl_mem (c : Array Nat) (x : Nat) : ∀ (n : Nat) (a : Array Nat), x ∈ ((List.replicate n c).foldl (· ++ ·) a).toList → x ∈ a.toList ∨ x ∈ c.toList
  | 0, a, h => .inl (by simpa using h)
  | n + 1, a, h => by
    rw [List.replicate_succ, List.foldl_cons] at h
    rcases foldl_mem c x n _ h with h | h
    · rw [Array.toList_append] at h
      exact List.mem_append.mp h
    · exact .inr h
theorem repS_mem {z : Str} {k x : Nat} (h : x ∈ (repS z k).cps.toList) : x ∈ z.cps.toList := by
  rcases foldl_mem z.cps x k #[] h with h | h
  · cases h
  · exact h
noncomputable def cSrepE : R2 := fun x y H Q => match x with
  | .str z => onInt y fun k => 2 ≤ k ∧ k ≤ 2000 ∧ 1 ≤ z.length ∧ z.length ≤ 10 ∧ Q (.str (repS z k.toNat)) H
  | _ => False
theorem op_srepE {X : Cx} : OpR X (binaryOp .Mult) cSrepE := fun pins s σ H x y v u Q I rx ry h => by
  cases x with
  | str z =>
    obtain ⟨k, rfl, h2, h3, h4, h5, q⟩ := onInt_of h
    obtain ⟨t, rfl⟩ := rx
    obtain ⟨t', rfl⟩ := ry
    obtain ⟨n, rfl⟩ : ∃ n : Nat, k = (n : Int) := ⟨k.toNat, by omega⟩
    rw [Int.toNat_natCast] at q
    have n2 : ((n : Int) == 1 || z.length == 0) = false := by
      rw [Bool.or_eq_false_iff, beq_eq_false_iff_ne, beq_eq_false_iff_ne]
      exact ⟨by omega, by omega⟩
    have hm : z.length * n ≤ 10 * 2000 := Nat.mul_le_mul h5 (by omega)
    have hp : (2 : Int) ^ 63 = 9223372036854775808 := by decide
    have sl : 10 * 2000 ≤ sizeLine := by decide
    refine P.mul_str (by rw [hp, decide_eq_false (by omega), decide_eq_false (by omega)]; rfl) (fun _ _ => ?_) (fun _ _ => ?_) ?_
    · have : (4611686018427387 : Int) ≤ (2 ^ 63 - 1) / (n : Int) := by
        rw [hp]
        exact (Int.le_ediv_iff_mul_le (by omega)).mpr (by omega)
      omega
    · rw [Int.toNat_natCast]
      exact decide_eq_false (show ¬ z.length * n > sizeLine by omega)
    · rw [if_neg (show ¬ (n : Int) < 1 by omega), if_neg (by rw [n2]; decide), Int.toNat_natCast]
      have hz := repS_len z n
      exact ⟨by show (repS z n).length ≤ sizeLine; rw [hz]; omega, .str _, H, I.tok _, ⟨_, rfl⟩, q⟩
  | _ => exact False.elim h
theorem e_srepE {z : Str} {k : Int} {H : Hp} {Q : VK} : cSrepE (.str z) (.int k) H Q = (2 ≤ k ∧ k ≤ 2000 ∧ 1 ≤ z.length ∧ z.length ≤ 10 ∧ Q (.str (repS z k.toNat)) H) := rfl
end L2
namespace Own
open PySem L2
seal PE PA PT PW PS PSs PI PG PGs PTs PO PPs
noncomputable def top (i : Nat) : Stmt := PySem.Challenge.pw_outlast_k25_lines_that_are_none.main.body.getD i (.Pass ⟨0, 0, 0, 0⟩)
noncomputable abbrev s_NoLoginit : Stmt := inClass (top 3) 0
noncomputable abbrev s_isnumberword : Stmt := top 11
noncomputable abbrev s_isfigure : Stmt := top 12
noncomputable abbrev s_issmallletter : Stmt := top 18
noncomputable abbrev s_isname : Stmt := top 19
noncomputable abbrev s_readrows : Stmt := top 22
noncomputable abbrev s_isrow : Stmt := top 23
noncomputable abbrev s_iswordof : Stmt := top 24
noncomputable abbrev s_rowof : Stmt := top 25
noncomputable abbrev s_thingof : Stmt := top 26
noncomputable abbrev s_readlog : Stmt := top 29
noncomputable abbrev s_lawjar : Stmt := top 32
noncomputable abbrev s_lawtake : Stmt := top 33
noncomputable abbrev s_lawworth : Stmt := top 34
noncomputable abbrev s_lawmoment : Stmt := top 35
noncomputable abbrev s_lawany : Stmt := top 37
noncomputable abbrev s_lawnumberword : Stmt := top 38
noncomputable abbrev s_lawline : Stmt := top 39
noncomputable abbrev s_lawnone : Stmt := top 40
noncomputable abbrev s_lawbent : Stmt := top 41
noncomputable abbrev s_lawodd : Stmt := top 42
noncomputable abbrev s_lawfield : Stmt := top 43
noncomputable abbrev s_law : Stmt := top 44
set_option genInjectivity false in
set_option genSizeOf false in
structure Ad where
  aNoLoginit : Addr
  dNoLoginit : FuncData
  aisnumberword : Addr
  disnumberword : FuncData
  aisfigure : Addr
  disfigure : FuncData
  aissmallletter : Addr
  dissmallletter : FuncData
  aisname : Addr
  disname : FuncData
  areadrows : Addr
  dreadrows : FuncData
  aisrow : Addr
  disrow : FuncData
  aiswordof : Addr
  diswordof : FuncData
  arowof : Addr
  drowof : FuncData
  athingof : Addr
  dthingof : FuncData
  areadlog : Addr
  dreadlog : FuncData
  alawjar : Addr
  dlawjar : FuncData
  alawtake : Addr
  dlawtake : FuncData
  alawworth : Addr
  dlawworth : FuncData
  alawmoment : Addr
  dlawmoment : FuncData
  alawany : Addr
  dlawany : FuncData
  alawnumberword : Addr
  dlawnumberword : FuncData
  alawline : Addr
  dlawline : FuncData
  alawnone : Addr
  dlawnone : FuncData
  alawbent : Addr
  dlawbent : FuncData
  alawodd : Addr
  dlawodd : FuncData
  alawfield : Addr
  dlawfield : FuncData
  alaw : Addr
  dlaw : FuncData
  kGREATESTWORTH : Tok
  kGREATESTMOMENT : Tok
  kLONGESTNAME : Tok
  kOWNWORDS : Addr
  kGREATESTTICKET : Tok
  kHAPPENINGS : Addr
  kHAPPENINGS0 : Addr
  kHAPPENINGS1 : Addr
  kHAPPENINGS2 : Addr
  XOutlastError : Addr
  XNoProgram : Addr
  XNoLog : Addr
  XNoState : Addr
  XNoRule : Addr
  XNoPolicy : Addr
  XNoLine : Addr
  XNoRun : Addr
  XNoCommand : Addr
structure Tx (w : World) (K : PySem.W.Frag) (mg : Str → Option Value) (t : Ad) : Prop where
  fNoLoginit : Fun K "__init__" "NoLog.__init__" s_NoLoginit t.aNoLoginit t.dNoLoginit
  bNoLoginit : Binds K t.dNoLoginit ["self", "line"] []
  fisnumberword : Fun K "is_number_word" "is_number_word" s_isnumberword t.aisnumberword t.disnumberword
  bisnumberword : Binds K t.disnumberword ["word", "least", "greatest"] []
  misnumberword : mg "is_number_word" = some (.ref t.aisnumberword)
  fisfigure : Fun K "is_figure" "is_figure" s_isfigure t.aisfigure t.disfigure
  bisfigure : Binds K t.disfigure ["sign"] []
  misfigure : mg "is_figure" = some (.ref t.aisfigure)
  fissmallletter : Fun K "is_small_letter" "is_small_letter" s_issmallletter t.aissmallletter t.dissmallletter
  bissmallletter : Binds K t.dissmallletter ["sign"] []
  missmallletter : mg "is_small_letter" = some (.ref t.aissmallletter)
  fisname : Fun K "is_name" "is_name" s_isname t.aisname t.disname
  bisname : Binds K t.disname ["thing"] []
  misname : mg "is_name" = some (.ref t.aisname)
  freadrows : Fun K "read_rows" "read_rows" s_readrows t.areadrows t.dreadrows
  breadrows : Binds K t.dreadrows ["text", "forms"] []
  mreadrows : mg "read_rows" = some (.ref t.areadrows)
  fisrow : Fun K "is_row" "is_row" s_isrow t.aisrow t.disrow
  bisrow : Binds K t.disrow ["words", "kinds"] []
  misrow : mg "is_row" = some (.ref t.aisrow)
  fiswordof : Fun K "is_word_of" "is_word_of" s_iswordof t.aiswordof t.diswordof
  biswordof : Binds K t.diswordof ["kind", "word"] []
  miswordof : mg "is_word_of" = some (.ref t.aiswordof)
  frowof : Fun K "row_of" "row_of" s_rowof t.arowof t.drowof
  browof : Binds K t.drowof ["words", "kinds"] []
  mrowof : mg "row_of" = some (.ref t.arowof)
  fthingof : Fun K "thing_of" "thing_of" s_thingof t.athingof t.dthingof
  bthingof : Binds K t.dthingof ["kind", "word"] []
  mthingof : mg "thing_of" = some (.ref t.athingof)
  freadlog : Fun K "read_log" "read_log" s_readlog t.areadlog t.dreadlog
  breadlog : Binds K t.dreadlog ["text"] []
  mreadlog : mg "read_log" = some (.ref t.areadlog)
  flawjar : Fun K "_law_jar" "_law_jar" s_lawjar t.alawjar t.dlawjar
  blawjar : Binds K t.dlawjar ["cell"] []
  mlawjar : mg "_law_jar" = some (.ref t.alawjar)
  flawtake : Fun K "_law_take" "_law_take" s_lawtake t.alawtake t.dlawtake
  blawtake : Binds K t.dlawtake ["jar", "many"] []
  mlawtake : mg "_law_take" = some (.ref t.alawtake)
  flawworth : Fun K "_law_worth" "_law_worth" s_lawworth t.alawworth t.dlawworth
  blawworth : Binds K t.dlawworth ["jar"] []
  mlawworth : mg "_law_worth" = some (.ref t.alawworth)
  flawmoment : Fun K "_law_moment" "_law_moment" s_lawmoment t.alawmoment t.dlawmoment
  blawmoment : Binds K t.dlawmoment ["jar"] []
  mlawmoment : mg "_law_moment" = some (.ref t.alawmoment)
  flawany : Fun K "_law_any" "_law_any" s_lawany t.alawany t.dlawany
  blawany : Binds K t.dlawany ["jar"] []
  mlawany : mg "_law_any" = some (.ref t.alawany)
  flawnumberword : Fun K "_law_number_word" "_law_number_word" s_lawnumberword t.alawnumberword t.dlawnumberword
  blawnumberword : Binds K t.dlawnumberword ["worth"] []
  mlawnumberword : mg "_law_number_word" = some (.ref t.alawnumberword)
  flawline : Fun K "_law_line" "_law_line" s_lawline t.alawline t.dlawline
  blawline : Binds K t.dlawline ["happening"] []
  mlawline : mg "_law_line" = some (.ref t.alawline)
  flawnone : Fun K "_law_none" "_law_none" s_lawnone t.alawnone t.dlawnone
  blawnone : Binds K t.dlawnone ["x"] []
  mlawnone : mg "_law_none" = some (.ref t.alawnone)
  flawbent : Fun K "_law_bent" "_law_bent" s_lawbent t.alawbent t.dlawbent
  blawbent : Binds K t.dlawbent ["jar"] []
  mlawbent : mg "_law_bent" = some (.ref t.alawbent)
  flawodd : Fun K "_law_odd" "_law_odd" s_lawodd t.alawodd t.dlawodd
  blawodd : Binds K t.dlawodd ["jar"] []
  mlawodd : mg "_law_odd" = some (.ref t.alawodd)
  flawfield : Fun K "_law_field" "_law_field" s_lawfield t.alawfield t.dlawfield
  blawfield : Binds K t.dlawfield ["text"] []
  mlawfield : mg "_law_field" = some (.ref t.alawfield)
  flaw : Fun K "law" "law" s_law t.alaw t.dlaw
  blaw : Binds K t.dlaw ["script"] []
  mlaw : mg "law" = some (.ref t.alaw)
  cGREATESTWORTH : mg "GREATEST_WORTH" = some (.int 1000000000 t.kGREATESTWORTH)
  cGREATESTMOMENT : mg "GREATEST_MOMENT" = some (.int 1000000000000 t.kGREATESTMOMENT)
  cLONGESTNAME : mg "LONGEST_NAME" = some (.int 6 t.kLONGESTNAME)
  cOWNWORDS : mg "OWN_WORDS" = some (.ref t.kOWNWORDS)
  qOWNWORDS : ∀ H : Hp, SqT K H t.kOWNWORDS [.str "order", .str "timer", .str "child", .str "send", .str "drop", .str "wait", .str "hear", .str "if", .str "else", .str "done", .str "while", .str "end", .str "none", .str "arg", .str "now", .str "answer", .str "not"]
  cGREATESTTICKET : mg "GREATEST_TICKET" = some (.int 1000000000 t.kGREATESTTICKET)
  cHAPPENINGS : mg "HAPPENINGS" = some (.ref t.kHAPPENINGS)
  mtHAPPENINGS : ModT w.params K t.kHAPPENINGS [(.inr "begin", .ref t.kHAPPENINGS0), (.inr "done", .ref t.kHAPPENINGS1), (.inr "letter", .ref t.kHAPPENINGS2)]
  qHAPPENINGS0 : ∀ H : Hp, SqT K H t.kHAPPENINGS0 [.str "moment", .str "worth"]
  qHAPPENINGS1 : ∀ H : Hp, SqT K H t.kHAPPENINGS1 [.str "moment", .str "ticket", .str "worth"]
  qHAPPENINGS2 : ∀ H : Hp, SqT K H t.kHAPPENINGS2 [.str "moment", .str "name", .str "worth"]
  mXOutlastError : mg "OutlastError" = some (.ref t.XOutlastError)
  yOutlastError : clsK K t.XOutlastError = true
  xOutlastError : XQ K t.XOutlastError (vErr)
  mXNoProgram : mg "NoProgram" = some (.ref t.XNoProgram)
  yNoProgram : clsK K t.XNoProgram = true
  xNoProgram : XQ K t.XNoProgram (.ref t.XOutlastError :: vErr)
  mXNoLog : mg "NoLog" = some (.ref t.XNoLog)
  yNoLog : clsK K t.XNoLog = true
  xNoLog : XI K t.XNoLog t.aNoLoginit (.ref t.XOutlastError :: vErr) "line"
  mXNoState : mg "NoState" = some (.ref t.XNoState)
  yNoState : clsK K t.XNoState = true
  xNoState : XQ K t.XNoState (.ref t.XOutlastError :: vErr)
  mXNoRule : mg "NoRule" = some (.ref t.XNoRule)
  yNoRule : clsK K t.XNoRule = true
  xNoRule : XQ K t.XNoRule (.ref t.XOutlastError :: vErr)
  mXNoPolicy : mg "NoPolicy" = some (.ref t.XNoPolicy)
  yNoPolicy : clsK K t.XNoPolicy = true
  xNoPolicy : XQ K t.XNoPolicy (.ref t.XOutlastError :: vErr)
  mXNoLine : mg "NoLine" = some (.ref t.XNoLine)
  yNoLine : clsK K t.XNoLine = true
  xNoLine : XQ K t.XNoLine (.ref t.XOutlastError :: vErr)
  mXNoRun : mg "NoRun" = some (.ref t.XNoRun)
  yNoRun : clsK K t.XNoRun = true
  xNoRun : XQ K t.XNoRun (.ref t.XOutlastError :: vErr)
  mXNoCommand : mg "NoCommand" = some (.ref t.XNoCommand)
  yNoCommand : clsK K t.XNoCommand = true
  xNoCommand : XQ K t.XNoCommand (.ref t.XOutlastError :: vErr)
  xne : (t.XNoLog ≠ t.XNoProgram ∧ t.XOutlastError ≠ t.XNoProgram) ∧ (t.XNoLog ≠ t.XNoState ∧ t.XOutlastError ≠ t.XNoState) ∧ (t.XNoLog ≠ t.XNoRule ∧ t.XOutlastError ≠ t.XNoRule) ∧ (t.XNoLog ≠ t.XNoPolicy ∧ t.XOutlastError ≠ t.XNoPolicy) ∧ (t.XNoLog ≠ t.XNoLine ∧ t.XOutlastError ≠ t.XNoLine) ∧ (t.XNoLog ≠ t.XNoRun ∧ t.XOutlastError ≠ t.XNoRun) ∧ (t.XNoLog ≠ t.XNoCommand ∧ t.XOutlastError ≠ t.XNoCommand)
  zValueError : mg "ValueError" = none
  zall : mg "all" = none
  zbool : mg "bool" = none
  zdict : mg "dict" = none
  zenumerate : mg "enumerate" = none
  zint : mg "int" = none
  zisinstance : mg "isinstance" = none
  zlen : mg "len" = none
  zmax : mg "max" = none
  zrange : mg "range" = none
  zstr : mg "str" = none
  ztuple : mg "tuple" = none
  zzip : mg "zip" = none
theorem sc_NoLoginit : FnScope ["self", "line"] ["self", "line"] (defScope s_NoLoginit) := ⟨rfl, rfl, rfl, by decide +kernel, rfl, by decide +kernel, by decide +kernel⟩
theorem sc_isnumberword : FnScope ["word", "least", "greatest", "figures"] ["word", "least", "greatest"] (defScope s_isnumberword) := ⟨rfl, rfl, rfl, by decide +kernel, rfl, by decide +kernel, by decide +kernel⟩
theorem sc_isfigure : FnScope ["sign"] ["sign"] (defScope s_isfigure) := ⟨rfl, rfl, rfl, by decide +kernel, rfl, by decide +kernel, by decide +kernel⟩
theorem sc_issmallletter : FnScope ["sign"] ["sign"] (defScope s_issmallletter) := ⟨rfl, rfl, rfl, by decide +kernel, rfl, by decide +kernel, by decide +kernel⟩
theorem sc_isname : FnScope ["thing"] ["thing"] (defScope s_isname) := ⟨rfl, rfl, rfl, by decide +kernel, rfl, by decide +kernel, by decide +kernel⟩
theorem sc_readrows : FnScope ["text", "forms", "rows", "number", "line", "words", "kinds"] ["text", "forms"] (defScope s_readrows) := ⟨rfl, rfl, rfl, by decide +kernel, rfl, by decide +kernel, by decide +kernel⟩
theorem sc_isrow : FnScope ["words", "kinds"] ["words", "kinds"] (defScope s_isrow) := ⟨rfl, rfl, rfl, by decide +kernel, rfl, by decide +kernel, by decide +kernel⟩
theorem sc_iswordof : FnScope ["kind", "word"] ["kind", "word"] (defScope s_iswordof) := ⟨rfl, rfl, rfl, by decide +kernel, rfl, by decide +kernel, by decide +kernel⟩
theorem sc_rowof : FnScope ["words", "kinds"] ["words", "kinds"] (defScope s_rowof) := ⟨rfl, rfl, rfl, by decide +kernel, rfl, by decide +kernel, by decide +kernel⟩
theorem sc_thingof : FnScope ["kind", "word"] ["kind", "word"] (defScope s_thingof) := ⟨rfl, rfl, rfl, by decide +kernel, rfl, by decide +kernel, by decide +kernel⟩
theorem sc_readlog : FnScope ["text"] ["text"] (defScope s_readlog) := ⟨rfl, rfl, rfl, by decide +kernel, rfl, by decide +kernel, by decide +kernel⟩
theorem sc_lawjar : FnScope ["cell", "low"] ["cell"] (defScope s_lawjar) := ⟨rfl, rfl, rfl, by decide +kernel, rfl, by decide +kernel, by decide +kernel⟩
theorem sc_lawtake : FnScope ["jar", "many", "got"] ["jar", "many"] (defScope s_lawtake) := ⟨rfl, rfl, rfl, by decide +kernel, rfl, by decide +kernel, by decide +kernel⟩
theorem sc_lawworth : FnScope ["jar", "far"] ["jar"] (defScope s_lawworth) := ⟨rfl, rfl, rfl, by decide +kernel, rfl, by decide +kernel, by decide +kernel⟩
theorem sc_lawmoment : FnScope ["jar"] ["jar"] (defScope s_lawmoment) := ⟨rfl, rfl, rfl, by decide +kernel, rfl, by decide +kernel, by decide +kernel⟩
theorem sc_lawany : FnScope ["jar", "letters", "key", "kind", "ticket"] ["jar"] (defScope s_lawany) := ⟨rfl, rfl, rfl, by decide +kernel, rfl, by decide +kernel, by decide +kernel⟩
theorem sc_lawnumberword : FnScope ["worth"] ["worth"] (defScope s_lawnumberword) := ⟨rfl, rfl, rfl, by decide +kernel, rfl, by decide +kernel, by decide +kernel⟩
theorem sc_lawline : FnScope ["happening", "words"] ["happening"] (defScope s_lawline) := ⟨rfl, rfl, rfl, by decide +kernel, rfl, by decide +kernel, by decide +kernel⟩
theorem sc_lawnone : FnScope ["x", "some"] ["x"] (defScope s_lawnone) := ⟨rfl, rfl, rfl, by decide +kernel, rfl, by decide +kernel, by decide +kernel⟩
theorem sc_lawbent : FnScope ["jar", "words", "at", "bad"] ["jar"] (defScope s_lawbent) := ⟨rfl, rfl, rfl, by decide +kernel, rfl, by decide +kernel, by decide +kernel⟩
theorem sc_lawodd : FnScope ["jar"] ["jar"] (defScope s_lawodd) := ⟨rfl, rfl, rfl, by decide +kernel, rfl, by decide +kernel, by decide +kernel⟩
theorem sc_lawfield : FnScope ["text", "kinds", "line", "e"] ["text"] (defScope s_lawfield) := ⟨rfl, rfl, rfl, by decide +kernel, rfl, by decide +kernel, by decide +kernel⟩
theorem sc_law : FnScope ["script", "cell", "lines", "jar", "at", "bad"] ["script"] (defScope s_law) := ⟨rfl, rfl, rfl, by decide +kernel, rfl, by decide +kernel, by decide +kernel⟩

theorem w_K {CX : CXT} {P : Program} {w : World} {K : PySem.W.Frag} {mg : Str → Option Value} {base : Heap} {N : List Str} {q : Str} {sc : Scope} {f : Addr} {cd : Value} {A : Around} {o : List Env} {s : Shared} {H : Hp} {E : XK} : (cxOf CX P w K mg base N q sc f cd A o s H E).K = K := rfl
theorem w_Kn {CX : CXT} {P : Program} {w : World} {K : PySem.W.Frag} {mg : Str → Option Value} {base : Heap} {N : List Str} {q : Str} {sc : Scope} {f : Addr} {cd : Value} {A : Around} {o : List Env} {s : Shared} {H : Hp} {E : XK} : (cxOf CX P w K mg base N q sc f cd A o s H E).nox.K = K := rfl
theorem small {n : Nat} (h : n ≤ 1000) : n ≤ sizeLine := Nat.le_of_lt (small1000 h)
theorem mulOk {i j : Int} (h0 : -(2 ^ 64) < i) (h1 : i < 2 ^ 64) : CMul i j := .inl ⟨h0, h1⟩
/-- None or a whole number, as a worth -/
noncomputable abbrev Wo := Option Int
noncomputable def wv : Wo → V
  | none => .non
  | some n => .int n
noncomputable def isWo (w : Wo) : Prop := ∀ n, w = some n → -1000000000 ≤ n ∧ n ≤ 1000000000
theorem isWo_non : isWo none := fun _ h => nomatch h
theorem isWo_int {n : Int} (h0 : -1000000000 ≤ n) (h1 : n ≤ 1000000000) : isWo (some n) := fun m h => by cases h; exact ⟨h0, h1⟩
noncomputable def ownW : List V := [.str "order", .str "timer", .str "child", .str "send", .str "drop", .str "wait", .str "hear", .str "if", .str "else", .str "done", .str "while", .str "end", .str "none", .str "arg", .str "now", .str "answer", .str "not"]
noncomputable def nmOk (x : Str) : Prop := (decide (1 ≤ x.length) && (decide (x.length ≤ 6) && (x.cps.toList.all (fun c => decide (97 ≤ c) && decide (c ≤ 122)) && !inV (.str x) ownW))) = true
theorem nmOk.len {x : Str} (h : nmOk x) : x.length ≤ 20 := by
  unfold nmOk at h
  simp only [Bool.and_eq_true, decide_eq_true_eq] at h
  omega

/-- a jar of draws stands at r -/
structure JarAt (H : Hp) (r : Addr) : Prop where
  ex : ∃ c f : Int, H r = some (.lst [.int c, .int f]) ∧ (f = 0 ∨ (0 ≤ c ∧ c < 982451653))
theorem JarAt.kp {S : List Addr} {H H' : Hp} {r : Addr} (R : JarAt H r) (h : Kp S H H') (n : r ∉ S := by first | exact List.not_mem_nil | simp_all) : JarAt H' r := by
  obtain ⟨c, f, e, x⟩ := R
  exact ⟨c, f, h _ _ e n, x⟩
theorem JarAt.new {H : Hp} {r p : Addr} {o : HO} (R : JarAt H r) (h : H p = none) : JarAt (upd H p o) r := R.kp (S := []) (Kp.new h)
theorem JarAt.none {H : Hp} {r p : Addr} (R : JarAt H r) (h : H p = Option.none) : p ≠ r := by
  obtain ⟨c, f, e, _⟩ := R
  exact (ne_of_none e h).symm
theorem _root_.L2.Kp.madeJ {r p : Addr} {H H' : Hp} {o : HO} (x : Kp [r] (upd H p o) H') (R : JarAt H r) (h : H p = Option.none) : H' p = some o := x.at1 upd_same (R.none h)
noncomputable def spJar : Sp := fun vs H Q _ => ∃ c : Int, vs = [.int c] ∧ ∀ (r : Addr) (H' : Hp), H r = none → Kp [] H H' → JarAt H' r → Q (.ref r) H'
theorem q_jar {c : Int} {H : Hp} {Q : VK} {E : XK} : spJar [.int c] H Q E = ∀ (r : Addr) (H' : Hp), H r = none → Kp [] H H' → JarAt H' r → Q (.ref r) H' := propext ⟨fun ⟨_, e, h⟩ => by cases e; exact h, fun h => ⟨_, rfl, h⟩⟩
noncomputable def spTake : Sp := fun vs H Q _ => ∃ (r : Addr) (m : Int), vs = [.ref r, .int m] ∧ 0 < m ∧ m ≤ 10 ^ 45 ∧ JarAt H r ∧
  ∀ (g : Int) (H' : Hp), 0 ≤ g → g < m → JarAt H' r → Kp [r] H H' → Q (.int g) H'
theorem q_jtake {r : Addr} {m : Int} {H : Hp} {Q : VK} {E : XK} : spTake [.ref r, .int m] H Q E = (0 < m ∧ m ≤ 10 ^ 45 ∧ JarAt H r ∧ ∀ (g : Int) (H' : Hp), 0 ≤ g → g < m → JarAt H' r → Kp [r] H H' → Q (.int g) H') :=
  propext ⟨fun ⟨_, _, e, h⟩ => by cases e; exact h, fun h => ⟨_, _, rfl, h⟩⟩
theorem e_cpowJ : CPow 86028157 2 = True := eq_true ⟨by decide, by decide, by decide⟩
noncomputable def spJWorth : Sp := fun vs H Q _ => ∃ r : Addr, vs = [.ref r] ∧ JarAt H r ∧ ∀ (w : Wo) (H' : Hp), isWo w → JarAt H' r → Kp [r] H H' → Q (wv w) H'
theorem q_jworth {r : Addr} {H : Hp} {Q : VK} {E : XK} : spJWorth [.ref r] H Q E = (JarAt H r ∧ ∀ (w : Wo) (H' : Hp), isWo w → JarAt H' r → Kp [r] H H' → Q (wv w) H') :=
  propext ⟨fun ⟨_, e, h⟩ => by cases e; exact h, fun h => ⟨_, rfl, h⟩⟩
noncomputable def spJMoment : Sp := fun vs H Q _ => ∃ r : Addr, vs = [.ref r] ∧ JarAt H r ∧ ∀ (m : Int) (H' : Hp), 0 ≤ m → m ≤ 1000000000000 → JarAt H' r → Kp [r] H H' → Q (.int m) H'
theorem q_jmoment {r : Addr} {H : Hp} {Q : VK} {E : XK} : spJMoment [.ref r] H Q E = (JarAt H r ∧ ∀ (m : Int) (H' : Hp), 0 ≤ m → m ≤ 1000000000000 → JarAt H' r → Kp [r] H H' → Q (.int m) H') :=
  propext ⟨fun ⟨_, e, h⟩ => by cases e; exact h, fun h => ⟨_, rfl, h⟩⟩

theorem str_len (a b : Str) : (a ++ b).length = a.length + b.length := by
  show (a.cps ++ b.cps).size = _
  rw [Array.size_append]
  rfl
/-- happenings -/
inductive Hap where
  | beg (m : Int) (w : Wo) | don (m t : Int) (w : Wo) | ltr (m : Int) (k : Str) (w : Wo)
noncomputable def Hap.ini : Hap → List V
  | .beg m _ => [.str "begin", .int m]
  | .don m t _ => [.str "done", .int m, .int t]
  | .ltr m k _ => [.str "letter", .int m, .str k]
noncomputable def Hap.w : Hap → Wo
  | .beg _ w | .don _ _ w | .ltr _ _ w => w
noncomputable def Hap.vs (h : Hap) : List V := h.ini ++ [wv h.w]
noncomputable def Hap.m : Hap → Int
  | .beg m _ | .don m _ _ | .ltr m _ _ => m
noncomputable def Hap.ok : Hap → Prop
  | .beg m w => (0 ≤ m ∧ m ≤ 1000000000000) ∧ isWo w
  | .don m t w => (0 ≤ m ∧ m ≤ 1000000000000) ∧ (0 ≤ t ∧ t ≤ 1000000000) ∧ isWo w
  | .ltr m k w => (0 ≤ m ∧ m ≤ 1000000000000) ∧ nmOk k ∧ isWo w
noncomputable def HapAt (H : Hp) (v : V) (h : Hap) : Prop := ∃ a, v = .ref a ∧ H a = some (.tup h.vs)
theorem HapAt.kp {S : List Addr} {H H' : Hp} {v : V} {h : Hap} (x : HapAt H v h) (k : Kp [] H H') : HapAt H' v h := by
  obtain ⟨a, e, f⟩ := x
  exact ⟨a, e, k.at f⟩
inductive HapsAt (H : Hp) : List V → List Hap → Prop
  | nil : HapsAt H [] []
  | cons {v : V} {vs : List V} {h : Hap} {hs : List Hap} : HapAt H v h → HapsAt H vs hs → HapsAt H (v :: vs) (h :: hs)
theorem HapsAt.at {H : Hp} {vs : List V} {hs : List Hap} (x : HapsAt H vs hs) : ∀ {i : Nat} {v : V}, vs[i]? = some v → ∃ h, hs[i]? = some h ∧ HapAt H v h := by
  induction x with
  | nil => intro i x e; simp at e
  | cons a _ ih =>
    intro i x e
    cases i with
    | zero => simp only [List.getElem?_cons_zero, Option.some.injEq] at e; subst e; exact ⟨_, rfl, a⟩
    | succ i => exact ih (by simpa using e)
theorem HapsAt.len {H : Hp} {vs : List V} {hs : List Hap} (x : HapsAt H vs hs) : hs.length = vs.length := by
  induction x with
  | nil => rfl
  | cons _ _ ih => simp [ih]
theorem HapsAt.kp {H H' : Hp} {vs : List V} {hs : List Hap} (x : HapsAt H vs hs) (k : Kp [] H H') : HapsAt H' vs hs := by
  induction x with
  | nil => exact .nil
  | cons a _ ih => exact .cons (a.kp (S := []) k) ih
theorem HapsAt.snoc {H : Hp} {vs : List V} {hs : List Hap} {v : V} {h : Hap} (x : HapsAt H vs hs) (a : HapAt H v h) : HapsAt H (vs ++ [v]) (hs ++ [h]) := by
  induction x with
  | nil => exact .cons a .nil
  | cons b _ ih => exact .cons b ih
theorem HapsAt.drop {H : Hp} : ∀ {vs : List V} {hs : List Hap} (n : Nat), HapsAt H vs hs → HapsAt H (vs.drop n) (hs.drop n)
  | _, _, 0, x => x
  | _, _, _ + 1, .nil => .nil
  | _, _, n + 1, .cons _ x => x.drop n
theorem HapsAt.take {H : Hp} : ∀ {vs : List V} {hs : List Hap} (n : Nat), HapsAt H vs hs → HapsAt H (vs.take n) (hs.take n)
  | _, _, 0, _ => .nil
  | _, _, _ + 1, .nil => .nil
  | _, _, n + 1, .cons a x => .cons a (x.take n)
noncomputable def cutH (n : Nat) (hs : List Hap) (lo hi : Option Int) : List Hap := (hs.drop (HT.sIx n 0 lo)).take (HT.sIx n n hi - HT.sIx n 0 lo)
theorem HapsAt.cut {H : Hp} {vs : List V} {hs : List Hap} (x : HapsAt H vs hs) (lo hi : Option Int) : HapsAt H (cutV vs lo hi) (cutH vs.length hs lo hi) := (x.drop _).take _
theorem HapsAt.refs {H : Hp} {vs : List V} {hs : List Hap} (x : HapsAt H vs hs) : ∀ v ∈ vs, ∃ c, v = .ref c := by
  induction x with
  | nil => intro v h; cases h
  | cons a _ ih =>
    intro v h
    rcases List.mem_cons.mp h with rfl | h
    · exact ⟨_, a.choose_spec.1⟩
    · exact ih v h
/-- a word of a line -/
noncomputable def tw : V → Str
  | .non => "-"
  | .str x => x
  | .int i => Str.ofString (toString i)
  | _ => ""
/-- what can be written -/
noncomputable def Tw : V → Prop
  | .non => True
  | .str x => x.length ≤ 20
  | .int i => -1000000000000 ≤ i ∧ i ≤ 1000000000000
  | _ => False
theorem tlen {n : Int} (h0 : -1000000000000 ≤ n) (h1 : n ≤ 1000000000000) : (Str.ofString (toString n)).length ≤ 20 := by
  rw [show (Str.ofString (toString n)).length = (toString n).length from PySem.ofString_length _]
  cases n with
  | ofNat m =>
    show (Nat.repr m).length ≤ 20
    have : (Nat.repr m).length ≤ 19 := (Nat.length_repr_le_iff (by decide)).mpr (by have : (Int.ofNat m) = (m : Int) := rfl; omega)
    omega
  | negSucc m =>
    show ("-" ++ Nat.repr (m + 1)).length ≤ 20
    have : (Nat.repr (m + 1)).length ≤ 19 := (Nat.length_repr_le_iff (by decide)).mpr (by
      have : Int.negSucc m = -((m : Int) + 1) := by omega
      omega)
    rw [String.length_append]
    show 1 + _ ≤ 20
    omega
theorem tlog {n : Int} (h0 : -1000000000000 ≤ n) (h1 : n ≤ 1000000000000) : n.natAbs.log2 < 1920 := by
  have h : n.natAbs < 2 ^ 1920 := Nat.lt_of_le_of_lt (show n.natAbs ≤ 1000000000000 by omega) (Nat.lt_of_lt_of_le (show 1000000000000 < 2 ^ 40 by decide) (Nat.pow_le_pow_right (by decide) (by decide)))
  by_cases z : n.natAbs = 0
  · rw [z]
    decide
  · exact (Nat.log2_lt z).mpr h
theorem Tw.len {v : V} (h : Tw v) : (tw v).length ≤ 20 := by
  cases v with
  | non => exact by decide +kernel
  | str x => exact h
  | int i => exact tlen h.1 h.2
  | _ => exact h.elim
theorem Tw_wo {w : Wo} (h : isWo w) : Tw (wv w) := by
  cases w with
  | none => trivial
  | some n => have := h n rfl; exact ⟨by omega, by omega⟩
theorem Hap.Tws {h : Hap} (x : h.ok) : ∀ v ∈ h.vs, Tw v := by
  intro v hv
  simp only [Hap.vs, List.mem_append, List.mem_cons, List.not_mem_nil, or_false] at hv
  cases h with
  | beg m w =>
    simp only [Hap.ini, Hap.w, List.mem_cons, List.not_mem_nil, or_false] at hv
    rcases hv with (rfl | rfl) | rfl
    · exact show (_ : Str).length ≤ 20 by decide +kernel
    · exact ⟨by have := x.1; omega, by have := x.1; omega⟩
    · exact Tw_wo x.2
  | don m t w =>
    simp only [Hap.ini, Hap.w, List.mem_cons, List.not_mem_nil, or_false] at hv
    rcases hv with (rfl | rfl | rfl) | rfl
    · exact show (_ : Str).length ≤ 20 by decide +kernel
    · exact ⟨by have := x.1; omega, by have := x.1; omega⟩
    · exact ⟨by have := x.2.1; omega, by have := x.2.1; omega⟩
    · exact Tw_wo x.2.2
  | ltr m k w =>
    simp only [Hap.ini, Hap.w, List.mem_cons, List.not_mem_nil, or_false] at hv
    rcases hv with (rfl | rfl | rfl) | rfl
    · exact show (_ : Str).length ≤ 20 by decide +kernel
    · exact ⟨by have := x.1; omega, by have := x.1; omega⟩
    · exact x.2.1.len
    · exact Tw_wo x.2.2
theorem Hap.vs_len (h : Hap) : h.vs.length ≤ 4 ∧ h.ini.length + 1 = h.vs.length ∧ 2 ≤ h.ini.length := by cases h <;> simp [Hap.vs, Hap.ini]
theorem cut_last (h : Hap) : cutV h.vs none (some (-1)) = h.ini := by cases h <;> rfl
theorem cut_not (h : Hap) : ¬ (HT.sIx h.vs.length 0 none = 0 ∧ HT.sIx h.vs.length h.vs.length (some (-1)) = h.vs.length) := by cases h <;> (simp only [Hap.vs, Hap.ini, List.length_append, List.length_cons, List.length_nil]; decide)
theorem sumJ {B : Nat} : ∀ {ys : List Str}, (∀ y ∈ ys, y.length ≤ B) → (ys.map fun z => z.length).sum ≤ B * ys.length
  | [], _ => by simp
  | y :: ys, h => by
    have h1 := sumJ (ys := ys) fun z hz => h z (List.mem_cons_of_mem _ hz)
    have h2 := h y (by simp)
    simp only [List.map_cons, List.sum_cons, List.length_cons, Nat.mul_add, Nat.mul_one]
    omega
theorem join_len (g : Str) : ∀ ys : List Str, (Txt.join g ys).length ≤ (ys.map fun z => z.length).sum + ys.length * g.length := by
  have f : ∀ (l : List Str) (a : Array Nat), (List.foldl (fun acc (p : Str) => acc ++ g.cps ++ p.cps) a l).size = a.size + (l.map fun z => z.length).sum + l.length * g.length := by
    intro l
    induction l with
    | nil => intro a; simp
    | cons y l ih =>
      intro a
      rw [List.foldl_cons, ih]
      simp only [Array.size_append, List.map_cons, List.sum_cons, List.length_cons, Nat.succ_mul]
      have h1 : g.length = g.cps.size := rfl
      have h2 : y.length = y.cps.size := rfl
      omega
  intro ys
  cases ys with
  | nil => exact Nat.zero_le _
  | cons y l =>
    have h := f l y.cps
    show (List.foldl (fun acc (p : Str) => acc ++ g.cps ++ p.cps) y.cps l).size ≤ _
    rw [h]
    have h2 : y.length = y.cps.size := rfl
    simp only [List.map_cons, List.sum_cons, List.length_cons, Nat.succ_mul]
    omega
theorem jlens : (" " : Str).length = 1 ∧ ("\n" : Str).length = 1 ∧ ("" : Str).length = 0 := by decide +kernel
noncomputable def Hap.row (h : Hap) : Str := Txt.join " " (h.vs.map tw)
noncomputable def Hap.line (h : Hap) : Str := h.row ++ "\n"
theorem Hap.row_len {h : Hap} (x : h.ok) : h.row.length ≤ 100 := by
  have h1 := join_len " " (h.vs.map tw)
  have h2 := sumJ (B := 20) (ys := h.vs.map tw) fun y hy => by
    obtain ⟨v, hv, rfl⟩ := List.mem_map.mp hy
    exact (Hap.Tws x v hv).len
  have h3 := h.vs_len.1
  rw [jlens.1, List.length_map] at h1
  rw [List.length_map] at h2
  unfold Hap.row
  omega
noncomputable def spSW : Sp := fun vs H Q _ => ∃ v : V, vs = [v] ∧ Tw v ∧ Q (.str (tw v)) H
theorem q_sw {v : V} {H : Hp} {Q : VK} {E : XK} : spSW [v] H Q E = (Tw v ∧ Q (.str (tw v)) H) := propext ⟨fun ⟨_, e, h⟩ => by cases e; exact h, fun h => ⟨_, rfl, h⟩⟩
noncomputable def spNW : Sp := fun vs H Q _ => ∃ w : Wo, vs = [wv w] ∧ isWo w ∧ Q (.str (tw (wv w))) H
noncomputable def spJLine : Sp := fun vs H Q _ => ∃ (v : V) (h : Hap), vs = [v] ∧ HapAt H v h ∧ h.ok ∧ ∀ H', Kp [] H H' → Q (.str h.line) H'
noncomputable def spAny : Sp := fun vs H Q _ => ∃ r : Addr, vs = [.ref r] ∧ JarAt H r ∧ ∀ (v : V) (h : Hap) (H' : Hp), HapAt H' v h → h.ok → JarAt H' r → Kp [r] H H' → Q v H'
theorem take_snocS {α : Type} {l : List α} {i : Nat} {y : α} (h : l[i]? = some y) : l.take (i + 1) = l.take i ++ [y] := by rw [List.take_add_one, h]; rfl

theorem look2 {a b z : Str} {x y c : Addr} (n : (a == b) = false) (h : List.lookup z [(a, x), (b, y)] = some c) : List.lookup z [(b, y), (a, x)] = some c := by
  simp only [List.lookup] at h ⊢
  by_cases h1 : (z == a) = true
  · by_cases h2 : (z == b) = true
    · rw [← eq_of_beq h1, ← eq_of_beq h2] at n
      simp at n
    · simp only [h1, Bool.not_eq_true] at h h2 ⊢
      simp only [h2]
      exact h
  · simp only [Bool.not_eq_true] at h1
    simp only [h1] at h ⊢
    cases h2 : z == b <;> simp_all
noncomputable abbrev w13 : List V := [.str "order", .str "timer", .str "child", .str "send", .str "drop", .str "wait", .str "hear", .str "if", .str "else", .str "done", .str "while", .str "end", .str "none"]
noncomputable abbrev w4 : List V := [.str "arg", .str "now", .str "answer", .str "not"]
theorem inV_app (v : V) (a b : List V) : inV v (a ++ b) = (inV v a || inV v b) := by simp [inV]
theorem w17 : ownW = w13 ++ w4 := rfl
theorem jabc : ("abcdefghijklmnopqrstuvwxyz" : Str).length = 26 ∧ ∀ c ∈ ("abcdefghijklmnopqrstuvwxyz" : Str).cps.toList, (decide (97 ≤ c) && decide (c ≤ 122)) = true := by decide +kernel
noncomputable def chrs (cs : List Nat) : List Str := cs.map fun c => (⟨#[c]⟩ : Str)
theorem join_chrs (cs : List Nat) : (Txt.join "" (chrs cs)).cps.toList = cs := by
  have f : ∀ (l : List Nat) (a : Array Nat), (List.foldl (fun acc (p : Str) => acc ++ ("" : Str).cps ++ p.cps) a (chrs l)).toList = a.toList ++ l := by
    intro l
    induction l with
    | nil => intro a; simp [chrs]
    | cons c l ih =>
      intro a
      show (List.foldl _ (a ++ ("" : Str).cps ++ #[c]) (chrs l)).toList = _
      rw [ih]
      have : ("" : Str).cps = #[] := by decide +kernel
      rw [this]
      simp
  cases cs with
  | nil => rfl
  | cons c cs => exact f cs #[c]
theorem key_ok {cs : List Nat} (h1 : 1 ≤ cs.length) (h6 : cs.length ≤ 6) (hc : ∀ c ∈ cs, (decide (97 ≤ c) && decide (c ≤ 122)) = true) (n1 : ¬ inV (.str (Txt.join "" (chrs cs))) w13 = true) (n2 : ¬ inV (.str (Txt.join "" (chrs cs))) w4 = true) : nmOk (Txt.join "" (chrs cs)) := by
  have e := join_chrs cs
  have l : (Txt.join "" (chrs cs)).length = cs.length := by
    show (Txt.join "" (chrs cs)).cps.size = _
    rw [← Array.length_toList, e]
  unfold nmOk
  rw [e, l, w17, inV_app]
  simp only [Bool.not_eq_true] at n1 n2
  rw [n1, n2]
  simp only [h1, h6, decide_true, Bool.true_and, Bool.or_false, Bool.not_false, Bool.and_true]
  exact List.all_eq_true.mpr hc
theorem nm_x : nmOk "x" ∧ nmOk "begin" := by unfold nmOk; decide +kernel
theorem x_w4 : inV (.str "x") w4 = false := by decide +kernel
theorem chrs_small {cs : List Nat} (h6 : cs.length ≤ 6) : ((chrs cs).map fun z => z.length).sum + (chrs cs).length * ("" : Str).length ≤ 16777216 := by
  have h := sumJ (B := 1) (ys := chrs cs) fun y hy => by
    obtain ⟨c, _, rfl⟩ := List.mem_map.mp hy
    exact Nat.le_refl 1
  have h2 : (chrs cs).length = cs.length := by simp [chrs]
  rw [jlens.2.2]
  omega
theorem w13_flat : w13.all flatV = true ∧ w4.all flatV = true := by decide
noncomputable def Fr (w : Str) : Prop := 32 ∉ w.cps.toList ∧ 10 ∉ w.cps.toList
theorem Fr.nm {x : Str} (h : nmOk x) : Fr x := by
  unfold nmOk at h
  simp only [Bool.and_eq_true] at h
  have := List.all_eq_true.mp h.2.2.1
  refine ⟨fun z => ?_, fun z => ?_⟩ <;> (have := this _ z; simp at this)
theorem Fr.int (n : Int) : Fr (Str.ofString (toString n)) := ⟨PyProof.Rows.int_text_free' 32 (by decide) n, PyProof.Rows.int_text_free' 10 (by decide) n⟩
theorem mem_jn {c k : Nat} : ∀ {l : List (List Nat)}, k ∈ jn c l → k = c ∨ ∃ w ∈ l, k ∈ w
  | [], h => by simp [jn] at h
  | [w], h => .inr ⟨w, by simp, h⟩
  | w :: v :: r, h => by
    rcases List.mem_append.mp (show k ∈ w ++ c :: jn c (v :: r) from h) with h | h
    · exact .inr ⟨w, by simp, h⟩
    · rcases List.mem_cons.mp h with h | h
      · exact .inl h
      · rcases mem_jn h with h | ⟨z, hz, h⟩
        · exact .inl h
        · exact .inr ⟨z, List.mem_cons_of_mem _ hz, h⟩
noncomputable def nmB (x : Str) : Bool := decide (1 ≤ x.length) && (decide (x.length ≤ 6) && (x.cps.toList.all (fun c => decide (97 ≤ c) && decide (c ≤ 122)) && !inV (.str x) ownW))
theorem nmOk_B {x : Str} : nmOk x ↔ nmB x = true := Iff.rfl
theorem ite_two {α : Type} (z1 z2 : α) {c : Prop} {inst : Decidable c} {A1 A2 B : Prop} {R : α → Prop} (h1 : c → A1 ∧ A2) (h2 : ¬ c → B) (hR : ∀ z, z = (@ite α c inst z1 z2) → R z) : @ite Prop c inst (A1 ∧ A2 ∧ R z1) (B ∧ R z2) := by
  by_cases h : c
  · rw [if_pos h]; exact ⟨(h1 h).1, (h1 h).2, hR z1 (if_pos h).symm⟩
  · rw [if_neg h]; exact ⟨h2 h, hR z2 (if_neg h).symm⟩
noncomputable def spLet : Sp := fun vs H Q _ => ∃ c : Nat, vs = [.str ⟨#[c]⟩] ∧ Q (.bl (decide (97 ≤ c) && decide (c ≤ 122))) H
noncomputable def spFig : Sp := fun vs H Q _ => ∃ c : Nat, vs = [.str ⟨#[c]⟩] ∧ Q (.bl (decide (48 ≤ c) && decide (c ≤ 57))) H
theorem q_let {c : Nat} {H : Hp} {Q : VK} {E : XK} : spLet [.str ⟨#[c]⟩] H Q E = Q (.bl (decide (97 ≤ c) && decide (c ≤ 122))) H := propext ⟨fun ⟨_, e, h⟩ => by cases e; exact h, fun h => ⟨_, rfl, h⟩⟩
theorem q_fig {c : Nat} {H : Hp} {Q : VK} {E : XK} : spFig [.str ⟨#[c]⟩] H Q E = Q (.bl (decide (48 ≤ c) && decide (c ≤ 57))) H := propext ⟨fun ⟨_, e, h⟩ => by cases e; exact h, fun h => ⟨_, rfl, h⟩⟩
noncomputable def spIsName : Sp := fun vs H Q _ => ∃ x : Str, vs = [.str x] ∧ x.length ≤ 1000000 ∧ ∀ H', Kp [] H H' → Q (.bl (nmB x)) H'
theorem q_isname {x : Str} {H : Hp} {Q : VK} {E : XK} : spIsName [.str x] H Q E = (x.length ≤ 1000000 ∧ ∀ H', Kp [] H H' → Q (.bl (nmB x)) H') := propext ⟨fun ⟨_, e, h⟩ => by cases e; exact h, fun h => ⟨_, rfl, h⟩⟩
theorem figL_len (l : List Nat) : l.length ≤ (figL l).length + 1 := by
  unfold figL
  split <;> simp
theorem num_some {x : Str} (h : ∀ c ∈ figL x.cps.toList, 48 ≤ c ∧ c ≤ 57) (hn : figL x.cps.toList ≠ []) (hl : (figL x.cps.toList).length ≤ 100) : ∃ n, intText? x = some n := by
  have hx : x.length = x.cps.toList.length := by show x.cps.size = _; rw [Array.length_toList]
  have hl2 := figL_len x.cps.toList
  cases e : x.cps.toList with
  | nil => rw [e] at hn; exact absurd rfl hn
  | cons c r =>
    by_cases hc : c = 45
    · subst hc
      rw [e] at h hn
      exact ⟨_, intText_neg e h hn (by omega)⟩
    · have ef : figL (c :: r) = c :: r := by
        unfold figL
        split
        · next z => simp only [List.cons.injEq] at z; exact absurd z.1 hc
        · rfl
      rw [e, ef] at h hn
      exact ⟨_, intText_digits (by rw [e]; exact h) (by rw [e]; exact hn) (by omega)⟩
theorem lt_one (a b : Nat) : (decide (([a] : List Nat) < [b])) = decide (a < b) := by
  rw [Bool.eq_iff_iff, decide_eq_true_eq, decide_eq_true_eq]
  constructor
  · intro h
    cases h with
    | rel h => exact h
    | cons h => cases h
  · exact fun h => .rel h
theorem own17 : ownW.all flatV = true := by decide

theorem slice_len (x : Str) (a b : Option Int) : (Txt.slice x a b).length ≤ x.length := Txt.slice_le x a b
theorem glog {n : Int} (h0 : 0 ≤ n) (h1 : n < 10 ^ 40) : n.natAbs.log2 < 1920 := by
  have h : n.natAbs < 2 ^ 1920 := Nat.lt_of_lt_of_le (show n.natAbs < 10 ^ 40 by omega) (Nat.le_trans (show 10 ^ 40 ≤ 2 ^ 160 by decide) (Nat.pow_le_pow_right (by decide) (by decide)))
  by_cases z : n.natAbs = 0
  · rw [z]
    decide
  · exact (Nat.log2_lt z).mpr h
theorem glen {n : Int} (h0 : 0 ≤ n) (h1 : n < 10 ^ 40) : (Str.ofString (toString n)).length ≤ 40 := by
  obtain ⟨m, rfl⟩ : ∃ m : Nat, n = (m : Int) := ⟨n.toNat, by omega⟩
  show (Str.ofString (toString (m : Int))).cps.size ≤ 40
  rw [← Array.length_toList, int_nat]
  exact (digs_len (by decide)).mpr (by omega)
noncomputable def spIsNum : Sp := fun vs H Q _ => ∃ (x : Str) (lo hi : Int), vs = [.str x, .int lo, .int hi] ∧ x.length ≤ 1000000 ∧ (-(10 ^ 40) < lo ∧ lo ≤ 0 ∧ 0 ≤ hi ∧ hi < 10 ^ 40) ∧ ∀ H', Kp [] H H' → Q (.bl (numW x lo hi)) H'
theorem q_isnum {x : Str} {lo hi : Int} {H : Hp} {Q : VK} {E : XK} : spIsNum [.str x, .int lo, .int hi] H Q E = (x.length ≤ 1000000 ∧ (-(10 ^ 40) < lo ∧ lo ≤ 0 ∧ 0 ≤ hi ∧ hi < 10 ^ 40) ∧ ∀ H', Kp [] H H' → Q (.bl (numW x lo hi)) H') :=
  propext ⟨fun ⟨_, _, _, e, h⟩ => by cases e; exact h, fun h => ⟨_, _, _, rfl, h⟩⟩
theorem digs_mono {a b : Nat} (h : a ≤ b) : (digs a).length ≤ (digs b).length := by
  have hb : 0 < (digs b).length := by
    cases e : digs b with
    | nil => exact absurd e (digs_ne b)
    | cons _ _ => simp
  exact (digs_len hb).mpr (Nat.lt_of_le_of_lt h ((digs_len hb).mp (Nat.le_refl _)))
theorem numW_int {n lo hi : Int} (h0 : lo ≤ n) (h1 : n ≤ hi) (hlo : lo ≤ 0) (hhi : 0 ≤ hi) (hn : n.natAbs < 10 ^ 100) : numW (Str.ofString (toString n)) lo hi = true := by
  have hr := int_reads n hn
  have all : ∀ m : Nat, (digs m).all (fun c => decide (48 ≤ c) && decide (c ≤ 57)) = true := fun m => List.all_eq_true.mpr fun c hc => by have := digs_all m c hc; simpa using this
  have d1 : ∀ m : Nat, 1 ≤ (digs m).length := fun m => by
    cases e : digs m with
    | nil => exact absurd e (digs_ne m)
    | cons _ _ => simp
  have hM : 0 ≤ (if hi > -lo then hi else -lo) ∧ n.natAbs ≤ (if hi > -lo then hi else -lo).toNat := by split <;> omega
  have hL : (Str.ofString (toString (if hi > -lo then hi else -lo))).length = (digs (if hi > -lo then hi else -lo).toNat).length := by
    generalize (if hi > -lo then hi else -lo) = M at *
    obtain ⟨m, rfl⟩ : ∃ m : Nat, M = (m : Int) := ⟨M.toNat, by omega⟩
    show (Str.ofString (toString (m : Int))).cps.size = _
    rw [← Array.length_toList, int_nat]
    rfl
  have hD := digs_mono hM.2
  unfold numW
  rw [hr, hL]
  generalize (digs (if hi > -lo then hi else -lo).toNat).length = L at *
  cases n with
  | ofNat m =>
    have e : (Str.ofString (toString (Int.ofNat m))).cps.toList = digs m := int_nat m
    have ef : figL (digs m) = digs m := by
      unfold figL
      split
      · next z => have := digs_all m 45 (by rw [z]; simp); omega
      · rfl
    have z0 : (decide ((digs m)[0]? = some 48) && !decide (Str.ofString (toString (Int.ofNat m)) = "0")) = false := by
      rw [Bool.and_eq_false_iff]
      by_cases hz : (digs m)[0]? = some 48
      · right
        have : ∃ cs, digs m = 48 :: cs := by
          cases hq : digs m with
          | nil => rw [hq] at hz; cases hz
          | cons a cs => rw [hq] at hz; simp only [List.getElem?_cons_zero, Option.some.injEq] at hz; exact ⟨cs, by rw [hz]⟩
        obtain ⟨cs, hc⟩ := this
        have m0 := digs_head hc
        subst m0
        decide +kernel
      · left
        simpa using hz
    have l2 : (digs m).length ≤ L := hD
    simp only [e, ef, d1, l2, all, z0, decide_true, Bool.true_and, Bool.not_false, Bool.and_true, Bool.and_eq_true, decide_eq_true_eq]
    exact ⟨h0, h1⟩
  | negSucc m =>
    have e := int_neg m
    have ef : figL (45 :: digs (m + 1)) = digs (m + 1) := rfl
    have z0 : (decide ((digs (m + 1))[0]? = some 48) && !decide (Str.ofString (toString (Int.negSucc m)) = "0")) = false := by
      rw [Bool.and_eq_false_iff]
      left
      simp only [decide_eq_false_iff_not]
      intro hz
      have : ∃ cs, digs (m + 1) = 48 :: cs := by
        cases hq : digs (m + 1) with
        | nil => rw [hq] at hz; cases hz
        | cons a cs => rw [hq] at hz; simp only [List.getElem?_cons_zero, Option.some.injEq] at hz; exact ⟨cs, by rw [hz]⟩
      obtain ⟨cs, hc⟩ := this
      have := digs_head hc
      omega
    have l2 : (digs (m + 1)).length ≤ L := hD
    simp only [e, ef, d1, l2, all, z0, decide_true, Bool.true_and, Bool.not_false, Bool.and_true, Bool.and_eq_true, decide_eq_true_eq]
    exact ⟨h0, h1⟩

/-- a word that fits its kind -/
inductive Fits : Str → V → Prop
  | mom {m : Int} : 0 ≤ m → m ≤ 1000000000000 → Fits "moment" (.int m)
  | tic {m : Int} : 0 ≤ m → m ≤ 1000000000 → Fits "ticket" (.int m)
  | nam {k : Str} : nmOk k → Fits "name" (.str k)
  | wor {w : Wo} : isWo w → Fits "worth" (wv w)
structure Row where
  tag : Str
  kinds : List Str
  args : List V
structure Row.ok (r : Row) : Prop where
  len : r.kinds.length = r.args.length
  few : r.args.length ≤ 4
  fit : ∀ (j : Nat) (k : Str) (v : V), r.kinds[j]? = some k → r.args[j]? = some v → Fits k v
  tg : Fr r.tag
  tl : r.tag.length ≤ 20
noncomputable def Row.ws (r : Row) : List Str := r.tag :: r.args.map tw
noncomputable def Row.txt (r : Row) : Str := Txt.join " " r.ws
noncomputable def RwAt (H : Hp) (v : V) (r : Row) : Prop := ∃ a, v = .ref a ∧ H a = some (.tup (.str r.tag :: r.args))
theorem RwAt.kp {H H' : Hp} {v : V} {r : Row} (x : RwAt H v r) (k : Kp [] H H') : RwAt H' v r := by
  obtain ⟨a, e, f⟩ := x
  exact ⟨a, e, k.at f⟩
inductive RwsAt (H : Hp) : List V → List Row → Prop
  | nil : RwsAt H [] []
  | cons {v : V} {vs : List V} {h : Row} {hs : List Row} : RwAt H v h → RwsAt H vs hs → RwsAt H (v :: vs) (h :: hs)
theorem RwsAt.kp {H H' : Hp} {vs : List V} {hs : List Row} (x : RwsAt H vs hs) (k : Kp [] H H') : RwsAt H' vs hs := by
  induction x with
  | nil => exact .nil
  | cons a _ ih => exact .cons (a.kp k) ih
theorem RwsAt.kt {H H' : Hp} {vs : List V} {hs : List Row} (x : RwsAt H vs hs) (k : ∀ a ys, H a = some (.tup ys) → H' a = some (.tup ys)) : RwsAt H' vs hs := by
  induction x with
  | nil => exact .nil
  | cons a _ ih =>
    obtain ⟨b, e, f⟩ := a
    exact .cons ⟨b, e, k _ _ f⟩ ih
theorem RwsAt.snoc {H : Hp} {vs : List V} {hs : List Row} {v : V} {h : Row} (x : RwsAt H vs hs) (a : RwAt H v h) : RwsAt H (vs ++ [v]) (hs ++ [h]) := by
  induction x with
  | nil => exact .cons a .nil
  | cons b _ ih => exact .cons b ih
theorem RwsAt.len {H : Hp} {vs : List V} {hs : List Row} (x : RwsAt H vs hs) : hs.length = vs.length := by
  induction x with
  | nil => rfl
  | cons _ _ ih => simp [ih]
theorem Fits.wr {k : Str} {v : V} (h : Fits k v) : Tw v := by
  cases h with
  | mom a b => exact ⟨by omega, by omega⟩
  | tic a b => exact ⟨by omega, by omega⟩
  | nam a => exact a.len
  | wor a => exact Tw_wo a
theorem fr_dash : Fr "-" := by unfold Fr; decide +kernel
theorem Fits.fr {k : Str} {v : V} (h : Fits k v) : Fr (tw v) := by
  cases h with
  | mom a b => exact Fr.int _
  | tic a b => exact Fr.int _
  | nam a => exact Fr.nm a
  | @wor w a =>
    cases w with
    | none => exact fr_dash
    | some n => exact Fr.int n
theorem Row.fits {r : Row} (x : r.ok) : ∀ v ∈ r.args, ∃ k, Fits k v := fun v hv => by
  obtain ⟨j, hj, e⟩ := List.mem_iff_getElem.mp hv
  have hk : j < r.kinds.length := by rw [x.len]; exact hj
  exact ⟨r.kinds[j], x.fit j _ v (List.getElem?_eq_getElem hk) (by rw [List.getElem?_eq_getElem hj, e])⟩
theorem Row.frs {r : Row} (x : r.ok) : ∀ w ∈ r.ws, Fr w := fun w hw => by
  rcases List.mem_cons.mp hw with rfl | hw
  · exact x.tg
  · obtain ⟨v, hv, rfl⟩ := List.mem_map.mp hw
    obtain ⟨k, f⟩ := Row.fits x v hv
    exact f.fr
theorem Row.wl {r : Row} (x : r.ok) : ∀ w ∈ r.ws, w.length ≤ 20 := fun w hw => by
  rcases List.mem_cons.mp hw with rfl | hw
  · exact x.tl
  · obtain ⟨v, hv, rfl⟩ := List.mem_map.mp hw
    obtain ⟨k, f⟩ := Row.fits x v hv
    exact f.wr.len
theorem Row.split {r : Row} (x : r.ok) : Txt.split r.txt " " = r.ws := by
  unfold Row.txt
  rw [nl_cps.2.1]
  exact split_one (by simp [Row.ws]) fun w hw => (Row.frs x w hw).1
theorem Row.nl {r : Row} (x : r.ok) : 10 ∉ r.txt.cps.toList := fun h => by
  unfold Row.txt at h
  rw [nl_cps.2.1, join_jn] at h
  rcases mem_jn h with h | ⟨w, hw, h⟩
  · cases h
  · obtain ⟨p, hp, rfl⟩ := List.mem_map.mp hw
    exact (Row.frs x p hp).2 h
theorem Row.txt_len {r : Row} (x : r.ok) : r.txt.length ≤ 105 := by
  have h1 := join_len " " r.ws
  have h2 := sumJ (B := 20) (ys := r.ws) (Row.wl x)
  have h3 := x.few
  have h4 : r.ws.length = r.args.length + 1 := by simp [Row.ws]
  rw [jlens.1] at h1
  unfold Row.txt
  omega
theorem int_dash (n : Int) (h : -1000000000000 ≤ n ∧ n ≤ 1000000000000) : (toString n = "-") = False := eq_false fun e => by
  have h1 := int_reads n (Nat.lt_of_le_of_lt (show n.natAbs ≤ 1000000000000 by omega) (by decide))
  rw [e] at h1
  exact absurd h1 (by rw [show intText? (Str.ofString "-") = none by decide +kernel]; nofun)
noncomputable def spTO : Sp := fun vs H Q _ => ∃ (k : Str) (v : V), vs = [.str k, .str (tw v)] ∧ Fits k v ∧ Q v H
noncomputable def spRO (K : PySem.W.Frag) : Sp := fun vs H Q _ => ∃ (a f : Addr) (r : Row), vs = [.ref a, .ref f] ∧ H a = some (.lst (r.ws.map V.str)) ∧ (∀ H, SqT K H f (r.kinds.map V.str)) ∧ r.ok ∧ ∀ v H', RwAt H' v r → Kp [] H H' → Q v H'
theorem getMap {α β : Type} {f : α → β} {l : List α} {j : Nat} {y : β} (h : (l.map f)[j]? = some y) : ∃ x, l[j]? = some x ∧ f x = y := by
  rw [List.getElem?_map] at h
  cases e : l[j]? with
  | none => rw [e] at h; cases h
  | some x => rw [e] at h; exact ⟨x, rfl, Option.some.inj h⟩
theorem ne_of_none' {H : Hp} {a b : Addr} {o : HO} (h : H a = some o) (n : H b = none) : b ≠ a := fun z => by rw [z, h] at n; cases n
theorem tail_cut (x : V) (xs : List V) : cutV (x :: xs) (some 1) none = xs := by
  unfold cutV
  simp [HT.sIx]

noncomputable def Hap.rw : Hap → Row
  | .beg m w => ⟨"begin", ["moment", "worth"], [.int m, wv w]⟩
  | .don m t w => ⟨"done", ["moment", "ticket", "worth"], [.int m, .int t, wv w]⟩
  | .ltr m k w => ⟨"letter", ["moment", "name", "worth"], [.int m, .str k, wv w]⟩
theorem Hap.rw_vs (h : Hap) : h.vs = .str h.rw.tag :: h.rw.args := by cases h <;> rfl
theorem fr_tags : Fr "begin" ∧ Fr "done" ∧ Fr "letter" := by unfold Fr; decide +kernel
theorem Hap.rw_ok {h : Hap} (x : h.ok) : h.rw.ok := by
  cases h with
  | beg m w =>
    refine ⟨rfl, by simp [Hap.rw], fun j k v e1 e2 => ?_, fr_tags.1, by simp only [Hap.rw]; decide +kernel⟩
    match j, e1, e2 with
    | 0, e1, e2 => cases e1; cases e2; exact .mom x.1.1 x.1.2
    | 1, e1, e2 => cases e1; cases e2; exact .wor x.2
  | don m t w =>
    refine ⟨rfl, by simp [Hap.rw], fun j k v e1 e2 => ?_, fr_tags.2.1, by simp only [Hap.rw]; decide +kernel⟩
    match j, e1, e2 with
    | 0, e1, e2 => cases e1; cases e2; exact .mom x.1.1 x.1.2
    | 1, e1, e2 => cases e1; cases e2; exact .tic x.2.1.1 x.2.1.2
    | 2, e1, e2 => cases e1; cases e2; exact .wor x.2.2
  | ltr m k w =>
    refine ⟨rfl, by simp [Hap.rw], fun j k v e1 e2 => ?_, fr_tags.2.2, by simp only [Hap.rw]; decide +kernel⟩
    match j, e1, e2 with
    | 0, e1, e2 => cases e1; cases e2; exact .mom x.1.1 x.1.2
    | 1, e1, e2 => cases e1; cases e2; exact .nam x.2.1
    | 2, e1, e2 => cases e1; cases e2; exact .wor x.2.2
theorem haps_of {H : Hp} : ∀ {hs : List Hap} {us : List V}, RwsAt H us (hs.map Hap.rw) → HapsAt H us hs := by
  intro hs
  induction hs with
  | nil => intro us x; cases x; exact .nil
  | cons h hs ih =>
    intro us x
    cases x with
    | cons a b =>
      obtain ⟨c, e, f⟩ := a
      exact .cons ⟨c, e, by rw [f, h.rw_vs]⟩ (ih b)
theorem val_tag {a b c : V} (h : Hap) : valV [(Key.inr "begin", a), (.inr "done", b), (.inr "letter", c)] (.inr h.rw.tag) = some (match h with | .beg .. => a | .don .. => b | .ltr .. => c) := by
  have h1 : (("begin" : Str) = "done") = False ∧ (("begin" : Str) = "letter") = False ∧ (("done" : Str) = "letter") = False := ⟨by simp only [w_sinj, String.reduceEq], by simp only [w_sinj, String.reduceEq], by simp only [w_sinj, String.reduceEq]⟩
  cases h <;> simp [valV, Hap.rw, h1]
theorem none_upd {H : Hp} {a p : Addr} {o : HO} (h : upd H a o p = none) : H p = none := by
  by_cases e : p = a
  · subst e; rw [upd_same] at h; cases h
  · rwa [upd_ne e] at h
theorem cut_ints (ns : List Int) (lo hi : Option Int) : ∃ ms : List Int, cutV (ns.map V.int) lo hi = ms.map V.int ∧ ms.length ≤ ns.length := by
  unfold cutV
  rw [← List.map_drop, ← List.map_take]
  exact ⟨_, rfl, by rw [List.length_take, List.length_drop]; omega⟩
theorem ints_at {ms : List Int} {i : Nat} {y : V} (h : (ms.map V.int)[i]? = some y) : ∃ z : Int, y = .int z := by
  rw [List.getElem?_map] at h
  cases e : ms[i]? with
  | none => rw [e] at h; cases h
  | some z => rw [e] at h; exact ⟨z, (Option.some.inj h).symm⟩

/-- what is_word_of tells -/
noncomputable def wordB (k x : Str) : Bool := if k = "name" then nmB x else if k = "moment" then numW x 0 1000000000000 else if k = "ticket" then numW x 0 1000000000 else if k = "number" then numW x (-9999999999999999999999999999999999999999) 9999999999999999999999999999999999999999 else (decide (x = "-") || numW x (-1000000000) 1000000000)
noncomputable def allB : List Str → List Str → Bool
  | k :: ks, x :: xs => wordB k x && allB ks xs
  | _, _ => true
noncomputable def rowB (ws ks : List Str) : Bool := decide (ws.length = ks.length + 1) && allB ks ws.tail
theorem kd_ne : (("moment" : Str) = "name") = False ∧ (("ticket" : Str) = "name") = False ∧ (("ticket" : Str) = "moment") = False ∧ (("worth" : Str) = "name") = False ∧ (("worth" : Str) = "moment") = False ∧ (("worth" : Str) = "ticket") = False ∧ (("worth" : Str) = "number") = False ∧ (("number" : Str) = "name") = False ∧ (("number" : Str) = "moment") = False ∧ (("number" : Str) = "ticket") = False := by simp only [w_sinj, String.reduceEq, and_self]
theorem allB_of : ∀ {ks xs : List Str}, (∀ (j : Nat) (k x : Str), ks[j]? = some k → xs[j]? = some x → wordB k x = true) → allB ks xs = true
  | [], _, _ => by simp [allB]
  | _ :: _, [], _ => by simp [allB]
  | k :: ks, x :: xs, h => by
    simp only [allB, Bool.and_eq_true]
    exact ⟨h 0 k x rfl rfl, allB_of fun j k' x' a b => h (j + 1) k' x' (by simpa using a) (by simpa using b)⟩
theorem allB_zip : ∀ ks xs : List Str, allB ks xs = (List.zipWith wordB ks xs).all id
  | [], _ => by simp [allB]
  | _ :: _, [] => by simp [allB]
  | k :: ks, x :: xs => by simp [allB, allB_zip ks xs]
noncomputable def linesT (xs : List Str) : Str := Txt.join "" (xs.map fun x : Str => x ++ "\n")
noncomputable def spWO25 : Sp := fun vs H Q _ => ∃ k x : Str, vs = [.str k, .str x] ∧ x.length ≤ 1000000 ∧ ∀ H', Kp [] H H' → Q (.bl (wordB k x)) H'
noncomputable def spIR25 (K : PySem.W.Frag) : Sp := fun vs H Q _ => ∃ (a : Addr) (v : V) (ws : List Str), vs = [.ref a, v] ∧ H a = some (.lst (ws.map V.str)) ∧ ws.length ≤ 1000 ∧ (∀ w ∈ ws, w.length ≤ 1000000) ∧
  ((v = .non ∧ ∀ H', Kp [] H H' → Q (.bl false) H') ∨ ∃ (f : Addr) (ks : List Str), v = .ref f ∧ (∀ H, SqT K H f (ks.map V.str)) ∧ ks.length ≤ 10 ∧ ∀ H', Kp [] H H' → Q (.bl (rowB ws ks)) H')
/-- a line that is no row -/
noncomputable def Bad (K : PySem.W.Frag) (kvs : List (Key × V)) (b : Str) : Prop := ∃ (w : Str) (ws : List Str), Txt.split b " " = w :: ws ∧ ws.length ≤ 900 ∧ (∀ x ∈ w :: ws, x.length ≤ 1000000) ∧
  (valV kvs (.inr w) = none ∨ ∃ (f : Addr) (ks : List Str), valV kvs (.inr w) = some (.ref f) ∧ (∀ H, SqT K H f (ks.map V.str)) ∧ ks.length ≤ 10 ∧ rowB (w :: ws) ks = false)
noncomputable def spInitX (C : Addr) : Sp := fun vs H Q _ => ∃ (a : Addr) (v : V), vs = [.ref a, v] ∧ H a = some (ExcN a C) ∧ ∀ D, H D = none → D ≠ a → Q .non (upd (upd H a (ExcD a C D)) D (.xd [("line", v)]))
noncomputable def spRR25 (K : PySem.W.Frag) (C : Addr) : Sp := fun vs H Q E => ∃ (fm : Addr) (kvs : List (Key × V)) (rs : List Row) (bs : List Str) (tl : Str), vs = [.str (linesT (rs.map Row.txt ++ bs) ++ tl), .ref fm] ∧ H fm = some (.dK kvs) ∧
  (∀ r ∈ rs, r.ok ∧ ∃ f, valV kvs (.inr r.tag) = some (.ref f) ∧ ∀ H, SqT K H f (r.kinds.map V.str)) ∧ (∀ b ∈ bs, 10 ∉ b.cps.toList ∧ b.length ≤ 1000) ∧ 10 ∉ tl.cps.toList ∧ tl.length ≤ 100 ∧ rs.length + bs.length ≤ 5000 ∧
  (bs = [] → ∀ p us H', H p = none → H' p = some (.lst us) → RwsAt H' us rs → Kp [] H H' → Q (.ref p) H') ∧
  (∀ b t, bs = b :: t → Bad K kvs b ∧ ∀ D H', H D = none → H' D = some (.xd [("line", .int rs.length)]) → Kp [] H H' → E (.ref C) (some D) H')
theorem free_of {H H' : Hp} {a : Addr} (k : Kp [] H H') (h : H' a = none) : H a = none := by
  cases e : H a with
  | none => rfl
  | some o => rw [k.at e] at h; cases h
theorem del_three {H : Hp} {a D : Addr} {o p u : HO} (h : H a = none) (n : D ≠ a) : del (upd (upd (upd H a o) a p) D u) a = upd H D u := by
  funext b
  by_cases e : b = a
  · rw [e, del_at, upd_ne n.symm, h]
  · rw [del_ne e]
    by_cases z : b = D
    · rw [z, upd_same, upd_same]
    · rw [upd_ne z, upd_ne z, upd_ne e, upd_ne e]
theorem lines_len {xs : List Str} {B : Nat} (h : ∀ x ∈ xs, x.length ≤ B) : (linesT xs).length ≤ (B + 1) * xs.length := by
  have h1 := join_len "" (xs.map fun x : Str => x ++ "\n")
  have h2 := sumJ (B := B + 1) (ys := xs.map fun x : Str => x ++ "\n") fun y hy => by
    obtain ⟨z, hz, rfl⟩ := List.mem_map.mp hy
    have := h z hz
    rw [str_len, jlens.2.1]
    omega
  rw [jlens.2.2, Nat.mul_zero] at h1
  simp only [List.length_map] at h2
  unfold linesT
  omega
theorem Fits.wb {k : Str} {v : V} (f : Fits k v) : wordB k (tw v) = true := by
  obtain ⟨n1, n2, n3, n4, n5, n6, n7, n8, n9, n10⟩ := kd_ne
  cases f with
  | @mom m h0 h1 =>
    simp only [wordB, n1, if_false, if_true, tw]
    exact numW_int h0 h1 (by decide) (by decide) (by omega)
  | @tic m h0 h1 =>
    simp only [wordB, n2, n3, if_false, if_true, tw]
    exact numW_int h0 h1 (by decide) (by decide) (by omega)
  | @nam x hx =>
    simp only [wordB, if_true, tw]
    exact nmOk_B.mp hx
  | @wor w hw =>
    simp only [wordB, n4, n5, n6, n7, if_false]
    cases w with
    | none => simp [tw, wv]
    | some n =>
      have hn := hw n rfl
      simp only [tw, wv, Bool.or_eq_true]
      exact .inr (numW_int (by omega) (by omega) (by decide) (by decide) (by omega))
theorem Row.good {r : Row} (x : r.ok) : rowB r.ws r.kinds = true := by
  have l := x.len
  unfold rowB
  rw [Bool.and_eq_true]
  refine ⟨by simp [Row.ws, l], allB_of fun j k y a b => ?_⟩
  obtain ⟨v, hv, rfl⟩ := getMap (show (r.args.map tw)[j]? = some y from b)
  exact (x.fit j k v a hv).wb
theorem rcA_lst {K : PySem.W.Frag} {H : Hp} {n : Nat} {a b : Addr} {xs ys : List V} (ha : H a = some (.lst xs)) (hb : H b = some (.lst ys)) (hl : xs.length = ys.length) (h : ∀ (j : Nat) x y, xs[j]? = some x → ys[j]? = some y → EqA K H n x y true) : RcA K H (n + 1) a b true := by
  have := RcA.list (K := K) (H := H) (n := n) (e := fun _ => true) (SqL.of ha) (SqL.of hb) hl h
  rwa [show (List.range xs.length).all (fun _ => true) = true by simp] at this

theorem cut_two {a b c : TS} {D : Ends} {σ : St} {H : Hp} (h : ∀ R : St → Hp → Prop, (∀ σ' H', c D σ' H' → R σ' H') → tSeq a (fun D' => b { D' with nx := R }) D σ H) : tSeq a (tSeq b c) D σ H := h (c D) fun _ _ x => x
noncomputable def kindsL (w : Str) : Option (List Str) := if w = "begin" then some ["moment", "worth"] else if w = "done" then some ["moment", "ticket", "worth"] else if w = "letter" then some ["moment", "name", "worth"] else none
/-- a line that is none, by its words -/
noncomputable def badW (ws : List Str) : Bool := match ws with
  | [] => false
  | w :: r => decide (r.length ≤ 900) && ((w :: r).all fun x => decide (x.length ≤ 1000000)) && (match kindsL w with
    | none => true
    | some ks => !rowB (w :: r) ks)
noncomputable def badL (b : Str) : Bool := badW (Txt.split b " ")
theorem badL_Bad {K : PySem.W.Frag} {b : Str} {f0 f1 f2 : Addr} (h : badL b = true) (q0 : ∀ H, SqT K H f0 [.str "moment", .str "worth"]) (q1 : ∀ H, SqT K H f1 [.str "moment", .str "ticket", .str "worth"]) (q2 : ∀ H, SqT K H f2 [.str "moment", .str "name", .str "worth"]) :
    Bad K [(.inr "begin", .ref f0), (.inr "done", .ref f1), (.inr "letter", .ref f2)] b := by
  unfold badL at h
  cases e : Txt.split b " " with
  | nil => rw [e] at h; cases h
  | cons w r =>
    rw [e] at h
    simp only [badW, Bool.and_eq_true, decide_eq_true_eq, List.all_eq_true] at h
    obtain ⟨⟨h1, h2⟩, h3⟩ := h
    refine ⟨w, r, e, h1, h2, ?_⟩
    have n1 : (("begin" : Str) = "done") = False ∧ (("begin" : Str) = "letter") = False ∧ (("done" : Str) = "letter") = False := ⟨by simp only [w_sinj, String.reduceEq], by simp only [w_sinj, String.reduceEq], by simp only [w_sinj, String.reduceEq]⟩
    unfold kindsL at h3
    by_cases c0 : w = "begin"
    · rw [if_pos c0] at h3
      subst c0
      exact .inr ⟨f0, ["moment", "worth"], by simp [valV], q0, by decide, by simpa using h3⟩
    rw [if_neg c0] at h3
    by_cases c1 : w = "done"
    · rw [if_pos c1] at h3
      subst c1
      exact .inr ⟨f1, ["moment", "ticket", "worth"], by simp [valV, n1], q1, by decide, by simpa using h3⟩
    rw [if_neg c1] at h3
    by_cases c2 : w = "letter"
    · rw [if_pos c2] at h3
      subst c2
      exact .inr ⟨f2, ["moment", "name", "worth"], by simp [valV, n1], q2, by decide, by simpa using h3⟩
    exact .inl (by simp [valV, Ne.symm c0, Ne.symm c1, Ne.symm c2])
theorem Hap.row_txt (h : Hap) : h.row = h.rw.txt := by
  unfold Hap.row
  rw [Hap.rw_vs]
  rfl
noncomputable def spRL25 (C : Addr) : Sp := fun vs H Q E => ∃ (hs : List Hap) (bs : List Str) (tl : Str), vs = [.str (linesT (hs.map Hap.row ++ bs) ++ tl)] ∧ (∀ h ∈ hs, h.ok) ∧ (∀ b ∈ bs, 10 ∉ b.cps.toList ∧ b.length ≤ 1000) ∧ 10 ∉ tl.cps.toList ∧ tl.length ≤ 100 ∧ hs.length + bs.length ≤ 5000 ∧
  (bs = [] → ∀ p us H', H p = none → H' p = some (.lst us) → HapsAt H' us hs → Kp [] H H' → Q (.ref p) H') ∧ (∀ b t, bs = b :: t → badL b = true ∧ ∀ D H', H D = none → H' D = some (.xd [("line", .int hs.length)]) → Kp [] H H' → E (.ref C) (some D) H')
noncomputable def spField : Sp := fun vs H Q _ => ∃ (hs : List Hap) (b : Str) (t : List Str) (tl : Str), vs = [.str (linesT (hs.map Hap.row ++ b :: t) ++ tl)] ∧ (∀ h ∈ hs, h.ok) ∧ (∀ x ∈ b :: t, 10 ∉ x.cps.toList ∧ x.length ≤ 1000) ∧ 10 ∉ tl.cps.toList ∧ tl.length ≤ 100 ∧ hs.length + t.length ≤ 4000 ∧ badL b = true ∧ ∀ H', Kp [] H H' → Q (.int hs.length) H'
noncomputable def noneS : List Str := [Str.ofString "", Str.ofString " ", Str.ofString "begin", Str.ofString "begin 5", Str.ofString "begin 5 ", Str.ofString "begin  5 7", Str.ofString " begin 5 7", Str.ofString "begin 5 7 ", Str.ofString "begin 5 7 8", Str.ofString "begin -1 7", Str.ofString "begin 05 7", Str.ofString "begin 5 07", Str.ofString "begin 5 -0", Str.ofString "begin 5 +7", Str.ofString "begin 1000000000001 7", Str.ofString "begin 5 1000000001", Str.ofString "begin 5 -1000000001", Str.ofString "begin x 7", Str.ofString "begin 5 x", Str.ofString "begin - 7", Str.ofString "begin 5 --", Str.ofString "done 5 7", Str.ofString "done 5 0 7 8", Str.ofString "done 5 -1 7", Str.ofString "done 5 - 7", Str.ofString "done 5 1000000001 7", Str.ofString "done 5 00 7", Str.ofString "done 5 k 7", Str.ofString "done -5 0 7", Str.ofString "letter 5 k", Str.ofString "letter 5 K 7", Str.ofString "letter 5 abcdefg 7", Str.ofString "letter 5 none 7", Str.ofString "letter 5 k1 7", Str.ofString "letter 5  7", Str.ofString "letter 5 - 7", Str.ofString "letter 5 k 7 7", Str.ofString "letter k 5 7", Str.ofString "letters 5 k 7", Str.ofString "5", Str.ofString "begin 5 None", Str.ofString "begin 5 7.0", Str.ofString "end 5 7", Str.ofString "tick 5", Str.ofString "done 5 0 7k", Str.ofString "letter 5 arg 7", Str.ofString "-", Str.ofString "Begin 5 7", Str.ofString "begin 5 1_0"]

noncomputable def OkB (b : Str) : Prop := badL b = true ∧ 10 ∉ b.cps.toList ∧ b.length ≤ 900
noncomputable instance (b : Str) : Decidable (OkB b) := inferInstanceAs (Decidable (_ ∧ _ ∧ _))
theorem none_ok : ∀ b ∈ noneS, OkB b := by decide +kernel
theorem numW_long {x : Str} (h : 20 < x.length) : numW x (-1000000000) 1000000000 = false := by
  have hL : (Str.ofString (toString (if (1000000000 : Int) > - -1000000000 then (1000000000 : Int) else - -1000000000))).length = 10 := by decide +kernel
  have := figL_len x.cps.toList
  have lx : x.length = x.cps.toList.length := by rw [Array.length_toList]; rfl
  rw [Bool.eq_false_iff]
  intro hn
  unfold numW at hn
  simp only [Bool.and_eq_true, decide_eq_true_eq] at hn
  obtain ⟨⟨⟨⟨_, h2⟩, _⟩, _⟩, _⟩ := hn
  rw [hL] at h2
  omega
theorem long_gen {R : Str} (m9 : ∀ x ∈ R.cps.toList, x = 57) (l9 : R.length = 600) : OkB (Str.ofString "begin 5 9" ++ R) := by
  have lw : (Str.ofString "9" ++ R).length = 601 := by rw [str_len, l9, show (Str.ofString "9").length = 1 by decide +kernel]
  have a : (Str.ofString "begin 5 9").cps.toList = (Str.ofString "begin").cps.toList ++ 32 :: ((Str.ofString "5").cps.toList ++ 32 :: (Str.ofString "9").cps.toList) := by decide +kernel
  have e : (Str.ofString "begin 5 9" ++ R) = Txt.join ⟨#[32]⟩ [Str.ofString "begin", Str.ofString "5", Str.ofString "9" ++ R] := by
    refine str_ext ?_
    rw [join_jn, cps_app, a]
    simp [jn, cps_app]
  have s : Txt.split (Str.ofString "begin 5 9" ++ R) " " = [Str.ofString "begin", Str.ofString "5", Str.ofString "9" ++ R] := by
    rw [e, nl_cps.2.1]
    refine split_one (by simp) fun w hw => ?_
    simp only [List.mem_cons, List.not_mem_nil, or_false] at hw
    rcases hw with rfl | rfl | rfl
    · decide +kernel
    · decide +kernel
    · rw [cps_app, List.mem_append]
      rintro (h | h)
      · revert h; decide +kernel
      · have := m9 _ h; omega
  obtain ⟨n1, n2, n3, n4, n5, n6, n7, _⟩ := kd_ne
  refine ⟨?_, ?_, ?_⟩
  · unfold badL
    rw [s]
    have k0 : kindsL "begin" = some [Str.ofString "moment", Str.ofString "worth"] := by unfold kindsL; rw [if_pos rfl]
    have wf : wordB "worth" (Str.ofString "9" ++ R) = false := by
      simp only [wordB, n4, n5, n6, n7, if_false]
      rw [numW_long (by omega), Bool.or_false, decide_eq_false]
      intro z
      rw [z] at lw
      exact absurd lw (by decide +kernel)
    have rf : rowB [Str.ofString "begin", Str.ofString "5", Str.ofString "9" ++ R] [Str.ofString "moment", Str.ofString "worth"] = false := by
      simp only [rowB, List.tail_cons, allB, wf, Bool.false_and, Bool.and_false]
    have la : (Str.ofString "begin").length ≤ 1000000 ∧ (Str.ofString "5").length ≤ 1000000 := by decide +kernel
    simp only [badW, k0, rf, List.all_cons, List.all_nil, lw, decide_eq_true la.1, decide_eq_true la.2, List.length_cons, List.length_nil]
    rfl
  · rw [cps_app, List.mem_append]
    rintro (h | h)
    · revert h; decide +kernel
    · have := m9 _ h; omega
  · rw [str_len, l9, show (Str.ofString "begin 5 9").length = 9 by decide +kernel]
    decide
theorem long_ok : OkB ("begin 5 9" ++ repS "9" 600) := long_gen (fun x h => by
    have := repS_mem h
    rw [show (Str.ofString "9").cps.toList = [57] by decide +kernel] at this
    simpa using this) (by rw [repS_len, show (Str.ofString "9").length = 1 by decide +kernel])

noncomputable def spNone : Sp := fun vs H Q _ => ∃ x : Int, vs = [.int x] ∧ 0 ≤ x ∧ ∀ (b : Str) (H' : Hp), OkB b → Kp [] H H' → Q (.str b) H'

noncomputable def spOdd : Sp := fun vs H Q _ => ∃ r : Addr, vs = [.ref r] ∧ JarAt H r ∧ ∀ (b : Str) (H' : Hp), OkB b → JarAt H' r → Kp [r] H H' → Q (.str b) H'

noncomputable def W3 : List (List Str) := [[Str.ofString "begin", Str.ofString "5", Str.ofString "7"], [Str.ofString "done", Str.ofString "5", Str.ofString "0", Str.ofString "7"], [Str.ofString "letter", Str.ofString "5", Str.ofString "k", Str.ofString "7"]]
theorem w3_len : ∀ ws ∈ W3, ∀ w ∈ ws, w.length ≤ 100 := by decide +kernel
noncomputable def badOf (ws : List Str) (n : Nat) (bs : List Str) : Prop := ∀ b ∈ bs, b.length ≤ 100 ∧ OkB (Txt.join " " (ws.take n ++ b :: ws.drop (n + 1)))
noncomputable instance (ws : List Str) (n : Nat) (bs : List Str) : Decidable (badOf ws n bs) := inferInstanceAs (Decidable (∀ b ∈ bs, _))
theorem cut_toB {xs : List V} {k : Nat} : cutV xs none (some (k : Int)) = xs.take k := by
  unfold cutV
  rw [HT.sIx_none, HT.sIx_nat]
  simp only [List.drop_zero, Nat.sub_zero]
  by_cases h : k ≤ xs.length
  · rw [Nat.min_eq_left h]
  · rw [Nat.min_eq_right (by omega), List.take_of_length_le (Nat.le_refl _), List.take_of_length_le (by omega)]
theorem cut_frB {xs : List V} {k : Nat} : cutV xs (some (k : Int)) none = xs.drop k := by
  unfold cutV
  rw [HT.sIx_none, HT.sIx_nat]
  by_cases h : k ≤ xs.length
  · rw [Nat.min_eq_left h, List.take_of_length_le (by simp)]
  · rw [Nat.min_eq_right (by omega), Nat.sub_self, List.take_zero, List.drop_eq_nil_of_le (by omega)]

theorem app_emp (x : Str) : x ++ ("" : Str) = x := str_ext (by rw [cps_app]; simp [show (Str.ofString "").cps.toList = [] by decide +kernel])
theorem lines_join (hs : List Hap) : Txt.join "" (hs.map Hap.line) = linesT (hs.map Hap.row) := by
  unfold linesT
  rw [List.map_map]
  rfl
local macro_rules | `(tactic| wp_walk) => `(tactic| wp_walk using true_and)
local macro_rules | `(tactic| wp_walk using $ts,*) => do
  let us ← ts.getElems.mapM fun t => `(Lean.Parser.Tactic.simpLemma| $t:term)
  let vs ← ("↓q_jar ↓q_jtake ↓q_jworth ↓q_jmoment ↓q_sw ↓q_isname ↓q_isnum ↓q_let ↓q_fig ↓e_seq ↓e_asg ↓e_name ↓e_ret ↓e_retN ↓e_ifS ↓e_test ↓e_tB ↓e_if ↓e_op ↓e_un ↓e_c ↓e_cons ↓e_nil ↓e_call ↓e_cb ↓e_lst ↓e_tup ↓e_dnew ↓e_drop ↓e_next ↓e_break ↓e_cont ↓e_andV ↓e_orV ↓e_notV ↓e_and ↓e_or ↓e_not ↓e_chain ↓e_sl ↓e_part ↓e_nopart ↓e_gsub ↓e_gnil ↓e_gcons ↓e_get1 ↓e_get ↓e_put ↓e_app ↓e_pop ↓e_onO ↓e_onB ↓e_onRef ↓e_onInt ↓e_onLst ↓e_onSeqL ↓e_onSeqT ↓e_onDct ↓e_ixR ↓e_ixS ↓e_addI ↓e_addS ↓e_addR ↓e_catL ↓e_slS ↓e_slR ↓e_cutL ↓e_lenS ↓e_lenR ↓e_set ↓e_in ↓e_dict ↓e_keyI ↓e_keyS ↓e_keyN ↓e_at0 ↓e_at1 ↓e_at2 ↓e_at3 ↓e_at4 ↓e_at5 ↓e_at6 ↓e_at7 ↓e_at8 ↓e_at9 ↓e_at10 ↓e_at11 ↓e_at12 ↓e_cmul1 ↓e_cmul2 ↓e_cmul3 ↓e_cmul10 ↓e_cpow6 ↓e_cpow9 ↓e_cpow12 ↓e_cpow18 ↓e_cpow30 ↓e_cpow40 ↓e_cpow45 ↓e_ixN0 ↓e_ixN1 ↓e_intI ↓e_intB ↓e_is ↓e_isnot ↓e_max ↓e_min ↓e_abs ↓e_isi_int_int ↓e_isi_int_bl ↓e_isi_int_str ↓e_isi_int_non ↓e_isi_int_ref ↓e_isi_bool_int ↓e_isi_bool_bl ↓e_isi_bool_str ↓e_isi_bool_non ↓e_isi_bool_ref ↓e_isi_str_int ↓e_isi_str_bl ↓e_isi_str_str ↓e_isi_str_non ↓e_isi_str_ref ↓e_isi_tuple_int ↓e_isi_tuple_bl ↓e_isi_tuple_str ↓e_isi_tuple_non ↓e_isi_tuple_ref ↓e_kl_int ↓e_kt_int ↓e_kl_bool ↓e_kt_bool ↓e_kl_str ↓e_kt_str ↓e_kl_tuple ↓e_kt_tuple ↓e_kd_int ↓e_kd_bool ↓e_kd_str ↓e_chk ↓e_chn ↓e_ite1 ↓e_ite0 ↓e_on1 ↓e_forR1 ↓e_on2 ↓e_forR2 ↓e_forL ↓e_forT ↓e_forV ↓e_compR ↓e_compL ↓e_onStr ↓e_compS ↓e_true ↓e_cs0 ↓e_idx ↓e_eqB ↓e_eqNN ↓e_eqNI ↓e_eqIN ↓e_slLr ↓e_gtup ↓e_c0 ↓e_c1 ↓e_c2 ↓e_neE ↓e_neD ↓e_onTup ↓e_tcat ↓e_eqTE ↓e_cutT ↓e_compD ↓e_rget1 ↓e_rget ↓e_rin ↓e_rpop2 ↓e_dictP ↓e_bm ↓e_tyS ↓e_strI ↓e_strS ↓e_join ↓e_strsV ↓e_split ↓e_neTE ↓e_tupOf ↓e_fmt ↓e_j0 ↓e_j1 ↓e_joined ↓e_estr ↓e_lm ↓e_ext ↓e_pop0 ↓e_truth ↓e_truN ↓e_truB ↓e_truI ↓e_truRef ↓e_truL ↓e_truT ↓e_truD ↓e_never ↓e_compT ↓e_neA ↓e_eqA ↓e_rep ↓e_lstOf ↓e_lenK ↓e_boolsV ↓e_intT ↓e_starts ↓e_ends ↓e_leS ↓e_all ↓e_inK ↓e_onIns ↓e_fld ↓e_setF ↓e_augF ↓e_meth ↓e_make ↓e_lookup ↓e_lookup0 ↓e_putF ↓e_putF0 ↓e_tupF ↓e_tys2 ↓e_isiF ↓e_thaw ↓e_dinC ↓e_dpopC ↓e_dget2C ↓e_dclear ↓e_dsetC ↓e_deed ↓e_getL ↓e_ipA ↓e_augS ↓e_aug ↓e_sortD ↓e_forZ ↓e_forE ↓e_comp2Z ↓e_comp2E ↓e_dictM ↓e_isiL ↓e_lenT ↓e_kll ↓e_klt ↓e_lclear ↓e_neB ↓e_sum ↓e_catS ↓e_onC0 ↓e_onC1 ↓e_neN ↓e_raise ↓e_tryA ↓e_raiseX ↓e_makeX ↓e_sFldX ↓e_tFldX ↓e_tryE ↓e_srepE ↓w_v1 ↓w_v2 ↓w_v3 ↓w_v4 ↓w_v5 ↓w_v6 ↓w_v7 ↓w_v8 ↓w_v9 ↓w_v10 ↓w_v11 ↓w_v12 ↓w_v13 ↓w_v14 ↓w_v15 ↓w_v16 ↓w_v17 ↓w_v18 ↓w_v19 ↓w_v20 ↓w_v21 ↓w_v22 ↓w_v23 ↓w_v24 ↓w_v25 ↓w_v26 ↓w_v27 ↓w_v28 ↓w_v29 ↓w_v30 ↓w_v0s ↓w_rI0 ↓w_rU ↓w_eqI ↓w_eqS ↓w_neI ↓w_neS ↓w_rI ↓upd_same ↓List.set_cons_zero ↓List.set_cons_succ ↓List.getElem?_cons_zero ↓List.getElem?_cons_succ L2.start m_cons m_nil List.cons_append List.nil_append List.append_nil List.replicate_succ List.replicate_zero List.length_cons List.length_nil Nat.reduceAdd Nat.reduceSub Nat.zero_add Nat.add_zero Nat.reduceLeDiff Nat.reducePow Nat.reduceLT true_and and_true false_and and_false forall_const ↓reduceIte w_sinj String.reduceEq Int.reduceToNat Int.reducePow Int.reduceNeg Int.reduceSub Int.reduceAdd Int.reduceMul Int.reduceLT Int.reduceLE Int.reduceEq sizeLine w_K w_Kn decide_true decide_false Bool.not_true Bool.not_false Bool.false_eq_true".splitOn " ").toArray.mapM fun (n : String) => do
    let p := n.splitOn "↓"
    let x := Lean.mkIdent (p.getLastD "").toName
    if p.length = 1 then `(Lean.Parser.Tactic.simpLemma| $x:term) else `(Lean.Parser.Tactic.simpLemma| ↓ $x:term)
  let ws := us ++ vs
  `(tactic| try simp (config := { dsimp := false }) only [$ws,*])

/-- law's promise: a list of at most 63 ints is handed in, True comes out -/
noncomputable def spLaw (K : PySem.W.Frag) : Sp := fun vs H Q _ => ∃ (a : Addr) (ns : List Int), vs = [.ref a] ∧ SqL K H a (ns.map V.int) ∧ ns.length ≤ 63 ∧ ∀ H', Q (.bl true) H'
section
variable {P : Program} {w : World} {K : PySem.W.Frag} {mg : Str → Option Value} {base : Heap}
theorem ok_lawnumberword {t : Ad} (T : Tx w K mg t) : FnOk P w K mg base CX0 1 t.alawnumberword t.dlawnumberword ["worth"] spNW := by
  refine T.flawnumberword.ok sc_lawnumberword (fun vs H Q E h => ?_) (fun cdv A outer s H vs Q E hr h => ?_)
  · obtain ⟨w, rfl, _⟩ := h
    rfl
  · obtain ⟨w, rfl, hw, q⟩ := h
    refine ⟨_, (pss_cons (ps_if (pt_cmpR op_isC (pv 0) pe_non (nomark _)) (pss_one (ps_ret pe_str)) pss_nil)
      (pss_one (ps_ret (pe_callTy call_strC rfl T.zstr bt_str (pa_n (pv 0) pa_nil))))), ?_⟩
    try dsimp only [L2.start, m_cons, m_nil, List.cons_append, List.nil_append, List.replicate_succ, List.replicate_zero, List.length_cons, List.length_nil, Nat.reduceAdd, Nat.reduceSub, Nat.zero_add]
    cases w with
    | none =>
      simp only [wv]
      wp_walk
      exact q
    | some n =>
      have := hw n rfl
      simp only [wv]
      wp_walk using reduceCtorEq
      exact ⟨tlog (by omega) (by omega), q⟩
theorem ok_lawline {t : Ad} (T : Tx w K mg t) : FnOk P w K mg base CX0 3 t.alawline t.dlawline ["happening"] spJLine := by
  refine T.flawline.ok sc_lawline (fun vs H Q E h => ?_) (fun cdv A outer s H vs Q E hr h => ?_)
  · obtain ⟨v, h, rfl, _⟩ := h
    rfl
  · obtain ⟨v, h, rfl, ⟨a, rfl, ha⟩, ok, q⟩ := h
    refine ⟨_, (pss_cons (ps_set (i := 1) sc_lawline.nd rfl (Or.inl rfl) (pe_op op_addC (pe_comp (cl := []) (fr := []) (N := ["part"]) rfl (fun _ _ h => h) (CompSc.nofree rfl rfl rfl rfl) (pi_tup (pe_slice sl_c (pv 0) po_none (po_some (pe_un un_neg pe_int)))) (fun C s H ex pn => ⟨pts_nil, (pe_callTy call_strC rfl T.zstr bt_str (pa_n (pv 0) pa_nil))⟩)) (pe_lst (pa_n (pe_call (ok_lawnumberword T) (hr.mono (by omega)) rfl T.mlawnumberword T.flawnumberword.kp T.blawnumberword .nil pass0 (pa_n (pe_ix ix_c (pv 0) (pe_un un_neg pe_int) (fun _ _ => rfl)) pa_nil)) pa_nil))))
      (pss_one (ps_ret (pe_op op_addC (pe_bm PySem.F.plainAttrs_str PySem.F.slot_str_join PySem.F.type_str_join mt_join pe_str (pa_n (pv 1) pa_nil)) pe_str)))), ?_⟩
    try dsimp only [L2.start, m_cons, m_nil, List.cons_append, List.nil_append, List.replicate_succ, List.replicate_zero, List.length_cons, List.length_nil, Nat.reduceAdd, Nat.reduceSub, Nat.zero_add]
    wp_walk using ha
    refine ⟨cut_not h, fun c hc => ?_⟩
    rw [cut_last]
    have KN := Kp.new (S := []) (o := .tup h.ini) hc
    have ec : upd H c (.tup h.ini) c = some (.tup h.ini) := upd_same
    have ea := KN.at ha
    generalize upd H c (.tup h.ini) = G0 at *
    refine ⟨⟨_, SqT.of ec⟩, ?_⟩
    have hT := Hap.Tws ok
    obtain ⟨l4, l5, l6⟩ := h.vs_len
    have hI : ∀ v ∈ h.ini, Tw v := fun v hv => hT v (List.mem_append_left _ hv)
    refine lc_tup (ys := h.ini) (fun j xs G => xs = ((h.ini.map tw).take j).map V.str ∧ Kp [] G0 G) ⟨rfl, Kp.refl⟩ ?_ ?_ ?_ ?_
    · rintro j xs G ⟨rfl, _⟩
      simp only [List.length_map, List.length_take]
      omega
    · rintro j xs G ⟨_, k⟩
      exact SqT.of (k.at ec)
    · rintro j y xs G _ hj ⟨rfl, k⟩
      have e5 := take_snocS (show (h.ini.map tw)[j]? = some (tw y) by rw [List.getElem?_map, hj]; rfl)
      have hy := hI y (List.mem_of_getElem? hj)
      have nn : y ≠ .non := fun z => by
        subst z
        have := List.mem_of_getElem? hj
        cases h <;> simp [Hap.ini] at this
      have fin : (((h.ini.map tw).take j).map V.str ++ [.str (tw y)] = ((h.ini.map tw).take (j + 1)).map V.str) := by rw [e5]; simp
      cases y with
      | non => exact absurd rfl nn
      | str x =>
        wp_walk using compSt, Option.join_some
        exact ⟨fin, k⟩
      | int i =>
        wp_walk using compSt, Option.join_some
        exact ⟨tlog hy.1 hy.2, fin, k⟩
      | _ => exact hy.elim
    · rintro xs G ⟨rfl, k⟩ l hl
      rw [show h.ini.length = (h.ini.map tw).length by simp, List.take_length]
      have KN2 := Kp.new (S := []) (o := .lst ((h.ini.map tw).map V.str)) hl
      have ea2 := KN2.at (k.at ea)
      have el : upd G l (.lst ((h.ini.map tw).map V.str)) l = some (.lst ((h.ini.map tw).map V.str)) := upd_same
      generalize upd G l (.lst ((h.ini.map tw).map V.str)) = G2 at *
      wp_walk using ea2, show atI h.vs (-1) = some (wv h.w) from atI_last _ _
      refine ⟨h.w, rfl, by cases h <;> first | exact ok.2 | exact ok.2.2, ?_⟩
      wp_walk
      refine fun p hp => ?_
      have e6 := (Kp.new (S := []) (o := .lst [.str (tw (wv h.w))]) hp).at el
      wp_walk using e6, List.length_map
      refine ⟨by omega, fun p2 hp2 => ?_⟩
      have e7 : (h.ini.map tw).map V.str ++ [.str (tw (wv h.w))] = (h.vs.map tw).map V.str := by simp [Hap.vs]
      rw [e7]
      have sb := sumJ (B := 20) (ys := h.vs.map tw) fun y hy => by
        obtain ⟨v, hv, rfl⟩ := List.mem_map.mp hy
        exact (hT v hv).len
      rw [List.length_map] at sb
      wp_walk using List.length_map, jlens.1, jlens.2.1
      have lr := Hap.row_len ok
      unfold Hap.row at lr
      exact ⟨by omega, by omega, q _ (((KN.trans (k.trans KN2)).trans (Kp.new hp)).trans (Kp.new hp2))⟩
theorem ok_lawjar {t : Ad} (T : Tx w K mg t) : FnOk P w K mg base CX0 1 t.alawjar t.dlawjar ["cell"] spJar := by
  refine T.flawjar.ok sc_lawjar (fun vs H Q E h => ?_) (fun cdv A outer s H vs Q E hr h => ?_)
  · obtain ⟨c, rfl, _⟩ := h
    rfl
  · obtain ⟨c, rfl, q⟩ := h
    refine ⟨_, (pss_cons (ps_if (pt_cmpR op_ge (pv 0) (pe_op op_pow pe_int pe_int) (nomark _)) (pss_one (ps_ret (pe_lst (pa_n (pe_op op_sub (pv 0) (pe_op op_pow pe_int pe_int)) (pa_n pe_int pa_nil))))) pss_nil)
      (pss_cons (ps_set (i := 1) sc_lawjar.nd rfl (Or.inl rfl) (pe_op op_mod (pv 0) pe_int))
      (pss_cons (ps_set (i := 1) sc_lawjar.nd rfl (Or.inl rfl) (pe_op op_mod (pe_op op_mul (pv 1) (pv 1)) pe_int))
      (pss_one (ps_ret (pe_lst (pa_n (pe_op op_mod (pe_op op_mul (pv 1) (pe_op op_addC (pv 1) pe_int)) pe_int) (pa_n pe_int pa_nil)))))))), ?_⟩
    try dsimp only [L2.start, m_cons, m_nil, List.cons_append, List.nil_append, List.replicate_succ, List.replicate_zero, List.length_cons, List.length_nil, Nat.reduceAdd, Nat.reduceSub, Nat.zero_add]
    wp_walk
    have m0 := Int.emod_nonneg c (show (982451653 : Int) ≠ 0 by decide)
    have m1 := Int.emod_lt_of_pos c (show (0 : Int) < 982451653 by decide)
    have n0 := Int.emod_nonneg (c % 982451653 * (c % 982451653)) (show (982451653 : Int) ≠ 0 by decide)
    have n1 := Int.emod_lt_of_pos (c % 982451653 * (c % 982451653)) (show (0 : Int) < 982451653 by decide)
    split
    · exact fun r hr' => q r _ hr' (Kp.new hr') ⟨_, _, upd_same, .inl rfl⟩
    · refine ⟨mulOk (by omega) (by omega), mulOk (by omega) (by omega), fun r hr' => ?_⟩
      exact q r _ hr' (Kp.new hr') ⟨_, _, upd_same, .inr ⟨Int.emod_nonneg _ (by decide), Int.emod_lt_of_pos _ (by decide)⟩⟩
theorem ok_lawtake {t : Ad} (T : Tx w K mg t) : FnOk P w K mg base CX0 1 t.alawtake t.dlawtake ["jar", "many"] spTake := by
  refine T.flawtake.ok sc_lawtake (fun vs H Q E h => ?_) (fun cdv A outer s H vs Q E hr h => ?_)
  · obtain ⟨r, m, rfl, _⟩ := h
    rfl
  · obtain ⟨r, m, rfl, m0, m1, ⟨c, f, hr0, hx⟩, q⟩ := h
    refine ⟨_, (pss_cons (ps_if (pt_cmpR op_eq (pe_ix ix_c (pv 0) pe_int (fun _ _ => rfl)) pe_int (nomark _)) (pss_cons (ps_set (i := 2) sc_lawtake.nd rfl (Or.inl rfl) (pe_op op_mod (pe_ix ix_c (pv 0) pe_int (fun _ _ => rfl)) (pv 1)))
      (pss_cons (ps_asg (pe_op op_fdivB (pe_ix ix_c (pv 0) pe_int (fun _ _ => rfl)) (pv 1)) (pg_sub (pv 0) pe_int set_c))
      (pss_one (ps_ret (pv 2))))) pss_nil)
      (pss_cons (ps_asg (pe_op op_mod (pe_op op_mul (pe_op op_addC (pe_ix ix_c (pv 0) pe_int (fun _ _ => rfl)) pe_int) (pe_op op_addC (pe_ix ix_c (pv 0) pe_int (fun _ _ => rfl)) pe_int)) pe_int) (pg_sub (pv 0) pe_int set_c))
      (pss_one (ps_ret (pe_op op_mod (pe_op op_fdivB (pe_op op_mul (pe_ix ix_c (pv 0) pe_int (fun _ _ => rfl)) (pe_op op_pow pe_int pe_int)) pe_int) (pv 1)))))), ?_⟩
    try dsimp only [L2.start, m_cons, m_nil, List.cons_append, List.nil_append, List.replicate_succ, List.replicate_zero, List.length_cons, List.length_nil, Nat.reduceAdd, Nat.reduceSub, Nat.zero_add]
    wp_walk using hr0, e_cpowJ
    have n0 := Int.emod_nonneg ((c + 15485863) * (c + 32452867)) (show (982451653 : Int) ≠ 0 by decide)
    have n1 := Int.emod_lt_of_pos ((c + 15485863) * (c + 32452867)) (show (0 : Int) < 982451653 by decide)
    split
    · next hf => exact ⟨m0, ⟨m0, log2_lt m0 m1⟩, q _ _ (Int.emod_nonneg _ (by omega)) (Int.emod_lt_of_pos _ m0) ⟨_, _, upd_same, .inl hf⟩ (Kp.set (by simp))⟩
    · next hf =>
      rcases hx with hx | ⟨h0, h1⟩
      · exact absurd hx hf
      · exact ⟨mulOk (by omega) (by omega), mulOk (by omega) (by omega), ⟨by decide, by decide⟩, m0, q _ _ (Int.emod_nonneg _ (by omega)) (Int.emod_lt_of_pos _ m0) ⟨_, _, upd_same, .inr ⟨n0, n1⟩⟩ (Kp.set (by simp))⟩
theorem ok_lawmoment {t : Ad} (T : Tx w K mg t) : FnOk P w K mg base CX0 2 t.alawmoment t.dlawmoment ["jar"] spJMoment := by
  refine T.flawmoment.ok sc_lawmoment (fun vs H Q E h => ?_) (fun cdv A outer s H vs Q E hr h => ?_)
  · obtain ⟨r, rfl, _⟩ := h
    rfl
  · obtain ⟨r, rfl, hR, q⟩ := h
    refine ⟨_, (pss_one (ps_ret (pe_ix ix_c (pe_lst (pa_n (pe_call (ok_lawtake T) (hr.mono (by omega)) rfl T.mlawtake T.flawtake.kp T.blawtake .nil pass0 (pa_n (pv 0) (pa_n pe_int pa_nil))) (pa_n (pe_op op_sub (pe_op op_pow pe_int pe_int) (pe_call (ok_lawtake T) (hr.mono (by omega)) rfl T.mlawtake T.flawtake.kp T.blawtake .nil pass0 (pa_n (pv 0) (pa_n pe_int pa_nil)))) (pa_n (pe_call (ok_lawtake T) (hr.mono (by omega)) rfl T.mlawtake T.flawtake.kp T.blawtake .nil pass0 (pa_n (pv 0) (pa_n (pe_op op_addC (pe_op op_pow pe_int pe_int) pe_int) pa_nil))) pa_nil)))) (pe_call (ok_lawtake T) (hr.mono (by omega)) rfl T.mlawtake T.flawtake.kp T.blawtake .nil pass0 (pa_n (pv 0) (pa_n pe_int pa_nil))) (fun _ _ => rfl)))), ?_⟩
    try dsimp only [L2.start, m_cons, m_nil, List.cons_append, List.nil_append, List.replicate_succ, List.replicate_zero, List.length_cons, List.length_nil, Nat.reduceAdd, Nat.reduceSub, Nat.zero_add]
    wp_walk
    refine ⟨hR, fun g1 H1 a1 b1 R1 K1 => ⟨R1, fun g2 H2 a2 b2 R2 K2 => ⟨R2, fun g3 H3 a3 b3 R3 K3 p hp => ⟨R3.new hp, fun g4 H4 a4 b4 R4 K4 => ?_⟩⟩⟩⟩
    wp_walk using K4.madeJ R3 hp
    refine r_draw a4 b4 fun v hv => ?_
    wp_walk
    have K := ((K1.trans K2).trans K3).trans ((Kp.new hp).trans K4)
    simp only [List.mem_cons, List.not_mem_nil, or_false] at hv
    rcases hv with rfl | rfl | rfl <;> exact q _ _ (by omega) (by omega) R4 K
theorem ok_lawworth {t : Ad} (T : Tx w K mg t) : FnOk P w K mg base CX0 2 t.alawworth t.dlawworth ["jar"] spJWorth := by
  refine T.flawworth.ok sc_lawworth (fun vs H Q E h => ?_) (fun cdv A outer s H vs Q E hr h => ?_)
  · obtain ⟨r, rfl, _⟩ := h
    rfl
  · obtain ⟨r, rfl, hR, q⟩ := h
    refine ⟨_, (pss_cons (ps_set (i := 1) sc_lawworth.nd rfl (Or.inl rfl) (pe_op op_sub (pe_call (ok_lawtake T) (hr.mono (by omega)) rfl T.mlawtake T.flawtake.kp T.blawtake .nil pass0 (pa_n (pv 0) (pa_n (pe_op op_addC (pe_op op_mul pe_int (pe_op op_pow pe_int pe_int)) pe_int) pa_nil))) (pe_op op_pow pe_int pe_int)))
      (pss_one (ps_ret (pe_ix ix_c (pe_lst (pa_n pe_non (pa_n pe_int (pa_n pe_int (pa_n pe_int (pa_n pe_int (pa_n (pe_un un_neg pe_int) (pa_n (pe_op op_pow pe_int pe_int) (pa_n (pv 1) pa_nil))))))))) (pe_call (ok_lawtake T) (hr.mono (by omega)) rfl T.mlawtake T.flawtake.kp T.blawtake .nil pass0 (pa_n (pv 0) (pa_n pe_int pa_nil))) (fun _ _ => rfl))))), ?_⟩
    try dsimp only [L2.start, m_cons, m_nil, List.cons_append, List.nil_append, List.replicate_succ, List.replicate_zero, List.length_cons, List.length_nil, Nat.reduceAdd, Nat.reduceSub, Nat.zero_add]
    wp_walk
    refine ⟨hR, fun g H1 a1 b1 R1 K1 p hp => ⟨R1.new hp, fun g2 H2 a2 b2 R2 K2 => ?_⟩⟩
    wp_walk using K2.madeJ R1 hp
    refine r_draw a2 b2 fun v hv => ?_
    wp_walk
    have K := K1.trans ((Kp.new hp).trans K2)
    simp only [List.mem_cons, List.not_mem_nil, or_false] at hv
    rcases hv with rfl | rfl | rfl | rfl | rfl | rfl | rfl | rfl
    · exact q none _ isWo_non R2 K
    all_goals exact q (some _) _ (isWo_int (by omega) (by omega)) R2 K
theorem ok_lawany {t : Ad} (T : Tx w K mg t) : FnOk P w K mg base CX0 3 t.alawany t.dlawany ["jar"] spAny := by
  refine T.flawany.ok sc_lawany (fun vs H Q E h => ?_) (fun cdv A outer s H vs Q E hr h => ?_)
  · obtain ⟨r, rfl, _⟩ := h
    rfl
  · obtain ⟨r, rfl, hR, q⟩ := h
    refine ⟨_, (pss_cons (ps_set (i := 1) sc_lawany.nd rfl (Or.inr rfl) pe_str)
      (pss_cons (ps_set (i := 2) sc_lawany.nd rfl (Or.inl rfl) (pe_bm PySem.F.plainAttrs_str PySem.F.slot_str_join PySem.F.type_str_join mt_join pe_str (pa_n (pe_comp (fr := [0, 1]) (N := ["k", "jar", "letters"]) rfl (fun _ _ h => h) (CompSc.free rfl rfl rfl rfl rfl (fun _ _ h => by first | exact h | exact look2 (by decide) h) rfl (by decide) rfl (fun j hj => by rcases (show j = 0 ∨ j = 1 by simpa using hj) with rfl | rfl <;> exact ⟨_, rfl, rfl, .inl rfl⟩)) (pi_range1 rfl T.zrange (pa_n (pe_op op_addC pe_int (pe_call (ok_lawtake T) (hr.mono (by omega)) rfl T.mlawtake T.flawtake.kp T.blawtake .nil pass0 (pa_n (pv 0) (pa_n pe_int pa_nil)))) pa_nil)) (fun C s H ex pn => ⟨pts_nil, (pe_ix ix_c (pv 2) (pe_call (ok_lawtake T) (hr.mono (by omega)) rfl T.mlawtake T.flawtake.kp T.blawtake .nil pass0 (pa_n (pv 1) (pa_n pe_int pa_nil))) (fun _ _ => rfl))⟩)) pa_nil)))
      (pss_cons (ps_if (pt_cmpR op_inC (pv 2) (pe_lst (pa_n pe_str (pa_n pe_str (pa_n pe_str (pa_n pe_str (pa_n pe_str (pa_n pe_str (pa_n pe_str (pa_n pe_str (pa_n pe_str (pa_n pe_str (pa_n pe_str (pa_n pe_str (pa_n pe_str pa_nil)))))))))))))) (by with_unfolding_all rfl)) (pss_one (ps_set (i := 2) sc_lawany.nd rfl (Or.inl rfl) pe_str)) pss_nil)
      (pss_cons (ps_if (pt_cmpR op_inC (pv 2) (pe_lst (pa_n pe_str (pa_n pe_str (pa_n pe_str (pa_n pe_str pa_nil))))) (by with_unfolding_all rfl)) (pss_one (ps_set (i := 2) sc_lawany.nd rfl (Or.inl rfl) pe_str)) pss_nil)
      (pss_cons (ps_set (i := 3) sc_lawany.nd rfl (Or.inl rfl) (pe_call (ok_lawtake T) (hr.mono (by omega)) rfl T.mlawtake T.flawtake.kp T.blawtake .nil pass0 (pa_n (pv 0) (pa_n pe_int pa_nil))))
      (pss_cons (ps_if (pt_cmpR op_eq (pv 3) pe_int (nomark _)) (pss_one (ps_ret (pe_tup (pa_n pe_str (pa_n (pe_call (ok_lawmoment T) (hr.mono (by omega)) rfl T.mlawmoment T.flawmoment.kp T.blawmoment .nil pass0 (pa_n (pv 0) pa_nil)) (pa_n (pe_call (ok_lawworth T) (hr.mono (by omega)) rfl T.mlawworth T.flawworth.kp T.blawworth .nil pass0 (pa_n (pv 0) pa_nil)) pa_nil)))))) pss_nil)
      (pss_cons (ps_if (pt_cmpR op_eq (pv 3) pe_int (nomark _)) (pss_cons (ps_set (i := 4) sc_lawany.nd rfl (Or.inl rfl) (pe_ix ix_c (pe_lst (pa_n (pe_call (ok_lawtake T) (hr.mono (by omega)) rfl T.mlawtake T.flawtake.kp T.blawtake .nil pass0 (pa_n (pv 0) (pa_n pe_int pa_nil))) (pa_n (pe_op op_sub (pe_op op_pow pe_int pe_int) (pe_call (ok_lawtake T) (hr.mono (by omega)) rfl T.mlawtake T.flawtake.kp T.blawtake .nil pass0 (pa_n (pv 0) (pa_n pe_int pa_nil)))) (pa_n (pe_call (ok_lawtake T) (hr.mono (by omega)) rfl T.mlawtake T.flawtake.kp T.blawtake .nil pass0 (pa_n (pv 0) (pa_n (pe_op op_addC (pe_op op_pow pe_int pe_int) pe_int) pa_nil))) pa_nil)))) (pe_call (ok_lawtake T) (hr.mono (by omega)) rfl T.mlawtake T.flawtake.kp T.blawtake .nil pass0 (pa_n (pv 0) (pa_n pe_int pa_nil))) (fun _ _ => rfl)))
      (pss_one (ps_ret (pe_tup (pa_n pe_str (pa_n (pe_call (ok_lawmoment T) (hr.mono (by omega)) rfl T.mlawmoment T.flawmoment.kp T.blawmoment .nil pass0 (pa_n (pv 0) pa_nil)) (pa_n (pv 4) (pa_n (pe_call (ok_lawworth T) (hr.mono (by omega)) rfl T.mlawworth T.flawworth.kp T.blawworth .nil pass0 (pa_n (pv 0) pa_nil)) pa_nil)))))))) pss_nil)
      (pss_one (ps_ret (pe_tup (pa_n pe_str (pa_n (pe_call (ok_lawmoment T) (hr.mono (by omega)) rfl T.mlawmoment T.flawmoment.kp T.blawmoment .nil pass0 (pa_n (pv 0) pa_nil)) (pa_n (pv 2) (pa_n (pe_call (ok_lawworth T) (hr.mono (by omega)) rfl T.mlawworth T.flawworth.kp T.blawworth .nil pass0 (pa_n (pv 0) pa_nil)) pa_nil)))))))))))))), ?_⟩
    try dsimp only [L2.start, m_cons, m_nil, List.cons_append, List.nil_append, List.replicate_succ, List.replicate_zero, List.length_cons, List.length_nil, Nat.reduceAdd, Nat.reduceSub, Nat.zero_add]
    wp_walk
    refine ⟨hR, fun g H1 a1 b1 R1 K1 => ?_⟩
    wp_walk
    refine ⟨⟨by omega, by omega⟩, ?_⟩
    refine lc_range (lo := 0) (fun j xs G => ∃ cs : List Nat, xs = (chrs cs).map V.str ∧ (cs.length = j ∧ j ≤ 6) ∧ (∀ c ∈ cs, (decide (97 ≤ c) && decide (c ≤ 122)) = true) ∧ JarAt G r ∧ Kp [r] H1 G) ⟨[], rfl, ⟨rfl, by decide⟩, by simp, R1, Kp.refl⟩ ?_ ?_ ?_
    · rintro j xs G ⟨cs, rfl, ⟨rfl, _⟩, _⟩
      simp only [chrs, List.length_map]
      omega
    · rintro j xs G hj ⟨cs, rfl, ⟨hl, hl6⟩, hc, R, K⟩
      wp_walk using compSt, Option.join_some
      refine ⟨R, fun g6 H6 a6 b6 R6 K6 => ⟨by rw [jabc.1]; decide, ?_⟩⟩
      refine r_drawS a6 (by rw [jabc.1]; omega) fun c hcm => ?_
      refine ⟨cs ++ [c], by simp [chrs], ⟨by simp [hl], by omega⟩, fun z hz => ?_, R6, K.trans K6⟩
      rcases List.mem_append.mp hz with hz | hz
      · exact hc z hz
      · rw [show z = c by simpa using hz]
        exact jabc.2 c hcm
    rintro xs G ⟨cs, rfl, ⟨hl, hl6⟩, hc, R, K⟩ l hl2
    have K2 := (K1.trans K).trans (Kp.new (o := .lst ((chrs cs).map V.str)) hl2)
    have R2 := R.new (o := .lst ((chrs cs).map V.str)) hl2
    wp_walk
    refine ⟨chrs_small (by omega), ?_⟩
    generalize upd G l (.lst ((chrs cs).map V.str)) = G2 at *
    refine fun p3 hp3 => ⟨rfl, w13_flat.1, ?_⟩
    have K3 := K2.trans (Kp.new (o := .lst w13) hp3)
    have R3 := R2.new (o := .lst w13) hp3
    split
    · refine fun p4 hp4 => ⟨rfl, w13_flat.2, ?_⟩
      have K4 := K3.trans (Kp.new (o := .lst w4) hp4)
      have R4 := R3.new (o := .lst w4) hp4
      simp only [x_w4]
      wp_walk
      refine ⟨R4, fun g5 H5 a5 b5 R5 K5 => ?_⟩
      have KK := K4.trans K5
      split
      · refine ⟨R5, fun m6 H6 m60 m61 R6 K6 => ⟨R6, fun w7 H7 hw7 R7 K7 p8 hp8 => ?_⟩⟩
        exact q _ (.beg m6 w7) _ ⟨p8, rfl, upd_same⟩ ⟨⟨m60, m61⟩, hw7⟩ (R7.new hp8) (((KK.trans K6).trans K7).trans (Kp.new hp8))
      split
      · refine ⟨R5, fun g6 H6 a6 b6 R6 K6 => ⟨R6, fun g7 H7 a7 b7 R7 K7 => ⟨R7, fun g8 H8 a8 b8 R8 K8 p9 hp9 => ⟨R8.new hp9, fun gA HA aA bA RA KA => ?_⟩⟩⟩⟩
        wp_walk using KA.madeJ R8 hp9
        refine r_draw aA bA fun v hv => ?_
        wp_walk
        obtain ⟨tk, rfl, t0, t1⟩ : ∃ tk : Int, v = .int tk ∧ 0 ≤ tk ∧ tk ≤ 1000000000 := by
          simp only [List.mem_cons, List.not_mem_nil, or_false] at hv
          rcases hv with rfl | rfl | rfl <;> exact ⟨_, rfl, by omega, by omega⟩
        refine ⟨RA, fun mB HB mB0 mB1 RB KB => ⟨RB, fun wC HC hwC RC KC pD hpD => ?_⟩⟩
        exact q _ (.don mB tk wC) _ ⟨pD, rfl, upd_same⟩ ⟨⟨mB0, mB1⟩, ⟨t0, t1⟩, hwC⟩ (RC.new hpD) (((((((KK.trans K6).trans K7).trans K8).trans ((Kp.new hp9).trans KA)).trans KB).trans KC).trans (Kp.new hpD))
      · refine ⟨R5, fun m6 H6 m60 m61 R6 K6 => ⟨R6, fun w7 H7 hw7 R7 K7 p8 hp8 => ?_⟩⟩
        exact q _ (.ltr m6 _ w7) _ ⟨p8, rfl, upd_same⟩ ⟨⟨m60, m61⟩, nm_x.1, hw7⟩ (R7.new hp8) (((KK.trans K6).trans K7).trans (Kp.new hp8))
    · next nin =>
      refine fun p4 hp4 => ⟨rfl, w13_flat.2, ?_⟩
      have K4 := K3.trans (Kp.new (o := .lst w4) hp4)
      have R4 := R3.new (o := .lst w4) hp4
      split
      · wp_walk
        refine ⟨R4, fun g5 H5 a5 b5 R5 K5 => ?_⟩
        have KK := K4.trans K5
        split
        · refine ⟨R5, fun m6 H6 m60 m61 R6 K6 => ⟨R6, fun w7 H7 hw7 R7 K7 p8 hp8 => ?_⟩⟩
          exact q _ (.beg m6 w7) _ ⟨p8, rfl, upd_same⟩ ⟨⟨m60, m61⟩, hw7⟩ (R7.new hp8) (((KK.trans K6).trans K7).trans (Kp.new hp8))
        split
        · refine ⟨R5, fun g6 H6 a6 b6 R6 K6 => ⟨R6, fun g7 H7 a7 b7 R7 K7 => ⟨R7, fun g8 H8 a8 b8 R8 K8 p9 hp9 => ⟨R8.new hp9, fun gA HA aA bA RA KA => ?_⟩⟩⟩⟩
          wp_walk using KA.madeJ R8 hp9
          refine r_draw aA bA fun v hv => ?_
          wp_walk
          obtain ⟨tk, rfl, t0, t1⟩ : ∃ tk : Int, v = .int tk ∧ 0 ≤ tk ∧ tk ≤ 1000000000 := by
            simp only [List.mem_cons, List.not_mem_nil, or_false] at hv
            rcases hv with rfl | rfl | rfl <;> exact ⟨_, rfl, by omega, by omega⟩
          refine ⟨RA, fun mB HB mB0 mB1 RB KB => ⟨RB, fun wC HC hwC RC KC pD hpD => ?_⟩⟩
          exact q _ (.don mB tk wC) _ ⟨pD, rfl, upd_same⟩ ⟨⟨mB0, mB1⟩, ⟨t0, t1⟩, hwC⟩ (RC.new hpD) (((((((KK.trans K6).trans K7).trans K8).trans ((Kp.new hp9).trans KA)).trans KB).trans KC).trans (Kp.new hpD))
        · refine ⟨R5, fun m6 H6 m60 m61 R6 K6 => ⟨R6, fun w7 H7 hw7 R7 K7 p8 hp8 => ?_⟩⟩
          exact q _ (.ltr m6 _ w7) _ ⟨p8, rfl, upd_same⟩ ⟨⟨m60, m61⟩, nm_x.2, hw7⟩ (R7.new hp8) (((KK.trans K6).trans K7).trans (Kp.new hp8))
      · next nin4 =>
        have nk := key_ok (by omega) (by omega) hc nin nin4
        wp_walk
        refine ⟨R4, fun g5 H5 a5 b5 R5 K5 => ?_⟩
        have KK := K4.trans K5
        split
        · refine ⟨R5, fun m6 H6 m60 m61 R6 K6 => ⟨R6, fun w7 H7 hw7 R7 K7 p8 hp8 => ?_⟩⟩
          exact q _ (.beg m6 w7) _ ⟨p8, rfl, upd_same⟩ ⟨⟨m60, m61⟩, hw7⟩ (R7.new hp8) (((KK.trans K6).trans K7).trans (Kp.new hp8))
        split
        · refine ⟨R5, fun g6 H6 a6 b6 R6 K6 => ⟨R6, fun g7 H7 a7 b7 R7 K7 => ⟨R7, fun g8 H8 a8 b8 R8 K8 p9 hp9 => ⟨R8.new hp9, fun gA HA aA bA RA KA => ?_⟩⟩⟩⟩
          wp_walk using KA.madeJ R8 hp9
          refine r_draw aA bA fun v hv => ?_
          wp_walk
          obtain ⟨tk, rfl, t0, t1⟩ : ∃ tk : Int, v = .int tk ∧ 0 ≤ tk ∧ tk ≤ 1000000000 := by
            simp only [List.mem_cons, List.not_mem_nil, or_false] at hv
            rcases hv with rfl | rfl | rfl <;> exact ⟨_, rfl, by omega, by omega⟩
          refine ⟨RA, fun mB HB mB0 mB1 RB KB => ⟨RB, fun wC HC hwC RC KC pD hpD => ?_⟩⟩
          exact q _ (.don mB tk wC) _ ⟨pD, rfl, upd_same⟩ ⟨⟨mB0, mB1⟩, ⟨t0, t1⟩, hwC⟩ (RC.new hpD) (((((((KK.trans K6).trans K7).trans K8).trans ((Kp.new hp9).trans KA)).trans KB).trans KC).trans (Kp.new hpD))
        · refine ⟨R5, fun m6 H6 m60 m61 R6 K6 => ⟨R6, fun w7 H7 hw7 R7 K7 p8 hp8 => ?_⟩⟩
          exact q _ (.ltr m6 _ w7) _ ⟨p8, rfl, upd_same⟩ ⟨⟨m60, m61⟩, nk, hw7⟩ (R7.new hp8) (((KK.trans K6).trans K7).trans (Kp.new hp8))
theorem ok_issmallletter {t : Ad} (T : Tx w K mg t) : FnOk P w K mg base CX0 1 t.aissmallletter t.dissmallletter ["sign"] spLet := by
  refine T.fissmallletter.ok sc_issmallletter (fun vs H Q E h => ?_) (fun cdv A outer s H vs Q E hr h => ?_)
  · obtain ⟨c, rfl, _⟩ := h
    rfl
  · obtain ⟨c, rfl, q⟩ := h
    refine ⟨_, (pss_one (ps_ret (pe_chain op_leS op_leS pe_str (pv 0) pe_str))), ?_⟩
    try dsimp only [L2.start, m_cons, m_nil, List.cons_append, List.nil_append, List.replicate_succ, List.replicate_zero, List.length_cons, List.length_nil, Nat.reduceAdd, Nat.reduceSub, Nat.zero_add]
    wp_walk
    have e1 : (([c] : List Nat) < ("a" : Str).cps.toList) = (c < 97) := by
      show (([c] : List Nat) < [97]) = _
      have := lt_one c 97
      rw [Bool.eq_iff_iff, decide_eq_true_eq, decide_eq_true_eq] at this
      exact propext this
    have e2 : (!decide (("z" : Str).cps.toList < ([c] : List Nat))) = decide (c ≤ 122) := by
      show (!decide (([122] : List Nat) < [c])) = _
      rw [lt_one, Bool.eq_iff_iff]
      simp
    rw [e2]
    simp only [e1]
    split
    · next h =>
      rw [show decide (97 ≤ c) = false by simp; omega, Bool.false_and] at q
      exact q
    · next h =>
      rw [show decide (97 ≤ c) = true by simp; omega, Bool.true_and] at q
      exact q
theorem ok_isname {t : Ad} (T : Tx w K mg t) : FnOk P w K mg base CX0 2 t.aisname t.disname ["thing"] spIsName := by
  refine T.fisname.ok sc_isname (fun vs H Q E h => ?_) (fun cdv A outer s H vs Q E hr h => ?_)
  · obtain ⟨x, rfl, _⟩ := h
    rfl
  · obtain ⟨x, rfl, hx, q⟩ := h
    refine ⟨_, (pss_cons (ps_if (PW.pt (pw_or (pt_not (pt_val (pe_callB call_isiC rfl T.zisinstance bt_isinstance (pa_n (pv 0) (pa_n (pe_bltn (v := .ty "str") rfl T.zstr bt_str rfl) pa_nil))))) (pw_or1 (pt_not (pt_chain op_le op_le pe_int (pe_callB call_lenC rfl T.zlen bt_len (pa_n (pv 0) pa_nil)) (pe_glob (v := .int 6) rfl T.cLONGESTNAME ⟨_, rfl⟩)))))) (pss_one (ps_ret pe_bl)) pss_nil)
      (pss_one (ps_ret (pe_and (pe_cmpR op_notInK (pv 0) (pe_glob (v := .ref t.kOWNWORDS) rfl T.cOWNWORDS rfl) (by with_unfolding_all rfl)) (pe_one (pe_callB (call_allC rfl) rfl T.zall bt_all (pa_n (pe_comp (cl := []) (fr := []) (N := ["sign"]) rfl (fun _ _ h => h) (CompSc.nofree rfl rfl rfl rfl) (pi_str (pv 0)) (fun C s H ex pn => ⟨pts_nil, (pe_call (ok_issmallletter T) (hr.mono (by omega)) rfl T.missmallletter T.fissmallletter.kp T.bissmallletter .nil pass0 (pa_n (pv 0) pa_nil))⟩)) pa_nil))))))), ?_⟩
    try dsimp only [L2.start, m_cons, m_nil, List.cons_append, List.nil_append, List.replicate_succ, List.replicate_zero, List.length_cons, List.length_nil, Nat.reduceAdd, Nat.reduceSub, Nat.zero_add]
    have hB : nmB x = (decide (1 ≤ x.length) && (decide (x.length ≤ 6) && (x.cps.toList.all (fun c => decide (97 ≤ c) && decide (c ≤ 122)) && !inV (.str x) ownW))) := rfl
    wp_walk
    refine ⟨by omega, ?_⟩
    by_cases c1 : (1 : Int) ≤ (x.length : Int)
    case neg =>
      rw [if_neg c1]
      wp_walk
      rw [hB, show decide (1 ≤ x.length) = false by simp; omega, Bool.false_and] at q
      exact q _ Kp.refl
    rw [if_pos c1]
    wp_walk
    by_cases c2 : (x.length : Int) ≤ 6
    case neg =>
      rw [if_neg c2]
      rw [hB, show decide (x.length ≤ 6) = false by simp; omega, Bool.false_and, Bool.and_false] at q
      exact q _ Kp.refl
    rw [if_pos c2]
    rw [show decide (1 ≤ x.length) = true by simp; omega, show decide (x.length ≤ 6) = true by simp; omega, Bool.true_and, Bool.true_and] at hB
    refine ⟨ownW, T.qOWNWORDS H, rfl, own17, ?_⟩
    by_cases c3 : inV (.str x) ownW = true
    · rw [c3]
      wp_walk
      rw [hB, c3, Bool.not_true, Bool.and_false] at q
      exact q _ Kp.refl
    · rw [show inV (.str x) ownW = false from by simpa using c3]
      wp_walk
      refine lc_str (fun i xs G => xs = ((x.cps.toList.take i).map fun c => decide (97 ≤ c) && decide (c ≤ 122)).map V.bl ∧ Kp [] H G) ⟨rfl, Kp.refl⟩ ?_ ?_ ?_
      · rintro i xs G ⟨rfl, _⟩
        simp only [List.length_map, List.length_take, Array.length_toList]
        have : x.cps.size = x.length := rfl
        omega
      · rintro i c xs G hi hc ⟨rfl, k⟩
        wp_walk using compSt
        refine ⟨?_, k⟩
        have e : x.cps.toList[i]? = some c := by simpa using hc
        rw [List.take_add_one, e]
        simp
      · rintro xs G ⟨rfl, k⟩ l hl
        wp_walk
        rw [show x.cps.toList.take x.cps.size = x.cps.toList by rw [← Array.length_toList, List.take_length]]
        rw [hB, show inV (.str x) ownW = false from by simpa using c3, Bool.not_false, Bool.and_true] at q
        have := q _ (k.trans (Kp.new (o := .lst ((x.cps.toList.map fun c => decide (97 ≤ c) && decide (c ≤ 122)).map V.bl)) hl))
        rw [List.all_map]
        exact this
theorem ok_isfigure {t : Ad} (T : Tx w K mg t) : FnOk P w K mg base CX0 1 t.aisfigure t.disfigure ["sign"] spFig := by
  refine T.fisfigure.ok sc_isfigure (fun vs H Q E h => ?_) (fun cdv A outer s H vs Q E hr h => ?_)
  · obtain ⟨c, rfl, _⟩ := h
    rfl
  · obtain ⟨c, rfl, q⟩ := h
    refine ⟨_, (pss_one (ps_ret (pe_chain op_leS op_leS pe_str (pv 0) pe_str))), ?_⟩
    try dsimp only [L2.start, m_cons, m_nil, List.cons_append, List.nil_append, List.replicate_succ, List.replicate_zero, List.length_cons, List.length_nil, Nat.reduceAdd, Nat.reduceSub, Nat.zero_add]
    wp_walk
    have e1 : (([c] : List Nat) < ("0" : Str).cps.toList) = (c < 48) := by
      show (([c] : List Nat) < [48]) = _
      have := lt_one c 48
      rw [Bool.eq_iff_iff, decide_eq_true_eq, decide_eq_true_eq] at this
      exact propext this
    have e2 : (!decide (("9" : Str).cps.toList < ([c] : List Nat))) = decide (c ≤ 57) := by
      show (!decide (([57] : List Nat) < [c])) = _
      rw [lt_one, Bool.eq_iff_iff]
      simp
    rw [e2]
    simp only [e1]
    split
    · next h =>
      rw [show decide (48 ≤ c) = false by simp; omega, Bool.false_and] at q
      exact q
    · next h =>
      rw [show decide (48 ≤ c) = true by simp; omega, Bool.true_and] at q
      exact q
theorem ok_isnumberword {t : Ad} (T : Tx w K mg t) : FnOk P w K mg base CX0 2 t.aisnumberword t.disnumberword ["word", "least", "greatest"] spIsNum := by
  refine T.fisnumberword.ok sc_isnumberword (fun vs H Q E h => ?_) (fun cdv A outer s H vs Q E hr h => ?_)
  · obtain ⟨x, lo, hi, rfl, _⟩ := h
    rfl
  · obtain ⟨x, lo, hi, rfl, hx, hb, q⟩ := h
    refine ⟨_, (pss_cons (ps_set (i := 3) sc_isnumberword.nd rfl (Or.inl rfl) (pe_ifExp (pt_val (pe_bm PySem.F.plainAttrs_str PySem.F.slot_str_startswith PySem.F.type_str_startswith mt_startswith (pv 0) (pa_n pe_str pa_nil))) (pe_slice sl_c (pv 0) (po_some pe_int) po_none) (pv 0)))
      (pss_cons (ps_if (pt_not (pt_chain op_le op_le pe_int (pe_callB call_lenC rfl T.zlen bt_len (pa_n (pv 3) pa_nil)) (pe_callB call_lenC rfl T.zlen bt_len (pa_n (pe_callTy call_strC rfl T.zstr bt_str (pa_n (pe_callB (call_maxC rfl) rfl T.zmax bt_max (pa_n (pe_un un_neg (pv 1)) (pa_n (pv 2) pa_nil))) pa_nil)) pa_nil)))) (pss_one (ps_ret pe_bl)) pss_nil)
      (pss_cons (ps_if (PW.pt (pw_or (pt_not (pt_val (pe_callB (call_allC rfl) rfl T.zall bt_all (pa_n (pe_comp (cl := []) (fr := []) (N := ["sign"]) rfl (fun _ _ h => h) (CompSc.nofree rfl rfl rfl rfl) (pi_str (pv 3)) (fun C s H ex pn => ⟨pts_nil, (pe_call (ok_isfigure T) (hr.mono (by omega)) rfl T.misfigure T.fisfigure.kp T.bisfigure .nil pass0 (pa_n (pv 0) pa_nil))⟩)) pa_nil)))) (pw_or1 (PW.pt (pw_and (pt_cmpR op_eq (pe_ix ix_c (pv 3) pe_int (fun _ _ => rfl)) pe_str (nomark _)) (pw_and1 (pt_cmpR op_ne (pv 0) pe_str (nomark _)))))))) (pss_one (ps_ret pe_bl)) pss_nil)
      (pss_one (ps_ret (pe_chain op_le op_le (pv 1) (pe_callTy call_intT rfl T.zint bt_int (pa_n (pv 0) pa_nil)) (pv 2))))))), ?_⟩
    try dsimp only [L2.start, m_cons, m_nil, List.cons_append, List.nil_append, List.replicate_succ, List.replicate_zero, List.length_cons, List.length_nil, Nat.reduceAdd, Nat.reduceSub, Nat.zero_add]
    wp_walk
    have fin : ∀ (b : Bool) (G : Hp), Kp [] H G → b = numW x lo hi → Q (.bl b) G := fun b G k e => by rw [e]; exact q G k
    have hW : numW x lo hi = (decide (1 ≤ (figL x.cps.toList).length) && decide ((figL x.cps.toList).length ≤ (Str.ofString (toString (if hi > -lo then hi else -lo))).length) && (figL x.cps.toList).all (fun c => decide (48 ≤ c) && decide (c ≤ 57)) && !(decide ((figL x.cps.toList)[0]? = some 48) && !decide (x = Str.ofString "0")) && (match intText? x with | some v => decide (lo ≤ v) && decide (v ≤ hi) | none => false)) := rfl
    have M0 : 0 ≤ (if hi > -lo then hi else -lo) ∧ (if hi > -lo then hi else -lo) < 10 ^ 40 := by split <;> omega
    have Mlog : (if hi > -lo then hi else -lo).natAbs.log2 < 1920 := glog M0.1 M0.2
    have Mlen : (Str.ofString (toString (if hi > -lo then hi else -lo))).length ≤ 40 := glen M0.1 M0.2
    have ef0 := figL_eq x
    have ns := num_some (x := x)
    have fl := figL_len x.cps.toList
    generalize (if hi > -lo then hi else -lo) = M at *
    generalize (Str.ofString (toString M)).length = L at *
    generalize figL x.cps.toList = F at *
    have lS := slice_len x (some 1) none
    generalize Txt.slice x (some 1) none = z1 at *
    apply ite_two z1 x
    · exact fun _ => ⟨by omega, by omega⟩
    · exact fun _ => by omega
    intro z hz
    have lz : z.length ≤ x.length := by rw [hz]; split <;> omega
    have ef : z.cps.toList = F := by rw [hz, ← ef0]; first | done | (split <;> rfl)
    have lf : (z).length = F.length := by rw [← ef, Array.length_toList]; rfl
    by_cases c1 : (1 : Int) ≤ ((z).length : Int)
    case neg =>
      rw [if_neg c1]
      exact fin false H Kp.refl (by rw [hW, decide_eq_false (show ¬ 1 ≤ F.length by omega)]; rfl)
    rw [if_pos c1]
    refine ⟨Mlog, by omega, ?_⟩
    by_cases c2 : ((z).length : Int) ≤ (L : Int)
    case neg =>
      rw [if_neg c2]
      exact fin false H Kp.refl (by rw [hW, decide_eq_true (show 1 ≤ F.length by omega), decide_eq_false (show ¬ F.length ≤ L by omega)]; rfl)
    rw [if_pos c2]
    rw [decide_eq_true (show 1 ≤ F.length by omega), decide_eq_true (show F.length ≤ L by omega), Bool.true_and, Bool.true_and] at hW
    refine lc_str (fun i xs G => xs = (((z).cps.toList.take i).map fun c => decide (48 ≤ c) && decide (c ≤ 57)).map V.bl ∧ Kp [] H G) ⟨rfl, Kp.refl⟩ ?_ ?_ ?_
    · rintro i xs G ⟨rfl, _⟩
      simp only [List.length_map, List.length_take, Array.length_toList]
      have : (z).cps.size = (z).length := rfl
      omega
    · rintro i c xs G hi hc ⟨rfl, k⟩
      wp_walk using compSt
      refine ⟨?_, k⟩
      have e : (z).cps.toList[i]? = some c := by simpa using hc
      rw [List.take_add_one, e]
      simp
    · rintro xs G ⟨rfl, k⟩ l hl
      rw [show (z).cps.toList.take (z).cps.size = F by rw [← Array.length_toList, List.take_length, ef]]
      have KN := k.trans (Kp.new (S := []) (o := .lst ((F.map fun c => decide (48 ≤ c) && decide (c ≤ 57)).map V.bl)) hl)
      have el : upd G l (.lst ((F.map fun c => decide (48 ≤ c) && decide (c ≤ 57)).map V.bl)) l = some (.lst ((F.map fun c => decide (48 ≤ c) && decide (c ≤ 57)).map V.bl)) := upd_same
      generalize upd G l (.lst ((F.map fun c => decide (48 ≤ c) && decide (c ≤ 57)).map V.bl)) = G2 at *
      wp_walk using el
      rw [List.all_map, show ((id ∘ fun c => decide (48 ≤ c) && decide (c ≤ 57)) : Nat → Bool) = fun c => decide (48 ≤ c) && decide (c ≤ 57) from rfl]
      by_cases c3 : F.all (fun c => decide (48 ≤ c) && decide (c ≤ 57)) = true
      case neg =>
        rw [Bool.not_eq_true] at c3
        rw [c3]
        wp_walk
        exact fin false _ KN (by rw [hW, c3]; rfl)
      rw [c3]
      rw [c3, Bool.true_and] at hW
      wp_walk
      refine ⟨by omega, ?_⟩
      have ad : ∀ c ∈ F, 48 ≤ c ∧ c ≤ 57 := fun c hc => by have := List.all_eq_true.mp c3 c hc; simpa using this
      have lxx : x.length = x.cps.toList.length := by rw [Array.length_toList]; rfl
      have lx : x.length ≤ 640 := by omega
      cases F with
      | nil => simp at lf; omega
      | cons c0 r0 =>
        obtain ⟨nv, hnv⟩ := ns ad (by simp) (by omega)
        rw [ef]
        wp_walk using hnv
        have hz : ((⟨#[c0]⟩ : Str) = Str.ofString "0") = (c0 = 48) := propext ⟨fun z => by have := congrArg (fun y : Str => y.cps.toList) z; rw [nl_cps.2.2.2.1] at this; simpa using this, fun z => by rw [z, nl_cps.2.2.2.1]⟩
        rw [hnv] at hW
        simp only [List.getElem?_cons_zero, Option.some.injEq] at hW
        have last : (!(decide (c0 = 48) && !decide (x = Str.ofString "0"))) = true → (if lo ≤ nv then Q (.bl (decide (nv ≤ hi))) G2 else Q (.bl false) G2) := fun ht => by
          rw [ht, Bool.true_and] at hW
          split
          · next hlo => exact fin _ _ KN (by rw [hW, decide_eq_true hlo, Bool.true_and])
          · next hlo => exact fin _ _ KN (by rw [hW, decide_eq_false hlo, Bool.false_and])
        simp only [hz]
        split
        · next h0 =>
          split
          · next hx0 => exact ⟨lx, last (by simp [hx0])⟩
          · next hx0 => exact fin false _ KN (by rw [hW]; simp [h0, hx0])
        · next h0 => exact ⟨lx, last (by simp [h0])⟩
theorem ok_iswordof {t : Ad} (T : Tx w K mg t) : FnOk P w K mg base CX0 3 t.aiswordof t.diswordof ["kind", "word"] spWO25 := by
  refine T.fiswordof.ok sc_iswordof (fun vs H Q E h => ?_) (fun cdv A outer s H vs Q E hr h => ?_)
  · obtain ⟨k, x, rfl, _⟩ := h
    rfl
  · obtain ⟨k, x, rfl, lx, q⟩ := h
    refine ⟨_, (pss_cons (ps_if (pt_cmpR op_eq (pv 0) pe_str (nomark _)) (pss_one (ps_ret (pe_call (ok_isname T) (hr.mono (by omega)) rfl T.misname T.fisname.kp T.bisname .nil pass0 (pa_n (pv 1) pa_nil)))) pss_nil)
      (pss_cons (ps_if (pt_cmpR op_eq (pv 0) pe_str (nomark _)) (pss_one (ps_ret (pe_call (ok_isnumberword T) (hr.mono (by omega)) rfl T.misnumberword T.fisnumberword.kp T.bisnumberword .nil pass0 (pa_n (pv 1) (pa_n pe_int (pa_n (pe_glob (v := .int 1000000000000) rfl T.cGREATESTMOMENT ⟨_, rfl⟩) pa_nil)))))) pss_nil)
      (pss_cons (ps_if (pt_cmpR op_eq (pv 0) pe_str (nomark _)) (pss_one (ps_ret (pe_call (ok_isnumberword T) (hr.mono (by omega)) rfl T.misnumberword T.fisnumberword.kp T.bisnumberword .nil pass0 (pa_n (pv 1) (pa_n pe_int (pa_n (pe_glob (v := .int 1000000000) rfl T.cGREATESTTICKET ⟨_, rfl⟩) pa_nil)))))) pss_nil)
      (pss_cons (ps_if (pt_cmpR op_eq (pv 0) pe_str (nomark _)) (pss_one (ps_ret (pe_call (ok_isnumberword T) (hr.mono (by omega)) rfl T.misnumberword T.fisnumberword.kp T.bisnumberword .nil pass0 (pa_n (pv 1) (pa_n (pe_op op_sub pe_int (pe_op op_pow pe_int pe_int)) (pa_n (pe_op op_sub (pe_op op_pow pe_int pe_int) pe_int) pa_nil)))))) pss_nil)
      (pss_one (ps_ret (pe_or (pe_cmpR op_eq (pv 1) pe_str (nomark _)) (pe_one (pe_call (ok_isnumberword T) (hr.mono (by omega)) rfl T.misnumberword T.fisnumberword.kp T.bisnumberword .nil pass0 (pa_n (pv 1) (pa_n (pe_un un_neg (pe_glob (v := .int 1000000000) rfl T.cGREATESTWORTH ⟨_, rfl⟩)) (pa_n (pe_glob (v := .int 1000000000) rfl T.cGREATESTWORTH ⟨_, rfl⟩) pa_nil)))))))))))), ?_⟩
    try dsimp only [L2.start, m_cons, m_nil, List.cons_append, List.nil_append, List.replicate_succ, List.replicate_zero, List.length_cons, List.length_nil, Nat.reduceAdd, Nat.reduceSub, Nat.zero_add]
    unfold wordB at q
    wp_walk
    by_cases h1 : k = "name"
    · simp only [if_pos h1] at q ⊢
      exact ⟨lx, q⟩
    simp only [if_neg h1] at q ⊢
    by_cases h2 : k = "moment"
    · simp only [if_pos h2] at q ⊢
      exact ⟨lx, q⟩
    simp only [if_neg h2] at q ⊢
    by_cases h3 : k = "ticket"
    · simp only [if_pos h3] at q ⊢
      exact ⟨lx, q⟩
    simp only [if_neg h3] at q ⊢
    by_cases h4 : k = "number"
    · simp only [if_pos h4] at q ⊢
      exact ⟨lx, q⟩
    simp only [if_neg h4] at q ⊢
    by_cases h5 : x = "-"
    · rw [if_pos h5]
      simp only [h5, decide_true, Bool.true_or] at q
      exact q _ Kp.refl
    · rw [if_neg h5]
      simp only [h5, decide_false, Bool.false_or] at q
      exact ⟨lx, q⟩
theorem ok_isrow {t : Ad} (T : Tx w K mg t) : FnOk P w K mg base CX0 5 t.aisrow t.disrow ["words", "kinds"] (spIR25 K) := by
  refine T.fisrow.ok sc_isrow (fun vs H Q E h => ?_) (fun cdv A outer s H vs Q E hr h => ?_)
  · obtain ⟨a, v, ws, rfl, _⟩ := h
    rfl
  · obtain ⟨a, v, ws, rfl, ea, lw, lx, q⟩ := h
    refine ⟨_, (pss_cons (ps_if (PW.pt (pw_or (pt_cmpR op_isC (pv 1) pe_non (nomark _)) (pw_or1 (pt_cmpR op_ne (pe_callB call_lenC rfl T.zlen bt_len (pa_n (pv 0) pa_nil)) (pe_op op_addC (pe_callB call_lenT rfl T.zlen bt_len (pa_n (pv 1) pa_nil)) pe_int) (nomark _))))) (pss_one (ps_ret pe_bl)) pss_nil)
      (pss_one (ps_ret (pe_callB (call_allC rfl) rfl T.zall bt_all (pa_n (pe_comp2 (cl := []) (fr := []) (N := ["kind", "word"]) rfl (fun _ _ h => h) (CompSc2.of (M := ["kind"]) (CompSc.nofree rfl rfl rfl rfl) rfl (by decide) rfl) (pi_zip rfl T.zzip (pa_n (pv 1) (pa_n (pe_slice sl_c (pv 0) (po_some pe_int) po_none) pa_nil))) (fun C s H ex pn => ⟨pts_nil, (pe_call (ok_iswordof T) (hr.mono (by omega)) rfl T.miswordof T.fiswordof.kp T.biswordof .nil pass0 (pa_n (pv 0) (pa_n (pv 1) pa_nil)))⟩)) pa_nil))))), ?_⟩
    try dsimp only [L2.start, m_cons, m_nil, List.cons_append, List.nil_append, List.replicate_succ, List.replicate_zero, List.length_cons, List.length_nil, Nat.reduceAdd, Nat.reduceSub, Nat.zero_add]
    rcases q with ⟨rfl, q⟩ | ⟨f, ks, rfl, hq, lk, q⟩
    · wp_walk
      exact q _ Kp.refl
    have lA : (ws.map V.str).length = ws.length := List.length_map _
    wp_walk using ea
    refine ⟨_, hq H, ?_⟩
    by_cases hl : ws.length = ks.length + 1
    · rw [if_pos (by rw [lA, List.length_map]; omega)]
      cases ws with
      | nil => simp at hl
      | cons w xs =>
        have l2 : xs.length = ks.length := by simpa using hl
        have eB : rowB (w :: xs) ks = (List.zipWith wordB ks xs).all id := by
          unfold rowB
          rw [decide_eq_true hl, Bool.true_and]
          exact allB_zip ks xs
        have lz : (List.zipWith wordB ks xs).length = ks.length := by rw [List.length_zipWith, l2, Nat.min_self]
        rw [eB] at q
        refine fun p1 h1 => ?_
        rw [List.map_cons, tail_cut]
        have N1 := Kp.new (S := []) (o := .lst (xs.map V.str)) h1
        have e1 : upd H p1 (.lst (xs.map V.str)) p1 = some (.lst (xs.map V.str)) := upd_same
        generalize upd H p1 (.lst (xs.map V.str)) = G1 at *
        refine ⟨true, false, ⟨_, hq G1⟩, ⟨_, SqL.of e1⟩, ?_⟩
        refine lc_zip (us := ks.map V.str) (vs := xs.map V.str) (by simp; omega) (fun j ys G => ys = ((List.zipWith wordB ks xs).take j).map V.bl ∧ Kp [] G1 G) ⟨rfl, Kp.refl⟩ ?_ ?_ ?_ ?_
        · rintro j ys G ⟨rfl, _⟩
          simp only [List.length_map, List.length_take, lz]
          omega
        · rintro j ys G ⟨_, k⟩
          exact ⟨hq G, SqL.of (k.at e1)⟩
        · rintro j y y2 ys G hj hy hy2 ⟨rfl, k⟩ p2 h2
          obtain ⟨kd, hk, rfl⟩ := getMap hy
          obtain ⟨wd, hw, rfl⟩ := getMap hy2
          wp_walk using compSt, Option.join_some
          refine ⟨kd, wd, rfl, lx wd (by simp [List.mem_of_getElem? hw]), fun H3 K3 => ?_⟩
          refine ⟨?_, (k.trans (Kp.new h2)).trans K3⟩
          rw [take_snocS (show (List.zipWith wordB ks xs)[j]? = some (wordB kd wd) by rw [List.getElem?_zipWith, hk, hw]), List.map_append]
          rfl
        · rintro ys G ⟨rfl, k⟩ l hl2
          rw [List.length_map, ← lz, List.take_length]
          have kn := (N1.trans k).trans (Kp.new (S := []) (o := .lst ((List.zipWith wordB ks xs).map V.bl)) hl2)
          wp_walk using e_boolsV
          exact q _ kn
    · rw [if_neg (by rw [lA, List.length_map]; omega)]
      have eB : rowB ws ks = false := by unfold rowB; rw [decide_eq_false hl, Bool.false_and]
      rw [eB] at q
      exact q _ Kp.refl
theorem ok_NoLoginit {t : Ad} (T : Tx w K mg t) : FnOk P w K mg base CX0 1 t.aNoLoginit t.dNoLoginit ["self", "line"] (spInitX t.XNoLog) := by
  refine T.fNoLoginit.ok sc_NoLoginit (fun vs H Q E h => ?_) (fun cdv A outer s H vs Q E hr h => ?_)
  · obtain ⟨a, v, rfl, _⟩ := h
    rfl
  · obtain ⟨a, v, rfl, ea, q⟩ := h
    refine ⟨_, (pss_one (ps_fldX T.xNoLog lk_verr_line (pv 0) (pv 1) rfl)), ?_⟩
    try dsimp only [L2.start, m_cons, m_nil, List.cons_append, List.nil_append, List.replicate_succ, List.replicate_zero, List.length_cons, List.length_nil, Nat.reduceAdd, Nat.reduceSub, Nat.zero_add]
    wp_walk
    exact ⟨a, rfl, ea, fun d hd nd => q d hd nd⟩
theorem ok_thingof {t : Ad} (T : Tx w K mg t) : FnOk P w K mg base CX0 1 t.athingof t.dthingof ["kind", "word"] spTO := by
  refine T.fthingof.ok sc_thingof (fun vs H Q E h => ?_) (fun cdv A outer s H vs Q E hr h => ?_)
  · obtain ⟨k, v, rfl, _⟩ := h
    rfl
  · obtain ⟨k, v, rfl, hf, q⟩ := h
    refine ⟨_, (pss_cons (ps_if (pt_cmpR op_eq (pv 0) pe_str (nomark _)) (pss_one (ps_ret (pv 1))) pss_nil)
      (pss_one (ps_ret (pe_ifExp (pt_cmpR op_eq (pv 1) pe_str (nomark _)) pe_non (pe_callTy call_intT rfl T.zint bt_int (pa_n (pv 1) pa_nil)))))), ?_⟩
    try dsimp only [L2.start, m_cons, m_nil, List.cons_append, List.nil_append, List.replicate_succ, List.replicate_zero, List.length_cons, List.length_nil, Nat.reduceAdd, Nat.reduceSub, Nat.zero_add]
    have ln := hf.wr.len
    cases hf with
    | @mom m h0 h1 =>
      simp only [tw] at ln ⊢
      wp_walk using int_dash m ⟨by omega, by omega⟩, int_reads m (by omega)
      exact ⟨by omega, q⟩
    | @tic m h0 h1 =>
      simp only [tw] at ln ⊢
      wp_walk using int_dash m ⟨by omega, by omega⟩, int_reads m (by omega)
      exact ⟨by omega, q⟩
    | @nam x hx =>
      simp only [tw] at ln ⊢
      wp_walk
      exact q
    | @wor w hw =>
      cases w with
      | none =>
        simp only [tw, wv] at ln q ⊢
        wp_walk
        exact q
      | some n =>
        have hn := hw n rfl
        simp only [tw, wv] at ln q ⊢
        wp_walk using int_dash n ⟨by omega, by omega⟩, int_reads n (by omega)
        exact ⟨by omega, q⟩
theorem ok_rowof {t : Ad} (T : Tx w K mg t) : FnOk P w K mg base CX0 3 t.arowof t.drowof ["words", "kinds"] (spRO K) := by
  refine T.frowof.ok sc_rowof (fun vs H Q E h => ?_) (fun cdv A outer s H vs Q E hr h => ?_)
  · obtain ⟨a, f, r, rfl, _⟩ := h
    rfl
  · obtain ⟨a, f, r, rfl, ea, hq, ok, q⟩ := h
    refine ⟨_, (pss_one (ps_ret (pe_callTy call_tupC rfl T.ztuple bt_tuple (pa_n (pe_op op_addC (pe_lst (pa_n (pe_ix ix_c (pv 0) pe_int (fun _ _ => rfl)) pa_nil)) (pe_comp2 (cl := []) (fr := []) (N := ["kind", "word"]) rfl (fun _ _ h => h) (CompSc2.of (M := ["kind"]) (CompSc.nofree rfl rfl rfl rfl) rfl (by decide) rfl) (pi_zip rfl T.zzip (pa_n (pv 1) (pa_n (pe_slice sl_c (pv 0) (po_some pe_int) po_none) pa_nil))) (fun C s H ex pn => ⟨pts_nil, (pe_call (ok_thingof T) (hr.mono (by omega)) rfl T.mthingof T.fthingof.kp T.bthingof .nil pass0 (pa_n (pv 0) (pa_n (pv 1) pa_nil)))⟩))) pa_nil)))), ?_⟩
    try dsimp only [L2.start, m_cons, m_nil, List.cons_append, List.nil_append, List.replicate_succ, List.replicate_zero, List.length_cons, List.length_nil, Nat.reduceAdd, Nat.reduceSub, Nat.zero_add]
    have ea : H a = some (.lst (.str r.tag :: (r.args.map tw).map V.str)) := ea
    have lk := ok.len
    have fw := ok.few
    wp_walk using ea
    refine fun p0 h0 => ?_
    have N0 := Kp.new (S := []) (o := .lst [.str r.tag]) h0
    have ea0 := N0.at ea
    have e0 : upd H p0 (.lst [.str r.tag]) p0 = some (.lst [.str r.tag]) := upd_same
    generalize upd H p0 (.lst [.str r.tag]) = G0 at *
    wp_walk using ea0
    refine fun p1 h1 => ?_
    rw [tail_cut]
    have N1 := Kp.new (S := []) (o := .lst ((r.args.map tw).map V.str)) h1
    have e1 : upd G0 p1 (.lst ((r.args.map tw).map V.str)) p1 = some (.lst ((r.args.map tw).map V.str)) := upd_same
    have e01 := N1.at e0
    generalize upd G0 p1 (.lst ((r.args.map tw).map V.str)) = G1 at *
    refine ⟨true, false, ⟨_, hq G1⟩, ⟨_, SqL.of e1⟩, ?_⟩
    refine lc_zip (us := r.kinds.map V.str) (vs := (r.args.map tw).map V.str) (by simp; omega) (fun j xs G => xs = r.args.take j ∧ Kp [] G1 G) ⟨rfl, Kp.refl⟩ ?_ ?_ ?_ ?_
    · rintro j xs G ⟨rfl, _⟩
      simp only [List.length_take]
      omega
    · rintro j xs G ⟨_, k⟩
      exact ⟨hq G, SqL.of (k.at e1)⟩
    · rintro j y y2 xs G hj hy hy2 ⟨rfl, k⟩ p2 h2
      obtain ⟨kd, hk, rfl⟩ := getMap hy
      obtain ⟨wd, hw, rfl⟩ := getMap hy2
      obtain ⟨v, hv, rfl⟩ := getMap hw
      wp_walk using compSt, Option.join_some
      refine ⟨kd, v, rfl, ok.fit j kd v hk hv, ?_⟩
      exact ⟨(take_snocS hv).symm, k.trans (Kp.new h2)⟩
    · rintro xs G ⟨rfl, k⟩ l hl
      rw [show (r.kinds.map V.str).length = r.args.length by simp; omega, List.take_length]
      have N2 := k.trans (Kp.new (S := []) (o := .lst r.args) hl)
      have e02 := N2.at e01
      have e2 : upd G l (.lst r.args) l = some (.lst r.args) := upd_same
      generalize upd G l (.lst r.args) = G2 at *
      wp_walk using e02, e2
      refine ⟨by omega, fun p3 h3 => ?_⟩
      have N3 := Kp.new (S := []) (o := .lst (.str r.tag :: r.args)) h3
      wp_walk
      refine fun p4 h4 => ?_
      exact q _ _ ⟨p4, rfl, upd_same⟩ ((((N0.trans N1).trans N2).trans N3).trans (Kp.new h4))
theorem ok_readrows {t : Ad} (T : Tx w K mg t) : FnOk P w K mg base (CX1 P w base) 8 t.areadrows t.dreadrows ["text", "forms"] (spRR25 K t.XNoLog) := by
  refine T.freadrows.okE sc_readrows (fun vs H Q E h => ?_) (fun cdv A outer s H vs Q E hr h => ?_)
  · obtain ⟨fm, kvs, rs, bs, tl, rfl, _⟩ := h
    rfl
  · obtain ⟨fm, kvs, rs, bs, tl, rfl, ef, hr0, hb, ht, hl, hz, q, qE⟩ := h
    have hu := hu_of hr
    refine ⟨_, (pss_cons (ps_set (i := 2) sc_readrows.nd rfl (Or.inl rfl) (pe_lst pa_nil))
      (pss_cons (ps_for PassesOwn.leaving rfl (pi_enum rfl T.zenumerate (pa_n (pe_slice sl_c (pe_bm PySem.F.plainAttrs_str PySem.F.slot_str_split PySem.F.type_str_split mt_split (pv 0) (pa_n pe_str pa_nil)) po_none (po_some (pe_un un_neg pe_int))) pa_nil)) (pg_tup rfl (pgs_cons (pg_name (i := 3) sc_readrows.nd rfl (Or.inl rfl)) (pgs_cons (pg_name (i := 4) sc_readrows.nd rfl (Or.inl rfl)) pgs_nil))) (pss_cons (ps_set (i := 5) sc_readrows.nd rfl (Or.inl rfl) (pe_bm PySem.F.plainAttrs_str PySem.F.slot_str_split PySem.F.type_str_split mt_split (pv 4) (pa_n pe_str pa_nil)))
      (pss_cons (ps_set (i := 6) sc_readrows.nd rfl (Or.inl rfl) (pe_getC hu (pv 1) (pe_ix ix_c (pv 5) pe_int (fun _ _ => rfl)) ⟨rfl, rfl, rfl, rfl⟩))
      (pss_cons (ps_if (pt_not (pt_val (pe_call (ok_isrow T) (hr.mono (by omega)) rfl T.misrow T.fisrow.kp T.bisrow .nil pass0 (pa_n (pv 5) (pa_n (pv 6) pa_nil))))) (pss_one (ps_raiseX throws1 rfl T.xNoLog (ok_NoLoginit T) (hr.mono (by omega)) rfl T.mXNoLog T.bNoLoginit (pa_n (pv 3) pa_nil))) pss_nil)
      (pss_one (ps_expr (pe_appC (pv 2) (pe_call (ok_rowof T) (hr.mono (by omega)) rfl T.mrowof T.frowof.kp T.browof .nil pass0 (pa_n (pv 5) (pa_n (pv 6) pa_nil))))))))))
      (pss_one (ps_ret (pv 2))))), ?_⟩
    try dsimp only [L2.start, m_cons, m_nil, List.cons_append, List.nil_append, List.replicate_succ, List.replicate_zero, List.length_cons, List.length_nil, Nat.reduceAdd, Nat.reduceSub, Nat.zero_add]
    have okr : ∀ r ∈ rs, r.ok := fun r h => (hr0 r h).1
    obtain ⟨L, hL⟩ : ∃ L, L = rs.map Row.txt ++ bs := ⟨_, rfl⟩
    have ll : ∀ x ∈ L, 10 ∉ x.cps.toList ∧ x.length ≤ 1000 := fun x hx => by
      rw [hL] at hx
      rcases List.mem_append.mp hx with hx | hx
      · obtain ⟨r, hr, rfl⟩ := List.mem_map.mp hx
        have := Row.txt_len (okr r hr)
        exact ⟨Row.nl (okr r hr), by omega⟩
      · exact hb x hx
    have lt := lines_len (B := 1000) fun x hx => (ll x hx).2
    have lL : L.length = rs.length + bs.length := by rw [hL]; simp
    have sp : Txt.split (linesT L ++ tl) "\n" = L ++ [tl] := lines_split (fun x hx => (ll x hx).1) ht
    rw [← hL]
    wp_walk
    refine fun rw hrw => ?_
    have N0 := Kp.new (S := []) (o := .lst []) hrw
    have ef0 := N0.at ef
    have er0 : upd H rw (.lst []) rw = some (.lst []) := upd_same
    generalize upd H rw (.lst []) = G0 at *
    refine ⟨by decide +kernel, by rw [str_len]; omega, fun l1 h1 => ?_⟩
    rw [sp]
    have N1 := Kp.new (S := []) (o := .lst ((L ++ [tl]).map V.str)) h1
    have e1 : upd G0 l1 (.lst ((L ++ [tl]).map V.str)) l1 = some (.lst ((L ++ [tl]).map V.str)) := upd_same
    have ef1 := N1.at ef0
    have er1 := N1.at er0
    generalize upd G0 l1 (.lst ((L ++ [tl]).map V.str)) = G1 at *
    wp_walk using e1
    refine fun l2 h2 => ?_
    rw [cut_last1 V.str L tl]
    have N2 := Kp.new (S := []) (o := .lst (L.map V.str)) h2
    have e2 : upd G1 l2 (.lst (L.map V.str)) l2 = some (.lst (L.map V.str)) := upd_same
    have ef2 := N2.at ef1
    have er2 := N2.at er1
    have N02 := (N0.trans N1).trans N2
    have frw : H rw = none := hrw
    generalize upd G1 l2 (.lst (L.map V.str)) = G2 at *
    refine ⟨⟨_, SqL.of e2⟩, ?_⟩
    have nl : l2 ≠ rw := ne_of_none' er1 h2
    have nf : fm ≠ rw := ne_of_none ef hrw
    obtain ⟨Pv, hPv⟩ : ∃ Pv : Nat → St → Hp → Prop, ∀ i σ G, Pv i σ G = ∃ (v1 v2 v3 v4 : Option V) (us : List V), σ = [some (.str (linesT L ++ tl)), some (.ref fm), some (.ref rw), v1, v2, v3, v4] ∧ i ≤ rs.length ∧ G rw = some (.lst us) ∧ RwsAt G us (rs.take i) ∧ Kp [rw] G2 G := ⟨_, fun _ _ _ => rfl⟩
    refine for_enum (xs := L.map V.str) Pv ?_ ?_ ?_ ?_
    · rw [hPv]
      exact ⟨none, none, none, none, [], rfl, by omega, er2, .nil, Kp.refl⟩
    · intro i σ G _ hG
      rw [hPv] at hG
      obtain ⟨_, _, _, _, _, _, _, _, _, k⟩ := hG
      exact SqL.of (k.at1 e2 nl)
    · intro i y σ G hi hG p3 h3
      rw [hPv] at hG
      obtain ⟨v1, v2, v3, v4, us, rfl, ir, er, hU, k⟩ := hG
      obtain ⟨tx, hx, rfl⟩ := getMap hi
      have lx := (ll tx (List.mem_of_getElem? hx)).2
      have ef3 := k.at1 ef2 nf
      have KG : Kp [] H G := fun b o e _ => k.at1 (N02.at e) (ne_of_none e frw)
      wp_walk
      refine ⟨[.int i, .str tx], SqT.of upd_same, rfl, ?_⟩
      have N3 := Kp.new (S := []) (o := .tup [.int i, .str tx]) h3
      have ef4 := N3.at ef3
      have er4 := N3.at er
      have U4 := hU.kp N3
      generalize upd G p3 (.tup [.int i, .str tx]) = G4 at *
      wp_walk
      refine ⟨by decide +kernel, by omega, fun l4 h4 => ?_⟩
      rw [hL] at hx
      by_cases hir : i < rs.length
      · obtain ⟨r, hr⟩ : ∃ r, rs[i]? = some r := ⟨rs[i], by simp⟩
        rw [List.getElem?_append_left (by simpa using hir), List.getElem?_map, hr] at hx
        cases hx
        have hm := List.mem_of_getElem? hr
        obtain ⟨ok, f, hv, hq⟩ := hr0 r hm
        have back : ∀ (w1 w2 w3 w4 : Option V) (us' : List V) (G' : Hp), G' rw = some (.lst us') → RwsAt G' us' (rs.take (i + 1)) → Kp [rw] G G' → Pv (i + 1) [some (.str (linesT L ++ tl)), some (.ref fm), some (.ref rw), w1, w2, w3, w4] G' := fun w1 w2 w3 w4 us' G' a b c => by
          rw [hPv]
          exact ⟨_, _, _, _, us', rfl, hir, a, b, k.trans c⟩
        clear hPv
        rw [Row.split ok]
        have N4 := Kp.new (S := []) (o := .lst (r.ws.map V.str)) h4
        have ef5 := N4.at ef4
        have er5 := N4.at er4
        have U5 := U4.kp N4
        have e5 : upd G4 l4 (.lst (r.ws.map V.str)) l4 = some (.lst (r.ws.map V.str)) := upd_same
        have e5' : upd G4 l4 (.lst (r.ws.map V.str)) l4 = some (.lst (.str r.tag :: (r.args.map tw).map V.str)) := upd_same
        generalize upd G4 l4 (.lst (r.ws.map V.str)) = G5 at *
        have lw := Row.wl ok
        have lr : r.ws.length = r.args.length + 1 := by simp [Row.ws]
        have fw := ok.few
        have lk := ok.len
        wp_walk using ef5, e5', hv, Option.getD_some
        refine ⟨l4, .ref f, r.ws, rfl, e5, by omega, fun w hw => by have := lw w hw; omega, .inr ⟨f, r.kinds, rfl, hq, by omega, fun H6 K6 => ?_⟩⟩
        rw [Row.good ok]
        have er6 := K6.at er5
        have U6 := U5.kp K6
        wp_walk using er6, hv, Option.getD_some
        refine ⟨l4, f, r, rfl, K6.at e5, hq, ok, fun v H7 hA K7 => ?_⟩
        have er7 := K7.at er6
        have U7 := U6.kp K7
        have lu := hU.len
        rw [List.length_take] at lu
        wp_walk using er7
        refine ⟨by omega, back _ _ _ _ (us ++ [v]) _ upd_same ?_ ?_⟩
        · rw [take_snocS hr]
          have kt : ∀ a ys, H7 a = some (.tup ys) → upd H7 rw (.lst (us ++ [v])) a = some (.tup ys) := fun a ys h => by
            rw [upd_ne (ne_of h er7 (by intro z; cases z))]
            exact h
          obtain ⟨b, e, hb⟩ := hA
          exact (U7.kt kt).snoc ⟨b, e, kt _ _ hb⟩
        · exact (((Kp.of N3.same).trans (Kp.of N4.same)).trans ((Kp.of K6.same).trans (Kp.of K7.same))).trans (Kp.set (by simp))
      · have e : i = rs.length := by omega
        subst e
        rw [List.getElem?_append_right (by simp)] at hx
        have hx : bs[0]? = some tx := by simpa using hx
        obtain ⟨tt, hbs⟩ : ∃ tt, bs = tx :: tt := by
          cases bs with
          | nil => simp at hx
          | cons z tt => exact ⟨tt, by simp at hx; rw [hx]⟩
        obtain ⟨⟨w, ws, hs, lw, lx', alt⟩, qF⟩ := qE tx tt hbs
        rw [hs]
        have N4 := Kp.new (S := []) (o := .lst ((w :: ws).map V.str)) h4
        have ef5 := N4.at ef4
        have e5 : upd G4 l4 (.lst ((w :: ws).map V.str)) l4 = some (.lst ((w :: ws).map V.str)) := upd_same
        have e5' : upd G4 l4 (.lst ((w :: ws).map V.str)) l4 = some (.lst (.str w :: ws.map V.str)) := upd_same
        have K5 := (KG.trans N3).trans N4
        generalize upd G4 l4 (.lst ((w :: ws).map V.str)) = G5 at *
        have fin : ∀ (H6 : Hp) (K6 : Kp [] G5 H6) (a D : Addr), H6 a = none → upd H6 a (ExcN a t.XNoLog) D = none → D ≠ a → E (.ref t.XNoLog) (some D) (del (upd (upd (upd H6 a (ExcN a t.XNoLog)) a (ExcD a t.XNoLog D)) D (.xd [("line", .int rs.length)])) a) := fun H6 K6 a D ha hD nD => by
          rw [del_three ha nD]
          rw [upd_ne nD] at hD
          exact qF D _ (free_of (K5.trans K6) hD) upd_same ((K5.trans K6).trans (Kp.new hD))
        rcases alt with hv | ⟨f, ks, hv, hq, lk, hB⟩
        · wp_walk using ef5, e5', hv, Option.getD_none
          refine ⟨l4, .non, w :: ws, rfl, e5, by simp; omega, lx', .inl ⟨rfl, fun H6 K6 => ?_⟩⟩
          wp_walk
          exact fun a ha => ⟨a, _, rfl, upd_same, fun D hD nD => ⟨rfl, D, by rw [upd_ne nD.symm, upd_same], fin H6 K6 a D ha hD nD⟩⟩
        · wp_walk using ef5, e5', hv, Option.getD_some
          refine ⟨l4, .ref f, w :: ws, rfl, e5, by simp; omega, lx', .inr ⟨f, ks, rfl, hq, lk, fun H6 K6 => ?_⟩⟩
          rw [hB]
          wp_walk
          exact fun a ha => ⟨a, _, rfl, upd_same, fun D hD nD => ⟨rfl, D, by rw [upd_ne nD.symm, upd_same], fin H6 K6 a D ha hD nD⟩⟩
    intro σ G hG
    rw [hPv] at hG
    obtain ⟨v1, v2, v3, v4, us, rfl, ir, er, hU, k⟩ := hG
    rw [List.length_map] at ir hU
    have b0 : bs = [] := List.eq_nil_of_length_eq_zero (by omega)
    rw [List.take_of_length_le (by omega)] at hU
    wp_walk
    exact q b0 rw us G hrw er hU fun c o ec _ => k.at1 (N02.at ec) (ne_of_none ec hrw)
theorem ok_readlog {t : Ad} (T : Tx w K mg t) : FnOk P w K mg base (CX1 P w base) 9 t.areadlog t.dreadlog ["text"] (spRL25 t.XNoLog) := by
  refine T.freadlog.okE sc_readlog (fun vs H Q E h => ?_) (fun cdv A outer s H vs Q E hr h => ?_)
  · obtain ⟨hs, bs, tl, rfl, _⟩ := h
    rfl
  · obtain ⟨hs, bs, tl, rfl, ok, hb, ht, hl, hz, q, qE⟩ := h
    refine ⟨_, (pss_one (ps_ret (pe_call (ok_readrows T) (hr.mono (by omega)) rfl T.mreadrows T.freadrows.kp T.breadrows .nil (pass1 fun _ _ _ z => z) (pa_n (pv 0) (pa_n (pe_callTy ((call_dictM T.mtHAPPENINGS)) rfl T.zdict bt_dict (pa_n (pe_glob (v := .ref t.kHAPPENINGS) rfl T.cHAPPENINGS rfl) pa_nil)) pa_nil))))), ?_⟩
    try dsimp only [L2.start, m_cons, m_nil, List.cons_append, List.nil_append, List.replicate_succ, List.replicate_zero, List.length_cons, List.length_nil, Nat.reduceAdd, Nat.reduceSub, Nat.zero_add]
    wp_walk

    refine fun fm hfm => ⟨fm, _, hs.map Hap.rw, bs, tl, ?_, upd_same, fun r hr => ?_, hb, ht, hl, by simpa using hz, fun e p us H' hp e1 hA k => q e p us H' (none_upd hp) e1 (haps_of hA) ((Kp.new hfm).trans k), fun b t e => ⟨badL_Bad (qE b t e).1 T.qHAPPENINGS0 T.qHAPPENINGS1 T.qHAPPENINGS2, fun D H' hD e1 k => (qE b t e).2 D H' (none_upd hD) (by rw [e1]; simp) ((Kp.new hfm).trans k)⟩⟩
    · rw [List.map_map]
      congr 5
      exact List.map_congr_left fun h _ => h.row_txt
    · obtain ⟨h, hh, rfl⟩ := List.mem_map.mp hr
      refine ⟨Hap.rw_ok (ok h hh), ?_⟩
      rw [val_tag]
      cases h with
      | beg m w => exact ⟨_, rfl, T.qHAPPENINGS0⟩
      | don m t w => exact ⟨_, rfl, T.qHAPPENINGS1⟩
      | ltr m k w => exact ⟨_, rfl, T.qHAPPENINGS2⟩
theorem ok_lawfield {t : Ad} (T : Tx w K mg t) : FnOk P w K mg base CX0 70 t.alawfield t.dlawfield ["text"] spField := by
  refine T.flawfield.ok sc_lawfield (fun vs H Q E h => ?_) (fun cdv A outer s H vs Q E hr h => ?_)
  · obtain ⟨hs, b, tt, tl, rfl, _⟩ := h
    rfl
  · obtain ⟨hs, b, tt, tl, rfl, ok, hb, ht, hl, hz, bd, q⟩ := h
    refine ⟨_, (pss_cons (ps_set (i := 1) sc_lawfield.nd rfl (Or.inl rfl) (pe_lst pa_nil))
      (pss_cons (ps_set (i := 2) sc_lawfield.nd rfl (Or.inl rfl) pe_non)
      (pss_cons (ps_tryE (j := 3) (ok_readlog T) (hr.mono (by omega)) rfl T.mreadlog T.freadlog.kp T.breadlog .nil (fun _ => (pa_n (pv 0) pa_nil)) sc_lawfield.nd  rfl rfl T.mXOutlastError T.xNoLog.toXCls T.xOutlastError.toXCls (by simp) (fun _ => (pss_cons (ps_set (i := 1) sc_lawfield.nd rfl (Or.inl rfl) (pe_lst (pa_n (pe_callB (call_isXK K rfl T.xNoLog.toXQ) rfl T.zisinstance bt_isinstance (pa_n (pv 3) (pa_n (pe_glob (v := .ref t.XNoLog) rfl T.mXNoLog rfl) pa_nil))) (pa_n (pe_callB (call_isXK K rfl T.xNoLog.toXQ) rfl T.zisinstance bt_isinstance (pa_n (pv 3) (pa_n (pe_bltn (v := .ty "ValueError") rfl T.zValueError bt_ValueError rfl) pa_nil))) pa_nil))))
      (pss_cons (ps_expr (pe_appC (pv 1) (pe_callB (call_isXK K rfl T.xNoLog.toXQ) rfl T.zisinstance bt_isinstance (pa_n (pv 3) (pa_n (pe_tup (pa_n (pe_glob (v := .ref t.XNoCommand) rfl T.mXNoCommand rfl) (pa_n (pe_glob (v := .ref t.XNoLine) rfl T.mXNoLine rfl) (pa_n (pe_glob (v := .ref t.XNoPolicy) rfl T.mXNoPolicy rfl) (pa_n (pe_glob (v := .ref t.XNoProgram) rfl T.mXNoProgram rfl) (pa_n (pe_glob (v := .ref t.XNoRule) rfl T.mXNoRule rfl) (pa_n (pe_glob (v := .ref t.XNoRun) rfl T.mXNoRun rfl) (pa_n (pe_glob (v := .ref t.XNoState) rfl T.mXNoState rfl) pa_nil)))))))) pa_nil)))))
      (pss_one (ps_if (pt_val (pe_callB (call_isXK K rfl T.xNoLog.toXQ) rfl T.zisinstance bt_isinstance (pa_n (pv 3) (pa_n (pe_glob (v := .ref t.XNoLog) rfl T.mXNoLog rfl) pa_nil)))) (pss_one (ps_set (i := 2) sc_lawfield.nd rfl (Or.inl rfl) (pe_fldX T.xNoLog lk_verr_line (pv 3) rfl))) pss_nil))))))
      (pss_cons (ps_if (PW.pt (pw_or (pt_cmpR (op_neA 1 (hu_n hr (by decide))) (pv 1) (pe_lst (pa_n pe_bl (pa_n pe_bl (pa_n pe_bl pa_nil)))) (nomark _)) (pw_or1 (pt_val (pe_callB call_isiC rfl T.zisinstance bt_isinstance (pa_n (pv 2) (pa_n (pe_bltn (v := .ty "bool") rfl T.zbool bt_bool rfl) pa_nil))))))) (pss_one (ps_ret pe_non)) pss_nil)
      (pss_one (ps_ret (pv 2))))))), ?_⟩
    try dsimp only [L2.start, m_cons, m_nil, List.cons_append, List.nil_append, List.replicate_succ, List.replicate_zero, List.length_cons, List.length_nil, Nat.reduceAdd, Nat.reduceSub, Nat.zero_add]
    refine cut_seq fun R_1 hR1 => ?_
    wp_walk

    refine fun kl hkl => ?_
    have K0 := Kp.new (S := []) (o := .lst []) hkl
    generalize upd H kl (.lst []) = G0 at *
    refine hR1 _ _ ?_
    clear hR1
    refine cut_seq fun R_2 hR2 => ?_
    wp_walk
    refine hR2 _ _ ?_
    clear hR2
    refine cut_seq fun R_3 hR3 => ?_
    wp_walk

    refine ⟨hs, b :: tt, tl, rfl, ok, hb, ht, hl, by simp; omega, (fun z => nomatch z), fun b' t' e => ?_⟩
    cases e
    refine ⟨bd, fun D G1 hD eD K1 => ⟨rfl, fun e he => ?_⟩⟩
    have N1 := Kp.new (S := []) (o := ExcO e t.XNoLog (some D)) he
    have e1 : upd G1 e (ExcO e t.XNoLog (some D)) e = some (ExcO e t.XNoLog (some D)) := upd_same
    replace eD := N1.at eD
    replace K1 := (K0.trans K1).trans N1
    generalize upd G1 e (ExcO e t.XNoLog (some D)) = G2 at *
    wp_walk

    refine ⟨e, _, e1, .inl ⟨.inl rfl, ?_⟩⟩
    wp_walk

    refine ⟨e, _, e1, .inl ⟨.inr rfl, ?_⟩⟩
    wp_walk

    refine fun p4 h4 p5 h5 => ?_
    have N4 := Kp.new (S := []) (o := .lst [.bl true, .bl true]) h4
    have N5 := Kp.new (S := []) (o := .tup [.ref t.XNoCommand, .ref t.XNoLine, .ref t.XNoPolicy, .ref t.XNoProgram, .ref t.XNoRule, .ref t.XNoRun, .ref t.XNoState]) h5
    have e4 : upd (upd G2 p4 (.lst [.bl true, .bl true])) p5 (.tup [.ref t.XNoCommand, .ref t.XNoLine, .ref t.XNoPolicy, .ref t.XNoProgram, .ref t.XNoRule, .ref t.XNoRun, .ref t.XNoState]) p4 = some (.lst [.bl true, .bl true]) := N5.at upd_same
    have e5 : upd (upd G2 p4 (.lst [.bl true, .bl true])) p5 (.tup [.ref t.XNoCommand, .ref t.XNoLine, .ref t.XNoPolicy, .ref t.XNoProgram, .ref t.XNoRule, .ref t.XNoRun, .ref t.XNoState]) p5 = some (.tup [.ref t.XNoCommand, .ref t.XNoLine, .ref t.XNoPolicy, .ref t.XNoProgram, .ref t.XNoRule, .ref t.XNoRun, .ref t.XNoState]) := upd_same
    replace e1 := N5.at (N4.at e1)
    replace eD := N5.at (N4.at eD)
    have f4 : H p4 = none := free_of K1 h4
    replace K1 := (K1.trans N4).trans N5
    have n1 : e ≠ p4 := fun z => by rw [z, e4] at e1; cases e1
    have n2 : D ≠ p4 := fun z => by rw [z, e4] at eD; cases eD
    generalize upd (upd G2 p4 (.lst [.bl true, .bl true])) p5 (.tup [.ref t.XNoCommand, .ref t.XNoLine, .ref t.XNoPolicy, .ref t.XNoProgram, .ref t.XNoRule, .ref t.XNoRun, .ref t.XNoState]) = G3 at *
    refine ⟨e, _, e1, .inr ⟨p5, _, rfl, e5, ?_, ?_⟩⟩
    · have ne : ∀ D : Addr, t.XNoLog ≠ D ∧ t.XOutlastError ≠ D → (Value.ref t.XNoLog :: Value.ref t.XOutlastError :: vErr).contains (.ref D) = false := fun D ⟨a, b⟩ => by
        simp only [List.contains_cons, List.contains_nil, Bool.or_eq_false_iff, beq_eq_false_iff_ne, ne_eq, Value.ref.injEq, reduceCtorEq, not_false_eq_true, and_true]
        exact ⟨fun z => a z.symm, fun z => b z.symm⟩
      obtain ⟨x1, x2, x3, x4, x5, x6, x7⟩ := T.xne
      intro c hc
      simp only [List.mem_cons, List.not_mem_nil, or_false] at hc
      rcases hc with rfl | rfl | rfl | rfl | rfl | rfl | rfl
      · exact ⟨_, rfl, T.yNoCommand, ne _ x7⟩
      · exact ⟨_, rfl, T.yNoLine, ne _ x5⟩
      · exact ⟨_, rfl, T.yNoPolicy, ne _ x4⟩
      · exact ⟨_, rfl, T.yNoProgram, ne _ x1⟩
      · exact ⟨_, rfl, T.yNoRule, ne _ x3⟩
      · exact ⟨_, rfl, T.yNoRun, ne _ x6⟩
      · exact ⟨_, rfl, T.yNoState, ne _ x2⟩
    wp_walk using e4

    have e6 : upd G3 p4 (.lst [.bl true, .bl true, .bl false]) p4 = some (.lst [.bl true, .bl true, .bl false]) := upd_same
    have e1' : upd G3 p4 (.lst [.bl true, .bl true, .bl false]) e = some (ExcO e t.XNoLog (some D)) := by rw [upd_ne n1]; exact e1
    have eD' : upd G3 p4 (.lst [.bl true, .bl true, .bl false]) D = some (.xd [("line", .int hs.length)]) := by rw [upd_ne n2]; exact eD
    have K6 : Kp [] H (upd G3 p4 (.lst [.bl true, .bl true, .bl false])) := fun c o ec _ => by rw [upd_ne (ne_of_none ec f4)]; exact K1.at ec
    generalize upd G3 p4 (.lst [.bl true, .bl true, .bl false]) = G4 at *
    wp_walk

    refine ⟨e, _, e1', .inl ⟨.inl rfl, ?_⟩⟩
    wp_walk

    refine ⟨e, D, _, rfl, .inr e1', eD', ?_⟩
    wp_walk
    refine hR3 _ _ ?_
    clear hR3
    refine cut_seq fun R_4 hR4 => ?_
    wp_walk

    refine fun p7 h7 => ⟨true, rcA_lst (n := 0) ((Kp.new (S := []) h7).at e6) upd_same rfl (fun j x y a b => ?_), ?_⟩
    · rw [a] at b
      cases b
      have hx := List.mem_of_getElem? a
      simp only [List.mem_cons, List.not_mem_nil, or_false] at hx
      rcases hx with rfl | rfl | rfl <;> exact EqA.flat rfl rfl
    wp_walk
    refine hR4 _ _ ?_
    clear hR4
    wp_walk

    exact q _ (K6.trans (Kp.new h7))
theorem ok_lawnone {t : Ad} (T : Tx w K mg t) : FnOk P w K mg base CX0 1 t.alawnone t.dlawnone ["x"] spNone := by
  refine T.flawnone.ok sc_lawnone (fun vs H Q E h => ?_) (fun cdv A outer s H vs Q E hr h => ?_)
  · obtain ⟨x, rfl, _⟩ := h
    rfl
  · obtain ⟨x, rfl, hx, q⟩ := h
    refine ⟨_, (pss_cons (ps_set (i := 1) sc_lawnone.nd rfl (Or.inl rfl) (pe_lst (pa_n pe_str (pa_n pe_str (pa_n pe_str (pa_n pe_str (pa_n pe_str (pa_n pe_str (pa_n pe_str (pa_n pe_str (pa_n pe_str pa_nil)))))))))))
      (pss_cons (ps_set (i := 1) sc_lawnone.nd rfl (Or.inl rfl) (pe_op op_addC (pv 1) (pe_lst (pa_n pe_str (pa_n pe_str (pa_n pe_str (pa_n pe_str (pa_n pe_str (pa_n pe_str pa_nil)))))))))
      (pss_cons (ps_set (i := 1) sc_lawnone.nd rfl (Or.inl rfl) (pe_op op_addC (pv 1) (pe_lst (pa_n pe_str (pa_n pe_str (pa_n pe_str (pa_n pe_str (pa_n pe_str (pa_n pe_str pa_nil)))))))))
      (pss_cons (ps_set (i := 1) sc_lawnone.nd rfl (Or.inl rfl) (pe_op op_addC (pv 1) (pe_lst (pa_n pe_str (pa_n pe_str (pa_n pe_str (pa_n pe_str (pa_n pe_str (pa_n pe_str pa_nil)))))))))
      (pss_cons (ps_set (i := 1) sc_lawnone.nd rfl (Or.inl rfl) (pe_op op_addC (pv 1) (pe_lst (pa_n pe_str (pa_n pe_str (pa_n pe_str (pa_n pe_str (pa_n pe_str (pa_n pe_str pa_nil)))))))))
      (pss_cons (ps_set (i := 1) sc_lawnone.nd rfl (Or.inl rfl) (pe_op op_addC (pv 1) (pe_lst (pa_n pe_str (pa_n pe_str (pa_n pe_str (pa_n pe_str (pa_n pe_str (pa_n pe_str pa_nil)))))))))
      (pss_cons (ps_set (i := 1) sc_lawnone.nd rfl (Or.inl rfl) (pe_op op_addC (pv 1) (pe_lst (pa_n pe_str (pa_n pe_str (pa_n pe_str (pa_n pe_str (pa_n pe_str (pa_n pe_str (pa_n pe_str pa_nil))))))))))
      (pss_cons (ps_set (i := 1) sc_lawnone.nd rfl (Or.inl rfl) (pe_op op_addC (pv 1) (pe_lst (pa_n pe_str (pa_n pe_str (pa_n pe_str pa_nil))))))
      (pss_one (ps_ret (pe_ix ix_c (pe_op op_addC (pv 1) (pe_lst (pa_n (pe_op op_addC pe_str (pe_op op_srepE pe_str pe_int)) pa_nil))) (pe_op op_mod (pv 0) (pe_op op_addC (pe_callB call_lenC rfl T.zlen bt_len (pa_n (pv 1) pa_nil)) pe_int)) (fun _ _ => rfl)))))))))))), ?_⟩
    try dsimp only [L2.start, m_cons, m_nil, List.cons_append, List.nil_append, List.replicate_succ, List.replicate_zero, List.length_cons, List.length_nil, Nat.reduceAdd, Nat.reduceSub, Nat.zero_add]
    refine cut_seq fun R_1 hR1 => ?_
    wp_walk

    refine fun p1 h1 => ?_
    have K1 := Kp.new (S := []) (o := .lst ((noneS.take 9).map V.str)) h1
    have e1 : upd H p1 (.lst ((noneS.take 9).map V.str)) p1 = some (.lst ((noneS.take 9).map V.str)) := upd_same
    show R_1 _ (upd H p1 (.lst ((noneS.take 9).map V.str)))
    generalize upd H p1 (.lst ((noneS.take 9).map V.str)) = G1 at *
    refine hR1 _ _ ?_
    clear hR1
    refine cut_seq fun R_2 hR2 => ?_
    wp_walk using e1

    refine fun q1 g1 => ?_
    rw [upd_ne (ne_of_none e1 g1), e1]
    have M1 := Kp.new (S := []) (o := .lst (((noneS.drop 9).take (15 - 9)).map V.str)) g1
    wp_walk

    refine ⟨by decide, fun p2 h2 => ?_⟩
    have L2 := (K1.trans M1).trans (Kp.new (S := []) (o := .lst ((noneS.take 15).map V.str)) h2)
    clear K1
    have K2 := L2
    clear L2
    have e2 : upd (upd G1 q1 (.lst (((noneS.drop 9).take (15 - 9)).map V.str))) p2 (.lst ((noneS.take 15).map V.str)) p2 = some (.lst ((noneS.take 15).map V.str)) := upd_same
    show R_2 _ (upd (upd G1 q1 (.lst (((noneS.drop 9).take (15 - 9)).map V.str))) p2 (.lst ((noneS.take 15).map V.str)))
    generalize upd (upd G1 q1 (.lst (((noneS.drop 9).take (15 - 9)).map V.str))) p2 (.lst ((noneS.take 15).map V.str)) = G2 at *
    clear M1 e1 g1 h2
    refine hR2 _ _ ?_
    clear hR2
    refine cut_seq fun R_3 hR3 => ?_
    wp_walk using e2

    refine fun q2 g2 => ?_
    rw [upd_ne (ne_of_none e2 g2), e2]
    have M2 := Kp.new (S := []) (o := .lst (((noneS.drop 15).take (21 - 15)).map V.str)) g2
    wp_walk

    refine ⟨by decide, fun p3 h3 => ?_⟩
    have L3 := (K2.trans M2).trans (Kp.new (S := []) (o := .lst ((noneS.take 21).map V.str)) h3)
    clear K2
    have K3 := L3
    clear L3
    have e3 : upd (upd G2 q2 (.lst (((noneS.drop 15).take (21 - 15)).map V.str))) p3 (.lst ((noneS.take 21).map V.str)) p3 = some (.lst ((noneS.take 21).map V.str)) := upd_same
    show R_3 _ (upd (upd G2 q2 (.lst (((noneS.drop 15).take (21 - 15)).map V.str))) p3 (.lst ((noneS.take 21).map V.str)))
    generalize upd (upd G2 q2 (.lst (((noneS.drop 15).take (21 - 15)).map V.str))) p3 (.lst ((noneS.take 21).map V.str)) = G3 at *
    clear M2 e2 g2 h3
    refine hR3 _ _ ?_
    clear hR3
    refine cut_seq fun R_4 hR4 => ?_
    wp_walk using e3

    refine fun q3 g3 => ?_
    rw [upd_ne (ne_of_none e3 g3), e3]
    have M3 := Kp.new (S := []) (o := .lst (((noneS.drop 21).take (27 - 21)).map V.str)) g3
    wp_walk

    refine ⟨by decide, fun p4 h4 => ?_⟩
    have L4 := (K3.trans M3).trans (Kp.new (S := []) (o := .lst ((noneS.take 27).map V.str)) h4)
    clear K3
    have K4 := L4
    clear L4
    have e4 : upd (upd G3 q3 (.lst (((noneS.drop 21).take (27 - 21)).map V.str))) p4 (.lst ((noneS.take 27).map V.str)) p4 = some (.lst ((noneS.take 27).map V.str)) := upd_same
    show R_4 _ (upd (upd G3 q3 (.lst (((noneS.drop 21).take (27 - 21)).map V.str))) p4 (.lst ((noneS.take 27).map V.str)))
    generalize upd (upd G3 q3 (.lst (((noneS.drop 21).take (27 - 21)).map V.str))) p4 (.lst ((noneS.take 27).map V.str)) = G4 at *
    clear M3 e3 g3 h4
    refine hR4 _ _ ?_
    clear hR4
    refine cut_seq fun R_5 hR5 => ?_
    wp_walk using e4

    refine fun q4 g4 => ?_
    rw [upd_ne (ne_of_none e4 g4), e4]
    have M4 := Kp.new (S := []) (o := .lst (((noneS.drop 27).take (33 - 27)).map V.str)) g4
    wp_walk

    refine ⟨by decide, fun p5 h5 => ?_⟩
    have L5 := (K4.trans M4).trans (Kp.new (S := []) (o := .lst ((noneS.take 33).map V.str)) h5)
    clear K4
    have K5 := L5
    clear L5
    have e5 : upd (upd G4 q4 (.lst (((noneS.drop 27).take (33 - 27)).map V.str))) p5 (.lst ((noneS.take 33).map V.str)) p5 = some (.lst ((noneS.take 33).map V.str)) := upd_same
    show R_5 _ (upd (upd G4 q4 (.lst (((noneS.drop 27).take (33 - 27)).map V.str))) p5 (.lst ((noneS.take 33).map V.str)))
    generalize upd (upd G4 q4 (.lst (((noneS.drop 27).take (33 - 27)).map V.str))) p5 (.lst ((noneS.take 33).map V.str)) = G5 at *
    clear M4 e4 g4 h5
    refine hR5 _ _ ?_
    clear hR5
    refine cut_seq fun R_6 hR6 => ?_
    wp_walk using e5

    refine fun q5 g5 => ?_
    rw [upd_ne (ne_of_none e5 g5), e5]
    have M5 := Kp.new (S := []) (o := .lst (((noneS.drop 33).take (39 - 33)).map V.str)) g5
    wp_walk

    refine ⟨by decide, fun p6 h6 => ?_⟩
    have L6 := (K5.trans M5).trans (Kp.new (S := []) (o := .lst ((noneS.take 39).map V.str)) h6)
    clear K5
    have K6 := L6
    clear L6
    have e6 : upd (upd G5 q5 (.lst (((noneS.drop 33).take (39 - 33)).map V.str))) p6 (.lst ((noneS.take 39).map V.str)) p6 = some (.lst ((noneS.take 39).map V.str)) := upd_same
    show R_6 _ (upd (upd G5 q5 (.lst (((noneS.drop 33).take (39 - 33)).map V.str))) p6 (.lst ((noneS.take 39).map V.str)))
    generalize upd (upd G5 q5 (.lst (((noneS.drop 33).take (39 - 33)).map V.str))) p6 (.lst ((noneS.take 39).map V.str)) = G6 at *
    clear M5 e5 g5 h6
    refine hR6 _ _ ?_
    clear hR6
    refine cut_seq fun R_7 hR7 => ?_
    wp_walk using e6

    refine fun q6 g6 => ?_
    rw [upd_ne (ne_of_none e6 g6), e6]
    have M6 := Kp.new (S := []) (o := .lst (((noneS.drop 39).take (46 - 39)).map V.str)) g6
    wp_walk

    refine ⟨by decide, fun p7 h7 => ?_⟩
    have L7 := (K6.trans M6).trans (Kp.new (S := []) (o := .lst ((noneS.take 46).map V.str)) h7)
    clear K6
    have K7 := L7
    clear L7
    have e7 : upd (upd G6 q6 (.lst (((noneS.drop 39).take (46 - 39)).map V.str))) p7 (.lst ((noneS.take 46).map V.str)) p7 = some (.lst ((noneS.take 46).map V.str)) := upd_same
    show R_7 _ (upd (upd G6 q6 (.lst (((noneS.drop 39).take (46 - 39)).map V.str))) p7 (.lst ((noneS.take 46).map V.str)))
    generalize upd (upd G6 q6 (.lst (((noneS.drop 39).take (46 - 39)).map V.str))) p7 (.lst ((noneS.take 46).map V.str)) = G7 at *
    clear M6 e6 g6 h7
    refine hR7 _ _ ?_
    clear hR7
    refine cut_seq fun R_8 hR8 => ?_
    wp_walk using e7

    refine fun q7 g7 => ?_
    rw [upd_ne (ne_of_none e7 g7), e7]
    have M7 := Kp.new (S := []) (o := .lst (((noneS.drop 46).take (49 - 46)).map V.str)) g7
    wp_walk

    refine ⟨by decide, fun p8 h8 => ?_⟩
    have L8 := (K7.trans M7).trans (Kp.new (S := []) (o := .lst ((noneS.take 49).map V.str)) h8)
    clear K7
    have K8 := L8
    clear L8
    have e8 : upd (upd G7 q7 (.lst (((noneS.drop 46).take (49 - 46)).map V.str))) p8 (.lst ((noneS.take 49).map V.str)) p8 = some (.lst ((noneS.take 49).map V.str)) := upd_same
    show R_8 _ (upd (upd G7 q7 (.lst (((noneS.drop 46).take (49 - 46)).map V.str))) p8 (.lst ((noneS.take 49).map V.str)))
    generalize upd (upd G7 q7 (.lst (((noneS.drop 46).take (49 - 46)).map V.str))) p8 (.lst ((noneS.take 49).map V.str)) = G8 at *
    clear M7 e7 g7 h8
    refine hR8 _ _ ?_
    clear hR8
    wp_walk using e8

    have lR : (repS (Str.ofString "9") 600).length = 600 := by rw [repS_len, show (Str.ofString "9").length = 1 by decide +kernel]
    have okR := long_ok
    obtain ⟨R, eR⟩ : ∃ R, R = repS (Str.ofString "9") 600 := ⟨_, rfl⟩
    rw [← eR] at lR okR ⊢
    clear eR
    refine ⟨by decide +kernel, by decide +kernel, by rw [lR, show (Str.ofString "begin 5 9").length = 9 by decide +kernel]; decide, fun q8 g8 => ?_⟩
    rw [upd_ne (ne_of_none e8 g8), e8]
    have M8 := Kp.new (S := []) (o := .lst [V.str (Str.ofString "begin 5 9" ++ R)]) g8
    wp_walk

    refine ⟨by decide, fun p9 h9 => ?_⟩
    have e9 := (Kp.new (S := []) (o := .lst (List.map V.str (List.take 49 noneS) ++ [V.str (Str.ofString "begin 5 9" ++ R)])) h9).at (M8.at e8)
    have e10 : upd (upd G8 q8 (.lst [V.str (Str.ofString "begin 5 9" ++ R)])) p9 (.lst (List.map V.str (List.take 49 noneS) ++ [V.str (Str.ofString "begin 5 9" ++ R)])) p9 = some (.lst (List.map V.str (List.take 49 noneS) ++ [V.str (Str.ofString "begin 5 9" ++ R)])) := upd_same
    have K9 := (K8.trans M8).trans (Kp.new (S := []) (o := .lst (List.map V.str (List.take 49 noneS) ++ [V.str (Str.ofString "begin 5 9" ++ R)])) h9)
    generalize upd (upd G8 q8 (.lst [V.str (Str.ofString "begin 5 9" ++ R)])) p9 (.lst (List.map V.str (List.take 49 noneS) ++ [V.str (Str.ofString "begin 5 9" ++ R)])) = G9 at *
    wp_walk using e9, e10

    have l49 : (List.map V.str (List.take 49 noneS)).length = 49 := by rw [List.length_map]; decide
    rw [l49]
    refine ⟨by decide, r_draw (Int.emod_nonneg _ (by decide)) ?_ fun v hv => ?_⟩
    · rw [List.length_append, l49]
      exact Int.emod_lt_of_pos _ (by decide)
    · rcases List.mem_append.mp hv with hv | hv
      · obtain ⟨b, hb, rfl⟩ := List.mem_map.mp hv
        exact q b _ (none_ok b (List.mem_of_mem_take hb)) K9
      · rw [show v = V.str (Str.ofString "begin 5 9" ++ R) by simpa using hv]
        exact q _ _ okR K9
theorem ok_lawbent {t : Ad} (T : Tx w K mg t) : FnOk P w K mg base CX0 3 t.alawbent t.dlawbent ["jar"] spOdd := by
  refine T.flawbent.ok sc_lawbent (fun vs H Q E h => ?_) (fun cdv A outer s H vs Q E hr h => ?_)
  · obtain ⟨r, rfl, _⟩ := h
    rfl
  · obtain ⟨r, rfl, hR, q⟩ := h
    refine ⟨_, (pss_cons (ps_set (i := 1) sc_lawbent.nd rfl (Or.inl rfl) (pe_ix ix_c (pe_lst (pa_n (pe_lst (pa_n pe_str (pa_n pe_str (pa_n pe_str pa_nil)))) (pa_n (pe_lst (pa_n pe_str (pa_n pe_str (pa_n pe_str (pa_n pe_str pa_nil))))) (pa_n (pe_lst (pa_n pe_str (pa_n pe_str (pa_n pe_str (pa_n pe_str pa_nil))))) pa_nil)))) (pe_call (ok_lawtake T) (hr.mono (by omega)) rfl T.mlawtake T.flawtake.kp T.blawtake .nil pass0 (pa_n (pv 0) (pa_n pe_int pa_nil))) (fun _ _ => rfl)))
      (pss_cons (ps_set (i := 2) sc_lawbent.nd rfl (Or.inl rfl) (pe_op op_addC pe_int (pe_call (ok_lawtake T) (hr.mono (by omega)) rfl T.mlawtake T.flawtake.kp T.blawtake .nil pass0 (pa_n (pv 0) (pa_n (pe_op op_sub (pe_callB call_lenC rfl T.zlen bt_len (pa_n (pv 1) pa_nil)) pe_int) pa_nil)))))
      (pss_cons (ps_set (i := 3) sc_lawbent.nd rfl (Or.inl rfl) (pe_lst (pa_n pe_str (pa_n pe_str (pa_n pe_str (pa_n pe_str (pa_n pe_str (pa_n pe_str (pa_n pe_str (pa_n pe_str (pa_n pe_str (pa_n (pe_ix ix_c (pe_lst (pa_n pe_str (pa_n pe_str pa_nil))) (pe_callTy call_intC rfl T.zint bt_int (pa_n (pe_cmpR op_eq (pv 2) pe_int (nomark _)) pa_nil)) (fun _ _ => rfl)) pa_nil))))))))))))
      (pss_cons (ps_if (pt_cmpR op_eq (pv 2) (pe_op op_sub (pe_callB call_lenC rfl T.zlen bt_len (pa_n (pv 1) pa_nil)) pe_int) (nomark _)) (pss_one (ps_set (i := 3) sc_lawbent.nd rfl (Or.inl rfl) (pe_lst (pa_n pe_str (pa_n pe_str (pa_n pe_str (pa_n pe_str (pa_n pe_str (pa_n pe_str (pa_n pe_str (pa_n pe_str (pa_n pe_str (pa_n pe_str (pa_n pe_str (pa_n pe_str pa_nil))))))))))))))) (pss_one (ps_if (PW.pt (pw_and (pt_cmpR op_eq (pv 2) pe_int (nomark _)) (pw_and1 (pt_cmpR op_eq (pe_ix ix_c (pv 1) pe_int (fun _ _ => rfl)) pe_str (nomark _))))) (pss_cons (ps_set (i := 3) sc_lawbent.nd rfl (Or.inl rfl) (pe_lst (pa_n pe_str (pa_n pe_str (pa_n pe_str (pa_n pe_str (pa_n pe_str (pa_n pe_str (pa_n pe_str (pa_n pe_str (pa_n pe_str (pa_n pe_str (pa_n pe_str (pa_n pe_str (pa_n pe_str (pa_n pe_str pa_nil))))))))))))))))
      (pss_one (ps_set (i := 3) sc_lawbent.nd rfl (Or.inl rfl) (pe_op op_addC (pv 3) (pe_lst (pa_n pe_str (pa_n pe_str (pa_n pe_str (pa_n pe_str (pa_n pe_str (pa_n pe_str (pa_n pe_str (pa_n pe_str (pa_n pe_str (pa_n pe_str pa_nil))))))))))))))) pss_nil)))
      (pss_one (ps_ret (pe_bm PySem.F.plainAttrs_str PySem.F.slot_str_join PySem.F.type_str_join mt_join pe_str (pa_n (pe_op op_addC (pe_op op_addC (pe_slice sl_c (pv 1) po_none (po_some (pv 2))) (pe_lst (pa_n (pe_ix ix_c (pv 3) (pe_call (ok_lawtake T) (hr.mono (by omega)) rfl T.mlawtake T.flawtake.kp T.blawtake .nil pass0 (pa_n (pv 0) (pa_n (pe_callB call_lenC rfl T.zlen bt_len (pa_n (pv 3) pa_nil)) pa_nil))) (fun _ _ => rfl)) pa_nil))) (pe_slice sl_c (pv 1) (po_some (pe_op op_addC (pv 2) pe_int)) po_none)) pa_nil)))))))), ?_⟩
    try dsimp only [L2.start, m_cons, m_nil, List.cons_append, List.nil_append, List.replicate_succ, List.replicate_zero, List.length_cons, List.length_nil, Nat.reduceAdd, Nat.reduceSub, Nat.zero_add]
    refine cut_seq fun R_1 hR1 => ?_

    suffices fin : ∀ (pw : Addr) (ws : List Str) (G : Hp), ws ∈ W3 → G pw = some (.lst (ws.map V.str)) → pw ≠ r → JarAt G r → Kp [r] H G → R_1 [some (.ref r), some (.ref pw), none, none] G by
      wp_walk

      refine fun p1 h1 p2 h2 p3 h3 p4 h4 => ?_
      have N1 := Kp.new (S := []) (o := .lst [V.str (Str.ofString "begin"), V.str (Str.ofString "5"), V.str (Str.ofString "7")]) h1
      have N2 := Kp.new (S := []) (o := .lst [V.str (Str.ofString "done"), V.str (Str.ofString "5"), V.str (Str.ofString "0"), V.str (Str.ofString "7")]) h2
      have N3 := Kp.new (S := []) (o := .lst [V.str (Str.ofString "letter"), V.str (Str.ofString "5"), V.str (Str.ofString "k"), V.str (Str.ofString "7")]) h3
      have N4 := Kp.new (S := []) (o := .lst [.ref p1, .ref p2, .ref p3]) h4
      have e1 := N4.at (N3.at (N2.at (show upd H p1 (.lst [V.str (Str.ofString "begin"), V.str (Str.ofString "5"), V.str (Str.ofString "7")]) p1 = some (.lst [V.str (Str.ofString "begin"), V.str (Str.ofString "5"), V.str (Str.ofString "7")]) from upd_same)))
      have e2 := N4.at (N3.at (show upd (upd H p1 (.lst [V.str (Str.ofString "begin"), V.str (Str.ofString "5"), V.str (Str.ofString "7")])) p2 (.lst [V.str (Str.ofString "done"), V.str (Str.ofString "5"), V.str (Str.ofString "0"), V.str (Str.ofString "7")]) p2 = some (.lst [V.str (Str.ofString "done"), V.str (Str.ofString "5"), V.str (Str.ofString "0"), V.str (Str.ofString "7")]) from upd_same))
      have e3 := N4.at (show upd (upd (upd H p1 (.lst [V.str (Str.ofString "begin"), V.str (Str.ofString "5"), V.str (Str.ofString "7")])) p2 (.lst [V.str (Str.ofString "done"), V.str (Str.ofString "5"), V.str (Str.ofString "0"), V.str (Str.ofString "7")])) p3 (.lst [V.str (Str.ofString "letter"), V.str (Str.ofString "5"), V.str (Str.ofString "k"), V.str (Str.ofString "7")]) p3 = some (.lst [V.str (Str.ofString "letter"), V.str (Str.ofString "5"), V.str (Str.ofString "k"), V.str (Str.ofString "7")]) from upd_same)
      have e4 : upd (upd (upd (upd H p1 (.lst [V.str (Str.ofString "begin"), V.str (Str.ofString "5"), V.str (Str.ofString "7")])) p2 (.lst [V.str (Str.ofString "done"), V.str (Str.ofString "5"), V.str (Str.ofString "0"), V.str (Str.ofString "7")])) p3 (.lst [V.str (Str.ofString "letter"), V.str (Str.ofString "5"), V.str (Str.ofString "k"), V.str (Str.ofString "7")])) p4 (.lst [.ref p1, .ref p2, .ref p3]) p4 = some (.lst [.ref p1, .ref p2, .ref p3]) := upd_same
      have NN := ((N1.trans N2).trans N3).trans N4
      have R4 := hR.kp NN
      have n1 : p1 ≠ r := hR.none h1
      have n2 : p2 ≠ r := (hR.kp N1).none h2
      have n3 : p3 ≠ r := ((hR.kp N1).kp N2).none h3
      have n4 : p4 ≠ r := (((hR.kp N1).kp N2).kp N3).none h4
      generalize upd (upd (upd (upd H p1 (.lst [V.str (Str.ofString "begin"), V.str (Str.ofString "5"), V.str (Str.ofString "7")])) p2 (.lst [V.str (Str.ofString "done"), V.str (Str.ofString "5"), V.str (Str.ofString "0"), V.str (Str.ofString "7")])) p3 (.lst [V.str (Str.ofString "letter"), V.str (Str.ofString "5"), V.str (Str.ofString "k"), V.str (Str.ofString "7")])) p4 (.lst [.ref p1, .ref p2, .ref p3]) = G4 at *
      refine ⟨R4, fun g G5 a5 b5 R5 K5 => ?_⟩
      wp_walk using K5.at1 e4 n4

      refine r_draw a5 b5 fun v hv => ?_
      have KK : Kp [r] H G5 := (NN.mono (by simp)).trans K5
      simp only [List.mem_cons, List.not_mem_nil, or_false] at hv
      rcases hv with rfl | rfl | rfl
      · exact fin p1 [Str.ofString "begin", Str.ofString "5", Str.ofString "7"] G5 (by simp [W3]) (K5.at1 e1 n1) n1 R5 KK
      · exact fin p2 [Str.ofString "done", Str.ofString "5", Str.ofString "0", Str.ofString "7"] G5 (by simp [W3]) (K5.at1 e2 n2) n2 R5 KK
      · exact fin p3 [Str.ofString "letter", Str.ofString "5", Str.ofString "k", Str.ofString "7"] G5 (by simp [W3]) (K5.at1 e3 n3) n3 R5 KK

    intro pw ws G hw ew nw RG KG
    refine hR1 _ _ ?_
    clear hR1
    refine cut_seq fun R_2 hR2 => ?_
    wp_walk using ew

    have lw : ws.length = 3 ∨ ws.length = 4 := by
      simp only [W3, List.mem_cons, List.not_mem_nil, or_false] at hw
      rcases hw with rfl | rfl | rfl
      · exact .inl rfl
      · exact .inr rfl
      · exact .inr rfl
    rw [List.length_map]
    refine ⟨by omega, by omega, RG, fun g G2 a2 b2 R2 K2 => ?_⟩
    obtain ⟨n, hn⟩ : ∃ n : Nat, 1 + g = (n : Int) := ⟨(1 + g).toNat, by omega⟩
    rw [hn]
    have n1 : 1 ≤ n := by omega
    have n2 : n < ws.length := by omega
    clear a2 b2 hn
    replace ew := K2.at1 ew nw
    replace KG := KG.trans K2
    clear K2 RG
    refine hR2 _ _ ?_
    clear hR2

    refine cut_two fun R_5 hR5 => ?_
    suffices fin : ∀ (pb : Addr) (bs : List Str) (G' : Hp), badOf ws n bs → (0 < bs.length ∧ bs.length ≤ 100) → G' pb = some (.lst (bs.map V.str)) → G' pw = some (.lst (ws.map V.str)) → pb ≠ r → JarAt G' r → Kp [r] H G' → R_5 [some (.ref r), some (.ref pw), some (.int n), some (.ref pb)] G' by
      clear hR5
      simp only [W3, List.mem_cons, List.not_mem_nil, or_false] at hw
      rcases hw with rfl | rfl | rfl
      · obtain rfl | rfl : n = 1 ∨ n = 2 := by simp at n2; omega
        · refine cut_seq fun R_3 hR3 => ?_
          wp_walk

          refine fun l1 h1 l2 h2 => ?_
          have N1 := Kp.new (S := []) (o := .lst [V.str (Str.ofString "1000000001"), V.str (Str.ofString "1000000000001")]) h1
          have N2 := Kp.new (S := []) (o := .lst [V.str (Str.ofString ""), V.str (Str.ofString "-"), V.str (Str.ofString "-0"), V.str (Str.ofString "-1"), V.str (Str.ofString "+5"), V.str (Str.ofString "05"), V.str (Str.ofString "1_0"), V.str (Str.ofString "5.0"), V.str (Str.ofString "x"), V.str (Str.ofString "1000000000001")]) h2
          have e2 : upd (upd G2 l1 (.lst [V.str (Str.ofString "1000000001"), V.str (Str.ofString "1000000000001")])) l2 (.lst [V.str (Str.ofString ""), V.str (Str.ofString "-"), V.str (Str.ofString "-0"), V.str (Str.ofString "-1"), V.str (Str.ofString "+5"), V.str (Str.ofString "05"), V.str (Str.ofString "1_0"), V.str (Str.ofString "5.0"), V.str (Str.ofString "x"), V.str (Str.ofString "1000000000001")]) l2 = some (.lst [V.str (Str.ofString ""), V.str (Str.ofString "-"), V.str (Str.ofString "-0"), V.str (Str.ofString "-1"), V.str (Str.ofString "+5"), V.str (Str.ofString "05"), V.str (Str.ofString "1_0"), V.str (Str.ofString "5.0"), V.str (Str.ofString "x"), V.str (Str.ofString "1000000000001")]) := upd_same
          have m2 : l2 ≠ r := (R2.kp N1).none h2
          replace ew := N2.at (N1.at ew)
          replace R2 := (R2.kp N1).kp N2
          replace KG := (KG.trans (N1.mono (by simp))).trans (N2.mono (by simp))
          generalize upd (upd G2 l1 (.lst [V.str (Str.ofString "1000000001"), V.str (Str.ofString "1000000000001")])) l2 (.lst [V.str (Str.ofString ""), V.str (Str.ofString "-"), V.str (Str.ofString "-0"), V.str (Str.ofString "-1"), V.str (Str.ofString "+5"), V.str (Str.ofString "05"), V.str (Str.ofString "1_0"), V.str (Str.ofString "5.0"), V.str (Str.ofString "x"), V.str (Str.ofString "1000000000001")]) = G3 at *
          clear N1 N2 h1 h2
          refine hR3 _ _ ?_
          clear hR3
          wp_walk using ew

          exact fin l2 [Str.ofString "", Str.ofString "-", Str.ofString "-0", Str.ofString "-1", Str.ofString "+5", Str.ofString "05", Str.ofString "1_0", Str.ofString "5.0", Str.ofString "x", Str.ofString "1000000000001"] _ (by decide +kernel) (by decide) e2 ew m2 R2 KG
        · refine cut_seq fun R_3 hR3 => ?_
          wp_walk

          refine fun l1 h1 l2 h2 => ?_
          have N1 := Kp.new (S := []) (o := .lst [V.str (Str.ofString "1000000001"), V.str (Str.ofString "1000000000001")]) h1
          have N2 := Kp.new (S := []) (o := .lst [V.str (Str.ofString ""), V.str (Str.ofString "-"), V.str (Str.ofString "-0"), V.str (Str.ofString "-1"), V.str (Str.ofString "+5"), V.str (Str.ofString "05"), V.str (Str.ofString "1_0"), V.str (Str.ofString "5.0"), V.str (Str.ofString "x"), V.str (Str.ofString "1000000001")]) h2
          have e2 : upd (upd G2 l1 (.lst [V.str (Str.ofString "1000000001"), V.str (Str.ofString "1000000000001")])) l2 (.lst [V.str (Str.ofString ""), V.str (Str.ofString "-"), V.str (Str.ofString "-0"), V.str (Str.ofString "-1"), V.str (Str.ofString "+5"), V.str (Str.ofString "05"), V.str (Str.ofString "1_0"), V.str (Str.ofString "5.0"), V.str (Str.ofString "x"), V.str (Str.ofString "1000000001")]) l2 = some (.lst [V.str (Str.ofString ""), V.str (Str.ofString "-"), V.str (Str.ofString "-0"), V.str (Str.ofString "-1"), V.str (Str.ofString "+5"), V.str (Str.ofString "05"), V.str (Str.ofString "1_0"), V.str (Str.ofString "5.0"), V.str (Str.ofString "x"), V.str (Str.ofString "1000000001")]) := upd_same
          have m2 : l2 ≠ r := (R2.kp N1).none h2
          replace ew := N2.at (N1.at ew)
          replace R2 := (R2.kp N1).kp N2
          replace KG := (KG.trans (N1.mono (by simp))).trans (N2.mono (by simp))
          generalize upd (upd G2 l1 (.lst [V.str (Str.ofString "1000000001"), V.str (Str.ofString "1000000000001")])) l2 (.lst [V.str (Str.ofString ""), V.str (Str.ofString "-"), V.str (Str.ofString "-0"), V.str (Str.ofString "-1"), V.str (Str.ofString "+5"), V.str (Str.ofString "05"), V.str (Str.ofString "1_0"), V.str (Str.ofString "5.0"), V.str (Str.ofString "x"), V.str (Str.ofString "1000000001")]) = G3 at *
          clear N1 N2 h1 h2
          refine hR3 _ _ ?_
          clear hR3
          wp_walk using ew

          refine fun l3 h3 => ?_
          have N3 := Kp.new (S := []) (o := .lst [V.str (Str.ofString ""), V.str (Str.ofString "--"), V.str (Str.ofString "-0"), V.str (Str.ofString "+7"), V.str (Str.ofString "07"), V.str (Str.ofString "-07"), V.str (Str.ofString "1_0"), V.str (Str.ofString "7.0"), V.str (Str.ofString "x"), V.str (Str.ofString "7k"), V.str (Str.ofString "1000000001"), V.str (Str.ofString "-1000000001")]) h3
          exact fin l3 [Str.ofString "", Str.ofString "--", Str.ofString "-0", Str.ofString "+7", Str.ofString "07", Str.ofString "-07", Str.ofString "1_0", Str.ofString "7.0", Str.ofString "x", Str.ofString "7k", Str.ofString "1000000001", Str.ofString "-1000000001"] _ (by decide +kernel) (by decide) upd_same (N3.at ew) (R2.none h3) (R2.kp N3) (KG.trans (N3.mono (by simp)))
      · obtain rfl | rfl | rfl : n = 1 ∨ n = 2 ∨ n = 3 := by simp at n2; omega
        · refine cut_seq fun R_3 hR3 => ?_
          wp_walk

          refine fun l1 h1 l2 h2 => ?_
          have N1 := Kp.new (S := []) (o := .lst [V.str (Str.ofString "1000000001"), V.str (Str.ofString "1000000000001")]) h1
          have N2 := Kp.new (S := []) (o := .lst [V.str (Str.ofString ""), V.str (Str.ofString "-"), V.str (Str.ofString "-0"), V.str (Str.ofString "-1"), V.str (Str.ofString "+5"), V.str (Str.ofString "05"), V.str (Str.ofString "1_0"), V.str (Str.ofString "5.0"), V.str (Str.ofString "x"), V.str (Str.ofString "1000000000001")]) h2
          have e2 : upd (upd G2 l1 (.lst [V.str (Str.ofString "1000000001"), V.str (Str.ofString "1000000000001")])) l2 (.lst [V.str (Str.ofString ""), V.str (Str.ofString "-"), V.str (Str.ofString "-0"), V.str (Str.ofString "-1"), V.str (Str.ofString "+5"), V.str (Str.ofString "05"), V.str (Str.ofString "1_0"), V.str (Str.ofString "5.0"), V.str (Str.ofString "x"), V.str (Str.ofString "1000000000001")]) l2 = some (.lst [V.str (Str.ofString ""), V.str (Str.ofString "-"), V.str (Str.ofString "-0"), V.str (Str.ofString "-1"), V.str (Str.ofString "+5"), V.str (Str.ofString "05"), V.str (Str.ofString "1_0"), V.str (Str.ofString "5.0"), V.str (Str.ofString "x"), V.str (Str.ofString "1000000000001")]) := upd_same
          have m2 : l2 ≠ r := (R2.kp N1).none h2
          replace ew := N2.at (N1.at ew)
          replace R2 := (R2.kp N1).kp N2
          replace KG := (KG.trans (N1.mono (by simp))).trans (N2.mono (by simp))
          generalize upd (upd G2 l1 (.lst [V.str (Str.ofString "1000000001"), V.str (Str.ofString "1000000000001")])) l2 (.lst [V.str (Str.ofString ""), V.str (Str.ofString "-"), V.str (Str.ofString "-0"), V.str (Str.ofString "-1"), V.str (Str.ofString "+5"), V.str (Str.ofString "05"), V.str (Str.ofString "1_0"), V.str (Str.ofString "5.0"), V.str (Str.ofString "x"), V.str (Str.ofString "1000000000001")]) = G3 at *
          clear N1 N2 h1 h2
          refine hR3 _ _ ?_
          clear hR3
          wp_walk using ew

          exact fin l2 [Str.ofString "", Str.ofString "-", Str.ofString "-0", Str.ofString "-1", Str.ofString "+5", Str.ofString "05", Str.ofString "1_0", Str.ofString "5.0", Str.ofString "x", Str.ofString "1000000000001"] _ (by decide +kernel) (by decide) e2 ew m2 R2 KG
        · refine cut_seq fun R_3 hR3 => ?_
          wp_walk

          refine fun l1 h1 l2 h2 => ?_
          have N1 := Kp.new (S := []) (o := .lst [V.str (Str.ofString "1000000001"), V.str (Str.ofString "1000000000001")]) h1
          have N2 := Kp.new (S := []) (o := .lst [V.str (Str.ofString ""), V.str (Str.ofString "-"), V.str (Str.ofString "-0"), V.str (Str.ofString "-1"), V.str (Str.ofString "+5"), V.str (Str.ofString "05"), V.str (Str.ofString "1_0"), V.str (Str.ofString "5.0"), V.str (Str.ofString "x"), V.str (Str.ofString "1000000001")]) h2
          have e2 : upd (upd G2 l1 (.lst [V.str (Str.ofString "1000000001"), V.str (Str.ofString "1000000000001")])) l2 (.lst [V.str (Str.ofString ""), V.str (Str.ofString "-"), V.str (Str.ofString "-0"), V.str (Str.ofString "-1"), V.str (Str.ofString "+5"), V.str (Str.ofString "05"), V.str (Str.ofString "1_0"), V.str (Str.ofString "5.0"), V.str (Str.ofString "x"), V.str (Str.ofString "1000000001")]) l2 = some (.lst [V.str (Str.ofString ""), V.str (Str.ofString "-"), V.str (Str.ofString "-0"), V.str (Str.ofString "-1"), V.str (Str.ofString "+5"), V.str (Str.ofString "05"), V.str (Str.ofString "1_0"), V.str (Str.ofString "5.0"), V.str (Str.ofString "x"), V.str (Str.ofString "1000000001")]) := upd_same
          have m2 : l2 ≠ r := (R2.kp N1).none h2
          replace ew := N2.at (N1.at ew)
          replace R2 := (R2.kp N1).kp N2
          replace KG := (KG.trans (N1.mono (by simp))).trans (N2.mono (by simp))
          generalize upd (upd G2 l1 (.lst [V.str (Str.ofString "1000000001"), V.str (Str.ofString "1000000000001")])) l2 (.lst [V.str (Str.ofString ""), V.str (Str.ofString "-"), V.str (Str.ofString "-0"), V.str (Str.ofString "-1"), V.str (Str.ofString "+5"), V.str (Str.ofString "05"), V.str (Str.ofString "1_0"), V.str (Str.ofString "5.0"), V.str (Str.ofString "x"), V.str (Str.ofString "1000000001")]) = G3 at *
          clear N1 N2 h1 h2
          refine hR3 _ _ ?_
          clear hR3
          wp_walk using ew

          exact fin l2 [Str.ofString "", Str.ofString "-", Str.ofString "-0", Str.ofString "-1", Str.ofString "+5", Str.ofString "05", Str.ofString "1_0", Str.ofString "5.0", Str.ofString "x", Str.ofString "1000000001"] _ (by decide +kernel) (by decide) e2 ew m2 R2 KG
        · rw [show ((3 : Nat) : Int) = 3 from rfl]
          refine cut_seq fun R_3 hR3 => ?_
          wp_walk

          refine fun l1 h1 l2 h2 => ?_
          have N1 := Kp.new (S := []) (o := .lst [V.str (Str.ofString "1000000001"), V.str (Str.ofString "1000000000001")]) h1
          have N2 := Kp.new (S := []) (o := .lst [V.str (Str.ofString ""), V.str (Str.ofString "-"), V.str (Str.ofString "-0"), V.str (Str.ofString "-1"), V.str (Str.ofString "+5"), V.str (Str.ofString "05"), V.str (Str.ofString "1_0"), V.str (Str.ofString "5.0"), V.str (Str.ofString "x"), V.str (Str.ofString "1000000001")]) h2
          have e2 : upd (upd G2 l1 (.lst [V.str (Str.ofString "1000000001"), V.str (Str.ofString "1000000000001")])) l2 (.lst [V.str (Str.ofString ""), V.str (Str.ofString "-"), V.str (Str.ofString "-0"), V.str (Str.ofString "-1"), V.str (Str.ofString "+5"), V.str (Str.ofString "05"), V.str (Str.ofString "1_0"), V.str (Str.ofString "5.0"), V.str (Str.ofString "x"), V.str (Str.ofString "1000000001")]) l2 = some (.lst [V.str (Str.ofString ""), V.str (Str.ofString "-"), V.str (Str.ofString "-0"), V.str (Str.ofString "-1"), V.str (Str.ofString "+5"), V.str (Str.ofString "05"), V.str (Str.ofString "1_0"), V.str (Str.ofString "5.0"), V.str (Str.ofString "x"), V.str (Str.ofString "1000000001")]) := upd_same
          have m2 : l2 ≠ r := (R2.kp N1).none h2
          replace ew := N2.at (N1.at ew)
          replace R2 := (R2.kp N1).kp N2
          replace KG := (KG.trans (N1.mono (by simp))).trans (N2.mono (by simp))
          generalize upd (upd G2 l1 (.lst [V.str (Str.ofString "1000000001"), V.str (Str.ofString "1000000000001")])) l2 (.lst [V.str (Str.ofString ""), V.str (Str.ofString "-"), V.str (Str.ofString "-0"), V.str (Str.ofString "-1"), V.str (Str.ofString "+5"), V.str (Str.ofString "05"), V.str (Str.ofString "1_0"), V.str (Str.ofString "5.0"), V.str (Str.ofString "x"), V.str (Str.ofString "1000000001")]) = G3 at *
          clear N1 N2 h1 h2
          refine hR3 _ _ ?_
          clear hR3
          wp_walk using ew

          refine fun l3 h3 => ?_
          have N3 := Kp.new (S := []) (o := .lst [V.str (Str.ofString ""), V.str (Str.ofString "--"), V.str (Str.ofString "-0"), V.str (Str.ofString "+7"), V.str (Str.ofString "07"), V.str (Str.ofString "-07"), V.str (Str.ofString "1_0"), V.str (Str.ofString "7.0"), V.str (Str.ofString "x"), V.str (Str.ofString "7k"), V.str (Str.ofString "1000000001"), V.str (Str.ofString "-1000000001")]) h3
          exact fin l3 [Str.ofString "", Str.ofString "--", Str.ofString "-0", Str.ofString "+7", Str.ofString "07", Str.ofString "-07", Str.ofString "1_0", Str.ofString "7.0", Str.ofString "x", Str.ofString "7k", Str.ofString "1000000001", Str.ofString "-1000000001"] _ (by decide +kernel) (by decide) upd_same (N3.at ew) (R2.none h3) (R2.kp N3) (KG.trans (N3.mono (by simp)))
      · obtain rfl | rfl | rfl : n = 1 ∨ n = 2 ∨ n = 3 := by simp at n2; omega
        · refine cut_seq fun R_3 hR3 => ?_
          wp_walk

          refine fun l1 h1 l2 h2 => ?_
          have N1 := Kp.new (S := []) (o := .lst [V.str (Str.ofString "1000000001"), V.str (Str.ofString "1000000000001")]) h1
          have N2 := Kp.new (S := []) (o := .lst [V.str (Str.ofString ""), V.str (Str.ofString "-"), V.str (Str.ofString "-0"), V.str (Str.ofString "-1"), V.str (Str.ofString "+5"), V.str (Str.ofString "05"), V.str (Str.ofString "1_0"), V.str (Str.ofString "5.0"), V.str (Str.ofString "x"), V.str (Str.ofString "1000000000001")]) h2
          have e2 : upd (upd G2 l1 (.lst [V.str (Str.ofString "1000000001"), V.str (Str.ofString "1000000000001")])) l2 (.lst [V.str (Str.ofString ""), V.str (Str.ofString "-"), V.str (Str.ofString "-0"), V.str (Str.ofString "-1"), V.str (Str.ofString "+5"), V.str (Str.ofString "05"), V.str (Str.ofString "1_0"), V.str (Str.ofString "5.0"), V.str (Str.ofString "x"), V.str (Str.ofString "1000000000001")]) l2 = some (.lst [V.str (Str.ofString ""), V.str (Str.ofString "-"), V.str (Str.ofString "-0"), V.str (Str.ofString "-1"), V.str (Str.ofString "+5"), V.str (Str.ofString "05"), V.str (Str.ofString "1_0"), V.str (Str.ofString "5.0"), V.str (Str.ofString "x"), V.str (Str.ofString "1000000000001")]) := upd_same
          have m2 : l2 ≠ r := (R2.kp N1).none h2
          replace ew := N2.at (N1.at ew)
          replace R2 := (R2.kp N1).kp N2
          replace KG := (KG.trans (N1.mono (by simp))).trans (N2.mono (by simp))
          generalize upd (upd G2 l1 (.lst [V.str (Str.ofString "1000000001"), V.str (Str.ofString "1000000000001")])) l2 (.lst [V.str (Str.ofString ""), V.str (Str.ofString "-"), V.str (Str.ofString "-0"), V.str (Str.ofString "-1"), V.str (Str.ofString "+5"), V.str (Str.ofString "05"), V.str (Str.ofString "1_0"), V.str (Str.ofString "5.0"), V.str (Str.ofString "x"), V.str (Str.ofString "1000000000001")]) = G3 at *
          clear N1 N2 h1 h2
          refine hR3 _ _ ?_
          clear hR3
          wp_walk using ew

          exact fin l2 [Str.ofString "", Str.ofString "-", Str.ofString "-0", Str.ofString "-1", Str.ofString "+5", Str.ofString "05", Str.ofString "1_0", Str.ofString "5.0", Str.ofString "x", Str.ofString "1000000000001"] _ (by decide +kernel) (by decide) e2 ew m2 R2 KG
        · refine cut_seq fun R_3 hR3 => ?_
          wp_walk

          refine fun l1 h1 l2 h2 => ?_
          have N1 := Kp.new (S := []) (o := .lst [V.str (Str.ofString "1000000001"), V.str (Str.ofString "1000000000001")]) h1
          have N2 := Kp.new (S := []) (o := .lst [V.str (Str.ofString ""), V.str (Str.ofString "-"), V.str (Str.ofString "-0"), V.str (Str.ofString "-1"), V.str (Str.ofString "+5"), V.str (Str.ofString "05"), V.str (Str.ofString "1_0"), V.str (Str.ofString "5.0"), V.str (Str.ofString "x"), V.str (Str.ofString "1000000001")]) h2
          have e2 : upd (upd G2 l1 (.lst [V.str (Str.ofString "1000000001"), V.str (Str.ofString "1000000000001")])) l2 (.lst [V.str (Str.ofString ""), V.str (Str.ofString "-"), V.str (Str.ofString "-0"), V.str (Str.ofString "-1"), V.str (Str.ofString "+5"), V.str (Str.ofString "05"), V.str (Str.ofString "1_0"), V.str (Str.ofString "5.0"), V.str (Str.ofString "x"), V.str (Str.ofString "1000000001")]) l2 = some (.lst [V.str (Str.ofString ""), V.str (Str.ofString "-"), V.str (Str.ofString "-0"), V.str (Str.ofString "-1"), V.str (Str.ofString "+5"), V.str (Str.ofString "05"), V.str (Str.ofString "1_0"), V.str (Str.ofString "5.0"), V.str (Str.ofString "x"), V.str (Str.ofString "1000000001")]) := upd_same
          have m2 : l2 ≠ r := (R2.kp N1).none h2
          replace ew := N2.at (N1.at ew)
          replace R2 := (R2.kp N1).kp N2
          replace KG := (KG.trans (N1.mono (by simp))).trans (N2.mono (by simp))
          generalize upd (upd G2 l1 (.lst [V.str (Str.ofString "1000000001"), V.str (Str.ofString "1000000000001")])) l2 (.lst [V.str (Str.ofString ""), V.str (Str.ofString "-"), V.str (Str.ofString "-0"), V.str (Str.ofString "-1"), V.str (Str.ofString "+5"), V.str (Str.ofString "05"), V.str (Str.ofString "1_0"), V.str (Str.ofString "5.0"), V.str (Str.ofString "x"), V.str (Str.ofString "1000000001")]) = G3 at *
          clear N1 N2 h1 h2
          refine hR3 _ _ ?_
          clear hR3
          wp_walk using ew

          rw [if_neg (by decide)]
          refine fun l3 h3 l4 h4 => ?_
          have N3 := Kp.new (S := []) (o := .lst [V.str (Str.ofString ""), V.str (Str.ofString "-"), V.str (Str.ofString "K"), V.str (Str.ofString "aB"), V.str (Str.ofString "k1"), V.str (Str.ofString "a_b"), V.str (Str.ofString "abcdefg"), V.str (Str.ofString "order"), V.str (Str.ofString "timer"), V.str (Str.ofString "child"), V.str (Str.ofString "send"), V.str (Str.ofString "drop"), V.str (Str.ofString "wait"), V.str (Str.ofString "hear")]) h3
          have N4 := Kp.new (S := []) (o := .lst [V.str (Str.ofString "if"), V.str (Str.ofString "else"), V.str (Str.ofString "done"), V.str (Str.ofString "while"), V.str (Str.ofString "end"), V.str (Str.ofString "none"), V.str (Str.ofString "arg"), V.str (Str.ofString "now"), V.str (Str.ofString "answer"), V.str (Str.ofString "not")]) h4
          rw [upd_ne (ne_of_none (show upd G3 l3 (.lst [V.str (Str.ofString ""), V.str (Str.ofString "-"), V.str (Str.ofString "K"), V.str (Str.ofString "aB"), V.str (Str.ofString "k1"), V.str (Str.ofString "a_b"), V.str (Str.ofString "abcdefg"), V.str (Str.ofString "order"), V.str (Str.ofString "timer"), V.str (Str.ofString "child"), V.str (Str.ofString "send"), V.str (Str.ofString "drop"), V.str (Str.ofString "wait"), V.str (Str.ofString "hear")]) l3 = some (.lst [V.str (Str.ofString ""), V.str (Str.ofString "-"), V.str (Str.ofString "K"), V.str (Str.ofString "aB"), V.str (Str.ofString "k1"), V.str (Str.ofString "a_b"), V.str (Str.ofString "abcdefg"), V.str (Str.ofString "order"), V.str (Str.ofString "timer"), V.str (Str.ofString "child"), V.str (Str.ofString "send"), V.str (Str.ofString "drop"), V.str (Str.ofString "wait"), V.str (Str.ofString "hear")]) from upd_same) h4), upd_same]
          wp_walk

          refine fun l5 h5 => ?_
          have N5 := Kp.new (S := []) (o := .lst ([V.str (Str.ofString ""), V.str (Str.ofString "-"), V.str (Str.ofString "K"), V.str (Str.ofString "aB"), V.str (Str.ofString "k1"), V.str (Str.ofString "a_b"), V.str (Str.ofString "abcdefg"), V.str (Str.ofString "order"), V.str (Str.ofString "timer"), V.str (Str.ofString "child"), V.str (Str.ofString "send"), V.str (Str.ofString "drop"), V.str (Str.ofString "wait"), V.str (Str.ofString "hear")] ++ [V.str (Str.ofString "if"), V.str (Str.ofString "else"), V.str (Str.ofString "done"), V.str (Str.ofString "while"), V.str (Str.ofString "end"), V.str (Str.ofString "none"), V.str (Str.ofString "arg"), V.str (Str.ofString "now"), V.str (Str.ofString "answer"), V.str (Str.ofString "not")])) h5
          exact fin l5 [Str.ofString "", Str.ofString "-", Str.ofString "K", Str.ofString "aB", Str.ofString "k1", Str.ofString "a_b", Str.ofString "abcdefg", Str.ofString "order", Str.ofString "timer", Str.ofString "child", Str.ofString "send", Str.ofString "drop", Str.ofString "wait", Str.ofString "hear", Str.ofString "if", Str.ofString "else", Str.ofString "done", Str.ofString "while", Str.ofString "end", Str.ofString "none", Str.ofString "arg", Str.ofString "now", Str.ofString "answer", Str.ofString "not"] _ (by decide +kernel) (by decide) upd_same (N5.at (N4.at (N3.at ew))) (((R2.kp N3).kp N4).none h5) (((R2.kp N3).kp N4).kp N5) (((KG.trans (N3.mono (by simp))).trans (N4.mono (by simp))).trans (N5.mono (by simp)))
        · rw [show ((3 : Nat) : Int) = 3 from rfl]
          refine cut_seq fun R_3 hR3 => ?_
          wp_walk

          refine fun l1 h1 l2 h2 => ?_
          have N1 := Kp.new (S := []) (o := .lst [V.str (Str.ofString "1000000001"), V.str (Str.ofString "1000000000001")]) h1
          have N2 := Kp.new (S := []) (o := .lst [V.str (Str.ofString ""), V.str (Str.ofString "-"), V.str (Str.ofString "-0"), V.str (Str.ofString "-1"), V.str (Str.ofString "+5"), V.str (Str.ofString "05"), V.str (Str.ofString "1_0"), V.str (Str.ofString "5.0"), V.str (Str.ofString "x"), V.str (Str.ofString "1000000001")]) h2
          have e2 : upd (upd G2 l1 (.lst [V.str (Str.ofString "1000000001"), V.str (Str.ofString "1000000000001")])) l2 (.lst [V.str (Str.ofString ""), V.str (Str.ofString "-"), V.str (Str.ofString "-0"), V.str (Str.ofString "-1"), V.str (Str.ofString "+5"), V.str (Str.ofString "05"), V.str (Str.ofString "1_0"), V.str (Str.ofString "5.0"), V.str (Str.ofString "x"), V.str (Str.ofString "1000000001")]) l2 = some (.lst [V.str (Str.ofString ""), V.str (Str.ofString "-"), V.str (Str.ofString "-0"), V.str (Str.ofString "-1"), V.str (Str.ofString "+5"), V.str (Str.ofString "05"), V.str (Str.ofString "1_0"), V.str (Str.ofString "5.0"), V.str (Str.ofString "x"), V.str (Str.ofString "1000000001")]) := upd_same
          have m2 : l2 ≠ r := (R2.kp N1).none h2
          replace ew := N2.at (N1.at ew)
          replace R2 := (R2.kp N1).kp N2
          replace KG := (KG.trans (N1.mono (by simp))).trans (N2.mono (by simp))
          generalize upd (upd G2 l1 (.lst [V.str (Str.ofString "1000000001"), V.str (Str.ofString "1000000000001")])) l2 (.lst [V.str (Str.ofString ""), V.str (Str.ofString "-"), V.str (Str.ofString "-0"), V.str (Str.ofString "-1"), V.str (Str.ofString "+5"), V.str (Str.ofString "05"), V.str (Str.ofString "1_0"), V.str (Str.ofString "5.0"), V.str (Str.ofString "x"), V.str (Str.ofString "1000000001")]) = G3 at *
          clear N1 N2 h1 h2
          refine hR3 _ _ ?_
          clear hR3
          wp_walk using ew

          refine fun l3 h3 => ?_
          have N3 := Kp.new (S := []) (o := .lst [V.str (Str.ofString ""), V.str (Str.ofString "--"), V.str (Str.ofString "-0"), V.str (Str.ofString "+7"), V.str (Str.ofString "07"), V.str (Str.ofString "-07"), V.str (Str.ofString "1_0"), V.str (Str.ofString "7.0"), V.str (Str.ofString "x"), V.str (Str.ofString "7k"), V.str (Str.ofString "1000000001"), V.str (Str.ofString "-1000000001")]) h3
          exact fin l3 [Str.ofString "", Str.ofString "--", Str.ofString "-0", Str.ofString "+7", Str.ofString "07", Str.ofString "-07", Str.ofString "1_0", Str.ofString "7.0", Str.ofString "x", Str.ofString "7k", Str.ofString "1000000001", Str.ofString "-1000000001"] _ (by decide +kernel) (by decide) upd_same (N3.at ew) (R2.none h3) (R2.kp N3) (KG.trans (N3.mono (by simp)))

    intro pb bs G3 hb lb eb ew3 nb R3 K3
    refine hR5 _ _ ?_
    clear hR5
    wp_walk using ew3, eb

    refine fun p1 h1 => ?_
    rw [cut_toB]
    have N1 := Kp.new (S := []) (o := .lst ((ws.map V.str).take n)) h1
    have e1 : upd G3 p1 (.lst ((ws.map V.str).take n)) p1 = some (.lst ((ws.map V.str).take n)) := upd_same
    have m1 : p1 ≠ r := R3.none h1
    replace eb := N1.at eb
    replace ew3 := N1.at ew3
    replace R3 := R3.kp N1
    replace K3 := K3.trans (N1.mono (T := [r]) (by simp))
    generalize upd G3 p1 (.lst ((ws.map V.str).take n)) = G4 at *
    clear N1 h1
    wp_walk using eb

    rw [List.length_map]
    refine ⟨by omega, by omega, R3, fun g G5 a5 b5 R5 K5 => ?_⟩
    replace eb := K5.at1 eb nb
    replace ew3 := K5.at1 ew3 nw
    replace e1 := K5.at1 e1 m1
    replace K3 := K3.trans K5
    clear K5 R3
    wp_walk using eb

    refine r_draw a5 (by rw [List.length_map]; exact b5) fun v hv => ?_
    obtain ⟨b, hbb, rfl⟩ := List.mem_map.mp hv
    wp_walk

    refine fun p2 h2 => ?_
    have N2 := Kp.new (S := []) (o := .lst [.str b]) h2
    replace ew3 := N2.at ew3
    replace R5 := R5.kp N2
    rw [upd_ne (ne_of_none e1 h2), e1]
    replace K3 := K3.trans (N2.mono (T := [r]) (by simp))
    generalize upd G5 p2 (.lst [.str b]) = G6 at *
    clear N2 h2
    wp_walk

    refine ⟨by rw [List.length_take, List.length_map]; omega, fun p3 h3 => ?_⟩
    have N3 := Kp.new (S := []) (o := .lst (List.take n (List.map V.str ws) ++ [V.str b])) h3
    replace ew3 := N3.at ew3
    have e3 : upd G6 p3 (.lst (List.take n (List.map V.str ws) ++ [V.str b])) p3 = some (.lst (List.take n (List.map V.str ws) ++ [V.str b])) := upd_same
    replace R5 := R5.kp N3
    replace K3 := K3.trans (N3.mono (T := [r]) (by simp))
    generalize upd G6 p3 (.lst (List.take n (List.map V.str ws) ++ [V.str b])) = G7 at *
    clear N3 h3
    rw [ew3]
    wp_walk

    refine fun p4 h4 => ?_
    rw [show ((n : Int) + 1) = ((n + 1 : Nat) : Int) by omega, cut_frB]
    have N4 := Kp.new (S := []) (o := .lst (List.drop (n + 1) (List.map V.str ws))) h4
    rw [upd_ne (ne_of_none e3 h4), e3]
    replace R5 := R5.kp N4
    replace K3 := K3.trans (N4.mono (T := [r]) (by simp))
    generalize upd G7 p4 (.lst (List.drop (n + 1) (List.map V.str ws))) = G8 at *
    clear N4 h4
    wp_walk

    obtain ⟨b1, b2⟩ := hb b hbb
    have eL : List.take n (List.map V.str ws) ++ [V.str b] ++ List.drop (n + 1) (List.map V.str ws) = (ws.take n ++ b :: ws.drop (n + 1)).map V.str := by simp [List.map_take, List.map_drop]
    rw [eL]
    have lY : (ws.take n ++ b :: ws.drop (n + 1)).length = ws.length := by simp only [List.length_append, List.length_cons, List.length_take, List.length_drop]; omega
    have sb := sumJ (B := 100) (ys := ws.take n ++ b :: ws.drop (n + 1)) fun y hy => by
      rcases List.mem_append.mp hy with hy | hy
      · exact w3_len ws hw y (List.mem_of_mem_take hy)
      · rcases List.mem_cons.mp hy with rfl | hy
        · exact b1
        · exact w3_len ws hw y (List.mem_of_mem_drop hy)
    rw [lY] at sb
    refine ⟨by simp only [List.length_append, List.length_take, List.length_drop, List.length_map, List.length_cons, List.length_nil]; omega, fun p5 h5 => ?_⟩
    wp_walk using strsV_map

    have N5 := Kp.new (S := []) (o := .lst ((ws.take n ++ b :: ws.drop (n + 1)).map V.str)) h5
    refine ⟨by rw [lY, jlens.1]; omega, q _ _ b2 (R5.kp N5) (K3.trans (N5.mono (by simp)))⟩
theorem ok_lawodd {t : Ad} (T : Tx w K mg t) : FnOk P w K mg base CX0 5 t.alawodd t.dlawodd ["jar"] spOdd := by
  refine T.flawodd.ok sc_lawodd (fun vs H Q E h => ?_) (fun cdv A outer s H vs Q E hr h => ?_)
  · obtain ⟨r, rfl, _⟩ := h
    rfl
  · obtain ⟨r, rfl, hR, q⟩ := h
    refine ⟨_, (pss_cons (ps_if (pt_cmpR op_eq (pe_call (ok_lawtake T) (hr.mono (by omega)) rfl T.mlawtake T.flawtake.kp T.blawtake .nil pass0 (pa_n (pv 0) (pa_n pe_int pa_nil))) pe_int (nomark _)) (pss_one (ps_ret (pe_call (ok_lawbent T) (hr.mono (by omega)) rfl T.mlawbent T.flawbent.kp T.blawbent .nil pass0 (pa_n (pv 0) pa_nil)))) pss_nil)
      (pss_one (ps_ret (pe_call (ok_lawnone T) (hr.mono (by omega)) rfl T.mlawnone T.flawnone.kp T.blawnone .nil pass0 (pa_n (pe_call (ok_lawtake T) (hr.mono (by omega)) rfl T.mlawtake T.flawtake.kp T.blawtake .nil pass0 (pa_n (pv 0) (pa_n pe_int pa_nil))) pa_nil))))), ?_⟩
    try dsimp only [L2.start, m_cons, m_nil, List.cons_append, List.nil_append, List.replicate_succ, List.replicate_zero, List.length_cons, List.length_nil, Nat.reduceAdd, Nat.reduceSub, Nat.zero_add]
    wp_walk

    refine ⟨hR, fun g H1 a1 b1 R1 K1 => ?_⟩
    split
    · exact ⟨r, rfl, R1, fun b H2 ob R2 K2 => q b H2 ob R2 (K1.trans K2)⟩
    · refine ⟨R1, fun g2 H2 a2 b2 R2 K2 => ⟨g2, rfl, a2, fun b H3 ob K3 => q b H3 ob (R2.kp K3) ((K1.trans K2).trans (K3.mono (by simp)))⟩⟩
theorem ok_law {t : Ad} (T : Tx w K mg t) : FnOk P w K mg base CX0 90 t.alaw t.dlaw ["script"] (spLaw K) := by
  refine T.flaw.ok sc_law (fun vs H Q E h => ?_) (fun cdv A outer s H vs Q E hr h => ?_)
  · obtain ⟨a, ns, rfl, _⟩ := h
    rfl
  · obtain ⟨a, ns, rfl, hS, h63, q⟩ := h
    refine ⟨_, (pss_cons (ps_setComp (i := 2) (cl := []) (fr := []) (N := ["cell"]) rfl (fun _ _ h => h) (CompSc.nofree rfl rfl rfl rfl) (pi_list (pe_slice sl_list (pv 0) po_none (po_some pe_int))) (fun C s H ex pn => ⟨pts_nil, (pe_call (ok_lawline T) (hr.mono (by omega)) rfl T.mlawline T.flawline.kp T.blawline .nil pass0 (pa_n (pe_call (ok_lawany T) (hr.mono (by omega)) rfl T.mlawany T.flawany.kp T.blawany .nil pass0 (pa_n (pe_call (ok_lawjar T) (hr.mono (by omega)) rfl T.mlawjar T.flawjar.kp T.blawjar .nil pass0 (pa_n (pv 0) pa_nil)) pa_nil)) pa_nil))⟩) sc_law.nd rfl (Or.inl rfl))
      (pss_cons (ps_for PassesOwn.never rfl (pi_list (pe_op op_addC (pe_lst (pa_n pe_int pa_nil)) (pe_slice sl_list (pv 0) po_none (po_some pe_int)))) (pg_name (i := 1) sc_law.nd rfl (Or.inl rfl)) (pss_cons (ps_set (i := 3) sc_law.nd rfl (Or.inl rfl) (pe_call (ok_lawjar T) (hr.mono (by omega)) rfl T.mlawjar T.flawjar.kp T.blawjar .nil pass0 (pa_n (pv 1) pa_nil)))
      (pss_cons (ps_set (i := 4) sc_law.nd rfl (Or.inl rfl) (pe_call (ok_lawtake T) (hr.mono (by omega)) rfl T.mlawtake T.flawtake.kp T.blawtake .nil pass0 (pa_n (pv 3) (pa_n (pe_op op_addC (pe_callB call_lenC rfl T.zlen bt_len (pa_n (pv 2) pa_nil)) pe_int) pa_nil))))
      (pss_cons (ps_set (i := 5) sc_law.nd rfl (Or.inl rfl) (pe_op op_addC (pe_op op_addC (pe_slice sl_c (pv 2) po_none (po_some (pv 4))) (pe_lst (pa_n (pe_op op_addC (pe_call (ok_lawodd T) (hr.mono (by omega)) rfl T.mlawodd T.flawodd.kp T.blawodd .nil pass0 (pa_n (pv 3) pa_nil)) pe_str) pa_nil))) (pe_slice sl_c (pv 2) (po_some (pv 4)) po_none)))
      (pss_cons (ps_if (pt_cmpR op_eq (pe_call (ok_lawtake T) (hr.mono (by omega)) rfl T.mlawtake T.flawtake.kp T.blawtake .nil pass0 (pa_n (pv 3) (pa_n pe_int pa_nil))) pe_int (nomark _)) (pss_one (ps_expr (pe_appC (pv 5) (pe_op op_addC (pe_call (ok_lawodd T) (hr.mono (by omega)) rfl T.mlawodd T.flawodd.kp T.blawodd .nil pass0 (pa_n (pv 3) pa_nil)) pe_str)))) pss_nil)
      (pss_one (ps_if (PW.pt (pw_or (pt_cmpR op_ne (pe_call (ok_lawfield T) (hr.mono (by omega)) rfl T.mlawfield T.flawfield.kp T.blawfield .nil pass0 (pa_n (pe_bm PySem.F.plainAttrs_str PySem.F.slot_str_join PySem.F.type_str_join mt_join pe_str (pa_n (pv 5) pa_nil)) pa_nil)) (pv 4) (nomark _)) (pw_or1 (pt_cmpR op_ne (pe_call (ok_lawfield T) (hr.mono (by omega)) rfl T.mlawfield T.flawfield.kp T.blawfield .nil pass0 (pa_n (pe_op op_addC (pe_bm PySem.F.plainAttrs_str PySem.F.slot_str_join PySem.F.type_str_join mt_join pe_str (pa_n (pv 5) pa_nil)) pe_str) pa_nil)) (pv 4) (nomark _))))) (pss_one (ps_ret pe_bl)) pss_nil)))))))
      (pss_one (ps_ret (pe_and (pe_cmpR op_eq (pe_callB call_lenC rfl T.zlen bt_len (pa_n (pe_call (ok_readlog T) (hr.mono (by omega)) rfl T.mreadlog T.freadlog.kp T.breadlog .nil passN (pa_n (pe_bm PySem.F.plainAttrs_str PySem.F.slot_str_join PySem.F.type_str_join mt_join pe_str (pa_n (pv 2) pa_nil)) pa_nil)) pa_nil)) (pe_callB call_lenC rfl T.zlen bt_len (pa_n (pv 2) pa_nil)) (nomark _)) (pe_one (pe_cmpR op_eq (pe_fldX T.xNoLog lk_verr_line (pe_makeX T.xNoLog (ok_NoLoginit T) (hr.mono (by omega)) rfl T.mXNoLog T.bNoLoginit (pa_n (pe_callB call_lenC rfl T.zlen bt_len (pa_n (pv 2) pa_nil)) pa_nil)) rfl) (pe_callB call_lenC rfl T.zlen bt_len (pa_n (pv 2) pa_nil)) (nomark _)))))))), ?_⟩
    try dsimp only [L2.start, m_cons, m_nil, List.cons_append, List.nil_append, List.replicate_succ, List.replicate_zero, List.length_cons, List.length_nil, Nat.reduceAdd, Nat.reduceSub, Nat.zero_add]
    refine cut_seq fun R_1 hR1 => ?_
    wp_walk

    refine ⟨_, hS, fun p1 h1 => ?_⟩
    obtain ⟨ms, em, lm⟩ := cut_ints ns none (some 40)
    rw [em]
    have K1 := Kp.new (S := []) (o := .lst (ms.map V.int)) h1
    have e1 : upd H p1 (.lst (ms.map V.int)) p1 = some (.lst (ms.map V.int)) := upd_same
    have hS1 := K1.same.seq hS
    generalize upd H p1 (.lst (ms.map V.int)) = G1 at *
    wp_walk

    refine ⟨⟨_, SqL.of e1⟩, ?_⟩
    refine lc_list (ys := ms.map V.int) (fun j xs G => ∃ hs : List Hap, xs = hs.map (fun h => V.str h.line) ∧ (∀ h ∈ hs, h.ok) ∧ hs.length ≤ j ∧ j ≤ 63 ∧ Kp [] G1 G) ⟨[], rfl, by simp, by simp, by decide, Kp.refl⟩ ?_ ?_ ?_ ?_
    · rintro j xs G ⟨hs, rfl, _, hj, hj2, _⟩
      rw [List.length_map]
      omega
    · rintro j xs G ⟨_, _, _, _, _, k⟩
      exact SqL.of (k.at e1)
    · rintro j y xs G hj0 hj ⟨hs, rfl, ok, hj1, hj2, k⟩
      obtain ⟨z, rfl⟩ := ints_at hj
      rw [List.length_map] at hj0
      wp_walk using compSt, Option.join_some

      refine fun r H2 nr K2 R2 => ⟨r, rfl, R2, fun v h H3 hA ho R3 K3 => ?_⟩
      have K23 : Kp [] G H3 := fun b o e _ => K3.at1 (K2.at e) (ne_of_none e nr)
      refine ⟨v, h, rfl, hA, ho, fun H4 K4 => ?_⟩
      exact ⟨hs ++ [h], by simp, fun g hg => by
        rcases List.mem_append.mp hg with hg | hg
        · exact ok g hg
        · rw [show g = h by simpa using hg]; exact ho, by simp; omega, by omega, (k.trans K23).trans K4⟩

    rintro xs G ⟨hs, rfl, ok, hj1, hj2, k⟩ ln hln
    have KX := Kp.new (S := []) (o := .lst (hs.map fun h => V.str h.line)) hln
    have el : upd G ln (.lst (hs.map fun h => V.str h.line)) ln = some (.lst (hs.map fun h => V.str h.line)) := upd_same
    have hS2 := (k.trans KX).same.seq hS1
    generalize upd G ln (.lst (hs.map fun h => V.str h.line)) = G2 at *
    rw [List.length_map] at hj1
    have l63 : hs.length ≤ 63 := by omega
    clear KX hln k hj1 hj2 K1 e1 hS1 em lm
    refine hR1 _ _ ?_
    clear hR1
    refine cut_seq fun R_2 hR2 => ?_
    wp_walk

    refine fun p2 h2 => ⟨_, (Kp.new (S := []) h2).same.seq hS2, fun p3 h3 => ?_⟩
    obtain ⟨ms2, em2, lm2⟩ := cut_ints ns none (some 16)
    rw [em2]
    have N2 := Kp.new (S := []) (o := .lst [V.int 0]) h2
    have N3 := Kp.new (S := []) (o := .lst (ms2.map V.int)) h3
    rw [upd_ne (ne_of_none (show upd G2 p2 (.lst [V.int 0]) p2 = some (.lst [V.int 0]) from upd_same) h3), upd_same]
    wp_walk

    refine ⟨by rw [List.length_map]; omega, fun p4 h4 => ?_⟩
    have N4 := Kp.new (S := []) (o := .lst (V.int 0 :: ms2.map V.int)) h4
    have e4 : upd (upd (upd G2 p2 (.lst [V.int 0])) p3 (.lst (ms2.map V.int))) p4 (.lst (V.int 0 :: ms2.map V.int)) p4 = some (.lst (((0 : Int) :: ms2).map V.int)) := upd_same
    replace el := N4.at (N3.at (N2.at el))
    have K0 : Kp [] G2 G2 := Kp.refl
    clear K0
    generalize upd (upd (upd G2 p2 (.lst [V.int 0])) p3 (.lst (ms2.map V.int))) p4 (.lst (V.int 0 :: ms2.map V.int)) = G3 at *
    clear N2 N3 N4 h2 h3 h4 hS2
    refine ⟨⟨_, SqL.of e4⟩, ?_⟩
    obtain ⟨Pv, hPv⟩ : ∃ Pv : Nat → St → Hp → Prop, ∀ i σ G, Pv i σ G = ∃ v1 v3 v4 v5 : Option V, σ = [some (.ref a), v1, some (.ref ln), v3, v4, v5] ∧ Kp [] G3 G := ⟨_, fun _ _ _ => rfl⟩
    refine for_list (xs := ((0 : Int) :: ms2).map V.int) Pv ?_ ?_ ?_ ?_
    · rw [hPv]
      exact ⟨_, _, _, _, rfl, Kp.refl⟩
    · intro i σ G h1 h2
      rw [hPv] at h2
      obtain ⟨_, _, _, _, _, k⟩ := h2
      exact SqL.of (k.at e4)
    · intro i y σ G hy hG
      rw [hPv] at hG
      obtain ⟨v1, v3, v4, v5, rfl, k⟩ := hG
      obtain ⟨z, rfl⟩ := ints_at hy
      have back : ∀ (v1 v3 v4 v5 : Option V) (G' : Hp), Kp [] G G' → Pv (i + 1) [some (.ref a), v1, some (.ref ln), v3, v4, v5] G' := fun v1 v3 v4 v5 G' k' => by
        rw [hPv]
        exact ⟨_, _, _, _, rfl, k.trans k'⟩
      clear hPv
      have elG := k.at el
      refine cut_seq fun R_3 hR3 => ?_
      wp_walk

      refine fun r G4 nr K4 R4 => ?_
      wp_walk
      refine hR3 _ _ ?_
      clear hR3
      refine cut_seq fun R_4 hR4 => ?_
      wp_walk using K4.at elG

      rw [List.length_map]
      refine ⟨by omega, by omega, R4, fun g G5 a5 b5 R5 K5 => ?_⟩
      obtain ⟨n, rfl⟩ : ∃ n : Nat, g = (n : Int) := ⟨g.toNat, by omega⟩
      have nh : n ≤ hs.length := by omega
      have toK : ∀ G', Kp [r] G4 G' → Kp [] G G' := fun G' k b o e _ => k.at1 (K4.at e) (ne_of_none e nr)
      have nl : ln ≠ r := ne_of_none elG nr
      clear a5 b5 R4
      have el5 := (toK _ K5).at elG
      refine hR4 _ _ ?_
      clear hR4
      refine cut_seq fun R_5 hR5 => ?_
      wp_walk using el5

      refine fun q1 g1 => ?_
      rw [cut_toB]
      have N1 := Kp.new (S := []) (o := .lst ((hs.map fun h => V.str h.line).take n)) g1
      have f1 : upd G5 q1 (.lst ((hs.map fun h => V.str h.line).take n)) q1 = some (.lst ((hs.map fun h => V.str h.line).take n)) := upd_same
      have m1 : q1 ≠ r := R5.none g1
      replace R5 := R5.kp N1
      replace K5 := K5.trans (N1.mono (T := [r]) (by simp))
      generalize upd G5 q1 (.lst ((hs.map fun h => V.str h.line).take n)) = G6 at *
      clear N1 g1 el5
      refine ⟨r, rfl, R5, fun b G7 ob R7 K7 => ?_⟩
      replace f1 := K7.at1 f1 m1
      replace K5 := K5.trans K7
      clear K7 R5
      obtain ⟨ob1, ob2, ob3⟩ := ob
      wp_walk

      refine ⟨by rw [jlens.2.1]; omega, fun q2 g2 => ?_⟩
      have N2 := Kp.new (S := []) (o := .lst [V.str (b ++ Str.ofString "\n")]) g2
      rw [upd_ne (ne_of_none f1 g2), f1]
      replace R7 := R7.kp N2
      replace K5 := K5.trans (N2.mono (T := [r]) (by simp))
      generalize upd G7 q2 (.lst [V.str (b ++ Str.ofString "\n")]) = G8 at *
      clear N2 g2 f1
      wp_walk

      refine ⟨by rw [List.length_take, List.length_map]; omega, fun q3 g3 => ?_⟩
      have N3 := Kp.new (S := []) (o := .lst ((hs.map fun h => V.str h.line).take n ++ [V.str (b ++ Str.ofString "\n")])) g3
      have f3 : upd G8 q3 (.lst ((hs.map fun h => V.str h.line).take n ++ [V.str (b ++ Str.ofString "\n")])) q3 = some (.lst ((hs.map fun h => V.str h.line).take n ++ [V.str (b ++ Str.ofString "\n")])) := upd_same
      replace R7 := R7.kp N3
      replace K5 := K5.trans (N3.mono (T := [r]) (by simp))
      generalize upd G8 q3 (.lst ((hs.map fun h => V.str h.line).take n ++ [V.str (b ++ Str.ofString "\n")])) = G9 at *
      clear N3 g3
      rw [(toK _ K5).at elG]
      wp_walk

      refine fun q4 g4 => ?_
      rw [cut_frB]
      have N4 := Kp.new (S := []) (o := .lst ((hs.map fun h => V.str h.line).drop n)) g4
      rw [upd_ne (ne_of_none f3 g4), f3]
      replace R7 := R7.kp N4
      replace K5 := K5.trans (N4.mono (T := [r]) (by simp))
      generalize upd G9 q4 (.lst ((hs.map fun h => V.str h.line).drop n)) = G10 at *
      clear N4 g4 f3
      wp_walk

      refine ⟨by simp only [List.length_append, List.length_take, List.length_drop, List.length_map, List.length_cons, List.length_nil]; omega, fun q5 g5 => ?_⟩
      have eY : (hs.map fun h => V.str h.line).take n ++ [V.str (b ++ Str.ofString "\n")] ++ (hs.map fun h => V.str h.line).drop n = ((hs.take n).map Hap.row ++ b :: (hs.drop n).map Hap.row).map fun x => V.str (x ++ Str.ofString "\n") := by
        simp only [List.map_append, List.map_cons, List.map_map, List.append_assoc, List.singleton_append, ← List.map_take, ← List.map_drop]
        rfl
      rw [eY]
      have N5 := Kp.new (S := []) (o := .lst (((hs.take n).map Hap.row ++ b :: (hs.drop n).map Hap.row).map fun x => V.str (x ++ Str.ofString "\n"))) g5
      have f5 : upd G10 q5 (.lst (((hs.take n).map Hap.row ++ b :: (hs.drop n).map Hap.row).map fun x => V.str (x ++ Str.ofString "\n"))) q5 = some (.lst (((hs.take n).map Hap.row ++ b :: (hs.drop n).map Hap.row).map fun x => V.str (x ++ Str.ofString "\n"))) := upd_same
      have m5 : q5 ≠ r := R7.none g5
      have fG : G q5 = none := free_of (toK _ K5) g5
      replace R7 := R7.kp N5
      replace K5 := K5.trans (N5.mono (T := [r]) (by simp))
      generalize upd G10 q5 (.lst (((hs.take n).map Hap.row ++ b :: (hs.drop n).map Hap.row).map fun x => V.str (x ++ Str.ofString "\n"))) = G11 at *
      clear N5 g5 eY
      refine hR5 _ _ ?_
      clear hR5
      refine cut_seq fun R_6 hR6 => ?_

      suffices fin : ∀ (ex : List Str) (G' : Hp), (∀ x ∈ ex, 10 ∉ x.cps.toList ∧ x.length ≤ 1000) → ex.length ≤ 1 → G' q5 = some (.lst (((hs.take n).map Hap.row ++ b :: ((hs.drop n).map Hap.row ++ ex)).map fun x => V.str (x ++ Str.ofString "\n"))) → Kp [] G G' → R_6 [some (.ref a), some (.int z), some (.ref ln), some (.ref r), some (.int n), some (.ref q5)] G' by
        wp_walk

        refine ⟨R7, fun g2 G12 a12 b12 R12 K12 => ?_⟩
        replace f5 := K12.at1 f5 m5
        replace K5 := K5.trans K12
        split
        · wp_walk using f5

          refine ⟨r, rfl, R12, fun b2 G13 ob2 R13 K13 => ?_⟩
          replace f5 := K13.at1 f5 m5
          replace K5 := K5.trans K13
          obtain ⟨_, oc2, oc3⟩ := ob2
          wp_walk using f5

          refine ⟨by rw [jlens.2.1]; omega, ?_⟩
          refine ⟨by simp only [List.length_append, List.length_take, List.length_drop, List.length_map, List.length_cons]; omega, ?_⟩
          refine fin [b2] _ (fun x hx => by rw [show x = b2 by simpa using hx]; exact ⟨oc2, by omega⟩) (by simp) ?_ (fun c o ec _ => by rw [upd_ne (ne_of_none ec fG)]; exact (toK _ K5).at ec)
          rw [upd_same]
          simp

        · exact fin [] _ (by simp) (by decide) (by rw [List.append_nil]; exact f5) (toK _ K5)

      clear R7 f5 K5 toK elG nl m5 fG
      intro ex G12 hx lx f5 KG
      refine hR6 _ _ ?_
      clear hR6

      obtain ⟨Y, hY⟩ : ∃ Y, Y = (hs.take n).map Hap.row ++ b :: ((hs.drop n).map Hap.row ++ ex) := ⟨_, rfl⟩
      have lY : Y.length ≤ 70 := by
        rw [hY]
        simp only [List.length_append, List.length_take, List.length_drop, List.length_map, List.length_cons]
        omega
      have okY : ∀ x ∈ b :: ((hs.drop n).map Hap.row ++ ex), 10 ∉ x.cps.toList ∧ x.length ≤ 1000 := fun x hm => by
        rcases List.mem_cons.mp hm with rfl | hm
        · exact ⟨ob2, by omega⟩
        · rcases List.mem_append.mp hm with hm | hm
          · obtain ⟨h, hh, rfl⟩ := List.mem_map.mp hm
            have ok' := ok h (List.mem_of_mem_drop hh)
            have := Hap.row_len ok'
            rw [Hap.row_txt] at this ⊢
            exact ⟨Row.nl (Hap.rw_ok ok'), by omega⟩
          · exact hx x hm
      have lenY : ∀ x ∈ Y, x.length ≤ 1000 := fun x hm => by
        rw [hY] at hm
        rcases List.mem_append.mp hm with hm | hm
        · obtain ⟨h, hh, rfl⟩ := List.mem_map.mp hm
          have := Hap.row_len (ok h (List.mem_of_mem_take hh))
          omega
        · exact (okY x hm).2
      have ln0 : (hs.take n).length = n := by rw [List.length_take]; omega
      have okT : ∀ h ∈ hs.take n, h.ok := fun h hh => ok h (List.mem_of_mem_take hh)
      have ltl : ((hs.drop n).map Hap.row ++ ex).length ≤ 70 := by
        simp only [List.length_append, List.length_drop, List.length_map]
        omega
      rw [← hY] at f5
      have f6 : ∀ G', Kp [] G12 G' → G' q5 = some (.lst ((Y.map fun x => x ++ Str.ofString "\n").map V.str)) := fun G' k => by
        rw [List.map_map]
        exact k.at f5
      have sY := sumJ (B := 1001) (ys := Y.map fun x => x ++ Str.ofString "\n") fun y hy => by
        obtain ⟨x, hm, rfl⟩ := List.mem_map.mp hy
        have := lenY x hm
        rw [str_len, jlens.2.1]
        omega
      rw [List.length_map] at sY
      have jY : Txt.join (Str.ofString "") (Y.map fun x => x ++ Str.ofString "\n") = linesT Y := rfl
      have e0 := f6 G12 Kp.refl
      wp_walk using e0, strsV_map

      rw [jY]
      refine ⟨by rw [List.length_map, jlens.2.2]; omega, ?_⟩
      refine ⟨hs.take n, b, (hs.drop n).map Hap.row ++ ex, "", by rw [← hY, app_emp], okT, okY, by decide +kernel, by decide +kernel, by omega, ob1, fun G13 K13 => ?_⟩
      rw [ln0]
      have e1 := f6 G13 K13
      wp_walk using e1, strsV_map

      rw [jY]
      have lT := lines_len (B := 1000) lenY
      refine ⟨by rw [List.length_map, jlens.2.2]; omega, by rw [show (Str.ofString "begin 5 7").length = 9 by decide +kernel]; omega, ?_⟩
      refine ⟨hs.take n, b, (hs.drop n).map Hap.row ++ ex, "begin 5 7", by rw [← hY], okT, okY, by decide +kernel, by decide +kernel, by omega, ob1, fun G14 K14 => ?_⟩
      rw [ln0]
      wp_walk

      exact back _ _ _ _ _ ((KG.trans K13).trans K14)

    intro σ G hG
    rw [hPv] at hG
    obtain ⟨v1, v3, v4, v5, rfl, k⟩ := hG
    have eL : (hs.map fun h => V.str h.line) = (hs.map Hap.line).map V.str := by rw [List.map_map]; rfl
    have elG := k.at el
    rw [eL] at elG
    have sL := sumJ (B := 101) (ys := hs.map Hap.line) fun y hy => by
      obtain ⟨h, hh, rfl⟩ := List.mem_map.mp hy
      have := Hap.row_len (ok h hh)
      simp only [Hap.line, str_len, jlens.2.1]
      omega
    rw [List.length_map] at sL
    refine hR2 _ _ ?_
    clear hR2
    wp_walk using elG, strsV_map

    rw [lines_join]
    refine ⟨by rw [List.length_map, jlens.2.2]; omega, ?_⟩
    wp_walk

    refine ⟨hs, [], "", by rw [List.append_nil, app_emp], ok, by simp, by decide +kernel, by decide +kernel, by simp; omega, fun _ p us G2 hp eu hU K2 => ?_, (fun _ _ z => nomatch z)⟩
    have lU := hU.len
    wp_walk using eu, K2.at elG

    rw [if_pos (by rw [List.length_map, List.length_map]; omega)]
    have eN := K2.at elG
    refine fun x hx => ⟨x, _, rfl, upd_same, fun D hD nD => ⟨rfl, x, D, _, rfl, .inl (by rw [upd_ne nD.symm, upd_same]), upd_same, ?_⟩⟩
    rw [upd_ne nD] at hD
    have eM : upd (upd (upd G2 x (ExcN x t.XNoLog)) x (ExcD x t.XNoLog D)) D (.xd [(Str.ofString "line", V.int ((List.map V.str (List.map Hap.line hs)).length : Nat))]) ln = some (.lst (List.map V.str (List.map Hap.line hs))) := by rw [upd_ne (ne_of_none eN hD), upd_ne (ne_of_none eN hx), upd_ne (ne_of_none eN hx), eN]
    wp_walk using eM

    exact q _
end
theorem b0 {P : List Value → Prop} (h : P []) : ∀ us : List Value, us.length = 0 → P us := fun us e => by rw [List.length_eq_zero_iff.mp e]; exact h
theorem bS {P : List Value → Prop} {n : Nat} (h : ∀ a, ∀ us : List Value, us.length = n → P (a :: us)) : ∀ us : List Value, us.length = n + 1 → P us
  | [], e => by cases e
  | a :: us, e => h a us (Nat.succ.inj e)
theorem walkX_of {q : Program} {loose : List Str} {XP : (Str → Option Value) → Heap → Prop} {K : Params → PySem.W.Frag} {as : List Addr} {n t : Nat} {r : PySem.W.RowW} {d : DefRec} {kwd : List (Str × Expr)} {run : Value → List Value → Sem Value} (e : ∀ P : Params, as = List.map (fun x => x.fst) (K P)) (H : PySem.W.WalkO q loose XP (PySem.W.kHook K as e).says r d kwd run) : PySem.W.WalkX q loose XP (PySem.W.X.obsZ as) (PySem.W.X.valZ K n t) r d kwd run := fun w s₀ s₁ mg mb G y a o pm cd doc dV kV h1 h2 h3 h4 h5 h6 args vals bs L => by
  obtain ⟨_, f, _, _⟩ := PySem.W.X.z_facts e y
  exact H w s₀ s₁ mg mb G (show PySem.W.InK K w s₁.heap from fun p ob hp => L.keeps _ _ (f p ob hp)) a o pm cd doc dV kV h1 h2 h3 h4 h5 h6 args vals bs
section
open PySem.W
theorem all_mk {l : OpenLaw} {w : World} {K : Frag} {h : Heap} {mg : Str → Option Value} {fa : Addr} (X : K.In h) (G : h.Ns mainGlobals mg) (hfa : mg "law" = some (.ref fa))
    {f0 f1 f2 f3 f4 f5 f6 f7 f8 f9 f10 f11 f12 f13 f14 f15 f16 f17 f18 f19 f20 f21 f22 : Addr} {d0 d1 d2 d3 d4 d5 d6 d7 d8 d9 d10 d11 d12 d13 d14 d15 d16 d17 d18 d19 d20 d21 d22 : FuncData}
    {XOutlastError XNoProgram XNoLog XNoState XNoRule XNoPolicy XNoLine XNoRun XNoCommand : Addr}
    {tk0 : Tok}
    {tk1 : Tok}
    {tk2 : Tok}
    {tp3 : Addr} {td3 : Option Addr} {tn3 : Nat} {ts3 : Array (Option Value)} {tw3_0 tw3_1 tw3_2 tw3_3 tw3_4 tw3_5 tw3_6 tw3_7 tw3_8 tw3_9 tw3_10 tw3_11 tw3_12 tw3_13 tw3_14 tw3_15 tw3_16 : Tok}
    {tk4 : Tok}
    {tp5 : Addr} {tn5 : Nat} {tq5_0 tq5_1 tq5_2 : Addr} {th5_0 th5_1 th5_2 : Int} {tt5_0 tt5_1 tt5_2 : Tok}
    {td5_0 : Option Addr} {tm5_0 : Nat} {ts5_0 : Array (Option Value)} {tw5_0_0 tw5_0_1 : Tok}
    {td5_1 : Option Addr} {tm5_1 : Nat} {ts5_1 : Array (Option Value)} {tw5_1_0 tw5_1_1 tw5_1_2 : Tok}
    {td5_2 : Option Addr} {tm5_2 : Nat} {ts5_2 : Array (Option Value)} {tw5_2_0 tw5_2_1 tw5_2_2 : Tok}
    (aXOutlastError : nsIn K mainGlobals "OutlastError" = some (some (.ref XOutlastError)))
    (aXNoProgram : nsIn K mainGlobals "NoProgram" = some (some (.ref XNoProgram)))
    (aXNoLog : nsIn K mainGlobals "NoLog" = some (some (.ref XNoLog)))
    (aXNoState : nsIn K mainGlobals "NoState" = some (some (.ref XNoState)))
    (aXNoRule : nsIn K mainGlobals "NoRule" = some (some (.ref XNoRule)))
    (aXNoPolicy : nsIn K mainGlobals "NoPolicy" = some (some (.ref XNoPolicy)))
    (aXNoLine : nsIn K mainGlobals "NoLine" = some (some (.ref XNoLine)))
    (aXNoRun : nsIn K mainGlobals "NoRun" = some (some (.ref XNoRun)))
    (aXNoCommand : nsIn K mainGlobals "NoCommand" = some (some (.ref XNoCommand)))
    (a0 : findIn K (.ref XNoLog) "__init__" = some (some (.ref f0))) (i0 : isFn K (.ref f0) = true)
    (F0 : Fun K "__init__" "NoLog.__init__" s_NoLoginit f0 d0)
    (a1 : nsIn K mainGlobals "is_number_word" = some (some (.ref f1)))
    (F1 : Fun K "is_number_word" "is_number_word" s_isnumberword f1 d1)
    (a2 : nsIn K mainGlobals "is_figure" = some (some (.ref f2)))
    (F2 : Fun K "is_figure" "is_figure" s_isfigure f2 d2)
    (a3 : nsIn K mainGlobals "is_small_letter" = some (some (.ref f3)))
    (F3 : Fun K "is_small_letter" "is_small_letter" s_issmallletter f3 d3)
    (a4 : nsIn K mainGlobals "is_name" = some (some (.ref f4)))
    (F4 : Fun K "is_name" "is_name" s_isname f4 d4)
    (a5 : nsIn K mainGlobals "read_rows" = some (some (.ref f5)))
    (F5 : Fun K "read_rows" "read_rows" s_readrows f5 d5)
    (a6 : nsIn K mainGlobals "is_row" = some (some (.ref f6)))
    (F6 : Fun K "is_row" "is_row" s_isrow f6 d6)
    (a7 : nsIn K mainGlobals "is_word_of" = some (some (.ref f7)))
    (F7 : Fun K "is_word_of" "is_word_of" s_iswordof f7 d7)
    (a8 : nsIn K mainGlobals "row_of" = some (some (.ref f8)))
    (F8 : Fun K "row_of" "row_of" s_rowof f8 d8)
    (a9 : nsIn K mainGlobals "thing_of" = some (some (.ref f9)))
    (F9 : Fun K "thing_of" "thing_of" s_thingof f9 d9)
    (a10 : nsIn K mainGlobals "read_log" = some (some (.ref f10)))
    (F10 : Fun K "read_log" "read_log" s_readlog f10 d10)
    (a11 : nsIn K mainGlobals "_law_jar" = some (some (.ref f11)))
    (F11 : Fun K "_law_jar" "_law_jar" s_lawjar f11 d11)
    (a12 : nsIn K mainGlobals "_law_take" = some (some (.ref f12)))
    (F12 : Fun K "_law_take" "_law_take" s_lawtake f12 d12)
    (a13 : nsIn K mainGlobals "_law_worth" = some (some (.ref f13)))
    (F13 : Fun K "_law_worth" "_law_worth" s_lawworth f13 d13)
    (a14 : nsIn K mainGlobals "_law_moment" = some (some (.ref f14)))
    (F14 : Fun K "_law_moment" "_law_moment" s_lawmoment f14 d14)
    (a15 : nsIn K mainGlobals "_law_any" = some (some (.ref f15)))
    (F15 : Fun K "_law_any" "_law_any" s_lawany f15 d15)
    (a16 : nsIn K mainGlobals "_law_number_word" = some (some (.ref f16)))
    (F16 : Fun K "_law_number_word" "_law_number_word" s_lawnumberword f16 d16)
    (a17 : nsIn K mainGlobals "_law_line" = some (some (.ref f17)))
    (F17 : Fun K "_law_line" "_law_line" s_lawline f17 d17)
    (a18 : nsIn K mainGlobals "_law_none" = some (some (.ref f18)))
    (F18 : Fun K "_law_none" "_law_none" s_lawnone f18 d18)
    (a19 : nsIn K mainGlobals "_law_bent" = some (some (.ref f19)))
    (F19 : Fun K "_law_bent" "_law_bent" s_lawbent f19 d19)
    (a20 : nsIn K mainGlobals "_law_odd" = some (some (.ref f20)))
    (F20 : Fun K "_law_odd" "_law_odd" s_lawodd f20 d20)
    (a21 : nsIn K mainGlobals "_law_field" = some (some (.ref f21)))
    (F21 : Fun K "_law_field" "_law_field" s_lawfield f21 d21)
    (a22 : nsIn K mainGlobals "law" = some (some (.ref f22)))
    (F22 : Fun K "law" "law" s_law f22 d22)
    (yXOutlastError : clsK K XOutlastError = true)
    (xXOutlastError : XQ K XOutlastError (vErr))
    (yXNoProgram : clsK K XNoProgram = true)
    (xXNoProgram : XQ K XNoProgram (.ref XOutlastError :: vErr))
    (yXNoLog : clsK K XNoLog = true)
    (xXNoLog : XQ K XNoLog (.ref XOutlastError :: vErr)) (hXNoLog : (clsIn K XNoLog).map (·.hasDict) = some true) (sXNoLog : quietIn K "__setattr__" (.ref XNoLog :: .ref XOutlastError :: vErr) = true) (lXNoLog : quietIn K "line" (.ref XNoLog :: .ref XOutlastError :: vErr) = true) (kXNoLog : keepIn K (.ref XNoLog) = true)
    (yXNoState : clsK K XNoState = true)
    (xXNoState : XQ K XNoState (.ref XOutlastError :: vErr))
    (yXNoRule : clsK K XNoRule = true)
    (xXNoRule : XQ K XNoRule (.ref XOutlastError :: vErr))
    (yXNoPolicy : clsK K XNoPolicy = true)
    (xXNoPolicy : XQ K XNoPolicy (.ref XOutlastError :: vErr))
    (yXNoLine : clsK K XNoLine = true)
    (xXNoLine : XQ K XNoLine (.ref XOutlastError :: vErr))
    (yXNoRun : clsK K XNoRun = true)
    (xXNoRun : XQ K XNoRun (.ref XOutlastError :: vErr))
    (yXNoCommand : clsK K XNoCommand = true)
    (xXNoCommand : XQ K XNoCommand (.ref XOutlastError :: vErr))
    (xne : (XNoLog ≠ XNoProgram ∧ XOutlastError ≠ XNoProgram) ∧ (XNoLog ≠ XNoState ∧ XOutlastError ≠ XNoState) ∧ (XNoLog ≠ XNoRule ∧ XOutlastError ≠ XNoRule) ∧ (XNoLog ≠ XNoPolicy ∧ XOutlastError ≠ XNoPolicy) ∧ (XNoLog ≠ XNoLine ∧ XOutlastError ≠ XNoLine) ∧ (XNoLog ≠ XNoRun ∧ XOutlastError ≠ XNoRun) ∧ (XNoLog ≠ XNoCommand ∧ XOutlastError ≠ XNoCommand))
    (v0 : nsIn K mainGlobals "GREATEST_WORTH" = some (some (.int 1000000000 tk0)))
    (v1 : nsIn K mainGlobals "GREATEST_MOMENT" = some (some (.int 1000000000000 tk1)))
    (v2 : nsIn K mainGlobals "LONGEST_NAME" = some (some (.int 6 tk2)))
    (v3 : nsIn K mainGlobals "OWN_WORDS" = some (some (.ref tp3))) (u3 : K.lookup tp3 = some ⟨.type "tuple", td3, .seq #[.str "order" tw3_0, .str "timer" tw3_1, .str "child" tw3_2, .str "send" tw3_3, .str "drop" tw3_4, .str "wait" tw3_5, .str "hear" tw3_6, .str "if" tw3_7, .str "else" tw3_8, .str "done" tw3_9, .str "while" tw3_10, .str "end" tw3_11, .str "none" tw3_12, .str "arg" tw3_13, .str "now" tw3_14, .str "answer" tw3_15, .str "not" tw3_16] tn3, ts3⟩)
    (v4 : nsIn K mainGlobals "GREATEST_TICKET" = some (some (.int 1000000000 tk4)))
    (v5 : nsIn K mainGlobals "HAPPENINGS" = some (some (.ref tp5))) (u5 : K.lookup tp5 = some { cls := .type "dict", data := .dict #[⟨th5_0, .str "begin" tt5_0, .ref tq5_0⟩, ⟨th5_1, .str "done" tt5_1, .ref tq5_1⟩, ⟨th5_2, .str "letter" tt5_2, .ref tq5_2⟩] tn5 })
    (y5_0 : K.lookup tq5_0 = some ⟨.type "tuple", td5_0, .seq #[.str "moment" tw5_0_0, .str "worth" tw5_0_1] tm5_0, ts5_0⟩)
    (y5_1 : K.lookup tq5_1 = some ⟨.type "tuple", td5_1, .seq #[.str "moment" tw5_1_0, .str "ticket" tw5_1_1, .str "worth" tw5_1_2] tm5_1, ts5_1⟩)
    (y5_2 : K.lookup tq5_2 = some ⟨.type "tuple", td5_2, .seq #[.str "moment" tw5_2_0, .str "name" tw5_2_1, .str "worth" tw5_2_2] tm5_2, ts5_2⟩)
    (zValueError : nsIn K mainGlobals "ValueError" = some none)
    (zall : nsIn K mainGlobals "all" = some none)
    (zbool : nsIn K mainGlobals "bool" = some none)
    (zdict : nsIn K mainGlobals "dict" = some none)
    (zenumerate : nsIn K mainGlobals "enumerate" = some none)
    (zint : nsIn K mainGlobals "int" = some none)
    (zisinstance : nsIn K mainGlobals "isinstance" = some none)
    (zlen : nsIn K mainGlobals "len" = some none)
    (zmax : nsIn K mainGlobals "max" = some none)
    (zrange : nsIn K mainGlobals "range" = some none)
    (zstr : nsIn K mainGlobals "str" = some none)
    (ztuple : nsIn K mainGlobals "tuple" = some none)
    (zzip : nsIn K mainGlobals "zip" = some none)
    (kl5 : KeysLit w.params [⟨th5_0, .str "begin" tt5_0, .ref tq5_0⟩, ⟨th5_1, .str "done" tt5_1, .ref tq5_1⟩, ⟨th5_2, .str "letter" tt5_2, .ref tq5_2⟩]) (ns5 : (tp5 == sysModules) = false)
    : ∃ fd : FuncData, (∀ (s : Shared) (v : Value), BindsTo s fd ⟨[v], []⟩ [("script", v)]) ∧ ∀ base : Heap, K.In base → base.Ns mainGlobals mg → FnOk l.prog w K mg base CX0 90 fa fd ["script"] (spLaw K) := by
  have e := hfa.symm.trans (mg_of X G a22)
  cases e
  have T : Tx w K mg ⟨f0, _, f1, _, f2, _, f3, _, f4, _, f5, _, f6, _, f7, _, f8, _, f9, _, f10, _, f11, _, f12, _, f13, _, f14, _, f15, _, f16, _, f17, _, f18, _, f19, _, f20, _, f21, _, fa, _, tk0, tk1, tk2, tp3, tk4, tp5, tq5_0, tq5_1, tq5_2, XOutlastError, XNoProgram, XNoLog, XNoState, XNoRule, XNoPolicy, XNoLine, XNoRun, XNoCommand⟩ := ⟨F0, (F0.binds fun _ _ _ _ _ _ => bS fun _ => bS fun _ => b0 rfl), F1, (F1.binds fun _ _ _ _ _ _ => bS fun _ => bS fun _ => bS fun _ => b0 rfl), (mg_of X G a1), F2, (F2.binds fun _ _ _ _ _ _ => bS fun _ => b0 rfl), (mg_of X G a2), F3, (F3.binds fun _ _ _ _ _ _ => bS fun _ => b0 rfl), (mg_of X G a3), F4, (F4.binds fun _ _ _ _ _ _ => bS fun _ => b0 rfl), (mg_of X G a4), F5, (F5.binds fun _ _ _ _ _ _ => bS fun _ => bS fun _ => b0 rfl), (mg_of X G a5), F6, (F6.binds fun _ _ _ _ _ _ => bS fun _ => bS fun _ => b0 rfl), (mg_of X G a6), F7, (F7.binds fun _ _ _ _ _ _ => bS fun _ => bS fun _ => b0 rfl), (mg_of X G a7), F8, (F8.binds fun _ _ _ _ _ _ => bS fun _ => bS fun _ => b0 rfl), (mg_of X G a8), F9, (F9.binds fun _ _ _ _ _ _ => bS fun _ => bS fun _ => b0 rfl), (mg_of X G a9), F10, (F10.binds fun _ _ _ _ _ _ => bS fun _ => b0 rfl), (mg_of X G a10), F11, (F11.binds fun _ _ _ _ _ _ => bS fun _ => b0 rfl), (mg_of X G a11), F12, (F12.binds fun _ _ _ _ _ _ => bS fun _ => bS fun _ => b0 rfl), (mg_of X G a12), F13, (F13.binds fun _ _ _ _ _ _ => bS fun _ => b0 rfl), (mg_of X G a13), F14, (F14.binds fun _ _ _ _ _ _ => bS fun _ => b0 rfl), (mg_of X G a14), F15, (F15.binds fun _ _ _ _ _ _ => bS fun _ => b0 rfl), (mg_of X G a15), F16, (F16.binds fun _ _ _ _ _ _ => bS fun _ => b0 rfl), (mg_of X G a16), F17, (F17.binds fun _ _ _ _ _ _ => bS fun _ => b0 rfl), (mg_of X G a17), F18, (F18.binds fun _ _ _ _ _ _ => bS fun _ => b0 rfl), (mg_of X G a18), F19, (F19.binds fun _ _ _ _ _ _ => bS fun _ => b0 rfl), (mg_of X G a19), F20, (F20.binds fun _ _ _ _ _ _ => bS fun _ => b0 rfl), (mg_of X G a20), F21, (F21.binds fun _ _ _ _ _ _ => bS fun _ => b0 rfl), (mg_of X G a21), F22, (F22.binds fun _ _ _ _ _ _ => bS fun _ => b0 rfl), (mg_of X G a22), (mg_of X G v0), (mg_of X G v1), (mg_of X G v2), (mg_of X G v3), (fun H => .inr ⟨_, _, _, u3, rfl, rfl, (by show 17 ≤ sizeLine; decide), (.cons ⟨_, rfl⟩ (.cons ⟨_, rfl⟩ (.cons ⟨_, rfl⟩ (.cons ⟨_, rfl⟩ (.cons ⟨_, rfl⟩ (.cons ⟨_, rfl⟩ (.cons ⟨_, rfl⟩ (.cons ⟨_, rfl⟩ (.cons ⟨_, rfl⟩ (.cons ⟨_, rfl⟩ (.cons ⟨_, rfl⟩ (.cons ⟨_, rfl⟩ (.cons ⟨_, rfl⟩ (.cons ⟨_, rfl⟩ (.cons ⟨_, rfl⟩ (.cons ⟨_, rfl⟩ (.cons ⟨_, rfl⟩ .nil)))))))))))))))))⟩), (mg_of X G v4), (mg_of X G v5), ⟨⟨_, _, u5, kl5, (.cons rfl (.cons rfl (.cons rfl .nil)))⟩, (show ([.inr "begin", .inr "done", .inr "letter"] : List Key).Nodup by decide +kernel), ns5, (by show 3 ≤ sizeLine; decide)⟩, (fun H => .inr ⟨_, _, _, y5_0, rfl, rfl, (by show 2 ≤ sizeLine; decide), (.cons ⟨_, rfl⟩ (.cons ⟨_, rfl⟩ .nil))⟩), (fun H => .inr ⟨_, _, _, y5_1, rfl, rfl, (by show 3 ≤ sizeLine; decide), (.cons ⟨_, rfl⟩ (.cons ⟨_, rfl⟩ (.cons ⟨_, rfl⟩ .nil)))⟩), (fun H => .inr ⟨_, _, _, y5_2, rfl, rfl, (by show 3 ≤ sizeLine; decide), (.cons ⟨_, rfl⟩ (.cons ⟨_, rfl⟩ (.cons ⟨_, rfl⟩ .nil)))⟩), (mg_of X G aXOutlastError), yXOutlastError, xXOutlastError, (mg_of X G aXNoProgram), yXNoProgram, xXNoProgram, (mg_of X G aXNoLog), yXNoLog, (xi_mk xXNoLog a0 i0 hXNoLog sXNoLog lXNoLog kXNoLog), (mg_of X G aXNoState), yXNoState, xXNoState, (mg_of X G aXNoRule), yXNoRule, xXNoRule, (mg_of X G aXNoPolicy), yXNoPolicy, xXNoPolicy, (mg_of X G aXNoLine), yXNoLine, xXNoLine, (mg_of X G aXNoRun), yXNoRun, xXNoRun, (mg_of X G aXNoCommand), yXNoCommand, xXNoCommand, xne, (mg_none_of X G zValueError), (mg_none_of X G zall), (mg_none_of X G zbool), (mg_none_of X G zdict), (mg_none_of X G zenumerate), (mg_none_of X G zint), (mg_none_of X G zisinstance), (mg_none_of X G zlen), (mg_none_of X G zmax), (mg_none_of X G zrange), (mg_none_of X G zstr), (mg_none_of X G ztuple), (mg_none_of X G zzip)⟩
  refine ⟨d22, ?_, fun base _ _ => ok_law T⟩
  obtain ⟨_, _, _, _, _, _, _, _, _, rfl, _⟩ := F22.ex
  exact fun s v => .of_eq rfl
end
theorem walk {l : PySem.W.OpenLaw} {q : Program} {loose : List Str} {XP : (Str → Option Value) → Heap → Prop} {YP : World → Heap → Prop} {d : DefRec} {K : Params → PySem.W.Frag} (hn : l.most = some 63) (hdf : d.params.defaults = [])
    (hY : ∀ (w : World) (h : Heap), YP w h → (K w.params).In h)
    (F : ∀ (w : World) (mg : Str → Option Value) (fa : Addr) (h : Heap), (K w.params).In h → h.Ns mainGlobals mg → mg d.name = some (.ref fa) →
      ∃ fd : FuncData, (∀ (s : Shared) (u : Value), BindsTo s fd ⟨[u], []⟩ [("script", u)]) ∧ ∀ base : Heap, (K w.params).In base → base.Ns mainGlobals mg → FnOk l.prog w (K w.params) mg base CX0 90 fa fd ["script"] (spLaw (K w.params))) :
    PySem.W.WalkO q loose XP YP l.row.toRowW d [] (fun f vs => PySem.call f vs) :=
  L2.walk_of (n := 63) (k := 90) (x := "script") (CX := fun _ => CX0) (sp := fun w => spLaw (K w.params)) hn (by decide) hdf ⟨rfl, by decide, by decide⟩ hY F (fun _ _ a ns hl _ hS => ⟨a, ns, rfl, hS, hl, fun _ => rfl⟩) fun _ _ _ _ _ z => z
end Own
open PySem PySem.W PyProof.Rows
set_option maxRecDepth 100000 in
set_option maxHeartbeats 0 in
theorem PySem.Challenge.cw_outlast_k25_lines_that_are_none_holds : PySem.Challenge.rw_outlast_k25_lines_that_are_none.Holds := by
  w_on; o_law; z_head; (case hw => w_witness2)
  k_fill
  refine Own.walkX_of (fun _ => rfl) ?_
  refine Own.walk (l := PySem.Challenge.rw_outlast_k25_lines_that_are_none) rfl rfl (fun w h Y => PySem.W.kIn_of Y) ?F
  case F =>
    intro w mg fa h KX G hmg
    apply Own.all_mk KX G hmg
    iterate 103 (first | (apply L2.fun_mk <;> k_is) | k_is | (refine L2.xq_mk (by first | k_exc | kernel_rfl) (by kernel_rfl) (by kernel_rfl) (by kernel_rfl) (by kernel_rfl)) | kernel_rfl | decide)
    exact ⟨⟨_, _, rfl, rfl⟩, ⟨_, _, rfl, rfl⟩, ⟨_, _, rfl, rfl⟩, trivial⟩
    decide +kernel
