import PyProof.Rows.All
import Wide.All
import OpenK.AllK
import Wide.FinOn
import Lean
import PyProof.EqAt
import PyProof.EqKinds
import PyProof.TupleCall
import PySem.Challenge.RW_outlast_k71_each_order_once
set_option Elab.async false
set_option linter.all false
set_option maxRecDepth 100000
/-! THE HAND LAYER, for ints, bools, texts, own classes, LISTS and tuples (index, slices, in, append, pop ..), calls, loops. Paste it whole ahead of your own text; what your proof does not reach may be deleted. -/
local macro_rules | `(tactic| omega) => `(tactic| first | assumption | lia | omega +splitDisjunctions)
namespace L2
open PySem PySem.Spec PyProof.Rows

/-- a key of ours: an int, a str, or None -/
inductive Key where
  | inl (i : Int) | inr (x : Str) | no
  deriving DecidableEq
noncomputable def keyIs : Key → Value → Bool
  | .inl k, v => Value.isInt k v
  | .inr x, v => Value.isStrOf x v
  | .no, .none => true
  | .no, _ => false
noncomputable def keyH (w : World) : Key → Int
  | .inl k => hashInt k
  | .inr x => hashStr w x
  | .no => reduceHash 0xFCA86420
theorem keyIs_shape : ∀ {k : Key} {v : Value}, keyIs k v = true → (∃ i t, k = Key.inl i ∧ v = Value.int i t) ∨ (∃ x t, k = Key.inr x ∧ v = Value.str x t) ∨ (k = Key.no ∧ v = Value.none)
  | .inl i, v, h => by
    obtain ⟨t, e⟩ := Value.isInt_shape (k := i) (v := v) h
    exact .inl ⟨i, t, rfl, e⟩
  | .inr x, v, h => by
    obtain ⟨t, e⟩ := Value.isStrOf_shape (x := x) (v := v) h
    exact .inr (.inl ⟨x, t, rfl, e⟩)
  | .no, v, h => by
    cases v <;> first | exact .inr (.inr ⟨rfl, rfl⟩) | cases h
theorem keyIs_int (i : Int) (t : Tok) : keyIs (.inl i) (.int i t) = true := by simp [keyIs, Value.isInt]
theorem keyIs_str (x : Str) (t : Tok) : keyIs (.inr x) (.str x t) = true := by simp [keyIs, Value.isStrOf]
theorem key_ll (a b : Int) : decide (Key.inl a = Key.inl b) = (a == b) := by
  by_cases e : a = b
  · subst e; simp
  · have h : ¬ Key.inl a = Key.inl b := fun q => e (Key.inl.inj q)
    rw [decide_eq_false h]
    exact (beq_eq_false_iff_ne.mpr e).symm
theorem key_rr (a b : Str) : decide (Key.inr a = Key.inr b) = decide (a = b) := by
  by_cases e : a = b
  · subst e; simp
  · have h : ¬ Key.inr a = Key.inr b := fun q => e (Key.inr.inj q)
    rw [decide_eq_false h, decide_eq_false e]
noncomputable def mixKind (prog : Program) (w : World) : PySem.KeyKind prog w Key where
  is := keyIs
  hash := keyH w
  inj := fun v a b ha hb => by
    rcases keyIs_shape ha with ⟨i, t, rfl, rfl⟩ | ⟨x, t, rfl, rfl⟩ | ⟨rfl, rfl⟩ <;> rcases keyIs_shape hb with ⟨j, u, rfl, e⟩ | ⟨y, u, rfl, e⟩ | ⟨rfl, e⟩ <;>
      first | rfl | (cases e <;> rfl)
  byValue := fun k v h => by
    rcases keyIs_shape h with ⟨i, t, rfl, rfl⟩ | ⟨x, t, rfl, rfl⟩ | ⟨rfl, rfl⟩ <;> rfl
  pyHash := fun hv h => by
    rcases keyIs_shape hv with ⟨i, t, rfl, rfl⟩ | ⟨x, t, rfl, rfl⟩ | ⟨rfl, rfl⟩
    · exact wpAny_pyHash_int h
    · exact wpAny_pyHash_str h
    · exact PySem.W.pyHash_slot (T := "NoneType") rfl F.slot_NoneType_hash F.entry_NoneType_hash (F.args_NoneType_hash_1 _) (beq_builtin_none _) (.inl rfl) (wpAny_bind (wpAny_pure (wpAny_bind (wpAny_mkInt (wpAny_pure ⟨_, _, rfl, h⟩)))))
  eqBool := fun hu hv h => by
    rcases keyIs_shape hu with ⟨i, t, rfl, rfl⟩ | ⟨x, t, rfl, rfl⟩ | ⟨rfl, rfl⟩ <;> rcases keyIs_shape hv with ⟨j, u, rfl, rfl⟩ | ⟨y, u, rfl, rfl⟩ | ⟨rfl, rfl⟩
    · rw [key_ll] at h; exact wpAny_eqBool_int h
    · exact SeqAt.EqAt.int_str i t y u _ _ _ _ h
    · exact SeqAt.EqAt.int_none i t _ _ _ _ h
    · exact SeqAt.EqAt.str_int x t j u _ _ _ _ h
    · rw [key_rr] at h; exact wpAny_eqBool_str h
    · exact SeqAt.EqAt.str_none x t _ _ _ _ h
    · exact SeqAt.EqAt.none_int j u _ _ _ _ h
    · exact SeqAt.EqAt.none_str y u _ _ _ _ h
    · exact SeqAt.EqAt.same .none _ _ _ _ h
  «strs» := fun k x t v h => by
    rcases keyIs_shape h with ⟨i, u, rfl, e⟩ | ⟨y, u, rfl, e⟩ | ⟨rfl, e⟩
    · exact nomatch e
    · injection e with e1 _
      subst e1
      cases v <;> rfl
    · exact nomatch e
theorem mixKind_int (prog : Program) (w : World) (i : Int) (t : Tok) : (mixKind prog w).is (.inl i) (.int i t) = true := keyIs_int i t
theorem mixKind_str (prog : Program) (w : World) (x : Str) (t : Tok) : (mixKind prog w).is (.inr x) (.str x t) = true := keyIs_str x t
end L2

namespace L2
open PySem PySem.Spec PyProof.Rows

/-- a value, without the heap -/
inductive V where
  | non | bl (b : Bool) | int (i : Int) | str (x : Str) | byt (b : Array UInt8) | flt (b : UInt64) | ref (a : Addr) | ty (n : String)
  deriving DecidableEq

noncomputable def RelV : V → Value → Prop
  | .non, u => u = Value.none
  | .bl b, u => u = Value.bool b
  | .int i, u => ∃ t, u = Value.int i t
  | .str x, u => ∃ t, u = Value.str x t
  | .byt b, u => ∃ t, u = Value.bytes b t
  | .flt b, u => ∃ t, u = Value.float b t
  | .ref a, u => u = Value.ref a
  | .ty n, u => u = Value.type n

noncomputable abbrev Vals : List V → List Value → Prop := Paired RelV
theorem Vals.length {xs : List V} {us : List Value} (r : Vals xs us) : xs.length = us.length := Paired.length r
theorem Vals.get : ∀ {xs : List V} {us : List Value} {i : Nat} {x : V}, Vals xs us → xs[i]? = some x → ∃ u, us[i]? = some u ∧ RelV x u
  | _, _, _, _, .nil, e => by simp at e
  | _, _, 0, _, .cons r _, e => by simp at e; subst e; exact ⟨_, rfl, r⟩
  | _, _, i + 1, x, .cons _ t, e => by
    obtain ⟨u, h1, h2⟩ := Vals.get (i := i) (x := x) t (by simpa using e)
    exact ⟨u, by simpa using h1, h2⟩
theorem Vals.set {x : V} {u : Value} (r : RelV x u) : ∀ {xs : List V} {us : List Value} (i : Nat), Vals xs us → Vals (xs.set i x) (us.set i u)
  | _, _, _, .nil => .nil
  | _, _, 0, .cons _ t => .cons r t
  | _, _, i + 1, .cons q t => .cons q (Vals.set r i t)
theorem Vals.append {xs ys : List V} {us ws : List Value} (h : Vals xs us) (s : Vals ys ws) : Vals (xs ++ ys) (us ++ ws) := by
  induction h with
  | nil => exact s
  | cons r _ ih => exact .cons r ih
theorem Vals.take : ∀ {xs : List V} {us : List Value} (n : Nat), Vals xs us → Vals (xs.take n) (us.take n)
  | _, _, 0, _ => .nil
  | _, _, _ + 1, .nil => .nil
  | _, _, n + 1, .cons r t => .cons r (Vals.take n t)
theorem Vals.drop : ∀ {xs : List V} {us : List Value} (n : Nat), Vals xs us → Vals (xs.drop n) (us.drop n)
  | _, _, 0, r => r
  | _, _, _ + 1, .nil => .nil
  | _, _, n + 1, .cons _ t => Vals.drop n t
theorem Vals.none_of : ∀ {xs : List V} {us : List Value} {i : Nat}, Vals xs us → xs[i]? = none → us[i]? = none := fun {xs us i} r e => by
  have h1 := r.length
  have h2 : xs.length ≤ i := List.getElem?_eq_none_iff.mp e
  exact List.getElem?_eq_none_iff.mpr (by omega)

noncomputable def RelO : Option V → Option Value → Prop
  | some v, some u => RelV v u
  | none, none => True
  | _, _ => False
noncomputable def KV {κ : Type} : List (κ × V) → List (κ × Value) → Prop := Paired fun (p : κ × V) (q : κ × Value) => p.1 = q.1 ∧ RelV p.2 q.2

/-- a key of a dict (00_mix): an int or a text -/
noncomputable def kV : Key → V
  | .inl i => .int i
  | .inr x => .str x
  | .no => .non

/-- what stands at a tracked address -/
inductive HO where
  /-- a list -/
  | lst (xs : List V)
  /-- a tuple (never changes) -/
  | tup (xs : List V)
  /-- a dict whose keys are ints and texts; one whose keys are tuples of ints and texts (the empty one is both) -/
  | dK (kvs : List (Key × V)) | dT (kvs : List (List Key × V))
  /-- a set of ints: its members, its size -/
  | set (S : Int → Bool) (n : Nat)
  /-- an instance of the class at C, its dict at dx, its attributes -/
  | ins (C dx : Addr) (fs : List (Str × V))
  /-- the dict of the instance at x -/
  | own (x : Addr)
  /-- the dict of an exception -/
  | xd (fs : List (Str × V))
  /-- a bound method, f of x -/
  | met (f x : Addr)
  /-- a range object lo, lo + 1, .. below hi -/
  | rng (lo hi : Int)
  /-- a thing that is known to the object (the script; a dict while a loop walks it): read, never written while it is so -/
  | frz (o : Obj) (u : HO)
  /-- a code object's table -/
  | tbl (ps : Array Value)
  /-- any other thing, by what is true of its one object (a def of one's own: SetO a S n := HO.ext fun h => ..) -/
  | ext (φ : Heap → Prop)

noncomputable abbrev Hp := Addr → Option HO
noncomputable def upd (H : Hp) (a : Addr) (o : HO) : Hp := fun b => if b = a then some o else H b
theorem upd_same {H : Hp} {a : Addr} {o : HO} : upd H a o a = some o := by unfold upd; rw [if_pos rfl]
theorem upd_ne {H : Hp} {a b : Addr} {o : HO} (h : b ≠ a) : upd H a o b = H b := by unfold upd; rw [if_neg h]
/-- two objects of different content stand apart -/
theorem ne_of {H : Hp} {a b : Addr} {o u : HO} (h : H a = some o) (h' : H b = some u) (d : o ≠ u) : a ≠ b := by
  intro e; subst e; rw [h] at h'; exact d (Option.some.inj h')
theorem ne_of_none {H : Hp} {a b : Addr} {o : HO} (h : H a = some o) (h' : H b = none) : a ≠ b := by
  intro e; subst e; rw [h] at h'; cases h'

section
variable (P : Program) (w : World)
noncomputable def ObjOk (H : Hp) (h : Heap) (a : Addr) : HO → Prop
  | .lst xs => xs.length ≤ sizeLine ∧ ∃ (its : List Value) (n : Nat), Vals xs its ∧ h.get? a = some { cls := .type "list", data := .seq its.toArray n }
  | .tup xs => xs.length ≤ sizeLine ∧ ∃ its : List Value, Vals xs its ∧ IsTup h a its.toArray
  | .dK kvs => kvs.length ≤ sizeLine ∧ (a == sysModules) = false ∧ ∃ vs, KV kvs vs ∧ h.DictOf (mixKind P w) a vs
  | .dT kvs => kvs.length ≤ sizeLine ∧ (a == sysModules) = false ∧ ∃ xs : List (List Key × Addr × Value),
      Paired (fun (p : List Key × V) (q : List Key × Addr × Value) => p.1 = q.1 ∧ H q.2.1 = some (.tup (p.1.map kV)) ∧ RelV p.2 q.2.2) kvs xs ∧
      ∃ o es ep, h.get? a = some o ∧ o.ExactDict ∧ o.data = .dict es ep ∧ es.toList = xs.map (entryOfKey (tupleKind (mixKind P w))) ∧ (xs.map (·.1)).Nodup
  | .set S n => h.SetOf (intKind P w) a S n
  | .ins C dx fs => H dx = some (.own a) ∧ fs.length ≤ 1000 ∧ dx ≠ a ∧ h.get? a = some (PySem.W.instObj C dx) ∧
      ∃ mA, h.Ns1 dx mA ∧ (∀ f, RelO (fs.lookup f) (mA f)) ∧ PySem.Within mA (fs.map (·.1))
  | .own _ => ∃ o, h.get? a = some o
  | .xd fs => ∃ mA, h.Ns1 a mA ∧ ∀ f, RelO (fs.lookup f) (mA f)
  | .rng lo hi => ∃ t u v, h.get? a = some { cls := .type "range", data := .fields #[.int lo t, .int hi u, .int 1 v] }
  | .frz o u => h.get? a = some o ∧ ObjOk H h a u
  | .tbl ps => h.get? a = some { cls := .none, data := .fields ps }
  | .met f x => h.get? a = some (PySem.W.methodObj (.ref f) (.ref x))
  | .ext φ => φ h ∧ (∃ o, h.get? a = some o) ∧ ∀ h1 h2 : Heap, φ h1 → (∀ o, h1.get? a = some o → h2.get? a = some o) → φ h2
/-- the abstract heap is held -/
noncomputable def HOk (H : Hp) (h : Heap) : Prop := ∀ a o, H a = some o → ObjOk P w H h a o
end

section
variable {P : Program} {w : World} {H H' : Hp} {h h' : Heap} {a : Addr} {o : HO}
theorem ObjOk.lt (x : ObjOk P w H h a o) : a < h.objs.size := by
  cases o with
  | lst xs => obtain ⟨_, _, _, _, e⟩ := x; exact Heap.lt_size e
  | tup xs => obtain ⟨_, _, _, p⟩ := x; exact p.lt
  | dK kvs => obtain ⟨_, _, _, _, o, _, _, e, _⟩ := x; exact Heap.lt_size e
  | dT kvs => obtain ⟨_, _, _, _, o, _, _, e, _⟩ := x; exact Heap.lt_size e
  | set S n => obtain ⟨o, _, _, _, e, _⟩ := x; exact Heap.lt_size e
  | ins C dx fs => obtain ⟨_, _, _, e, _⟩ := x; exact Heap.lt_size e
  | own y => obtain ⟨_, e⟩ := x; exact Heap.lt_size e
  | xd fs => obtain ⟨_, ⟨_, _, _, e, _⟩, _⟩ := x; exact Heap.lt_size e
  | rng lo hi => obtain ⟨_, _, _, e⟩ := x; exact Heap.lt_size e
  | frz ob u => obtain ⟨e, _⟩ := x; exact Heap.lt_size e
  | tbl ps => exact Heap.lt_size (show h.get? a = some _ from x)
  | met f y => exact Heap.lt_size (show h.get? a = some _ from x)
  | ext φ => obtain ⟨_, ⟨_, e⟩, _⟩ := x; exact Heap.lt_size e
theorem Paired.mapP {α β : Type} {F G : α → β → Prop} : ∀ {l₁ : List α} {l₂ : List β}, Paired F l₁ l₂ → (∀ a b, F a b → G a b) → Paired G l₁ l₂
  | _, _, .nil, _ => .nil
  | _, _, .cons r t, f => .cons (f _ _ r) (Paired.mapP t f)
/-- what an object's description leans on: its own object, its own dict, the tuples -/
theorem ObjOk.stay (x : ObjOk P w H h a o) (k : ∀ b u, (b = a ∨ H b = some (.own a)) → h.get? b = some u → h'.get? b = some u)
    (ho : ∀ b, H b = some (.own a) → H' b = some (.own a)) (ht : ∀ b xs, H b = some (.tup xs) → H' b = some (.tup xs)) : ObjOk P w H' h' a o := by
  induction o with
  | lst xs => obtain ⟨z, its, n, r, e⟩ := x; exact ⟨z, its, n, r, k _ _ (.inl rfl) e⟩
  | tup xs => obtain ⟨z, its, r, ob, e, c⟩ := x; exact ⟨z, its, r, ob, k _ _ (.inl rfl) e, c⟩
  | dK kvs => obtain ⟨z, y, vs, r, ob, es, ep, e, c⟩ := x; exact ⟨z, y, vs, r, ob, es, ep, k _ _ (.inl rfl) e, c⟩
  | dT kvs =>
    obtain ⟨z, y, xs, r, ob, es, ep, e, c⟩ := x
    exact ⟨z, y, xs, Paired.mapP r fun p q z => ⟨z.1, ht _ _ z.2.1, z.2.2⟩, ob, es, ep, k _ _ (.inl rfl) e, c⟩
  | set S n => obtain ⟨ob, es, ep, t, e, c⟩ := x; exact ⟨ob, es, ep, t, k _ _ (.inl rfl) e, c⟩
  | ins C dx fs =>
    obtain ⟨d, z, ne, e, mA, ⟨od, es, ep, e2, c⟩, r⟩ := x
    exact ⟨ho _ d, z, ne, k _ _ (.inl rfl) e, mA, ⟨od, es, ep, k _ _ (.inr d) e2, c⟩, r⟩
  | own y => obtain ⟨ob, e⟩ := x; exact ⟨ob, k _ _ (.inl rfl) e⟩
  | xd fs => obtain ⟨mA, ⟨od, es, ep, e, c⟩, r⟩ := x; exact ⟨mA, ⟨od, es, ep, k _ _ (.inl rfl) e, c⟩, r⟩
  | rng lo hi => obtain ⟨t, u, v, e⟩ := x; exact ⟨t, u, v, k _ _ (.inl rfl) e⟩
  | frz ob u ih => obtain ⟨e, q⟩ := x; exact ⟨k _ _ (.inl rfl) e, ih q⟩
  | tbl ps =>
    have e : h.get? a = some { cls := .none, data := .fields ps } := x
    show h'.get? a = some { cls := .none, data := .fields ps }
    exact k a _ (.inl rfl) e
  | met f y =>
    have e : h.get? a = some (PySem.W.methodObj (.ref f) (.ref y)) := x
    show h'.get? a = some (PySem.W.methodObj (.ref f) (.ref y))
    exact k a _ (.inl rfl) e
  | ext φ => obtain ⟨p, ⟨o, e⟩, st⟩ := x; exact ⟨st _ _ p fun o q => k _ _ (.inl rfl) q, ⟨o, k _ _ (.inl rfl) e⟩, st⟩
theorem HOk.lt (x : HOk P w H h) (e : H a = some o) : a < h.objs.size := (x a o e).lt
theorem HOk.fresh (x : HOk P w H h) (e : h.objs.size ≤ a) : H a = none := by
  cases q : H a with
  | none => rfl
  | some u => exact absurd (Nat.lt_of_lt_of_le (x.lt q) e) (Nat.lt_irrefl _)
/-- every object of the heap is kept -/
theorem HOk.kept (x : HOk P w H h) (k : ∀ b u, h.get? b = some u → h'.get? b = some u) : HOk P w H h' := fun a o e =>
  (x a o e).stay (fun b u _ q => k b u q) (fun _ q => q) fun _ _ q => q
/-- a new object is laid and tracked -/
theorem HOk.laid (x : HOk P w H h) (k : ∀ b u, h.get? b = some u → h'.get? b = some u) (hp : h.objs.size ≤ a) (new : ObjOk P w (upd H a o) h' a o) : HOk P w (upd H a o) h' := fun b u e => by
  have hn := x.fresh hp
  by_cases hb : b = a
  · subst hb; rw [upd_same] at e; cases e; exact new
  · rw [upd_ne hb] at e
    exact (x b u e).stay (fun c v _ q => k c v q) (fun c q => by rw [upd_ne (ne_of_none q hn)]; exact q) fun c xs q => by rw [upd_ne (ne_of_none q hn)]; exact q
end

/-- what may be read as u: it is u, or a known u -/
noncomputable def Rd (H : Hp) (a : Addr) (u : HO) : Prop := H a = some u ∨ ∃ o, H a = some (.frz o u)
theorem Rd.of {H : Hp} {a : Addr} {u : HO} (h : H a = some u) : Rd H a u := .inl h
theorem Rd.ok {P : Program} {w : World} {H : Hp} {h : Heap} {a : Addr} {u : HO} (r : Rd H a u) (x : HOk P w H h) : ObjOk P w H h a u := by
  rcases r with r | ⟨o, r⟩
  · exact x a u r
  · obtain ⟨_, q⟩ := x a _ r
    exact q
/-- what may be written -/
noncomputable def Mut : Option HO → Prop
  | some (.lst _) => True
  | some (.dK _) => True
  | some (.dT _) => True
  | some (.set _ _) => True
  | some (.ins _ _ _) => True
  | some (.ext _) => True
  | _ => False
section
variable {P : Program} {w : World} {H : Hp} {h h' : Heap} {x e : Addr} {o' : HO}
/-- the object at e is changed: x itself, or the dict of the instance x -/
theorem HOk.write (ok : HOk P w H h) (mu : Mut (H x)) (he : e = x ∨ H e = some (.own x)) (k : ∀ b u, b ≠ e → h.get? b = some u → h'.get? b = some u) (heo : ∃ u, h'.get? e = some u)
    (new : ObjOk P w (upd H x o') h' x o') : HOk P w (upd H x o') h' := fun b u q => by
  have nown : ∀ c y, H c = some (.own y) → c ≠ x := fun c y r z => by subst z; rw [r] at mu; exact mu
  have ntup : ∀ c xs, H c = some (.tup xs) → c ≠ x := fun c xs r z => by subst z; rw [r] at mu; exact mu
  by_cases hb : b = x
  · subst hb; rw [upd_same] at q; cases q; exact new
  · rw [upd_ne hb] at q
    by_cases hbe : b = e
    · have q' : H b = some (.own x) := by
        rcases he with z | z
        · exact absurd (hbe.trans z) hb
        · rw [hbe]; exact z
      rw [q] at q'; cases q'
      obtain ⟨v, hv⟩ := heo
      exact ⟨v, by rw [hbe]; exact hv⟩
    · refine (ok b u q).stay (fun c v hc r => k c v ?_ r) (fun c r => by rw [upd_ne (nown c b r)]; exact r) fun c xs r => by rw [upd_ne (ntup c xs r)]; exact r
      rcases hc with rfl | hc
      · exact hbe
      · rintro rfl
        rcases he with z | z
        · exact nown c b hc z
        · rw [hc] at z; cases z; exact hb rfl
end

/-! ### kept unless tracked; of the frames at fs (the callers') the slots may change (an exception that passes writes there); of the records at ex (iterators) nothing is said -/
structure Un (fs ex : List Addr) (H H' : Hp) (h h' : Heap) : Prop where
  keep : ∀ b o, h.get? b = some o → H b = none → b ∉ fs → b ∉ ex → h'.get? b = some o
  slot : ∀ b o, h.get? b = some o → H b = none → b ∈ fs → b ∉ ex → ∃ sl, h'.get? b = some { o with slots := sl }
  free : ∀ b o, h.get? b = some o → H b = none → b ∉ ex → H' b = none
  there : ∀ b o, h.get? b = some o → b ∉ ex → ∃ o', h'.get? b = some o'
  tups : ∀ b xs, H b = some (.tup xs) → H' b = some (.tup xs)
  frzs : ∀ b o u, H b = some (.frz o u) → H' b = some (.frz o u)
  tbls : ∀ b ps, H b = some (.tbl ps) → ∃ more, H' b = some (.tbl (ps ++ more))
section
variable {fs fs' ex ex' : List Addr} {H H1 H2 : Hp} {h h1 h2 h' : Heap} {a x e : Addr} {o : HO}
theorem Un.any (u : Un fs ex H H1 h h1) {b : Addr} {ob : Obj} (q : h.get? b = some ob) (n : H b = none) (hx : b ∉ ex) : ∃ sl, h1.get? b = some { ob with slots := sl } := by
  by_cases hb : b ∈ fs
  · exact u.slot b ob q n hb hx
  · exact ⟨ob.slots, u.keep b ob q n hb hx⟩
theorem Un.trans (a : Un fs ex H H1 h h1) (b : Un fs ex H1 H2 h1 h2) : Un fs ex H H2 h h2 where
  keep := fun c ob q n hc hx => b.keep c ob (a.keep c ob q n hc hx) (a.free c ob q n hx) hc hx
  slot := fun c ob q n hc hx => by
    obtain ⟨sl, e1⟩ := a.slot c ob q n hc hx
    obtain ⟨sl', e2⟩ := b.slot c _ e1 (a.free c ob q n hx) hc hx
    exact ⟨sl', e2⟩
  free := fun c ob q n hx => by
    obtain ⟨o', e1⟩ := a.there c ob q hx
    exact b.free c o' e1 (a.free c ob q n hx) hx
  there := fun c ob q hx => by
    obtain ⟨o', e1⟩ := a.there c ob q hx
    exact b.there c o' e1 hx
  tups := fun c xs q => b.tups c xs (a.tups c xs q)
  frzs := fun c ob xs q => b.frzs c ob xs (a.frzs c ob xs q)
  tbls := fun c ps q => by
    obtain ⟨m1, e1⟩ := a.tbls c ps q
    obtain ⟨m2, e2⟩ := b.tbls c _ e1
    exact ⟨m1 ++ m2, by rw [e2, Array.append_assoc]⟩
theorem Un.kept (k : ∀ b u, h.get? b = some u → h'.get? b = some u) : Un fs ex H H h h' :=
  ⟨fun b ob q _ _ _ => k b ob q, fun b ob q _ _ _ => ⟨ob.slots, k b ob q⟩, fun _ _ _ n _ => n, fun b ob q _ => ⟨ob, k b ob q⟩, fun _ _ q => q, fun _ _ _ q => q, fun _ ps q => ⟨#[], by rw [q]; simp⟩⟩
theorem Un.refl : Un fs ex H H h h := Un.kept fun _ _ q => q
theorem Un.laid (k : ∀ b u, h.get? b = some u → h'.get? b = some u) (hp : h.objs.size ≤ a) (hn : H a = none) : Un fs ex H (upd H a o) h h' where
  keep := fun b u q _ _ _ => k b u q
  slot := fun b u q _ _ _ => ⟨u.slots, k b u q⟩
  free := fun b u q n _ => by rw [upd_ne (Nat.ne_of_lt (Nat.lt_of_lt_of_le (Heap.lt_size q) hp))]; exact n
  there := fun b u q _ => ⟨u, k b u q⟩
  tups := fun b xs q => by rw [upd_ne (ne_of_none q hn)]; exact q
  frzs := fun b u xs q => by rw [upd_ne (ne_of_none q hn)]; exact q
  tbls := fun b ps q => ⟨#[], by rw [upd_ne (ne_of_none q hn), q]; simp⟩
theorem Un.write (mu : Mut (H x)) (he : e = x ∨ H e = some (.own x)) (k : ∀ b u, b ≠ e → h.get? b = some u → h'.get? b = some u) (heo : ∃ u, h'.get? e = some u) : Un fs ex H (upd H x o) h h' := by
  have hx : ∀ b, H b = none → b ≠ x := fun b n z => by subst z; rw [n] at mu; exact mu
  have hb : ∀ b, H b = none → b ≠ e := fun b n z => by
    subst z
    rcases he with r | r
    · exact hx b n r
    · rw [n] at r; cases r
  have hm : ∀ b u, H b = some u → ¬ Mut (some u) → b ≠ x := fun b u q nm z => by subst z; rw [q] at mu; exact nm mu
  refine ⟨fun b u q n _ _ => k b u (hb b n) q, fun b u q n _ _ => ⟨u.slots, k b u (hb b n) q⟩, fun b u q n _ => by rw [upd_ne (hx b n)]; exact n, fun b u q _ => ?_,
    fun b xs q => by rw [upd_ne (hm b _ q fun z => z)]; exact q, fun b u xs q => by rw [upd_ne (hm b _ q fun z => z)]; exact q, fun b ps q => ⟨#[], by rw [upd_ne (hm b _ q fun z => z), q]; simp⟩⟩
  by_cases hbe : b = e
  · subst hbe; exact heo
  · exact ⟨u, k b u hbe q⟩
theorem Un.mono (u : Un fs ex H H1 h h1) (hs : ∀ b ∈ fs, b ∈ fs') (hx : ∀ b ∈ ex, b ∈ ex') : Un fs' ex' H H1 h h1 :=
  ⟨fun b ob q n hb he => u.keep b ob q n (fun z => hb (hs b z)) fun z => he (hx b z), fun _ _ q n _ he => u.any q n fun z => he (hx _ z), fun b ob q n he => u.free b ob q n fun z => he (hx b z), fun b ob q he => u.there b ob q fun z => he (hx b z), u.tups, u.frzs, u.tbls⟩
end

/-! ### the heap without what is tracked -/
noncomputable def trk (h : Heap) (H : Hp) : List Addr := (List.range h.objs.size).filter fun a => (H a).isSome
noncomputable def hidT (h : Heap) (H : Hp) : Heap := PySem.W.hideAll h (trk h H)
theorem hidT_size (h : Heap) (H : Hp) : (hidT h H).objs.size = h.objs.size := PySem.W.hideAll_size _ _
theorem hidT_get {h : Heap} {H : Hp} {b : Addr} {o : Obj} (e : h.get? b = some o) (n : H b = none) : (hidT h H).get? b = some o :=
  PySem.W.hideAll_get _ e fun hm => by
    have q : (H b).isSome = true := (List.mem_filter.mp hm).2
    rw [n] at q; simp at q
theorem of_hidT {h : Heap} {H : Hp} {b : Addr} {o : Obj} (e : (hidT h H).get? b = some o) : h.get? b = some o ∧ H b = none := by
  have e' : h.get? b = some o := PySem.W.of_hideAll (trk h H) e
  refine ⟨e', ?_⟩
  cases q : H b with
  | none => rfl
  | some x =>
    have hm : b ∈ trk h H := List.mem_filter.mpr ⟨List.mem_range.mpr (Heap.lt_size e'), by simp [q]⟩
    have z : (hidT h H).get? b = none := PySem.W.hideAll_none (trk h H) hm
    rw [z] at e; cases e

/-! ### OpenK's ledger, filled with every new object but one -/
noncomputable def allNews (g h : Heap) (L : Addr) : List (Addr × Obj) := (List.range h.objs.size).filterMap fun a => if a = L ∨ (g.get? a).isSome = true then none else (h.get? a).map fun o => (a, o)
noncomputable def rest (g h : Heap) (L d : Addr) : List (Addr × Obj) := (allNews g h L).filter fun p => decide (p.1 ≠ d)
end L2

namespace L2
open PySem PySem.Spec PyProof.Rows

/-- the module's facts, over the base: the heap at the law's entry without what is tracked there -/
structure Mod (K : PySem.W.Frag) (mg : Str → Option Value) (base : Heap) : Prop where
  kin : K.In base
  glob : base.Ns mainGlobals mg
  blt : ∃ mb, base.Ns builtinsNs mb ∧ ∀ x : Str, x ≠ "__name__" → mb x = bootBuiltins x
  nolimit : base.NoLimit

/-- the context: a def's body (or a comprehension's block) running. base: fixed through the whole law; s₀, H₀: the entry; outer: the frames whose slots others may change (a def's callers); stack: all frames that run;
   ex: iterators that were made ahead of the entry and are walked here (a comprehension's); fn: the names whose cells were made at the entry (a def: all; a comprehension's block: its own); calm: not within an except suite; pn: pins that every state bears; xe: what is wanted of an exception that leaves the code -/
structure Cx where
  prog : Program
  w : World
  K : PySem.W.Frag
  mg : Str → Option Value
  base : Heap
  A : Around
  N : List Str
  s₀ : Shared
  H₀ : Hp
  env : Env
  outer : List Env
  stack : List Env
  ex : List Addr
  fn : Str → Bool
  calm : Bool
  pn : List (Addr × Obj)
  xe : Value → Shared → Prop
/-- the callers' frames -/
noncomputable def frs (l : List Env) : List Addr := l.filterMap (·.frame)
noncomputable abbrev Cx.fs (X : Cx) : List Addr := frs X.outer

noncomputable def Vis (sc : Scope) (x : Str) : Prop := sc.names.lookup x = some .local ∨ sc.names.lookup x = some .cell ∨ sc.names.lookup x = some .free
noncomputable def Loc (sc : Scope) (x : Str) : Prop := sc.names.lookup x = some .local ∨ sc.names.lookup x = some .cell
noncomputable def Look (env : Env) (h : Heap) (m : Str → Option Value) (x : Str) (u : Value) : Prop :=
  (env.kindOf x = some .local ∧ m x = some u) ∨ ((env.kindOf x = some .cell ∨ env.kindOf x = some .free) ∧ ∃ c, env.cells.lookup x = some c ∧ h.IsCell c (some u))

structure Cx.Ok (X : Cx) : Prop where
  mod : Mod X.K X.mg X.base
  kind : X.env.scope.kind = .function
  glob : X.env.globals = mainGlobals
  blt : X.env.builtins = builtinsNs
  above : X.s₀.heap.objs.size ≤ X.env.locals
  inj : ∀ x y c, X.env.cells.lookup x = some c → X.env.cells.lookup y = some c → x = y
  has : ∀ x, (X.env.kindOf x = some .cell ∨ X.env.kindOf x = some .free) → ∃ c, X.env.cells.lookup x = some c
  cab : ∀ x c, X.fn x = true → X.env.cells.lookup x = some c → X.s₀.heap.objs.size ≤ c
  hd : X.calm = true → X.A.handled = none
  frames : X.A.frames = some X.stack
  stk : X.stack = X.outer ∨ (X.stack = X.env :: X.outer ∧ X.env.frame = some X.env.locals)
  exf : ∀ b ∈ X.ex, b ≠ X.env.locals ∧ ∀ x c, X.env.cells.lookup x = some c → c ≠ b
  bs : ∀ b o, X.base.get? b = some o → X.s₀.heap.get? b = some o ∧ X.H₀ b = none
  bsz : X.base.objs.size ≤ X.s₀.heap.objs.size
  noex : ∀ b o, X.base.get? b = some o → b ∉ X.ex
  exfs : ∀ b ∈ X.ex, b ∉ X.fs
  funs : X.s₀.heap.FunFrames X.base X.outer
  frf : ∀ b ∈ X.fs, X.H₀ b = none

structure Inv (X : Cx) (pins : List (Addr × Obj)) (σ : List (Option V)) (H : Hp) (s : Shared) : Prop where
  ok : X.Ok
  os : s.os = X.s₀.os
  bare : AllBare s.gens
  base : Un X.fs X.ex X.H₀ H X.s₀.heap s.heap
  loc : ∃ m, s.heap.Ns X.env.locals m ∧ ∀ (i : Nat) (x : Str) (v : V), X.N[i]? = some x → σ[i]? = some (some v) → Vis X.env.scope x → ∃ u, RelV v u ∧ Look X.env s.heap m x u
  cell : ∀ x c, X.env.cells.lookup x = some c → ∃ v, s.heap.IsCell c v
  free : H X.env.locals = none
  freeC : ∀ x c, X.env.cells.lookup x = some c → H c = none
  pin : ∀ p ∈ X.pn ++ pins, s.heap.get? p.1 = some p.2 ∧ H p.1 = none ∧ p.1 ≠ X.env.locals ∧ p.1 ∉ X.fs ∧ ∀ v, p.2.data ≠ .cell v
  hok : HOk X.prog X.w H s.heap
  len : σ.length = X.N.length

section
variable {X : Cx} {pins : List (Addr × Obj)} {σ : List (Option V)} {H H' : Hp} {s : Shared} {h' : Heap}

theorem Cx.Ok.nofr (ok : X.Ok) {b : Addr} {o : Obj} (e : X.base.get? b = some o) : b ∉ X.fs := fun hb => by
  have := (ok.funs.mem hb).1
  rw [e] at this; cases this
theorem Inv.bs (I : Inv X pins σ H s) : ∀ b o, X.base.get? b = some o → s.heap.get? b = some o ∧ H b = none := fun b o e =>
  ⟨I.base.keep b o (I.ok.bs b o e).1 (I.ok.bs b o e).2 (I.ok.nofr e) (I.ok.noex b o e), I.base.free b o (I.ok.bs b o e).1 (I.ok.bs b o e).2 (I.ok.noex b o e)⟩
theorem Inv.bk (I : Inv X pins σ H s) : ∀ b o, X.base.get? b = some o → s.heap.get? b = some o := fun b o e => (I.bs b o e).1
theorem Inv.mod (I : Inv X pins σ H s) : Mod X.K X.mg X.base := I.ok.mod
theorem Inv.kIn (I : Inv X pins σ H s) : X.K.In s.heap := I.ok.mod.kin.keeps I.bk
theorem Inv.nolimit (I : Inv X pins σ H s) : s.heap.NoLimit := I.ok.mod.nolimit.keeps I.bk
/-- the frame over the base: for OpenK's rules (K.In X.base is I.mod.kin) -/
theorem Inv.fr (I : Inv X pins σ H s) : ∃ m, Fr X.base X.env.locals s.heap m :=
  let ⟨m, hn, _⟩ := I.loc
  ⟨m, hn, I.bk, Nat.le_trans I.ok.bsz I.ok.above⟩
theorem Inv.lt (I : Inv X pins σ H s) : X.env.locals < s.heap.objs.size := let ⟨_, hn, _⟩ := I.loc; hn.lt
theorem Inv.sz (I : Inv X pins σ H s) : X.s₀.heap.objs.size ≤ s.heap.objs.size := Nat.le_trans I.ok.above (Nat.le_of_lt I.lt)
theorem Inv.nofs (I : Inv X pins σ H s) {a : Addr} (h : s.heap.objs.size ≤ a) : a ∉ X.fs := fun hb => by
  obtain ⟨_, o, ho, _⟩ := I.ok.funs.mem hb
  exact absurd (Nat.lt_of_lt_of_le (Heap.lt_size ho) (Nat.le_trans I.sz h)) (Nat.lt_irrefl _)
theorem Inv.cne (I : Inv X pins σ H s) : ∀ x c, X.env.cells.lookup x = some c → c ≠ X.env.locals := fun x c e z => by
  obtain ⟨v, o, ho, hd⟩ := I.cell x c e
  obtain ⟨m, ⟨o', es, ep, ho', hd', _⟩, _⟩ := I.loc
  rw [z, ho'] at ho; cases ho; rw [hd'] at hd; cases hd
theorem Inv.funs (I : Inv X pins σ H s) : s.heap.FunFrames X.base X.outer := by
  have all : ∀ (l : List Env), (∀ b ∈ frs l, b ∈ X.fs) → X.s₀.heap.FunFrames X.base l → s.heap.FunFrames X.base l := by
    intro l
    induction l with
    | nil => intro _ _; trivial
    | cons env r ih =>
      intro hs hl
      obtain ⟨hk, ⟨L, o, hf, hn, ho, hd⟩, hr⟩ := hl
      have hL : L ∈ X.fs := hs L (by unfold frs; rw [List.filterMap_cons, hf]; exact List.mem_cons_self)
      obtain ⟨sl, e⟩ := I.base.slot L o ho (I.ok.frf L hL) hL fun z => I.ok.exfs L z hL
      exact ⟨hk, ⟨L, _, hf, hn, e, hd⟩, ih (fun b hb => hs b (by unfold frs; rw [List.filterMap_cons, hf]; exact List.mem_cons_of_mem _ hb)) hr⟩
  exact all X.outer (fun _ hb => hb) I.ok.funs

/-- the frames that run, for a call -/
theorem Inv.stack (I : Inv X pins σ H s) : s.heap.FunFrames X.base X.stack := by
  rcases I.ok.stk with e | ⟨e, hf⟩
  · rw [e]; exact I.funs
  · rw [e]
    obtain ⟨m, hn, _⟩ := I.loc
    refine .cons (by rw [I.ok.kind]; decide) hf hn ?_ I.funs
    exact Heap.get?_none_of_le (Nat.le_trans I.ok.bsz I.ok.above)
theorem Inv.stkSub (I : Inv X pins σ H s) : ∀ b ∈ frs X.stack, b ∈ X.env.locals :: X.fs := fun b hb => by
  rcases I.ok.stk with e | ⟨e, hf⟩
  · rw [e] at hb; exact List.mem_cons_of_mem _ hb
  · rw [e] at hb
    unfold frs at hb
    rw [List.filterMap_cons, hf] at hb
    exact hb
theorem Inv.stkFree (I : Inv X pins σ H s) : ∀ b ∈ frs X.stack, H b = none := fun b hb => by
  rcases List.mem_cons.mp (I.stkSub b hb) with e | hb
  · rw [e]; exact I.free
  · obtain ⟨_, o, ho, _⟩ := I.ok.funs.mem hb
    exact I.base.free b o ho (I.ok.frf b hb) fun z => I.ok.exfs b z hb

/-- THE STEP: the untracked objects but the frame and the records at ch are kept (the callers' frames up to slots), the frame's map is kept, the new abstract heap is held -/
theorem Inv.step {g' : Array GenState} {t' : Nat} {d' : Drawn} {ch : List Addr} (I : Inv X pins σ H s)
    (hch : ∀ b ∈ ch, (b ∈ X.ex ∨ X.s₀.heap.objs.size ≤ b) ∧ b ≠ X.env.locals ∧ (∀ x c, X.env.cells.lookup x = some c → c ≠ b) ∧ ∀ p ∈ X.pn ++ pins, p.1 ≠ b)
    (keep : ∀ b o, b ≠ X.env.locals → b ∉ X.fs → b ∉ ch → s.heap.get? b = some o → H b = none → h'.get? b = some o)
    (slot : ∀ b o, b ≠ X.env.locals → b ∈ X.fs → b ∉ ch → s.heap.get? b = some o → H b = none → ∃ sl, h'.get? b = some { o with slots := sl }) (free : ∀ b o, b ∉ ch → s.heap.get? b = some o → H b = none → H' b = none)
    (there : ∀ b o, b ∉ ch → s.heap.get? b = some o → ∃ o', h'.get? b = some o')
    (tups : ∀ b xs, H b = some (.tup xs) → H' b = some (.tup xs)) (frzs : ∀ b o u, H b = some (.frz o u) → H' b = some (.frz o u)) (tbls : ∀ b ps, H b = some (.tbl ps) → ∃ more, H' b = some (.tbl (ps ++ more)))
    (ns : ∀ m, s.heap.Ns X.env.locals m → h'.Ns X.env.locals m) (hok : HOk X.prog X.w H' h') (hg : AllBare g') :
    Inv X pins σ H' { s with heap := h', gens := g', drawn := d', toks := t' } := by
  have neL : ∀ b o, X.s₀.heap.get? b = some o → b ≠ X.env.locals := fun b o e => Nat.ne_of_lt (Nat.lt_of_lt_of_le (Heap.lt_size e) I.ok.above)
  have neC : ∀ b o, X.s₀.heap.get? b = some o → b ∉ X.ex → b ∉ ch := fun b o e hx hb => by
    rcases (hch b hb).1 with z | z
    · exact hx z
    · exact absurd (Nat.lt_of_lt_of_le (Heap.lt_size e) z) (Nat.lt_irrefl _)
  have cellK : ∀ x c, X.env.cells.lookup x = some c → ∀ v, s.heap.IsCell c v → h'.IsCell c v := fun x c e v ⟨o, ho, hd⟩ => by
    have nch : c ∉ ch := fun z => (hch c z).2.2.1 x c e rfl
    by_cases hc : c ∈ X.fs
    · obtain ⟨sl, q⟩ := slot c o (I.cne x c e) hc nch ho (I.freeC x c e)
      exact ⟨_, q, hd⟩
    · exact ⟨o, keep c o (I.cne x c e) hc nch ho (I.freeC x c e), hd⟩
  refine ⟨I.ok, I.os, hg, ⟨fun b o e n hb hx => ?_, fun b o e n hb hx => ?_, fun b o e n hx => ?_, fun b o e hx => ?_, fun b xs e => tups b xs (I.base.tups b xs e), fun b o xs e => frzs b o xs (I.base.frzs b o xs e), fun b ps e => ?_⟩, ?_, fun x c e => ?_, ?_, fun x c e => ?_, fun p hp => ?_, hok, I.len⟩
  · exact keep b o (neL b o e) hb (neC b o e hx) (I.base.keep b o e n hb hx) (I.base.free b o e n hx)
  · obtain ⟨sl, e1⟩ := I.base.slot b o e n hb hx
    obtain ⟨sl', e2⟩ := slot b _ (neL b o e) hb (neC b o e hx) e1 (I.base.free b o e n hx)
    exact ⟨sl', e2⟩
  · obtain ⟨o', e1⟩ := I.base.there b o e hx
    exact free b o' (neC b o e hx) e1 (I.base.free b o e n hx)
  · obtain ⟨o', e1⟩ := I.base.there b o e hx
    exact there b o' (neC b o e hx) e1
  · obtain ⟨m1, e1⟩ := I.base.tbls b ps e
    obtain ⟨m2, e2⟩ := tbls b _ e1
    exact ⟨m1 ++ m2, by rw [e2, Array.append_assoc]⟩
  · obtain ⟨m, hn, hl⟩ := I.loc
    refine ⟨m, ns m hn, fun i x v e1 e2 e3 => ?_⟩
    obtain ⟨u, r, l⟩ := hl i x v e1 e2 e3
    refine ⟨u, r, ?_⟩
    rcases l with l | ⟨k, c, e, z⟩
    · exact .inl l
    · exact .inr ⟨k, c, e, cellK x c e _ z⟩
  · obtain ⟨v, z⟩ := I.cell x c e
    exact ⟨v, cellK x c e v z⟩
  · obtain ⟨m, ⟨o, _, _, ho, _⟩, _⟩ := I.loc
    exact free _ o (fun z => (hch _ z).2.1 rfl) ho I.free
  · obtain ⟨v, o, ho, hd⟩ := I.cell x c e
    exact free c o (fun z => (hch c z).2.2.1 x c e rfl) ho (I.freeC x c e)
  · obtain ⟨e, n, ne, nf, d⟩ := I.pin p hp
    have nch : p.1 ∉ ch := fun z => (hch p.1 z).2.2.2 p hp rfl
    exact ⟨keep p.1 p.2 ne nf nch e n, free p.1 p.2 nch e n, ne, nf, d⟩
/-- .. where the frame's own object is kept too -/
theorem Inv.un {t' : Nat} (I : Inv X pins σ H s) (u : Un X.fs [] H H' s.heap h') (hok : HOk X.prog X.w H' h') : Inv X pins σ H' { s with heap := h', toks := t' } := by
  obtain ⟨m, ⟨o, es, ep, ho, r⟩, _⟩ := id I.loc
  obtain ⟨sl, hL⟩ := u.any ho I.free (by simp)
  exact I.step (g' := s.gens) (d' := s.drawn) (ch := []) (fun _ z => nomatch z) (fun b o _ hb _ e n => u.keep b o e n hb (by simp)) (fun b o _ hb _ e n => u.slot b o e n hb (by simp)) (fun b o _ e n => u.free b o e n (by simp)) (fun b o _ e => u.there b o e (by simp)) u.tups u.frzs u.tbls (fun m' hm => by
    obtain ⟨o', es', ep', ho', r'⟩ := hm
    rw [ho] at ho'; cases ho'
    exact ⟨_, es', ep', hL, r'⟩) hok I.bare
/-- behind a call (or a comprehension's block): the slots of this frame may have changed too, the records at ch may have turned -/
theorem Inv.call {g' : Array GenState} {t' : Nat} {d' : Drawn} {ch : List Addr} (I : Inv X pins σ H s) (u : Un (frs X.stack) ch H H' s.heap h') (hok : HOk X.prog X.w H' h') (hg : AllBare g')
    (hch : ∀ b ∈ ch, (b ∈ X.ex ∨ X.s₀.heap.objs.size ≤ b) ∧ b ≠ X.env.locals ∧ (∀ x c, X.env.cells.lookup x = some c → c ≠ b) ∧ ∀ p ∈ X.pn ++ pins, p.1 ≠ b) :
    Inv X pins σ H' { s with heap := h', gens := g', drawn := d', toks := t' } := by
  obtain ⟨m, ⟨o, es, ep, ho, r⟩, _⟩ := id I.loc
  obtain ⟨sl, hL⟩ := u.any ho I.free fun z => (hch _ z).2.1 rfl
  exact I.step (ch := ch) hch (fun b o hL hb hc e n => u.keep b o e n (fun z => (List.mem_cons.mp (I.stkSub b z)).elim hL hb) hc) (fun b o _ _ hc e n => u.any e n hc) (fun b o hc e n => u.free b o e n hc) (fun b o hc e => u.there b o e hc) u.tups u.frzs u.tbls (fun m' hm => by
    obtain ⟨o', es', ep', ho', r'⟩ := hm
    rw [ho] at ho'; cases ho'
    exact ⟨_, es', ep', hL, r'⟩) hok hg
/-- an untracked record of ours (an iterator) has turned -/
theorem Inv.turned {t' : Nat} {it : Addr} (I : Inv X pins σ H s) (k : ∀ b o, b ≠ it → s.heap.get? b = some o → h'.get? b = some o) (hn : H it = none) (hL : it ≠ X.env.locals)
    (h1 : it ∈ X.ex ∨ X.s₀.heap.objs.size ≤ it) (h2 : ∀ x c, X.env.cells.lookup x = some c → c ≠ it) (h3 : ∀ p ∈ X.pn ++ pins, p.1 ≠ it) : Inv X pins σ H { s with heap := h', toks := t' } := by
  have nit : ∀ b u, H b = some u → b ≠ it := fun b u e z => by rw [z, hn] at e; cases e
  refine I.step (g' := s.gens) (d' := s.drawn) (ch := [it]) (fun b hb => ?_) (fun b o _ _ hc e _ => k b o (fun z => hc (by simp [z])) e) (fun b o _ _ hc e _ => ⟨o.slots, k b o (fun z => hc (by simp [z])) e⟩) (fun _ _ _ _ n => n)
    (fun b o hc e => ⟨o, k b o (fun z => hc (by simp [z])) e⟩) (fun _ _ e => e) (fun _ _ _ e => e) (fun b ps e => ⟨#[], by rw [e]; simp⟩) (fun m hm => ?_) (fun b u e => ?_) I.bare
  · have e : b = it := by simpa using hb
    subst e
    exact ⟨h1, hL, h2, h3⟩
  · obtain ⟨o, es, ep, ho, r⟩ := hm
    exact ⟨o, es, ep, k _ o (Ne.symm hL) ho, r⟩
  · refine (I.hok b u e).stay (fun c v hc q => k c v ?_ q) (fun _ q => q) fun _ _ q => q
    rcases hc with z | z
    · rw [z]; exact nit b u e
    · exact nit c _ z
theorem Inv.tok (I : Inv X pins σ H s) (t : Nat) : Inv X pins σ H { s with toks := t } := I.un (h' := s.heap) (t' := t) Un.refl I.hok
/-- all objects kept -/
theorem Inv.kept {t' : Nat} (I : Inv X pins σ H s) (k : ∀ b u, s.heap.get? b = some u → h'.get? b = some u) : Inv X pins σ H { s with heap := h', toks := t' } := I.un (Un.kept k) (I.hok.kept k)
/-- a new object laid and tracked -/
theorem Inv.laid {a : Addr} {o : HO} {t' : Nat} (I : Inv X pins σ H s) (k : ∀ b u, s.heap.get? b = some u → h'.get? b = some u) (hp : s.heap.objs.size ≤ a) (new : ObjOk X.prog X.w (upd H a o) h' a o) :
    Inv X pins σ (upd H a o) { s with heap := h', toks := t' } := I.un (Un.laid k hp (I.hok.fresh hp)) (I.hok.laid k hp new)
/-- an object written -/
theorem Inv.write {x e : Addr} {o : HO} {t' : Nat} (I : Inv X pins σ H s) (mu : Mut (H x)) (he : e = x ∨ H e = some (.own x)) (k : ∀ b u, b ≠ e → s.heap.get? b = some u → h'.get? b = some u) (heo : ∃ u, h'.get? e = some u)
    (new : ObjOk X.prog X.w (upd H x o) h' x o) : Inv X pins σ (upd H x o) { s with heap := h', toks := t' } := I.un (Un.write mu he k heo) (I.hok.write mu he k heo new)
theorem Inv.pins_of {pins' : List (Addr × Obj)} (I : Inv X pins σ H s) (h : ∀ p ∈ pins', s.heap.get? p.1 = some p.2 ∧ H p.1 = none ∧ p.1 ≠ X.env.locals ∧ p.1 ∉ X.fs ∧ ∀ v, p.2.data ≠ .cell v) : Inv X pins' σ H s :=
  ⟨I.ok, I.os, I.bare, I.base, I.loc, I.cell, I.free, I.freeC, fun p hp => (List.mem_append.mp hp).elim (fun z => I.pin p (List.mem_append_left _ z)) (h p), I.hok, I.len⟩

theorem nodup_ix {N : List Str} (hN : N.Nodup) {i j : Nat} {x : Str} (a : N[i]? = some x) (b : N[j]? = some x) : i = j := by
  obtain ⟨h1, e1⟩ := List.getElem?_eq_some_iff.mp a
  obtain ⟨h2, e2⟩ := List.getElem?_eq_some_iff.mp b
  exact (List.getElem_inj hN).mp (e1.trans e2.symm)

/-- a name is stored; what changed -/
theorem store_ok2 {M : Model} {A : Around} {E : Value → Shared → Prop} {i : Nat} {x : Str} {v : V} {u : Value} {Q : Unit → Shared → Prop} (I : Inv X pins σ H s) (hN : X.N.Nodup) (hi : X.N[i]? = some x) (hx : Loc X.env.scope x) (r : RelV v u)
    (h : ∀ s', Inv X pins (σ.set i (some v)) H s' → (∃ a, Heap.SameBut a s.heap s'.heap ∧ (a = X.env.locals ∨ X.env.cells.lookup x = some a)) → Q () s') (hf : X.fn x = true ∨ X.env.scope.names.lookup x = some .local := by first | exact .inl rfl | exact .inr rfl | assumption) : wpAny M A (storeName X.env x u) Q E s := by
  obtain ⟨m, hn, hl⟩ := id I.loc
  have hcls : (X.env.scope.kind == .class || (X.env.scope.kind == .module && X.env.locals != X.env.globals)) = false := by rw [I.ok.kind]; rfl
  have hiσ : i < σ.length := by rw [I.len]; exact (List.getElem?_eq_some_iff.mp hi).1
  have cne := I.cne
  have tracked : ∀ {a : Addr} {h' : Heap}, (∃ o, s.heap.get? a = some o ∧ H a = none) → Heap.SameBut a s.heap h' → HOk X.prog X.w H h' := fun {a h'} ha hs b ob e => by
    obtain ⟨_, _, hfree⟩ := ha
    refine (I.hok b ob e).stay (fun c w' hc q => (hs.2 c ?_).trans q) (fun _ q => q) fun _ _ q => q
    rintro rfl
    rcases hc with rfl | hc
    · rw [hfree] at e; cases e
    · rw [hfree] at hc; cases hc
  rcases hx with hk | hk
  · refine wpAny_storeName_local hk hn (fun h' hn' hs => ?_) hcls
    obtain ⟨oL, _, _, hoL, _⟩ := id hn
    refine h _ ⟨I.ok, I.os, I.bare, ⟨fun b o e n hb hx => ?_, fun b o e n hb hx => ?_, I.base.free, fun b o e hx => ?_, I.base.tups, I.base.frzs, I.base.tbls⟩, ⟨_, hn', fun j y v' e1 e2 e3 => ?_⟩, fun y c e => ?_, I.free, I.freeC, fun p hp => ?_, tracked ⟨oL, hoL, I.free⟩ hs, by simpa using I.len⟩ ⟨_, hs, .inl rfl⟩
    · exact (hs.2 b (Nat.ne_of_lt (Nat.lt_of_lt_of_le (Heap.lt_size e) I.ok.above))).trans (I.base.keep b o e n hb hx)
    · obtain ⟨sl, e1⟩ := I.base.slot b o e n hb hx
      exact ⟨sl, (hs.2 b (Nat.ne_of_lt (Nat.lt_of_lt_of_le (Heap.lt_size e) I.ok.above))).trans e1⟩
    · obtain ⟨o', e1⟩ := I.base.there b o e hx
      exact ⟨o', (hs.2 b (Nat.ne_of_lt (Nat.lt_of_lt_of_le (Heap.lt_size e) I.ok.above))).trans e1⟩
    · by_cases hj : j = i
      · subst hj
        rw [hi] at e1; cases e1
        rw [List.getElem?_set_self hiσ] at e2
        cases e2
        exact ⟨u, r, .inl ⟨hk, by simp⟩⟩
      · rw [List.getElem?_set_ne (Ne.symm hj)] at e2
        obtain ⟨u', r', q⟩ := hl j y v' e1 e2 e3
        refine ⟨u', r', ?_⟩
        rcases q with ⟨k, e⟩ | ⟨k, c, e, z⟩
        · refine .inl ⟨k, ?_⟩
          have : y ≠ x := fun e => hj (nodup_ix hN e1 (e ▸ hi))
          simp [this, e]
        · exact .inr ⟨k, c, e, z.sameBut hs (cne y c e)⟩
    · obtain ⟨w', z⟩ := I.cell y c e
      exact ⟨w', z.sameBut hs (cne y c e)⟩
    · obtain ⟨e, n, ne, nf, d⟩ := I.pin p hp
      exact ⟨(hs.2 p.1 ne).trans e, n, ne, nf, d⟩
  · have hfn : X.fn x = true := by
      rcases hf with z | z
      · exact z
      · rw [z] at hk; cases hk
    obtain ⟨c, hc⟩ := I.ok.has x (.inl hk)
    obtain ⟨w', z⟩ := I.cell x c hc
    refine wpAny_storeName_cell I.ok.kind hk hc z (fun h' hc' hs => ?_)
    obtain ⟨oc, hoc, hocd⟩ := id z
    refine h { s with heap := h' } ⟨I.ok, I.os, I.bare, ⟨fun b o e n hb hx => ?_, fun b o e n hb hx => ?_, I.base.free, fun b o e hx => ?_, I.base.tups, I.base.frzs, I.base.tbls⟩, ⟨m, hn.sameBut hs (Ne.symm (cne x c hc)), fun j y v' e1 e2 e3 => ?_⟩, fun y c' e => ?_, I.free, I.freeC, fun p hp => ?_, tracked ⟨oc, hoc, I.freeC x c hc⟩ hs, by simpa using I.len⟩ ⟨c, hs, .inr hc⟩
    · exact (hs.2 b (Nat.ne_of_lt (Nat.lt_of_lt_of_le (Heap.lt_size e) (I.ok.cab x c hfn hc)))).trans (I.base.keep b o e n hb hx)
    · obtain ⟨sl, e1⟩ := I.base.slot b o e n hb hx
      exact ⟨sl, (hs.2 b (Nat.ne_of_lt (Nat.lt_of_lt_of_le (Heap.lt_size e) (I.ok.cab x c hfn hc)))).trans e1⟩
    · obtain ⟨o', e1⟩ := I.base.there b o e hx
      exact ⟨o', (hs.2 b (Nat.ne_of_lt (Nat.lt_of_lt_of_le (Heap.lt_size e) (I.ok.cab x c hfn hc)))).trans e1⟩
    · by_cases hj : j = i
      · subst hj
        rw [hi] at e1; cases e1
        rw [List.getElem?_set_self hiσ] at e2
        cases e2
        exact ⟨u, r, .inr ⟨.inl hk, c, hc, hc'⟩⟩
      · rw [List.getElem?_set_ne (Ne.symm hj)] at e2
        obtain ⟨u', r', q⟩ := hl j y v' e1 e2 e3
        refine ⟨u', r', ?_⟩
        rcases q with q | ⟨k, c', e, z'⟩
        · exact .inl q
        · refine .inr ⟨k, c', e, z'.sameBut hs ?_⟩
          rintro rfl
          exact hj (nodup_ix hN e1 (I.ok.inj _ _ _ e hc ▸ hi))
    · by_cases hcc : c' = c
      · subst hcc; exact ⟨_, hc'⟩
      · obtain ⟨w2, z2⟩ := I.cell y c' e
        exact ⟨w2, z2.sameBut hs hcc⟩
    · obtain ⟨e, n, ne, nf, d⟩ := I.pin p hp
      refine ⟨(hs.2 p.1 ?_).trans e, n, ne, nf, d⟩
      intro q
      rw [q, hoc] at e
      have q' : oc = p.2 := Option.some.inj e
      exact d w' (by rw [← q']; exact hocd)
theorem store_ok {M : Model} {A : Around} {E : Value → Shared → Prop} {i : Nat} {x : Str} {v : V} {u : Value} {Q : Unit → Shared → Prop} (I : Inv X pins σ H s) (hN : X.N.Nodup) (hi : X.N[i]? = some x) (hx : Loc X.env.scope x) (r : RelV v u)
    (h : ∀ s', Inv X pins (σ.set i (some v)) H s' → Q () s') (hf : X.fn x = true ∨ X.env.scope.names.lookup x = some .local := by first | exact .inl rfl | exact .inr rfl | assumption) : wpAny M A (storeName X.env x u) Q E s :=
  store_ok2 I hN hi hx r (fun s' I' _ => h s' I') hf
/-- behind a call or a block, the state as it is -/
theorem Inv.call' {s' : Shared} {ch : List Addr} (I : Inv X pins σ H s) (ho : s'.os = s.os) (u : Un (frs X.stack) ch H H' s.heap s'.heap) (hok : HOk X.prog X.w H' s'.heap) (hg : AllBare s'.gens)
    (hch : ∀ b ∈ ch, (b ∈ X.ex ∨ X.s₀.heap.objs.size ≤ b) ∧ b ≠ X.env.locals ∧ (∀ x c, X.env.cells.lookup x = some c → c ≠ b) ∧ ∀ p ∈ X.pn ++ pins, p.1 ≠ b) : Inv X pins σ H' s' := by
  obtain ⟨h', g', d', t', o'⟩ := s'
  have e : o' = s.os := ho
  subst e
  exact I.call (g' := g') (t' := t') (d' := d') u hok hg hch
end

/-! ### the judgements -/
/-- an exception: its class, its own dict's address (where it has one), the abstract heap behind it -/
noncomputable abbrev XK := Value → Option Addr → Hp → Prop
noncomputable abbrev St := List (Option V)
noncomputable abbrev VK := V → Hp → Prop
/-- an expression's reading; a test's; an argument list's -/
noncomputable abbrev TE := St → Hp → VK → Prop
noncomputable abbrev TT := St → Hp → (Bool → Hp → Prop) → Prop
noncomputable abbrev TA := St → Hp → (List V → Hp → Prop) → Prop
/-- what is wanted behind a statement -/
structure Ends where
  nx : St → Hp → Prop
  rt : VK
  bk : St → Hp → Prop := fun _ _ => False
  ct : St → Hp → Prop := fun _ _ => False
noncomputable abbrev TS := Ends → St → Hp → Prop

noncomputable def EP (X : Cx) (pins : List (Addr × Obj)) (σ : St) (Q : VK) (u : Value) (s' : Shared) : Prop := ∃ v H', Inv X pins σ H' s' ∧ RelV v u ∧ Q v H'
noncomputable def TP (X : Cx) (pins : List (Addr × Obj)) (σ : St) (Q : Bool → Hp → Prop) (b : Bool) (s' : Shared) : Prop := ∃ H', Inv X pins σ H' s' ∧ Q b H'
noncomputable def AP (X : Cx) (pins : List (Addr × Obj)) (σ : St) (Q : List V → Hp → Prop) (us : List Value) (s' : Shared) : Prop := ∃ vs H', Inv X pins σ H' s' ∧ Vals vs us ∧ Q vs H'
noncomputable def SP (X : Cx) (pins : List (Addr × Obj)) (D : Ends) (f : Flow) (s' : Shared) : Prop :=
  match f with
  | .next => ∃ σ' H', Inv X pins σ' H' s' ∧ D.nx σ' H'
  | .brk => ∃ σ' H', Inv X pins σ' H' s' ∧ D.bk σ' H'
  | .cont => ∃ σ' H', Inv X pins σ' H' s' ∧ D.ct σ' H'
  | .ret u => ∃ v σ' H', Inv X pins σ' H' s' ∧ RelV v u ∧ D.rt v H'

noncomputable def PE (X : Cx) (e : Expr) (t : TE) : Prop :=
  ∀ (pins : List (Addr × Obj)) (s : Shared) (σ : St) (H : Hp) (Q : VK), Inv X pins σ H s → t σ H Q → wpAny (model X.prog X.w) X.A (eval e X.env) (EP X pins σ Q) X.xe s
noncomputable def PT (X : Cx) (e : Expr) (t : TT) : Prop :=
  ∀ (pins : List (Addr × Obj)) (s : Shared) (σ : St) (H : Hp) (Q : Bool → Hp → Prop), Inv X pins σ H s → t σ H Q → wpAny (model X.prog X.w) X.A (isTrue e X.env (eval e X.env)) (TP X pins σ Q) X.xe s
/-- a test whatever its 'whole' is (and, or) -/
noncomputable def PW (X : Cx) (e : Expr) (t : TT) : Prop :=
  ∀ (whole : Sem Value) (pins : List (Addr × Obj)) (s : Shared) (σ : St) (H : Hp) (Q : Bool → Hp → Prop), Inv X pins σ H s → t σ H Q → wpAny (model X.prog X.w) X.A (isTrue e X.env whole) (TP X pins σ Q) X.xe s
theorem PW.pt {X : Cx} {e : Expr} {t : TT} (h : PW X e t) : PT X e t := h _
/-- an argument list (no star), from the left -/
noncomputable def PA (X : Cx) (es : List Expr) (t : TA) : Prop :=
  ∀ (pos : Pos) (pins : List (Addr × Obj)) (s : Shared) (σ : St) (H : Hp) (Q : List V → Hp → Prop), Inv X pins σ H s → t σ H Q → wpAny (model X.prog X.w) X.A (spliced (backTo pos (starEach es X.env))) (AP X pins σ Q) X.xe s
noncomputable def PS (X : Cx) (st : Stmt) (t : TS) : Prop :=
  ∀ (pins : List (Addr × Obj)) (s : Shared) (σ : St) (H : Hp) (D : Ends), Inv X pins σ H s → t D σ H → wpAny (model X.prog X.w) X.A (exec st X.env) (SP X pins D) X.xe s
noncomputable def PSs (X : Cx) (st : List Stmt) (t : TS) : Prop :=
  ∀ (pins : List (Addr × Obj)) (s : Shared) (σ : St) (H : Hp) (D : Ends), Inv X pins σ H s → t D σ H → wpAny (model X.prog X.w) X.A (execs st X.env) (SP X pins D) X.xe s
/-- weaken the end -/
theorem thn {α : Type} {t : Sem α} {Q Q' : α → Shared → Prop} {M : Model} {A : Around} {E : Value → Shared → Prop} {s : Shared} (h : wpAny M A t Q E s) (hQ : ∀ a s, Q a s → Q' a s) : wpAny M A t Q' E s := wpAny_mono h hQ fun _ _ x => x
end L2

namespace L2
open PySem PySem.Spec PyProof.Rows
section
variable {X : Cx}

/-! ### names and constants -/
noncomputable def tVar (i : Nat) : TE := fun σ H Q => ∃ v, σ[i]? = some (some v) ∧ Q v H
noncomputable def tC (v : V) : TE := fun _ H Q => Q v H
theorem pe_var {i : Nat} {x : Str} {pos : Pos} (hN : X.N[i]? = some x) (hv : Vis X.env.scope x) (hd : (x == ("__debug__" : Str)) = false := by decide) (hcd : (x == ("__classdict__" : Str)) = false := by decide) : PE X (.Name x pos) (tVar i) := by
  intro pins s σ H Q I h
  obtain ⟨v, e, h⟩ := h
  obtain ⟨m, hn, hl⟩ := I.loc
  obtain ⟨u, r, l⟩ := hl i x v hN e hv
  have fin : EP X pins σ Q u s := ⟨v, H, I, r, h⟩
  rcases l with ⟨hk, hm⟩ | ⟨hk, c, hc, hcell⟩
  · exact wpAny_Name (wpAny_loadName_local I.ok.kind hk hn hm fin) hd
  · rcases hk with hk | hk
    · exact wpAny_Name (wpAny_loadName_cell I.ok.kind hk hc hcell fin) hd
    · exact wpAny_Name (wpAny_loadName_free I.ok.kind hk hc hcell fin hcd) hd
theorem pe_int {i j pos} : PE X (.Constant (.int i) j pos) (tC (.int i)) := fun _ _ _ H _ I h => wpAny_Constant_int ⟨.int i, H, I.tok _, ⟨_, rfl⟩, h⟩
theorem pe_bl {b j pos} : PE X (.Constant (.bool b) j pos) (tC (.bl b)) := fun _ _ _ H _ I h => Constant_bool ⟨.bl b, H, I, rfl, h⟩
theorem pe_non {j pos} : PE X (.Constant .none j pos) (tC .non) := fun _ _ _ H _ I h => Constant_none ⟨.non, H, I, rfl, h⟩
theorem pe_str {x j pos} : PE X (.Constant (.str x) j pos) (tC (.str x)) := fun _ _ _ H _ I h => Calls.Constant_str ⟨.str x, H, I.tok _, ⟨_, rfl⟩, h⟩

/-- a global name of the def -/
noncomputable def Gl (X : Cx) (x : Str) : Prop := X.env.kindOf x = some .globalImplicit
theorem ld_glob {E : Value → Shared → Prop} {pins : List (Addr × Obj)} {s : Shared} {σ : St} {H : Hp} {x : Str} {u : Value} {pos : Pos} {Q : Value → Shared → Prop} (I : Inv X pins σ H s) (hg : Gl X x) (hm : X.mg x = some u) (h : Q u s)
    (hd : (x == ("__debug__" : Str)) = false := by decide) : wpAny (model X.prog X.w) X.A (eval (.Name x pos) X.env) Q E s :=
  Calls.Name_function_global I.ok.kind hg (Calls.loadGlobal_global (by rw [I.ok.glob]; exact I.mod.glob.keeps I.bk) hm h) hd
theorem ld_blt {E : Value → Shared → Prop} {pins : List (Addr × Obj)} {s : Shared} {σ : St} {H : Hp} {x : Str} {u : Value} {pos : Pos} {Q : Value → Shared → Prop} (I : Inv X pins σ H s) (hg : Gl X x) (hm : X.mg x = none) (hv : bootBuiltins x = some u) (h : Q u s)
    (hn : x ≠ "__name__" := by decide) (hd : (x == ("__debug__" : Str)) = false := by decide) : wpAny (model X.prog X.w) X.A (eval (.Name x pos) X.env) Q E s := by
  obtain ⟨mb, h1, h2⟩ := I.mod.blt
  exact Calls.Name_function_global I.ok.kind hg (Calls.loadGlobal_builtin (by rw [I.ok.glob]; exact I.mod.glob.keeps I.bk) hm (by rw [I.ok.blt]; exact h1.keeps I.bk) ((h2 x hn).trans hv) h) hd
/-- a module's constant, a class, a function, as a value -/
theorem pe_glob {x : Str} {v : V} {u : Value} {pos : Pos} (hg : Gl X x) (hm : X.mg x = some u) (r : RelV v u) (hd : (x == ("__debug__" : Str)) = false := by decide) : PE X (.Name x pos) (tC v) :=
  fun _ _ _ H _ I h => ld_glob I hg hm ⟨v, H, I, r, h⟩ hd
theorem pe_bltn {x : Str} {v : V} {u : Value} {pos : Pos} (hg : Gl X x) (hm : X.mg x = none) (hv : bootBuiltins x = some u) (r : RelV v u) (hn : x ≠ "__name__" := by decide) (hd : (x == ("__debug__" : Str)) = false := by decide) : PE X (.Name x pos) (tC v) :=
  fun _ _ _ H _ I h => ld_blt I hg hm hv ⟨v, H, I, r, h⟩ hn hd

/-! ### arithmetic -/
variable {a b : Expr} {ta tb : TE} {pos : Pos}
/-! ### comparisons -/
noncomputable def PC (X : Cx) (op : CmpOp) (a b : Expr) (t : TE) : Prop :=
  ∀ (pins : List (Addr × Obj)) (s : Shared) (σ : St) (H : Hp) (Q : VK), Inv X pins σ H s → t σ H Q →
    wpAny (model X.prog X.w) X.A (eval a X.env) (fun v s₁ => wpAny (model X.prog X.w) X.A (eval b X.env) (fun u s₂ => wpAny (model X.prog X.w) X.A (compareOp op v u) (EP X pins σ Q) X.xe s₂) X.xe s₁) X.xe s
theorem nobehind (b : Expr) {op : CmpOp} (h : op ≠ .In) (h2 : op ≠ .NotIn) : behindInMarks op b = false := by
  have e1 : (op == CmpOp.In) = false := by cases op <;> first | rfl | exact absurd rfl h
  have e2 : (op == CmpOp.NotIn) = false := by cases op <;> first | rfl | exact absurd rfl h2
  cases b <;> simp [behindInMarks, e1, e2]
/-- a comparison as a value, as a test -/
noncomputable def tB (t : TE) : TT := fun σ H Q => t σ H fun x H1 => ∃ c, x = .bl c ∧ Q c H1
theorem pt_cmp {op : CmpOp} {t : TE} (h : PC X op a b t) (h1 : behindInMarks op b = false := by first | exact nobehind _ (by decide) (by decide) | rfl) : PT X (.Compare a [op] [b] pos) (tB t) := by
  intro pins s σ H Q I hw
  refine wpAny_isTrue_Compare1 (thn (h pins s σ H _ I hw) fun v s1 h1 => thn h1 fun u s2 h2 => thn h2 fun c s3 ⟨x, H1, I1, r1, q1⟩ => ?_) h1
  obtain ⟨d, rfl, q⟩ := q1
  cases r1
  exact wpAny_truthy_bool ⟨H1, I1, q⟩
/-- an expression whose value is a bool, as a test -/
theorem pt_val {e : Expr} {t : TE} (h : PE X e t) (he : ∀ whole, isTrue e X.env whole = (do let v ← whole; standAt e.pos; holding [v] (truthy v)) := by intro _; rfl) : PT X e (tB t) := by
  intro pins s σ H Q I hw
  refine isTrue_plain (thn (h pins s σ H _ I hw) fun v s1 ⟨x, H1, I1, r1, q1⟩ => ?_) (he _)
  obtain ⟨d, rfl, q⟩ := q1
  cases r1
  exact wpAny_truthy_bool ⟨H1, I1, q⟩

/-! ### and, or, not -/
variable {tA tB' : TT} {rest : List Expr}
noncomputable def tAnd (t u : TT) : TT := fun σ H Q => t σ H fun c H1 => if c = true then u σ H1 Q else Q false H1
noncomputable def tOr (t u : TT) : TT := fun σ H Q => t σ H fun c H1 => if c = true then Q true H1 else u σ H1 Q
noncomputable def tNot (t : TT) : TT := fun σ H Q => t σ H fun c H1 => Q (!c) H1
theorem pw_and1 (ha : PT X a tA) : PW X (.BoolOp .And [a] pos) tA := by
  intro wh pins s σ H Q I h
  refine isTrue_and (thn (ha pins s σ H Q I h) fun c s1 e => ?_)
  cases c with
  | true => exact isTrue_and_nil e
  | false => exact e
theorem pw_or1 (ha : PT X a tA) : PW X (.BoolOp .Or [a] pos) tA := by
  intro wh pins s σ H Q I h
  refine isTrue_or (thn (ha pins s σ H Q I h) fun c s1 e => ?_)
  cases c with
  | false => exact isTrue_or_nil e
  | true => exact e
theorem pw_and (ha : PT X a tA) (hb : PW X (.BoolOp .And (b :: rest) pos) tB') : PW X (.BoolOp .And (a :: b :: rest) pos) (tAnd tA tB') := by
  intro wh pins s σ H Q I h
  refine isTrue_and (thn (ha pins s σ H _ I h) fun c s1 ⟨H1, I1, q1⟩ => ?_)
  cases c with
  | true => exact hb wh pins s1 σ H1 Q I1 q1
  | false => exact ⟨H1, I1, q1⟩
theorem pw_or (ha : PT X a tA) (hb : PW X (.BoolOp .Or (b :: rest) pos) tB') : PW X (.BoolOp .Or (a :: b :: rest) pos) (tOr tA tB') := by
  intro wh pins s σ H Q I h
  refine isTrue_or (thn (ha pins s σ H _ I h) fun c s1 ⟨H1, I1, q1⟩ => ?_)
  cases c with
  | true => exact ⟨H1, I1, q1⟩
  | false => exact hb wh pins s1 σ H1 Q I1 q1
theorem pt_not (ha : PT X a tA) : PT X (.UnaryOp .Not a pos) (tNot tA) := by
  intro pins s σ H Q I h
  exact isTrue_not (ha pins s σ H (fun c H1 => Q (!c) H1) I h)
/-- .. as values (bools) -/
noncomputable def tAndV (ta tb : TE) : TE := fun σ H Q => ta σ H fun x H1 => ∃ c, x = .bl c ∧ if c = true then tb σ H1 Q else Q (.bl false) H1
noncomputable def tOrV (ta tb : TE) : TE := fun σ H Q => ta σ H fun x H1 => ∃ c, x = .bl c ∧ if c = true then Q (.bl true) H1 else tb σ H1 Q
noncomputable def tNotV (ta : TE) : TE := fun σ H Q => ta σ H fun x H1 => ∃ c, x = .bl c ∧ Q (.bl (!c)) H1
theorem pe_one {op} {t : TE} (h : PE X a t) : PE X (.BoolOp op [a] pos) t := fun pins s σ H Q I hw => BoolOp_one (h pins s σ H Q I hw)
theorem pe_and (ha : PE X a ta) (hb : PE X (.BoolOp .And (b :: rest) pos) tb) : PE X (.BoolOp .And (a :: b :: rest) pos) (tAndV ta tb) := by
  intro pins s σ H Q I h
  refine BoolOp_and (thn (ha pins s σ H _ I h) fun v s1 ⟨x, H1, I1, r1, q1⟩ => ?_)
  obtain ⟨c, rfl, q1⟩ := q1
  cases r1
  refine wpAny_truthy_bool ?_
  cases c with
  | true => exact hb pins s1 σ H1 Q I1 q1
  | false => exact ⟨.bl false, H1, I1, rfl, q1⟩
/-- a if t else b -/
noncomputable def tIf (t : TT) (ta tb : TE) : TE := fun σ H Q => t σ H fun c H1 => if c = true then ta σ H1 Q else tb σ H1 Q
theorem pe_ifExp {c : Expr} (hc : PT X c tA) (ha : PE X a ta) (hb : PE X b tb) : PE X (.IfExp c a b pos) (tIf tA ta tb) := by
  intro pins s σ H Q I h
  refine wpAny_IfExp (thn (hc pins s σ H _ I h) fun d s1 ⟨H1, I1, q1⟩ => ?_)
  cases d with
  | true => exact ha pins s1 σ H1 Q I1 q1
  | false => exact hb pins s1 σ H1 Q I1 q1
end
end L2

namespace L2
open PySem PySem.Spec PyProof.Rows

/-! ### a list, a tuple that is read: tracked, frozen, or an object of the module -/
noncomputable def SqL (K : PySem.W.Frag) (H : Hp) (a : Addr) (xs : List V) : Prop :=
  Rd H a (.lst xs) ∨
    ∃ (o : Obj) (its : Array Value) (n : Nat), K.lookup a = some o ∧ o.cls = .type "list" ∧ o.dict = none ∧ o.data = .seq its n ∧ its.size ≤ sizeLine ∧ Vals xs its.toList
noncomputable def SqT (K : PySem.W.Frag) (H : Hp) (a : Addr) (xs : List V) : Prop :=
  Rd H a (.tup xs) ∨
    ∃ (o : Obj) (its : Array Value) (n : Nat), K.lookup a = some o ∧ o.cls = .type "tuple" ∧ o.data = .seq its n ∧ its.size ≤ sizeLine ∧ Vals xs its.toList
noncomputable def absV : Value → Option V
  | .none => some .non
  | .bool b => some (.bl b)
  | .int i _ => some (.int i)
  | .str x _ => some (.str x)
  | .bytes b _ => some (.byt b)
  | .float b _ => some (.flt b)
  | .ref a => some (.ref a)
  | .type n => some (.ty n)
  | _ => none
theorem RelV.abs {x : V} {u : Value} (r : RelV x u) : absV u = some x := by
  cases x with
  | non => cases r; rfl
  | bl _ => cases r; rfl
  | int _ => obtain ⟨t, rfl⟩ := r; rfl
  | str _ => obtain ⟨t, rfl⟩ := r; rfl
  | byt _ => obtain ⟨t, rfl⟩ := r; rfl
  | flt _ => obtain ⟨t, rfl⟩ := r; rfl
  | ref _ => cases r; rfl
  | ty _ => cases r; rfl
theorem RelV.inj {x y : V} {u : Value} (r : RelV x u) (q : RelV y u) : x = y := Option.some.inj (r.abs.symm.trans q.abs)
theorem Vals.inj {xs ys : List V} {us : List Value} (h : Vals xs us) (g : Vals ys us) : xs = ys := by
  induction h generalizing ys with
  | nil => cases g; rfl
  | cons r t ih =>
    cases g with
    | cons r' t' => rw [r.inj r', ih t']
section
variable {X : Cx} {pins : List (Addr × Obj)} {σ : St} {H : Hp} {s : Shared} {a : Addr} {xs ys : List V}
theorem SqL.of {K : PySem.W.Frag} (h : H a = some (.lst xs)) : SqL K H a xs := .inl (.inl h)
theorem SqT.of {K : PySem.W.Frag} (h : H a = some (.tup xs)) : SqT K H a xs := .inl (.inl h)
theorem Inv.list (I : Inv X pins σ H s) (h : SqL X.K H a xs) : ∃ its : List Value, Vals xs its ∧ PlainL s.heap a its.toArray ∧ xs.length ≤ sizeLine := by
  rcases h with h | ⟨o, its, n, hk, hc, hd, hs, hz, r⟩
  · obtain ⟨z, its, n, r, e⟩ := h.ok I.hok
    exact ⟨its, r, ⟨_, n, e, rfl, rfl, rfl⟩, z⟩
  · refine ⟨its.toList, r, ⟨o, n, I.kIn a o hk, hc, hd, by simpa using hs⟩, ?_⟩
    have e := r.length
    simp only [Array.length_toList] at e
    omega
theorem Inv.tuple (I : Inv X pins σ H s) (h : SqT X.K H a xs) : ∃ its : List Value, Vals xs its ∧ IsTup s.heap a its.toArray ∧ xs.length ≤ sizeLine := by
  rcases h with h | ⟨o, its, n, hk, hc, hs, hz, r⟩
  · obtain ⟨z, its, r, p⟩ := h.ok I.hok
    exact ⟨its, r, p, z⟩
  · refine ⟨its.toList, r, ⟨o, I.kIn a o hk, hc, n, by simpa using hs⟩, ?_⟩
    have e := r.length
    simp only [Array.length_toList] at e
    omega
theorem Inv.list_inj (I : Inv X pins σ H s) (h : SqL X.K H a xs) (h' : SqL X.K H a ys) : xs = ys := by
  obtain ⟨its, r, ⟨o, n, e, _, _, d⟩, _⟩ := I.list h
  obtain ⟨its', r', ⟨o', n', e', _, _, d'⟩, _⟩ := I.list h'
  rw [e] at e'; cases e'
  rw [d] at d'
  injection d' with d1 _
  have : its = its' := by simpa using congrArg Array.toList d1
  subst this
  exact r.inj r'
end

/-! ### another wish about exceptions -/
noncomputable abbrev Cx.wish (X : Cx) (E : Value → Shared → Prop) : Cx := { X with xe := E }
/-- no exception leaves -/
noncomputable abbrev Cx.nox (X : Cx) : Cx := X.wish fun _ _ => False
theorem Cx.Ok.wish {X : Cx} (ok : X.Ok) (E : Value → Shared → Prop) : (X.wish E).Ok :=
  ⟨ok.mod, ok.kind, ok.glob, ok.blt, ok.above, ok.inj, ok.has, ok.cab, ok.hd, ok.frames, ok.stk, ok.exf, ok.bs, ok.bsz, ok.noex, ok.exfs, ok.funs, ok.frf⟩
theorem Cx.Ok.unwish {X : Cx} {E : Value → Shared → Prop} (ok : (X.wish E).Ok) : X.Ok :=
  ⟨ok.mod, ok.kind, ok.glob, ok.blt, ok.above, ok.inj, ok.has, ok.cab, ok.hd, ok.frames, ok.stk, ok.exf, ok.bs, ok.bsz, ok.noex, ok.exfs, ok.funs, ok.frf⟩
section
variable {X : Cx} {pins : List (Addr × Obj)} {σ : St} {H : Hp} {s : Shared} {E : Value → Shared → Prop}
theorem Inv.wish (I : Inv X pins σ H s) (E : Value → Shared → Prop) : Inv (X.wish E) pins σ H s := ⟨I.ok.wish E, I.os, I.bare, I.base, I.loc, I.cell, I.free, I.freeC, I.pin, I.hok, I.len⟩
theorem Inv.unwish (I : Inv (X.wish E) pins σ H s) : Inv X pins σ H s := ⟨I.ok.unwish, I.os, I.bare, I.base, I.loc, I.cell, I.free, I.freeC, I.pin, I.hok, I.len⟩
theorem SP.unwish {D : Ends} {f : Flow} {s' : Shared} (h : SP (X.wish E) pins D f s') : SP X pins D f s' := by
  cases f with
  | next => obtain ⟨σ', H', I, q⟩ := h; exact ⟨σ', H', I.unwish, q⟩
  | brk => obtain ⟨σ', H', I, q⟩ := h; exact ⟨σ', H', I.unwish, q⟩
  | cont => obtain ⟨σ', H', I, q⟩ := h; exact ⟨σ', H', I.unwish, q⟩
  | ret u => obtain ⟨v, σ', H', I, r, q⟩ := h; exact ⟨v, σ', H', I.unwish, r, q⟩
theorem PE.nox {e : Expr} {t : TE} (h : PE X.nox e t) : PE X e t := fun pins s σ H Q I hw =>
  wpAny_mono (h pins s σ H Q (I.wish _) hw) (fun _ _ ⟨v, H', I', r, q⟩ => ⟨v, H', I'.unwish, r, q⟩) fun _ _ z => False.elim z
theorem PT.nox {e : Expr} {t : TT} (h : PT X.nox e t) : PT X e t := fun pins s σ H Q I hw =>
  wpAny_mono (h pins s σ H Q (I.wish _) hw) (fun _ _ ⟨H', I', q⟩ => ⟨H', I'.unwish, q⟩) fun _ _ z => False.elim z
theorem PSs.nox {st : List Stmt} {t : TS} (h : PSs X.nox st t) : PSs X st t := fun pins s σ H D I hw =>
  wpAny_mono (h pins s σ H D (I.wish _) hw) (fun _ _ q => q.unwish) fun _ _ z => False.elim z
end

/-! ### blocks and small statements -/
section
variable {X : Cx} {st : Stmt} {rest : List Stmt} {t u : TS} {e : Expr} {te : TE} {pos : Pos}
noncomputable def tNext : TS := fun D σ H => D.nx σ H
noncomputable def tSeq (t u : TS) : TS := fun D σ H => t { D with nx := u D } σ H
theorem pss_nil : PSs X [] tNext := fun _ _ σ H _ I h => wpAny_execs_nil ⟨σ, H, I, h⟩
theorem pss_cons (h1 : PS X st t) (h2 : PSs X rest u) : PSs X (st :: rest) (tSeq t u) := by
  intro pins s σ H D I h
  refine wpAny_execs_cons (thn (h1 pins s σ H { D with nx := u D } I h) fun f s1 q => ?_)
  cases f with
  | next =>
    obtain ⟨σ', H', I', q⟩ := q
    exact h2 pins s1 σ' H' D I' q
  | ret v => exact q
  | brk => exact q
  | cont => exact q
theorem pss_one (h1 : PS X st t) : PSs X [st] t := by
  intro pins s σ H D I h
  refine wpAny_execs_cons (thn (h1 pins s σ H D I h) fun f s1 q => ?_)
  cases f with
  | next => exact wpAny_execs_nil q
  | ret v => exact q
  | brk => exact q
  | cont => exact q
noncomputable def tBreak : TS := fun D σ H => D.bk σ H
noncomputable def tCont : TS := fun D σ H => D.ct σ H
/-- in a def's body nothing is shown -/
theorem Inv.quiet {pins : List (Addr × Obj)} {σ : St} {H : Hp} {s : Shared} (I : Inv X pins σ H s) : interactive X.env = false := by simp [interactive, I.ok.kind]
/-- an expression whose value is dropped -/
noncomputable def tDrop (te : TE) : TS := fun D σ H => te σ H fun _ H1 => D.nx σ H1
theorem ps_expr (he : PE X e te) (hs : swapsWith e none pos.line X.env = pure false := by rfl) : PS X (.Expr e pos) (tDrop te) := by
  intro pins s σ H D I h
  exact wpAny_Expr_any (thn (he pins s σ H _ I h) fun v s1 ⟨x, H1, I1, r1, q1⟩ => ⟨σ, H1, I1, q1⟩) I.quiet hs
noncomputable def tRet (te : TE) : TS := fun D σ H => te σ H D.rt
theorem ps_ret (he : PE X e te) : PS X (.Return (some e) pos) (tRet te) := by
  intro pins s σ H D I h
  exact wpAny_Return_some (thn (he pins s σ H _ I h) fun v s1 ⟨x, H1, I1, r1, q1⟩ => ⟨x, σ, H1, I1, r1, q1⟩)
noncomputable def tRetN : TS := fun D _ H => D.rt .non H
noncomputable def tIfS (c : TT) (t u : TS) : TS := fun D σ H => c σ H fun b H1 => if b = true then t D σ H1 else u D σ H1
theorem ps_if {c : Expr} {a b : List Stmt} {tc : TT} (hc : PT X c tc) (ha : PSs X a t) (hb : PSs X b u) : PS X (.If c a b pos) (tIfS tc t u) := by
  intro pins s σ H D I h
  refine wpAny_If (thn (hc pins s σ H _ I h) fun d s1 ⟨H1, I1, q1⟩ => ?_)
  cases d with
  | true => exact ha pins s1 σ H1 D I1 q1
  | false => exact hb pins s1 σ H1 D I1 q1
/-- code that the proof never comes to -/
noncomputable def tNever : TS := fun _ _ _ => False
end

/-! ### targets -/
noncomputable abbrev TG := V → St → Hp → (St → Hp → Prop) → Prop
noncomputable abbrev TGs := List V → St → Hp → (St → Hp → Prop) → Prop
noncomputable def PG (X : Cx) (target : Expr) (t : TG) : Prop :=
  ∀ (pins : List (Addr × Obj)) (s : Shared) (σ : St) (H : Hp) (v : V) (u : Value) (Q : St → Hp → Prop), Inv X pins σ H s → RelV v u → t v σ H Q →
    wpAny (model X.prog X.w) X.A (assign target X.env u) (fun _ s' => ∃ σ' H', Inv X pins σ' H' s' ∧ Q σ' H') X.xe s
/-- several targets, one after another -/
noncomputable def PGs (X : Cx) (ts : List Expr) (t : TGs) : Prop :=
  ∀ (pins : List (Addr × Obj)) (s : Shared) (σ : St) (H : Hp) (vs : List V) (us : List Value) (Q : St → Hp → Prop), Inv X pins σ H s → Vals vs us → t vs σ H Q →
    wpAny (model X.prog X.w) X.A (assignInOrder ((assignEach ts X.env).map (·.2)) us) (fun _ s' => ∃ σ' H', Inv X pins σ' H' s' ∧ Q σ' H') X.xe s
/-- o[i] = v, by values -/
noncomputable abbrev TSet := V → V → V → Hp → (Hp → Prop) → Prop
noncomputable def PSet (X : Cx) (t : TSet) : Prop :=
  ∀ (pins : List (Addr × Obj)) (s : Shared) (σ : St) (H : Hp) (o i v : V) (ov iv u : Value) (Q : Hp → Prop), Inv X pins σ H s → RelV o ov → RelV i iv → RelV v u → t o i v H Q →
    wpAny (model X.prog X.w) X.A (setItem ov iv u) (fun _ s' => ∃ H', Inv X pins σ H' s' ∧ Q H') X.xe s
/-- a op= b, by values -/
noncomputable abbrev TIp := V → V → Hp → VK → Prop
section
variable {X : Cx} {pos : Pos}
noncomputable def gName (i : Nat) : TG := fun v σ H Q => Q (σ.set i (some v)) H
theorem pg_name {i : Nat} {x : Str} (hN : X.N.Nodup) (hi : X.N[i]? = some x) (hx : Loc X.env.scope x) (hf : X.fn x = true ∨ X.env.scope.names.lookup x = some .local := by first | exact .inl rfl | exact .inr rfl | assumption) : PG X (.Name x pos) (gName i) := by
  intro pins s σ H v u Q I r h
  exact wpAny_assign_Name (store_ok I hN hi hx r (fun s' I' => ⟨_, H, I', h⟩) hf)
noncomputable def gNil : TGs := fun vs σ H Q => vs = [] ∧ Q σ H
noncomputable def gCons (t : TG) (u : TGs) : TGs := fun vs σ H Q => ∃ v r, vs = v :: r ∧ t v σ H fun σ' H' => u r σ' H' Q
/-- (a, b, ..) = a tuple of that length -/
noncomputable def gTup (K : PySem.W.Frag) (n : Nat) (t : TGs) : TG := fun v σ H Q => ∃ a xs, v = .ref a ∧ SqT K H a xs ∧ xs.length = n ∧ t xs σ H Q
/-- o[i] = .. -/
noncomputable def gSub (to ti : TE) (t : TSet) : TG := fun v σ H Q => to σ H fun o H1 => ti σ H1 fun i H2 => t o i v H2 fun H3 => Q σ H3
theorem pg_sub {o i : Expr} {to ti : TE} {t : TSet} (ho : PE X o to) (hi : PE X i ti) (hs : PSet X t)
    (ha : ∀ v, assign (.Subscript o i pos) X.env v = (do
      let ov ← holding [v] (eval o X.env)
      let iv ← holding [v, ov] (eval i X.env)
      standAt pos
      holding [v, ov, iv] (setItem ov iv v)
      release [v, ov, iv] []) := by intro _; rfl) : PG X (.Subscript o i pos) (gSub to ti t) := by
  intro pins s σ H v u Q I r h
  rw [ha]
  refine wpAny_bind (wpAny_holding (thn (ho pins s σ H _ I h) fun ov s1 ⟨x, H1, I1, r1, q1⟩ => ?_))
  refine wpAny_bind (wpAny_holding (thn (hi pins s1 σ H1 _ I1 q1) fun iv s2 ⟨y, H2, I2, r2, q2⟩ => ?_))
  refine wpAny_bind (wpAny_standAt (wpAny_bind (wpAny_holding (thn (hs pins s2 σ H2 x y v ov iv u _ I2 r1 r2 r q2) fun _ s3 ⟨H3, I3, q3⟩ => ?_))))
  exact wpAny_release ⟨σ, H3, I3, q3⟩
/-- target = value -/
noncomputable def tAsg (te : TE) (g : TG) : TS := fun D σ H => te σ H fun x H1 => g x σ H1 D.nx
theorem ps_asg {tg e : Expr} {te : TE} {g : TG} (he : PE X e te) (hg : PG X tg g) (hs : swapsWithSole [tg] e pos.line X.env = pure false := by rfl) (hw : swappedStores [tg] e X.env = pure none := by rfl)
    (h1 : (assignEach [tg] X.env).map (·.2) = [assign tg X.env] := by rfl) : PS X (.Assign [tg] e pos) (tAsg te g) := by
  intro pins s σ H D I h
  refine wpAny_Assign_stores (thn (he pins s σ H _ I h) fun v s1 ⟨x, H1, I1, r1, q1⟩ => ?_) hs hw
  rw [h1]
  exact thn (hg pins s1 σ H1 x v _ I1 r1 q1) fun _ s2 q => q
/-- name = value -/
theorem ps_set {i : Nat} {x : Str} {e : Expr} {te : TE} {pos' : Pos} (hN : X.N.Nodup) (hi : X.N[i]? = some x) (hx : Loc X.env.scope x) (he : PE X e te) (hs : swapsWith e (some (.Name x pos')) pos.line X.env = pure false := by rfl) (hf : X.fn x = true ∨ X.env.scope.names.lookup x = some .local := by first | exact .inl rfl | exact .inr rfl | assumption) :
    PS X (.Assign [.Name x pos'] e pos) (tAsg te (gName i)) := by
  intro pins s σ H D I h
  refine wpAny_Assign_Name (thn (he pins s σ H _ I h) fun v s1 ⟨y, H1, I1, r1, q1⟩ => ?_) hs
  exact store_ok I1 hN hi hx r1 (fun s2 I2 => ⟨_, H1, I2, q1⟩) hf
/-- name op= e -/
noncomputable def tAug (i : Nat) (te : TE) (ti : TIp) : TS := fun D σ H => ∃ x, σ[i]? = some (some x) ∧ te σ H fun y H1 => ti x y H1 fun z H2 => D.nx (σ.set i (some z)) H2
/-- o[i] op= e -/
noncomputable def tAugS (to ti te : TE) (tget : V → V → Hp → VK → Prop) (tip : TIp) (tset : TSet) : TS := fun D σ H => to σ H fun o H1 => ti σ H1 fun i H2 => tget o i H2 fun x H3 => te σ H3 fun y H4 => tip x y H4 fun z H5 => tset o i z H5 fun H6 => D.nx σ H6
end

/-! ### while -/
section
variable {X : Cx} {pos : Pos}
end

/-! ### what a loop or a comprehension walks -/
/-- at turn i: it yields x (the heap may grow), or it stops -/
structure It where
  go : Nat → Hp → Prop
  yld : Nat → Hp → V → Hp → Prop
  stop : Nat → Hp → Prop
/-- the iterator's own objects may turn: they are not the frame's, not pinned, younger than the entry (or a comprehension's own) -/
noncomputable def FpOk (X : Cx) (pins : List (Addr × Obj)) (H : Hp) (b : Addr) : Prop :=
  H b = none ∧ b ≠ X.env.locals ∧ b ∉ X.fs ∧ (b ∈ X.ex ∨ X.s₀.heap.objs.size ≤ b) ∧ (∀ x c, X.env.cells.lookup x = some c → c ≠ b) ∧ ∀ p ∈ X.pn ++ pins, p.1 ≠ b
theorem Inv.fpOk {X : Cx} {pins : List (Addr × Obj)} {σ : St} {H H' : Hp} {s : Shared} {b : Addr} (I : Inv X pins σ H s) (hb : s.heap.objs.size ≤ b) (hn : H' b = none) : FpOk X pins H' b := by
  refine ⟨hn, Nat.ne_of_gt (Nat.lt_of_lt_of_le I.lt hb), I.nofs hb, .inr (Nat.le_trans I.sz hb), fun x c e z => ?_, fun p hp z => ?_⟩
  · obtain ⟨v, q⟩ := I.cell x c e
    exact absurd (Nat.lt_of_lt_of_le q.lt (by rw [z]; exact hb)) (Nat.lt_irrefl _)
  · exact absurd (Nat.lt_of_lt_of_le (Heap.lt_size (I.pin p hp).1) (by rw [z]; exact hb)) (Nat.lt_irrefl _)
structure Turn (P : Program) (w : World) (K : PySem.W.Frag) (tg : Expr) (J : It) (fp : List Addr) (it : Addr) (tn : Nat → Heap → Prop) : Prop where
  mem : it ∈ fp
  obj : ∀ i h, tn i h → ∀ b ∈ fp, ∃ o, h.get? b = some o ∧ ∀ v, o.data ≠ .cell v
  keep : ∀ i h h', tn i h → (∀ b ∈ fp, ∀ o, h.get? b = some o → h'.get? b = some o) → tn i h'
  item : ∀ (X : Cx), X.prog = P → X.w = w → X.K = K → X.calm = true → ∀ (i : Nat) (pins : List (Addr × Obj)) (s : Shared) (σ : St) (H : Hp) (E : Value → Shared → Prop), Inv X pins σ H s → (∀ b ∈ fp, FpOk X pins H b) → tn i s.heap → J.go i H →
    wpAny (model P w) X.A (pyNext (.ref it)) (fun r s1 => ∃ u, r = some u ∧
      wpAny (model P w) X.A (letOwnedTupleGo tg (.ref it) u) (fun _ s2 => ∃ x H', Inv X pins σ H' s2 ∧ RelV x u ∧ J.yld i H x H' ∧ tn (i + 1) s2.heap ∧ ∀ b ∈ fp, H' b = none) E s1) E s
  done : ∀ (X : Cx), X.prog = P → X.w = w → X.K = K → X.calm = true → ∀ (i : Nat) (pins : List (Addr × Obj)) (s : Shared) (σ : St) (H : Hp) (E : Value → Shared → Prop), Inv X pins σ H s → (∀ b ∈ fp, FpOk X pins H b) → tn i s.heap → J.stop i H →
    wpAny (model P w) X.A (pyNext (.ref it)) (fun r s1 => r = none ∧ Inv X pins σ H s1) E s
  self : ∀ (A : Around) (i : Nat) (s : Shared) (Q : Value → Shared → Prop) (E : Value → Shared → Prop), tn i s.heap → Q (.ref it) s → wpAny (model P w) A (pyIter (.ref it)) Q E s
noncomputable abbrev TI := St → Hp → (It → Hp → Prop) → Prop
/-- an iterator has come -/
noncomputable def PIE (X : Cx) (pins : List (Addr × Obj)) (σ : St) (tg : Expr) (R : It → Hp → Prop) (itv : Value) (s2 : Shared) : Prop :=
  ∃ (it : Addr) (fp : List Addr) (tn : Nat → Heap → Prop) (J : It) (H' : Hp), itv = .ref it ∧ Inv X pins σ H' s2 ∧ Turn X.prog X.w X.K tg J fp it tn ∧ tn 0 s2.heap ∧ (∀ b ∈ fp, FpOk X pins H' b) ∧ R J H'
noncomputable def PI (X : Cx) (tg iter : Expr) (wi : TI) : Prop :=
  ∀ (pins : List (Addr × Obj)) (s : Shared) (σ : St) (H : Hp) (R : It → Hp → Prop), Inv X pins σ H s → wi σ H R →
    wpAny (model X.prog X.w) X.A (eval iter X.env) (fun v s1 => wpAny (model X.prog X.w) X.A (pyIter v) (PIE X pins σ tg R) X.xe s1) X.xe s

/-- the step ahead of the store is nothing for an iterator that keeps no tuple -/
theorem go_of {M : Model} {A : Around} {E : Value → Shared → Prop} {s : Shared} {tg : Expr} {it : Addr} {u : Value} {o : Obj} {n : String} {vs : Array Value} {Q : Unit → Shared → Prop} (ho : s.heap.get? it = some o) (hc : o.cls = .type n) (hd : o.data = .fields vs)
    (hn : ["enumerate", "zip", "dict_itemiterator", "dict_reverseitemiterator", "odict_iterator", "itertools.zip_longest", "itertools.pairwise"].contains n = false) (hQ : Q () s) : wpAny M A (letOwnedTupleGo tg (.ref it) u) Q E s := by
  unfold letOwnedTupleGo
  cases tg <;> first
    | exact wpAny_pure hQ
    | (cases u <;> first
        | exact wpAny_pure hQ
        | (refine wpAny_bind (wpAny_load ho ?_)
           rw [hc, hd]
           show wpAny M A (if (["enumerate", "zip", "dict_itemiterator", "dict_reverseitemiterator", "odict_iterator", "itertools.zip_longest", "itertools.pairwise"].contains n && vs[0]? == some (rawInt _)) = true then _ else _) Q E s
           rw [if_neg (by intro h; rw [hn, Bool.false_and] at h; cases h)]
           exact wpAny_pure hQ))

/-- the list at a, as it stands at each turn (a loop may append to it) -/
noncomputable def Itl (K : PySem.W.Frag) (a : Addr) : It :=
  ⟨fun i H => ∃ xs x, SqL K H a xs ∧ xs[i]? = some x, fun i H x H' => H' = H ∧ ∀ xs, SqL K H a xs → xs[i]? = some x, fun i H => ∃ xs, SqL K H a xs ∧ xs.length ≤ i⟩
noncomputable def Itt (K : PySem.W.Frag) (a : Addr) : It :=
  ⟨fun i H => ∃ xs x, SqT K H a xs ∧ xs[i]? = some x, fun i H x H' => H' = H ∧ ∀ xs, SqT K H a xs → xs[i]? = some x, fun i H => ∃ xs, SqT K H a xs ∧ xs.length ≤ i⟩
/-- lo, lo + 1, .. (n of them) -/
noncomputable def Itr (lo : Int) (n : Nat) : It := ⟨fun i _ => i < n, fun i H x H' => H' = H ∧ x = .int (lo + i), fun i _ => n ≤ i⟩
theorem turn_list {P : Program} {w : World} {K : PySem.W.Frag} {tg : Expr} (a it : Addr) : Turn P w K tg (Itl K a) [it] it (fun i h => h.IsListIter it a i) where
  mem := by simp
  obj := fun i h st b hb => by
    have e : b = it := by simpa using hb
    subst e
    obtain ⟨o, e, c, d⟩ := st
    exact ⟨o, e, fun v z => by rw [d] at z; cases z⟩
  keep := fun i h h' st k => st.at fun o e => k it (by simp) o e
  item := by
    intro X hP hw hK hc i pins s σ H E I hf st hg
    subst hP hw hK
    obtain ⟨xs, x, hq, hx⟩ := hg
    obtain ⟨its, rv, p, hz⟩ := I.list hq
    obtain ⟨u, hu, ru⟩ := rv.get hx
    obtain ⟨f0, f1, f2, f3, f4, f5⟩ := hf it (by simp)
    refine wpAny_pyNext_list_item st p.isList (x := u) (by simpa using hu) fun h' st' sb => ?_
    have I1 : Inv X pins σ H { s with heap := h' } := I.turned (t' := s.toks) (fun b o hb e => (sb.2 b hb).trans e) f0 f1 f3 f4 f5
    obtain ⟨o, e, c, d⟩ := id st'
    exact ⟨u, rfl, go_of (s := { s with heap := h' }) e c d (by decide) ⟨x, H, I1, ru, ⟨rfl, fun ys hy => by rw [I.list_inj hy hq]; exact hx⟩, st', fun b hb => (hf b hb).1⟩⟩
  done := by
    intro X hP hw hK hc i pins s σ H E I hf st hg
    subst hP hw hK
    obtain ⟨xs, hq, hx⟩ := hg
    obtain ⟨its, rv, p, hz⟩ := I.list hq
    obtain ⟨f0, f1, f2, f3, f4, f5⟩ := hf it (by simp)
    have hl := rv.length
    exact wpAny_pyNext_list_end (I.ok.hd hc) st p.isList (by simp; omega) fun h' eb => ⟨rfl, I.turned (t' := s.toks) (fun b o hb e => eb b o hb e) f0 f1 f3 f4 f5⟩
  self := fun _ _ _ _ _ st h => wpAny_pyIter_listiter st h
theorem turn_range {P : Program} {w : World} {K : PySem.W.Frag} {tg : Expr} (it : Addr) (lo : Int) (n : Nat) : Turn P w K tg (Itr lo n) [it] it (fun i h => IsRangeIter h it (lo + (i : Nat) * 1) ((n : Int) - (i : Nat)) 1) where
  mem := by simp
  obj := fun i h st b hb => by
    have e : b = it := by simpa using hb
    subst e
    exact ⟨_, st, fun v z => by
      have z' : Data.fields _ = Data.cell v := z
      cases z'⟩
  keep := fun i h h' st k => k it (by simp) _ st
  item := by
    intro X hP hw hK hc i pins s σ H E I hf st hg
    subst hP hw hK
    obtain ⟨f0, f1, f2, f3, f4, f5⟩ := hf it (by simp)
    have W := Walks.range (prog := X.prog) (w := X.w) (I.ok.hd hc) it lo 1 n
    refine W.item i s _ _ hg st fun v h' tk hv st' kk => ?_
    obtain ⟨t, rfl⟩ := hv
    have I1 : Inv X pins σ H { s with heap := h', toks := tk } := I.turned (fun b o hb e => kk b o (by simpa using hb) e) f0 f1 f3 f4 f5
    refine ⟨_, rfl, go_of (s := { s with heap := h', toks := tk }) (n := "range_iterator") st' rfl rfl (by decide) ⟨.int (lo + i), H, I1, ⟨t, ?_⟩, ⟨rfl, rfl⟩, st', fun b hb => (hf b hb).1⟩⟩
    rw [Int.mul_one]
  done := by
    intro X hP hw hK hc i pins s σ H E I hf st hg
    subst hP hw hK
    obtain ⟨f0, f1, f2, f3, f4, f5⟩ := hf it (by simp)
    exact wpAny_pyNext_range_end (I.ok.hd hc) st (by have : n ≤ i := hg; omega) fun h' eb => ⟨rfl, I.turned (t' := s.toks) (fun b o hb e => eb b o hb e) f0 f1 f3 f4 f5⟩
  self := fun _ _ _ _ _ st h => wpAny_pyIter_rangeiter st h
end L2

namespace L2
open PySem PySem.Spec PyProof.Rows
section
variable {X : Cx} {tg : Expr}
noncomputable def iList (K : PySem.W.Frag) (tl : TE) : TI := fun σ H R => tl σ H fun x H1 => ∃ a, x = .ref a ∧ (∃ xs, SqL K H1 a xs) ∧ R (Itl K a) H1
noncomputable def iTup (K : PySem.W.Frag) (tl : TE) : TI := fun σ H R => tl σ H fun x H1 => ∃ a, x = .ref a ∧ (∃ xs, SqT K H1 a xs) ∧ R (Itt K a) H1
theorem pi_list {l : Expr} {tl : TE} (hl : PE X l tl) : PI X tg l (iList X.K tl) := by
  intro pins s σ H R I h
  refine thn (hl pins s σ H _ I h) fun v s1 ⟨x, H1, I1, r1, q1⟩ => ?_
  obtain ⟨a, e, ⟨xs, hq⟩, q⟩ := q1
  subst e
  cases r1
  obtain ⟨its, rv, p, hz⟩ := I1.list hq
  refine wpAny_pyIter_list p.isList ?_
  refine ⟨s1.heap.objs.size, [s1.heap.objs.size], _, _, H1, rfl, I1.kept (t' := s1.toks) fun b o e => Heap.get?_push_of_some _ e, turn_list a _, ⟨_, Heap.get?_push_size _ rfl, rfl, rfl⟩, fun b hb => ?_, q⟩
  have e : b = s1.heap.objs.size := by simpa using hb
  subst e
  exact I1.fpOk (Nat.le_refl _) (I1.hok.fresh (Nat.le_refl _))
/-- a range object just made, walked -/
theorem range_it {pins : List (Addr × Obj)} {σ : St} {H : Hp} {s : Shared} {R : It → Hp → Prop} {E : Value → Shared → Prop} {lo hi : Int} {t u v : Tok} {tk : Nat} (I : Inv X pins σ H s) (h1 : -(2 ^ 62) ≤ lo) (h2 : lo < 2 ^ 62) (h3 : -(2 ^ 62) ≤ hi) (h4 : hi < 2 ^ 62)
    (q : R (Itr lo (hi - lo).toNat) H) : wpAny (model X.prog X.w) X.A (pyIter (.ref s.heap.objs.size)) (PIE X pins σ tg R) E { s with heap := s.heap.push { cls := .type "range", data := .fields #[.int lo t, .int hi u, .int 1 v] }, toks := tk } := by
  refine wpAny_pyIter_range (IsRange.new ..) (small_one h1 h2 h3 h4) ?_
  have I1 : Inv X pins σ H { s with heap := s.heap.push { cls := .type "range", data := .fields #[.int lo t, .int hi u, .int 1 v] }, toks := tk } := I.kept fun b o e => Heap.get?_push_of_some _ e
  refine ⟨(s.heap.push { cls := .type "range", data := .fields #[.int lo t, .int hi u, .int 1 v] }).objs.size, [(s.heap.push { cls := .type "range", data := .fields #[.int lo t, .int hi u, .int 1 v] }).objs.size], _, _, H, rfl,
    I1.kept (t' := tk) fun b o e => Heap.get?_push_of_some _ e, turn_range _ lo (hi - lo).toNat, ?_, fun b hb => ?_, q⟩
  · have e1 : lo + ((0 : Nat) : Int) * 1 = lo := by simp
    have e2 : (((hi - lo).toNat : Nat) : Int) - ((0 : Nat) : Int) = Builtin.Range.rangeSize lo hi 1 := by rw [rangeSize_one]; split <;> omega
    show IsRangeIter _ _ (lo + ((0 : Nat) : Int) * 1) ((((hi - lo).toNat : Nat) : Int) - ((0 : Nat) : Int)) 1
    rw [e1, e2]
    exact Heap.get?_push_size _ rfl
  · have e : b = (s.heap.push { cls := .type "range", data := .fields #[.int lo t, .int hi u, .int 1 v] }).objs.size := by simpa using hb
    subst e
    exact I1.fpOk (Nat.le_refl _) (I1.hok.fresh (Nat.le_refl _))
noncomputable def iRng1 (ta : TA) : TI := fun σ H R => ta σ H fun vs H1 => ∃ j : Int, vs = [.int j] ∧ -(2 ^ 62) ≤ j ∧ j < 2 ^ 62 ∧ R (Itr 0 j.toNat) H1
noncomputable def iRng2 (ta : TA) : TI := fun σ H R => ta σ H fun vs H1 => ∃ i j : Int, vs = [.int i, .int j] ∧ (-(2 ^ 62) ≤ i ∧ i < 2 ^ 62 ∧ -(2 ^ 62) ≤ j ∧ j < 2 ^ 62) ∧ R (Itr i (j - i).toNat) H1
theorem pi_range1 {a : Expr} {ta : TA} {p pos : Pos} (hg : Gl X "range") (hm : X.mg "range" = none) (ha : PA X [a] ta) (hs : starEach [a] X.env = [(false, eval a X.env)] := by rfl) : PI X tg (.Call (.Name "range" p) [a] [] pos) (iRng1 ta) := by
  intro pins s σ H R I h
  refine Call_ (ld_blt I hg hm boot_range (PyProof.Rows.callWith_type1 (thn (ha pos pins s σ H _ I h) fun us s1 ⟨vs, H1, I1, r1, q1⟩ => ?_) hs rfl))
  obtain ⟨j, e, q1, q2, q⟩ := q1
  subst e
  cases r1 with
  | cons r rr =>
    cases rr
    obtain ⟨t, rfl⟩ := r
    exact call_range_1 (range_it I1 (by omega) (by omega) q1 q2 (by simpa using q))
/-! ### for -/
/-- W: the invariant by the turn and a measure; N: what the body is to reach -/
noncomputable def tFor (wi : TI) (g : TG) (tb : TS) : TS := fun D σ H => wi σ H fun J H1 => ∃ W : Nat → Nat → St → Hp → Prop, (∃ m, W 0 m σ H1) ∧ ∀ i m σ H, W i m σ H →
  (J.stop i H ∧ D.nx σ H) ∨ (J.go i H ∧ ∃ N : St → Hp → Prop, (∀ σ' H', N σ' H' → ∃ m', m' < m ∧ W (i + 1) m' σ' H') ∧ ∀ x H', J.yld i H x H' → g x σ H' fun σ2 H2 => tb { D with nx := N, ct := N, bk := D.nx } σ2 H2)
/-- the records at fp as they stand -/
noncomputable def pinsAt (fp : List Addr) (h : Heap) : List (Addr × Obj) := fp.filterMap fun b => (h.get? b).map fun o => (b, o)
theorem mem_pinsAt {fp : List Addr} {h : Heap} {b : Addr} {o : Obj} (hb : b ∈ fp) (e : h.get? b = some o) : (b, o) ∈ pinsAt fp h := List.mem_filterMap.mpr ⟨b, hb, by rw [e]; rfl⟩
theorem of_pinsAt {fp : List Addr} {h : Heap} {p : Addr × Obj} (hp : p ∈ pinsAt fp h) : p.1 ∈ fp ∧ h.get? p.1 = some p.2 := by
  obtain ⟨b, hb, e⟩ := List.mem_filterMap.mp hp
  cases q : h.get? b with
  | none => rw [q] at e; cases e
  | some o =>
    rw [q] at e
    have e' : (b, o) = p := Option.some.inj e
    subst e'
    exact ⟨hb, q⟩
theorem Inv.pinned {pins : List (Addr × Obj)} {σ : St} {H : Hp} {s : Shared} {fp : List Addr} (I : Inv X pins σ H s) (hf : ∀ b ∈ fp, FpOk X pins H b) (ho : ∀ b ∈ fp, ∃ o, s.heap.get? b = some o ∧ ∀ v, o.data ≠ .cell v) : Inv X (pins ++ pinsAt fp s.heap) σ H s :=
  I.pins_of fun p hp => (List.mem_append.mp hp).elim (fun z => I.pin p (List.mem_append_right _ z)) fun z => by
    obtain ⟨hb, e⟩ := of_pinsAt z
    obtain ⟨f0, f1, f2, _⟩ := hf p.1 hb
    obtain ⟨o, e', d⟩ := ho p.1 hb
    rw [e] at e'; cases e'
    exact ⟨e, f0, f1, f2, d⟩
theorem Inv.unpinned {pins pl : List (Addr × Obj)} {σ : St} {H : Hp} {s : Shared} (I : Inv X (pins ++ pl) σ H s) : Inv X pins σ H s := I.pins_of fun p hp => I.pin p (List.mem_append_right _ (List.mem_append_left _ hp))
theorem ps_for {iter : Expr} {body : List Stmt} {wi : TI} {g : TG} {tb : TS} {pos : Pos} (hp : PassesOwn (model X.prog X.w) X.A X.env X.xe) (hc : X.calm = true) (hi : PI X tg iter wi) (hg : PG X tg g) (hb : PSs X body tb)
    (hs : ∀ x, foldedSetIterable iter X.env x = pure x := by intro _; rfl) : PS X (.For tg iter body [] pos) (tFor wi g tb) := by
  intro pins s σ H D I h
  refine wpAny_For (thn (hi pins s σ H _ I h) fun v s1 h1 => thn h1 fun itv s2 h2 => ?_) hs
  obtain ⟨it, fp, tn, J, H2, e, I2, T, st2, f2, W, ⟨m0, w0⟩, turn⟩ := h2
  subst e
  -- what stays true of the iterator's objects through the loop
  have stat : ∀ {H' : Hp}, (∀ b ∈ fp, H' b = none) → ∀ b ∈ fp, FpOk X pins H' b := fun hn b hb => ⟨hn b hb, (f2 b hb).2⟩
  refine codeAny_forLoop_any (fun n s' => ∃ i σ' H', Inv X pins σ' H' s' ∧ tn i s'.heap ∧ (∀ b ∈ fp, H' b = none) ∧ W i n σ' H') ?_ m0 ⟨0, σ, H2, I2, st2, fun b hb => (f2 b hb).1, w0⟩
  rintro n s3 ⟨i, σ3, H3, I3, st3, fr3, w3⟩
  rcases turn i n σ3 H3 w3 with ⟨stop, qn⟩ | ⟨go, N, hN, step⟩
  · refine wpAny_passesOwn hp (thn (T.done X rfl rfl rfl hc i pins s3 σ3 H3 X.xe I3 (stat fr3) st3 stop) fun r s4 ⟨hr, I4⟩ => ?_)
    subst hr
    exact wpAny_execs_nil ⟨σ3, H3, I4, qn⟩
  · refine wpAny_passesOwn hp (thn (T.item X rfl rfl rfl hc i pins s3 σ3 H3 X.xe I3 (stat fr3) st3 go) fun r s4 ⟨u, hr, h4⟩ => ?_)
    subst hr
    refine wpAny_passesOwn hp (thn h4 fun _ s5 ⟨x, H5, I5, r5, y5, st5, fr5⟩ => ?_)
    have I5' := I5.pinned (stat fr5) (T.obj _ _ st5)
    refine wpAny_passesOwn hp (thn (hg _ s5 σ3 H5 x u _ I5' r5 (step x H5 y5)) fun _ s6 ⟨σ6, H6, I6, q6⟩ => ?_)
    refine wpAny_passesOwn hp (thn (hb _ s6 σ6 H6 _ I6 q6) fun f s7 q7 => ?_)
    have again : ∀ {σ7 : St} {H7 : Hp}, Inv X (pins ++ pinsAt fp s5.heap) σ7 H7 s7 → N σ7 H7 → ∃ m, m < n ∧ ∃ i σ' H', Inv X pins σ' H' s7 ∧ tn i s7.heap ∧ (∀ b ∈ fp, H' b = none) ∧ W i m σ' H' := fun {σ7 H7} I7 n7 => by
      obtain ⟨m', hm, w7⟩ := hN σ7 H7 n7
      refine ⟨m', hm, i + 1, σ7, H7, I7.unpinned, T.keep _ _ _ st5 fun b hb o e => (I7.pin (b, o) (List.mem_append_right _ (List.mem_append_right _ (mem_pinsAt hb e)))).1, fun b hb => ?_, w7⟩
      obtain ⟨o, e, d⟩ := T.obj _ _ st5 b hb
      exact (I7.pin (b, o) (List.mem_append_right _ (List.mem_append_right _ (mem_pinsAt hb e)))).2.1
    cases f with
    | next => obtain ⟨σ7, H7, I7, n7⟩ := q7; exact again I7 n7
    | cont => obtain ⟨σ7, H7, I7, n7⟩ := q7; exact again I7 n7
    | brk => obtain ⟨σ7, H7, I7, q7⟩ := q7; exact ⟨σ7, H7, I7.unpinned, q7⟩
    | ret v => obtain ⟨x7, σ7, H7, I7, r7, q7⟩ := q7; exact ⟨x7, σ7, H7, I7.unpinned, r7, q7⟩
end

/-! ### the forms one uses -/
/-- over a list that the body leaves as it is -/
theorem for_list {K : PySem.W.Frag} {a : Addr} {xs : List V} {g : TG} {tb : TS} {D : Ends} {σ : St} {H : Hp} (Pv : Nat → St → Hp → Prop) (h0 : Pv 0 σ H) (hl : ∀ i σ H, i ≤ xs.length → Pv i σ H → SqL K H a xs)
    (hs : ∀ i x σ H, xs[i]? = some x → Pv i σ H → g x σ H fun σ2 H2 => tb { D with nx := Pv (i + 1), ct := Pv (i + 1), bk := D.nx } σ2 H2) (hd : ∀ σ H, Pv xs.length σ H → D.nx σ H) :
    ∃ W : Nat → Nat → St → Hp → Prop, (∃ m, W 0 m σ H) ∧ ∀ i m σ H, W i m σ H →
      ((Itl K a).stop i H ∧ D.nx σ H) ∨ ((Itl K a).go i H ∧ ∃ N : St → Hp → Prop, (∀ σ' H', N σ' H' → ∃ m', m' < m ∧ W (i + 1) m' σ' H') ∧ ∀ x H', (Itl K a).yld i H x H' → g x σ H' fun σ2 H2 => tb { D with nx := N, ct := N, bk := D.nx } σ2 H2) := by
  refine ⟨fun i m σ H => m = xs.length - i ∧ i ≤ xs.length ∧ Pv i σ H, ⟨xs.length, by simp, Nat.zero_le _, h0⟩, ?_⟩
  rintro i m σ H ⟨rfl, hi, p⟩
  have q := hl i σ H hi p
  by_cases hlt : i < xs.length
  · refine .inr ⟨⟨xs, xs[i], q, by simp [hlt]⟩, Pv (i + 1), fun σ' H' p' => ⟨xs.length - (i + 1), by omega, rfl, hlt, p'⟩, fun x H' y => ?_⟩
    obtain ⟨e, y⟩ := y
    subst e
    exact hs i x σ _ (y xs q) p
  · have e : i = xs.length := by omega
    subst e
    exact .inl ⟨⟨xs, q, Nat.le_refl _⟩, hd σ H p⟩
theorem for_range {lo : Int} {n : Nat} {g : TG} {tb : TS} {D : Ends} {σ : St} {H : Hp} (Pv : Nat → St → Hp → Prop) (h0 : Pv 0 σ H)
    (hs : ∀ i σ H, i < n → Pv i σ H → g (.int (lo + i)) σ H fun σ2 H2 => tb { D with nx := Pv (i + 1), ct := Pv (i + 1), bk := D.nx } σ2 H2) (hd : ∀ σ H, Pv n σ H → D.nx σ H) :
    ∃ W : Nat → Nat → St → Hp → Prop, (∃ m, W 0 m σ H) ∧ ∀ i m σ H, W i m σ H →
      ((Itr lo n).stop i H ∧ D.nx σ H) ∨ ((Itr lo n).go i H ∧ ∃ N : St → Hp → Prop, (∀ σ' H', N σ' H' → ∃ m', m' < m ∧ W (i + 1) m' σ' H') ∧ ∀ x H', (Itr lo n).yld i H x H' → g x σ H' fun σ2 H2 => tb { D with nx := N, ct := N, bk := D.nx } σ2 H2) := by
  refine ⟨fun i m σ H => m = n - i ∧ i ≤ n ∧ Pv i σ H, ⟨n, by simp, Nat.zero_le _, h0⟩, ?_⟩
  rintro i m σ H ⟨rfl, hi, p⟩
  by_cases hlt : i < n
  · refine .inr ⟨hlt, Pv (i + 1), fun σ' H' p' => ⟨n - (i + 1), by omega, rfl, hlt, p'⟩, fun x H' y => ?_⟩
    obtain ⟨e, y⟩ := y
    subst e y
    exact hs i σ _ hlt p
  · have e : i = n := by omega
    subst e
    exact .inl ⟨Nat.le_refl _, hd σ H p⟩
end L2

namespace L2
open PySem PySem.Spec PyProof.Rows

noncomputable abbrev R2 := V → V → Hp → VK → Prop
/-- a two-place operation on values: f is binaryOp op, inplaceOp op or compareOp op -/
noncomputable def OpR (X : Cx) (f : Value → Value → Sem Value) (r : R2) : Prop :=
  ∀ (pins : List (Addr × Obj)) (s : Shared) (σ : St) (H : Hp) (x y : V) (v u : Value) (Q : VK), Inv X pins σ H s → RelV x v → RelV y u → r x y H Q →
    wpAny (model X.prog X.w) X.A (f v u) (EP X pins σ Q) X.xe s
/-- a one-place operation -/
noncomputable def UnR (X : Cx) (f : Value → Sem Value) (r : V → Hp → VK → Prop) : Prop :=
  ∀ (pins : List (Addr × Obj)) (s : Shared) (σ : St) (H : Hp) (x : V) (v : Value) (Q : VK), Inv X pins σ H s → RelV x v → r x H Q →
    wpAny (model X.prog X.w) X.A (f v) (EP X pins σ Q) X.xe s
/-- a call of a value that is known (a builtin, a type) with values -/
noncomputable def CallR (X : Cx) (f : Value) (r : List V → Hp → VK → Prop) : Prop :=
  ∀ (pins : List (Addr × Obj)) (s : Shared) (σ : St) (H : Hp) (xs : List V) (us : List Value) (Q : VK), Inv X pins σ H s → Vals xs us → r xs H Q →
    wpAny (model X.prog X.w) X.A (call f us) (EP X pins σ Q) X.xe s
noncomputable def tOp (r : R2) (ta tb : TE) : TE := fun σ H Q => ta σ H fun x H1 => tb σ H1 fun y H2 => r x y H2 Q
noncomputable def tUn (r : V → Hp → VK → Prop) (ta : TE) : TE := fun σ H Q => ta σ H fun x H1 => r x H1 Q
/-- ints in, under C, and a value out -/
noncomputable def rI (C : Int → Int → Prop) (g : Int → Int → V) : R2 := fun x y H Q => ∃ i j, x = .int i ∧ y = .int j ∧ C i j ∧ Q (g i j) H
noncomputable def rI0 (g : Int → Int → V) : R2 := fun x y H Q => ∃ i j, x = .int i ∧ y = .int j ∧ Q (g i j) H
noncomputable def rU (g : Int → V) : V → Hp → VK → Prop := fun x H Q => ∃ i, x = .int i ∧ Q (g i) H

section
variable {X : Cx} {a b c : Expr} {ta tb tc : TE} {pos : Pos}

theorem binT (ha : PE X a ta) (hb : PE X b tb) {pins : List (Addr × Obj)} {s : Shared} {σ : St} {H : Hp} {R : V → V → Hp → Prop} (I : Inv X pins σ H s)
    (h : ta σ H fun x H1 => tb σ H1 fun y H2 => R x y H2) {Q : Value → Shared → Prop} {f : Value → Value → Sem Value}
    (hf : ∀ v u s2 x y H2, Inv X pins σ H2 s2 → RelV x v → RelV y u → R x y H2 → wpAny (model X.prog X.w) X.A (f v u) Q X.xe s2) :
    wpAny (model X.prog X.w) X.A (eval a X.env) (fun v s₁ => wpAny (model X.prog X.w) X.A (eval b X.env) (fun u s₂ => wpAny (model X.prog X.w) X.A (f v u) Q X.xe s₂) X.xe s₁) X.xe s := by
  refine thn (ha pins s σ H _ I h) fun v s1 ⟨x, H1, I1, r1, q1⟩ => ?_
  refine thn (hb pins s1 σ H1 _ I1 q1) fun u s2 ⟨y, H2, I2, r2, q2⟩ => ?_
  exact hf v u s2 x y H2 I2 r1 r2 q2

theorem pe_op {op : Operator} {r : R2} (ho : OpR X (binaryOp op) r) (ha : PE X a ta) (hb : PE X b tb) : PE X (.BinOp a op b pos) (tOp r ta tb) := by
  intro pins s σ H Q I h
  exact wpAny_BinOp (binT ha hb I h fun v u s2 x y H2 I2 rx ry q => ho pins s2 σ H2 x y v u Q I2 rx ry q)
theorem pe_un {op : UnaryOp} {r : V → Hp → VK → Prop} (ho : UnR X (unaryOp op) r) (ha : PE X a ta) : PE X (.UnaryOp op a pos) (tUn r ta) := by
  intro pins s σ H Q I h
  exact UnaryOp_ (thn (ha pins s σ H _ I h) fun v s1 ⟨x, H1, I1, r1, q1⟩ => ho pins s1 σ H1 x v Q I1 r1 q1)
/-! ### ints -/
theorem opI {f : Value → Value → Sem Value} {C : Int → Int → Prop} {g : Int → Int → Int}
    (rule : ∀ (i j : Int) (t u : Tok) (s : Shared) (Q : Value → Shared → Prop) (E : Value → Shared → Prop), C i j → Q (.int (g i j) s.toks) { s with toks := s.toks + 1 } → wpAny (model X.prog X.w) X.A (f (.int i t) (.int j u)) Q E s) :
    OpR X f (rI C fun i j => .int (g i j)) := by
  intro pins s σ H x y v u Q I rx ry h
  obtain ⟨i, j, rfl, rfl, hc, q⟩ := h
  obtain ⟨t, rfl⟩ := rx
  obtain ⟨t', rfl⟩ := ry
  exact rule i j t t' s _ _ hc ⟨.int (g i j), H, I.tok _, ⟨_, rfl⟩, q⟩
theorem opI0 {f : Value → Value → Sem Value} {g : Int → Int → Int}
    (rule : ∀ (i j : Int) (t u : Tok) (s : Shared) (Q : Value → Shared → Prop) (E : Value → Shared → Prop), Q (.int (g i j) s.toks) { s with toks := s.toks + 1 } → wpAny (model X.prog X.w) X.A (f (.int i t) (.int j u)) Q E s) :
    OpR X f (rI0 fun i j => .int (g i j)) := by
  intro pins s σ H x y v u Q I rx ry h
  obtain ⟨i, j, rfl, rfl, q⟩ := h
  obtain ⟨t, rfl⟩ := rx
  obtain ⟨t', rfl⟩ := ry
  exact rule i j t t' s _ _ ⟨.int (g i j), H, I.tok _, ⟨_, rfl⟩, q⟩
theorem opB0 {f : Value → Value → Sem Value} {g : Int → Int → Bool}
    (rule : ∀ (i j : Int) (t u : Tok) (s : Shared) (Q : Value → Shared → Prop) (E : Value → Shared → Prop), Q (.bool (g i j)) s → wpAny (model X.prog X.w) X.A (f (.int i t) (.int j u)) Q E s) :
    OpR X f (rI0 fun i j => .bl (g i j)) := by
  intro pins s σ H x y v u Q I rx ry h
  obtain ⟨i, j, rfl, rfl, q⟩ := h
  obtain ⟨t, rfl⟩ := rx
  obtain ⟨t', rfl⟩ := ry
  exact rule i j t t' s _ _ ⟨.bl (g i j), H, I, rfl, q⟩

noncomputable def CPow (i j : Int) : Prop := 0 ≤ j ∧ j ≤ 1000000 ∧ i.natAbs < 2 ^ 64
noncomputable def CMul (i j : Int) : Prop := (-(2 ^ 64) < i ∧ i < 2 ^ 64) ∨ (-(2 ^ 64) < j ∧ j < 2 ^ 64)
theorem CMul.ok {i j : Int} (h : CMul i j) : IntMulOk i j := by
  rcases h with ⟨h1, h2⟩ | ⟨h1, h2⟩
  · exact .of_left (intBits_le_64 h1 h2)
  · exact .of_right (intBits_le_64 h1 h2)
theorem op_add : OpR X (binaryOp .Add) (rI0 fun i j => .int (i + j)) := opI0 fun _ _ _ _ _ _ _ q => add_int q
theorem op_sub : OpR X (binaryOp .Sub) (rI0 fun i j => .int (i - j)) := opI0 fun _ _ _ _ _ _ _ q => sub_int q
theorem op_mul : OpR X (binaryOp .Mult) (rI CMul fun i j => .int (i * j)) := opI fun _ _ _ _ _ _ _ hc q => mul_int q hc.ok
/-- % by a positive divisor of any size -/
theorem op_mod : OpR X (binaryOp .Mod) (rI (fun _ j => 0 < j) fun i j => .int (i % j)) := opI fun i j _ _ _ _ _ hc q => by
  have h1 : (0 : Int) < j := hc
  exact mod_int' (by omega) (by rw [Int.fmod_eq_emod_of_nonneg i (by omega)]; exact q)
theorem op_pow : OpR X (binaryOp .Pow) (rI CPow fun i j => .int (i ^ j.toNat)) := opI fun _ _ _ _ _ _ _ hc q => pow_int_small hc.1 hc.2.1 hc.2.2 q
theorem unI {f : Value → Sem Value} {g : Int → Int}
    (rule : ∀ (i : Int) (t : Tok) (s : Shared) (Q : Value → Shared → Prop) (E : Value → Shared → Prop), Q (.int (g i) s.toks) { s with toks := s.toks + 1 } → wpAny (model X.prog X.w) X.A (f (.int i t)) Q E s) :
    UnR X f (rU fun i => .int (g i)) := by
  intro pins s σ H x v Q I rx h
  obtain ⟨i, rfl, q⟩ := h
  obtain ⟨t, rfl⟩ := rx
  exact rule i t s _ _ ⟨.int (g i), H, I.tok _, ⟨_, rfl⟩, q⟩
theorem un_neg : UnR X (unaryOp .USub) (rU fun i => .int (-i)) := unI fun _ _ _ _ _ q => neg_int q
/-! ### bools among ints: n += (a < b) -/
end

/-! ### comparisons -/
/-- the scalars that == tells apart as data does -/
noncomputable def scal : V → V → Bool
  | .non, .non => true | .non, .int _ => true | .int _, .non => true | .non, .bl _ => true | .bl _, .non => true | .non, .str _ => true | .str _, .non => true
  | .int _, .int _ => true | .bl _, .bl _ => true | .str _, .str _ => true | .byt _, .byt _ => true
  | .int _, .str _ => true | .str _, .int _ => true | .bl _, .str _ => true | .str _, .bl _ => true
  | _, _ => false
noncomputable def rEq : R2 := fun x y H Q => scal x y = true ∧ Q (.bl (decide (x = y))) H
noncomputable def rNe : R2 := fun x y H Q => scal x y = true ∧ Q (.bl (!decide (x = y))) H

theorem dec_int {i j : Int} : decide (V.int i = V.int j) = (i == j) := by
  rw [Bool.eq_iff_iff]
  simp
theorem dec_bl {i j : Bool} : decide (V.bl i = V.bl j) = (i == j) := by
  rw [Bool.eq_iff_iff]
  simp
theorem dec_str {i j : Str} : decide (V.str i = V.str j) = (i == j) := by
  rw [Bool.eq_iff_iff]
  simp
theorem dec_byt {i j : Array UInt8} : decide (V.byt i = V.byt j) = (i.toList == j.toList) := by
  rw [Bool.eq_iff_iff]
  cases i
  cases j
  simp

section
variable {X : Cx} {a b c : Expr} {ta tb tc : TE} {pos : Pos}
theorem fin_bl {pins : List (Addr × Obj)} {σ : St} {H : Hp} {s : Shared} {Q : VK} {k k' : Bool} (I : Inv X pins σ H s) (q : Q (.bl k) H) (e : k = k') : EP X pins σ Q (.bool k') s := by
  subst e
  exact ⟨.bl k, H, I, rfl, q⟩
theorem op_eq : OpR X (compareOp .Eq) rEq := by
  intro pins s σ H x y v u Q I rx ry h
  obtain ⟨hs, q⟩ := h
  cases x with
  | non =>
    cases rx
    cases y with
    | non => cases ry; exact PySem.EqNone.eq_none_none (fin_bl I q (by simp))
    | bl j => cases ry; exact PySem.EqNone.eq_none_bool (fin_bl I q (by simp))
    | int j => obtain ⟨t', rfl⟩ := ry; exact PySem.EqNone.eq_none_int (fin_bl I q (by simp))
    | str j => obtain ⟨t', rfl⟩ := ry; exact PySem.EqNone.eq_none_str (fin_bl I q (by simp))
    | _ => exact absurd (show false = true from hs) Bool.false_ne_true
  | bl i =>
    cases rx
    cases y with
    | non => cases ry; exact PySem.EqNone.eq_bool_none (fin_bl I q (by simp))
    | bl j => cases ry; exact eq_bool (fin_bl I q dec_bl)
    | str j => obtain ⟨t', rfl⟩ := ry; exact PySem.EqMixed.eq_bool_str (fin_bl I q (by simp))
    | _ => exact absurd (show false = true from hs) Bool.false_ne_true
  | int i =>
    obtain ⟨t, rfl⟩ := rx
    cases y with
    | non => cases ry; exact PySem.EqNone.eq_int_none (fin_bl I q (by simp))
    | int j => obtain ⟨t', rfl⟩ := ry; exact eq_int (fin_bl I q dec_int)
    | str j => obtain ⟨t', rfl⟩ := ry; exact PySem.EqMixed.eq_int_str (fin_bl I q (by simp))
    | _ => exact absurd (show false = true from hs) Bool.false_ne_true
  | str i =>
    obtain ⟨t, rfl⟩ := rx
    cases y with
    | non => cases ry; exact PySem.EqNone.eq_str_none (fin_bl I q (by simp))
    | bl j => cases ry; exact PySem.EqMixed.eq_str_bool (fin_bl I q (by simp))
    | int j => obtain ⟨t', rfl⟩ := ry; exact PySem.EqMixed.eq_str_int (fin_bl I q (by simp))
    | str j => obtain ⟨t', rfl⟩ := ry; exact eq_str (fin_bl I q dec_str)
    | _ => exact absurd (show false = true from hs) Bool.false_ne_true
  | byt i =>
    obtain ⟨t, rfl⟩ := rx
    cases y with
    | byt j => obtain ⟨t', rfl⟩ := ry; exact PySem.W.eq_bytes (fin_bl I q dec_byt)
    | _ => exact absurd (show false = true from hs) Bool.false_ne_true
  | _ => cases y <;> exact absurd (show false = true from hs) Bool.false_ne_true
theorem op_ne : OpR X (compareOp .NotEq) rNe := by
  intro pins s σ H x y v u Q I rx ry h
  obtain ⟨hs, q⟩ := h
  cases x with
  | non =>
    cases rx
    cases y with
    | non => cases ry; exact PySem.EqNone.ne_none_none (fin_bl I q (by simp))
    | bl j => cases ry; exact PySem.EqNone.ne_none_bool (fin_bl I q (by simp))
    | int j => obtain ⟨t', rfl⟩ := ry; exact PySem.EqNone.ne_none_int (fin_bl I q (by simp))
    | str j => obtain ⟨t', rfl⟩ := ry; exact PySem.EqNone.ne_none_str (fin_bl I q (by simp))
    | _ => exact absurd (show false = true from hs) Bool.false_ne_true
  | bl i =>
    cases rx
    cases y with
    | non => cases ry; exact PySem.EqNone.ne_bool_none (fin_bl I q (by simp))
    | bl j => cases ry; exact ne_bool (fin_bl I q (congrArg not dec_bl))
    | str j => obtain ⟨t', rfl⟩ := ry; exact PySem.EqMixed.ne_bool_str (fin_bl I q (by simp))
    | _ => exact absurd (show false = true from hs) Bool.false_ne_true
  | int i =>
    obtain ⟨t, rfl⟩ := rx
    cases y with
    | non => cases ry; exact PySem.EqNone.ne_int_none (fin_bl I q (by simp))
    | int j => obtain ⟨t', rfl⟩ := ry; exact ne_int (fin_bl I q (congrArg not dec_int))
    | str j => obtain ⟨t', rfl⟩ := ry; exact PySem.EqMixed.ne_int_str (fin_bl I q (by simp))
    | _ => exact absurd (show false = true from hs) Bool.false_ne_true
  | str i =>
    obtain ⟨t, rfl⟩ := rx
    cases y with
    | non => cases ry; exact PySem.EqNone.ne_str_none (fin_bl I q (by simp))
    | bl j => cases ry; exact PySem.EqMixed.ne_str_bool (fin_bl I q (by simp))
    | int j => obtain ⟨t', rfl⟩ := ry; exact PySem.EqMixed.ne_str_int (fin_bl I q (by simp))
    | str j => obtain ⟨t', rfl⟩ := ry; exact ne_str (fin_bl I q (congrArg not dec_str))
    | _ => exact absurd (show false = true from hs) Bool.false_ne_true
  | byt i =>
    obtain ⟨t, rfl⟩ := rx
    cases y with
    | byt j => obtain ⟨t', rfl⟩ := ry; exact PySem.W.ne_bytes (fin_bl I q (congrArg not dec_byt))
    | _ => exact absurd (show false = true from hs) Bool.false_ne_true
  | _ => cases y <;> exact absurd (show false = true from hs) Bool.false_ne_true

theorem op_lt : OpR X (compareOp .Lt) (rI0 fun i j => .bl (decide (i < j))) := opB0 fun _ _ _ _ _ _ _ q => lt_int q
/-- is None, is not None: the right side a value none -/
theorem op_isN : OpR X (compareOp .Is) (fun x y H Q => y = .non ∧ Q (.bl (decide (x = .non))) H) := by
  intro pins s σ H x y v u Q I rx ry h
  obtain ⟨rfl, q⟩ := h
  cases ry
  refine is_none_gen (fin_bl I q ?_)
  cases x <;> first
    | (cases rx; rfl)
    | (obtain ⟨t, rfl⟩ := rx; rfl)
/-- two rules for one operation: by cases -/
theorem OpR.or {f : Value → Value → Sem Value} {r r' : R2} (h : OpR X f r) (h' : OpR X f r') : OpR X f (fun x y H Q => r x y H Q ∨ r' x y H Q) := by
  intro pins s σ H x y v u Q I rx ry q
  rcases q with q | q
  · exact h pins s σ H x y v u Q I rx ry q
  · exact h' pins s σ H x y v u Q I rx ry q

theorem nomark (b : Expr) {op : CmpOp} (h : op ≠ .In := by decide) (h2 : op ≠ .NotIn := by decide) : behindInMarks op b = false := by
  have e1 : (op == CmpOp.In) = false := by cases op <;> first | rfl | exact absurd rfl h
  have e2 : (op == CmpOp.NotIn) = false := by cases op <;> first | rfl | exact absurd rfl h2
  cases b <;> simp [behindInMarks, e1, e2]
/-- a comparison as a value; hm: nomark b, or (for in, not in) by with_unfolding_all rfl -/
theorem pe_cmpR {op : CmpOp} {r : R2} (ho : OpR X (compareOp op) r) (ha : PE X a ta) (hb : PE X b tb) (hm : behindInMarks op b = false) : PE X (.Compare a [op] [b] pos) (tOp r ta tb) := by
  intro pins s σ H Q I h
  exact wpAny_Compare1 (binT ha hb I h fun v u s2 x y H2 I2 rx ry q => ho pins s2 σ H2 x y v u Q I2 rx ry q) hm
/-- a reading of a value as a test -/
noncomputable def tTest (t : TE) : TT := fun σ H Q => t σ H fun x H' => ∃ k, x = .bl k ∧ Q k H'
theorem pt_cmpR {op : CmpOp} {r : R2} (ho : OpR X (compareOp op) r) (ha : PE X a ta) (hb : PE X b tb) (hm : behindInMarks op b = false) : PT X (.Compare a [op] [b] pos) (tTest (tOp r ta tb)) := by
  intro pins s σ H Q I h
  refine wpAny_isTrue_Compare1 (thn (ha pins s σ H _ I h) fun v s1 ⟨x, H1, I1, r1, q1⟩ => thn (hb pins s1 σ H1 _ I1 q1) fun u s2 ⟨y, H2, I2, r2, q2⟩ =>
    thn (ho pins s2 σ H2 x y v u _ I2 r1 r2 q2) fun c s3 ⟨z, H3, I3, r3, k, e, q3⟩ => ?_) hm
  subst e
  cases r3
  exact wpAny_truthy_bool ⟨H3, I3, q3⟩
/-- a op1 b op2 c -/
noncomputable def tChain (r r' : R2) (ta tb tc : TE) : TE := fun σ H Q => ta σ H fun x H1 => tb σ H1 fun y H2 => r x y H2 fun z H3 => ∃ k, z = .bl k ∧
  (if k = true then tc σ H3 fun w' H4 => r' y w' H4 Q else Q (.bl false) H3)
/-! ### truth -/
theorem line63 : (sizeLine : Nat) < 2 ^ 63 := by rw [sizeLine_eq]; decide
/-! ### strs and bytes -/
theorem op_add_str : OpR X (binaryOp .Add) (fun x y H Q => ∃ i j, x = .str i ∧ y = .str j ∧ i.length + j.length ≤ sizeLine ∧ Q (.str (i ++ j)) H) := by
  intro pins s σ H x y v u Q I rx ry h
  obtain ⟨i, j, rfl, rfl, hz, q⟩ := h
  obtain ⟨t, rfl⟩ := rx
  obtain ⟨t', rfl⟩ := ry
  exact add_str (fun t' tk => ⟨.str (i ++ j), H, I.tok _, ⟨_, rfl⟩, q⟩) hz
/-! ### scalar builtins, by CallR -/
theorem vals1 {x : V} {us : List Value} (r : Vals [x] us) : ∃ u, us = [u] ∧ RelV x u := by
  cases r with
  | cons r1 r2 => cases r2; exact ⟨_, rfl, r1⟩
theorem vals2 {x y : V} {us : List Value} (r : Vals [x, y] us) : ∃ u w', us = [u, w'] ∧ RelV x u ∧ RelV y w' := by
  cases r with
  | cons r1 r2 =>
    cases r2 with
    | cons r3 r4 => cases r4; exact ⟨_, _, rfl, r1, r3⟩
theorem call_max2 (hc : X.calm = true) : CallR X (.builtin "max") (fun xs H Q => ∃ i j, xs = [.int i, .int j] ∧ Q (.int (if j > i then j else i)) H) := by
  intro pins s σ H xs us Q I r h
  obtain ⟨i, j, rfl, q⟩ := h
  obtain ⟨u, w', rfl, ⟨t, rfl⟩, ⟨t', rfl⟩⟩ := vals2 r
  refine max_two_ints (I.ok.hd hc) fun h' tk k => ⟨_, H, I.kept k, ?_, q⟩
  by_cases hj : j > i
  · rw [if_pos hj, if_pos hj]; exact ⟨_, rfl⟩
  · rw [if_neg hj, if_neg hj]; exact ⟨_, rfl⟩
theorem call_min2 (hc : X.calm = true) : CallR X (.builtin "min") (fun xs H Q => ∃ i j, xs = [.int i, .int j] ∧ Q (.int (if j < i then j else i)) H) := by
  intro pins s σ H xs us Q I r h
  obtain ⟨i, j, rfl, q⟩ := h
  obtain ⟨u, w', rfl, ⟨t, rfl⟩, ⟨t', rfl⟩⟩ := vals2 r
  refine min_two_ints (I.ok.hd hc) fun h' tk k => ⟨_, H, I.kept k, ?_, q⟩
  by_cases hj : j < i
  · rw [if_pos hj, if_pos hj]; exact ⟨_, rfl⟩
  · rw [if_neg hj, if_neg hj]; exact ⟨_, rfl⟩
/-- len of a str, a bytes, a list, a tuple -/
noncomputable def LenV (K : PySem.W.Frag) (x : V) (H : Hp) (n : Nat) : Prop :=
  match x with
  | .str y => y.length ≤ sizeLine ∧ n = y.length
  | .byt y => y.size ≤ sizeLine ∧ n = y.size
  | .ref p => (∃ xs, SqL K H p xs ∧ n = xs.length) ∨ ∃ xs, SqT K H p xs ∧ n = xs.length
  | _ => False
theorem call_len : CallR X (.builtin "len") (fun xs H Q => ∃ x n, xs = [x] ∧ LenV X.K x H n ∧ Q (.int n) H) := by
  intro pins s σ H xs us Q I r h
  obtain ⟨x, n, rfl, e, q⟩ := h
  obtain ⟨u, rfl, rx⟩ := vals1 r
  have hl := line63
  have hs : sizeLine = 16777216 := sizeLine_eq
  cases x with
  | str y =>
    obtain ⟨t, rfl⟩ := rx
    obtain ⟨hy, e'⟩ : y.length ≤ sizeLine ∧ n = y.length := e
    subst e'
    exact len_str (by omega) ⟨.int _, H, I.tok _, ⟨_, rfl⟩, q⟩
  | byt y =>
    obtain ⟨t, rfl⟩ := rx
    obtain ⟨hy, e'⟩ : y.size ≤ sizeLine ∧ n = y.size := e
    subst e'
    exact PySem.W.len_bytes (by omega) ⟨.int _, H, I.tok _, ⟨_, rfl⟩, q⟩
  | ref p =>
    cases rx
    have e' : (∃ xs, SqL X.K H p xs ∧ n = xs.length) ∨ ∃ xs, SqT X.K H p xs ∧ n = xs.length := e
    rcases e' with ⟨xs, hx, e'⟩ | ⟨xs, hx, e'⟩
    · subst e'
      obtain ⟨its, r', pl, hz⟩ := I.list hx
      have hlen := r'.length
      exact Calls.call_len_list pl.isList (by simp only [List.size_toArray]; omega) ⟨.int xs.length, H, I.tok _, ⟨_, by simp only [List.size_toArray]; rw [hlen]⟩, q⟩
    · subst e'
      obtain ⟨its, r', pl, hz⟩ := I.tuple hx
      have hlen := r'.length
      exact len_tuple pl (by simp only [List.size_toArray]; omega) ⟨.int xs.length, H, I.tok _, ⟨_, by simp only [List.size_toArray]; rw [hlen]⟩, q⟩
  | _ => exact (show False from e).elim
end
end L2

namespace L2
open PySem PySem.Spec PyProof.Rows

/-! ### an instance, its attributes a map -/
structure ObjM (h : Heap) (x dx C : Addr) (mA : Str → Option Value) : Prop where
  obj : h.get? x = some (PySem.W.instObj C dx)
  ns : h.Ns1 dx mA
  ne : dx ≠ x

theorem lookIn_ns {h : Heap} {dx : Addr} {mA : Str → Option Value} (n : h.Ns1 dx mA) : ∃ od, h.get? dx = some od ∧ ∀ name, PySem.W.lookIn name od = some (mA name) := by
  obtain ⟨o, es, ep, ho, hd, hk, _, hm⟩ := n
  refine ⟨o, ho, fun name => ?_⟩
  have e := hm name
  unfold nsFind findBy at e
  rw [← Array.find?_toList] at e
  unfold PySem.W.lookIn
  rw [hd]
  dsimp only
  split
  · rename_i y q
    rw [q] at e
    exact congrArg some e
  · rename_i q
    rw [q] at e
    have a : es.toList.any (·.refKey) = false := by
      rw [List.any_eq_false]
      intro y hy
      obtain ⟨z, t, hkey⟩ := hk y (Array.mem_toList_iff.mp hy)
      simp [DictEntry.refKey, hkey]
    have a' : ¬ es.toList.any (·.refKey) = true := by rw [a]; exact Bool.false_ne_true
    rw [if_neg a']
    exact congrArg some e

theorem ObjM.look {h : Heap} {x dx C : Addr} {mA : Str → Option Value} (I : ObjM h x dx C mA) : ∃ od, PySem.W.InstAt h x (PySem.W.instObj C dx) C (some od) ∧ ∀ name, PySem.W.lookIn name od = some (mA name) :=
  let ⟨od, ho, hl⟩ := lookIn_ns I.ns
  ⟨od, ⟨I.obj, rfl, rfl, ho⟩, hl⟩

section
variable {prog : Program} {w : World} {A : Around} {E : Value → Shared → Prop} {s : Shared} {K : PySem.W.Frag} {x dx C f : Addr} {mA : Str → Option Value} {name : Str} {v : Value}

theorem get_map {expr : Bool} {Q : Value → Shared → Prop} (X : K.In s.heap) (I : ObjM s.heap x dx C mA) (hg : PySem.W.plainGet K C name = true) (hh : PySem.W.hasDictIn K C = true)
    (ha : PySem.W.findIn K (.ref C) name = some none) (hv : mA name = some v) (hv' : PySem.W.handedIn v = true) (h : Q v { s with toks := s.toks + 1 }) :
    wpAny (model prog w) A (getAttr (.ref x) name expr) Q E s := by
  obtain ⟨od, J, hl⟩ := I.look
  exact PySem.W.get_value X J (PySem.W.plainGet_of hg).1 (PySem.W.findObj_own hh ha rfl (by rw [hl, hv])) hv' h

theorem get_meth {pl : Sem Bool} {Q : Value × List Value → Shared → Prop} (X : K.In s.heap) (I : ObjM s.heap x dx C mA) (hg : PySem.W.plainGet K C name = true)
    (hf : PySem.W.findIn K (.ref C) name = some (some (.ref f))) (ht : PySem.W.isFn K (.ref f) = true) (hv : mA name = none) (h : Q (.ref f, [.ref x]) s) :
    wpAny (model prog w) A (getMethod (.ref x) name pl) Q E s := by
  obtain ⟨od, J, hl⟩ := I.look
  exact PySem.W.method_fn X J (PySem.W.plainGet_of hg).1 (PySem.W.plainGet_of hg).2 hf (beq_iff_eq.mp ht) (by show (PySem.W.lookIn name od).map (·.isSome) = some false; rw [hl, hv]; rfl) h

theorem set_map {ns : List Str} {Q : Unit → Shared → Prop} (X : K.In s.heap) (I : ObjM s.heap x dx C mA)
    (hs : PySem.W.findIn K (.ref C) "__setattr__" = some (some (.builtin "object.__setattr__"))) (hp : PySem.W.plainOver K C = true) (ht : PySem.W.takerIn K C name = some none) (hh : PySem.W.hasDictIn K C = true)
    (hw : PySem.Within mA ns) (hsz : ns.length ≤ sizeLine)
    (h : ∀ h', ObjM h' x dx C (fun y => if y = name then some v else mA y) → Heap.SameBut dx s.heap h' → Q () { s with heap := h', toks := s.toks + 2 }) :
    wpAny (model prog w) A (setAttr (.ref x) name v) Q E s := by
  obtain ⟨od, J, hl⟩ := I.look
  refine PySem.W.set_plain X J hs (PySem.W.osa_open (s := { s with toks := s.toks + 1 }) (r := none) X J hp ht fun b => ?_)
  obtain ⟨cd, hc, hd'⟩ := PySem.W.any_some hh
  have hx : s.heap.get? x = some ⟨.ref C, some dx, .plain, #[]⟩ := I.obj
  refine wpAny_bind (wpAny_pure (wpAny_bind (wpAny_bind (wpAny_loadPart hx (wpAny_bind (PySem.W.Looks.here (s := { s with toks := s.toks + 1 }) (PySem.W.looks_clsIn X hc) ?_))))))
  rw [hd']
  refine wpAny_pure (a := some dx) (wpAny_bind (wpAny_pure (wpAny_bind ?_)))
  refine wpAny_nsSet1 (s := { s with toks := s.toks + 1 }) I.ns fun h' hn2 hs2 => ?_
  obtain ⟨oD, esD, epD, hoD, hdD, hcD⟩ := hn2.count (PySem.Within.cons name v hw)
  refine wpAny_bind (wpAny_lookBehind hoD (by rw [hdD]; exact pastItsLine_dict (Nat.le_trans hcD (by rw [List.length_cons]; omega))) ?_)
  exact wpAny_pure (h _ ⟨(hs2.2 _ (Ne.symm I.ne)).trans I.obj, hn2, I.ne⟩ hs2)

/-- C(..): the dict at the heap's end, the instance behind it; then its __init__ -/
theorem make_map {R : Result → Shared → Prop} {vs : List Value} {kw : List (Str × Value)} (X : K.In s.heap) (hm : PySem.W.makesIn K C = true)
    (hi : PySem.W.findIn K (.ref C) "__init__" = some (some (.ref f))) (hf : PySem.W.typeIn K (.ref f) = some (.type "function"))
    (h : codeAny (model prog w) (A.under (.builtin "type.__call__" ⟨.ref C :: vs, kw⟩)) (.call (.ref f) ⟨.ref (s.heap.objs.size + 1) :: vs, kw⟩) (PySem.W.InitBack (s.heap.objs.size + 1) R)
      { s with heap := (s.heap.push PySem.W.emptyDict).push (PySem.W.instObj C s.heap.objs.size) }) :
    codeAny (model prog w) A (.call (.ref C) ⟨vs, kw⟩) R s := by
  obtain ⟨hh, g, d, t, os⟩ := s
  exact PySem.W.make_core (PySem.W.makes_of X hm) (PySem.W.looks_findIn X hi) (fun self => PySem.W.bind_fn X self hf) (.inl rfl) h
end

/-! ### the attributes as a list of pairs -/
noncomputable def putF (f : Str) (v : V) : List (Str × V) → List (Str × V)
  | [] => [(f, v)]
  | (g, x) :: r => if g = f then (g, v) :: r else (g, x) :: putF f v r
theorem lookup_putF (f g : Str) (v : V) : ∀ fs : List (Str × V), (putF f v fs).lookup g = if g = f then some v else fs.lookup g
  | [] => by
    show List.lookup g [(f, v)] = _
    by_cases h : g = f
    · have hb : (g == f) = true := beq_iff_eq.mpr h
      simp only [List.lookup, hb, if_pos h]
    · have hb : (g == f) = false := beq_eq_false_iff_ne.mpr h
      simp only [List.lookup, hb, if_neg h]
  | (k, x) :: r => by
    have ih := lookup_putF f g v r
    rw [show putF f v ((k, x) :: r) = (if k = f then (k, v) :: r else (k, x) :: putF f v r) from rfl]
    by_cases hk : k = f
    · rw [if_pos hk]
      by_cases h : g = k
      · have hb : (g == k) = true := beq_iff_eq.mpr h
        simp only [List.lookup, hb, if_pos (h.trans hk)]
      · have hb : (g == k) = false := beq_eq_false_iff_ne.mpr h
        simp only [List.lookup, hb, if_neg (fun e : g = f => h (e.trans hk.symm))]
    · rw [if_neg hk]
      by_cases h : g = k
      · have hb : (g == k) = true := beq_iff_eq.mpr h
        simp only [List.lookup, hb, if_neg (fun e : g = f => hk (h.symm.trans e))]
      · have hb : (g == k) = false := beq_eq_false_iff_ne.mpr h
        simp only [List.lookup, hb]
        exact ih
theorem keys_putF (f : Str) (v : V) : ∀ fs : List (Str × V), f ∈ (putF f v fs).map (·.1) ∧ ∀ g, g ∈ fs.map (·.1) → g ∈ (putF f v fs).map (·.1)
  | [] => ⟨by simp [putF], fun g h => by simp at h⟩
  | (k, x) :: r => by
    obtain ⟨i1, i2⟩ := keys_putF f v r
    rw [show putF f v ((k, x) :: r) = (if k = f then (k, v) :: r else (k, x) :: putF f v r) from rfl]
    by_cases hk : k = f
    · rw [if_pos hk]
      subst hk
      exact ⟨by simp, fun g h => by simpa using h⟩
    · rw [if_neg hk]
      refine ⟨?_, fun g h => ?_⟩
      · rw [List.map_cons]
        exact List.mem_cons_of_mem _ i1
      · rw [List.map_cons] at h ⊢
        rcases List.mem_cons.mp h with e | e
        · exact List.mem_cons.mpr (.inl e)
        · exact List.mem_cons_of_mem _ (i2 g e)
theorem length_putF (f : Str) (v : V) : ∀ fs : List (Str × V), (putF f v fs).length ≤ fs.length + 1
  | [] => by simp [putF]
  | (k, x) :: r => by
    have ih := length_putF f v r
    rw [show putF f v ((k, x) :: r) = (if k = f then (k, v) :: r else (k, x) :: putF f v r) from rfl]
    by_cases hk : k = f
    · rw [if_pos hk, List.length_cons, List.length_cons]; omega
    · rw [if_neg hk, List.length_cons, List.length_cons]; omega

theorem RelO.some_of {v : V} {o : Option Value} (r : RelO (some v) o) : ∃ u, o = some u ∧ RelV v u := by
  cases o with
  | none => exact (show False from r).elim
  | some u => exact ⟨u, rfl, r⟩
theorem RelO.none_of {o : Option Value} (r : RelO none o) : o = none := by
  cases o with
  | none => rfl
  | some u => exact (show False from r).elim
theorem handed_of {v : V} {u : Value} (r : RelV v u) : PySem.W.handedIn u = true := by
  cases v with
  | non => cases (show u = Value.none from r); rfl
  | bl b => cases (show u = Value.bool b from r); rfl
  | int i => obtain ⟨t, e⟩ := (show ∃ t, u = Value.int i t from r); cases e; rfl
  | str x => obtain ⟨t, e⟩ := (show ∃ t, u = Value.str x t from r); cases e; rfl
  | byt b => obtain ⟨t, e⟩ := (show ∃ t, u = Value.bytes b t from r); cases e; rfl
  | flt b => obtain ⟨t, e⟩ := (show ∃ t, u = Value.float b t from r); cases e; rfl
  | ref a => cases (show u = Value.ref a from r); rfl
  | ty n => cases (show u = Value.type n from r); rfl

section
variable {P : Program} {w : World} {H H' : Hp} {h h' : Heap} {a C dx : Addr} {fs fs' : List (Str × V)}
theorem ins_get (hok : HOk P w H h) (e : H a = some (.ins C dx fs)) : ∃ mA, ObjM h a dx C mA ∧ (∀ f, RelO (fs.lookup f) (mA f)) ∧ PySem.Within mA (fs.map (·.1)) ∧ fs.length ≤ 1000 ∧ H dx = some (.own a) := by
  obtain ⟨d, z, ne, ob, mA, n, r, q⟩ := (show ObjOk P w H h a (.ins C dx fs) from hok a _ e)
  exact ⟨mA, ⟨ob, n, ne⟩, r, q, z, d⟩
end

/-! ### what of the text a class must have -/
structure Cls (K : PySem.W.Frag) (C : Addr) : Prop where
  pg : PySem.W.plainGet K C Str.empty = true
  hd : PySem.W.hasDictIn K C = true
  po : PySem.W.plainOver K C = true
  sa : PySem.W.findIn K (.ref C) "__setattr__" = some (some (.builtin "object.__setattr__"))
theorem Cls.get {K : PySem.W.Frag} {C : Addr} (c : Cls K C) (f : Str) : PySem.W.plainGet K C f = true := c.pg
/-- no class of it has the name -/
noncomputable def NoAttr (K : PySem.W.Frag) (C : Addr) (f : Str) : Prop := PySem.W.findIn K (.ref C) f = some none
theorem NoAttr.taker {K : PySem.W.Frag} {C : Addr} {f : Str} (n : NoAttr K C f) : PySem.W.takerIn K C f = some none := by
  unfold PySem.W.takerIn
  rw [show PySem.W.findIn K (.ref C) f = some none from n]
  rfl
/-- a method: a plain def of the class or of one above it -/
structure Meth (K : PySem.W.Frag) (C : Addr) (m : Str) (f : Addr) : Prop where
  at_ : PySem.W.findIn K (.ref C) m = some (some (.ref f))
  fn : PySem.W.isFn K (.ref f) = true
  kp : PySem.W.keepIn K (.ref f) = true

section
variable {X : Cx} {pins : List (Addr × Obj)} {σ : St} {H : Hp} {s : Shared} {a C dx : Addr} {fs : List (Str × V)} {f : Str} {v : V} {A : Around} {E : Value → Shared → Prop}

theorem getattr_ok {b : Bool} {Q : Value → Shared → Prop} (I : Inv X pins σ H s) (e : H a = some (.ins C dx fs)) (c : Cls X.K C) (n : NoAttr X.K C f) (l : fs.lookup f = some v)
    (h : ∀ u s', Inv X pins σ H s' → RelV v u → Q u s') : wpAny (model X.prog X.w) A (getAttr (.ref a) f b) Q E s := by
  obtain ⟨mA, O, r, _, _, _⟩ := ins_get I.hok e
  obtain ⟨u, hu, ru⟩ := RelO.some_of (v := v) (o := mA f) (by rw [← l]; exact r f)
  exact get_map I.kIn O (c.get f) c.hd n hu (handed_of ru) (h u _ (I.tok _) ru)

theorem getmeth_ok {m : Str} {g : Addr} {pl : Sem Bool} {Q : Value × List Value → Shared → Prop} (I : Inv X pins σ H s) (e : H a = some (.ins C dx fs)) (c : Cls X.K C) (k : Meth X.K C m g) (l : fs.lookup m = none)
    (h : Q (.ref g, [.ref a]) s) : wpAny (model X.prog X.w) A (getMethod (.ref a) m pl) Q E s := by
  obtain ⟨mA, O, r, _, _, _⟩ := ins_get I.hok e
  have hn : mA m = none := RelO.none_of (by rw [← l]; exact r m)
  exact get_meth I.kIn O (c.get m) k.at_ k.fn hn h

theorem setattr_ok {y : V} {u : Value} {Q : Unit → Shared → Prop} (I : Inv X pins σ H s) (e : H a = some (.ins C dx fs)) (c : Cls X.K C) (n : NoAttr X.K C f) (hl : fs.length < 1000) (ry : RelV y u)
    (h : ∀ s', Inv X pins σ (upd H a (.ins C dx (putF f y fs))) s' → Q () s') : wpAny (model X.prog X.w) A (setAttr (.ref a) f u) Q E s := by
  obtain ⟨mA, O, r, wi, _, ho⟩ := ins_get I.hok e
  have hz : (fs.map (·.1)).length ≤ sizeLine := by rw [List.length_map, sizeLine_eq]; omega
  refine set_map I.kIn O c.sa c.po n.taker c.hd wi hz fun h' O' sb => h _ ?_
  have hd : ∃ o, h'.get? dx = some o := let ⟨o, _, _, e', _⟩ := O'.ns; ⟨o, e'⟩
  refine I.write (x := a) (e := dx) (by rw [e]; exact True.intro) (.inr ho) (fun b q hb z => (sb.2 b hb).trans z) hd ?_
  refine ⟨by rw [upd_ne O.ne]; exact ho, ?_, O.ne, O'.obj, _, O'.ns, fun g => ?_, fun g hg => ?_⟩
  · have := length_putF f y fs; omega
  · show RelO ((putF f y fs).lookup g) (if g = f then some u else mA g)
    rw [lookup_putF]
    by_cases q : g = f
    · rw [if_pos q, if_pos q]; exact ry
    · rw [if_neg q, if_neg q]; exact r g
  · by_cases q : g = f
    · rw [q]; exact (keys_putF f y fs).1
    · refine (keys_putF f y fs).2 g (wi g fun z => hg ?_)
      show (if g = f then some u else mA g) = none
      rw [if_neg q]; exact z

/-- a new instance, tracked, without attributes -/
theorem Inv.made (I : Inv X pins σ H s) : Inv X pins σ (upd (upd H s.heap.objs.size (.own (s.heap.objs.size + 1))) (s.heap.objs.size + 1) (.ins C s.heap.objs.size []))
    { s with heap := (s.heap.push PySem.W.emptyDict).push (PySem.W.instObj C s.heap.objs.size) } := by
  have e1 : (s.heap.push PySem.W.emptyDict).get? s.heap.objs.size = some PySem.W.emptyDict := Heap.get?_push_size s.heap rfl
  have e2 : ((s.heap.push PySem.W.emptyDict).push (PySem.W.instObj C s.heap.objs.size)).get? (s.heap.objs.size + 1) = some (PySem.W.instObj C s.heap.objs.size) := by
    have := Heap.get?_push_size (s.heap.push PySem.W.emptyDict) (o := PySem.W.instObj C s.heap.objs.size) rfl
    rwa [Heap.size_push] at this
  have e3 : (s.heap.push PySem.W.emptyDict).Ns s.heap.objs.size (fun _ => none) := ⟨PySem.W.emptyDict, #[], _, e1, rfl, (fun e he => absurd he (by simp)), fun _ => rfl⟩
  have I1 := I.laid (a := s.heap.objs.size) (o := .own (s.heap.objs.size + 1)) (h' := s.heap.push PySem.W.emptyDict) (t' := s.toks) (fun b u q => Heap.get?_push_of_some _ q) (Nat.le_refl _) ⟨_, e1⟩
  refine I1.laid (a := s.heap.objs.size + 1) (o := .ins C s.heap.objs.size []) (t' := s.toks) (fun b u q => Heap.get?_push_of_some _ q) (Nat.le_of_eq (Heap.size_push _ _)) ?_
  have ne : s.heap.objs.size ≠ s.heap.objs.size + 1 := Nat.ne_of_lt (Nat.lt_succ_self _)
  refine ⟨by rw [upd_ne ne, upd_same], Nat.zero_le _, ne, e2, fun _ => none, (Heap.Ns1.of_empty e3).at fun o q => Heap.get?_push_of_some _ q, fun _ => True.intro, fun y hy => absurd rfl hy⟩

/-- e.f where nothing but the object is asked: through attributeBase (super) and the last hold -/
theorem attr_of {prog : Program} {w : World} {env : Env} {e : Expr} {f : Str} {pos : Pos} {s : Shared} {Q : Value → Shared → Prop} (hb : attributeBase e f env (eval e env) = eval e env)
    (h : wpAny (model prog w) A (eval e env) (fun o s₁ => wpAny (model prog w) A (getAttr o f true) Q E s₁) E s) : wpAny (model prog w) A (eval (.Attribute e f pos) env) Q E s :=
  Attribute_any_ h (by rw [arm_eval_Attribute, hb])
end

/-! ### readings and rules -/
section
variable {X : Cx} {o e value : Expr} {f : Str} {pos pos' tpos : Pos} {ta tv : TE}
end

/-! ### isinstance -/
section
variable {X : Cx} {pins : List (Addr × Obj)} {σ : St} {H : Hp} {s : Shared} {A : Around} {E : Value → Shared → Prop} {Q : Value → Shared → Prop} {c : Value} {b : Bool}
end
end L2

namespace L2
open PySem PySem.Spec PyProof.Rows

/-! ### room -/
structure Room (k : Nat) (A : Around) : Prop where
  hd : A.handled = none
  dp : A.depth + 3 * k + 5 < recursionLimit
  un : A.units + 16 * k + 200 < cLine
theorem Room.mono {j k : Nat} {A : Around} (r : Room k A) (h : j ≤ k) : Room j A := ⟨r.hd, by have := r.dp; omega, by have := r.un; omega⟩
theorem Room.deeper {k : Nat} {A : Around} (r : Room (k + 1) A) (env : Env) : Room k (A.deeper env) :=
  ⟨r.hd, by have := r.dp; show A.depth + 1 + 3 * k + 5 < _; omega, by have := r.un; show A.units + 3 + 16 * k + 200 < _; omega⟩
theorem Room.in1 {k : Nat} {A : Around} (r : Room (k + 1) A) : Room k A.in1 :=
  ⟨r.hd, by have := r.dp; show A.depth + 3 * k + 5 < _; omega, by have := r.un; show A.units + 1 + 16 * k + 200 < _; omega⟩
theorem make_depth {A : Around} {C : Addr} {us : List Value} {kw : List (Str × Value)} : (A.under (.builtin "type.__call__" ⟨.ref C :: us, kw⟩)).depth = A.depth + 1 := by
  first | rfl | simp [Around.under, Code.weight, Code.isCreation, Code.isGuard, Code.isCaller, Code.frames, Code.isFrame, guardIds]
theorem make_units {A : Around} {C : Addr} {us : List Value} {kw : List (Str × Value)} : (A.under (.builtin "type.__call__" ⟨.ref C :: us, kw⟩)).units = A.units + 1 := by
  first | rfl | simp [Around.under, Code.cUnits, Code.frames, Code.isFrame]
theorem Room.make {k : Nat} {A : Around} (r : Room (k + 1) A) (C : Addr) (us : List Value) (kw : List (Str × Value)) : Room k (A.under (.builtin "type.__call__" ⟨.ref C :: us, kw⟩)) :=
  ⟨r.hd, by have := r.dp; rw [make_depth]; omega, by have := r.un; rw [make_units]; omega⟩
theorem Room.depth {k : Nat} {A : Around} (r : Room k A) : A.depth < recursionLimit := by have := r.dp; omega
theorem Room.units {k : Nat} {A : Around} (r : Room k A) : A.units + 64 < cLine := by have := r.un; omega
/-! ### argument lists and displays -/
noncomputable def tNil : TA := fun _ H Q => Q [] H
noncomputable def tCons (ta : TE) (tr : TA) : TA := fun σ H Q => ta σ H fun x H1 => tr σ H1 fun xs H2 => Q (x :: xs) H2
section
variable {X : Cx} {e : Expr} {es : List Expr} {te : TE} {t : TA} {pos : Pos}
theorem pa_nil : PA X [] tNil := fun _ _ _ _ H Q I h => Calls.spliced_nil ⟨[], H, I, .nil, h⟩
theorem pa_cons (ha : PE X e te) (hr : PA X es t) (hs : starEach (e :: es) X.env = (false, eval e X.env) :: starEach es X.env := by rfl) : PA X (e :: es) (tCons te t) := by
  intro pos pins s σ H Q I h
  rw [hs]
  show wpAny _ _ (spliced ((false, eval e X.env) :: backTo pos (starEach es X.env))) _ _ s
  refine Calls.spliced_cons (thn (ha pins s σ H _ I h) fun u s1 ⟨x, H1, I1, r1, q1⟩ => ?_)
  exact thn (hr pos pins s1 σ H1 _ I1 q1) fun us s2 ⟨xs, H2, I2, r2, q2⟩ => ⟨x :: xs, H2, I2, .cons r1 r2, q2⟩

/-- a tuple, a list of written items -/
noncomputable def tTup (t : TA) : TE := fun σ H Q => t σ H fun xs H1 => xs.length ≤ sizeLine ∧ ∀ p, H1 p = none → Q (.ref p) (upd H1 p (.tup xs))
noncomputable def tLst (t : TA) : TE := fun σ H Q => t σ H fun xs H1 => xs.length ≤ sizeLine ∧ ∀ p, H1 p = none → Q (.ref p) (upd H1 p (.lst xs))
theorem pe_tup {x1} (h : PA X es t) : PE X (.Tuple es x1 pos) (tTup t) := by
  intro pins s σ H Q I hq
  refine wpAny_Tuple_spliced (thn (h pos pins s σ H _ I hq) fun us s1 ⟨xs, H1, I1, r, z, q⟩ => ⟨by rw [← r.length]; exact z, ?_⟩)
  have hf : H1 s1.heap.objs.size = none := I1.hok.fresh (Nat.le_refl _)
  refine ⟨.ref s1.heap.objs.size, upd H1 s1.heap.objs.size (.tup xs), I1.laid (t' := s1.toks) (fun b u e => Heap.get?_push_of_some _ e) (Nat.le_refl _) ?_, rfl, q _ hf⟩
  exact ⟨z, us, r, ⟨_, Heap.get?_push_size _ rfl, rfl, _, rfl⟩⟩
theorem pe_lst (h : PA X es t) : PE X (.List es pos) (tLst t) := by
  intro pins s σ H Q I hq
  refine wpAny_List_spliced (thn (h pos pins s σ H _ I hq) fun us s1 ⟨xs, H1, I1, r, z, q⟩ => ⟨by rw [← r.length]; exact z, ?_⟩)
  have hf : H1 s1.heap.objs.size = none := I1.hok.fresh (Nat.le_refl _)
  refine ⟨.ref s1.heap.objs.size, upd H1 s1.heap.objs.size (.lst xs), I1.laid (t' := s1.toks) (fun b u e => Heap.get?_push_of_some _ e) (Nat.le_refl _) ?_, rfl, q _ hf⟩
  exact ⟨z, us, 0, r, Heap.get?_push_size _ rfl⟩
end

/-! ### what a def promises -/
/-- a def's promise: the bound arguments in the parameters' order, the heap, the wanted end, the wanted exception -/
noncomputable abbrev Sp := List V → Hp → VK → XK → Prop
/-- how an exception lies behind a call (file 08 gives it): the callers' frames, abstract heap and state ahead of the call, the wish, the exception, the state -/
noncomputable abbrev CXT := List Env → Hp → Shared → XK → Value → Shared → Prop

/-- the state at a call -/
structure Env0 (P : Program) (w : World) (K : PySem.W.Frag) (mg : Str → Option Value) (base : Heap) (A : Around) (outer : List Env) (s : Shared) (H : Hp) : Prop where
  frames : A.frames = some outer
  mod : Mod K mg base
  bs : ∀ b o, base.get? b = some o → s.heap.get? b = some o ∧ H b = none
  bsz : base.objs.size ≤ s.heap.objs.size
  funs : s.heap.FunFrames base outer
  frf : ∀ b ∈ frs outer, H b = none
  hok : HOk P w H s.heap
  bare : AllBare s.gens
/-- a call's end -/
noncomputable def CE (outer : List Env) (P : Program) (w : World) (H : Hp) (s : Shared) (Q : VK) (u : Value) (s' : Shared) : Prop :=
  ∃ v H', s'.os = s.os ∧ AllBare s'.gens ∧ Un (frs outer) [] H H' s.heap s'.heap ∧ HOk P w H' s'.heap ∧ RelV v u ∧ Q v H'
noncomputable def CR (CX : CXT) (outer : List Env) (P : Program) (w : World) (H : Hp) (s : Shared) (Q : VK) (E : XK) (r : Result) (s' : Shared) : Prop :=
  match r with
  | .ok (.ret u) => CE outer P w H s Q u s'
  | .ok _ => False
  | .error e => CX outer H s E e s'
structure FnOk (P : Program) (w : World) (K : PySem.W.Frag) (mg : Str → Option Value) (base : Heap) (CX : CXT) (k : Nat) (f : Addr) (fd : FuncData) (ps : List Str) (sp : Sp) : Prop where
  len : ∀ vs H Q E, sp vs H Q E → vs.length = ps.length
  run : ∀ (A : Around) (outer : List Env) (s : Shared) (H : Hp) (args : Args) (us : List Value) (vs : List V) (Q : VK) (E : XK), Room k A → Env0 P w K mg base A outer s H → BindsTo s fd args (ps.zip us) → Vals vs us → sp vs H Q E →
    codeAny (model P w) A (.call (.ref f) args) (CR CX outer P w H s Q E) s
theorem FnOk.mono {P : Program} {w : World} {K : PySem.W.Frag} {mg : Str → Option Value} {base : Heap} {CX : CXT} {j k : Nat} {f : Addr} {fd : FuncData} {ps : List Str} {sp : Sp} (F : FnOk P w K mg base CX j f fd ps sp) (h : j ≤ k) :
    FnOk P w K mg base CX k f fd ps sp := ⟨F.len, fun A outer s H args us vs Q E hr => F.run A outer s H args us vs Q E (hr.mono h)⟩
/-- a weaker promise -/
theorem FnOk.imp {P : Program} {w : World} {K : PySem.W.Frag} {mg : Str → Option Value} {base : Heap} {CX : CXT} {k : Nat} {f : Addr} {fd : FuncData} {ps : List Str} {sp sp' : Sp} (F : FnOk P w K mg base CX k f fd ps sp)
    (h : ∀ vs H Q E, sp' vs H Q E → sp vs H Q E) : FnOk P w K mg base CX k f fd ps sp' :=
  ⟨fun vs H Q E q => F.len vs H Q E (h _ _ _ _ q), fun A outer s H args us vs Q E hr he hb hv hs => F.run A outer s H args us vs Q E hr he hb hv (h _ _ _ _ hs)⟩

theorem Env0.make {P : Program} {w : World} {K : PySem.W.Frag} {mg : Str → Option Value} {base : Heap} {A : Around} {outer : List Env} {s : Shared} {H : Hp} (e : Env0 P w K mg base A outer s H) (C : Addr) (us : List Value) (kw : List (Str × Value)) :
    Env0 P w K mg base (A.under (.builtin "type.__call__" ⟨.ref C :: us, kw⟩)) outer s H := ⟨by first | exact e.frames | (simpa [Around.under, Code.envs, Code.isFrame, pushEnvs] using e.frames), e.mod, e.bs, e.bsz, e.funs, e.frf, e.hok, e.bare⟩
theorem Env0.in1 {P : Program} {w : World} {K : PySem.W.Frag} {mg : Str → Option Value} {base : Heap} {A : Around} {outer : List Env} {s : Shared} {H : Hp} (e : Env0 P w K mg base A outer s H) :
    Env0 P w K mg base A.in1 outer s H := ⟨e.frames, e.mod, e.bs, e.bsz, e.funs, e.frf, e.hok, e.bare⟩

section
variable {X : Cx} {pins : List (Addr × Obj)} {σ : St} {H : Hp} {s s' : Shared}
/-- from a body: what a callee wants -/
theorem Inv.env0 (I : Inv X pins σ H s) : Env0 X.prog X.w X.K X.mg X.base X.A X.stack s H :=
  ⟨I.ok.frames, I.ok.mod, I.bs, Nat.le_trans I.ok.bsz I.sz, I.stack, I.stkFree, I.hok, I.bare⟩
/-- behind a call -/
theorem Inv.after {Q : VK} {u : Value} (I : Inv X pins σ H s) (h : CE X.stack X.prog X.w H s Q u s') : EP X pins σ Q u s' := by
  obtain ⟨v, H', os, bare, un, hok, r, q⟩ := h
  obtain ⟨hh, g, d, t, os'⟩ := s'
  obtain rfl : os' = s.os := os
  exact ⟨v, H', I.call (h' := hh) (g' := g) (d' := d) (t' := t) (ch := []) un hok bare (fun b z => absurd z (by simp)), r, q⟩
end

/-! ### calls -/
/-- f(..): the written arguments, then the defaults dvs; E: what is wanted of an exception -/
noncomputable def tCall (sp : Sp) (dvs : List V) (E : XK) (t : TA) : TE := fun σ H Q => t σ H fun vs H1 => sp (vs ++ dvs) H1 Q E
/-- o.m(..) of an instance of the class at C -/
noncomputable def tMeth (C : Addr) (m : Str) (sp : Sp) (dvs : List V) (E : XK) (ta : TE) (t : TA) : TE := fun σ H Q => ta σ H fun x H1 => ∃ a dx fs, x = .ref a ∧ H1 a = some (.ins C dx fs) ∧ fs.lookup m = none ∧
  t σ H1 fun vs H2 => sp (x :: (vs ++ dvs)) H2 Q E
/-- C(..): a new instance and its dict, then __init__ -/
noncomputable def tMake (C : Addr) (sp : Sp) (dvs : List V) (E : XK) (t : TA) : TE := fun σ H Q => t σ H fun vs H1 => ∀ x dx, H1 x = none → H1 dx = none → dx ≠ x →
  sp (.ref x :: (vs ++ dvs)) (upd (upd H1 dx (.own x)) x (.ins C dx [])) (fun v H2 => v = .non ∧ Q (.ref x) H2) E

/-- how the parameters are bound: us the positional arguments, kw the keywords' values by name, ds the defaults that fill up -/
noncomputable def Binds (K : PySem.W.Frag) (fd : FuncData) (ps : List Str) (ds : List Value) : Prop :=
  ∀ (s : Shared) (us : List Value), K.In s.heap → (us ++ ds).length = ps.length → BindsTo s fd ⟨us, []⟩ (ps.zip (us ++ ds))
/-- every parameter is given -/
theorem Binds.all {K : PySem.W.Frag} {fd : FuncData} {ps : List Str} (h : ∀ us : List Value, us.length = ps.length → bindArgs fd ⟨us, []⟩ = pure (ps.zip us)) : Binds K fd ps [] := fun s us _ hl => by
  rw [List.append_nil] at hl ⊢
  exact .of_eq (h us hl)

/-- an exception of a callee reaches what this body wants of exceptions -/
noncomputable def Passes (CX : CXT) (X : Cx) (E : XK) : Prop := ∀ (pins : List (Addr × Obj)) (σ : St) (H : Hp) (s : Shared) (e : Value) (s' : Shared), Inv X pins σ H s → CX X.stack H s E e s' → X.xe e s'

section
variable {X : Cx} {CX : CXT} {k : Nat} {f C : Addr} {fd : FuncData} {ps : List Str} {sp : Sp} {dvs : List V} {ds : List Value} {E : XK} {x m : Str} {p pos apos : Pos} {e o : Expr} {es : List Expr} {ta : TE} {t : TA}

/-- the callee runs -/
theorem run_fn {pins : List (Addr × Obj)} {σ : St} {H : Hp} {s : Shared} {Q : VK} {us : List Value} {vs : List V} (F : FnOk X.prog X.w X.K X.mg X.base CX k f fd ps sp) (hr : Room k X.A) (hb : Binds X.K fd ps ds) (hd : Vals dvs ds) (hx : Passes CX X E)
    (I : Inv X pins σ H s) (r : Vals vs us) (h : sp (vs ++ dvs) H Q E) : wpAny (model X.prog X.w) X.A (call (.ref f) us) (EP X pins σ Q) X.xe s := by
  have r2 : Vals (vs ++ dvs) (us ++ ds) := r.append hd
  have hl : (us ++ ds).length = ps.length := by rw [← r2.length]; exact F.len _ _ _ _ h
  refine wpAny_call (codeAny_mono (F.run X.A X.stack s H ⟨us, []⟩ (us ++ ds) (vs ++ dvs) Q E hr I.env0 (hb s us I.kIn hl) r2 h) fun r s' hq => ?_)
  cases r with
  | error e => exact hx pins σ H s e s' I hq
  | ok fl =>
    cases fl with
    | ret u => exact I.after hq
    | next => exact False.elim hq
    | brk => exact False.elim hq
    | cont => exact False.elim hq

theorem pe_call (F : FnOk X.prog X.w X.K X.mg X.base CX k f fd ps sp) (hr : Room k X.A) (hg : Gl X x) (hm : X.mg x = some (.ref f)) (hk : PySem.W.keepIn X.K (.ref f) = true) (hb : Binds X.K fd ps ds) (hd : Vals dvs ds) (hx : Passes CX X E)
    (ha : PA X (e :: es) t) (hdb : (x == ("__debug__" : Str)) = false := by decide) (he : starEach (e :: es) X.env = (false, eval e X.env) :: starEach es X.env := by rfl) (hpl : (backTo pos (starEach es X.env)).any (·.1) = false := by rfl) :
    PE X (.Call (.Name x p) (e :: es) [] pos) (tCall sp dvs E t) := by
  intro pins s σ H Q I h
  refine wpAny_Call_Name_kw (ld_glob I hg hm ?_ hdb)
  refine PySem.W.callWith_K (h₀ := X.base) I.ok.mod.kin hk (thn (ha pos pins s σ H _ I h) fun us s1 ⟨vs, H1, I1, r, q⟩ => ⟨I1.kIn, ?_⟩) he hpl
  exact run_fn F hr hb hd hx I1 r q
theorem pe_call0 (F : FnOk X.prog X.w X.K X.mg X.base CX k f fd ps sp) (hr : Room k X.A) (hg : Gl X x) (hm : X.mg x = some (.ref f)) (hk : PySem.W.keepIn X.K (.ref f) = true) (hb : Binds X.K fd ps ds) (hd : Vals dvs ds) (hx : Passes CX X E)
    (hdb : (x == ("__debug__" : Str)) = false := by decide) : PE X (.Call (.Name x p) [] [] pos) (tCall sp dvs E tNil) := by
  intro pins s σ H Q I h
  refine wpAny_Call_Name_kw (ld_glob I hg hm ?_ hdb)
  exact PySem.W.callWith_K0 I.kIn hk (run_fn (us := []) F hr hb hd hx I .nil h)

/-- o.m(e, ..) -/
theorem pe_meth {pl : Sem Bool} (he : PE X o ta) (c : Cls X.K C) (hm : Meth X.K C m f) (F : FnOk X.prog X.w X.K X.mg X.base CX k f fd ps sp) (hr : Room k X.A) (hb : Binds X.K fd ps ds) (hd : Vals dvs ds) (hx : Passes CX X E) (ha : PA X (e :: es) t)
    (hst : starEach (e :: es) X.env = (false, eval e X.env) :: starEach es X.env := by rfl) (hpl : (backTo pos (starEach es X.env)).any (·.1) = false := by rfl)
    (ht : eval (.Call (.Attribute o m apos) (e :: es) [] pos) X.env = (do
      let ov ← eval o X.env
      standAt apos.atName
      let (f, first) ← holding [ov] (getMethod ov m pl)
      callWith pos f first (backTo pos (starEach (e :: es) X.env)) (backToKw pos (keywordEach [] X.env))) := by rfl) :
    PE X (.Call (.Attribute o m apos) (e :: es) [] pos) (tMeth C m sp dvs E ta t) := by
  intro pins s σ H Q I h
  refine PySem.W.methodCall_KW (pl := pl) (thn (he pins s σ H _ I h) fun u s1 ⟨x, H1, I1, rx, a, dx, fs, ex, ea, l, q⟩ => ?_) ht
  subst ex
  obtain rfl : u = Value.ref a := rx
  refine getmeth_ok I1 ea c hm l ?_
  refine PySem.W.callWith_K (first := [.ref a]) (h₀ := X.base) I.ok.mod.kin hm.kp (thn (ha pos pins s1 σ H1 _ I1 q) fun us s2 ⟨vs, H2, I2, r, q2⟩ => ⟨I2.kIn, ?_⟩) hst hpl
  exact run_fn (us := .ref a :: us) (vs := .ref a :: vs) F hr hb hd hx I2 (.cons rfl r) q2
/-- o.m() -/
theorem pe_meth0 {pl : Sem Bool} (he : PE X o ta) (c : Cls X.K C) (hm : Meth X.K C m f) (F : FnOk X.prog X.w X.K X.mg X.base CX k f fd ps sp) (hr : Room k X.A) (hb : Binds X.K fd ps ds) (hd : Vals dvs ds) (hx : Passes CX X E)
    (ht : eval (.Call (.Attribute o m apos) [] [] pos) X.env = (do
      let ov ← eval o X.env
      standAt apos.atName
      let (f, first) ← holding [ov] (getMethod ov m pl)
      callWith pos f first (backTo pos (starEach [] X.env)) (backToKw pos (keywordEach [] X.env))) := by rfl) :
    PE X (.Call (.Attribute o m apos) [] [] pos) (tMeth C m sp dvs E ta tNil) := by
  intro pins s σ H Q I h
  refine PySem.W.methodCall_KW (pl := pl) (thn (he pins s σ H _ I h) fun u s1 ⟨x, H1, I1, rx, a, dx, fs, ex, ea, l, q⟩ => ?_) ht
  subst ex
  obtain rfl : u = Value.ref a := rx
  refine getmeth_ok I1 ea c hm l ?_
  exact PySem.W.callWith_K0 (first := [.ref a]) I1.kIn hm.kp (run_fn (us := [.ref a]) (vs := [.ref a]) F hr hb hd hx I1 (.cons rfl .nil) q)

/-- what a class must have to be made -/
structure Mk (K : PySem.W.Frag) (C f : Addr) : Prop where
  makes : PySem.W.makesIn K C = true
  init : PySem.W.findIn K (.ref C) "__init__" = some (some (.ref f))
  fn : PySem.W.isFn K (.ref f) = true
  kp : PySem.W.keepIn K (.ref C) = true

theorem run_make {pins : List (Addr × Obj)} {σ : St} {H : Hp} {s : Shared} {Q : VK} {us : List Value} {vs : List V} (M : Mk X.K C f) (F : FnOk X.prog X.w X.K X.mg X.base CX k f fd ps sp) (hr : Room (k + 1) X.A) (hb : Binds X.K fd ps ds) (hd : Vals dvs ds)
    (hx : Passes CX X E) (I : Inv X pins σ H s) (r : Vals vs us)
    (h : ∀ x dx, H x = none → H dx = none → dx ≠ x → sp (.ref x :: (vs ++ dvs)) (upd (upd H dx (.own x)) x (.ins C dx [])) (fun v H2 => v = .non ∧ Q (.ref x) H2) E) :
    wpAny (model X.prog X.w) X.A (call (.ref C) us) (EP X pins σ Q) X.xe s := by
  have hq := h (s.heap.objs.size + 1) s.heap.objs.size (I.hok.fresh (Nat.le_succ _)) (I.hok.fresh (Nat.le_refl _)) (Nat.ne_of_lt (Nat.lt_succ_self _))
  have I2 := Inv.made (C := C) I
  have r2 : Vals (V.ref (s.heap.objs.size + 1) :: (vs ++ dvs)) (Value.ref (s.heap.objs.size + 1) :: (us ++ ds)) := .cons rfl (r.append hd)
  have hl : (Value.ref (s.heap.objs.size + 1) :: us ++ ds).length = ps.length := by
    have e := r2.length
    rw [F.len _ _ _ _ hq] at e
    exact e.symm
  refine wpAny_call (make_map (f := f) I.kIn M.makes M.init (beq_iff_eq.mp M.fn) (codeAny_mono (F.run _ X.stack _ _ ⟨Value.ref (s.heap.objs.size + 1) :: us, []⟩ (Value.ref (s.heap.objs.size + 1) :: (us ++ ds)) _ _ E (hr.make C us [])
    (I2.env0.make C us []) (hb _ (Value.ref (s.heap.objs.size + 1) :: us) I2.kIn hl) r2 hq) fun r s' hq' => ?_))
  cases r with
  | error e => exact hx pins σ _ _ e s' I2 hq'
  | ok fl =>
    cases fl with
    | ret u =>
      obtain ⟨v, H', I3, rv, ev, q3⟩ := I2.after hq'
      subst ev
      exact ⟨rv, ⟨V.ref (s.heap.objs.size + 1), H', I3, rfl, q3⟩⟩
    | next => exact False.elim hq'
    | brk => exact False.elim hq'
    | cont => exact False.elim hq'
theorem pe_make (M : Mk X.K C f) (F : FnOk X.prog X.w X.K X.mg X.base CX k f fd ps sp) (hr : Room (k + 1) X.A) (hg : Gl X x) (hm : X.mg x = some (.ref C)) (hb : Binds X.K fd ps ds) (hd : Vals dvs ds) (hx : Passes CX X E)
    (ha : PA X (e :: es) t) (hdb : (x == ("__debug__" : Str)) = false := by decide) (he : starEach (e :: es) X.env = (false, eval e X.env) :: starEach es X.env := by rfl) (hpl : (backTo pos (starEach es X.env)).any (·.1) = false := by rfl) :
    PE X (.Call (.Name x p) (e :: es) [] pos) (tMake C sp dvs E t) := by
  intro pins s σ H Q I h
  refine wpAny_Call_Name_kw (ld_glob I hg hm ?_ hdb)
  refine PySem.W.callWith_K (h₀ := X.base) I.ok.mod.kin M.kp (thn (ha pos pins s σ H _ I h) fun us s1 ⟨vs, H1, I1, r, q⟩ => ⟨I1.kIn, ?_⟩) he hpl
  exact run_make M F hr hb hd hx I1 r q
end

/-! ### keywords -/
section
variable {X : Cx} {CX : CXT} {k : Nat} {f C : Addr} {fd : FuncData} {ps ks : List Str} {sp : Sp} {E : XK} {x m : Str} {p pos apos kpos : Pos} {e o : Expr} {es : List Expr} {kws : List Keyword} {te ta : TE} {t tk : TA} {nm : Option Str}
variable {g : List Value → List Value → List Value} {gV : List V → List V → List V}
end

/-! ### a def's body keeps its promise -/
/-- names: the parameters first -/
structure FnScope (N P : List Str) (sc : Scope) : Prop where
  kind : sc.kind = .function
  co : sc.isCoroutine = false
  gen : sc.isGenerator = false
  nd : N.Nodup
  pre : N.take P.length = P
  par : ∀ x ∈ P, sc.names.lookup x = some .local ∨ sc.names.lookup x = some .cell
  nofree : ∀ y ∈ sc.names, y.2 ≠ .free

theorem bindL_out {kindOf : Str → Option NameKind} {x : Str} : ∀ {binds : List (Str × Value)} {m : Str → Option Value}, (∀ v, (x, v) ∉ binds) → bindL kindOf binds m x = m x
  | [], _, _ => rfl
  | (n, v) :: r, m, h => by
    unfold bindL
    rw [bindL_out fun w hw => h w (List.mem_cons_of_mem _ hw)]
    split
    · have : x ≠ n := by rintro rfl; exact h v List.mem_cons_self
      simp [this]
    · rfl
theorem bindC_out {kindOf : Str → Option NameKind} {x : Str} : ∀ {binds : List (Str × Value)} {m : Str → Option Value}, (∀ v, (x, v) ∉ binds) → bindC kindOf binds m x = m x
  | [], _, _ => rfl
  | (n, v) :: r, m, h => by
    unfold bindC
    rw [bindC_out fun w hw => h w (List.mem_cons_of_mem _ hw)]
    split
    · rfl
    · have : x ≠ n := by rintro rfl; exact h v List.mem_cons_self
      simp [this]
theorem bindL_get {kindOf : Str → Option NameKind} {x : Str} {v : Value} : ∀ {P : List Str} {vs : List Value} {i : Nat} {m : Str → Option Value}, P.Nodup → P[i]? = some x → vs[i]? = some v → kindOf x = some .local →
    bindL kindOf (P.zip vs) m x = some v
  | [], _, _, _, _, h, _, _ => by simp at h
  | _ :: _, [], _, _, _, _, h, _ => by simp at h
  | p :: P, w :: vs, 0, m, nd, h1, h2, hk => by
    simp at h1 h2; subst h1; subst h2
    show bindL kindOf ((p, w) :: P.zip vs) m p = _
    unfold bindL
    rw [bindL_out fun v hv => (List.nodup_cons.mp nd).1 (List.of_mem_zip hv).1, if_pos hk]
    simp
  | p :: P, w :: vs, i + 1, m, nd, h1, h2, hk => by
    show bindL kindOf ((p, w) :: P.zip vs) m x = _
    unfold bindL
    exact bindL_get (i := i) (List.nodup_cons.mp nd).2 (by simpa using h1) (by simpa using h2) hk
theorem bindC_get {kindOf : Str → Option NameKind} {x : Str} {v : Value} : ∀ {P : List Str} {vs : List Value} {i : Nat} {m : Str → Option Value}, P.Nodup → P[i]? = some x → vs[i]? = some v → kindOf x ≠ some .local →
    bindC kindOf (P.zip vs) m x = some v
  | [], _, _, _, _, h, _, _ => by simp at h
  | _ :: _, [], _, _, _, _, h, _ => by simp at h
  | p :: P, w :: vs, 0, m, nd, h1, h2, hk => by
    simp at h1 h2; subst h1; subst h2
    show bindC kindOf ((p, w) :: P.zip vs) m p = _
    unfold bindC
    rw [bindC_out fun v hv => (List.nodup_cons.mp nd).1 (List.of_mem_zip hv).1, if_neg hk]
    simp
  | p :: P, w :: vs, i + 1, m, nd, h1, h2, hk => by
    show bindC kindOf ((p, w) :: P.zip vs) m x = _
    unfold bindC
    exact bindC_get (i := i) (List.nodup_cons.mp nd).2 (by simpa using h1) (by simpa using h2) hk

/-- the names' values at the entry -/
noncomputable def start (N : List Str) (vs : List V) : St := vs.map some ++ List.replicate (N.length - vs.length) none

/-- the context of a def's body, at its entry; an exception leaves the frame, then lies as CX says -/
noncomputable def cxOf (CX : CXT) (P : Program) (w : World) (K : PySem.W.Frag) (mg : Str → Option Value) (base : Heap) (N : List Str) (qual : Str) (scope : Scope) (f : Addr) (cd : Value) (A : Around) (outer : List Env) (s : Shared) (H : Hp) (E : XK) : Cx where
  prog := P
  w := w
  K := K
  mg := mg
  base := base
  A := A.deeper (envOfC qual scope s.heap.objs.size f cd)
  N := N
  s₀ := s
  H₀ := H
  env := envOfC qual scope s.heap.objs.size f cd
  outer := outer
  stack := envOfC qual scope s.heap.objs.size f cd :: outer
  ex := []
  calm := true
  fn := fun _ => true
  pn := []
  xe := fun e s' => wpAny (model P w) (A.deeper (envOfC qual scope s.heap.objs.size f cd)) (leaving (envOfC qual scope s.heap.objs.size f cd) e) (fun _ s'' => CX outer H s E e s'') (fun e' s'' => CX outer H s E e' s'') s'

theorem cell_has {sc : Scope} {n : Nat} {x : Str} (h : sc.names.lookup x = some .cell) : ∃ c, (cellsFrom n sc.names []).lookup x = some c := by
  have q := PySem.W.cellsFrom_some sc.names n [] (.inl h)
  exact Option.isSome_iff_exists.mp q

theorem inv_start {CX : CXT} {P : Program} {w : World} {K : PySem.W.Frag} {mg : Str → Option Value} {base : Heap} {N ps : List Str} {qual : Str} {scope : Scope} {f : Addr} {cd : Value} {A : Around} {outer : List Env} {s s1 : Shared} {H : Hp} {E : XK} {us : List Value} {vs : List V}
    (S : FnScope N ps scope) (hd : A.handled = none) (e0 : Env0 P w K mg base A outer s H) (hl : vs.length = ps.length) (r : Vals vs us)
    (x : InCallC s s.heap.objs.size (bindL (envOfC qual scope s.heap.objs.size f cd).kindOf (ps.zip us) fun _ => none) (cellsFrom (s.heap.objs.size + 1) scope.names []) (bindC (envOfC qual scope s.heap.objs.size f cd).kindOf (ps.zip us) fun _ => none) s1) :
    Inv (cxOf CX P w K mg base N qual scope f cd A outer s H E) [] (start N vs) H s1 := by
  have hpl : ps.length ≤ N.length := by have := congrArg List.length S.pre; rw [List.length_take] at this; omega
  obtain ⟨h1, tk, rfl, hk⟩ := x.done
  have noA : ∀ b : Addr, b ∉ (cxOf CX P w K mg base N qual scope f cd A outer s H E).ex := fun b z => absurd (show b ∈ ([] : List Addr) from z) (by simp)
  refine ⟨⟨e0.mod, S.kind, rfl, rfl, Nat.le_refl _, fun y z c h1 h2 => ?_, fun y hy => ?_, fun y c _ h => ?_, fun _ => hd, Around.frames_deeper e0.frames, .inr ⟨rfl, rfl⟩, fun b z => absurd z (noA b), e0.bs, e0.bsz, fun b _ _ => noA b, fun b z => absurd z (noA b), e0.funs, e0.frf⟩,
    rfl, e0.bare, Un.kept hk, ⟨_, x.toInCall.ns, fun i y v h1 h2 h3 => ?_⟩, fun y c h => ⟨_, x.cell y c h⟩, e0.hok.fresh (Nat.le_refl _), fun y c h => ?_, fun p hp => absurd (show p ∈ ([] : List (Addr × Obj)) from hp) (by simp), e0.hok.kept hk, ?_⟩
  · exact name_of_addr x.apart (PySem.mem_of_lookup h1) (PySem.mem_of_lookup h2)
  · have hy : scope.names.lookup y = some .cell ∨ scope.names.lookup y = some .free := hy
    rcases hy with hy | hy
    · exact cell_has hy
    · exact absurd rfl (S.nofree _ (PySem.mem_of_lookup hy))
  · exact Nat.le_of_lt (x.above y c (PySem.mem_of_lookup h))
  · have hi : i < vs.length := by
      unfold start at h2
      by_cases hi : i < vs.length
      · exact hi
      · rw [List.getElem?_append_right (by simpa using hi)] at h2
        rw [List.getElem?_replicate] at h2
        split at h2 <;> cases h2
    have ha : vs[i]? = some v := by
      unfold start at h2
      rw [List.getElem?_append_left (by simpa using hi), List.getElem?_map] at h2
      cases e : vs[i]? with
      | none => rw [e] at h2; cases h2
      | some a => rw [e] at h2; cases h2; rfl
    obtain ⟨u, hu, rv⟩ := r.get ha
    have hp : ps[i]? = some y := by
      rw [← S.pre, List.getElem?_take_of_lt (by omega)]; exact h1
    have ndP : ps.Nodup := by rw [← S.pre]; exact S.nd.sublist (List.take_sublist _ _)
    refine ⟨u, rv, ?_⟩
    rcases S.par y (List.mem_of_getElem? hp) with k | k
    · exact .inl ⟨k, bindL_get ndP hp hu k⟩
    · obtain ⟨c, e⟩ := cell_has (n := s.heap.objs.size + 1) k
      refine .inr ⟨.inl k, c, e, ?_⟩
      have q := x.cell y c e
      rw [bindC_get ndP hp hu (by show scope.names.lookup y ≠ _; rw [k]; decide)] at q
      exact q
  · exact e0.hok.fresh (Nat.le_of_lt (x.above y c (PySem.mem_of_lookup h)))
  · unfold start
    show _ = N.length
    rw [List.length_append, List.length_map, List.length_replicate]
    omega

/-- THE RULE: a def (or a method) of the text, by its body. The body's reading t is chosen for each entry; it is run at the parameters' values -/
theorem fn_of {CX : CXT} {P : Program} {w : World} {K : PySem.W.Frag} {mg : Str → Option Value} {base : Heap} {k : Nat} {f : Addr} {name qual : Str} {params : Arguments} {body : List Stmt} {scope : Scope} {dV kV doc pm cdv ct oc : Value} {an od : Option Addr}
    {osl : Array (Option Value)} {N ps : List Str} {sp : Sp} (lk : K.lookup f = some ⟨oc, od, .func (PySem.W.fnOf name qual params body scope dV kV doc pm an cdv ct), osl⟩) (hcd : PySem.W.codeIn K cdv qual = true) (S : FnScope N ps scope)
    (len : ∀ vs H Q E, sp vs H Q E → vs.length = ps.length)
    (hbody : ∀ (A : Around) (outer : List Env) (s : Shared) (H : Hp) (vs : List V) (Q : VK) (E : XK), Room k (A.deeper (envOfC qual scope s.heap.objs.size f cdv)) → sp vs H Q E →
      ∃ t, PSs (cxOf CX P w K mg base N qual scope f cdv A outer s H E) body t ∧ t { nx := fun _ H' => Q .non H', rt := Q } (start N vs) H) :
    FnOk P w K mg base CX (k + 1) f (PySem.W.fnOf name qual params body scope dV kV doc pm an cdv ct) ps sp := by
  refine ⟨len, fun A outer s H args us vs Q E hr e0 hb r hsp => ?_⟩
  have hl := len _ _ _ _ hsp
  have KX : K.In s.heap := e0.mod.kin.keeps fun b o e => (e0.bs b o e).1
  have lim : s.heap.NoLimit := e0.mod.nolimit.keeps fun b o e => (e0.bs b o e).1
  have hkind : ∀ y ∈ ps.zip us, scope.names.lookup y.1 = some .local ∨ (scope.names.lookup y.1 = some .cell ∧ ((cellsFrom (s.heap.objs.size + 1) scope.names []).lookup y.1).isSome = true) := fun ⟨n, v⟩ hy => by
    rcases S.par n (List.of_mem_zip hy).1 with q | q
    · exact .inl q
    · exact .inr ⟨q, PySem.W.cellsFrom_some _ _ _ (.inl q)⟩
  refine codeAny_call_function hr.depth (KX _ _ lk) rfl S.co S.gen rfl (PySem.W.codeRec_of KX hcd) (hb _ _ _ _ ?_)
  refine wpAny_newFunctionEnv_cells S.kind hkind fun env he s1 x => ?_
  subst he
  refine ⟨lim.keeps x.toInCall.keep, codeAny_func ?_⟩
  obtain ⟨t, ht, hq⟩ := hbody A outer s H vs Q E (hr.deeper _) hsp
  have I : Inv (cxOf CX P w K mg base N qual scope f cdv A outer s H E) [] (start N vs) H s1 := inv_start S hr.hd e0 hl r x
  refine wpAny_mono (ht [] s1 (start N vs) H _ I hq) (fun fl s' hs => ?_) fun e s' hs => hs
  have fin : ∀ {σ' : St} {H' : Hp} {v : V} {u : Value}, Inv (cxOf CX P w K mg base N qual scope f cdv A outer s H E) [] σ' H' s' → RelV v u → Q v H' → CE outer P w H s Q u s' :=
    fun {σ' H' v u} J rv q => ⟨v, H', J.os, J.bare, J.base, J.hok, rv, q⟩
  cases fl with
  | ret u =>
    obtain ⟨v, σ', H', J, rv, q⟩ := hs
    exact fin J rv q
  | next =>
    obtain ⟨σ', H', J, q⟩ := hs
    exact fin (v := V.non) (u := Value.none) J rfl q
  | brk =>
    obtain ⟨_, _, _, q⟩ := hs
    exact False.elim q
  | cont =>
    obtain ⟨_, _, _, q⟩ := hs
    exact False.elim q
end L2

namespace L2
open PySem PySem.Spec PyProof.Rows
section
variable {X : Cx} {x : Str} {p pos : Pos} {e : Expr} {es : List Expr} {t : TA} {id T : String} {r : List V → Hp → VK → Prop}

noncomputable def tCB (r : List V → Hp → VK → Prop) (t : TA) : TE := fun σ H Q => t σ H fun vs H1 => r vs H1 Q
/-- f(e, ..), f a built-in function -/
theorem pe_callB (hc : CallR X (.builtin id) r) (hg : Gl X x) (hm : X.mg x = none) (hv : bootBuiltins x = some (.builtin id)) (ha : PA X (e :: es) t) (hn : x ≠ "__name__" := by decide) (hdb : (x == ("__debug__" : Str)) = false := by decide)
    (he : starEach (e :: es) X.env = (false, eval e X.env) :: starEach es X.env := by rfl) (hpl : (backTo pos (starEach es X.env)).any (·.1) = false := by rfl) : PE X (.Call (.Name x p) (e :: es) [] pos) (tCB r t) := by
  intro pins s σ H Q I h
  refine wpAny_Call_Name_kw (ld_blt I hg hm hv ?_ hn hdb)
  exact PyProof.Rows.callWith_builtin1 (thn (ha pos pins s σ H _ I h) fun us s1 ⟨vs, H1, I1, r1, q1⟩ => hc pins s1 σ H1 vs us Q I1 r1 q1) he hpl
/-- T(e, ..), T a built-in type -/
theorem pe_callTy (hc : CallR X (.type T) r) (hg : Gl X x) (hm : X.mg x = none) (hv : bootBuiltins x = some (.type T)) (ha : PA X (e :: es) t) (hn : x ≠ "__name__" := by decide) (hdb : (x == ("__debug__" : Str)) = false := by decide)
    (he : starEach (e :: es) X.env = (false, eval e X.env) :: starEach es X.env := by rfl) (hpl : (backTo pos (starEach es X.env)).any (·.1) = false := by rfl) : PE X (.Call (.Name x p) (e :: es) [] pos) (tCB r t) := by
  intro pins s σ H Q I h
  refine wpAny_Call_Name_kw (ld_blt I hg hm hv ?_ hn hdb)
  exact PyProof.Rows.callWith_type1 (thn (ha pos pins s σ H _ I h) fun us s1 ⟨vs, H1, I1, r1, q1⟩ => hc pins s1 σ H1 vs us Q I1 r1 q1) he hpl
end
end L2

namespace HT
open PySem PyProof.Rows

section
open PySem.SeqAt
open PySem.AutoSeq1 (wpAny_loadPart')
open PySem.MeetsSeq PySem.MeetsSeq2 PySem.MeetsSeq3

end

section
variable {prog : Program} {w : World} {A : Around} {E : Value → Shared → Prop} {s : Shared}

/-- t + u, t not empty -/
theorem cat_tup {t b : Addr} {vs ws : List Value} {Q : Value → Shared → Prop} (ht : IsTup s.heap t vs.toArray) (hb : IsTup s.heap b ws.toArray) (hv : vs ≠ [])
    (h1 : ws = [] → Q (.ref t) s) (h2 : ws ≠ [] → Q (.ref s.heap.objs.size) { s with heap := s.heap.push { cls := .type "tuple", data := .seq (vs ++ ws).toArray } })
    (hsz : vs.length + ws.length ≤ sizeLine) : wpAny (model prog w) A (binaryOp .Add (.ref t) (.ref b)) Q E s := by
  obtain ⟨⟨cls, dd, data, sl⟩, ho, hc, n, hd⟩ := id ht
  obtain ⟨⟨cls2, dd2, data2, sl2⟩, ho2, hc2, n2, hd2⟩ := id hb
  simp only at hc hd hc2 hd2
  subst hc hd hc2 hd2
  have e : vs.toArray ++ ws.toArray = (vs ++ ws).toArray := by simp
  by_cases hw : ws = []
  · exact concat_meets ⟨_, ho, rfl⟩ ⟨_, ho2, rfl⟩ noFill_tuple_add seq_tuple_add PySem.F.slot_tuple_add PySem.F.entry_tuple_add (PySem.F.args_tuple_add_2 _ _)
      (tuple_addW1 t b vs.toArray ws.toArray n n2 dd dd2 sl sl2 (by simpa using hv) (by simp [hw])) ⟨ho, ho2, h1 hw⟩
  · refine concat_meets ⟨_, ho, rfl⟩ ⟨_, ho2, rfl⟩ noFill_tuple_add seq_tuple_add PySem.F.slot_tuple_add PySem.F.entry_tuple_add (PySem.F.args_tuple_add_2 _ _)
      (tuple_addW2 t b vs.toArray ws.toArray n n2 dd dd2 sl sl2 (by simpa using hv) (by simpa using hw) (by rw [List.size_toArray, List.size_toArray]; exact hsz)) ⟨ho, ho2, ?_⟩
    rw [e]
    exact h2 hw

/-! ### t[a:b], not the whole -/
/-- a slice's bound as a place among n (d where it is left out) -/
noncomputable def sIx (n d : Nat) : Option Int → Nat
  | none => d
  | some v => if v < 0 then (v + (n : Int)).toNat else min v.toNat n
theorem sIx_nat (n d k : Nat) : sIx n d (some (k : Int)) = min k n := by
  show (if (k : Int) < 0 then ((k : Int) + (n : Int)).toNat else min (k : Int).toNat n) = min k n
  rw [if_neg (by omega), Int.toNat_natCast]
end
end HT

namespace L2
open PySem PySem.Spec PyProof.Rows

/-! ### the parts of a slice -/
noncomputable abbrev TO := St → Hp → (Option Int → Hp → Prop) → Prop
/-- a slice's part (left out, or an int) -/
noncomputable def PO (X : Cx) (e : Option Expr) (t : TO) : Prop :=
  ∀ (pins : List (Addr × Obj)) (s : Shared) (σ : St) (H : Hp) (Q : Option Int → Hp → Prop), Inv X pins σ H s → t σ H Q →
    wpAny (model X.prog X.w) X.A (evalPart e X.env) (fun u s' => ∃ o H', Inv X pins σ H' s' ∧ IsPart u o ∧ Q o H') X.xe s
noncomputable def tNoPart : TO := fun _ H Q => Q none H
noncomputable def tPart (t : TE) : TO := fun σ H Q => t σ H fun x H1 => ∃ i, x = .int i ∧ Q (some i) H1

section
variable {X : Cx} {e : Expr} {te : TE} {lo hi : Option Expr} {tl th : TO} {pos p2 : Pos}

theorem po_none : PO X none tNoPart := by
  intro pins s σ H Q I h
  rw [evalPart_none]
  exact wpAny_pure ⟨none, H, I, .none, h⟩
theorem po_some (h : PE X e te) : PO X (some e) (tPart te) := by
  intro pins s σ H Q I hw
  rw [evalPart_some]
  refine thn (h pins s σ H _ I hw) fun u s1 ⟨x, H1, I1, r1, q1⟩ => ?_
  obtain ⟨i, rfl, q⟩ := q1
  obtain ⟨t, rfl⟩ := r1
  exact ⟨some i, H1, I1, .int i t, q⟩

/-- what a slice of a value is, by values: the slice object stands at sl -/
noncomputable def SlR (X : Cx) (r : V → Option Int → Option Int → Hp → VK → Prop) : Prop :=
  ∀ (pins : List (Addr × Obj)) (s : Shared) (σ : St) (H : Hp) (x : V) (v vl vu : Value) (lo hi : Option Int) (sl : Addr) (Q : VK), Inv X pins σ H s → RelV x v → s.heap.IsSliceOf sl vl vu .none → IsPart vl lo → IsPart vu hi → r x lo hi H Q →
    ∃ T id, typeLookup (.type T) "__getitem__" = pure (some (.builtin id)) ∧ s.TypeIs v T ∧ wpAny (model X.prog X.w) X.A (getItem v (.ref sl)) (EP X pins σ Q) X.xe s
theorem SlR.or {r r' : V → Option Int → Option Int → Hp → VK → Prop} (h : SlR X r) (h' : SlR X r') : SlR X (fun x lo hi H Q => r x lo hi H Q ∨ r' x lo hi H Q) := by
  intro pins s σ H x v vl vu lo hi sl Q I rx hs pl pu q
  rcases q with q | q
  · exact h pins s σ H x v vl vu lo hi sl Q I rx hs pl pu q
  · exact h' pins s σ H x v vl vu lo hi sl Q I rx hs pl pu q
noncomputable def tSl (r : V → Option Int → Option Int → Hp → VK → Prop) (te : TE) (tl th : TO) : TE := fun σ H Q => te σ H fun x H1 => tl σ H1 fun l H2 => th σ H2 fun u H3 => r x l u H3 Q
/-- a[lo:hi], any a -/
theorem pe_slice {r : V → Option Int → Option Int → Hp → VK → Prop} (hr : SlR X r) (he : PE X e te) (hl : PO X lo tl) (hu : PO X hi th) : PE X (.Subscript e (.Slice lo hi none p2) pos) (tSl r te tl th) := by
  intro pins s σ H Q I h
  refine Subscript_ (thn (he pins s σ H _ I h) fun v s1 ⟨x, H1, I1, r1, q1⟩ => ?_)
  refine wpAny_Slice (thn (hl pins s1 σ H1 _ I1 q1) fun vl s2 ⟨l, H2, I2, pl, q2⟩ => thn (hu pins s2 σ H2 _ I2 q2) fun vu s3 ⟨u, H3, I3, pu, q3⟩ => ?_)
  rw [evalPart_none]
  refine wpAny_pure ?_
  have I4 : Inv X pins σ H3 { s3 with heap := s3.heap.push { cls := .type "slice", data := .fields #[vl, vu, .none] } } := I3.kept (t' := s3.toks) fun b ob q => Heap.get?_push_of_some _ q
  obtain ⟨T, id, hT, ht, hg⟩ := hr pins { s3 with heap := s3.heap.push { cls := .type "slice", data := .fields #[vl, vu, .none] } } σ H3 x v vl vu l u s3.heap.objs.size Q I4 r1 (Heap.IsSliceOf.new ..) pl pu q3
  show wpAny (model X.prog X.w) X.A (subscriptTail e (.Slice lo hi none p2) v (.ref s3.heap.objs.size)) (EP X pins σ Q) X.xe { s3 with heap := s3.heap.push { cls := .type "slice", data := .fields #[vl, vu, .none] } }
  exact tail_any (ops := [.ref s3.heap.objs.size, v]) ht hT hg (by with_unfolding_all rfl)

/-- the items of xs[lo:hi] -/
noncomputable def cutV (xs : List V) (lo hi : Option Int) : List V := (xs.drop (HT.sIx xs.length 0 lo)).take (HT.sIx xs.length xs.length hi - HT.sIx xs.length 0 lo)
theorem cutV_length (xs : List V) (lo hi : Option Int) : (cutV xs lo hi).length ≤ xs.length := by
  unfold cutV
  rw [List.length_take, List.length_drop]
  omega
/-! ### t < u, t + u -/
/-- t + u, t not empty: u empty gives t itself -/
noncomputable def rCatT (K : PySem.W.Frag) : R2 := fun x y H Q => ∃ a b xs ys, x = .ref a ∧ y = .ref b ∧ SqT K H a xs ∧ SqT K H b ys ∧ xs ≠ [] ∧ xs.length + ys.length ≤ sizeLine ∧
  (ys = [] → Q (.ref a) H) ∧ (ys ≠ [] → ∀ p, H p = none → Q (.ref p) (upd H p (.tup (xs ++ ys))))
theorem Vals.nil_iff {xs : List V} {us : List Value} (r : Vals xs us) : us = [] ↔ xs = [] := by
  cases r with
  | nil => simp
  | cons _ _ => simp
theorem op_catT : OpR X (binaryOp .Add) (rCatT X.K) := by
  intro pins s σ H x y v u Q I rx ry h
  obtain ⟨a, b, xs, ys, rfl, rfl, ha, hb, hx, hz, q1, q2⟩ := h
  cases rx
  cases ry
  obtain ⟨its, r1, p1, _⟩ := I.tuple ha
  obtain ⟨its2, r2, p2, _⟩ := I.tuple hb
  refine HT.cat_tup p1 p2 (fun z => hx (r1.nil_iff.mp z)) (fun z => ⟨.ref a, H, I, rfl, q1 (r2.nil_iff.mp z)⟩) (fun z => ?_) (by rw [← r1.length, ← r2.length]; exact hz)
  refine ⟨.ref s.heap.objs.size, _, I.laid (t' := s.toks) (o := .tup (xs ++ ys)) (fun b ob q => Heap.get?_push_of_some _ q) (Nat.le_refl _) ?_, rfl, q2 (fun w => z (r2.nil_iff.mpr w)) _ (I.hok.fresh (Nat.le_refl _))⟩
  exact ⟨by rw [List.length_append]; exact hz, _, r1.append r2, IsTup.new _ _⟩
end
end L2

namespace L2
open PySem PySem.Spec PyProof.Rows

/-! ### places -/
/-- the place that an index of any sign means -/
noncomputable def ixN (n : Nat) (i : Int) : Option Nat := if 0 ≤ i then (if i < n then some i.toNat else none) else if -(n : Int) ≤ i then some (i + n).toNat else none
noncomputable def atI {α : Type} (xs : List α) (i : Int) : Option α := (ixN xs.length i).bind fun j => xs[j]?
theorem ixN_seq {n : Nat} {i : Int} {j : Nat} (h : ixN n i = some j) : seqIndex? i n = some j ∧ j < n ∧ -(n : Int) ≤ i ∧ i < n := by
  unfold ixN at h
  by_cases h0 : 0 ≤ i
  · rw [if_pos h0] at h
    by_cases h1 : i < n
    · rw [if_pos h1] at h
      have e : i.toNat = j := Option.some.inj h
      exact ⟨by rw [seqIndex_of h0 h1, e], by omega, by omega, h1⟩
    · rw [if_neg h1] at h; cases h
  · rw [if_neg h0] at h
    by_cases h1 : -(n : Int) ≤ i
    · rw [if_pos h1] at h
      have e : (i + n).toNat = j := Option.some.inj h
      exact ⟨by rw [seqIndex_neg (by omega) h1, e], by omega, h1, by omega⟩
    · rw [if_neg h1] at h; cases h
theorem atI_get {α : Type} {xs : List α} {i : Int} {v : α} (h : atI xs i = some v) : ∃ j, seqIndex? i xs.length = some j ∧ xs[j]? = some v ∧ j < xs.length ∧ -(xs.length : Int) ≤ i ∧ i < xs.length := by
  unfold atI at h
  cases e : ixN xs.length i with
  | none => rw [e] at h; cases h
  | some j =>
    rw [e] at h
    obtain ⟨h1, h2, h3, h4⟩ := ixN_seq e
    exact ⟨j, h1, h, h2, h3, h4⟩
theorem atI_nat {α : Type} {xs : List α} {j : Nat} {v : α} (h : xs[j]? = some v) : atI xs (j : Int) = some v := by
  have hj : j < xs.length := (List.getElem?_eq_some_iff.mp h).1
  have e : ixN xs.length (j : Int) = some j := by
    unfold ixN
    rw [if_pos (by omega), if_pos (by omega)]; simp
  unfold atI; rw [e]; exact h
/-! ### what may be subscripted -/
/-- what stands as an index of a plain subscript -/
noncomputable def PlainIx (b : Expr) : Prop := ∀ o i, subscripted b false o i = operate [o, i] (getItem o i)
/-- a subscript by values -/
noncomputable def IxR (X : Cx) (r : R2) : Prop :=
  ∀ (value slice : Expr) (pins : List (Addr × Obj)) (s : Shared) (σ : St) (H : Hp) (x y : V) (v u : Value) (Q : VK), Inv X pins σ H s → RelV x v → RelV y u → r x y H Q →
    subscripted slice false v u = operate [v, u] (getItem v u) → wpAny (model X.prog X.w) X.A (subscriptTail value slice v u) (EP X pins σ Q) X.xe s
/-- a call of a builtin's method by values: the receiver, the arguments -/
noncomputable def MtR (X : Cx) (id : String) (r : V → List V → Hp → VK → Prop) : Prop :=
  ∀ (pins : List (Addr × Obj)) (s : Shared) (σ : St) (H : Hp) (x : V) (xs : List V) (v : Value) (us : List Value) (Q : VK), Inv X pins σ H s → RelV x v → Vals xs us → r x xs H Q →
    wpAny (model X.prog X.w) X.A (call (.builtin id) (v :: us)) (EP X pins σ Q) X.xe s
section
variable {X : Cx} {a b : Expr} {ta tb : TE} {pos : Pos}
theorem IxR.or {r r' : R2} (h : IxR X r) (h' : IxR X r') : IxR X (fun x y H Q => r x y H Q ∨ r' x y H Q) := by
  intro value slice pins s σ H x y v u Q I rx ry q hs
  rcases q with q | q
  · exact h value slice pins s σ H x y v u Q I rx ry q hs
  · exact h' value slice pins s σ H x y v u Q I rx ry q hs
theorem MtR.or {id : String} {r r' : V → List V → Hp → VK → Prop} (h : MtR X id r) (h' : MtR X id r') : MtR X id (fun x xs H Q => r x xs H Q ∨ r' x xs H Q) := by
  intro pins s σ H x xs v us Q I rx rs q
  rcases q with q | q
  · exact h pins s σ H x xs v us Q I rx rs q
  · exact h' pins s σ H x xs v us Q I rx rs q
/-- a[b] -/
theorem pe_ix {r : R2} (hr : IxR X r) (ha : PE X a ta) (hb : PE X b tb) (hs : PlainIx b) : PE X (.Subscript a b pos) (tOp r ta tb) := by
  intro pins s σ H Q I h
  exact Subscript_ (binT ha hb I h fun v u s2 x y H2 I2 rx ry q => hr a b pins s2 σ H2 x y v u Q I2 rx ry q (hs _ _))

noncomputable def rIxL (K : PySem.W.Frag) : R2 := fun x y H Q => ∃ p xs i v, x = .ref p ∧ y = .int i ∧ SqL K H p xs ∧ atI xs i = some v ∧ Q v H
noncomputable def rIxT (K : PySem.W.Frag) : R2 := fun x y H Q => ∃ p xs i v, x = .ref p ∧ y = .int i ∧ SqT K H p xs ∧ atI xs i = some v ∧ Q v H
noncomputable def rIxS : R2 := fun x y H Q => ∃ z i c, x = .str z ∧ y = .int i ∧ z.length ≤ sizeLine ∧ atI z.cps.toList i = some c ∧ Q (.str ⟨#[c]⟩) H
theorem ix_list : IxR X (rIxL X.K) := by
  intro value slice pins s σ H x y v u Q I rx ry h hs
  obtain ⟨p, xs, i, z, rfl, rfl, hq, he, q⟩ := h
  cases rx
  obtain ⟨t, rfl⟩ := ry
  obtain ⟨its, r, pl, hz⟩ := I.list hq
  obtain ⟨j, h1, h2, h3, h4, h5⟩ := atI_get he
  obtain ⟨w, ew, rw'⟩ := r.get h2
  have hl := r.length
  have hn := line63
  have fin : EP X pins σ Q w s := ⟨z, H, I, rw', q⟩
  by_cases h0 : 0 ≤ i
  · have hj : i.toNat = j := by
      rw [seqIndex_of h0 h5] at h1
      exact Option.some.inj h1
    exact item_listR pl.isList h0 (by omega) (by rw [hj]; simpa using ew) fin hs
  · have hj : (i + (its.toArray.size : Int)).toNat = j := by
      rw [seqIndex_neg (by omega) h4] at h1
      rw [List.size_toArray, ← hl]
      exact Option.some.inj h1
    exact subscriptTail_builtinR (x := w) pl.isList.typeIs slot_list_getitem.lookup
      (wpAny_getItem_list_neg (Q := fun r s' => r = w ∧ EP X pins σ Q r s') pl.isList (by omega) (by rw [List.size_toArray] <;> omega) (by omega) (by rw [hj]; simpa using ew) ⟨rfl, fin⟩) hs
theorem ix_tup : IxR X (rIxT X.K) := by
  intro value slice pins s σ H x y v u Q I rx ry h hs
  obtain ⟨p, xs, i, z, rfl, rfl, hq, he, q⟩ := h
  cases rx
  obtain ⟨t, rfl⟩ := ry
  obtain ⟨its, r, pl, hz⟩ := I.tuple hq
  obtain ⟨j, h1, h2, h3, h4, h5⟩ := atI_get he
  obtain ⟨w, ew, rw'⟩ := r.get h2
  have hl := r.length
  have hn := line63
  have fin : EP X pins σ Q w s := ⟨z, H, I, rw', q⟩
  exact subscriptTail_builtinR (x := w) pl.typeIs slot_tuple_getitem.lookup
    (getItem_tuple (j := j) (Q := fun r s' => r = w ∧ EP X pins σ Q r s') pl (by omega) (by omega) (by rw [List.size_toArray, ← hl]; exact h1) (by simpa using ew) ⟨rfl, fin⟩) hs
theorem ix_str : IxR X rIxS := by
  intro value slice pins s σ H x y v u Q I rx ry h hs
  obtain ⟨z, i, c, rfl, rfl, hz, he, q⟩ := h
  obtain ⟨t, rfl⟩ := rx
  obtain ⟨t', rfl⟩ := ry
  obtain ⟨j, h1, h2, h3, h4, h5⟩ := atI_get he
  have hl : z.cps.toList.length = z.length := by simp [Str.length]
  rw [hl] at h1 h4 h5
  have hn := line63
  exact tail_any (typeIs_str s z t) slot_str_getitem.lookup (getItem_str (c := c) (by
    have e1 : decide (i < -(2 ^ 63 : Int)) = false := decide_eq_false (by omega)
    have e2 : decide (i ≥ 2 ^ 63) = false := decide_eq_false (by omega)
    rw [e1, e2, Bool.or_false]) (by rw [h1]; simpa using h2) ⟨.str ⟨#[c]⟩, H, I.tok _, ⟨_, rfl⟩, q⟩) hs
/-- list, tuple or str -/
noncomputable def rIx (K : PySem.W.Frag) : R2 := fun x y H Q => rIxL K x y H Q ∨ rIxT K x y H Q ∨ rIxS x y H Q
theorem ix_seq : IxR X (rIx X.K) := ix_list.or (ix_tup.or ix_str)

/-! ### xs[i] = v, any sign -/
/-- the list's object behind a store -/
theorem mapSeq_set (its : List Value) (n j : Nat) (u : Value) : Obj.mapSeq (·.setIfInBounds j u) { cls := .type "list", data := .seq its.toArray n } = { cls := .type "list", data := .seq (its.set j u).toArray n } := by
  simp [Obj.mapSeq]
theorem Inv.lst {pins : List (Addr × Obj)} {σ : St} {H : Hp} {s : Shared} {p : Addr} {xs : List V} (I : Inv X pins σ H s) (h : H p = some (.lst xs)) :
    ∃ (its : List Value) (n : Nat), Vals xs its ∧ s.heap.get? p = some { cls := .type "list", data := .seq its.toArray n } ∧ xs.length ≤ sizeLine := by
  obtain ⟨z, its, n, r, e⟩ := I.hok p _ h
  exact ⟨its, n, r, e, z⟩
/-- the list at p is written by an update of its object -/
theorem Inv.lstUpd {pins : List (Addr × Obj)} {σ : St} {H : Hp} {s : Shared} {p : Addr} {xs ys : List V} {its its' : List Value} {n n' : Nat} {f : Obj → Obj} (I : Inv X pins σ H s) (h : H p = some (.lst xs))
    (ho : s.heap.get? p = some { cls := .type "list", data := .seq its.toArray n }) (hf : f { cls := .type "list", data := .seq its.toArray n } = { cls := .type "list", data := .seq its'.toArray n' }) (r : Vals ys its') (hz : ys.length ≤ sizeLine) (t : Nat) :
    Inv X pins σ (upd H p (.lst ys)) { s with heap := s.heap.update p f, toks := t } := by
  have e : (s.heap.update p f).get? p = some { cls := .type "list", data := .seq its'.toArray n' } := by
    rw [Heap.get?_update_self f ho (by rw [hf] <;> rfl), hf]
  refine I.write (x := p) (e := p) (by rw [h]; trivial) (.inl rfl) (fun b u hb q => (Heap.get?_update_other _ _ (Ne.symm hb)).trans q) ⟨_, e⟩ ?_
  exact ⟨hz, its', n', r, e⟩
noncomputable def rSetL : V → V → V → Hp → (Hp → Prop) → Prop := fun o i v H Q => ∃ p xs k j, o = .ref p ∧ i = .int k ∧ H p = some (.lst xs) ∧ ixN xs.length k = some j ∧ Q (upd H p (.lst (xs.set j v)))
theorem set_list : PSet X rSetL := by
  intro pins s σ H o i v ov iv u Q I ro ri rv h
  obtain ⟨p, xs, k, j, rfl, rfl, hp, hj, q⟩ := h
  cases ro
  obtain ⟨t, rfl⟩ := ri
  obtain ⟨its, n, r, ho, hz⟩ := I.lst hp
  obtain ⟨h1, h2, h3, h4⟩ := ixN_seq hj
  have hl := r.length
  have hn := line63
  have I' : Inv X pins σ (upd H p (.lst (xs.set j v))) { s with heap := s.heap.update p (Obj.mapSeq (·.setIfInBounds j u)) } :=
    I.lstUpd hp ho (mapSeq_set its n j u) (r.set rv j) (by rw [List.length_set]; exact hz) s.toks
  by_cases h0 : 0 ≤ k
  · have hk : k.toNat = j := by
      rw [seqIndex_of h0 h4] at h1
      exact Option.some.inj h1
    exact PySem.W.ki_setAt ho h0 (by omega) (by rw [List.size_toArray, ← hl]; exact h4) (by rw [hk]; exact ⟨_, I', q⟩)
  · have hk : (k + (its.toArray.size : Int)).toNat = j := by
      rw [seqIndex_neg (by omega) h3] at h1
      rw [List.size_toArray, ← hl]
      exact Option.some.inj h1
    exact PySem.W.ki_setBack ho (by omega) (by rw [List.size_toArray, ← hl]; exact h3) (by omega) (by rw [hk]; exact ⟨_, I', q⟩)

/-! ### slices -/
theorem slice_bounds (lo hi : Option Int) (n : Nat) : (sliceBounds lo hi none n).1 = ((HT.sIx n 0 lo : Nat) : Int) ∧ (sliceBounds lo hi none n).2.1 = ((HT.sIx n n hi : Nat) : Int) ∧ (sliceBounds lo hi none n).2.2 = 1 := by
  refine ⟨?_, ?_, rfl⟩
  · cases lo with
    | none => simp [sliceBounds, HT.sIx]
    | some i =>
      simp only [sliceBounds, HT.sIx, Option.getD_none, show (1 : Int) > 0 by decide, if_true]
      by_cases h : i < 0
      · simp only [h, if_true] <;> omega
      · simp only [h, if_false] <;> omega
  · cases hi with
    | none => simp [sliceBounds, HT.sIx]
    | some i =>
      simp only [sliceBounds, HT.sIx, Option.getD_none, show (1 : Int) > 0 by decide, if_true]
      by_cases h : i < 0
      · simp only [h, if_true] <;> omega
      · simp only [h, if_false] <;> omega
theorem slicePick_cut (its : List Value) (lo hi : Option Int) : slicePick its.toArray lo hi none = ((its.drop (HT.sIx its.length 0 lo)).take (HT.sIx its.length its.length hi - HT.sIx its.length 0 lo)).toArray := by
  obtain ⟨h1, h2, h3⟩ := slice_bounds lo hi its.toArray.size
  unfold slicePick
  rw [h1, h2, h3]
  simp only [sliceRange_one, pick_run, List.size_toArray] <;> rfl
/-- xs[lo:hi] of a list: a new list -/
noncomputable def rSlL (K : PySem.W.Frag) : V → Option Int → Option Int → Hp → VK → Prop := fun x lo hi H Q => ∃ a xs, x = .ref a ∧ SqL K H a xs ∧ ∀ p, H p = none → Q (.ref p) (upd H p (.lst (cutV xs lo hi)))
theorem sl_list : SlR X (rSlL X.K) := by
  intro pins s σ H x v vl vu lo hi sl Q I rx hs pl pu h
  obtain ⟨a, xs, rfl, hx, q⟩ := h
  cases rx
  obtain ⟨its, r, ht, hz⟩ := I.list hx
  have hlen := r.length
  refine ⟨"list", _, slot_list_getitem.lookup, ht.isList.typeIs, ?_⟩
  refine wpAny_getItem_list_slice ht.isList hs pl pu .none (by simp) ?_ (by rw [List.size_toArray] <;> omega)
  rw [slicePick_cut, ← hlen]
  refine ⟨.ref s.heap.objs.size, _, I.laid (t' := s.toks) (o := .lst (cutV xs lo hi)) (fun b ob q => Heap.get?_push_of_some _ q) (Nat.le_refl _) ?_, rfl, q _ (I.hok.fresh (Nat.le_refl _))⟩
  exact ⟨Nat.le_trans (cutV_length xs lo hi) hz, _, 0, (r.drop (HT.sIx xs.length 0 lo)).take (HT.sIx xs.length xs.length hi - HT.sIx xs.length 0 lo), Heap.get?_push_size _ rfl⟩

/-! ### in, not in: flat items -/
noncomputable def flatV : V → Bool
  | .non => true
  | .bl _ => true
  | .int _ => true
  | .str _ => true
  | _ => false
/-- == of flat values -/
noncomputable def eqV : V → V → Bool
  | .non, .non => true
  | .bl a, .bl b => a == b
  | .bl a, .int b => (if a then 1 else 0) == b
  | .int a, .bl b => a == (if b then 1 else 0)
  | .int a, .int b => a == b
  | .str a, .str b => a == b
  | _, _ => false
theorem eqAt_V {A : Around} {s : Shared} {y x : V} {u v : Value} (ry : RelV y u) (rx : RelV x v) (fy : flatV y = true) (fx : flatV x = true) : SeqAt.EqAt A s u v (eqV y x) := by
  cases y with
  | non =>
    cases ry
    cases x with
    | non => cases rx; exact SeqAt.EqAt.same _
    | bl b => cases rx; exact SeqAt.EqAt.none_bool b
    | int b => obtain ⟨t, rfl⟩ := rx; exact SeqAt.EqAt.none_int b t
    | str b => obtain ⟨t, rfl⟩ := rx; exact SeqAt.EqAt.none_str b t
    | _ => exact absurd (show false = true from fx) Bool.false_ne_true
  | bl a =>
    cases ry
    cases x with
    | non => cases rx; exact SeqAt.EqAt.bool_none a
    | bl b => cases rx; exact SeqAt.EqAt.bool_bool a b
    | int b => obtain ⟨t, rfl⟩ := rx; exact SeqAt.EqAt.bool_int a b t
    | str b => obtain ⟨t, rfl⟩ := rx; exact SeqAt.EqAt.bool_str a b t
    | _ => exact absurd (show false = true from fx) Bool.false_ne_true
  | int a =>
    obtain ⟨t', rfl⟩ := ry
    cases x with
    | non => cases rx; exact SeqAt.EqAt.int_none a t'
    | bl b => cases rx; exact SeqAt.EqAt.int_bool a t' b
    | int b => obtain ⟨t, rfl⟩ := rx; exact SeqAt.EqAt.int_int a t' b t
    | str b => obtain ⟨t, rfl⟩ := rx; exact SeqAt.EqAt.int_str a t' b t
    | _ => exact absurd (show false = true from fx) Bool.false_ne_true
  | str a =>
    obtain ⟨t', rfl⟩ := ry
    cases x with
    | non => cases rx; exact SeqAt.EqAt.str_none a t'
    | bl b => cases rx; exact SeqAt.EqAt.str_bool a t' b
    | int b => obtain ⟨t, rfl⟩ := rx; exact SeqAt.EqAt.str_int a t' b t
    | str b => obtain ⟨t, rfl⟩ := rx; exact SeqAt.EqAt.str_str a t' b t
    | _ => exact absurd (show false = true from fx) Bool.false_ne_true
  | _ => exact absurd (show false = true from fy) Bool.false_ne_true
noncomputable def inV (x : V) (xs : List V) : Bool := xs.any fun y => eqV y x
/-! ### len, list(x), tuple(x) of any list or tuple that is read -/
theorem call_len_seq : CallR X (.builtin "len") (fun xs H Q => ∃ p ys, xs = [.ref p] ∧ (SqL X.K H p ys ∨ SqT X.K H p ys) ∧ Q (.int ys.length) H) := by
  intro pins s σ H xs us Q I r h
  obtain ⟨p, ys, rfl, hq, q⟩ := h
  obtain ⟨u, rfl, rx⟩ := vals1 r
  cases rx
  have hn := line63
  rcases hq with hq | hq
  · obtain ⟨its, r', pl, hz⟩ := I.list hq
    have hlen := r'.length
    exact Calls.call_len_list pl.isList (by simp only [List.size_toArray] <;> omega) ⟨.int ys.length, H, I.tok _, ⟨s.toks + 1, by rw [List.size_toArray, hlen]⟩, q⟩
  · obtain ⟨its, r', pl, hz⟩ := I.tuple hq
    have hlen := r'.length
    exact len_tuple pl (by simp only [List.size_toArray] <;> omega) ⟨.int ys.length, H, I.tok _, ⟨s.toks + 1, by rw [List.size_toArray, hlen]⟩, q⟩
theorem CallR.or {f : Value} {r r' : List V → Hp → VK → Prop} (h : CallR X f r) (h' : CallR X f r') : CallR X f (fun xs H Q => r xs H Q ∨ r' xs H Q) := by
  intro pins s σ H xs us Q I rs q
  rcases q with q | q
  · exact h pins s σ H xs us Q I rs q
  · exact h' pins s σ H xs us Q I rs q
theorem call_list_of : CallR X (.type "list") (fun xs H Q => ∃ p ys, xs = [.ref p] ∧ (SqL X.K H p ys ∨ SqT X.K H p ys) ∧ ∀ l, H l = none → Q (.ref l) (upd H l (.lst ys))) := by
  intro pins s σ H xs us Q I r h
  obtain ⟨p, ys, rfl, hq, q⟩ := h
  obtain ⟨u, rfl, rx⟩ := vals1 r
  cases rx
  have fin : ∀ (its : List Value), Vals ys its → ys.length ≤ sizeLine → ∀ (h' : Heap) (c' : Nat), (∀ b o', s.heap.get? b = some o' → h'.get? b = some o') →
      h'.get? s.heap.objs.size = some { cls := .type "list", dict := none, data := .seq its.toArray c', slots := #[] } → EP X pins σ Q (.ref s.heap.objs.size) { s with heap := h' } := fun its r' hz h' c' kp e =>
    ⟨.ref s.heap.objs.size, _, I.laid (t' := s.toks) kp (Nat.le_refl _) (show ObjOk X.prog X.w _ h' _ (.lst ys) from ⟨hz, its, c', r', e⟩), rfl, q _ (I.hok.fresh (Nat.le_refl _))⟩
  rcases hq with hq | hq
  · obtain ⟨its, r', pl, hz⟩ := I.list hq
    have hlen := r'.length
    obtain ⟨o, ho, hc, n, hd⟩ := pl.isList
    exact call_list_seq p (.inl rfl) ho hc hd (fun h' c' kp e => fin its r' hz h' c' kp e) (by simp only [List.size_toArray] <;> omega)
  · obtain ⟨its, r', pl, hz⟩ := I.tuple hq
    have hlen := r'.length
    obtain ⟨o, ho, hc, n, hd⟩ := pl
    exact call_list_seq p (.inr rfl) ho hc hd (fun h' c' kp e => fin its r' hz h' c' kp e) (by simp only [List.size_toArray] <;> omega)
/-! ### the call of a builtin's method: o.m(..) -/
/-- the value is of that builtin type -/
noncomputable def tyV (K : PySem.W.Frag) (T : String) (x : V) (H : Hp) : Prop := match x with
  | .str _ => T = "str"
  | .int _ => T = "int"
  | .ref p => (T = "list" ∧ ∃ xs, SqL K H p xs) ∨ (T = "tuple" ∧ ∃ o, K.lookup p = some o ∧ o.cls = .type "tuple" ∧ o.dict = none) ∨
      (T = "dict" ∧ ((∃ kvs, H p = some (.dK kvs)) ∨ ∃ kvs, H p = some (.dT kvs))) ∨ (T = "set" ∧ ∃ S n, H p = some (.set S n))
  | _ => False
theorem tyV_is {pins : List (Addr × Obj)} {σ : St} {H : Hp} {s : Shared} {T : String} {x : V} {v : Value} (I : Inv X pins σ H s) (r : RelV x v) (ty : tyV X.K T x H) :
    s.TypeIs v T ∧ ∀ a, v = .ref a → ∃ ob, s.heap.get? a = some ob ∧ ob.dict = none := by
  cases x with
  | str z =>
    obtain ⟨t, rfl⟩ := r
    cases (show T = "str" from ty)
    exact ⟨typeIs_str s z t, fun _ e => nomatch e⟩
  | int i =>
    obtain ⟨t, rfl⟩ := r
    cases (show T = "int" from ty)
    exact ⟨typeIs_int s i t, fun _ e => nomatch e⟩
  | ref p =>
    cases r
    rcases ty with ⟨rfl, xs, hq⟩ | ⟨rfl, o, hk, hc, hd⟩ | ⟨rfl, hk⟩ | ⟨rfl, S, n, hk⟩
    · obtain ⟨its, _, pl, _⟩ := I.list hq
      refine ⟨pl.isList.typeIs, fun a e => ?_⟩
      cases e
      obtain ⟨o, n, e, c, hd, _⟩ := pl
      exact ⟨o, e, hd⟩
    · refine ⟨⟨o, I.kIn p o hk, hc⟩, fun a e => ?_⟩
      cases e
      exact ⟨o, I.kIn _ o hk, hd⟩
    · have z : ∃ o, s.heap.get? p = some o ∧ o.ExactDict := by
        rcases hk with ⟨kvs, hk⟩ | ⟨kvs, hk⟩
        · obtain ⟨_, _, _, _, o, _, _, e, ex, _⟩ := I.hok p _ hk
          exact ⟨o, e, ex⟩
        · obtain ⟨_, _, _, _, o, _, _, e, ex, _⟩ := I.hok p _ hk
          exact ⟨o, e, ex⟩
      obtain ⟨o, e, ex⟩ := z
      refine ⟨⟨o, e, ex.1⟩, fun a e2 => ?_⟩
      cases e2
      exact ⟨o, e, ex.2.1⟩
    · obtain ⟨o, _, _, _, e, ex, _⟩ := I.hok p _ hk
      refine ⟨⟨o, e, ex.1⟩, fun a e2 => ?_⟩
      cases e2
      exact ⟨o, e, ex.2.1⟩
  | _ => exact False.elim ty
noncomputable def tBM (K : PySem.W.Frag) (T : String) (r : V → List V → Hp → VK → Prop) (to : TE) (t : TA) : TE := fun σ H Q => to σ H fun x H1 => tyV K T x H1 ∧ t σ H1 fun xs H2 => r x xs H2 Q
variable {o e : Expr} {es : List Expr} {to : TE} {t : TA} {name : Str} {apos cpos : Pos} {T id : String} {r : V → List V → Hp → VK → Prop}
/- xs.append(e), list.index on a module's tuple .. are MtR facts of 06m -/
end
end L2

namespace L2
open PySem PySem.Spec PyProof.Rows

noncomputable def MtM (X : Cx) (id : String) (r : V → List V → Hp → VK → Prop) : Prop :=
  ∀ (pins : List (Addr × Obj)) (s : Shared) (σ : St) (H : Hp) (x : V) (xs : List V) (v : Value) (us : List Value) (Q : VK), Inv X pins σ H s → RelV x v → Vals xs us → r x xs H Q →
    wpAny (model X.prog X.w) X.A (call (.builtin id) (v :: us)) (EP X pins σ Q) X.xe s

/-! ### lists of values -/
theorem Vals.one {x : V} {us : List Value} (h : Vals [x] us) : ∃ u, us = [u] ∧ RelV x u := by
  cases h with
  | cons r t => cases t; exact ⟨_, rfl, r⟩
theorem Vals.two : ∀ {x y : V} {us : List Value}, Vals [x, y] us → ∃ u v, us = [u, v] ∧ RelV x u ∧ RelV y v
  | _, _, _, .cons r (.cons q .nil) => ⟨_, _, rfl, r, q⟩
theorem Vals.zero : ∀ {us : List Value}, Vals [] us → us = []
  | _, .nil => rfl
theorem Vals.dropLast {xs : List V} {us : List Value} (h : Vals xs us) : Vals xs.dropLast us.dropLast := by
  induction h with
  | nil => exact .nil
  | cons r t ih =>
    cases t with
    | nil => exact .nil
    | cons q t' => exact .cons r ih
section
variable {X : Cx} {pins : List (Addr × Obj)} {σ : St} {H : Hp} {s : Shared} {l b : Addr} {xs ys zs : List V}

/-! ### the two steps: a tracked list is rewritten, a new list is laid -/
theorem Inv.lset {its its' : List Value} {n : Nat} {f : Array Value → Array Value} {t' : Nat} (I : Inv X pins σ H s) (hH : H l = some (.lst xs))
    (e : s.heap.get? l = some { cls := .type "list", data := .seq its.toArray n }) (hf : f its.toArray = its'.toArray) (hv : Vals ys its') (hz : ys.length ≤ sizeLine) :
    Inv X pins σ (upd H l (.lst ys)) { s with heap := s.heap.update l (Obj.mapSeq f), toks := t' } := by
  have q := PySem.IsL.update e f
  rw [hf] at q
  refine I.write (x := l) (e := l) (by rw [hH]; exact trivial) (.inl rfl) (fun b' u hb hu => (Heap.get?_update_other s.heap (Obj.mapSeq f) (Ne.symm hb)).trans hu) ⟨_, q⟩ ?_
  exact ⟨hz, its', _, hv, q⟩
theorem Inv.lnew {its : List Value} {t' : Nat} (I : Inv X pins σ H s) (hv : Vals ys its) (hz : ys.length ≤ sizeLine) :
    Inv X pins σ (upd H s.heap.objs.size (.lst ys)) { s with heap := s.heap.push { cls := .type "list", data := .seq its.toArray }, toks := t' } :=
  I.laid (fun _ _ q => Heap.get?_push_of_some _ q) (Nat.le_refl _) ⟨hz, its, 0, hv, Heap.get?_push_size _ rfl⟩
theorem Inv.fresh (I : Inv X pins σ H s) : H s.heap.objs.size = none := I.hok.fresh (Nat.le_refl _)
theorem Inv.lstM (I : Inv X pins σ H s) (hH : H l = some (.lst xs)) : xs.length ≤ sizeLine ∧ ∃ (its : List Value) (n : Nat), Vals xs its ∧ xs.length = its.length ∧ s.heap.get? l = some { cls := .type "list", data := .seq its.toArray n } := by
  obtain ⟨z, its, n, r, e⟩ := I.hok l _ hH
  exact ⟨z, its, n, r, r.length, e⟩

end

section
variable {X : Cx}

/-! ### methods -/
noncomputable def rAppend : V → List V → Hp → VK → Prop := fun x vs H Q => ∃ l xs y, x = .ref l ∧ vs = [y] ∧ H l = some (.lst xs) ∧ xs.length < sizeLine ∧ Q .non (upd H l (.lst (xs ++ [y])))
theorem mt_append : MtM X "list.append" rAppend := by
  intro pins s σ H x vs v us Q I rx rv h
  obtain ⟨l, xs, y, rfl, rfl, hH, hz, q⟩ := h
  cases rx
  obtain ⟨u, rfl, ru⟩ := rv.one
  obtain ⟨z, its, n, r, hl, e⟩ := I.lstM hH
  refine call_meets F.slot_list_append ⟨_, e, rfl⟩ F.entry_list_append (F.args_list_append_2 _ _) (PySem.list_append l its.toArray n u (by rw [List.size_toArray]; omega)) ⟨e, ?_⟩
  refine ⟨.non, _, I.lset (its' := its ++ [u]) hH e (by simp) (r.append (.cons ru .nil)) ?_, rfl, q⟩
  rw [List.length_append, List.length_singleton]
  omega

/-! ### list + list, list += list, list * int -/
noncomputable def rCat : R2 := fun x y H Q => ∃ l b xs zs, x = .ref l ∧ y = .ref b ∧ H l = some (.lst xs) ∧ H b = some (.lst zs) ∧ xs.length + zs.length ≤ sizeLine ∧ ∀ p, H p = none → Q (.ref p) (upd H p (.lst (xs ++ zs)))
theorem op_cat : OpR X (binaryOp .Add) rCat := by
  intro pins s σ H x y v u Q I rx ry h
  obtain ⟨l, b, xs, zs, rfl, rfl, hH, hB, hz, q⟩ := h
  cases rx
  cases ry
  obtain ⟨z, its, n, r, hl, e⟩ := I.lstM hH
  obtain ⟨z2, its2, n2, r2, hl2, e2⟩ := I.lstM hB
  refine PySem.P.add_list e e2 ?_ (by rw [List.size_toArray, List.size_toArray]; omega)
  have ea : its.toArray ++ its2.toArray = (its ++ its2).toArray := by simp
  rw [ea]
  exact ⟨.ref _, _, I.lnew (t' := s.toks) (r.append r2) (by rw [List.length_append]; omega), rfl, q _ I.fresh⟩
/-! ### del xs[i] -/
end

end L2

namespace L2
open PySem PySem.Spec PyProof.Rows

/-! ### lists of pairs as tables -/
section
variable {κ : Type} [DecidableEq κ]
noncomputable def valV (kvs : List (κ × V)) (k : κ) : Option V := (kvs.find? fun kv => decide (kv.1 = k)).map (·.2)
/-- in its place, or at the end -/
noncomputable def putK (kvs : List (κ × V)) (k : κ) (v : V) : List (κ × V) :=
  if (kvs.any fun kv => decide (kv.1 = k)) = true then kvs.map (fun kv => if kv.1 = k then (kv.1, v) else kv) else kvs ++ [(k, v)]
noncomputable def dropK (kvs : List (κ × V)) (k : κ) : List (κ × V) := kvs.filter fun kv => decide (kv.1 ≠ k)

theorem valV_pos {p : κ × V} {r : List (κ × V)} {k : κ} (e : p.1 = k) : valV (p :: r) k = some p.2 := by simp [valV, List.find?_cons, e]
theorem valV_neg {p : κ × V} {r : List (κ × V)} {k : κ} (e : ¬ p.1 = k) : valV (p :: r) k = valV r k := by simp [valV, List.find?_cons, e]
theorem valV_any (k : κ) : ∀ kvs : List (κ × V), (kvs.any fun kv => decide (kv.1 = k)) = (valV kvs k).isSome
  | [] => rfl
  | p :: r => by
    rw [List.any_cons]
    by_cases e : p.1 = k
    · simp only [valV_pos e, decide_eq_true e, Bool.true_or, Option.isSome_some]
    · rw [valV_neg e, decide_eq_false e, Bool.false_or]; exact valV_any k r
theorem valV_map (k j : κ) (y : V) : ∀ kvs : List (κ × V), valV (kvs.map fun kv => if kv.1 = k then (kv.1, y) else kv) j = (valV kvs j).map fun x => if j = k then y else x
  | [] => rfl
  | p :: r => by
    have ih := valV_map k j y r
    rw [List.map_cons]
    by_cases h : p.1 = k
    · rw [if_pos h]
      by_cases e : p.1 = j
      · rw [valV_pos (p := (p.1, y)) e, valV_pos e, Option.map_some, if_pos (e.symm.trans h)]
      · rw [valV_neg (p := (p.1, y)) e, valV_neg e, ih]
    · rw [if_neg h]
      by_cases e : p.1 = j
      · rw [valV_pos (p := p) e, valV_pos e, Option.map_some, if_neg (fun z => h (e.trans z))]
      · rw [valV_neg (p := p) e, valV_neg e, ih]
theorem valV_snoc (k j : κ) (y : V) : ∀ kvs : List (κ × V), valV kvs k = none → valV (kvs ++ [(k, y)]) j = if j = k then some y else valV kvs j
  | [], _ => by
    by_cases e : k = j
    · rw [if_pos e.symm]; exact valV_pos (p := (k, y)) e
    · rw [if_neg (fun z => e z.symm)]; exact valV_neg (p := (k, y)) e
  | p :: r, hn => by
    rw [List.cons_append]
    have hk : ¬ p.1 = k := fun z => by rw [valV_pos z] at hn; cases hn
    rw [valV_neg hk] at hn
    have ih := valV_snoc k j y r hn
    by_cases e : p.1 = j
    · rw [valV_pos e, valV_pos e, if_neg (fun z => hk (e.trans z))]
    · rw [valV_neg e, valV_neg e, ih]
theorem valV_put (kvs : List (κ × V)) (k j : κ) (y : V) : valV (putK kvs k y) j = if j = k then some y else valV kvs j := by
  unfold putK
  by_cases a : (kvs.any fun kv => decide (kv.1 = k)) = true
  · rw [if_pos a, valV_map]
    rw [valV_any] at a
    by_cases e : j = k
    · obtain ⟨x, hx⟩ := Option.isSome_iff_exists.mp a
      rw [if_pos e, e, hx, Option.map_some, if_pos rfl]
    · rw [if_neg e]
      cases valV kvs j with
      | none => rfl
      | some x => rw [Option.map_some, if_neg e]
  · rw [if_neg a]
    refine valV_snoc k j y kvs ?_
    rw [valV_any] at a
    cases q : valV kvs k with
    | none => rfl
    | some x => rw [q] at a; exact (a rfl).elim
theorem length_putK (kvs : List (κ × V)) (k : κ) (v : V) : (putK kvs k v).length ≤ kvs.length + 1 := by
  unfold putK
  split
  · rw [List.length_map]; omega
  · rw [List.length_append, List.length_cons, List.length_nil]; omega
theorem putK_new {kvs : List (κ × V)} {k : κ} (v : V) (h : valV kvs k = none) : putK kvs k v = kvs ++ [(k, v)] := by
  unfold putK
  rw [valV_any, h]
  exact if_neg (by decide)

theorem RelO.isSome_eq {o : Option V} {u : Option Value} (r : RelO o u) : o.isSome = u.isSome := by
  cases o with
  | none => cases u with
    | none => rfl
    | some _ => exact (show False from r).elim
  | some _ => cases u with
    | none => exact (show False from r).elim
    | some _ => rfl
theorem RelO.getD {o : Option V} {u : Option Value} {d : V} {d' : Value} (r : RelO o u) (rd : RelV d d') : RelV (o.getD d) (u.getD d') := by
  cases o with
  | none => cases u with
    | none => exact rd
    | some _ => exact (show False from r).elim
  | some _ => cases u with
    | none => exact (show False from r).elim
    | some _ => exact r

/-- raw tables of the same keys -/
theorem KV.val {kvs : List (κ × V)} {vs : List (κ × Value)} (r : KV kvs vs) (k : κ) : RelO (valV kvs k) (valueAt vs k) := by
  unfold KV at r
  induction r with
  | nil => exact True.intro
  | @cons p q ps qs h t ih =>
    obtain ⟨h1, h2⟩ := h
    by_cases e : p.1 = k
    · have e' : q.1 = k := h1.symm.trans e
      have b : valueAt (q :: qs) k = some q.2 := by simp [valueAt, List.find?_cons, e']
      rw [valV_pos e, b]; exact h2
    · have e' : ¬ q.1 = k := fun z => e (h1.trans z)
      have b : valueAt (q :: qs) k = valueAt qs k := by simp [valueAt, List.find?_cons, e']
      rw [valV_neg e, b]; exact ih
theorem KV.any {kvs : List (κ × V)} {vs : List (κ × Value)} (r : KV kvs vs) (k : κ) : (kvs.any fun kv => decide (kv.1 = k)) = vs.any fun kv => decide (kv.1 = k) := by
  unfold KV at r
  induction r with
  | nil => rfl
  | cons h t ih => rw [List.any_cons, List.any_cons, ih, h.1]
theorem KV.repl {kvs : List (κ × V)} {vs : List (κ × Value)} (r : KV kvs vs) (k : κ) {y : V} {u : Value} (ry : RelV y u) :
    KV (kvs.map fun kv => if kv.1 = k then (kv.1, y) else kv) (vs.map fun kv => if kv.1 = k then (kv.1, u) else kv) := by
  unfold KV at r ⊢
  induction r with
  | nil => exact .nil
  | @cons p q ps qs h t ih =>
    rw [List.map_cons, List.map_cons]
    refine .cons ?_ ih
    obtain ⟨h1, h2⟩ := h
    by_cases e : p.1 = k
    · rw [if_pos e, if_pos (h1.symm.trans e)]; exact ⟨h1, ry⟩
    · rw [if_neg e, if_neg (fun z => e (h1.trans z))]; exact ⟨h1, h2⟩
theorem KV.put {kvs : List (κ × V)} {vs : List (κ × Value)} (r : KV kvs vs) (k : κ) {y : V} {u : Value} (ry : RelV y u) : KV (putK kvs k y) (stored vs k u) := by
  unfold putK stored
  rw [r.any k]
  by_cases e : (vs.any fun kv => decide (kv.1 = k)) = true
  · rw [if_pos e, if_pos e]; exact r.repl k ry
  · rw [if_neg e, if_neg e]; exact Paired.snoc r ⟨rfl, ry⟩
theorem KV.drop {kvs : List (κ × V)} {vs : List (κ × Value)} (r : KV kvs vs) (k : κ) : KV (dropK kvs k) (without vs k) := by
  unfold KV at r ⊢
  unfold dropK without
  induction r with
  | nil => exact .nil
  | @cons p q ps qs h t ih =>
    obtain ⟨h1, h2⟩ := h
    rw [List.filter_cons, List.filter_cons]
    by_cases e : p.1 = k
    · have a : ¬ decide (p.1 ≠ k) = true := by simp [e]
      have b : ¬ decide (q.1 ≠ k) = true := by simp [h1.symm.trans e]
      rw [if_neg a, if_neg b]; exact ih
    · have e' : ¬ q.1 = k := fun z => e (h1.trans z)
      have a : decide (p.1 ≠ k) = true := by simp [e]
      have b : decide (q.1 ≠ k) = true := by simp [e']
      rw [if_pos a, if_pos b]; exact .cons ⟨h1, h2⟩ ih
theorem KV.keys {kvs : List (κ × V)} {vs : List (κ × Value)} (r : KV kvs vs) : kvs.map (·.1) = vs.map (·.1) := by
  unfold KV at r
  induction r with
  | nil => rfl
  | cons h t ih => rw [List.map_cons, List.map_cons, ih, h.1]
theorem KV.length {kvs : List (κ × V)} {vs : List (κ × Value)} (r : KV kvs vs) : kvs.length = vs.length := Paired.length r
end


/-! ### a tracked dict, its keys ints and texts or tuples of these -/
theorem kV_is {P : Program} {w : World} {k : Key} {u : Value} (r : RelV (kV k) u) : (mixKind P w).is k u = true := by
  cases k with
  | inl i => obtain ⟨t, e⟩ := (show ∃ t, u = Value.int i t from r); subst e; exact mixKind_int P w i t
  | inr x => obtain ⟨t, e⟩ := (show ∃ t, u = Value.str x t from r); subst e; exact mixKind_str P w x t
  | no => cases (show u = Value.none from r); rfl
theorem items_are {P : Program} {w : World} : ∀ {ks : List Key} {us : List Value}, Vals (ks.map kV) us → ItemsAre (mixKind P w) ks us
  | [], _, r => by rw [List.map_nil] at r; cases r; exact .nil
  | k :: ks, _, r => by
    rw [List.map_cons] at r
    cases r with
    | cons h t => exact .cons (kV_is h) (items_are t)

/-- raw entries of a dict with tuple keys -/
noncomputable abbrev KT (H : Hp) : List (List Key × V) → List (List Key × Addr × Value) → Prop := Paired fun p q => p.1 = q.1 ∧ H q.2.1 = some (.tup (p.1.map kV)) ∧ RelV p.2 q.2.2
theorem KT.val {H : Hp} {kvs : List (List Key × V)} {xs : List (List Key × Addr × Value)} (r : KT H kvs xs) (k : List Key) : RelO (valV kvs k) ((atKey xs k).map (·.2)) := by
  induction r with
  | nil => exact True.intro
  | @cons p q ps qs h t ih =>
    obtain ⟨h1, _, h2⟩ := h
    by_cases e : p.1 = k
    · have e' : q.1 = k := h1.symm.trans e
      have b : atKey (q :: qs) k = some q.2 := by simp [atKey, List.find?_cons, e']
      rw [valV_pos e, b]; exact h2
    · have e' : ¬ q.1 = k := fun z => e (h1.trans z)
      have b : atKey (q :: qs) k = atKey qs k := by simp [atKey, List.find?_cons, e']
      rw [valV_neg e, b]; exact ih
theorem KT.repl {H : Hp} {kvs : List (List Key × V)} {xs : List (List Key × Addr × Value)} (r : KT H kvs xs) (k : List Key) {y : V} {u : Value} (ry : RelV y u) :
    KT H (kvs.map fun kv => if kv.1 = k then (kv.1, y) else kv) (xs.map (putAt k u)) := by
  induction r with
  | nil => exact .nil
  | @cons p q ps qs h t ih =>
    rw [List.map_cons, List.map_cons]
    refine .cons ?_ ih
    obtain ⟨h1, h2, h3⟩ := h
    unfold putAt
    by_cases e : p.1 = k
    · rw [if_pos e, if_pos (h1.symm.trans e)]; exact ⟨h1, h2, ry⟩
    · rw [if_neg e, if_neg (fun z => e (h1.trans z))]; exact ⟨h1, h2, h3⟩
theorem KT.put {H : Hp} {kvs : List (List Key × V)} {xs : List (List Key × Addr × Value)} (r : KT H kvs xs) (k : List Key) {b : Addr} {y : V} {u : Value} (hb : H b = some (.tup (k.map kV))) (ry : RelV y u) :
    KT H (putK kvs k y) (storedH xs k b u) := by
  have e : (kvs.any fun kv => decide (kv.1 = k)) = (atKey xs k).isSome := by
    rw [valV_any, (r.val k).isSome_eq, Option.isSome_map]
  unfold putK storedH
  rw [e]
  by_cases q : (atKey xs k).isSome = true
  · rw [if_pos q, if_pos q]; exact r.repl k ry
  · rw [if_neg q, if_neg q]; exact Paired.snoc r ⟨rfl, hb, ry⟩
theorem KT.keeps {H H' : Hp} {kvs : List (List Key × V)} {xs : List (List Key × Addr × Value)} (r : KT H kvs xs) (ht : ∀ b ys, H b = some (.tup ys) → H' b = some (.tup ys)) : KT H' kvs xs :=
  Paired.mapP r fun _ _ z => ⟨z.1, ht _ _ z.2.1, z.2.2⟩

section
variable {P : Program} {w : World} {H : Hp} {h : Heap} {a : Addr}
theorem rd_of {u : HO} (ok : HOk P w H h) (e : Rd H a u) : ObjOk P w H h a u := e.ok ok
theorem dk_rd {kvs : List (Key × V)} (ok : HOk P w H h) (e : Rd H a (.dK kvs)) : kvs.length ≤ sizeLine ∧ (a == sysModules) = false ∧ ∃ vs, KV kvs vs ∧ h.DictOf (mixKind P w) a vs :=
  show ObjOk P w H h a (.dK kvs) from rd_of ok e
theorem dk_of {kvs : List (Key × V)} (ok : HOk P w H h) (e : H a = some (.dK kvs)) : kvs.length ≤ sizeLine ∧ (a == sysModules) = false ∧ ∃ vs, KV kvs vs ∧ h.DictOf (mixKind P w) a vs := dk_rd ok (.inl e)
/-- a tracked tuple of ints and texts is a key -/
theorem key_of {ks : List Key} (ok : HOk P w H h) (e : H a = some (.tup (ks.map kV))) : (tupleKind (mixKind P w)).is h ks a := by
  obtain ⟨_, its, r, o, h1, h2, n, h3⟩ := (show ObjOk P w H h a (.tup (ks.map kV)) from ok a _ e)
  exact ⟨o, its.toArray, n, h1, h2, h3, by simpa using items_are r⟩
theorem dt_rd {kvs : List (List Key × V)} (ok : HOk P w H h) (e : Rd H a (.dT kvs)) : kvs.length ≤ sizeLine ∧ (a == sysModules) = false ∧
    ∃ xs, KT H kvs xs ∧ h.DictOfH (tupleKind (mixKind P w)) a xs := by
  obtain ⟨z, y, xs, r, o, es, ep, h1, h2, h3, h4, h5⟩ := (show ObjOk P w H h a (.dT kvs) from rd_of ok e)
  refine ⟨z, y, xs, r, o, es, ep, h1, h2, h3, h4, fun x hx => ?_, h5⟩
  have all : ∀ {l : List (List Key × V)} {m : List (List Key × Addr × Value)}, KT H l m → ∀ x ∈ m, (tupleKind (mixKind P w)).is h x.1 x.2.1 := by
    intro l m q
    induction q with
    | nil => intro x hx; exact nomatch hx
    | @cons p q ps qs hq t ih =>
      intro x hx
      rcases List.mem_cons.mp hx with e | hx
      · subst e
        exact key_of ok (by rw [← hq.1]; exact hq.2.1)
      · exact ih x hx
  exact all r x hx
theorem dt_of {kvs : List (List Key × V)} (ok : HOk P w H h) (e : H a = some (.dT kvs)) : kvs.length ≤ sizeLine ∧ (a == sysModules) = false ∧
    ∃ xs, KT H kvs xs ∧ h.DictOfH (tupleKind (mixKind P w)) a xs := dt_rd ok (.inl e)
end

/-- what the dict at a holds at the key y -/
noncomputable def DGet (H : Hp) (a : Addr) (y : V) (r : Option V) : Prop :=
  (∃ kvs k, Rd H a (.dK kvs) ∧ y = kV k ∧ r = valV kvs k) ∨ ∃ kvs k b, Rd H a (.dT kvs) ∧ y = .ref b ∧ H b = some (.tup (k.map kV)) ∧ r = valV kvs k
/-- the heap behind a[y] = v -/
noncomputable def DPut (H : Hp) (a : Addr) (y v : V) (H' : Hp) : Prop :=
  (∃ kvs k, H a = some (.dK kvs) ∧ y = kV k ∧ kvs.length < sizeLine ∧ H' = upd H a (.dK (putK kvs k v))) ∨
  ∃ kvs k b, H a = some (.dT kvs) ∧ y = .ref b ∧ H b = some (.tup (k.map kV)) ∧ kvs.length < sizeLine ∧ H' = upd H a (.dT (putK kvs k v))
theorem DGet.k {H : Hp} {a : Addr} {kvs : List (Key × V)} {k : Key} (e : H a = some (.dK kvs)) : DGet H a (kV k) (valV kvs k) := .inl ⟨kvs, k, .inl e, rfl, rfl⟩
theorem DGet.t {H : Hp} {a b : Addr} {kvs : List (List Key × V)} {k : List Key} (e : H a = some (.dT kvs)) (eb : H b = some (.tup (k.map kV))) : DGet H a (.ref b) (valV kvs k) := .inr ⟨kvs, k, b, .inl e, rfl, eb, rfl⟩
theorem DPut.k {H : Hp} {a : Addr} {kvs : List (Key × V)} {k : Key} {v : V} (e : H a = some (.dK kvs)) (hl : kvs.length < sizeLine) : DPut H a (kV k) v (upd H a (.dK (putK kvs k v))) := .inl ⟨kvs, k, e, rfl, hl, rfl⟩
theorem DPut.t {H : Hp} {a b : Addr} {kvs : List (List Key × V)} {k : List Key} {v : V} (e : H a = some (.dT kvs)) (eb : H b = some (.tup (k.map kV))) (hl : kvs.length < sizeLine) :
    DPut H a (.ref b) v (upd H a (.dT (putK kvs k v))) := .inr ⟨kvs, k, b, e, rfl, eb, hl, rfl⟩


section
variable {X : Cx} {pins : List (Addr × Obj)} {σ : St} {H : Hp} {s : Shared} {a : Addr} {y v : V} {u r : Value} {o : Option V} {A : Around} {E : Value → Shared → Prop}

theorem Inv.big (I : Inv X pins σ H s) : sysModules < s.heap.objs.size := by
  have h : mainGlobals < s.heap.objs.size := (I.mod.glob.keeps I.bk).lt
  exact Nat.lt_trans (by decide) h

/-- d[y], there -/
theorem d_getItem {Q : Value → Shared → Prop} (hu : A.units + 1 < cLine) (I : Inv X pins σ H s) (g : DGet H a y (some v)) (ry : RelV y u) (h : ∀ w' s', Inv X pins σ H s' → RelV v w' → Q w' s') :
    wpAny (model X.prog X.w) A (getItem (.ref a) u) Q E s := by
  rcases g with ⟨kvs, k, e, ey, l⟩ | ⟨kvs, k, b, e, ey, eb, l⟩
  · subst ey
    obtain ⟨z, hd, vs, rel, dd⟩ := dk_rd I.hok e
    obtain ⟨w', hw, rw'⟩ := RelO.some_of (v := v) (o := valueAt vs k) (by rw [l]; exact rel.val k)
    exact wpAny_getItem_of (kV_is ry) dd.mapOf hw (h w' _ (I.tok _) rw')
  · subst ey
    cases (show u = Value.ref b from ry)
    obtain ⟨z, hd, xs, rel, dd⟩ := dt_rd I.hok e
    obtain ⟨w', hw, rw'⟩ := RelO.some_of (v := v) (o := (atKey xs k).map (·.2)) (by rw [l]; exact rel.val k)
    obtain ⟨p, hp, hp2⟩ := Option.map_eq_some_iff.mp hw
    refine wpAny_getItem_heap (tupleKind_room_in1 hu) (key_of I.hok eb) dd hp ?_
    rw [hp2]
    exact h w' _ (I.tok _) rw'
theorem d_notIn {Q : Value → Shared → Prop} (hu : A.units + 1 < cLine) (I : Inv X pins σ H s) (g : DGet H a y o) (ry : RelV y u) (h : ∀ s', Inv X pins σ H s' → Q (.bool (!o.isSome)) s') :
    wpAny (model X.prog X.w) A (compareOp .NotIn u (.ref a)) Q E s := by
  rcases g with ⟨kvs, k, e, ey, l⟩ | ⟨kvs, k, b, e, ey, eb, l⟩
  · subst ey
    obtain ⟨z, hd, vs, rel, dd⟩ := dk_rd I.hok e
    refine wpAny_notIn_of (kV_is ry) hd dd.mapOf ?_
    rw [← (rel.val k).isSome_eq, ← l]
    exact h _ (I.tok _)
  · subst ey
    cases (show u = Value.ref b from ry)
    obtain ⟨z, hd, xs, rel, dd⟩ := dt_rd I.hok e
    refine wpAny_notIn_heap (tupleKind_room_in1 hu) (key_of I.hok eb) hd dd ?_
    have q := (rel.val k).isSome_eq
    rw [Option.isSome_map] at q
    rw [← q, ← l]
    exact h _ (I.tok _)
/-- a dict's object is replaced -/
theorem d_write {h' : Heap} {t' : Nat} {ob : HO} (I : Inv X pins σ H s) (mu : Mut (H a)) (hs : Heap.SameBut a s.heap h') (he : ∃ q, h'.get? a = some q) (new : ObjOk X.prog X.w (upd H a ob) h' a ob) :
    Inv X pins σ (upd H a ob) { s with heap := h', toks := t' } :=
  I.write (x := a) (e := a) mu (.inl rfl) (fun b q hb z => (hs.2 b hb).trans z) he new
theorem dk_new {P : Program} {w : World} {H' : Hp} {h' : Heap} {kvs : List (Key × V)} {vs : List (Key × Value)} (z : kvs.length ≤ sizeLine) (hd : (a == sysModules) = false) (rel : KV kvs vs) (dd : h'.DictOf (mixKind P w) a vs) :
    ObjOk P w H' h' a (.dK kvs) := ⟨z, hd, vs, rel, dd⟩
/-- d[y] = v -/
theorem d_setItem {H' : Hp} {Q : Unit → Shared → Prop} (hu : A.units + 1 < cLine) (I : Inv X pins σ H s) (g : DPut H a y v H') (ry : RelV y u) (rv : RelV v r) (h : ∀ s', Inv X pins σ H' s' → Q () s') :
    wpAny (model X.prog X.w) A (setItem (.ref a) u r) Q E s := by
  rcases g with ⟨kvs, k, e, ey, l, eH⟩ | ⟨kvs, k, b, e, ey, eb, l, eH⟩
  · subst ey eH
    obtain ⟨z, hd, vs, rel, dd⟩ := dk_of I.hok e
    have hz : vs.length ≤ sizeLine := by rw [← rel.length]; exact z
    have hl : (putK kvs k v).length ≤ sizeLine := by have := length_putK kvs k v; omega
    refine wpAny_setItem_pairs (hsz := hz) (kV_is ry) dd fun h' dd' hs => h _ ?_
    have he : ∃ q, h'.get? a = some q := let ⟨q, _, _, hq, _⟩ := dd'; ⟨q, hq⟩
    exact d_write I (by rw [e]; exact True.intro) hs he (dk_new hl hd (rel.put k rv) dd')
  · subst ey eH
    cases (show u = Value.ref b from ry)
    obtain ⟨z, hd, xs, rel, dd⟩ := dt_of I.hok e
    have hz : xs.length ≤ sizeLine := by rw [← Paired.length rel]; exact z
    have hl : (putK kvs k v).length ≤ sizeLine := by have := length_putK kvs k v; omega
    refine wpAny_setItem_heap (hsz := hz) (tupleKind_room_in1 hu) (key_of I.hok eb) dd fun h' dd' hs => h _ ?_
    obtain ⟨q, es, ep, hq, h2, h3, h4, _, h5⟩ := dd'
    refine d_write I (by rw [e]; exact True.intro) hs ⟨q, hq⟩ ⟨hl, hd, _, (rel.put k eb rv).keeps fun c ys ec => ?_, q, es, ep, hq, h2, h3, h4, h5⟩
    rw [upd_ne (ne_of ec e (fun z => nomatch z))]
    exact ec
end

section
variable {X : Cx} {pins : List (Addr × Obj)} {σ : St} {H : Hp} {s : Shared} {a : Addr} {kvs : List (Key × V)} {k : Key} {u : Value} {A : Around} {E : Value → Shared → Prop}
end


/-! ### readings and rules -/
/-- the element of a subscription, not a slice -/
noncomputable def NoSl (i : Expr) : Prop := ∀ ov iv, subscripted i false ov iv = operate [ov, iv] (getItem ov iv)
theorem subD_of {prog : Program} {w : World} {A : Around} {E : Value → Shared → Prop} {s : Shared} {env : Env} {value slice : Expr} {pos : Pos} {T id : String} {Q : Value → Shared → Prop}
    (hl : typeLookup (.type T) "__getitem__" = pure (some (.builtin id))) (hs : NoSl slice)
    (h : wpAny (model prog w) A (eval value env) (fun o s₁ => wpAny (model prog w) A (eval slice env) (fun i s₂ => s₂.TypeIs o T ∧ wpAny (model prog w) A (getItem o i) Q E s₂) E s₁) E s) :
    wpAny (model prog w) A (eval (.Subscript value slice pos) env) Q E s := by
  refine Subscript_ (wpAny_mono h (fun o s₁ h₁ => wpAny_mono h₁ (fun i s₂ h₂ => ?_) fun _ _ x => x) fun _ _ x => x)
  obtain ⟨hT, h₂⟩ := h₂
  unfold subscriptTail
  refine wpAny_bind ?_
  rw [getitemInPython_of_ne hT.not_modules]
  refine wpAny_bind (wpAny_specialOf hT hl ?_)
  have fin : wpAny (model prog w) A (subscripted slice false o i) (fun r s₃ => wpAny (model prog w) A (letTemporaryGo value o r >>= fun _ => pure r) Q E s₃) E s₂ := by
    rw [hs o i]
    exact wpAny_operating (wpAny_mono h₂ (fun r s₃ h₃ => wpAny_bind (wpAny_letTemporaryGo (wpAny_pure h₃))) fun _ _ x => x)
  first
    | exact wpAny_pure (wpAny_bind fin)
    | exact wpAny_bind (wpAny_pure (wpAny_bind fin))
    | exact wpAny_bind fin

theorem dict_typeIs {X : Cx} {pins : List (Addr × Obj)} {σ : St} {H : Hp} {s : Shared} {a : Addr} {y : V} {o : Option V} (I : Inv X pins σ H s) (g : DGet H a y o) : s.TypeIs (.ref a) "dict" := by
  rcases g with ⟨kvs, k, e, _, _⟩ | ⟨kvs, k, b, e, _, _, _⟩
  · obtain ⟨_, _, vs, _, dd⟩ := dk_rd I.hok e
    exact dd.typeIs
  · obtain ⟨_, _, xs, _, dd⟩ := dt_rd I.hok e
    exact dd.typeIs
/-- d[y] -/
noncomputable def tDGet (td ty : TE) : TE := fun σ H Q => td σ H fun x H1 => ty σ H1 fun y H2 => ∃ a v, x = .ref a ∧ DGet H2 a y (some v) ∧ Q v H2
/-- y in d, y not in d -/
noncomputable def tDIn (ty td : TE) : TE := fun σ H Q => ty σ H fun y H1 => td σ H1 fun x H2 => ∃ a o, x = .ref a ∧ DGet H2 a y o ∧ Q (.bl o.isSome) H2
noncomputable def tDNotIn (ty td : TE) : TE := fun σ H Q => ty σ H fun y H1 => td σ H1 fun x H2 => ∃ a o, x = .ref a ∧ DGet H2 a y o ∧ Q (.bl (!o.isSome)) H2
/-- d[y] = v -/
noncomputable def sDPut (td ty tv : TE) : TS := fun D σ H => tv σ H fun v H1 => td σ H1 fun x H2 => ty σ H2 fun y H3 => ∃ a H4, x = .ref a ∧ DPut H3 a y v H4 ∧ D.nx σ H4
section
variable {X : Cx} {o i e value : Expr} {pos pos' tpos : Pos} {td ty tv : TE}
theorem pe_dget (hu : X.A.units + 1 < cLine) (ho : PE X o td) (hi : PE X i ty) (hs : NoSl i) : PE X (.Subscript o i pos) (tDGet td ty) := by
  intro pins s σ H Q I h
  refine subD_of PySem.F.slot_dict_getitem.lookup hs (thn (ho pins s σ H _ I h) fun u s1 ⟨x, H1, I1, rx, q1⟩ => thn (hi pins s1 σ H1 _ I1 q1) fun iv s2 ⟨y, H2, I2, ry, a, v, ex, g, q2⟩ => ?_)
  subst ex
  obtain rfl : u = Value.ref a := rx
  exact ⟨dict_typeIs I2 g, d_getItem hu I2 g ry fun w' s3 I3 rw' => ⟨v, H2, I3, rw', q2⟩⟩
theorem pc_dnotin (hu : X.A.units + 1 < cLine) (hi : PE X i ty) (ho : PE X o td) : PC X .NotIn i o (tDNotIn ty td) := by
  intro pins s σ H Q I h
  refine thn (hi pins s σ H _ I h) fun iv s1 ⟨y, H1, I1, ry, q1⟩ => thn (ho pins s1 σ H1 _ I1 q1) fun u s2 ⟨x, H2, I2, rx, a, ov, ex, g, q2⟩ => ?_
  subst ex
  obtain rfl : u = Value.ref a := rx
  exact d_notIn hu I2 g ry fun s3 I3 => ⟨.bl (!ov.isSome), H2, I3, rfl, q2⟩
theorem ps_dput (hu : X.A.units + 1 < cLine) (ho : PE X o td) (hi : PE X i ty) (hv : PE X value tv) (hs : swapsWith value (some (.Subscript o i pos')) pos.line X.env = pure false) :
    PS X (.Assign [.Subscript o i pos'] value pos) (sDPut td ty tv) := by
  intro pins s σ H D I h
  refine wpAny_Assign_Subscript (thn (hv pins s σ H _ I h) fun r s1 ⟨v, H1, I1, rv, q1⟩ => thn (ho pins s1 σ H1 _ I1 q1) fun u s2 ⟨x, H2, I2, rx, q2⟩ => thn (hi pins s2 σ H2 _ I2 q2) fun iv s3 ⟨y, H3, I3, ry, a, H4, ex, g, q3⟩ => ?_) hs
  subst ex
  obtain rfl : u = Value.ref a := rx
  exact d_setItem hu I3 g ry rv fun s4 I4 => ⟨σ, H4, I4, q3⟩
end


/-! ### displays -/
theorem dk_empty {P : Program} {w : World} {H : Hp} (h : Heap) (hb : sysModules < h.objs.size) : ObjOk P w H (h.push { cls := .type "dict", data := .dict #[] }) h.objs.size (.dK []) :=
  ⟨Nat.zero_le _, beq_eq_false_iff_ne.mpr (Ne.symm (Nat.ne_of_lt hb)), [], .nil, Heap.DictOf.new h⟩
theorem dt_empty {P : Program} {w : World} {H : Hp} (h : Heap) (hb : sysModules < h.objs.size) : ObjOk P w H (h.push { cls := .type "dict", data := .dict #[] }) h.objs.size (.dT []) :=
  ⟨Nat.zero_le _, beq_eq_false_iff_ne.mpr (Ne.symm (Nat.ne_of_lt hb)), [], .nil, _, #[], 0, Heap.get?_push_size _ rfl, ⟨rfl, rfl, rfl⟩, rfl, rfl, List.nodup_nil⟩
/-- {}, to be a dict of the kind that is wanted -/
noncomputable def tDNewK : TE := fun _ H Q => ∀ p, H p = none → Q (.ref p) (upd H p (.dK []))
noncomputable def tDNewT : TE := fun _ H Q => ∀ p, H p = none → Q (.ref p) (upd H p (.dT []))
section
variable {X : Cx} {pos : Pos}
theorem pe_dnewK : PE X (.Dict [] [] pos) tDNewK := fun pins s σ H Q I h =>
  wpAny_Dict_empty ⟨.ref s.heap.objs.size, _, I.laid (a := s.heap.objs.size) (o := .dK []) (t' := s.toks) (fun _ _ q => Heap.get?_push_of_some _ q) (Nat.le_refl _) (dk_empty s.heap I.big), rfl, h _ (I.hok.fresh (Nat.le_refl _))⟩
theorem pe_dnewT : PE X (.Dict [] [] pos) tDNewT := fun pins s σ H Q I h =>
  wpAny_Dict_empty ⟨.ref s.heap.objs.size, _, I.laid (a := s.heap.objs.size) (o := .dT []) (t' := s.toks) (fun _ _ q => Heap.get?_push_of_some _ q) (Nat.le_refl _) (dt_empty s.heap I.big), rfl, h _ (I.hok.fresh (Nat.le_refl _))⟩
end

/-- the pairs of a display, from the left -/
noncomputable def tPairs : List (TE × TE) → St → Hp → (List (V × V) → Hp → Prop) → Prop
  | [], _, H, Q => Q [] H
  | (tk, tv) :: r, σ, H, Q => tk σ H fun x H1 => tv σ H1 fun y H2 => tPairs r σ H2 fun ps H3 => Q ((x, y) :: ps) H3
noncomputable abbrev VV : List (V × V) → List (Value × Value) → Prop := Paired fun p q => RelV p.1 q.1 ∧ RelV p.2 q.2
noncomputable def PPs (X : Cx) (pos : Pos) (keys : List (Option Expr)) (values : List Expr) (trs : List (TE × TE)) : Prop :=
  ∀ (pins : List (Addr × Obj)) (s : Shared) (σ : St) (H : Hp) (Q : List (V × V) → Hp → Prop), Inv X pins σ H s → tPairs trs σ H Q →
    wpAny (model X.prog X.w) X.A (evalPairs (pairTrees keys values X.env pos)) (fun vs s' => ∃ ps H', Inv X pins σ H' s' ∧ VV ps vs ∧ Q ps H') X.xe s
theorem pps_nil {X : Cx} {pos : Pos} : PPs X pos [] [] [] := fun pins s σ H Q I h => pairTrees_nil_walk ⟨[], H, I, .nil, h⟩
theorem pps_cons {X : Cx} {pos : Pos} {k v : Expr} {ks : List (Option Expr)} {vs : List Expr} {tk tv : TE} {trs : List (TE × TE)} (hk : PE X k tk) (hv : PE X v tv) (hr : PPs X pos ks vs trs) :
    PPs X pos (some k :: ks) (v :: vs) ((tk, tv) :: trs) := fun pins s σ H Q I h =>
  pairTrees_cons_walk (thn (hk pins s σ H _ I h) fun u s1 ⟨x, H1, I1, rx, q1⟩ => thn (hv pins s1 σ H1 _ I1 q1) fun w2 s2 ⟨y, H2, I2, ry, q2⟩ =>
    thn (hr pins s2 σ H2 _ I2 q2) fun ws s3 ⟨ps, H3, I3, rel, q3⟩ => ⟨(x, y) :: ps, H3, I3, .cons ⟨rx, ry⟩ rel, q3⟩)

noncomputable def mergeK (kvs more : List (Key × V)) : List (Key × V) := more.foldl (fun acc kv => putK acc kv.1 kv.2) kvs
theorem KV.merge : ∀ {more : List (Key × V)} {rs : List (Key × Value)} {kvs : List (Key × V)} {vs : List (Key × Value)}, KV more rs → KV kvs vs → KV (mergeK kvs more) (merged vs rs) := by
  intro more rs kvs vs r
  unfold KV at r
  induction r generalizing kvs vs with
  | nil => intro q; exact q
  | @cons p q ps qs h t ih =>
    intro r0
    have e : KV (putK kvs p.1 p.2) (stored vs q.1 q.2) := by
      have := r0.put p.1 h.2
      rw [← h.1]; exact this
    exact ih e
theorem length_mergeK : ∀ (more kvs : List (Key × V)), (mergeK kvs more).length ≤ kvs.length + more.length
  | [], kvs => by show kvs.length ≤ kvs.length + 0; omega
  | p :: r, kvs => by
    have h1 := length_mergeK r (putK kvs p.1 p.2)
    have h2 := length_putK kvs p.1 p.2
    show (mergeK (putK kvs p.1 p.2) r).length ≤ _
    rw [List.length_cons]; omega
theorem carries_of {P : Program} {w : World} : ∀ {kvs : List (Key × V)} {ws : List (Value × Value)}, VV (kvs.map fun kv => (kV kv.1, kv.2)) ws → ∃ rs, Carries (mixKind P w) ws rs ∧ KV kvs rs
  | [], _, r => by rw [List.map_nil] at r; cases r; exact ⟨[], True.intro, .nil⟩
  | p :: kvs, _, r => by
    rw [List.map_cons] at r
    cases r with
    | @cons a b as bs h t =>
      obtain ⟨rs, c, q⟩ := carries_of (P := P) (w := w) t
      obtain ⟨b1, b2⟩ := b
      exact ⟨(p.1, b2) :: rs, ⟨kV_is h.1, rfl, c⟩, .cons ⟨rfl, h.2⟩ q⟩
/-- {k: v, ..} with keys ints and texts; the new dict stands empty while the pairs are made -/
noncomputable def tDisp (trs : List (TE × TE)) : TE := fun σ H Q => ∀ p, H p = none → tPairs trs σ (upd H p (.dK [])) fun ps H2 => H2 p = some (.dK []) ∧ ∃ kvs : List (Key × V), ps = kvs.map (fun kv => (kV kv.1, kv.2)) ∧ kvs.length ≤ 15 ∧ Q (.ref p) (upd H2 p (.dK (mergeK [] kvs)))
theorem pe_disp {X : Cx} {pos : Pos} {keys : List (Option Expr)} {values : List Expr} {trs : List (TE × TE)} (h : PPs X pos keys values trs) (hall : keys.all (·.isSome) = true) (hl : keys.length = values.length) (h0 : keys ≠ [])
    (h15 : keys.length ≤ 15) : PE X (.Dict keys values pos) (tDisp trs) := by
  intro pins s σ H Q I q
  have hn := I.hok.fresh (Nat.le_refl s.heap.objs.size)
  have I1 := I.laid (a := s.heap.objs.size) (o := .dK []) (h' := s.heap.push { cls := .type "dict", data := .dict #[] }) (t' := s.toks) (fun _ _ q => Heap.get?_push_of_some _ q) (Nat.le_refl _) (dk_empty s.heap I.big)
  refine wpAny_Dict_walk (knd := mixKind X.prog X.w) hall hl h0 h15 (thn (h pins _ σ _ _ I1 (q _ hn)) fun ws s2 ⟨ps, H2, I2, rel, e, kvs, ep, lk, q2⟩ => ?_)
  subst ep
  obtain ⟨rs, c, rk⟩ := carries_of (P := X.prog) (w := X.w) rel
  obtain ⟨z, hd, vs0, r0, dd⟩ := dk_of I2.hok e
  cases r0
  refine ⟨rs, c, dd, fun h' dd' hs => ⟨.ref s.heap.objs.size, _, ?_, rfl, q2⟩⟩
  have hz : (mergeK [] kvs).length ≤ sizeLine := by
    have h1 := length_mergeK kvs []
    rw [List.length_nil] at h1
    rw [sizeLine_eq]; omega
  have he : ∃ q, h'.get? s.heap.objs.size = some q := let ⟨q, _, _, hq, _⟩ := dd'; ⟨q, hq⟩
  exact d_write I2 (by rw [e]; exact True.intro) hs he (dk_new hz hd (rk.merge .nil) dd')


/-! ### methods -/
/-- a method call o.m(e) of a built-in, with one argument: what must be seen of the text -/
structure M1 (X : Cx) (o : Expr) (m : Str) (apos : Pos) (e : Expr) (cpos : Pos) : Prop where
  base : attributeBase o m X.env (eval o X.env) = eval o X.env
  few : ((backTo cpos (starEach [e] X.env)).all (fun x => !x.1) && (backToKw cpos (keywordEach [] X.env)).all (fun x => x.1.isSome)
    && decide (([e] : List Expr).length + ([] : List Keyword).length + (if ([] : List Keyword).isEmpty then 0 else 1) < 30)) = true
  line : (apos.endLine == cpos.line) = true
  trees : backTo cpos (starEach [e] X.env) = [(false, eval e X.env)]
structure M2 (X : Cx) (o : Expr) (m : Str) (apos : Pos) (e f : Expr) (cpos : Pos) : Prop where
  base : attributeBase o m X.env (eval o X.env) = eval o X.env
  few : ((backTo cpos (starEach [e, f] X.env)).all (fun x => !x.1) && (backToKw cpos (keywordEach [] X.env)).all (fun x => x.1.isSome)
    && decide (([e, f] : List Expr).length + ([] : List Keyword).length + (if ([] : List Keyword).isEmpty then 0 else 1) < 30)) = true
  line : (apos.endLine == cpos.line) = true
  trees : backTo cpos (starEach [e, f] X.env) = [(false, eval e X.env), (false, eval f X.env)]

/-- a is a dict, whatever its keys -/
noncomputable def IsD (H : Hp) (a : Addr) : Prop := (∃ kvs, Rd H a (.dK kvs)) ∨ ∃ kvs, Rd H a (.dT kvs)
theorem isD_at {X : Cx} {pins : List (Addr × Obj)} {σ : St} {H : Hp} {s : Shared} {a : Addr} (I : Inv X pins σ H s) (d : IsD H a) :
    s.TypeIs (.ref a) "dict" ∧ (∀ b, Value.ref a = .ref b → ∃ ob, s.heap.get? b = some ob ∧ ob.dict = none) ∧ (a == sysModules) = false := by
  rcases d with ⟨kvs, e⟩ | ⟨kvs, e⟩
  · obtain ⟨_, hd, vs, _, dd⟩ := dk_rd I.hok e
    refine ⟨dd.typeIs, fun b q => ?_, hd⟩
    cases q
    obtain ⟨ob, _, _, h1, h2, _⟩ := dd
    exact ⟨ob, h1, h2.2.1⟩
  · obtain ⟨_, hd, xs, _, dd⟩ := dt_rd I.hok e
    refine ⟨dd.typeIs, fun b q => ?_, hd⟩
    cases q
    obtain ⟨ob, _, _, h1, h2, _⟩ := dd
    exact ⟨ob, h1, h2.2.1⟩

section
variable {X : Cx} {pins : List (Addr × Obj)} {σ : St} {H : Hp} {s : Shared} {a : Addr} {y d : V} {u r : Value} {o : Option V} {A : Around} {E : Value → Shared → Prop}
/-- d.get(y) -/
theorem d_get1 {Q : Value → Shared → Prop} (hu : A.units + 1 < cLine) (I : Inv X pins σ H s) (g : DGet H a y o) (ry : RelV y u) (h : ∀ w' s', Inv X pins σ H s' → RelV (o.getD .non) w' → Q w' s') :
    wpAny (model X.prog X.w) A (call (.builtin "dict.get") [.ref a, u]) Q E s := by
  rcases g with ⟨kvs, k, e, ey, l⟩ | ⟨kvs, k, b, e, ey, eb, l⟩
  · subst ey
    obtain ⟨z, hd, vs, rel, dd⟩ := dk_rd I.hok e
    refine call_meetsIn PySem.F.slot_dict_get dd.typeIs PySem.F.entry_dict_get (PySem.F.args_dict_get_2 _ _) (meets_dict_get (mixKind X.prog X.w) a (kV_is ry) hd) ⟨_, dd.mapOf, h _ _ (I.tok _) ?_⟩
    rw [l]
    exact (rel.val k).getD rfl
  · subst ey
    cases (show u = Value.ref b from ry)
    obtain ⟨z, hd, xs, rel, dd⟩ := dt_rd I.hok e
    refine call_meetsIn PySem.F.slot_dict_get dd.typeIs PySem.F.entry_dict_get (PySem.F.args_dict_get_2 _ _) (meetsH_dict_get (tupleKind (mixKind X.prog X.w)) a b hd) ⟨tupleKind_room_in1 hu, k, xs, key_of I.hok eb, dd, h _ _ (I.tok _) ?_⟩
    rw [l]
    exact (rel.val k).getD rfl
/-- d.get(y, x) -/
theorem d_get2 {Q : Value → Shared → Prop} (hu : A.units + 1 < cLine) (I : Inv X pins σ H s) (g : DGet H a y o) (ry : RelV y u) (rd : RelV d r) (h : ∀ w' s', Inv X pins σ H s' → RelV (o.getD d) w' → Q w' s') :
    wpAny (model X.prog X.w) A (call (.builtin "dict.get") [.ref a, u, r]) Q E s := by
  rcases g with ⟨kvs, k, e, ey, l⟩ | ⟨kvs, k, b, e, ey, eb, l⟩
  · subst ey
    obtain ⟨z, hd, vs, rel, dd⟩ := dk_rd I.hok e
    refine call_meetsIn PySem.F.slot_dict_get dd.typeIs PySem.F.entry_dict_get (PySem.F.args_dict_get_3 _ _ _) (meets_dict_get_default (mixKind X.prog X.w) a (kV_is ry) hd r) ⟨_, dd.mapOf, h _ _ (I.tok _) ?_⟩
    rw [l]
    exact (rel.val k).getD rd
  · subst ey
    cases (show u = Value.ref b from ry)
    obtain ⟨z, hd, xs, rel, dd⟩ := dt_rd I.hok e
    refine call_meetsIn PySem.F.slot_dict_get dd.typeIs PySem.F.entry_dict_get (PySem.F.args_dict_get_3 _ _ _) (meetsH_dict_get_default (tupleKind (mixKind X.prog X.w)) a b hd r) ⟨tupleKind_room_in1 hu, k, xs, key_of I.hok eb, dd, h _ _ (I.tok _) ?_⟩
    rw [l]
    exact (rel.val k).getD rd
end

noncomputable def tDGet1 (td ty : TE) : TE := fun σ H Q => td σ H fun x H1 => ∃ a, x = .ref a ∧ IsD H1 a ∧ ty σ H1 fun y H2 => ∃ o, DGet H2 a y o ∧ Q (o.getD .non) H2
noncomputable def tDPop2 (td ty tx : TE) : TE := fun σ H Q => td σ H fun x H1 => ∃ a, x = .ref a ∧ IsD H1 a ∧ ty σ H1 fun y H2 => tx σ H2 fun z H3 => ∃ kvs k, H3 a = some (.dK kvs) ∧ y = kV k ∧
  (∀ v, valV kvs k = some v → Q v (upd H3 a (.dK (dropK kvs k)))) ∧ (valV kvs k = none → Q z H3)
section
variable {X : Cx} {o e f : Expr} {apos cpos : Pos} {td ty tx : TE}
end

/-! ### dict(d): a copy -/
section
variable {X : Cx} {pins : List (Addr × Obj)} {σ : St} {H : Hp} {s : Shared} {a : Addr} {kvs : List (Key × V)} {A : Around} {E : Value → Shared → Prop}
theorem d_copyOf {Q : Value → Shared → Prop} (I : Inv X pins σ H s) (e : Rd H a (.dK kvs)) (h : ∀ p s', H p = none → Inv X pins σ (upd H p (.dK kvs)) s' → Q (.ref p) s') : wpAny (model X.prog X.w) A (call (.type "dict") [.ref a]) Q E s := by
  obtain ⟨z, hd, vs, rel, dd⟩ := dk_rd I.hok e
  refine kt_call_dict hd dd (by rw [← rel.length]; exact z) fun h' dd' hs => ?_
  refine h _ _ (I.hok.fresh (Nat.le_refl _)) (I.laid (a := s.heap.objs.size) (o := .dK kvs) (t' := s.toks) (fun b q hq => ?_) (Nat.le_refl _) (dk_new z (beq_eq_false_iff_ne.mpr (Ne.symm (Nat.ne_of_lt I.big))) rel dd'))
  exact (hs.2 b (Nat.ne_of_lt (Heap.lt_size hq))).trans (Heap.get?_push_of_some _ hq)
end


section
variable {X : Cx} {pins : List (Addr × Obj)} {σ : St} {H : Hp} {s : Shared} {a : Addr} {y : V} {u : Value} {A : Around} {E : Value → Shared → Prop}
end
end L2

namespace Att
open PySem PySem.W PySem.Calls PyProof.Rows

/-! ### the script -/
theorem ints_of_wellAll {P : Params} {h : Heap} : ∀ (ns : List Int) (vs : List Value), WellAll P h vs (ns.map WData.int) → IntsAre vs ns := by
  intro ns
  induction ns with
  | nil =>
    intro vs w
    rw [List.map_nil] at w
    cases w
    exact .nil
  | cons n ns ih =>
    intro vs w
    rw [List.map_cons] at w
    cases w with
    | cons a b =>
      cases a
      exact .cons _ _ (ih _ b)

theorem script_of {l : OpenLaw} {n : Nat} (hn : l.most = some n) {P : Params} {h : Heap} {args : List WData} {vals : List Value}
    (hpre : l.row.toRowW.claim.pre args = true) (hwl : WellAll P h vals args) :
    ∃ a vs ns, vals = [Value.ref a] ∧ args = [WData.list (ns.map WData.int)] ∧ h.get? a = some { cls := .type "list", data := .seq vs.toArray } ∧ IntsAre vs ns ∧ ns.length ≤ n := by
  have hsh : WShape.hasAll [] args [.list .int] = true := (pre_splitW hpre).1
  have hc : l.pre.holds [] { args := args } = true := (pre_splitW hpre).2
  obtain ⟨d, r, rfl, h1, h2⟩ := hasAllW_cons hsh
  obtain rfl := hasAllW_nil h2
  obtain ⟨xs, rfl, h3⟩ := hasW_list h1
  obtain ⟨ns, rfl⟩ := items_int h3
  have hlen : ns.length ≤ n := by
    unfold OpenLaw.pre at hc
    have h4 : (WTm.not (.lt (.lit (.int (n : Int))) (.len (.arg 0)))).holds [] { args := [.list (ns.map .int)] } = true := by
      have h4 := (holds_andW hc).1
      rw [hn] at h4
      exact h4
    have h5 := condW_of h4 (w_not (w_lt w_lit (w_len_list (w_arg rfl))))
    rw [List.length_map] at h5
    refine Nat.le_of_not_lt fun q => ?_
    have q' : (n : Int) < ((ns.length : Nat) : Int) := by omega
    first
      | (rw [decide_eq_true q'] at h5; exact absurd h5 (by decide))
      | (simp at h5; omega)
  cases hwl with
  | cons w1 w2 =>
    cases w2
    cases w1 with
    | list ho hall => exact ⟨_, _, ns, rfl, rfl, ho, ints_of_wellAll ns _ hall, hlen⟩

theorem post_true (l : OpenLaw) (args : List WData) : l.row.toRowW.claim.post args (.bool true) args = true :=
  postW_of (r := l.row.toRowW) (X := (true == true))
    (show WShape.has [] (.bool true) .bool = true by first | rfl | decide | simp [WShape.has, WShape.arms, WShape.armsAll])
    (show (WTm.eq .res (.lit (.bool true))).value [] { args := args, res := some (.bool true), after := args } = some (.bool (true == true)) from w_eq_bool (w_res rfl) w_lit) rfl

/-! ### the attachment: holds_open's last premise (the goal 'hc' behind k_head) from a wpAny of the law's body -/
/-- the same from a codeAny of the CALL (for a layer whose function contracts speak of calls) -/
theorem attach_call {l : OpenLaw} {n : Nat} {q : Program} {loose : List Str} {XP : (Str → Option Value) → Heap → Prop} {YP : World → Heap → Prop} {d : DefRec}
    (hn : l.most = some n) (hdf : d.params.defaults = [])
    (call : ∀ (w : World) (s₀ s₁ : Shared) (mg mb : Str → Option Value) (fa : Addr) (o : Obj) (pm cd doc : Value) (a : Addr) (vs : List Value) (ns : List Int),
      Ground q loose [] XP w s₀ mg mb s₁.heap → YP w s₁.heap →
      s₁.heap.get? fa = some o → o.data = .func (docDef d.name d.params d.body d.scope pm cd doc) → s₁.heap.CodeRec cd d.name → mg d.name = some (.ref fa) →
      s₁.heap.get? a = some { cls := .type "list", data := .seq vs.toArray } → IntsAre vs ns → ns.length ≤ n → s₁.gens = #[] →
      codeAny (model l.prog w) callerA (.call (.ref fa) ⟨[.ref a], []⟩) (fun r s' => r = .ok (.ret (.bool true)) ∧ OldK s₁.heap s'.heap ∧ s'.os = s₁.os ∧ AllBare s'.gens) s₁) :
    WalkO q loose XP YP l.row.toRowW d [] (fun f vs => PySem.call f vs) := by
  intro w s₀ s₁ mg mb G Y fa o pm cd doc dV kV ho hd hcd hD hmg hg args vals as hpre hlay hrd hwl hlo
  obtain rfl : dV = .none := Dflts.none hD hdf
  obtain rfl : kV = .none := Dflts.noKw hD
  obtain ⟨a, vs, ns, rfl, rfl, hobj, hints, hlen⟩ := script_of hn hpre hwl
  refine enter_call (codeAny_mono (call w s₀ s₁ mg mb fa o pm cd doc a vs ns G Y ho (fd_plain hd) hcd hmg hobj hints hlen hg) fun r s' hq => ?_)
  obtain ⟨rfl, h2, h3, h4⟩ := hq
  exact ⟨.inl ⟨.bool true, .bool true, [], rfl, fun _ => rfl, .bool true, post_true l _, fun _ => ⟨List.Pairwise.nil, fun _ hm => (nomatch hm)⟩⟩, h2, h3, h4⟩

/-! ### rules over ANY heap (no ledger) from facts about the written part K: the library's own take a ledger (News) for what they write -/
section
variable {prog : Program} {w : World} {A : Around} {E : Value → Shared → Prop} {s : Shared} {K : Frag}

/-! the whole heap as the ledger: makes every rule that writes through a ledger a rule over any heap -/
noncomputable def noObjs (h : Heap) : Heap := { h with objs := #[] }
theorem noObjs_get (h : Heap) (b : Addr) : (noObjs h).get? b = none := by
  cases e : (noObjs h).get? b with
  | none => rfl
  | some o => exact absurd (Heap.lt_size e) (Nat.not_lt_zero _)
noncomputable def ledger (h : Heap) (L d : Addr) : List (Addr × Obj) := (List.range h.objs.size).filterMap fun a => if a = L ∨ a = d then none else (h.get? a).map fun o => (a, o)
theorem mem_ledger {h : Heap} {L d a : Addr} {o : Obj} : (a, o) ∈ ledger h L d ↔ a ≠ L ∧ a ≠ d ∧ h.get? a = some o := by
  unfold ledger
  rw [List.mem_filterMap]
  constructor
  · rintro ⟨b, _, e⟩
    split at e
    · cases e
    · rename_i hb
      obtain ⟨o', ho, e'⟩ := Option.map_eq_some_iff.mp e
      cases e'
      exact ⟨fun q => hb (.inl q), fun q => hb (.inr q), ho⟩
  · rintro ⟨n1, n2, ho⟩
    refine ⟨a, List.mem_range.mpr (Heap.lt_size ho), ?_⟩
    rw [if_neg (show ¬ (a = L ∨ a = d) from fun q => q.elim n1 n2), ho] <;> rfl
theorem news_ledger {h : Heap} {L d : Addr} {od : Obj} (hne : d ≠ L) (ho : h.get? d = some od) : News (noObjs h) L h ([] ++ (d, od) :: ledger h L d) := by
  rintro ⟨a, o⟩ hp
  rcases List.mem_cons.mp hp with e | hp
  · cases e
    exact ⟨ho, hne, noObjs_get _ _⟩
  · obtain ⟨n1, n2, e⟩ := mem_ledger.mp hp
    exact ⟨e, n1, noObjs_get _ _⟩
theorem fr_all {h : Heap} {L : Addr} {m : Str → Option Value} (n : h.Ns L m) : Fr (noObjs h) L h m :=
  ⟨n, fun b o e => (by rw [noObjs_get] at e; cases e), Nat.zero_le _⟩
end
end Att

namespace L2
open PySem PySem.Spec PyProof.Rows

theorem vals_ints : ∀ {vs : List Value} {ns : List Int}, IntsAre vs ns → Vals (ns.map V.int) vs
  | _, _, .nil => .nil
  | _, _, .cons n t h => .cons ⟨t, rfl⟩ (vals_ints h)

/-- nothing is tracked but the script, known to the object (or it is an object of the module) -/
noncomputable def Only (H : Hp) : Prop := ∀ b, H b = none ∨ ∃ o xs, H b = some (.frz o (.lst xs))

/-- THE HEAD: the law's promise, at the heap behind the top. F, the promise of the law's def, may use that base is part of the heap (so K.In base, base.Ns mainGlobals mg stand in Mod) -/
theorem law_call {P : Program} {w : World} {K : PySem.W.Frag} {mg mb : Str → Option Value} {CX : CXT} {k : Nat} {fa a : Addr} {fd : FuncData} {x : Str} {sp : Sp} {s₁ : Shared} {vs : List Value} {ns : List Int}
    (KX : K.In s₁.heap) (hns : s₁.heap.Ns mainGlobals mg) (hb : s₁.heap.Ns builtinsNs mb) (hbb : ∀ x : Str, x ≠ "__name__" → mb x = bootBuiltins x) (hlim : s₁.heap.NoLimit) (hg : s₁.gens = #[])
    (ha : s₁.heap.get? a = some { cls := .type "list", data := .seq vs.toArray }) (hi : IntsAre vs ns) (hl : ns.length ≤ sizeLine) (hr : Room k callerA)
    (F : ∀ base : Heap, K.In base → base.Ns mainGlobals mg → FnOk P w K mg base CX k fa fd [x] sp) (hbind : ∀ (s : Shared) (u : Value), BindsTo s fd ⟨[u], []⟩ [(x, u)])
    (hsp : ∀ H : Hp, Only H → SqL K H a (ns.map V.int) → sp [.ref a] H (fun v _ => v = .bl true) fun _ _ _ => False)
    (hCX : ∀ H e s', CX [] H s₁ (fun _ _ _ => False) e s' → False) :
    codeAny (model P w) callerA (.call (.ref fa) ⟨[.ref a], []⟩) (fun r s' => r = .ok (.ret (.bool true)) ∧ OldK s₁.heap s'.heap ∧ s'.os = s₁.os ∧ AllBare s'.gens) s₁ := by
  have rv := vals_ints hi
  have lenV := hi.length
  -- from an abstract heap in which nothing but the script may be tracked
  have core : ∀ H : Hp, Only H → SqL K H a (ns.map V.int) → HOk P w H s₁.heap → (∀ b, H b ≠ none → b = a) → (H a ≠ none → K.lookup a = none) →
      codeAny (model P w) callerA (.call (.ref fa) ⟨[.ref a], []⟩) (fun r s' => r = .ok (.ret (.bool true)) ∧ OldK s₁.heap s'.heap ∧ s'.os = s₁.os ∧ AllBare s'.gens) s₁ := by
    intro H hO hS hok hA hK
    have base_of : ∀ {b : Addr} {o : Obj}, s₁.heap.get? b = some o → H b = none → (hidT s₁.heap H).get? b = some o := fun e n => hidT_get e n
    have noA : ∀ {b : Addr} {o : Obj} {es : Array DictEntry} {ep : Nat}, s₁.heap.get? b = some o → o.data = .dict es ep → H b = none := fun {b o es ep} e d => by
      cases q : H b with
      | none => rfl
      | some u =>
        have e' : b = a := hA b (by rw [q]; simp)
        subst e'
        rw [ha] at e; cases e
        have d' : Data.seq vs.toArray _ = Data.dict es ep := d
        cases d'
    have nsK : ∀ {b : Addr} {m : Str → Option Value}, s₁.heap.Ns b m → (hidT s₁.heap H).Ns b m := fun {b m} ⟨o, es, ep, e, d, r⟩ => ⟨o, es, ep, base_of e (noA e d), d, r⟩
    have hKb : K.In (hidT s₁.heap H) := fun b o e => base_of (KX b o e) (by
      cases q : H b with
      | none => rfl
      | some u =>
        have e' : b = a := hA b (by rw [q]; simp)
        subst e'
        rw [hK (by rw [q]; simp)] at e; cases e)
    have hM : Mod K mg (hidT s₁.heap H) := ⟨hKb, nsK hns, ⟨mb, nsK hb, hbb⟩, let ⟨mc, h1, h2⟩ := hlim; ⟨mc, nsK h1, h2⟩⟩
    have e0 : Env0 P w K mg (hidT s₁.heap H) callerA [] s₁ H := ⟨rfl, hM, fun b o e => of_hidT e, Nat.le_of_eq (hidT_size _ _), trivial, fun b hb => absurd (show b ∈ ([] : List Addr) from hb) (by simp), hok, .of_eq hg⟩
    refine codeAny_mono ((F _ hKb (nsK hns)).run callerA [] s₁ H ⟨[.ref a], []⟩ [.ref a] [.ref a] _ _ hr e0 (hbind s₁ (.ref a)) (.cons rfl .nil) (hsp H hO hS)) fun r s' h => ?_
    cases r with
    | error e => exact (hCX H e s' h).elim
    | ok fl =>
      cases fl with
      | next => exact False.elim h
      | brk => exact False.elim h
      | cont => exact False.elim h
      | ret u =>
        obtain ⟨v, H', os, bare, un, hok', r', q⟩ := h
        have q' : v = .bl true := q
        subst q'
        obtain rfl : u = Value.bool true := r'
        refine ⟨rfl, OldK.of_keep fun b o e => ?_, os, bare⟩
        cases q : H b with
        | none => exact un.keep b o e q (by intro z; exact absurd (show b ∈ ([] : List Addr) from z) (by simp)) (by simp)
        | some u =>
          rcases hO b with z | ⟨ob, xs, z⟩
          · rw [q] at z; cases z
          · have z2 := un.frzs b ob _ z
            obtain ⟨e1, _⟩ := hok b _ z
            obtain ⟨e2, _⟩ := hok' b _ z2
            rw [e] at e1; cases e1
            exact e2
  cases hk : K.lookup a with
  | some o =>
    -- the script is one of the module's own objects
    have e := KX a o hk
    rw [ha] at e
    cases e
    refine core (fun _ => none) (fun _ => .inl rfl) (.inr ⟨_, vs.toArray, _, hk, rfl, rfl, rfl, by rw [List.size_toArray, lenV]; exact hl, by simpa using rv⟩) (fun b u z => by have z' : (none : Option HO) = some u := z; cases z') (fun b z => absurd rfl z) fun z => absurd rfl z
  | none =>
    refine core (fun b => if b = a then some (.frz { cls := .type "list", data := .seq vs.toArray } (.lst (ns.map V.int))) else none) (fun b => ?_) (.inl (.inr ⟨{ cls := .type "list", data := .seq vs.toArray }, if_pos rfl⟩)) (fun b u z => ?_) (fun b z => ?_) fun _ => hk
    · by_cases hb : b = a
      · exact .inr ⟨_, _, if_pos hb⟩
      · exact .inl (if_neg hb)
    · by_cases hb : b = a
      · have z' := (if_pos hb).symm.trans z
        cases z'
        subst hb
        exact ⟨ha, by rw [List.length_map]; exact hl, vs, _, rv, ha⟩
      · have z' := (if_neg hb).symm.trans z
        cases z'
    · by_cases hb : b = a
      · exact hb
      · exact absurd (if_neg hb) z
end L2

namespace L2
open PySem PySem.Spec PyProof.Rows

/-- the goal that k_head leaves (case hc), from the law's promise. F gives the function object fd (K's own) once, then the promise over every base -/
theorem walk_of {l : PySem.W.OpenLaw} {n k : Nat} {q : Program} {loose : List Str} {XP : (Str → Option Value) → Heap → Prop} {YP : World → Heap → Prop} {d : DefRec} {K : Params → PySem.W.Frag} {CX : World → CXT} {sp : World → Sp} {x : Str}
    (hn : l.most = some n) (hn2 : n ≤ sizeLine) (hdf : d.params.defaults = []) (hr : Room k callerA)
    (hY : ∀ (w : World) (h : Heap), YP w h → (K w.params).In h)
    (F : ∀ (w : World) (mg : Str → Option Value) (fa : Addr) (h : Heap), (K w.params).In h → h.Ns mainGlobals mg → mg d.name = some (.ref fa) →
      ∃ fd : FuncData, (∀ (s : Shared) (u : Value), BindsTo s fd ⟨[u], []⟩ [(x, u)]) ∧
        ∀ base : Heap, (K w.params).In base → base.Ns mainGlobals mg → FnOk l.prog w (K w.params) mg base (CX w) k fa fd [x] (sp w))
    (hsp : ∀ (w : World) (H : Hp) (a : Addr) (ns : List Int), ns.length ≤ n → Only H → SqL (K w.params) H a (ns.map V.int) → sp w [.ref a] H (fun v _ => v = .bl true) fun _ _ _ => False)
    (hCX : ∀ (w : World) (H : Hp) (s : Shared) (e : Value) (s' : Shared), CX w [] H s (fun _ _ _ => False) e s' → False) :
    PySem.W.WalkO q loose XP YP l.row.toRowW d [] (fun f vs => PySem.call f vs) := by
  refine Att.attach_call hn hdf fun w s₀ s₁ mg mb fa o pm cd doc a vs ns G Y ho hd hcd hmg hobj hints hlen hg => ?_
  have KX := hY w _ Y
  obtain ⟨fd, hb, hF⟩ := F w mg fa _ KX G.T.g hmg
  exact law_call KX G.T.g G.T.b G.T.builtins G.T.nolimit hg hobj hints (Nat.le_trans hlen hn2) hr hF hb (fun H hO hS => hsp w H a ns hlen hO hS) fun H e s' => hCX w H s₁ e s'
end L2



/-! SHORT WORDS over the layer: a def of the text, its body, what a loop and a test want. -/
namespace L2
open PySem PySem.Spec PyProof.Rows

/-! ### the text by places -/
/-- the j-th statement of a class's body -/
noncomputable def inClass (s : Stmt) (j : Nat) : Stmt := match s with
  | .ClassDef _ _ _ body _ _ _ _ _ _ _ => body.getD j (.Pass ⟨0, 0, 0, 0⟩)
  | _ => .Pass ⟨0, 0, 0, 0⟩
noncomputable def defArgs (s : Stmt) : Arguments := match s with
  | .FunctionDef _ a _ _ _ _ _ _ _ _ => a
  | _ => { posonlyargs := [], args := [], vararg := none, kwonlyargs := [], kw_defaults := [], kwarg := none, defaults := [] }
noncomputable def defBody (s : Stmt) : List Stmt := match s with
  | .FunctionDef _ _ b _ _ _ _ _ _ _ => b
  | _ => []
noncomputable def defScope (s : Stmt) : Scope := match s with
  | .FunctionDef _ _ _ _ _ _ sc _ _ _ => sc
  | _ => { kind := .function, names := [], isGenerator := false, isCoroutine := false }

/-! ### no exception leaves a def -/
noncomputable abbrev CX0 : CXT := fun _ _ _ _ _ _ => False
noncomputable abbrev E0 : XK := fun _ _ _ => False
theorem pass0 {X : Cx} : Passes CX0 X E0 := fun _ _ _ _ _ _ _ h => h.elim

/-! ### a def (or method) of the text as it stands behind the top -/
structure Fun (K : PySem.W.Frag) (x qual : Str) (st : Stmt) (f : Addr) (fd : FuncData) : Prop where
  ex : ∃ (oc : Value) (od : Option Addr) (kV doc pm : Value) (an : Option Addr) (cdv ct : Value) (osl : Array (Option Value)),
    fd = PySem.W.fnOf x qual (defArgs st) (defBody st) (defScope st) .none kV doc pm an cdv ct ∧ K.lookup f = some ⟨oc, od, .func fd, osl⟩ ∧ PySem.W.codeIn K cdv qual = true
  kp : PySem.W.keepIn K (.ref f) = true
section
variable {P : Program} {w : World} {K : PySem.W.Frag} {mg : Str → Option Value} {base : Heap}
/-- THE RULE for a def: its body as a term of rules, and the reading of that term -/
theorem Fun.ok {x qual : Str} {st : Stmt} {f : Addr} {fd : FuncData} {N ps : List Str} {k : Nat} {sp : Sp} (F : Fun K x qual st f fd) (S : FnScope N ps (defScope st)) (len : ∀ vs H Q E, sp vs H Q E → vs.length = ps.length)
    (hbody : ∀ (cdv : Value) (A : Around) (outer : List Env) (s : Shared) (H : Hp) (vs : List V) (Q : VK) (E : XK), Room k (A.deeper (envOfC qual (defScope st) s.heap.objs.size f cdv)) → sp vs H Q E →
      ∃ t, PSs (cxOf CX0 P w K mg base N qual (defScope st) f cdv A outer s H E).nox (defBody st) t ∧ t { nx := fun _ H' => Q .non H', rt := Q } (start N vs) H) : FnOk P w K mg base CX0 (k + 1) f fd ps sp := by
  obtain ⟨oc, od, kV, doc, pm, an, cdv, ct, osl, rfl, lk, hcd⟩ := F.ex
  refine fn_of lk hcd S len fun A outer s H vs Q E hr hsp => ?_
  obtain ⟨t, h, q⟩ := hbody cdv A outer s H vs Q E hr hsp
  exact ⟨t, h.nox, q⟩
/-- how its arguments bind (no defaults): h is «fun _ _ _ _ _ _ us hl => match us, hl with | [_, _], _ => rfl», one _ a parameter -/
theorem Fun.binds {x qual : Str} {st : Stmt} {f : Addr} {fd : FuncData} {ps : List Str} (F : Fun K x qual st f fd)
    (h : ∀ (kV doc pm : Value) (an : Option Addr) (cdv ct : Value) (us : List Value), us.length = ps.length → bindArgs (PySem.W.fnOf x qual (defArgs st) (defBody st) (defScope st) .none kV doc pm an cdv ct) ⟨us, []⟩ = pure (ps.zip us)) : Binds K fd ps [] := by
  obtain ⟨oc, od, kV, doc, pm, an, cdv, ct, osl, rfl, lk, hcd⟩ := F.ex
  exact .all (h kV doc pm an cdv ct)
theorem fun_mk {x qual : Str} {st : Stmt} {f : Addr} {oc : Value} {od an : Option Addr} {osl : Array (Option Value)} {kV doc pm cdv ct : Value} (l : K.lookup f = some ⟨oc, od, .func (PySem.W.fnOf x qual (defArgs st) (defBody st) (defScope st) .none kV doc pm an cdv ct), osl⟩)
    (c : PySem.W.codeIn K cdv qual = true) (k : PySem.W.keepIn K (.ref f) = true) : Fun K x qual st f (PySem.W.fnOf x qual (defArgs st) (defBody st) (defScope st) .none kV doc pm an cdv ct) := ⟨⟨oc, od, kV, doc, pm, an, cdv, ct, osl, rfl, l, c⟩, k⟩
end
theorem hu_of {A : Around} {k : Nat} (hr : Room k A) : A.units + 1 < cLine := Nat.lt_of_le_of_lt (Nat.add_le_add_left (by decide : 1 ≤ 64) _) hr.units
theorem small1000 {n : Nat} (h : n ≤ 1000) : n < sizeLine := Nat.lt_of_le_of_lt h (by decide)

/-! ### expressions in short: the name that stands in the i-th slot -/
section
variable {X : Cx}
theorem pv (i : Nat) {x : Str} {pos : Pos} (hN : X.N[i]? = some x := by rfl) (hv : Vis X.env.scope x := by first | exact Or.inl rfl | exact Or.inr (Or.inl rfl) | exact Or.inr (Or.inr rfl)) (hd : (x == ("__debug__" : Str)) = false := by decide)
    (hcd : (x == ("__classdict__" : Str)) = false := by decide) : PE X (.Name x pos) (tVar i) := pe_var hN hv hd hcd
end

/-! ### tests -/
/-! ### heaps -/
/-- all that was tracked is as it was -/
noncomputable def Same (H H' : Hp) : Prop := ∀ b o, H b = some o → H' b = some o
theorem Same.refl (H : Hp) : Same H H := fun _ _ h => h
theorem Same.trans {H H1 H2 : Hp} (a : Same H H1) (b : Same H1 H2) : Same H H2 := fun c o h => b c o (a c o h)
theorem Same.free {H H' : Hp} (e : Same H H') {l : Addr} (h : H' l = Option.none) : H l = Option.none := by
  cases q : H l with
  | none => rfl
  | some o =>
    rw [e l o q] at h
    cases h
theorem Same.seq {K : PySem.W.Frag} {H H' : Hp} {a : Addr} {xs : List V} (e : Same H H') (h : SqL K H a xs) : SqL K H' a xs := by
  rcases h with (h | ⟨o, h⟩) | h
  · exact .inl (.inl (e _ _ h))
  · exact .inl (.inr ⟨o, e _ _ h⟩)
  · exact .inr h

end L2

namespace L2
open PySem PySem.Spec PyProof.Rows
section
variable {X : Cx}
end
end L2
namespace L2
open PySem PySem.Spec PyProof.Rows
/-! ### a dict's pairs: keys that differ -/
section
variable {κ : Type} [DecidableEq κ]
end
end L2

set_option maxHeartbeats 4000000
namespace L2
open PySem PySem.Spec PyProof.Rows
theorem bt_bool : bootBuiltins "bool" = some (.type "bool") := by decide +kernel
theorem bt_list : bootBuiltins "list" = some (.type "list") := by decide +kernel
theorem bt_dict : bootBuiltins "dict" = some (.type "dict") := by decide +kernel
theorem bt_isinstance : bootBuiltins "isinstance" = some (.builtin "isinstance") := by decide +kernel
theorem bt_max : bootBuiltins "max" = some (.builtin "max") := by decide +kernel
theorem bt_min : bootBuiltins "min" = some (.builtin "min") := by decide +kernel
theorem bt_sorted : bootBuiltins "sorted" = some (.builtin "sorted") := by decide +kernel
theorem bt_len : bootBuiltins "len" = some (.builtin "len") := by decide +kernel
section
variable {X : Cx}
/-- // by a positive divisor of fewer than 9000 bits -/
noncomputable def CDivB (_ j : Int) : Prop := 0 < j ∧ j.natAbs.log2 < 9000
theorem op_fdivB : OpR X (binaryOp .FloorDiv) (rI CDivB fun i j => .int (i / j)) := opI fun i j _ _ _ _ _ hc q => by
  have h1 : (0 : Int) < j := hc.1
  exact floordiv_int (by omega) (by rw [Int.fdiv_eq_ediv_of_nonneg i (by omega)]; exact q) (.inl (PyProof.noPylong_of_log2 hc.2))
theorem log2_lt {j : Int} (h0 : 0 < j) (h : j ≤ 10 ^ 45) : j.natAbs.log2 < 9000 := by
  have h1 : j.natAbs ≤ 10 ^ 45 := by omega
  have h2 : j.natAbs < 2 ^ 150 := Nat.lt_of_le_of_lt h1 (by decide)
  have h3 : j.natAbs.log2 < 150 := (Nat.log2_lt (by omega)).mpr h2
  omega

/-- isinstance(v, T): by the value and the heap -/
inductive IsI (K : PySem.W.Frag) (H : Hp) : V → String → Bool → Prop
  | ii (n : Int) : IsI K H (.int n) "int" true
  | ib (n : Int) : IsI K H (.int n) "bool" false
  | is (n : Int) : IsI K H (.int n) "str" false
  | it (n : Int) : IsI K H (.int n) "tuple" false
  | bi (b : Bool) : IsI K H (.bl b) "int" true
  | bb (b : Bool) : IsI K H (.bl b) "bool" true
  | bs (b : Bool) : IsI K H (.bl b) "str" false
  | bt (b : Bool) : IsI K H (.bl b) "tuple" false
  | si (x : Str) : IsI K H (.str x) "int" false
  | sb (x : Str) : IsI K H (.str x) "bool" false
  | ss (x : Str) : IsI K H (.str x) "str" true
  | st (x : Str) : IsI K H (.str x) "tuple" false
  | ni : IsI K H .non "int" false
  | nb : IsI K H .non "bool" false
  | ns : IsI K H .non "str" false
  | nt : IsI K H .non "tuple" false
  | li {a : Addr} {xs : List V} : SqL K H a xs → IsI K H (.ref a) "int" false
  | lb {a : Addr} {xs : List V} : SqL K H a xs → IsI K H (.ref a) "bool" false
  | ls {a : Addr} {xs : List V} : SqL K H a xs → IsI K H (.ref a) "str" false
  | lt {a : Addr} {xs : List V} : SqL K H a xs → IsI K H (.ref a) "tuple" false
  | ti {a : Addr} {xs : List V} : SqT K H a xs → IsI K H (.ref a) "int" false
  | tb {a : Addr} {xs : List V} : SqT K H a xs → IsI K H (.ref a) "bool" false
  | ts {a : Addr} {xs : List V} : SqT K H a xs → IsI K H (.ref a) "str" false
  | tt {a : Addr} {xs : List V} : SqT K H a xs → IsI K H (.ref a) "tuple" true
  | di {a : Addr} {kvs : List (Key × V)} : H a = some (.dK kvs) → IsI K H (.ref a) "int" false
  | db {a : Addr} {kvs : List (Key × V)} : H a = some (.dK kvs) → IsI K H (.ref a) "bool" false
  | ds {a : Addr} {kvs : List (Key × V)} : H a = some (.dK kvs) → IsI K H (.ref a) "str" false
theorem Inv.listObj {pins : List (Addr × Obj)} {σ : St} {H : Hp} {s : Shared} {a : Addr} {xs : List V} (I : Inv X pins σ H s) (h : SqL X.K H a xs) : ∃ o, s.heap.get? a = some o ∧ o.cls = .type "list" := by
  obtain ⟨its, _, ⟨o, n, e, c, _, _⟩, _⟩ := I.list h
  exact ⟨o, e, c⟩
theorem Inv.tupObj {pins : List (Addr × Obj)} {σ : St} {H : Hp} {s : Shared} {a : Addr} {xs : List V} (I : Inv X pins σ H s) (h : SqT X.K H a xs) : ∃ o, s.heap.get? a = some o ∧ o.cls = .type "tuple" := by
  obtain ⟨its, _, ⟨o, e, c, _⟩, _⟩ := I.tuple h
  exact ⟨o, e, c⟩
theorem Inv.dictObj {pins : List (Addr × Obj)} {σ : St} {H : Hp} {s : Shared} {a : Addr} {kvs : List (Key × V)} (I : Inv X pins σ H s) (h : H a = some (.dK kvs)) : ∃ o, s.heap.get? a = some o ∧ o.cls = .type "dict" :=
  dict_typeIs I (DGet.k (k := .inl 0) h)
theorem call_isi : CallR X (.builtin "isinstance") (fun xs H Q => ∃ v T b, xs = [v, .ty T] ∧ IsI X.K H v T b ∧ Q (.bl b) H) := by
  intro pins s σ H xs us Q I r h
  obtain ⟨v, T, b, rfl, hi, q⟩ := h
  obtain ⟨u, w', rfl, r1, r2⟩ := vals2 r
  cases r2
  have fin : EP X pins σ Q (.bool b) s := ⟨.bl b, H, I, rfl, q⟩
  have fin' : EP X pins σ Q (.bool b) { s with toks := s.toks + 1 } := ⟨.bl b, H, I.tok _, rfl, q⟩
  cases hi with
  | ii n => obtain ⟨t, rfl⟩ := r1; exact IsiPair.int_int fin
  | ib n => obtain ⟨t, rfl⟩ := r1; exact IsiPair.int_bool fin'
  | is n => obtain ⟨t, rfl⟩ := r1; exact IsiPair.int_str fin'
  | it n => obtain ⟨t, rfl⟩ := r1; exact IsiPair.int_tuple fin'
  | bi b => cases r1; exact IsiPair.bool_int fin
  | bb b => cases r1; exact IsiPair.bool_bool fin
  | bs b => cases r1; exact IsiPair.bool_str fin'
  | bt b => cases r1; exact IsiPair.bool_tuple fin'
  | si x => obtain ⟨t, rfl⟩ := r1; exact IsiPair.str_int fin'
  | sb x => obtain ⟨t, rfl⟩ := r1; exact IsiPair.str_bool fin'
  | ss x => obtain ⟨t, rfl⟩ := r1; exact IsiPair.str_str fin
  | st x => obtain ⟨t, rfl⟩ := r1; exact IsiPair.str_tuple fin'
  | ni => cases r1; exact IsiPair.NoneType_int fin'
  | nb => cases r1; exact IsiPair.NoneType_bool fin'
  | ns => cases r1; exact IsiPair.NoneType_str fin'
  | nt => cases r1; exact IsiPair.NoneType_tuple fin'
  | li hl => cases r1; obtain ⟨o, e, c⟩ := Inv.listObj I hl; exact IsiPair.list_int e c fin'
  | lb hl => cases r1; obtain ⟨o, e, c⟩ := Inv.listObj I hl; exact IsiPair.list_bool e c fin'
  | ls hl => cases r1; obtain ⟨o, e, c⟩ := Inv.listObj I hl; exact IsiPair.list_str e c fin'
  | lt hl => cases r1; obtain ⟨o, e, c⟩ := Inv.listObj I hl; exact IsiPair.list_tuple e c fin'
  | ti hl => cases r1; obtain ⟨o, e, c⟩ := Inv.tupObj I hl; exact IsiPair.tuple_int e c fin'
  | tb hl => cases r1; obtain ⟨o, e, c⟩ := Inv.tupObj I hl; exact IsiPair.tuple_bool e c fin'
  | ts hl => cases r1; obtain ⟨o, e, c⟩ := Inv.tupObj I hl; exact IsiPair.tuple_str e c fin'
  | tt hl => cases r1; obtain ⟨o, e, c⟩ := Inv.tupObj I hl; exact IsiPair.tuple_tuple e c fin
  | di hl => cases r1; obtain ⟨o, e, c⟩ := Inv.dictObj I hl; exact IsiPair.dict_int e c fin'
  | db hl => cases r1; obtain ⟨o, e, c⟩ := Inv.dictObj I hl; exact IsiPair.dict_bool e c fin'
  | ds hl => cases r1; obtain ⟨o, e, c⟩ := Inv.dictObj I hl; exact IsiPair.dict_str e c fin'

end
/-! ### an argument list item by item, the rest a letter -/
noncomputable def isStar : Expr → Bool
  | .Starred .. => true
  | _ => false
theorem star_cons {e : Expr} {es : List Expr} {env : Env} (h : isStar e = false) : starEach (e :: es) env = (false, eval e env) :: starEach es env := by
  cases e <;> first | rfl | cases h
section
variable {X : Cx} {e : Expr} {es : List Expr} {te : TE} {t : TA}
theorem pa_n (ha : PE X e te) (hr : PA X es t) (h : isStar e = false := by rfl) : PA X (e :: es) (tCons te t) := pa_cons ha hr (star_cons h)
end
end L2
namespace L2
open PySem PySem.Spec PyProof.Rows

noncomputable abbrev noteE (prog : Program) (w : World) (A : Around) (env : Env) (R : Result → Shared → Prop) : Value → Shared → Prop := notedBy (model prog w) A env fun e s' => R (.error e) s'
noncomputable abbrev testsOf (ifs : List Expr) (env : Env) : Sem Bool := forIn ifs true fun c r => if r = true then do let ok ← isTrue c env (eval c env); pure (ForInStep.yield ok) else pure (ForInStep.yield r)

section
variable {prog : Program} {w : World} {A : Around} {R : Result → Shared → Prop} {s : Shared}
theorem compLoop_go {elt target iter : Expr} {ifs : List Expr} {scope : Scope} {pos : Pos} {it acc : Value} {env : Env} (I : Nat → Shared → Prop)
    (turn : ∀ n s, I n s → wpAny (model prog w) A (pyNext it) (fun r s₁ => match r with
      | none => R (.ok .next) s₁
      | some v => wpAny (model prog w) A (letOwnedTupleGo target it v) (fun _ s₁' => wpAny (model prog w) A (assign target env v) (fun _ s₂ =>
          wpAny (model prog w) A (testsOf ifs env) (fun ok s₃ =>
            if ok = true then wpAny (model prog w) A (eval elt env) (fun x s₄ =>
              wpAny (model prog w) A (call (.builtin "list.append") [acc, x]) (fun _ s₅ => ∃ m, m < n ∧ I m s₅) (noteE prog w A env R) s₄) (noteE prog w A env R) s₃
            else ∃ m, m < n ∧ I m s₃) (noteE prog w A env R) s₂) (noteE prog w A env R) s₁') (noteE prog w A env R) s₁) (noteE prog w A env R) s)
    (n : Nat) (h : I n s) : codeAny (model prog w) A (.compLoop (.ListComp elt [⟨target, iter, ifs, 0⟩] scope pos) 0 it acc env) R s := by
  refine codeAny_loop rfl I (fun n s hI => ?_) n h
  show wpAny _ A ((compTurn (.ListComp elt [⟨target, iter, ifs, 0⟩] scope pos) 0 it acc env).onRaise (fun x => do noteFrame x env; theTreesLotGoes x)) _ _ s
  refine wpAny_noted ?_
  rw [compTurn_list]
  refine wpAny_bind (wpAny_standAt (wpAny_bind (wpAny_mono (turn n s hI) (fun r s₁ h₁ => ?_) fun _ _ h' => h')))
  cases r with
  | none => exact wpAny_pure h₁
  | some v =>
    refine wpAny_bind (wpAny_mono h₁ (fun _ s₁' h₁' => ?_) fun _ _ h' => h')
    refine wpAny_bind (wpAny_mono h₁' (fun _ s₂ h₂ => wpAny_bind (wpAny_mono h₂ (fun ok s₃ h₃ => ?_) fun _ _ h' => h')) fun _ _ h' => h')
    cases ok with
    | false => exact wpAny_pure ⟨rfl, h₃⟩
    | true =>
      exact wpAny_bind (wpAny_bind (wpAny_mono h₃ (fun x s₄ h₄ => wpAny_bind (wpAny_mono h₄ (fun _ s₅ h₅ => wpAny_pure (wpAny_pure ⟨rfl, h₅⟩)) fun _ _ h' => h')) fun _ _ h' => h'))
end

/-! ### a comprehension's block as a context of its own -/
noncomputable def compCx (X : Cx) (sc : Scope) (cl : List (Str × Addr)) (C : Addr) (N : List Str) (s : Shared) (H : Hp) (ex : List Addr) (pn : List (Addr × Obj)) : Cx :=
  { X with env := compEnvC sc cl C X.env, N := N, s₀ := s, H₀ := H, outer := X.stack, ex := ex, fn := fun _ => false, pn := pn }
/-- what is asked of the block's scope: x its own name, fr the slots of the frame's names that it reads -/
structure CompSc (X : Cx) (sc : Scope) (cl : List (Str × Addr)) (x : Str) (fr : List Nat) (N : List Str) : Prop where
  kind : sc.kind = .function
  nocell : ∀ y ∈ sc.names, y.2 ≠ .cell
  names : ∀ y ∈ sc.names, y.2 = .local → sc.names.lookup y.1 = some .local
  clos : closureFor sc X.env = pure cl
  sub : ∀ y c, cl.lookup y = some c → X.env.cells.lookup y = some c
  has : ∀ y, ((relabel sc X.env).names.lookup y = some .cell ∨ (relabel sc X.env).names.lookup y = some .free) → ∃ c, cl.lookup y = some c
  tgt : sc.names.lookup x = some .local
  nd : N.Nodup
  N0 : N = x :: fr.map fun j => X.N.getD j x
  frc : ∀ j ∈ fr, ∃ y, X.N[j]? = some y ∧ X.env.kindOf y = some .cell ∧ ((relabel sc X.env).names.lookup y = some .cell ∨ (relabel sc X.env).names.lookup y = some .free)
noncomputable def compSt (fr : List Nat) (σ : St) : St := fr.map fun j => (σ[j]?).join

section
variable {X : Cx} {pins : List (Addr × Obj)} {σ : St} {H : Hp} {s : Shared} {sc : Scope} {cl : List (Str × Addr)} {C : Addr} {x : Str} {fr : List Nat} {N : List Str} {fp : List Addr}
theorem comp_ok (I : Inv X pins σ H s) (S : CompSc X sc cl x fr N) (hf : ∀ b ∈ fp, FpOk X pins H b) (hfo : ∀ b ∈ fp, b < s.heap.objs.size) (hC : s.heap.objs.size ≤ C) :
    (compCx X sc cl C N s H fp (X.pn ++ pins)).Ok where
  mod := I.ok.mod
  kind := S.kind
  glob := I.ok.glob
  blt := I.ok.blt
  above := hC
  inj := fun y z c h1 h2 => I.ok.inj y z c (S.sub y c h1) (S.sub z c h2)
  has := S.has
  cab := fun _ _ h => by cases h
  hd := I.ok.hd
  frames := I.ok.frames
  stk := .inl rfl
  exf := fun b hb => ⟨Nat.ne_of_lt (Nat.lt_of_lt_of_le (hfo b hb) hC), fun y c e => (hf b hb).2.2.2.2.1 y c (S.sub y c e)⟩
  bs := I.bs
  bsz := Nat.le_trans I.ok.bsz I.sz
  noex := fun b o e hb => by
    rcases (hf b hb).2.2.2.1 with z | z
    · exact I.ok.noex b o e z
    · exact absurd (Nat.lt_of_lt_of_le (Heap.lt_size e) (Nat.le_trans I.ok.bsz z)) (Nat.lt_irrefl _)
  exfs := fun b hb hm => by
    rcases List.mem_cons.mp (I.stkSub b hm) with z | z
    · exact (hf b hb).2.1 z
    · exact (hf b hb).2.2.1 z
  funs := I.stack
  frf := I.stkFree

theorem nostk (I : Inv X pins σ H s) {b : Addr} (h1 : b ≠ X.env.locals) (h2 : b ∉ X.fs) : b ∉ frs X.stack := fun hm => by
  rcases List.mem_cons.mp (I.stkSub b hm) with z | z
  · exact h1 z
  · exact h2 z

theorem comp_inv (I : Inv X pins σ H s) (S : CompSc X sc cl x fr N) (hf : ∀ b ∈ fp, FpOk X pins H b) (hfo : ∀ b ∈ fp, b < s.heap.objs.size) (hC : s.heap.objs.size ≤ C) {h1 : Heap} {t1 : Nat} {m0 : Str → Option Value}
    (hn : h1.Ns C m0) (hk : ∀ b o, s.heap.get? b = some o → h1.get? b = some o) : Inv (compCx X sc cl C N s H fp (X.pn ++ pins)) [] (none :: compSt fr σ) H { s with heap := h1, toks := t1 } := by
  refine ⟨comp_ok I S hf hfo hC, rfl, I.bare, Un.kept hk, ⟨m0, hn, fun i y v e1 e2 e3 => ?_⟩, fun y c e => ?_, I.hok.fresh hC, fun y c e => I.freeC y c (S.sub y c e), fun p hp => ?_, I.hok.kept hk, ?_⟩
  · have e1' : N[i]? = some y := e1
    rw [S.N0] at e1'
    cases i with
    | zero =>
      have z : (some (none : Option V)) = some (some v) := e2
      cases z
    | succ j =>
      have e1'' : (fr.map fun j => X.N.getD j x)[j]? = some y := e1'
      have e2' : (compSt fr σ)[j]? = some (some v) := e2
      unfold compSt at e2'
      rw [List.getElem?_map] at e1'' e2'
      cases q : fr[j]? with
      | none => rw [q] at e1''; cases e1''
      | some k =>
        rw [q] at e1'' e2'
        have ey : X.N.getD k x = y := Option.some.inj e1''
        have ev : (σ[k]?).join = some v := Option.some.inj e2'
        obtain ⟨y', hy, hkind, hvis⟩ := S.frc k (List.mem_of_getElem? q)
        have eyy : y = y' := by
          rw [← ey, List.getD_eq_getElem?_getD, hy]
          rfl
        subst eyy
        have ev' : σ[k]? = some (some v) := by
          cases z : σ[k]? with
          | none => rw [z] at ev; cases ev
          | some o =>
            rw [z] at ev
            have ev2 : o = some v := ev
            rw [ev2]
        obtain ⟨m, _, hl⟩ := I.loc
        obtain ⟨u, r, l⟩ := hl k y v hy ev' (.inr (.inl hkind))
        refine ⟨u, r, .inr ⟨hvis, ?_⟩⟩
        rcases l with ⟨z, _⟩ | ⟨_, c, hc, o, ho, hd⟩
        · rw [hkind] at z
          cases z
        · obtain ⟨c', hc'⟩ := S.has y hvis
          have z := S.sub y c' hc'
          rw [hc] at z
          cases z
          exact ⟨c, hc', o, hk c o ho, hd⟩
  · obtain ⟨v, o, ho, hd⟩ := I.cell y c (S.sub y c e)
    exact ⟨v, o, hk c o ho, hd⟩
  · have hp' : p ∈ X.pn ++ pins := by
      have z : p ∈ (X.pn ++ pins) ++ [] := hp
      simpa using z
    obtain ⟨e, n, ne, nf, d⟩ := I.pin p hp'
    exact ⟨hk _ _ e, n, Nat.ne_of_lt (Nat.lt_of_lt_of_le (Heap.lt_size e) hC), nostk I ne nf, d⟩
  · show (none :: compSt fr σ).length = N.length
    rw [S.N0]
    simp [compSt]

/-- behind the block: the frame again, the made list tracked -/
theorem comp_end (I : Inv X pins σ H s) (hf : ∀ b ∈ fp, FpOk X pins H b) {D : Addr} {pl : List (Addr × Obj)} {σ' : St} {H' : Hp} {s' : Shared} (J : Inv (compCx X sc cl C N s H fp (X.pn ++ pins)) pl σ' H' s')
    (hC : s.heap.objs.size ≤ C) (hD : s.heap.objs.size ≤ D) (hDC : D ≠ C) (hDn : H' D = none) {xs : List V} {vals : List Value} {k : Nat} (hg : s'.heap.get? D = some { cls := .type "list", data := .seq vals.toArray k }) (rv : Vals xs vals) (hz : xs.length ≤ sizeLine)
    {h' : Heap} (hs : Heap.SameBut C s'.heap h') : Inv X pins σ (upd H' D (.lst xs)) { s' with heap := h' } := by
  have lt : ∀ {b : Addr} {o : Obj}, s.heap.get? b = some o → b < s.heap.objs.size := fun e => Heap.lt_size e
  have neC : ∀ {b : Addr} {o : Obj}, s.heap.get? b = some o → b ≠ C := fun e => Nat.ne_of_lt (Nat.lt_of_lt_of_le (Heap.lt_size e) hC)
  have neD : ∀ {b : Addr} {o : Obj}, s.heap.get? b = some o → b ≠ D := fun e => Nat.ne_of_lt (Nat.lt_of_lt_of_le (Heap.lt_size e) hD)
  have neDt : ∀ {b : Addr} {o : HO}, H b = some o → b ≠ D := fun e => Nat.ne_of_lt (Nat.lt_of_lt_of_le (I.hok.lt e) hD)
  have base : Un (frs X.stack) fp H H' s.heap s'.heap := J.base
  have HC : H' C = none := J.free
  refine I.call' (s' := { s' with heap := h' }) (ch := fp) J.os ⟨fun b o e n hb hx => ?_, fun b o e n hb hx => ?_, fun b o e n hx => ?_, fun b o e hx => ?_, fun b ys e => ?_, fun b o u e => ?_, fun b ps e => ?_⟩ (fun b u e => ?_) J.bare (fun b hb => ?_)
  · exact (hs.2 b (neC e)).trans (base.keep b o e n hb hx)
  · obtain ⟨sl, q⟩ := base.slot b o e n hb hx
    exact ⟨sl, (hs.2 b (neC e)).trans q⟩
  · rw [upd_ne (neD e)]
    exact base.free b o e n hx
  · obtain ⟨o', q⟩ := base.there b o e hx
    exact ⟨o', (hs.2 b (neC e)).trans q⟩
  · rw [upd_ne (neDt e)]
    exact base.tups b ys e
  · rw [upd_ne (neDt e)]
    exact base.frzs b o u e
  · rw [upd_ne (neDt e)]
    exact base.tbls b ps e
  · by_cases hb : b = D
    · subst hb
      rw [upd_same] at e
      cases e
      exact ⟨hz, vals, k, rv, (hs.2 b hDC).trans hg⟩
    · rw [upd_ne hb] at e
      have tC : ∀ {c : Addr} {o : HO}, H' c = some o → c ≠ C := fun q z => by rw [z, HC] at q; cases q
      have tD : ∀ {c : Addr} {o : HO}, H' c = some o → c ≠ D := fun q z => by rw [z, hDn] at q; cases q
      refine (J.hok b u e).stay (fun c v hc q => (hs.2 c ?_).trans q) (fun c q => by rw [upd_ne (tD q)]; exact q) fun c ys q => by rw [upd_ne (tD q)]; exact q
      rcases hc with z | z
      · rw [z]; exact tC e
      · exact tC z
  · obtain ⟨_, f1, _, f3, f4, f5⟩ := hf b hb
    exact ⟨f3, f1, f4, f5⟩
end

/-- the tests of a comprehension's clause -/
noncomputable def PTs (Y : Cx) (ifs : List Expr) (t : TT) : Prop :=
  ∀ (pins : List (Addr × Obj)) (s : Shared) (σ : St) (H : Hp) (Q : Bool → Hp → Prop), Inv Y pins σ H s → t σ H Q → wpAny (model Y.prog Y.w) Y.A (testsOf ifs Y.env) (TP Y pins σ Q) Y.xe s
noncomputable def tTrue : TT := fun _ H Q => Q true H
theorem pts_nil {Y : Cx} : PTs Y [] tTrue := fun _ _ _ H _ I h => wpAny_tests_nil ⟨H, I, h⟩
theorem pts_one {Y : Cx} {c : Expr} {t : TT} (h : PT Y c t) : PTs Y [c] t := fun pins s σ H Q I hw => wpAny_tests_one (h pins s σ H Q I hw)

/-- W: the invariant by the turn, a measure and the items so far -/
@[irreducible] def tComp (wi : TI) (fr : List Nat) (tc : TT) (te : TE) : TE := fun σ H Q => wi σ H fun J H1 => ∃ W : Nat → Nat → List V → Hp → Prop, (∃ m, W 0 m [] H1) ∧ ∀ i m xs H, W i m xs H → xs.length ≤ 1000000 ∧
  ((J.stop i H ∧ ∀ p, H p = none → Q (.ref p) (upd H p (.lst xs))) ∨
   (J.go i H ∧ ∀ y H', J.yld i H y H' → tc (some y :: compSt fr σ) H' fun b H2 => if b = true then te (some y :: compSt fr σ) H2 (fun z H3 => ∃ m', m' < m ∧ W (i + 1) m' (xs ++ [z]) H3) else ∃ m', m' < m ∧ W (i + 1) m' xs H2))

section
variable {X : Cx} {sc : Scope} {cl : List (Str × Addr)} {x : Str} {fr : List Nat} {N : List Str} {elt iter : Expr} {px pos : Pos} {ifs : List Expr} {wi : TI} {tc : TT} {te : TE}
/-- the block itself, from the iterator on: what is wanted behind it is asked of every heap in which the block's own names are let go -/
theorem comp_block (hc : X.calm = true) (hx : ∀ e s, ¬ X.xe e s) (S : CompSc X sc cl x fr N)
    (hb : ∀ C s H ex pn, PTs (compCx X sc cl C N s H ex pn) ifs tc ∧ PE (compCx X sc cl C N s H ex pn) elt te)
    {pins : List (Addr × Obj)} {σ : St} {H : Hp} {s : Shared} {it : Addr} {fp : List Addr} {tn : Nat → Heap → Prop} {J : It} {Q : VK} {RR : Value → Addr → Result → Shared → Prop} {E : Value → Shared → Prop}
    (I : Inv X pins σ H s) (T : Turn X.prog X.w X.K (.Name x px) J fp it tn) (st : tn 0 s.heap) (hf : ∀ b ∈ fp, FpOk X pins H b)
    {W : Nat → Nat → List V → Hp → Prop} {m0 : Nat} (w0 : W 0 m0 [] H)
    (turn : ∀ i m xs H, W i m xs H → xs.length ≤ 1000000 ∧
      ((J.stop i H ∧ ∀ p, H p = none → Q (.ref p) (upd H p (.lst xs))) ∨
       (J.go i H ∧ ∀ y H', J.yld i H y H' → tc (some y :: compSt fr σ) H' fun b H2 => if b = true then te (some y :: compSt fr σ) H2 (fun z H3 => ∃ m', m' < m ∧ W (i + 1) m' (xs ++ [z]) H3) else ∃ m', m' < m ∧ W (i + 1) m' xs H2)))
    (fin : ∀ (D C : Addr) (s' : Shared) (m' : Str → Option Value) (H' : Hp), s'.heap.Ns C m' → FpOk X pins H' C → (∀ h', Heap.SameBut C s'.heap h' → Inv X pins σ H' { s' with heap := h' }) → Q (.ref D) H' → RR (.ref D) C (.ok .next) s') :
    wpAny (model X.prog X.w) X.A (newList []) (fun acc s₃ => wpAny (model X.prog X.w) X.A (newFunctionEnv sc X.env.globals cl [] X.env.qual none .none (some X.env)) (fun cenv s₄ =>
      codeAny (model X.prog X.w) X.A (.compStart (.ListComp elt [⟨.Name x px, iter, ifs, 0⟩] sc pos) 0 (.ref it) acc { cenv with scope := relabel sc X.env }) (RR acc cenv.locals) s₄) E s₃) E s := by
  refine wpAny_newObj_type (wpAny_newFunctionEnv S.nocell (by intro y hy; simp at hy) (fun h₁ hns₁ hsb₁ => ?_) S.kind)
  dsimp only at hns₁ hsb₁ ⊢
  generalize hH2 : s.heap.push { cls := .type "list", dict := none, data := .seq ([] : List Value).toArray } = G2 at hns₁ hsb₁ ⊢
  have hCs : G2.objs.size = s.heap.objs.size + 1 := by rw [← hH2, Heap.size_push]
  have hDC : s.heap.objs.size ≠ G2.objs.size := by rw [hCs]; exact Nat.ne_of_lt (Nat.lt_succ_self _)
  have hC : s.heap.objs.size ≤ G2.objs.size := by rw [hCs]; exact Nat.le_succ _
  have below : ∀ b, b < s.heap.objs.size → b ≠ G2.objs.size := fun b hb => by rw [hCs]; exact Nat.ne_of_lt (Nat.lt_succ_of_lt hb)
  have old : ∀ b o, s.heap.get? b = some o → h₁.get? b = some o := fun b o e => hsb₁.extBut b o (below b (Heap.lt_size e)) (Heap.get?_push_of_some _ (hH2 ▸ Heap.get?_push_of_some _ e))
  have hD1 : h₁.get? s.heap.objs.size = some { cls := .type "list", data := .seq ([] : List Value).toArray 0 } := hsb₁.extBut _ _ hDC (Heap.get?_push_of_some _ (hH2 ▸ Heap.get?_push_size _ rfl))
  have hfo : ∀ b ∈ fp, b < s.heap.objs.size := fun b hbm => by
    obtain ⟨o, e, _⟩ := T.obj 0 s.heap st b hbm
    exact Heap.lt_size e
  have hDn : H s.heap.objs.size = none := I.hok.fresh (Nat.le_refl _)
  -- what stays true of the made list's place
  have Dstk : s.heap.objs.size ∉ frs X.stack := fun hm => by
    rcases List.mem_cons.mp (I.stkSub _ hm) with z | z
    · exact absurd I.lt (by rw [← z]; exact Nat.lt_irrefl _)
    · exact I.nofs (Nat.le_refl _) z
  have Dcell : ∀ y c, cl.lookup y = some c → c ≠ s.heap.objs.size := fun y c e z => by
    obtain ⟨v, q⟩ := I.cell y c (S.sub y c e)
    exact absurd q.lt (by rw [z]; exact Nat.lt_irrefl _)
  have Dpin : ∀ p ∈ X.pn ++ pins, p.1 ≠ s.heap.objs.size := fun p hp z => absurd (Heap.lt_size (I.pin p hp).1) (by rw [z]; exact Nat.lt_irrefl _)
  have Dfp : s.heap.objs.size ∉ fp := fun hm => Nat.lt_irrefl _ (hfo _ hm)
  have loop : ∀ s₃ : Shared, s₃ = { s with heap := h₁, toks := s.toks + ([] : List (Str × Value)).length } →
      codeAny (model X.prog X.w) X.A (.compLoop (.ListComp elt [⟨.Name x px, iter, ifs, 0⟩] sc pos) 0 (.ref it) (.ref s.heap.objs.size) (compEnvC sc cl G2.objs.size X.env)) (RR (.ref s.heap.objs.size) G2.objs.size) s₃ := by
    rintro s₃ rfl
    have I0 : Inv (compCx X sc cl G2.objs.size N s H fp (X.pn ++ pins)) [] (none :: compSt fr σ) H { s with heap := h₁, toks := s.toks + ([] : List (Str × Value)).length } := comp_inv I S hf hfo hC hns₁ old
    refine compLoop_go (fun n s' => ∃ (i : Nat) (xs : List V) (vals : List Value) (k : Nat) (v0 : Option V) (H' : Hp), Inv (compCx X sc cl G2.objs.size N s H fp (X.pn ++ pins)) [] (v0 :: compSt fr σ) H' s' ∧ tn i s'.heap ∧ (∀ b ∈ fp, H' b = none) ∧
      s'.heap.get? s.heap.objs.size = some { cls := .type "list", data := .seq vals.toArray k } ∧ Vals xs vals ∧ H' s.heap.objs.size = none ∧ W i n xs H') ?_ m0
      ⟨0, [], [], 0, none, H, I0, T.keep _ _ _ st fun b _ o e => old b o e, fun b hb => (hf b hb).1, hD1, .nil, hDn, w0⟩
    rintro n s1 ⟨i, xs, vals, k, v0, H1, I1, st1, fr1, hg1, rv1, hD1', w1⟩
    have hlen := rv1.length
    obtain ⟨hz, step⟩ := turn i n xs H1 w1
    have hz2 : xs.length ≤ sizeLine := Nat.le_trans hz (by decide)
    have stat : ∀ {H' : Hp} {pl : List (Addr × Obj)}, (∀ b ∈ fp, H' b = none) → (∀ p ∈ pl, p.1 = s.heap.objs.size) → ∀ b ∈ fp, FpOk (compCx X sc cl G2.objs.size N s H fp (X.pn ++ pins)) pl H' b := fun {H' pl} hn hpl b hb =>
      ⟨hn b hb, below b (hfo b hb), nostk I (hf b hb).2.1 (hf b hb).2.2.1, .inl hb, fun y c e => (hf b hb).2.2.2.2.1 y c (S.sub y c e), fun p hp z => by
        rcases List.mem_append.mp hp with q | q
        · exact (hf b hb).2.2.2.2.2 p q z
        · exact Dfp (by rw [← hpl p q, z]; exact hb)⟩
    have I1' : Inv (compCx X sc cl G2.objs.size N s H fp (X.pn ++ pins)) [(s.heap.objs.size, { cls := .type "list", data := .seq vals.toArray k })] (v0 :: compSt fr σ) H1 s1 := I1.pins_of fun p hp => by
      have e : p = (s.heap.objs.size, { cls := .type "list", data := .seq vals.toArray k }) := by simpa using hp
      subst e
      exact ⟨hg1, hD1', hDC, Dstk, fun v z => by cases z⟩
    rcases step with ⟨stop, hq⟩ | ⟨go, step⟩
    · refine thn (T.done (compCx X sc cl G2.objs.size N s H fp (X.pn ++ pins)) rfl rfl rfl hc i [(s.heap.objs.size, { cls := .type "list", data := .seq vals.toArray k })] s1 _ H1 _ I1' (stat fr1 fun p hp => by
        have e : p = (s.heap.objs.size, { cls := .type "list", data := .seq vals.toArray k }) := by simpa using hp
        rw [e]) st1 stop) fun r s2 ⟨hr, I2⟩ => ?_
      subst hr
      obtain ⟨g2, n2, _⟩ := I2.pin (s.heap.objs.size, { cls := .type "list", data := .seq vals.toArray k }) (List.mem_append_right _ (by simp))
      obtain ⟨m2, hn2, _⟩ := I2.loc
      have hCn : upd H1 s.heap.objs.size (.lst xs) G2.objs.size = none := by
        rw [upd_ne (Ne.symm hDC)]
        exact I2.free
      exact fin s.heap.objs.size G2.objs.size s2 m2 _ hn2 (I.fpOk hC hCn) (fun h' hs' => comp_end I hf I2 hC (Nat.le_refl _) hDC n2 g2 rv1 hz2 hs') (hq _ n2)
    · refine thn (T.item (compCx X sc cl G2.objs.size N s H fp (X.pn ++ pins)) rfl rfl rfl hc i [(s.heap.objs.size, { cls := .type "list", data := .seq vals.toArray k })] s1 _ H1 _ I1' (stat fr1 fun p hp => by
        have e : p = (s.heap.objs.size, { cls := .type "list", data := .seq vals.toArray k }) := by simpa using hp
        rw [e]) st1 go) fun r s2 ⟨u, hr, h2⟩ => ?_
      subst hr
      refine thn h2 fun _ s3 ⟨y, H3, I3, r3, y3, st3, fr3⟩ => ?_
      have I3' := I3.pinned (stat fr3 fun p hp => by
        have e : p = (s.heap.objs.size, { cls := .type "list", data := .seq vals.toArray k }) := by simpa using hp
        rw [e]) (T.obj _ _ st3)
      -- what the pins say again behind each part
      have back : ∀ {σ9 : St} {H9 : Hp} {s9 : Shared}, Inv (compCx X sc cl G2.objs.size N s H fp (X.pn ++ pins)) ([(s.heap.objs.size, { cls := .type "list", data := .seq vals.toArray k })] ++ pinsAt fp s3.heap) σ9 H9 s9 →
          tn (i + 1) s9.heap ∧ (∀ b ∈ fp, H9 b = none) ∧ s9.heap.get? s.heap.objs.size = some { cls := .type "list", data := .seq vals.toArray k } ∧ H9 s.heap.objs.size = none := fun {σ9 H9 s9} I9 => by
        refine ⟨T.keep _ _ _ st3 fun b hb o e => (I9.pin (b, o) (List.mem_append_right _ (List.mem_append_right _ (mem_pinsAt hb e)))).1, fun b hb => ?_, ?_⟩
        · obtain ⟨o, e, d⟩ := T.obj _ _ st3 b hb
          exact (I9.pin (b, o) (List.mem_append_right _ (List.mem_append_right _ (mem_pinsAt hb e)))).2.1
        · obtain ⟨a1, a2, _⟩ := I9.pin (s.heap.objs.size, { cls := .type "list", data := .seq vals.toArray k }) (List.mem_append_right _ (List.mem_append_left _ (by simp)))
          exact ⟨a1, a2⟩
      have hN0 : (compCx X sc cl G2.objs.size N s H fp (X.pn ++ pins)).N[0]? = some x := by
        show N[0]? = some x
        rw [S.N0]
        rfl
      have hloc : (relabel sc X.env).names.lookup x = some .local := lookup_relabel_local S.tgt
      have hpg : PG (compCx X sc cl G2.objs.size N s H fp (X.pn ++ pins)) (.Name x px) (gName 0) := pg_name (i := 0) S.nd hN0 (.inl hloc) (.inr hloc)
      have noX : ∀ e s', (compCx X sc cl G2.objs.size N s H fp (X.pn ++ pins)).xe e s' → noteE X.prog X.w X.A (compEnvC sc cl G2.objs.size X.env) (RR (.ref s.heap.objs.size) G2.objs.size) e s' := fun e s' z => (hx e s' z).elim
      have hstep := step y H3 y3
      refine wpAny_mono (hpg _ s3 _ H3 y u (fun σ' H' => σ' = some y :: compSt fr σ ∧ H' = H3) I3' r3 ⟨rfl, rfl⟩) (fun _ s4 ⟨σ4, H4, I4, e4, e4'⟩ => ?_) noX
      subst e4 e4'
      obtain ⟨hbT, hbE⟩ := hb G2.objs.size s H fp (X.pn ++ pins)
      refine wpAny_mono (hbT _ s4 _ H4 _ I4 hstep) (fun ok s5 ⟨H5, I5, q5⟩ => ?_) noX
      cases ok with
      | false =>
        rw [if_neg Bool.false_ne_true]
        have q5' : ∃ m', m' < n ∧ W (i + 1) m' xs H5 := q5
        obtain ⟨m', hm, w5⟩ := q5'
        obtain ⟨b1, b2, b3, b4⟩ := back I5
        exact ⟨m', hm, i + 1, xs, vals, k, some y, H5, I5.pins_of (fun p hp => absurd hp (by simp)), b1, b2, b3, rv1, b4, w5⟩
      | true =>
        rw [if_pos rfl]
        refine wpAny_mono (hbE _ s5 _ H5 _ I5 q5) (fun z s6 ⟨v6, H6, I6, r6, q6⟩ => ?_) noX
        obtain ⟨m', hm, w6⟩ := q6
        obtain ⟨b1, b2, b3, b4⟩ := back I6
        refine call_meets F.slot_list_append ⟨_, b3, rfl⟩ F.entry_list_append (F.args_list_append_2 _ _) (PySem.list_append s.heap.objs.size vals.toArray k z (by rw [List.size_toArray]; omega)) ⟨b3, ?_⟩
        have q7 := PySem.IsL.update b3 (fun a : Array Value => a.push z)
        have hpush : vals.toArray.push z = (vals ++ [z]).toArray := by simp
        rw [hpush] at q7
        have I6' : Inv (compCx X sc cl G2.objs.size N s H fp (X.pn ++ pins)) [] (some y :: compSt fr σ) H6 s6 := I6.pins_of (fun p hp => absurd hp (by simp))
        have others : ∀ b o, b ≠ s.heap.objs.size → s6.heap.get? b = some o → (s6.heap.update s.heap.objs.size (Obj.mapSeq fun a => a.push z)).get? b = some o := fun b o hb' e => (Heap.get?_update_other _ _ (Ne.symm hb')).trans e
        refine ⟨m', hm, i + 1, xs ++ [v6], vals ++ [z], _, some y, H6, I6'.turned (it := s.heap.objs.size) others b4 hDC (.inr (Nat.le_refl _)) Dcell (fun p hp z' => ?_), T.keep _ _ _ b1 fun b hb' o e => others b o (fun z' => Dfp (by rw [← z']; exact hb')) e, b2, q7, rv1.append (.cons r6 .nil), b4, w6⟩
        have hp' : p ∈ X.pn ++ pins := by
          have z2 : p ∈ (X.pn ++ pins) ++ [] := hp
          simpa using z2
        exact Dpin p hp' z'
  exact codeAny_compStart_list (loop _ rfl) (T.self _ _ _ _ _ (T.keep _ _ _ st fun b _ o e => old b o e) (loop _ rfl))

/-- [elt for x in iter if ..] -/
theorem pe_comp (hc : X.calm = true) (hx : ∀ e s, ¬ X.xe e s) (S : CompSc X sc cl x fr N) (hi : PI X (.Name x px) iter wi)
    (hb : ∀ C s H ex pn, PTs (compCx X sc cl C N s H ex pn) ifs tc ∧ PE (compCx X sc cl C N s H ex pn) elt te)
    (hs : ∀ v, foldedSetIterable iter X.env v = pure v := by intro _; rfl) : PE X (.ListComp elt [⟨.Name x px, iter, ifs, 0⟩] sc pos) (tComp wi fr tc te) := by
  intro pins s σ H Q I h
  unfold tComp at h
  rw [eval_ListComp]
  refine wpAny_comprehension_free (use := none) rfl hs S.clos S.kind S.names ?_
  refine thn (hi pins s σ H _ I h) fun v s1 h1 => thn h1 fun itv s2 h2 => ?_
  obtain ⟨it, fp, tn, J, H2, e, I2, T, st2, f2, W, ⟨m0, w0⟩, turn⟩ := h2
  subst e
  refine comp_block (RR := fun acc C => compPost (model X.prog X.w) X.A X.xe none (EP X pins σ Q) acc C) hc hx S hb I2 T st2 f2 w0 turn ?_
  intro D C s' m' H' hn _ hfin q
  exact ⟨m', hn, fun h' hs' => ⟨.ref D, H', hfin h' hs', rfl, q⟩⟩
end

/-- a block that reads none of the frame's names -/
theorem CompSc.nofree {X : Cx} {sc : Scope} {x : Str} (kind : sc.kind = .function) (nc : (sc.names.all fun y => y.2 != .cell && y.2 != .free) = true)
    (nm : (sc.names.all fun y => !(y.2 == .local) || sc.names.lookup y.1 == some .local) = true) (tgt : sc.names.lookup x = some .local) : CompSc X sc [] x [] [x] where
  kind := kind
  nocell := fun y hy e => by
    have h := List.all_eq_true.mp nc y hy
    rw [e] at h
    exact absurd h (by decide)
  names := fun y hy e => by
    have h := List.all_eq_true.mp nm y hy
    rw [e] at h
    simpa using h
  clos := closureFor_none fun y hy e => by
    have h := List.all_eq_true.mp nc y hy
    rw [e] at h
    exact absurd h (by decide)
  sub := fun y c h => by cases h
  has := fun y h => by
    exfalso
    have key : ∀ l : List (Str × NameKind), (l.all fun y => y.2 != .cell && y.2 != .free) = true → ∀ k, (l.map fun (n, k) => if (k == NameKind.free && X.env.scope.kind == .function && X.env.kindOf n == some .cell) then (n, NameKind.cell) else (n, k)).lookup y = some k → k ≠ .cell ∧ k ≠ .free := by
      intro l
      induction l with
      | nil => intro _ k e; cases e
      | cons p r ih =>
        obtain ⟨n, kk⟩ := p
        intro ha k e
        rw [List.all_cons, Bool.and_eq_true, Bool.and_eq_true] at ha
        obtain ⟨⟨h1, h2⟩, h3⟩ := ha
        have h2' : (kk == NameKind.free) = false := by simpa using h2
        rw [List.map_cons] at e
        dsimp only at e
        rw [h2', Bool.false_and, Bool.false_and, if_neg Bool.false_ne_true, List.lookup_cons] at e
        cases q : (y == n) with
        | true =>
          rw [q] at e
          have e' : kk = k := Option.some.inj e
          subst e'
          exact ⟨by simpa using h1, by simpa using h2⟩
        | false =>
          rw [q] at e
          exact ih h3 k e
    rcases h with h | h
    · exact (key sc.names nc _ h).1 rfl
    · exact (key sc.names nc _ h).2 rfl
  tgt := tgt
  nd := by simp
  N0 := rfl
  frc := fun j hj => by cases hj
end L2
namespace L2
open PySem PySem.Spec PyProof.Rows
section
variable {X : Cx}
/-! ### == of two lists of flat items -/
end

/-! ### a text's signs, one by one -/
noncomputable def Its (x : Str) : It := ⟨fun i _ => i < x.cps.size, fun i H y H' => H' = H ∧ ∃ c, x.cps[i]? = some c ∧ y = .str ⟨#[c]⟩, fun i _ => x.cps.size ≤ i⟩
section
variable {X : Cx} {tg : Expr}
noncomputable def iStr (tl : TE) : TI := fun σ H R => tl σ H fun x H1 => ∃ z, x = .str z ∧ R (Its z) H1
end
/-- a comprehension by its turns: n items, a word Pv of the turn, the items kept, the heap -/
noncomputable def cW (n : Nat) (Pv : Nat → List V → Hp → Prop) (i m : Nat) (xs : List V) (H : Hp) : Prop := m = n - i ∧ i ≤ n ∧ Pv i xs H
theorem cW.next {n : Nat} {Pv : Nat → List V → Hp → Prop} {i : Nat} {xs : List V} {H : Hp} (hi : i < n) (p : Pv (i + 1) xs H) : ∃ m', m' < n - i ∧ cW n Pv (i + 1) m' xs H := ⟨n - (i + 1), by omega, rfl, hi, p⟩
section
variable {fr : List Nat} {tc : TT} {te : TE} {σ : St} {H : Hp} {Q : VK}
/-- over a list that stays -/
theorem comp_list {K : PySem.W.Frag} {a : Addr} {ys : List V} (Pv : Nat → List V → Hp → Prop) (h0 : Pv 0 [] H) (hz : ∀ i xs H, Pv i xs H → xs.length ≤ 1000000) (hl : ∀ i xs H, Pv i xs H → SqL K H a ys)
    (hs : ∀ i y xs H, i < ys.length → ys[i]? = some y → Pv i xs H → tc (some y :: compSt fr σ) H fun b H2 => if b = true then te (some y :: compSt fr σ) H2 (fun z H3 => ∃ m', m' < ys.length - i ∧ cW ys.length Pv (i + 1) m' (xs ++ [z]) H3) else ∃ m', m' < ys.length - i ∧ cW ys.length Pv (i + 1) m' xs H2)
    (hd : ∀ xs H, Pv ys.length xs H → ∀ p, H p = none → Q (.ref p) (upd H p (.lst xs))) :
    ∃ W : Nat → Nat → List V → Hp → Prop, (∃ m, W 0 m [] H) ∧ ∀ i m xs H, W i m xs H → xs.length ≤ 1000000 ∧
      (((Itl K a).stop i H ∧ ∀ p, H p = none → Q (.ref p) (upd H p (.lst xs))) ∨
       ((Itl K a).go i H ∧ ∀ y H', (Itl K a).yld i H y H' → tc (some y :: compSt fr σ) H' fun b H2 => if b = true then te (some y :: compSt fr σ) H2 (fun z H3 => ∃ m', m' < m ∧ W (i + 1) m' (xs ++ [z]) H3) else ∃ m', m' < m ∧ W (i + 1) m' xs H2)) := by
  refine ⟨cW ys.length Pv, ⟨ys.length, by simp, Nat.zero_le _, h0⟩, ?_⟩
  rintro i m xs H ⟨rfl, hi, p⟩
  refine ⟨hz i xs H p, ?_⟩
  have q := hl i xs H p
  by_cases hlt : i < ys.length
  · refine .inr ⟨⟨ys, ys[i], q, by simp [hlt]⟩, fun y H' yy => ?_⟩
    obtain ⟨e, yy⟩ := yy
    subst e
    exact hs i y xs _ hlt (yy ys q) p
  · have e : i = ys.length := by omega
    subst e
    exact .inl ⟨⟨ys, q, Nat.le_refl _⟩, hd xs H p⟩
/-- over a range -/
theorem comp_range {lo : Int} {n : Nat} (Pv : Nat → List V → Hp → Prop) (h0 : Pv 0 [] H) (hz : ∀ i xs H, Pv i xs H → xs.length ≤ 1000000)
    (hs : ∀ i xs H, i < n → Pv i xs H → tc (some (.int (lo + i)) :: compSt fr σ) H fun b H2 => if b = true then te (some (.int (lo + i)) :: compSt fr σ) H2 (fun z H3 => ∃ m', m' < n - i ∧ cW n Pv (i + 1) m' (xs ++ [z]) H3) else ∃ m', m' < n - i ∧ cW n Pv (i + 1) m' xs H2)
    (hd : ∀ xs H, Pv n xs H → ∀ p, H p = none → Q (.ref p) (upd H p (.lst xs))) :
    ∃ W : Nat → Nat → List V → Hp → Prop, (∃ m, W 0 m [] H) ∧ ∀ i m xs H, W i m xs H → xs.length ≤ 1000000 ∧
      (((Itr lo n).stop i H ∧ ∀ p, H p = none → Q (.ref p) (upd H p (.lst xs))) ∨
       ((Itr lo n).go i H ∧ ∀ y H', (Itr lo n).yld i H y H' → tc (some y :: compSt fr σ) H' fun b H2 => if b = true then te (some y :: compSt fr σ) H2 (fun z H3 => ∃ m', m' < m ∧ W (i + 1) m' (xs ++ [z]) H3) else ∃ m', m' < m ∧ W (i + 1) m' xs H2)) := by
  refine ⟨cW n Pv, ⟨n, by simp, Nat.zero_le _, h0⟩, ?_⟩
  rintro i m xs H ⟨rfl, hi, p⟩
  refine ⟨hz i xs H p, ?_⟩
  by_cases hlt : i < n
  · refine .inr ⟨hlt, fun y H' yy => ?_⟩
    obtain ⟨e, rfl⟩ := yy
    subst e
    exact hs i xs _ hlt p
  · have e : i = n := by omega
    subst e
    exact .inl ⟨Nat.le_refl _, hd xs H p⟩
end
section
variable {fr : List Nat} {tc : TT} {te : TE} {σ : St} {H H1 : Hp} {Q : VK}
end
end L2
namespace L2
open PySem PySem.Spec PyProof.Rows

/-! ### a comprehension's block that reads names of the frame -/
theorem mem_of_lookupS {l : List (Str × NameKind)} {y : Str} {k : NameKind} (h : l.lookup y = some k) : (y, k) ∈ l := PySem.mem_of_lookup h
theorem CompSc.free {X : Cx} {sc : Scope} {cl : List (Str × Addr)} {x : Str} {fr : List Nat} {N : List Str} (kind : sc.kind = .function) (nc : (sc.names.all fun y => y.2 != .cell) = true)
    (nm : (sc.names.all fun y => !(y.2 == .local) || sc.names.lookup y.1 == some .local) = true) (tgt : sc.names.lookup x = some .local) (clos : closureFor sc X.env = pure cl)
    (sub : ∀ y c, cl.lookup y = some c → X.env.cells.lookup y = some c) (has : ((relabel sc X.env).names.all fun y => (y.2 != .cell && y.2 != .free) || (cl.lookup y.1).isSome) = true)
    (nd : N.Nodup) (N0 : N = x :: fr.map fun j => X.N.getD j x) (frc : ∀ j ∈ fr, ∃ y, X.N[j]? = some y ∧ X.env.kindOf y = some .cell ∧ ((relabel sc X.env).names.lookup y = some .cell ∨ (relabel sc X.env).names.lookup y = some .free)) : CompSc X sc cl x fr N where
  kind := kind
  nocell := fun y hy e => by
    have h := List.all_eq_true.mp nc y hy
    rw [e] at h
    exact absurd h (by decide)
  names := fun y hy e => by
    have h := List.all_eq_true.mp nm y hy
    rw [e] at h
    simpa using h
  clos := clos
  sub := sub
  has := fun y h => by
    have key : ∀ k, (relabel sc X.env).names.lookup y = some k → (k = .cell ∨ k = .free) → ∃ c, cl.lookup y = some c := fun k e hk => by
      have h := List.all_eq_true.mp has (y, k) (mem_of_lookupS e)
      rcases hk with rfl | rfl
      · exact Option.isSome_iff_exists.mp (by simpa using h)
      · exact Option.isSome_iff_exists.mp (by simpa using h)
    rcases h with h | h
    · exact key _ h (.inl rfl)
    · exact key _ h (.inr rfl)
  tgt := tgt
  nd := nd
  N0 := N0
  frc := frc

section
variable {X : Cx} {sc : Scope} {cl : List (Str × Addr)} {x : Str} {fr : List Nat} {N : List Str} {elt iter : Expr} {px pos : Pos} {ifs : List Expr} {wi : TI} {tc : TT} {te : TE}
end

/-! ### d.get(None) of a dict whose keys are ints and texts -/
section
variable {prog : Program} {w : World} {A : Around} {E : Value → Shared → Prop} {s : Shared}
end
end L2
namespace L2
open PySem PySem.Spec PyProof.Rows
/-! ### readings as rewriting rules -/
section
variable {σ : St} {H : Hp} {Q : VK} {i j : Int} {x y : Str} {v : V} {n : Nat} {a : Addr}
theorem w_v0s : tVar 0 (some v :: σ) H Q = Q v H := by simp [tVar]
theorem w_vS {o : Option V} : tVar (n + 1) (o :: σ) H Q = tVar n σ H Q := by simp [tVar]
theorem w_v1 {o0 : Option V} : tVar 1 (o0 :: some v :: σ) H Q = Q v H := (w_vS.trans w_v0s)
theorem w_v2 {o0 o1 : Option V} : tVar 2 (o0 :: o1 :: some v :: σ) H Q = Q v H := (w_vS.trans w_v1)
theorem w_v3 {o0 o1 o2 : Option V} : tVar 3 (o0 :: o1 :: o2 :: some v :: σ) H Q = Q v H := (w_vS.trans w_v2)
theorem w_v4 {o0 o1 o2 o3 : Option V} : tVar 4 (o0 :: o1 :: o2 :: o3 :: some v :: σ) H Q = Q v H := (w_vS.trans w_v3)
theorem w_v5 {o0 o1 o2 o3 o4 : Option V} : tVar 5 (o0 :: o1 :: o2 :: o3 :: o4 :: some v :: σ) H Q = Q v H := (w_vS.trans w_v4)
theorem w_v6 {o0 o1 o2 o3 o4 o5 : Option V} : tVar 6 (o0 :: o1 :: o2 :: o3 :: o4 :: o5 :: some v :: σ) H Q = Q v H := (w_vS.trans w_v5)
theorem w_v7 {o0 o1 o2 o3 o4 o5 o6 : Option V} : tVar 7 (o0 :: o1 :: o2 :: o3 :: o4 :: o5 :: o6 :: some v :: σ) H Q = Q v H := (w_vS.trans w_v6)
theorem w_v8 {o0 o1 o2 o3 o4 o5 o6 o7 : Option V} : tVar 8 (o0 :: o1 :: o2 :: o3 :: o4 :: o5 :: o6 :: o7 :: some v :: σ) H Q = Q v H := (w_vS.trans w_v7)
theorem w_v9 {o0 o1 o2 o3 o4 o5 o6 o7 o8 : Option V} : tVar 9 (o0 :: o1 :: o2 :: o3 :: o4 :: o5 :: o6 :: o7 :: o8 :: some v :: σ) H Q = Q v H := (w_vS.trans w_v8)
theorem w_v10 {o0 o1 o2 o3 o4 o5 o6 o7 o8 o9 : Option V} : tVar 10 (o0 :: o1 :: o2 :: o3 :: o4 :: o5 :: o6 :: o7 :: o8 :: o9 :: some v :: σ) H Q = Q v H := (w_vS.trans w_v9)
theorem w_v11 {o0 o1 o2 o3 o4 o5 o6 o7 o8 o9 o10 : Option V} : tVar 11 (o0 :: o1 :: o2 :: o3 :: o4 :: o5 :: o6 :: o7 :: o8 :: o9 :: o10 :: some v :: σ) H Q = Q v H := (w_vS.trans w_v10)
theorem w_v12 {o0 o1 o2 o3 o4 o5 o6 o7 o8 o9 o10 o11 : Option V} : tVar 12 (o0 :: o1 :: o2 :: o3 :: o4 :: o5 :: o6 :: o7 :: o8 :: o9 :: o10 :: o11 :: some v :: σ) H Q = Q v H := (w_vS.trans w_v11)
theorem w_v13 {o0 o1 o2 o3 o4 o5 o6 o7 o8 o9 o10 o11 o12 : Option V} : tVar 13 (o0 :: o1 :: o2 :: o3 :: o4 :: o5 :: o6 :: o7 :: o8 :: o9 :: o10 :: o11 :: o12 :: some v :: σ) H Q = Q v H := (w_vS.trans w_v12)
theorem w_v14 {o0 o1 o2 o3 o4 o5 o6 o7 o8 o9 o10 o11 o12 o13 : Option V} : tVar 14 (o0 :: o1 :: o2 :: o3 :: o4 :: o5 :: o6 :: o7 :: o8 :: o9 :: o10 :: o11 :: o12 :: o13 :: some v :: σ) H Q = Q v H := (w_vS.trans w_v13)
theorem w_v15 {o0 o1 o2 o3 o4 o5 o6 o7 o8 o9 o10 o11 o12 o13 o14 : Option V} : tVar 15 (o0 :: o1 :: o2 :: o3 :: o4 :: o5 :: o6 :: o7 :: o8 :: o9 :: o10 :: o11 :: o12 :: o13 :: o14 :: some v :: σ) H Q = Q v H := (w_vS.trans w_v14)
theorem w_v16 {o0 o1 o2 o3 o4 o5 o6 o7 o8 o9 o10 o11 o12 o13 o14 o15 : Option V} : tVar 16 (o0 :: o1 :: o2 :: o3 :: o4 :: o5 :: o6 :: o7 :: o8 :: o9 :: o10 :: o11 :: o12 :: o13 :: o14 :: o15 :: some v :: σ) H Q = Q v H := (w_vS.trans w_v15)
theorem w_v17 {o0 o1 o2 o3 o4 o5 o6 o7 o8 o9 o10 o11 o12 o13 o14 o15 o16 : Option V} : tVar 17 (o0 :: o1 :: o2 :: o3 :: o4 :: o5 :: o6 :: o7 :: o8 :: o9 :: o10 :: o11 :: o12 :: o13 :: o14 :: o15 :: o16 :: some v :: σ) H Q = Q v H := (w_vS.trans w_v16)
theorem w_v18 {o0 o1 o2 o3 o4 o5 o6 o7 o8 o9 o10 o11 o12 o13 o14 o15 o16 o17 : Option V} : tVar 18 (o0 :: o1 :: o2 :: o3 :: o4 :: o5 :: o6 :: o7 :: o8 :: o9 :: o10 :: o11 :: o12 :: o13 :: o14 :: o15 :: o16 :: o17 :: some v :: σ) H Q = Q v H := (w_vS.trans w_v17)
theorem w_v19 {o0 o1 o2 o3 o4 o5 o6 o7 o8 o9 o10 o11 o12 o13 o14 o15 o16 o17 o18 : Option V} : tVar 19 (o0 :: o1 :: o2 :: o3 :: o4 :: o5 :: o6 :: o7 :: o8 :: o9 :: o10 :: o11 :: o12 :: o13 :: o14 :: o15 :: o16 :: o17 :: o18 :: some v :: σ) H Q = Q v H := (w_vS.trans w_v18)
theorem w_v20 {o0 o1 o2 o3 o4 o5 o6 o7 o8 o9 o10 o11 o12 o13 o14 o15 o16 o17 o18 o19 : Option V} : tVar 20 (o0 :: o1 :: o2 :: o3 :: o4 :: o5 :: o6 :: o7 :: o8 :: o9 :: o10 :: o11 :: o12 :: o13 :: o14 :: o15 :: o16 :: o17 :: o18 :: o19 :: some v :: σ) H Q = Q v H := (w_vS.trans w_v19)
theorem w_v21 {o0 o1 o2 o3 o4 o5 o6 o7 o8 o9 o10 o11 o12 o13 o14 o15 o16 o17 o18 o19 o20 : Option V} : tVar 21 (o0 :: o1 :: o2 :: o3 :: o4 :: o5 :: o6 :: o7 :: o8 :: o9 :: o10 :: o11 :: o12 :: o13 :: o14 :: o15 :: o16 :: o17 :: o18 :: o19 :: o20 :: some v :: σ) H Q = Q v H := (w_vS.trans w_v20)
theorem w_v22 {o0 o1 o2 o3 o4 o5 o6 o7 o8 o9 o10 o11 o12 o13 o14 o15 o16 o17 o18 o19 o20 o21 : Option V} : tVar 22 (o0 :: o1 :: o2 :: o3 :: o4 :: o5 :: o6 :: o7 :: o8 :: o9 :: o10 :: o11 :: o12 :: o13 :: o14 :: o15 :: o16 :: o17 :: o18 :: o19 :: o20 :: o21 :: some v :: σ) H Q = Q v H := (w_vS.trans w_v21)
theorem w_v23 {o0 o1 o2 o3 o4 o5 o6 o7 o8 o9 o10 o11 o12 o13 o14 o15 o16 o17 o18 o19 o20 o21 o22 : Option V} : tVar 23 (o0 :: o1 :: o2 :: o3 :: o4 :: o5 :: o6 :: o7 :: o8 :: o9 :: o10 :: o11 :: o12 :: o13 :: o14 :: o15 :: o16 :: o17 :: o18 :: o19 :: o20 :: o21 :: o22 :: some v :: σ) H Q = Q v H := (w_vS.trans w_v22)
theorem w_v24 {o0 o1 o2 o3 o4 o5 o6 o7 o8 o9 o10 o11 o12 o13 o14 o15 o16 o17 o18 o19 o20 o21 o22 o23 : Option V} : tVar 24 (o0 :: o1 :: o2 :: o3 :: o4 :: o5 :: o6 :: o7 :: o8 :: o9 :: o10 :: o11 :: o12 :: o13 :: o14 :: o15 :: o16 :: o17 :: o18 :: o19 :: o20 :: o21 :: o22 :: o23 :: some v :: σ) H Q = Q v H := (w_vS.trans w_v23)
theorem w_v25 {o0 o1 o2 o3 o4 o5 o6 o7 o8 o9 o10 o11 o12 o13 o14 o15 o16 o17 o18 o19 o20 o21 o22 o23 o24 : Option V} : tVar 25 (o0 :: o1 :: o2 :: o3 :: o4 :: o5 :: o6 :: o7 :: o8 :: o9 :: o10 :: o11 :: o12 :: o13 :: o14 :: o15 :: o16 :: o17 :: o18 :: o19 :: o20 :: o21 :: o22 :: o23 :: o24 :: some v :: σ) H Q = Q v H := (w_vS.trans w_v24)
theorem w_v26 {o0 o1 o2 o3 o4 o5 o6 o7 o8 o9 o10 o11 o12 o13 o14 o15 o16 o17 o18 o19 o20 o21 o22 o23 o24 o25 : Option V} : tVar 26 (o0 :: o1 :: o2 :: o3 :: o4 :: o5 :: o6 :: o7 :: o8 :: o9 :: o10 :: o11 :: o12 :: o13 :: o14 :: o15 :: o16 :: o17 :: o18 :: o19 :: o20 :: o21 :: o22 :: o23 :: o24 :: o25 :: some v :: σ) H Q = Q v H := (w_vS.trans w_v25)
theorem w_v27 {o0 o1 o2 o3 o4 o5 o6 o7 o8 o9 o10 o11 o12 o13 o14 o15 o16 o17 o18 o19 o20 o21 o22 o23 o24 o25 o26 : Option V} : tVar 27 (o0 :: o1 :: o2 :: o3 :: o4 :: o5 :: o6 :: o7 :: o8 :: o9 :: o10 :: o11 :: o12 :: o13 :: o14 :: o15 :: o16 :: o17 :: o18 :: o19 :: o20 :: o21 :: o22 :: o23 :: o24 :: o25 :: o26 :: some v :: σ) H Q = Q v H := (w_vS.trans w_v26)
theorem w_v28 {o0 o1 o2 o3 o4 o5 o6 o7 o8 o9 o10 o11 o12 o13 o14 o15 o16 o17 o18 o19 o20 o21 o22 o23 o24 o25 o26 o27 : Option V} : tVar 28 (o0 :: o1 :: o2 :: o3 :: o4 :: o5 :: o6 :: o7 :: o8 :: o9 :: o10 :: o11 :: o12 :: o13 :: o14 :: o15 :: o16 :: o17 :: o18 :: o19 :: o20 :: o21 :: o22 :: o23 :: o24 :: o25 :: o26 :: o27 :: some v :: σ) H Q = Q v H := (w_vS.trans w_v27)
theorem w_v29 {o0 o1 o2 o3 o4 o5 o6 o7 o8 o9 o10 o11 o12 o13 o14 o15 o16 o17 o18 o19 o20 o21 o22 o23 o24 o25 o26 o27 o28 : Option V} : tVar 29 (o0 :: o1 :: o2 :: o3 :: o4 :: o5 :: o6 :: o7 :: o8 :: o9 :: o10 :: o11 :: o12 :: o13 :: o14 :: o15 :: o16 :: o17 :: o18 :: o19 :: o20 :: o21 :: o22 :: o23 :: o24 :: o25 :: o26 :: o27 :: o28 :: some v :: σ) H Q = Q v H := (w_vS.trans w_v28)
theorem w_v30 {o0 o1 o2 o3 o4 o5 o6 o7 o8 o9 o10 o11 o12 o13 o14 o15 o16 o17 o18 o19 o20 o21 o22 o23 o24 o25 o26 o27 o28 o29 : Option V} : tVar 30 (o0 :: o1 :: o2 :: o3 :: o4 :: o5 :: o6 :: o7 :: o8 :: o9 :: o10 :: o11 :: o12 :: o13 :: o14 :: o15 :: o16 :: o17 :: o18 :: o19 :: o20 :: o21 :: o22 :: o23 :: o24 :: o25 :: o26 :: o27 :: o28 :: o29 :: some v :: σ) H Q = Q v H := (w_vS.trans w_v29)
theorem m_cons {α β : Type} {f : α → β} {a : α} {l : List α} : List.map f (a :: l) = f a :: List.map f l := rfl
theorem m_nil {α β : Type} {f : α → β} : List.map f [] = [] := rfl
theorem w_rI {C : Int → Int → Prop} {g : Int → Int → V} : rI C g (.int i) (.int j) H Q = (C i j ∧ Q (g i j) H) := by simp [rI]
theorem w_rI0 {g : Int → Int → V} : rI0 g (.int i) (.int j) H Q = Q (g i j) H := by simp [rI0]
theorem w_rU {g : Int → V} : rU g (.int i) H Q = Q (g i) H := by simp [rU]
theorem w_lit (h : Nat.ble n 1000 = true) : (n ≤ sizeLine) = True := eq_true (Nat.le_of_lt (small1000 (Nat.le_of_ble_eq_true h)))
theorem w_eqI : rEq (.int i) (.int j) H Q = Q (.bl (decide (i = j))) H := by simp only [rEq, show scal (.int i) (.int j) = true from rfl, V.int.injEq, true_and]
theorem w_eqS : rEq (.str x) (.str y) H Q = Q (.bl (decide (x = y))) H := by simp only [rEq, show scal (.str x) (.str y) = true from rfl, V.str.injEq, true_and]
theorem w_neI : rNe (.int i) (.int j) H Q = Q (.bl (!decide (i = j))) H := by simp only [rNe, show scal (.int i) (.int j) = true from rfl, V.int.injEq, true_and]
theorem w_neS : rNe (.str x) (.str y) H Q = Q (.bl (!decide (x = y))) H := by simp only [rNe, show scal (.str x) (.str y) = true from rfl, V.str.injEq, true_and]
end
theorem w_sinj {a b : String} : (Str.ofString a = Str.ofString b) = (a = b) := by
  refine propext ⟨fun h => ?_, fun h => by rw [h]⟩
  rw [Str.ofString_eq_toList, Str.ofString_eq_toList] at h
  have e : (a.toList.map Char.toNat) = (b.toList.map Char.toNat) := by
    have := congrArg (fun z : Str => z.cps.toList) h
    simpa using this
  have inj : ∀ x y : Char, x.toNat = y.toNat → x = y := fun x y q => Char.ext (UInt32.toNat_inj.mp q)
  have := (List.map_inj_right (f := Char.toNat) (fun x y q => inj x y q)).mp e
  exact String.toList_inj.mp this
/-- what stood, but at the places of S, stands -/
noncomputable def Kp (S : List Addr) (H H' : Hp) : Prop := ∀ b o, H b = some o → b ∉ S → H' b = some o
section
variable {S T : List Addr} {H H1 H2 : Hp} {a p : Addr} {o : HO}
theorem Kp.refl : Kp S H H := fun _ _ h _ => h
theorem Kp.trans (x : Kp S H H1) (y : Kp S H1 H2) : Kp S H H2 := fun b o h n => y b o (x b o h n) n
theorem Kp.mono (x : Kp S H H1) (h : ∀ b ∈ S, b ∈ T) : Kp T H H1 := fun b o e n => x b o e fun z => n (h b z)
theorem Kp.new (h : H p = none) : Kp S H (upd H p o) := fun b u e _ => by rw [upd_ne (ne_of_none e h)]; exact e
theorem Kp.set (h : p ∈ S) : Kp S H (upd H p o) := fun b u e n => by rw [upd_ne (show b ≠ p from fun z => n (by rw [z]; exact h))]; exact e
theorem Kp.at (x : Kp S H H1) (e : H a = some o) (n : a ∉ S := by first | exact List.not_mem_nil | simp_all) : H1 a = some o := x a o e n
theorem Kp.same (x : Kp [] H H1) : Same H H1 := fun b o e => x b o e (by simp)
theorem Kp.of (x : Same H H1) : Kp S H H1 := fun b o e _ => x b o e
/-- an object made on the way that is dropped again -/
theorem Kp.drop (x : Kp (p :: S) H H1) (h : H p = none) : Kp S H H1 := fun b o e n => x b o e (by
  simp only [List.mem_cons, not_or]
  exact ⟨ne_of_none e h, n⟩)
end
end L2
namespace L2
open PySem PySem.Spec PyProof.Rows
/-! ### readings that look the heap up: one for all kinds of values -/
noncomputable abbrev Tg {α : Type} (_ : α) : Type := Unit
noncomputable def onO {α : Type} (o : Option α) (k : α → Prop) (_u : Tg k := ()) : Prop := match o with
  | some x => k x
  | none => False
noncomputable def onB (x : V) (k : Bool → Prop) (_u : Tg k := ()) : Prop := match x with
  | .bl b => k b
  | _ => False
/-- a list; a tuple or list; a dict stands there -/
noncomputable def onLst (o : Option HO) (k : List V → Prop) (_u : Tg k := ()) : Prop := match o with
  | some (.lst xs) => k xs
  | _ => False
noncomputable def onSeq (o : Option HO) (k : List V → Prop) (_u : Tg k := ()) : Prop := match o with
  | some (.lst xs) => k xs
  | some (.tup xs) => k xs
  | _ => False
noncomputable def onDct (o : Option HO) (k : List (Key × V) → Prop) (_u : Tg k := ()) : Prop := match o with
  | some (.dK xs) => k xs
  | _ => False
noncomputable def onRef (x : V) (k : Addr → Prop) (_u : Tg k := ()) : Prop := match x with
  | .ref p => k p
  | _ => False
noncomputable def onInt (x : V) (k : Int → Prop) (_u : Tg k := ()) : Prop := match x with
  | .int i => k i
  | _ => False
theorem onO_of {α : Type} {o : Option α} {k : α → Prop} (h : onO o k) : ∃ x, o = some x ∧ k x := by
  cases o with
  | none => exact h.elim
  | some x => exact ⟨x, rfl, h⟩
theorem onB_of {x : V} {k : Bool → Prop} (h : onB x k) : ∃ b, x = .bl b ∧ k b := by
  cases x with
  | bl b => exact ⟨b, rfl, h⟩
  | _ => exact h.elim
theorem onB_eq {x : V} {k : Bool → Prop} : (∃ b, x = .bl b ∧ k b) = onB x k := by
  refine propext ⟨fun ⟨b, e, h⟩ => by subst e; exact h, onB_of⟩
theorem onRef_of {x : V} {k : Addr → Prop} (h : onRef x k) : ∃ b, x = .ref b ∧ k b := by
  cases x with
  | ref b => exact ⟨b, rfl, h⟩
  | _ => exact h.elim
theorem onInt_of {x : V} {k : Int → Prop} (h : onInt x k) : ∃ b, x = .int b ∧ k b := by
  cases x with
  | int b => exact ⟨b, rfl, h⟩
  | _ => exact h.elim
theorem onLst_of {o : Option HO} {k : List V → Prop} (h : onLst o k) : ∃ xs, o = some (.lst xs) ∧ k xs := by
  unfold onLst at h
  split at h
  · exact ⟨_, rfl, h⟩
  · exact h.elim
theorem onSeq_of {o : Option HO} {k : List V → Prop} (h : onSeq o k) : ∃ xs, (o = some (.lst xs) ∨ o = some (.tup xs)) ∧ k xs := by
  unfold onSeq at h
  split at h
  · exact ⟨_, .inl rfl, h⟩
  · exact ⟨_, .inr rfl, h⟩
  · exact h.elim
theorem onDct_of {o : Option HO} {k : List (Key × V) → Prop} (h : onDct o k) : ∃ xs, o = some (.dK xs) ∧ k xs := by
  unfold onDct at h
  split at h
  · exact ⟨_, rfl, h⟩
  · exact h.elim
noncomputable def cIx : R2 := fun x y H Q => match x with
  | .ref p => onSeq (H p) fun xs => onInt y fun i => onO (atI xs i) fun v => Q v H
  | .str z => onInt y fun i => z.length ≤ sizeLine ∧ onO (atI z.cps.toList i) fun c => Q (.str ⟨#[c]⟩) H
  | _ => False
noncomputable def cCat (H : Hp) (Q : VK) (a : Addr) (oa ob : Option HO) : Prop := match oa, ob with
  | some (.lst xs), some (.lst ys) => xs.length + ys.length ≤ sizeLine ∧ ∀ p, H p = none → Q (.ref p) (upd H p (.lst (xs ++ ys)))
  | some (.tup xs), some (.tup ys) => xs ≠ [] ∧ xs.length + ys.length ≤ sizeLine ∧ (ys ≠ [] → ∀ p, H p = none → Q (.ref p) (upd H p (.tup (xs ++ ys)))) ∧ (ys = [] → Q (.ref a) H)
  | _, _ => False
noncomputable def cAdd : R2 := fun x y H Q => match x, y with
  | .int i, .int j => Q (.int (i + j)) H
  | .str a, .str b => a.length + b.length ≤ sizeLine ∧ Q (.str (a ++ b)) H
  | .ref a, .ref b => cCat H Q a (H a) (H b)
  | _, _ => False
noncomputable def cCut (lo hi : Option Int) (H : Hp) (Q : VK) (o : Option HO) : Prop := match o with
  | some (.lst xs) => ∀ p, H p = none → Q (.ref p) (upd H p (.lst (cutV xs lo hi)))
  | some (.tup xs) => ¬ (HT.sIx xs.length 0 lo = 0 ∧ HT.sIx xs.length xs.length hi = xs.length) ∧ ∀ p, H p = none → Q (.ref p) (upd H p (.tup (cutV xs lo hi)))
  | _ => False
noncomputable def cSl : V → Option Int → Option Int → Hp → VK → Prop := fun x lo hi H Q => match x with
  | .str z => z.length ≤ sizeLine ∧ Q (.str (Txt.slice z lo hi)) H
  | .ref a => cCut lo hi H Q (H a)
  | _ => False
noncomputable def cLen : List V → Hp → VK → Prop := fun vs H Q => match vs with
  | [.str z] => z.length ≤ sizeLine ∧ Q (.int z.length) H
  | [.ref p] => onSeq (H p) fun xs => Q (.int xs.length) H
  | _ => False
noncomputable def cSet : V → V → V → Hp → (Hp → Prop) → Prop := fun o i v H Q => onRef o fun p => onInt i fun k => onLst (H p) fun xs => onO (ixN xs.length k) fun j => Q (upd H p (.lst (xs.set j v)))
/-- a key as it is written -/
noncomputable def keyO : V → Option Key
  | .int i => some (.inl i)
  | .str x => some (.inr x)
  | .non => some .no
  | _ => none
theorem keyO_kV {y : V} {k : Key} (h : keyO y = some k) : y = kV k := by
  cases y <;> simp only [keyO, Option.some.injEq, reduceCtorEq] at h <;> subst h <;> rfl
noncomputable def cGet1 (td ty : TE) : TE := fun σ H Q => td σ H fun x H1 => onRef x fun a => onDct (H1 a) fun _ => ty σ H1 fun y H2 => onDct (H2 a) fun kvs => onO (keyO y) fun k => Q ((valV kvs k).getD .non) H2
noncomputable def cGet (td ty : TE) : TE := fun σ H Q => td σ H fun x H1 => ty σ H1 fun y H2 => onRef x fun a => onDct (H2 a) fun kvs => onO (keyO y) fun k => onO (valV kvs k) fun v => Q v H2
noncomputable def cPut (td ty tv : TE) : TS := fun D σ H => tv σ H fun v H1 => td σ H1 fun x H2 => ty σ H2 fun y H3 => onRef x fun a => onDct (H3 a) fun kvs => onO (keyO y) fun k => kvs.length < sizeLine ∧ D.nx σ (upd H3 a (.dK (putK kvs k v)))
noncomputable def cIn (neg : Bool) : R2 := fun x y H Q => onRef y fun p => onSeq (H p) fun xs => flatV x = true ∧ xs.all flatV = true ∧ Q (.bl (if neg = true then !inV x xs else inV x xs)) H
noncomputable def cInt : List V → Hp → VK → Prop := fun vs H Q => match vs with
  | [.int i] => Q (.int i) H
  | [.bl k] => Q (.int (if k = true then 1 else 0)) H
  | _ => False
noncomputable def cIsN : R2 := fun x y H Q => match y with
  | .non => Q (.bl (decide (x = .non))) H
  | _ => False
noncomputable def cNotN : R2 := fun x y H Q => match y with
  | .non => Q (.bl (!decide (x = .non))) H
  | _ => False
noncomputable def cMax : List V → Hp → VK → Prop := fun vs H Q => match vs with
  | [.int i, .int j] => Q (.int (if j > i then j else i)) H
  | _ => False
noncomputable def cMin : List V → Hp → VK → Prop := fun vs H Q => match vs with
  | [.int i, .int j] => Q (.int (if j < i then j else i)) H
  | _ => False
noncomputable def cAbs : List V → Hp → VK → Prop := fun vs H Q => match vs with
  | [.int i] => Q (.int (if i < 0 then -i else i)) H
  | _ => False
/-- isinstance: of a flat value; of what stands in the heap -/
noncomputable def kSc (v : V) (T : String) : Option Bool := match v with
  | .int _ => if T = "int" then some true else if T = "bool" ∨ T = "str" ∨ T = "tuple" then some false else none
  | .bl _ => if T = "int" ∨ T = "bool" then some true else if T = "str" ∨ T = "tuple" then some false else none
  | .str _ => if T = "str" then some true else if T = "int" ∨ T = "bool" ∨ T = "tuple" then some false else none
  | .non => if T = "int" ∨ T = "bool" ∨ T = "str" ∨ T = "tuple" then some false else none
  | _ => none
noncomputable def kRef (o : Option HO) (T : String) : Option Bool := match o with
  | some (.lst _) => if T = "int" ∨ T = "bool" ∨ T = "str" ∨ T = "tuple" then some false else none
  | some (.tup _) => if T = "tuple" then some true else if T = "int" ∨ T = "bool" ∨ T = "str" then some false else none
  | some (.dK _) => if T = "int" ∨ T = "bool" ∨ T = "str" then some false else none
  | _ => none
noncomputable def cIsi : List V → Hp → VK → Prop := fun vs H Q => match vs with
  | [.ref p, .ty T] => onO (kRef (H p) T) fun b => Q (.bl b) H
  | [v, .ty T] => onO (kSc v T) fun b => Q (.bl b) H
  | _ => False
theorem kSc_of {K : PySem.W.Frag} {H : Hp} {v : V} {T : String} {b : Bool} (h : kSc v T = some b) : IsI K H v T b := by
  unfold kSc at h
  split at h
  all_goals (repeat' split at h)
  all_goals first
    | cases h
    | skip
  all_goals first
    | (subst_vars; constructor)
    | (rename_i q; rcases q with rfl | rfl <;> constructor)
    | (rename_i q _; rcases q with rfl | rfl <;> constructor)
    | (rename_i q; rcases q with rfl | rfl | rfl <;> constructor)
    | (rename_i q; rcases q with rfl | rfl | rfl | rfl <;> constructor)
theorem kRef_of {K : PySem.W.Frag} {H : Hp} {p : Addr} {T : String} {b : Bool} (h : kRef (H p) T = some b) : IsI K H (.ref p) T b := by
  unfold kRef at h
  split at h
  · rename_i xs e
    have q : SqL K H p xs := .inl (.inl e)
    split at h
    · cases h
      rename_i z
      rcases z with rfl | rfl | rfl | rfl
      · exact .li q
      · exact .lb q
      · exact .ls q
      · exact .lt q
    · cases h
  · rename_i xs e
    have q : SqT K H p xs := .inl (.inl e)
    split at h
    · cases h
      subst_vars
      exact .tt q
    · split at h
      · cases h
        rename_i z
        rcases z with rfl | rfl | rfl
        · exact .ti q
        · exact .tb q
        · exact .ts q
      · cases h
  · rename_i kvs e
    split at h
    · cases h
      rename_i z
      rcases z with rfl | rfl | rfl
      · exact .di e
      · exact .db e
      · exact .ds e
    · cases h
  · cases h
/-- xs.append(e), xs.pop() -/
noncomputable def cApp (to te : TE) : TE := fun σ H Q => to σ H fun x H1 => onRef x fun a => onLst (H1 a) fun _ => te σ H1 fun y H2 => onLst (H2 a) fun xs => xs.length < sizeLine ∧ Q .non (upd H2 a (.lst (xs ++ [y])))
noncomputable def cPop (to : TE) : TE := fun σ H Q => to σ H fun x H1 => onRef x fun a => onLst (H1 a) fun xs => onO (xs[xs.length - 1]?) fun y => Q y (upd H1 a (.lst xs.dropLast))
section
variable {X : Cx}
theorem IxR.imp {r r' : R2} (h : IxR X r) (f : ∀ x y H Q, r' x y H Q → r x y H Q) : IxR X r' := fun value slice pins s σ H x y v u Q I rx ry q => h value slice pins s σ H x y v u Q I rx ry (f _ _ _ _ q)
theorem OpR.imp {f : Value → Value → Sem Value} {r r' : R2} (h : OpR X f r) (g : ∀ x y H Q, r' x y H Q → r x y H Q) : OpR X f r' := fun pins s σ H x y v u Q I rx ry q => h pins s σ H x y v u Q I rx ry (g _ _ _ _ q)
theorem ix_c : IxR X cIx := ix_seq.imp fun x y H Q h => by
  cases x with
  | ref p =>
    obtain ⟨xs, e, h⟩ := onSeq_of h
    obtain ⟨i, rfl, h⟩ := onInt_of h
    obtain ⟨v, e2, h⟩ := onO_of h
    rcases e with e | e
    · exact .inl ⟨_, _, _, _, rfl, rfl, .inl (.inl e), e2, h⟩
    · exact .inr (.inl ⟨_, _, _, _, rfl, rfl, .inl (.inl e), e2, h⟩)
  | str z =>
    obtain ⟨i, rfl, h1, h⟩ := onInt_of h
    obtain ⟨v, e2, h⟩ := onO_of h
    exact .inr (.inr ⟨_, _, _, rfl, rfl, h1, e2, h⟩)
  | _ => exact h.elim
theorem op_addC : OpR X (binaryOp .Add) cAdd := (op_add.or (op_add_str.or (op_cat.or op_catT))).imp fun x y H Q h => by
  unfold cAdd cCat at h
  split at h
  · exact .inl ⟨_, _, rfl, rfl, h⟩
  · exact .inr (.inl ⟨_, _, rfl, rfl, h.1, h.2⟩)
  · split at h
    · exact .inr (.inr (.inl ⟨_, _, _, _, rfl, rfl, ‹_›, ‹_›, h.1, h.2⟩))
    · exact .inr (.inr (.inr ⟨_, _, _, _, rfl, rfl, .inl (.inl ‹_›), .inl (.inl ‹_›), h.1, h.2.1, h.2.2.2, h.2.2.1⟩))
    · exact h.elim
  · exact h.elim
theorem call_lenC : CallR X (.builtin "len") cLen := fun pins s σ H xs us Q I r h => by
  unfold cLen at h
  split at h
  · exact call_len pins s σ H _ us Q I r ⟨_, _, rfl, ⟨h.1, rfl⟩, h.2⟩
  · obtain ⟨ys, e, h⟩ := onSeq_of h
    rcases e with e | e
    · exact call_len pins s σ H _ us Q I r ⟨_, _, rfl, .inl ⟨_, .inl (.inl e), rfl⟩, h⟩
    · exact call_len pins s σ H _ us Q I r ⟨_, _, rfl, .inr ⟨_, .inl (.inl e), rfl⟩, h⟩
  · exact h.elim
theorem set_c : PSet X cSet := fun pins s σ H o i v ov iv u Q I ro ri rv h => by
  obtain ⟨p, rfl, h⟩ := onRef_of h
  obtain ⟨k, rfl, h⟩ := onInt_of h
  obtain ⟨xs, e, h⟩ := onLst_of h
  obtain ⟨j, e2, h⟩ := onO_of h
  exact set_list pins s σ H _ _ v ov iv u Q I ro ri rv ⟨_, _, _, _, rfl, rfl, e, e2, h⟩
theorem op_isC : OpR X (compareOp .Is) cIsN := op_isN.imp fun x y H Q h => by
  cases y with
  | non => exact ⟨rfl, h⟩
  | _ => exact h.elim
theorem call_maxC (hc : X.calm = true) : CallR X (.builtin "max") cMax := fun pins s σ H xs us Q I r h => by
  refine call_max2 hc pins s σ H xs us Q I r ?_
  unfold cMax at h
  split at h
  · exact ⟨_, _, rfl, h⟩
  · exact h.elim
theorem call_minC (hc : X.calm = true) : CallR X (.builtin "min") cMin := fun pins s σ H xs us Q I r h => by
  refine call_min2 hc pins s σ H xs us Q I r ?_
  unfold cMin at h
  split at h
  · exact ⟨_, _, rfl, h⟩
  · exact h.elim
theorem call_isiC : CallR X (.builtin "isinstance") cIsi := fun pins s σ H xs us Q I r h => by
  refine call_isi pins s σ H xs us Q I r ?_
  unfold cIsi at h
  split at h
  · obtain ⟨b, e, h⟩ := onO_of h
    exact ⟨_, _, b, rfl, kRef_of e, h⟩
  · obtain ⟨b, e, h⟩ := onO_of h
    exact ⟨_, _, b, rfl, kSc_of e, h⟩
  · exact h.elim
variable {o e : Expr} {to te : TE} {apos cpos : Pos}
theorem pe_appC (ho : PE X o to) (he : PE X e te) (hbase : attributeBase o "append" X.env (eval o X.env) = eval o X.env := by rfl)
    (hfew : ((backTo cpos (starEach [e] X.env)).all (fun x => !x.1) && (backToKw cpos (keywordEach [] X.env)).all (fun x => x.1.isSome)
      && decide ([e].length + ([] : List Keyword).length + (if ([] : List Keyword).isEmpty then 0 else 1) < 30)) = true := by rfl)
    (hline : (apos.endLine == cpos.line) = true := by rfl) (hs : starEach [e] X.env = (false, eval e X.env) :: starEach [] X.env := by rfl) (hplain : (backTo cpos (starEach [] X.env)).any (·.1) = false := by rfl) :
    PE X (.Call (.Attribute o "append" apos) [e] [] cpos) (cApp to te) := by
  intro pins s σ H Q I h
  refine wpAny_Call_method_late hbase hfew hline rfl (thn (ho pins s σ H _ I h) fun v s1 ⟨x, H1, I1, r1, q1⟩ => ?_)
  obtain ⟨a, rfl, q1⟩ := onRef_of q1
  obtain ⟨xs, e1, q1⟩ := onLst_of q1
  obtain ⟨h1, h2⟩ := tyV_is (T := "list") I1 r1 (.inl ⟨rfl, xs, .inl (.inl e1)⟩)
  refine ⟨"list", "list.append", PySem.F.plainAttrs_list, PySem.F.slot_list_append, PySem.F.type_list_append, h1, h2, ?_⟩
  have q2 : tCons te tNil σ H1 (fun vs H2 => vs.length = 1 ∧ onLst (H2 a) fun xs => xs.length < sizeLine ∧ Q .non (upd H2 a (.lst (xs ++ vs)))) := by
    simpa only [tCons, tNil, List.length_cons, List.length_nil, Nat.zero_add, true_and] using q1
  have hA := pa_cons he pa_nil hs cpos pins s1 σ H1 _ I1 q2
  rw [hs] at hA ⊢
  refine Calls.callWith_builtin (by show (false || (backTo cpos (starEach [] X.env)).any (·.1)) = false; rw [hplain] <;> rfl) (Calls.evalArgs_plain ?_)
  refine thn hA fun us s2 ⟨vs, H2, I2, r2, l2, q3⟩ => ?_
  obtain ⟨xs, e3, q4, q5⟩ := onLst_of q3
  match vs, l2, r2, q5 with
  | [y], _, r2, q5 => exact mt_append pins s2 σ H2 _ _ v us Q I2 r1 r2 ⟨_, _, _, rfl, rfl, e3, q4, q5⟩
end
/-! ### dicts -/
section
variable {X : Cx} {o i e value : Expr} {pos pos' apos cpos : Pos} {td ty tv : TE}
theorem pe_getC (hu : X.A.units + 1 < cLine) (ho : PE X o td) (he : PE X e ty) (m : M1 X o "get" apos e cpos) : PE X (.Call (.Attribute o "get" apos) [e] [] cpos) (cGet1 td ty) := by
  intro pins s σ H Q I h
  refine wpAny_Call_method m.base m.few m.line PySem.F.plainAttrs_dict PySem.F.slot_dict_get PySem.F.type_dict_get (thn (ho pins s σ H _ I h) fun u s1 ⟨x, H1, I1, rx, q1⟩ => ?_)
  obtain ⟨a, rfl, q1⟩ := onRef_of q1
  obtain ⟨kvs, e1, q1⟩ := onDct_of q1
  obtain rfl : u = Value.ref a := rx
  obtain ⟨t1, t2, _⟩ := isD_at I1 (.inl ⟨_, .inl e1⟩)
  refine ⟨t1, t2, ?_⟩
  rw [m.trees]
  refine Calls.callWith_builtin rfl (Calls.evalArgs_plain (Calls.spliced_cons (thn (he pins s1 σ H1 _ I1 q1) fun iv s2 ⟨y, H2, I2, ry, q2⟩ => Calls.spliced_nil ?_)))
  obtain ⟨kvs, e1, q2⟩ := onDct_of q2
  obtain ⟨k, e2, q2⟩ := onO_of q2
  have g : DGet H2 a y (valV kvs k) := by rw [keyO_kV e2]; exact DGet.k e1
  exact d_get1 hu I2 g ry fun w' s3 I3 rw' => ⟨_, H2, I3, rw', q2⟩
theorem pe_dgetC (hu : X.A.units + 1 < cLine) (ho : PE X o td) (hi : PE X i ty) (hs : NoSl i) : PE X (.Subscript o i pos) (cGet td ty) := by
  intro pins s σ H Q I h
  refine subD_of PySem.F.slot_dict_getitem.lookup hs (thn (ho pins s σ H _ I h) fun u s1 ⟨x, H1, I1, rx, q1⟩ => thn (hi pins s1 σ H1 _ I1 q1) fun iv s2 ⟨y, H2, I2, ry, q2⟩ => ?_)
  obtain ⟨a, rfl, q2⟩ := onRef_of q2
  obtain ⟨kvs, e1, q2⟩ := onDct_of q2
  obtain ⟨k, e2, q2⟩ := onO_of q2
  obtain ⟨v, e3, q2⟩ := onO_of q2
  obtain rfl : u = Value.ref a := rx
  have g : DGet H2 a y (some v) := by rw [keyO_kV e2, ← e3]; exact DGet.k e1
  exact ⟨dict_typeIs I2 g, d_getItem hu I2 g ry fun w' s3 I3 rw' => ⟨v, H2, I3, rw', q2⟩⟩
theorem ps_putC (hu : X.A.units + 1 < cLine) (ho : PE X o td) (hi : PE X i ty) (hv : PE X value tv) (hs : swapsWith value (some (.Subscript o i pos')) pos.line X.env = pure false := by rfl) :
    PS X (.Assign [.Subscript o i pos'] value pos) (cPut td ty tv) := by
  intro pins s σ H D I h
  refine wpAny_Assign_Subscript (thn (hv pins s σ H _ I h) fun r s1 ⟨v, H1, I1, rv, q1⟩ => thn (ho pins s1 σ H1 _ I1 q1) fun u s2 ⟨x, H2, I2, rx, q2⟩ => thn (hi pins s2 σ H2 _ I2 q2) fun iv s3 ⟨y, H3, I3, ry, q3⟩ => ?_) hs
  obtain ⟨a, rfl, q3⟩ := onRef_of q3
  obtain ⟨kvs, e1, q3⟩ := onDct_of q3
  obtain ⟨k, e2, q3⟩ := onO_of q3
  obtain rfl : u = Value.ref a := rx
  have g : DPut H3 a y v (upd H3 a (.dK (putK kvs k v))) := by rw [keyO_kV e2]; exact DPut.k e1 q3.1
  exact d_setItem hu I3 g ry rv fun s4 I4 => ⟨σ, _, I4, q3.2⟩
/-- dict(d) of one dict: a copy -/
noncomputable def cDict : List V → Hp → VK → Prop := fun vs H Q => match vs with
  | [.ref a] => onDct (H a) fun kvs => ∀ p, H p = none → Q (.ref p) (upd H p (.dK kvs))
  | _ => False
theorem call_dictC : CallR X (.type "dict") cDict := fun pins s σ H xs us Q I r h => by
  unfold cDict at h
  split at h
  · rename_i a
    obtain ⟨kvs, e, h⟩ := onDct_of h
    obtain ⟨u, rfl, ru⟩ := r.one
    cases ru
    exact d_copyOf I (.inl e) fun p s' hp I' => ⟨.ref p, _, I', rfl, h p hp⟩
  · exact h.elim
end
/-! ### for x in reversed(a list that the body leaves as it is) -/
noncomputable def Itv (K : PySem.W.Frag) (a : Addr) (n : Nat) : It :=
  ⟨fun i H => i < n ∧ ∃ xs, SqL K H a xs ∧ xs.length = n, fun i H x H' => H' = H ∧ ∀ xs, SqL K H a xs → xs[n - 1 - i]? = some x, fun i H => i = n ∧ ∃ xs, SqL K H a xs ∧ xs.length = n⟩
noncomputable def iRev (K : PySem.W.Frag) (ta : TA) : TI := fun σ H R => ta σ H fun vs H1 => ∃ a xs, vs = [.ref a] ∧ SqL K H1 a xs ∧ R (Itv K a xs.length) H1
end L2
namespace L2
open PySem PySem.Spec PyProof.Rows
/-! ### evaluation: each reading is rewritten where its head is known -/
section
variable {σ : St} {H : Hp} {Q : VK} {D : Ends} {t u : TS} {te ta tb tc to ti : TE} {tl th : TO} {g : TG} {gs : TGs} {tt tt' : TT} {as : TA} {i j : Int} {n : Nat} {x y : Str} {v w : V} {vs : List V} {b : Bool} {p a : Addr} {r r' : R2} {B : Bool → Hp → Prop} {K : PySem.W.Frag}
theorem e_seq : tSeq t u D σ H = t { D with nx := u D } σ H := rfl
theorem e_asg : tAsg te g D σ H = te σ H fun x H1 => g x σ H1 D.nx := rfl
theorem e_name {N : St → Hp → Prop} : gName n v σ H N = N (σ.set n (some v)) H := rfl
theorem e_ret : tRet te D σ H = te σ H D.rt := rfl
theorem e_retN : tRetN D σ H = D.rt .non H := rfl
theorem e_ifS : tIfS tt t u D σ H = tt σ H fun b H1 => if b = true then t D σ H1 else u D σ H1 := rfl
theorem e_test : tTest te σ H B = te σ H fun x H' => onB x fun k => B k H' := by simp only [tTest, onB_eq]
theorem e_tB : tB te σ H B = te σ H fun x H' => onB x fun k => B k H' := by simp only [tB, onB_eq]
theorem e_if : tIf tt ta tb σ H Q = tt σ H fun c H1 => if c = true then ta σ H1 Q else tb σ H1 Q := rfl
theorem e_op : tOp r ta tb σ H Q = ta σ H fun x H1 => tb σ H1 fun y H2 => r x y H2 Q := rfl
theorem e_un {q : V → Hp → VK → Prop} : tUn q ta σ H Q = ta σ H fun x H1 => q x H1 Q := rfl
theorem e_c : tC v σ H Q = Q v H := rfl
theorem e_cons {A : List V → Hp → Prop} : tCons te as σ H A = te σ H fun x H1 => as σ H1 fun xs H2 => A (x :: xs) H2 := rfl
theorem e_nil {A : List V → Hp → Prop} : tNil σ H A = A [] H := rfl
theorem e_call {sp : Sp} {E : XK} : tCall sp [] E as σ H Q = as σ H fun vs H1 => sp vs H1 Q E := by simp only [tCall, List.append_nil]
theorem e_cb {q : List V → Hp → VK → Prop} : tCB q as σ H Q = as σ H fun vs H1 => q vs H1 Q := rfl
theorem e_lst : tLst as σ H Q = as σ H fun xs H1 => xs.length ≤ sizeLine ∧ ∀ p, H1 p = none → Q (.ref p) (upd H1 p (.lst xs)) := rfl
theorem e_tup : tTup as σ H Q = as σ H fun xs H1 => xs.length ≤ sizeLine ∧ ∀ p, H1 p = none → Q (.ref p) (upd H1 p (.tup xs)) := rfl
theorem e_dnew : tDNewK σ H Q = ∀ p, H p = none → Q (.ref p) (upd H p (.dK [])) := rfl
theorem e_drop : tDrop te D σ H = te σ H fun _ H1 => D.nx σ H1 := rfl
theorem e_next : tNext D σ H = D.nx σ H := rfl
theorem e_break : tBreak D σ H = D.bk σ H := rfl
theorem e_cont : tCont D σ H = D.ct σ H := rfl
theorem e_andV : tAndV ta tb σ H Q = ta σ H fun x H1 => onB x fun c => if c = true then tb σ H1 Q else Q (.bl false) H1 := by simp only [tAndV, onB_eq]
theorem e_orV : tOrV ta tb σ H Q = ta σ H fun x H1 => onB x fun c => if c = true then Q (.bl true) H1 else tb σ H1 Q := by simp only [tOrV, onB_eq]
theorem e_notV : tNotV ta σ H Q = ta σ H fun x H1 => onB x fun c => Q (.bl (!c)) H1 := by simp only [tNotV, onB_eq]
theorem e_and : tAnd tt tt' σ H B = tt σ H fun c H1 => if c = true then tt' σ H1 B else B false H1 := rfl
theorem e_or : tOr tt tt' σ H B = tt σ H fun c H1 => if c = true then B true H1 else tt' σ H1 B := rfl
theorem e_not : tNot tt σ H B = tt σ H fun c H1 => B (!c) H1 := rfl
theorem e_chain : tChain r r' ta tb tc σ H Q = ta σ H fun x H1 => tb σ H1 fun y H2 => r x y H2 fun z H3 => onB z fun k => if k = true then tc σ H3 fun w' H4 => r' y w' H4 Q else Q (.bl false) H3 := by simp only [tChain, onB_eq]
theorem e_sl {q : V → Option Int → Option Int → Hp → VK → Prop} : tSl q te tl th σ H Q = te σ H fun x H1 => tl σ H1 fun l H2 => th σ H2 fun u H3 => q x l u H3 Q := rfl
theorem onInt_eq {k : Int → Prop} : (∃ i, v = .int i ∧ k i) = onInt v k := propext ⟨fun ⟨i, e, h⟩ => by subst e; exact h, onInt_of⟩
theorem e_part {O : Option Int → Hp → Prop} : tPart te σ H O = te σ H fun x H1 => onInt x fun i => O (some i) H1 := by simp only [tPart, onInt_eq]
theorem e_nopart {O : Option Int → Hp → Prop} : tNoPart σ H O = O none H := rfl
theorem e_gsub {s : TSet} {N : St → Hp → Prop} : gSub to ti s v σ H N = to σ H fun o H1 => ti σ H1 fun i H2 => s o i v H2 fun H3 => N σ H3 := rfl
theorem e_gnil {N : St → Hp → Prop} : gNil [] σ H N = N σ H := by simp [gNil]
theorem e_gcons {N : St → Hp → Prop} : gCons g gs (v :: vs) σ H N = g v σ H fun σ' H' => gs vs σ' H' N := propext ⟨fun ⟨_, _, e, h⟩ => by cases e; exact h, fun h => ⟨_, _, rfl, h⟩⟩
theorem e_get1 : cGet1 ta tb σ H Q = ta σ H fun x H1 => onRef x fun a => onDct (H1 a) fun _ => tb σ H1 fun y H2 => onDct (H2 a) fun kvs => onO (keyO y) fun k => Q ((valV kvs k).getD .non) H2 := rfl
theorem e_get : cGet ta tb σ H Q = ta σ H fun x H1 => tb σ H1 fun y H2 => onRef x fun a => onDct (H2 a) fun kvs => onO (keyO y) fun k => onO (valV kvs k) fun v => Q v H2 := rfl
theorem e_put : cPut ta tb tc D σ H = tc σ H fun v H1 => ta σ H1 fun x H2 => tb σ H2 fun y H3 => onRef x fun a => onDct (H3 a) fun kvs => onO (keyO y) fun k => kvs.length < sizeLine ∧ D.nx σ (upd H3 a (.dK (putK kvs k v))) := rfl
theorem e_app : cApp to te σ H Q = to σ H fun x H1 => onRef x fun a => onLst (H1 a) fun _ => te σ H1 fun y H2 => onLst (H2 a) fun xs => xs.length < sizeLine ∧ Q .non (upd H2 a (.lst (xs ++ [y]))) := rfl
theorem e_pop : cPop to σ H Q = to σ H fun x H1 => onRef x fun a => onLst (H1 a) fun xs => onO (xs[xs.length - 1]?) fun y => Q y (upd H1 a (.lst xs.dropLast)) := rfl
theorem e_onO {α : Type} {z : α} {k : α → Prop} {u : Tg k} : @onO _ (some z) k u = k z := rfl
theorem e_onB {k : Bool → Prop} {u : Tg k} : @onB (.bl b) k u = k b := rfl
theorem e_onRef {k : Addr → Prop} {u : Tg k} : @onRef (.ref p) k u = k p := rfl
theorem e_onInt {k : Int → Prop} {u : Tg k} : @onInt (.int i) k u = k i := rfl
theorem e_onLst {k : List V → Prop} {u : Tg k} : @onLst (some (.lst vs)) k u = k vs := rfl
theorem e_onSeqL {k : List V → Prop} {u : Tg k} : @onSeq (some (.lst vs)) k u = k vs := rfl
theorem e_onSeqT {k : List V → Prop} {u : Tg k} : @onSeq (some (.tup vs)) k u = k vs := rfl
theorem e_onDct {kvs : List (Key × V)} {k : List (Key × V) → Prop} {u : Tg k} : @onDct (some (.dK kvs)) k u = k kvs := rfl
theorem e_ixR : cIx (.ref p) w H Q = onSeq (H p) fun xs => onInt w fun i => onO (atI xs i) fun v => Q v H := rfl
theorem e_ixS : cIx (.str x) w H Q = onInt w fun i => x.length ≤ sizeLine ∧ onO (atI x.cps.toList i) fun c => Q (.str ⟨#[c]⟩) H := rfl
theorem e_addI : cAdd (.int i) (.int j) H Q = Q (.int (i + j)) H := rfl
theorem e_addS : cAdd (.str x) (.str y) H Q = (x.length + y.length ≤ sizeLine ∧ Q (.str (x ++ y)) H) := rfl
theorem e_addR : cAdd (.ref a) (.ref p) H Q = cCat H Q a (H a) (H p) := rfl
theorem e_catL {us : List V} : cCat H Q a (some (.lst vs)) (some (.lst us)) = (vs.length + us.length ≤ sizeLine ∧ ∀ p, H p = none → Q (.ref p) (upd H p (.lst (vs ++ us)))) := rfl
theorem e_slS {lo hi : Option Int} : cSl (.str x) lo hi H Q = (x.length ≤ sizeLine ∧ Q (.str (Txt.slice x lo hi)) H) := rfl
theorem e_slR {lo hi : Option Int} : cSl (.ref a) lo hi H Q = cCut lo hi H Q (H a) := rfl
theorem e_cutL {lo hi : Option Int} : cCut lo hi H Q (some (.lst vs)) = ∀ p, H p = none → Q (.ref p) (upd H p (.lst (cutV vs lo hi))) := rfl
theorem e_lenS : cLen [.str x] H Q = (x.length ≤ sizeLine ∧ Q (.int x.length) H) := rfl
theorem e_lenR : cLen [.ref p] H Q = onSeq (H p) fun xs => Q (.int xs.length) H := rfl
theorem e_set {N : Hp → Prop} : cSet (.ref p) (.int i) v H N = onLst (H p) fun xs => onO (ixN xs.length i) fun j => N (upd H p (.lst (xs.set j v))) := rfl
theorem e_in {neg : Bool} : cIn neg v (.ref p) H Q = onSeq (H p) fun xs => flatV v = true ∧ xs.all flatV = true ∧ Q (.bl (if neg = true then !inV v xs else inV v xs)) H := rfl
theorem e_dict : cDict [.ref a] H Q = onDct (H a) fun kvs => ∀ p, H p = none → Q (.ref p) (upd H p (.dK kvs)) := rfl
theorem e_keyI : keyO (.int i) = some (.inl i) := rfl
theorem e_keyS : keyO (.str x) = some (.inr x) := rfl
theorem e_keyN : keyO .non = some .no := rfl
theorem e_atI {α : Type} {xs : List α} {k : Nat} : atI xs (OfNat.ofNat k) = xs[k]? := by
  show atI xs ((k : Nat) : Int) = xs[k]?
  cases e : xs[k]? with
  | some z => exact atI_nat e
  | none =>
    have := List.getElem?_eq_none_iff.mp e
    unfold atI ixN
    rw [if_pos (by omega), if_neg (by omega)]
    rfl
theorem e_at0 {α : Type} {xs : List α} : atI xs 0 = xs[0]? := e_atI (k := 0)
theorem e_at1 {α : Type} {xs : List α} : atI xs 1 = xs[1]? := e_atI (k := 1)
theorem e_at2 {α : Type} {xs : List α} : atI xs 2 = xs[2]? := e_atI (k := 2)
theorem e_at3 {α : Type} {xs : List α} : atI xs 3 = xs[3]? := e_atI (k := 3)
theorem e_at4 {α : Type} {xs : List α} : atI xs 4 = xs[4]? := e_atI (k := 4)
theorem e_at5 {α : Type} {xs : List α} : atI xs 5 = xs[5]? := e_atI (k := 5)
theorem e_at6 {α : Type} {xs : List α} : atI xs 6 = xs[6]? := e_atI (k := 6)
theorem e_at7 {α : Type} {xs : List α} : atI xs 7 = xs[7]? := e_atI (k := 7)
theorem e_at8 {α : Type} {xs : List α} : atI xs 8 = xs[8]? := e_atI (k := 8)
theorem e_at9 {α : Type} {xs : List α} : atI xs 9 = xs[9]? := e_atI (k := 9)
theorem e_at10 {α : Type} {xs : List α} : atI xs 10 = xs[10]? := e_atI (k := 10)
theorem e_at11 {α : Type} {xs : List α} : atI xs 11 = xs[11]? := e_atI (k := 11)
theorem e_at12 {α : Type} {xs : List α} : atI xs 12 = xs[12]? := e_atI (k := 12)
theorem e_cmul1 : CMul 1 j = True := eq_true (.inl ⟨by decide, by decide⟩)
theorem e_cmul2 : CMul 2 j = True := eq_true (.inl ⟨by decide, by decide⟩)
theorem e_cmul3 : CMul 3 j = True := eq_true (.inl ⟨by decide, by decide⟩)
theorem e_cmul10 : CMul 10 j = True := eq_true (.inl ⟨by decide, by decide⟩)
theorem e_cpow6 : CPow 10 6 = True := eq_true ⟨by decide, by decide, by decide⟩
theorem e_cpow9 : CPow 10 9 = True := eq_true ⟨by decide, by decide, by decide⟩
theorem e_cpow12 : CPow 10 12 = True := eq_true ⟨by decide, by decide, by decide⟩
theorem e_cpow18 : CPow 10 18 = True := eq_true ⟨by decide, by decide, by decide⟩
theorem e_cpow30 : CPow 10 30 = True := eq_true ⟨by decide, by decide, by decide⟩
theorem e_cpow40 : CPow 10 40 = True := eq_true ⟨by decide, by decide, by decide⟩
theorem e_cpow45 : CPow 10 45 = True := eq_true ⟨by decide, by decide, by decide⟩
theorem e_ixN0 {m : Nat} : ixN (m + 1) 0 = some 0 := by simp [ixN] <;> omega
theorem e_ixN1 {m : Nat} : ixN (m + 2) 1 = some 1 := by simp [ixN] <;> omega
theorem e_intI : cInt [.int i] H Q = Q (.int i) H := rfl
theorem e_intB : cInt [.bl b] H Q = Q (.int (if b = true then 1 else 0)) H := rfl
theorem e_is : cIsN v .non H Q = Q (.bl (decide (v = .non))) H := by cases v <;> rfl
theorem e_isnot : cNotN v .non H Q = Q (.bl (!decide (v = .non))) H := by cases v <;> rfl
theorem e_max : cMax [.int i, .int j] H Q = Q (.int (if j > i then j else i)) H := rfl
theorem e_min : cMin [.int i, .int j] H Q = Q (.int (if j < i then j else i)) H := rfl
theorem e_abs : cAbs [.int i] H Q = Q (.int (if i < 0 then -i else i)) H := rfl
theorem e_isi_int_int : cIsi [(.int i), .ty "int"] H Q = Q (.bl true) H := by simp [cIsi, kSc, onO]
theorem e_isi_int_bl : cIsi [(.bl b), .ty "int"] H Q = Q (.bl true) H := by simp [cIsi, kSc, onO]
theorem e_isi_int_str : cIsi [(.str x), .ty "int"] H Q = Q (.bl false) H := by simp [cIsi, kSc, onO]
theorem e_isi_int_non : cIsi [.non, .ty "int"] H Q = Q (.bl false) H := by simp [cIsi, kSc, onO]
theorem e_isi_int_ref : cIsi [.ref p, .ty "int"] H Q = onO (kRef (H p) "int") fun b => Q (.bl b) H := rfl
theorem e_isi_bool_int : cIsi [(.int i), .ty "bool"] H Q = Q (.bl false) H := by simp [cIsi, kSc, onO]
theorem e_isi_bool_bl : cIsi [(.bl b), .ty "bool"] H Q = Q (.bl true) H := by simp [cIsi, kSc, onO]
theorem e_isi_bool_str : cIsi [(.str x), .ty "bool"] H Q = Q (.bl false) H := by simp [cIsi, kSc, onO]
theorem e_isi_bool_non : cIsi [.non, .ty "bool"] H Q = Q (.bl false) H := by simp [cIsi, kSc, onO]
theorem e_isi_bool_ref : cIsi [.ref p, .ty "bool"] H Q = onO (kRef (H p) "bool") fun b => Q (.bl b) H := rfl
theorem e_isi_str_int : cIsi [(.int i), .ty "str"] H Q = Q (.bl false) H := by simp [cIsi, kSc, onO]
theorem e_isi_str_bl : cIsi [(.bl b), .ty "str"] H Q = Q (.bl false) H := by simp [cIsi, kSc, onO]
theorem e_isi_str_str : cIsi [(.str x), .ty "str"] H Q = Q (.bl true) H := by simp [cIsi, kSc, onO]
theorem e_isi_str_non : cIsi [.non, .ty "str"] H Q = Q (.bl false) H := by simp [cIsi, kSc, onO]
theorem e_isi_str_ref : cIsi [.ref p, .ty "str"] H Q = onO (kRef (H p) "str") fun b => Q (.bl b) H := rfl
theorem e_isi_tuple_int : cIsi [(.int i), .ty "tuple"] H Q = Q (.bl false) H := by simp [cIsi, kSc, onO]
theorem e_isi_tuple_bl : cIsi [(.bl b), .ty "tuple"] H Q = Q (.bl false) H := by simp [cIsi, kSc, onO]
theorem e_isi_tuple_str : cIsi [(.str x), .ty "tuple"] H Q = Q (.bl false) H := by simp [cIsi, kSc, onO]
theorem e_isi_tuple_non : cIsi [.non, .ty "tuple"] H Q = Q (.bl false) H := by simp [cIsi, kSc, onO]
theorem e_isi_tuple_ref : cIsi [.ref p, .ty "tuple"] H Q = onO (kRef (H p) "tuple") fun b => Q (.bl b) H := rfl
theorem e_kl_int : kRef (some (.lst vs)) "int" = some false := by simp [kRef]
theorem e_kt_int : kRef (some (.tup vs)) "int" = some false := by simp [kRef]
theorem e_kl_bool : kRef (some (.lst vs)) "bool" = some false := by simp [kRef]
theorem e_kt_bool : kRef (some (.tup vs)) "bool" = some false := by simp [kRef]
theorem e_kl_str : kRef (some (.lst vs)) "str" = some false := by simp [kRef]
theorem e_kt_str : kRef (some (.tup vs)) "str" = some false := by simp [kRef]
theorem e_kl_tuple : kRef (some (.lst vs)) "tuple" = some false := by simp [kRef]
theorem e_kt_tuple : kRef (some (.tup vs)) "tuple" = some true := by simp [kRef]
theorem e_kd_int {kvs : List (Key × V)} : kRef (some (.dK kvs)) "int" = some false := by simp [kRef]
theorem e_kd_bool {kvs : List (Key × V)} : kRef (some (.dK kvs)) "bool" = some false := by simp [kRef]
theorem e_kd_str {kvs : List (Key × V)} : kRef (some (.dK kvs)) "str" = some false := by simp [kRef]
theorem e_chk {c : Prop} [Decidable c] {P R : Prop} : (if (decide c) = true then P else R) = if c then P else R := by
  by_cases h : c <;> simp [h]
theorem e_chn {c : Prop} [Decidable c] {P R : Prop} : (if (!decide c) = true then P else R) = if c then R else P := by
  by_cases h : c <;> simp [h]
theorem e_ite1 {P R : Prop} : (if true = true then P else R) = P := by simp
theorem e_ite0 {P R : Prop} : (if false = true then P else R) = R := by simp
end
theorem Kp.at1 {r a : Addr} {H H' : Hp} {o : HO} (x : Kp [r] H H') (e : H a = some o) (n : a ≠ r) : H' a = some o := x a o e (by simpa using n)
/-- an item by a draw -/
theorem r_draw {xs : List V} {i : Int} {k : V → Prop} (h0 : 0 ≤ i) (h1 : i < (xs.length : Int)) (q : ∀ v ∈ xs, k v) : onO (atI xs i) k := by
  have hk : i.toNat < xs.length := by omega
  have ek : i = ((i.toNat : Nat) : Int) := by omega
  have e : atI xs ((i.toNat : Nat) : Int) = some xs[i.toNat] := atI_nat (List.getElem?_eq_getElem hk)
  rw [← ek] at e
  rw [e]
  exact q _ (List.getElem_mem hk)
end L2
namespace L2
open PySem PySem.Spec PyProof.Rows
/-! ### loops -/
noncomputable def on1 (vs : List V) (k : V → Prop) (_u : Tg k := ()) : Prop := match vs with
  | [v] => k v
  | _ => False
/-- the loop over J, from its first turn -/
noncomputable def lp (J : It) (g : TG) (tb : TS) (D : Ends) (σ : St) (H : Hp) : Prop := ∃ W : Nat → Nat → St → Hp → Prop, (∃ m, W 0 m σ H) ∧ ∀ i m σ H, W i m σ H →
  (J.stop i H ∧ D.nx σ H) ∨ (J.go i H ∧ ∃ N : St → Hp → Prop, (∀ σ' H', N σ' H' → ∃ m', m' < m ∧ W (i + 1) m' σ' H') ∧ ∀ x H', J.yld i H x H' → g x σ H' fun σ2 H2 => tb { D with nx := N, ct := N, bk := D.nx } σ2 H2)
section
variable {σ : St} {H : Hp} {D : Ends} {g : TG} {tb : TS} {as : TA} {te : TE} {K : PySem.W.Frag} {v w : V}
theorem e_on1 {k : V → Prop} {u : Tg k} : @on1 [v] k u = k v := rfl
theorem e_forR1 : tFor (iRng1 as) g tb D σ H = as σ H fun vs H1 => on1 vs fun v => onInt v fun j => (-(2 ^ 62) ≤ j ∧ j < 2 ^ 62) ∧ lp (Itr 0 j.toNat) g tb D σ H1 := by
  unfold tFor iRng1
  congr 1
  funext vs H1
  refine propext ⟨fun ⟨j, e, h1, h2, h⟩ => by subst e; exact ⟨⟨h1, h2⟩, h⟩, fun h => ?_⟩
  unfold on1 at h
  split at h
  · obtain ⟨j, rfl, ⟨h1, h2⟩, h⟩ := onInt_of h
    exact ⟨j, rfl, h1, h2, h⟩
  · exact h.elim
noncomputable def on2 (vs : List V) (k : V → V → Prop) (_u : Tg k := ()) : Prop := match vs with
  | [v, w] => k v w
  | _ => False
theorem e_on2 {k : V → V → Prop} {u : Tg k} : @on2 [v, w] k u = k v w := rfl
theorem e_forR2 : tFor (iRng2 as) g tb D σ H = as σ H fun vs H1 => on2 vs fun v w => onInt v fun i => onInt w fun j => (-(2 ^ 62) ≤ i ∧ i < 2 ^ 62 ∧ -(2 ^ 62) ≤ j ∧ j < 2 ^ 62) ∧ lp (Itr i (j - i).toNat) g tb D σ H1 := by
  unfold tFor iRng2
  congr 1
  funext vs H1
  refine propext ⟨fun ⟨i, j, e, h1, h⟩ => by subst e; exact ⟨h1, h⟩, fun h => ?_⟩
  unfold on2 at h
  split at h
  · obtain ⟨i, rfl, h'⟩ := onInt_of h
    obtain ⟨j, rfl, h1, h''⟩ := onInt_of h'
    exact ⟨i, j, rfl, h1, h''⟩
  · exact h.elim
theorem e_forL : tFor (iList K te) g tb D σ H = te σ H fun x H1 => onRef x fun a => (∃ xs, SqL K H1 a xs) ∧ lp (Itl K a) g tb D σ H1 := by
  unfold tFor iList
  congr 1
  funext x H1
  exact propext ⟨fun ⟨a, e, h1, h⟩ => by subst e; exact ⟨h1, h⟩, fun h => by obtain ⟨a, rfl, h1, h⟩ := onRef_of h; exact ⟨a, rfl, h1, h⟩⟩
theorem e_forT : tFor (iTup K te) g tb D σ H = te σ H fun x H1 => onRef x fun a => (∃ xs, SqT K H1 a xs) ∧ lp (Itt K a) g tb D σ H1 := by
  unfold tFor iTup
  congr 1
  funext x H1
  exact propext ⟨fun ⟨a, e, h1, h⟩ => by subst e; exact ⟨h1, h⟩, fun h => by obtain ⟨a, rfl, h1, h⟩ := onRef_of h; exact ⟨a, rfl, h1, h⟩⟩
theorem e_forV : tFor (iRev K as) g tb D σ H = as σ H fun vs H1 => on1 vs fun x => onRef x fun a => ∃ xs, SqL K H1 a xs ∧ lp (Itv K a xs.length) g tb D σ H1 := by
  unfold tFor iRev
  congr 1
  funext vs H1
  refine propext ⟨fun ⟨a, xs, e, h1, h⟩ => by subst e; exact ⟨xs, h1, h⟩, fun h => ?_⟩
  unfold on1 at h
  split at h
  · obtain ⟨a, rfl, xs, h1, h⟩ := onRef_of h
    exact ⟨a, xs, rfl, h1, h⟩
  · exact h.elim
end
end L2
namespace L2
open PySem PySem.Spec PyProof.Rows
/-! ### comprehensions -/
noncomputable def lc (J : It) (fr : List Nat) (tc : TT) (te : TE) (σ : St) (H : Hp) (Q : VK) : Prop := ∃ W : Nat → Nat → List V → Hp → Prop, (∃ m, W 0 m [] H) ∧ ∀ i m xs H, W i m xs H → xs.length ≤ 1000000 ∧
  ((J.stop i H ∧ ∀ p, H p = none → Q (.ref p) (upd H p (.lst xs))) ∨
   (J.go i H ∧ ∀ y H', J.yld i H y H' → tc (some y :: compSt fr σ) H' fun b H2 => if b = true then te (some y :: compSt fr σ) H2 (fun z H3 => ∃ m', m' < m ∧ W (i + 1) m' (xs ++ [z]) H3) else ∃ m', m' < m ∧ W (i + 1) m' xs H2))
section
variable {fr : List Nat} {tc : TT} {te tl : TE} {σ : St} {H H1 : Hp} {Q : VK} {as : TA} {K : PySem.W.Frag}
theorem e_compR : tComp (iRng1 as) fr tc te σ H Q = as σ H fun vs H1 => on1 vs fun v => onInt v fun j => (-(2 ^ 62) ≤ j ∧ j < 2 ^ 62) ∧ lc (Itr 0 j.toNat) fr tc te σ H1 Q := by
  unfold tComp iRng1
  congr 1
  funext vs H1
  refine propext ⟨fun ⟨j, e, h1, h2, h⟩ => by subst e; exact ⟨⟨h1, h2⟩, h⟩, fun h => ?_⟩
  unfold on1 at h
  split at h
  · obtain ⟨j, rfl, ⟨h1, h2⟩, h⟩ := onInt_of h
    exact ⟨j, rfl, h1, h2, h⟩
  · exact h.elim
theorem e_compL : tComp (iList K tl) fr tc te σ H Q = tl σ H fun x H1 => onRef x fun a => (∃ xs, SqL K H1 a xs) ∧ lc (Itl K a) fr tc te σ H1 Q := by
  unfold tComp iList
  congr 1
  funext x H1
  exact propext ⟨fun ⟨a, e, h1, h⟩ => by subst e; exact ⟨h1, h⟩, fun h => by obtain ⟨a, rfl, h1, h⟩ := onRef_of h; exact ⟨a, rfl, h1, h⟩⟩
noncomputable def onStr (x : V) (k : Str → Prop) (_u : Tg k := ()) : Prop := match x with
  | .str p => k p
  | _ => False
theorem e_onStr {x : Str} {k : Str → Prop} {u : Tg k} : @onStr (.str x) k u = k x := rfl
theorem e_compS : tComp (iStr tl) fr tc te σ H Q = tl σ H fun x H1 => onStr x fun z => lc (Its z) fr tc te σ H1 Q := by
  unfold tComp iStr
  congr 1
  funext x H1
  refine propext ⟨fun ⟨a, e, h⟩ => by subst e; exact h, fun h => ?_⟩
  cases x with
  | str z => exact ⟨z, rfl, h⟩
  | _ => exact h.elim
theorem e_true {B : Bool → Hp → Prop} : tTrue σ H B = B true H := rfl
theorem e_cs0 : compSt [] σ = [] := rfl
theorem cW_eq {n : Nat} {Pv : Nat → List V → Hp → Prop} {i : Nat} {xs : List V} (hi : i < n) : (∃ m', m' < n - i ∧ cW n Pv (i + 1) m' xs H) = Pv (i + 1) xs H :=
  propext ⟨fun ⟨_, _, _, _, h⟩ => h, fun h => cW.next hi h⟩
theorem lc_range {lo : Int} {n : Nat} (Pv : Nat → List V → Hp → Prop) (h0 : Pv 0 [] H) (hz : ∀ i xs H, Pv i xs H → xs.length ≤ 1000000)
    (hs : ∀ i xs H, i < n → Pv i xs H → tc (some (.int (lo + i)) :: compSt fr σ) H fun b H2 => if b = true then te (some (.int (lo + i)) :: compSt fr σ) H2 (fun z H3 => Pv (i + 1) (xs ++ [z]) H3) else Pv (i + 1) xs H2)
    (hd : ∀ xs H, Pv n xs H → ∀ p, H p = none → Q (.ref p) (upd H p (.lst xs))) : lc (Itr lo n) fr tc te σ H Q :=
  comp_range Pv h0 hz (fun i xs H hi h => by simp only [cW_eq hi]; exact hs i xs H hi h) hd
theorem lc_list {a : Addr} {ys : List V} (Pv : Nat → List V → Hp → Prop) (h0 : Pv 0 [] H) (hz : ∀ i xs H, Pv i xs H → xs.length ≤ 1000000) (hl : ∀ i xs H, Pv i xs H → SqL K H a ys)
    (hs : ∀ i y xs H, i < ys.length → ys[i]? = some y → Pv i xs H → tc (some y :: compSt fr σ) H fun b H2 => if b = true then te (some y :: compSt fr σ) H2 (fun z H3 => Pv (i + 1) (xs ++ [z]) H3) else Pv (i + 1) xs H2)
    (hd : ∀ xs H, Pv ys.length xs H → ∀ p, H p = none → Q (.ref p) (upd H p (.lst xs))) : lc (Itl K a) fr tc te σ H Q :=
  comp_list Pv h0 hz hl (fun i y xs H hi e h => by simp only [cW_eq hi]; exact hs i y xs H hi e h) hd
end
end L2
namespace L2
open PySem PySem.Spec PyProof.Rows
/-! ### == and != of values that hold others -/
/-- the pairs of the one, looked up in the other -/
noncomputable def dHit (kb : List (Key × V)) : List (Key × V) → Bool
  | [] => true
  | (k, v) :: r => match valV kb k with
    | none => false
    | some y => eqV v y && dHit kb r
mutual
inductive EqA (K : PySem.W.Frag) (H : Hp) : Nat → V → V → Bool → Prop
  | flat {n : Nat} {x y : V} : flatV x = true → flatV y = true → EqA K H n x y (eqV x y)
  | same {n : Nat} {a : Addr} : EqA K H n (.ref a) (.ref a) true
  | refs {n : Nat} {a b : Addr} {r : Bool} : a ≠ b → RcA K H n a b r → EqA K H n (.ref a) (.ref b) r
inductive RcA (K : PySem.W.Frag) (H : Hp) : Nat → Addr → Addr → Bool → Prop
  | list {n : Nat} {a b : Addr} {xs ys : List V} {e : Nat → Bool} : SqL K H a xs → SqL K H b ys → xs.length = ys.length → (∀ j x y, xs[j]? = some x → ys[j]? = some y → EqA K H n x y (e j)) → RcA K H (n + 1) a b ((List.range xs.length).all e)
  | listLen {n : Nat} {a b : Addr} {xs ys : List V} : SqL K H a xs → SqL K H b ys → xs.length ≠ ys.length → RcA K H (n + 1) a b false
  | tup {n : Nat} {a b : Addr} {xs ys : List V} {e : Nat → Bool} : SqT K H a xs → SqT K H b ys → (∀ j x y, xs[j]? = some x → ys[j]? = some y → EqA K H n x y (e j)) → RcA K H (n + 1) a b ((List.range (min xs.length ys.length)).all e && xs.length == ys.length)
end
section
variable {X : Cx} {pins : List (Addr × Obj)} {σ : St} {H : Hp} {s : Shared}
theorem item_of {xs : List V} {its : List Value} (r : Vals xs its) {j : Nat} (h : j < its.toArray.size) : ∃ x, xs[j]? = some x ∧ RelV x its.toArray[j] := by
  have hj : j < xs.length := by have := r.length; simp only [List.size_toArray] at h; omega
  have e := List.getElem?_eq_getElem hj
  obtain ⟨u, g, ru⟩ := r.get e
  refine ⟨_, e, ?_⟩
  obtain ⟨_, q⟩ := List.getElem?_eq_some_iff.mp g
  have : its.toArray[j] = u := by simpa using q
  rw [this]
  exact ru
theorem eqrc_at : ∀ (n : Nat), (∀ {a b : Addr} {r : Bool}, RcA X.K H n a b r → ∀ {A : Around}, Inv X pins σ H s → A.units + n < cLine → SeqAt.RcAt A s (.ref a) (.ref b) r) ∧ (∀ {x y : V} {b : Bool}, EqA X.K H n x y b → ∀ {A : Around} {v u : Value}, Inv X pins σ H s → RelV x v → RelV y u → A.units + n < cLine → SeqAt.EqAt A s v u b) := by
  intro n
  have up : ∀ {n : Nat}, (∀ {a b : Addr} {r : Bool}, RcA X.K H n a b r → ∀ {A : Around}, Inv X pins σ H s → A.units + n < cLine → SeqAt.RcAt A s (.ref a) (.ref b) r) → (∀ {x y : V} {b : Bool}, EqA X.K H n x y b → ∀ {A : Around} {v u : Value}, Inv X pins σ H s → RelV x v → RelV y u → A.units + n < cLine → SeqAt.EqAt A s v u b) := by
    intro n rc x y b h A v u I rx ry hu
    cases h with
    | flat fx fy => exact eqAt_V rx ry fx fy
    | same =>
      cases rx
      cases ry
      exact SeqAt.EqAt.same _
    | refs ne h =>
      cases rx
      cases ry
      exact SeqAt.EqAt.of_refs ne (rc h I hu)
  suffices g : ∀ {a b : Addr} {r : Bool}, RcA X.K H n a b r → ∀ {A : Around}, Inv X pins σ H s → A.units + n < cLine → SeqAt.RcAt A s (.ref a) (.ref b) r from ⟨g, up g⟩
  induction n with
  | zero => intro a b r h; cases h
  | succ n ih =>
    intro a b r h A I hu
    have ih := @up n @ih
    cases h with
    | list hx hy hl he =>
      obtain ⟨its, r1, p1, z1⟩ := I.list hx
      obtain ⟨jts, r2, p2, z2⟩ := I.list hy
      have l1 := r1.length
      have l2 := r2.length
      have := SeqAt.RcAt.lists p1.isList p2.isList (by simp only [List.size_toArray]; omega) (by omega) (A := A) (fun j h1 h2 => by
        obtain ⟨x, ex, rx⟩ := item_of r1 h1
        obtain ⟨y, ey, ry⟩ := item_of r2 h2
        exact ih (he j x y ex ey) I rx ry (by show A.units + 1 + _ < _; omega))
      rw [List.size_toArray, ← l1] at this
      exact this
    | listLen hx hy hl =>
      obtain ⟨its, r1, p1, z1⟩ := I.list hx
      obtain ⟨jts, r2, p2, z2⟩ := I.list hy
      have l1 := r1.length
      have l2 := r2.length
      exact SeqAt.RcAt.lists_lengths p1.isList p2.isList (by simp only [List.size_toArray, bne_iff_ne, ne_eq]; omega) (by omega)
    | tup hx hy he =>
      obtain ⟨its, r1, p1, z1⟩ := I.tuple hx
      obtain ⟨jts, r2, p2, z2⟩ := I.tuple hy
      have l1 := r1.length
      have l2 := r2.length
      have := SeqAt.RcAt.tuples (show s.heap.IsTuple _ its.toArray from p1) (show s.heap.IsTuple _ jts.toArray from p2) (by omega) (A := A) (fun j h1 h2 => by
        obtain ⟨x, ex, rx⟩ := item_of r1 h1
        obtain ⟨y, ey, ry⟩ := item_of r2 h2
        exact ih (he j x y ex ey) I rx ry (by show A.units + 1 + _ < _; omega))
      rw [List.size_toArray, List.size_toArray, ← l1, ← l2] at this
      exact this
theorem eqA_at {n : Nat} {x y : V} {b : Bool} (h : EqA X.K H n x y b) {A : Around} {v u : Value} (I : Inv X pins σ H s) (rx : RelV x v) (ry : RelV y u) (hu : A.units + n < cLine) : SeqAt.EqAt A s v u b := (eqrc_at n).2 h I rx ry hu
theorem rcA_at {n : Nat} {a b : Addr} {r : Bool} (h : RcA X.K H n a b r) {A : Around} (I : Inv X pins σ H s) (hu : A.units + n < cLine) : SeqAt.RcAt A s (.ref a) (.ref b) r := (eqrc_at n).1 h I hu
end
/-- two values ==, as this program and world have it -/
noncomputable def EqP (P : Program) (W : World) (A : Around) (s : Shared) (y x : Value) (r : Bool) : Prop := ∀ (E : Value → Shared → Prop) (Q : Bool → Shared → Prop), Q r s → wpAny (model P W) A (eqBool y x) Q E s
theorem EqP.of {P : Program} {W : World} {A : Around} {s : Shared} {y x : Value} {r : Bool} (h : SeqAt.EqAt A s y x r) : EqP P W A s y x r := h P W
/-- != of a list and the empty list -/
noncomputable def cNeE : R2 := fun x y H Q => onRef x fun a => onRef y fun b => onLst (H a) fun xs => onLst (H b) fun ys => ys = [] ∧ Q (.bl (!xs.isEmpty)) H
/-- != of two lists of dicts with flat values, no dict in both -/
inductive DPairs (H : Hp) : List V → List V → Bool → Prop
  | nil : DPairs H [] [] true
  | cons {a b : Addr} {ka kb : List (Key × V)} {xs ys : List V} {r : Bool} : a ≠ b → H a = some (.dK ka) → H b = some (.dK kb) → (ka.all fun kv => flatV kv.2) = true → (kb.all fun kv => flatV kv.2) = true → DPairs H xs ys r →
      DPairs H (.ref a :: xs) (.ref b :: ys) ((ka.length == kb.length && dHit kb ka) && r)
theorem DPairs.len {H : Hp} {xs ys : List V} {r : Bool} (h : DPairs H xs ys r) : xs.length = ys.length := by
  induction h with
  | nil => rfl
  | cons _ _ _ _ _ _ ih => simp [ih]
theorem DPairs.at {H : Hp} {xs ys : List V} {r : Bool} (h : DPairs H xs ys r) : ∃ f : Nat → Bool, (List.range xs.length).all f = r ∧ ∀ j x y, xs[j]? = some x → ys[j]? = some y → ∃ a b ka kb, x = .ref a ∧ y = .ref b ∧ a ≠ b ∧ H a = some (.dK ka) ∧ H b = some (.dK kb) ∧ (ka.all fun kv => flatV kv.2) = true ∧ (kb.all fun kv => flatV kv.2) = true ∧ f j = (ka.length == kb.length && dHit kb ka) := by
  induction h with
  | nil => exact ⟨fun _ => true, rfl, fun j x y e => by simp at e⟩
  | @cons a b ka kb xs ys r ne ea eb fa fb _ ih =>
    obtain ⟨f, hf, hp⟩ := ih
    refine ⟨fun j => match j with | 0 => (ka.length == kb.length && dHit kb ka) | j + 1 => f j, ?_, ?_⟩
    · rw [List.length_cons, List.range_succ_eq_map, List.all_cons, List.all_map, ← hf]
      rfl
    · intro j x y e1 e2
      cases j with
      | zero =>
        simp only [List.getElem?_cons_zero, Option.some.injEq] at e1 e2
        exact ⟨a, b, ka, kb, e1.symm, e2.symm, ne, ea, eb, fa, fb, rfl⟩
      | succ j => exact hp j x y (by simpa using e1) (by simpa using e2)
noncomputable def cNeD : R2 := fun x y H Q => onRef x fun a => onRef y fun b => onLst (H a) fun xs => onLst (H b) fun ys => ∃ r, DPairs H xs ys r ∧ Q (.bl (!r)) H
end L2
namespace L2
open PySem PySem.Spec PyProof.Rows
/-! ### xs.index(e) of flat items -/
/-- the first place at which y is -/
noncomputable def idxV (y : V) (xs : List V) : Option Nat := xs.findIdx? fun z => eqV z y
section
variable {X : Cx}
variable {o e : Expr} {to te : TE} {apos cpos : Pos}
noncomputable def cIdx (to te : TE) : TE := fun σ H Q => to σ H fun x H1 => onRef x fun a => onLst (H1 a) fun _ => te σ H1 fun y H2 => onLst (H2 a) fun xs => flatV y = true ∧ xs.all flatV = true ∧ onO (idxV y xs) fun j => Q (.int j) H2
theorem e_idx {σ : St} {H : Hp} {Q : VK} : cIdx to te σ H Q = to σ H fun x H1 => onRef x fun a => onLst (H1 a) fun _ => te σ H1 fun y H2 => onLst (H2 a) fun xs => flatV y = true ∧ xs.all flatV = true ∧ onO (idxV y xs) fun j => Q (.int j) H2 := rfl
end
section
variable {H : Hp} {Q : VK} {a b p : Addr} {x : V}
theorem e_eqB {a b : Bool} : rEq (.bl a) (.bl b) H Q = Q (.bl (decide (a = b))) H := by simp only [rEq, show scal (.bl a) (.bl b) = true from rfl, V.bl.injEq, true_and]
theorem e_eqNN : rEq .non .non H Q = Q (.bl true) H := by simp only [rEq, show scal .non .non = true from rfl, decide_true, true_and]
theorem e_eqNI {i : Int} : rEq .non (.int i) H Q = Q (.bl false) H := by simp only [rEq, show scal .non (.int i) = true from rfl, reduceCtorEq, decide_false, true_and]
theorem e_eqIN {i : Int} : rEq (.int i) .non H Q = Q (.bl false) H := by simp only [rEq, show scal (.int i) .non = true from rfl, reduceCtorEq, decide_false, true_and]
theorem e_slLr {K : PySem.W.Frag} {lo hi : Option Int} : rSlL K (.ref a) lo hi H Q = ∃ xs, SqL K H a xs ∧ ∀ p, H p = none → Q (.ref p) (upd H p (.lst (cutV xs lo hi))) := by simp [rSlL]
theorem e_gtup {K : PySem.W.Frag} {n : Nat} {t : TGs} {σ : St} {N : St → Hp → Prop} : gTup K n t (.ref a) σ H N = ∃ xs, SqT K H a xs ∧ xs.length = n ∧ t xs σ H N := by simp [gTup]
theorem e_c0 : ((0 : Nat) : Int) = 0 := rfl
theorem e_c1 : ((1 : Nat) : Int) = 1 := rfl
theorem e_c2 : ((2 : Nat) : Int) = 2 := rfl
theorem e_neE : cNeE (.ref a) (.ref b) H Q = onLst (H a) fun xs => onLst (H b) fun ys => ys = [] ∧ Q (.bl (!xs.isEmpty)) H := rfl
theorem e_neD : cNeD (.ref a) (.ref b) H Q = onLst (H a) fun xs => onLst (H b) fun ys => ∃ r, DPairs H xs ys r ∧ Q (.bl (!r)) H := rfl
end
end L2
namespace L2
open PySem PySem.Spec PyProof.Rows
/-! ### tuples: t + u of any, t == () -/
noncomputable def onTup (o : Option HO) (k : List V → Prop) (_u : Tg k := ()) : Prop := match o with
  | some (.tup xs) => k xs
  | _ => False
noncomputable def cTcat : R2 := fun x y H Q => onRef x fun a => onRef y fun b => onTup (H a) fun xs => onTup (H b) fun ys => xs.length + ys.length ≤ sizeLine ∧ (if xs = [] then Q y H else if ys = [] then Q x H else ∀ p, H p = none → Q (.ref p) (upd H p (.tup (xs ++ ys))))
noncomputable def cEqTE : R2 := fun x y H Q => onRef x fun a => onRef y fun b => onTup (H a) fun xs => onTup (H b) fun ys => ys = [] ∧ xs.all flatV = true ∧ Q (.bl xs.isEmpty) H
section
variable {X : Cx}
end
section
variable {H : Hp} {Q : VK} {a b p : Addr} {vs : List V} {lo hi : Option Int}
theorem e_onTup {k : List V → Prop} {u : Tg k} : @onTup (some (.tup vs)) k u = k vs := rfl
theorem e_tcat : cTcat (.ref a) (.ref b) H Q = onTup (H a) fun xs => onTup (H b) fun ys => xs.length + ys.length ≤ sizeLine ∧ (if xs = [] then Q (.ref b) H else if ys = [] then Q (.ref a) H else ∀ p, H p = none → Q (.ref p) (upd H p (.tup (xs ++ ys)))) := rfl
theorem e_eqTE : cEqTE (.ref a) (.ref b) H Q = onTup (H a) fun xs => onTup (H b) fun ys => ys = [] ∧ xs.all flatV = true ∧ Q (.bl xs.isEmpty) H := rfl
theorem e_cutT : cCut lo hi H Q (some (.tup vs)) = (¬ (HT.sIx vs.length 0 lo = 0 ∧ HT.sIx vs.length vs.length hi = vs.length) ∧ ∀ p, H p = none → Q (.ref p) (upd H p (.tup (cutV vs lo hi)))) := rfl
end
end L2
namespace L2
open PySem PySem.Spec PyProof.Rows
section
variable {prog : Program} {w : World} {A : Around} {E : Value → Shared → Prop}
end
/-- dict(pairs): a list of tuples of two -/
noncomputable def PairsAt (H : Hp) (xs : List V) (kvs : List (Key × V)) : Prop := xs.length = kvs.length ∧ ∀ (j : Nat) (x : V), xs[j]? = some x → ∃ (t : Addr) (k : Key) (v : V), x = .ref t ∧ H t = some (.tup [kV k, v]) ∧ kvs[j]? = some (k, v)
noncomputable def cDictP : List V → Hp → VK → Prop := fun vs H Q => on1 vs fun x => onRef x fun l => onLst (H l) fun xs => ∃ kvs, PairsAt H xs kvs ∧ ∀ p, H p = none → Q (.ref p) (upd H p (.dK (mergeK [] kvs)))
end L2
namespace L2
open PySem PySem.Spec PyProof.Rows
/-! ### a loop over a dict's keys: the dict is frozen from then on -/
noncomputable def Itd (a : Addr) (o : Obj) (kvs : List (Key × V)) : It :=
  ⟨fun i H => i < kvs.length ∧ H a = some (.frz o (.dK kvs)), fun i H x H' => H' = H ∧ ∃ kv, kvs[i]? = some kv ∧ x = kV kv.1, fun i H => i = kvs.length ∧ H a = some (.frz o (.dK kvs))⟩
theorem KV.at {kvs : List (Key × V)} {vs : List (Key × Value)} (r : KV kvs vs) {i : Nat} {kv : Key × V} (e : kvs[i]? = some kv) : ∃ v, vs[i]? = some (kv.1, v) := by
  unfold KV at r
  induction r generalizing i with
  | nil => simp at e
  | @cons p q ps qs h t ih => cases i with
    | zero =>
      have e' : p = kv := by simpa using e
      subst e'
      exact ⟨q.2, by simp [h.1]⟩
    | succ i => simpa using ih (i := i) (by simpa using e)
noncomputable def iDct (tl : TE) : TI := fun σ H R => tl σ H fun x H1 => onRef x fun a => onDct (H1 a) fun kvs => ∀ o, R (Itd a o kvs) (upd H1 a (.frz o (.dK kvs)))
section
variable {fr : List Nat} {tc : TT} {te tl : TE} {σ : St} {H : Hp} {Q : VK}
theorem e_compD : tComp (iDct tl) fr tc te σ H Q = tl σ H fun x H1 => onRef x fun a => onDct (H1 a) fun kvs => ∀ o, lc (Itd a o kvs) fr tc te σ (upd H1 a (.frz o (.dK kvs))) Q := by
  unfold tComp iDct
  rfl
end
/-! ### reading dicts, frozen or not -/
section
variable {td ty tx : TE} {σ : St} {H : Hp} {Q : VK} {D : Ends} {a : Addr} {v w x : V}
theorem onRef_eq {k : Addr → Prop} : (∃ a, x = .ref a ∧ k a) = onRef x k := propext ⟨fun ⟨a, e, h⟩ => by subst e; exact h, onRef_of⟩
theorem e_rget1 : tDGet1 td ty σ H Q = td σ H fun x H1 => onRef x fun a => IsD H1 a ∧ ty σ H1 fun y H2 => ∃ o, DGet H2 a y o ∧ Q (o.getD .non) H2 := by simp only [tDGet1, onRef_eq]
theorem e_rget : tDGet td ty σ H Q = td σ H fun x H1 => ty σ H1 fun y H2 => onRef x fun a => ∃ v, DGet H2 a y (some v) ∧ Q v H2 := by
  unfold tDGet
  congr 1
  funext x H1
  congr 1
  funext y H2
  exact propext ⟨fun ⟨a, v, e, h⟩ => by subst e; exact ⟨v, h⟩, fun h => by obtain ⟨a, rfl, v, h⟩ := onRef_of h; exact ⟨a, v, rfl, h⟩⟩
theorem e_rin : tDIn ty td σ H Q = ty σ H fun y H1 => td σ H1 fun x H2 => onRef x fun a => ∃ o, DGet H2 a y o ∧ Q (.bl o.isSome) H2 := by
  unfold tDIn
  congr 1
  funext y H1
  congr 1
  funext x H2
  exact propext ⟨fun ⟨a, o, e, h⟩ => by subst e; exact ⟨o, h⟩, fun h => by obtain ⟨a, rfl, o, h⟩ := onRef_of h; exact ⟨a, o, rfl, h⟩⟩
theorem e_rpop2 : tDPop2 td ty tx σ H Q = td σ H fun x H1 => onRef x fun a => IsD H1 a ∧ ty σ H1 fun y H2 => tx σ H2 fun z H3 => ∃ kvs k, H3 a = some (.dK kvs) ∧ y = kV k ∧ (∀ v, valV kvs k = some v → Q v (upd H3 a (.dK (dropK kvs k)))) ∧ (valV kvs k = none → Q z H3) := by
  simp only [tDPop2, onRef_eq]
theorem e_dictP {l : Addr} : cDictP [.ref l] H Q = onLst (H l) fun xs => ∃ kvs, PairsAt H xs kvs ∧ ∀ p, H p = none → Q (.ref p) (upd H p (.dK (mergeK [] kvs))) := rfl
end
end L2
namespace L2
open PySem PySem.Spec PyProof.Rows
/-! ### texts: str(x), sep.join(xs), x.split(sep); tuple(xs) -/
/-- the items are texts: these -/
noncomputable def strsV : List V → Option (List Str)
  | [] => some []
  | .str x :: vs => (strsV vs).map (x :: ·)
  | _ :: _ => none
theorem strsV_map : ∀ ys : List Str, strsV (ys.map V.str) = some ys
  | [] => rfl
  | y :: ys => by
    show (strsV (ys.map V.str)).map (y :: ·) = _
    rw [strsV_map ys]
    rfl
noncomputable def cStr : List V → Hp → VK → Prop := fun vs H Q => match vs with
  | [.int i] => i.natAbs.log2 < 1920 ∧ Q (.str (toString i)) H
  | [.str x] => Q (.str x) H
  | _ => False
noncomputable def cJoin : V → List V → Hp → VK → Prop := fun x vs H Q => onStr x fun sep => on1 vs fun y => onRef y fun l => onLst (H l) fun xs => onO (strsV xs) fun ys => (ys.map fun z => z.length).sum + ys.length * sep.length ≤ 16777216 ∧ Q (.str (Txt.join sep ys)) H
noncomputable def cSplit : V → List V → Hp → VK → Prop := fun x vs H Q => onStr x fun z => on1 vs fun y => onStr y fun sep => (sep.length == 0) = false ∧ z.length + 2 ≤ sizeLine ∧ ∀ l, H l = none → Q (.ref l) (upd H l (.lst ((Txt.split z sep).map V.str)))
noncomputable def cTupOf : List V → Hp → VK → Prop := fun vs H Q => on1 vs fun x => onRef x fun p => onLst (H p) fun ys => ∀ l, H l = none → Q (.ref l) (upd H l (.tup ys))
theorem on1_is {vs : List V} {k : V → Prop} (h : on1 vs k) : ∃ v, vs = [v] ∧ k v := by
  unfold on1 at h
  split at h
  · exact ⟨_, rfl, h⟩
  · exact h.elim
section
variable {X : Cx}
/-- != of a tuple and () -/
noncomputable def cNeTE : R2 := fun x y H Q => onRef x fun a => onRef y fun b => onTup (H a) fun xs => onTup (H b) fun ys => ys = [] ∧ Q (.bl (!xs.isEmpty)) H
end
section
variable {K : PySem.W.Frag} {T : String} {r : V → List V → Hp → VK → Prop} {to : TE} {t : TA} {σ : St} {H : Hp} {Q : VK} {x y : Str} {i : Int} {p : Addr} {ys : List Str}
theorem e_bm : tBM K T r to t σ H Q = to σ H fun x H1 => tyV K T x H1 ∧ t σ H1 fun xs H2 => r x xs H2 Q := rfl
theorem e_tyS : tyV K "str" (.str x) H = True := eq_true rfl
theorem e_strI : cStr [.int i] H Q = (i.natAbs.log2 < 1920 ∧ Q (.str (toString i)) H) := rfl
theorem e_strS : cStr [.str x] H Q = Q (.str x) H := rfl
theorem e_join : cJoin (.str x) [.ref p] H Q = onLst (H p) fun xs => onO (strsV xs) fun ys => (ys.map fun z => z.length).sum + ys.length * x.length ≤ 16777216 ∧ Q (.str (Txt.join x ys)) H := rfl
theorem e_strsV : strsV (ys.map V.str) = some ys := strsV_map ys
theorem e_split : cSplit (.str x) [.str y] H Q = ((y.length == 0) = false ∧ x.length + 2 ≤ sizeLine ∧ ∀ l, H l = none → Q (.ref l) (upd H l (.lst ((Txt.split x y).map V.str)))) := rfl
theorem e_neTE {q : Addr} : cNeTE (.ref p) (.ref q) H Q = onTup (H p) fun xs => onTup (H q) fun ys => ys = [] ∧ Q (.bl (!xs.isEmpty)) H := rfl
theorem e_tupOf : cTupOf [.ref p] H Q = onLst (H p) fun ys => ∀ l, H l = none → Q (.ref l) (upd H l (.tup ys)) := rfl
end
end L2
namespace L2
open PySem PySem.Spec PyProof.Rows
/-! ### f-strings; list methods with arguments; truths of lists, tuples, dicts; comprehensions over tuples; a raise that is never come to -/
noncomputable abbrev TJ := Str → St → Hp → (Str → Hp → Prop) → Prop
noncomputable def tFmt (te : TE) : TE := fun σ H Q => te σ H fun x H1 => onStr x fun z => z.length ≤ sizeLine ∧ Q (.str z) H1
noncomputable def tJ0 : TJ := fun acc _ H Q => Q acc H
noncomputable def tJ1 (te : TE) (tj : TJ) : TJ := fun acc σ H Q => te σ H fun x H1 => onStr x fun z => (acc ++ z).length ≤ sizeLine ∧ tj (acc ++ z) σ H1 Q
noncomputable def tJoined (tj : TJ) : TE := fun σ H Q => tj Str.empty σ H fun out H1 => out.length ≤ sizeLine ∧ Q (.str out) H1
section
variable {X : Cx} {e a b : Expr} {es : List Expr} {te : TE} {tj : TJ} {pos : Pos}
end
/-- a method of a list, handed one thing or more -/
noncomputable def tLM (r : V → List V → Hp → VK → Prop) (to : TE) (t : TA) : TE := fun σ H Q => to σ H fun x H1 => onRef x fun a => onLst (H1 a) fun _ => t σ H1 fun xs H2 => r (.ref a) xs H2 Q
noncomputable def cExt : V → List V → Hp → VK → Prop := fun x vs H Q => onRef x fun a => on1 vs fun y => onRef y fun b => onLst (H a) fun xs => onLst (H b) fun zs => xs.length + zs.length ≤ sizeLine ∧ Q .non (upd H a (.lst (xs ++ zs)))
/-- xs.pop(0) -/
noncomputable def cPop0 : V → List V → Hp → VK → Prop := fun x vs H Q => onRef x fun a => on1 vs fun y => onInt y fun i => onLst (H a) fun xs => i = 0 ∧ onO xs[0]? fun v => Q v (upd H a (.lst xs.tail))
section
variable {X : Cx} {o e : Expr} {es : List Expr} {to : TE} {t : TA} {name : Str} {apos cpos : Pos} {id : String} {r : V → List V → Hp → VK → Prop}
end
noncomputable def truR : Option HO → Option Bool
  | some (.lst xs) => some (!xs.isEmpty)
  | some (.tup xs) => some (!xs.isEmpty)
  | some (.dK kvs) => some (!kvs.isEmpty)
  | _ => none
noncomputable def truO (H : Hp) : V → Option Bool
  | .non => some false
  | .bl b => some b
  | .int i => some (i != 0)
  | .ref p => truR (H p)
  | _ => none
noncomputable def tTruth (ta : TE) : TT := fun σ H Q => ta σ H fun x H' => onO (truO H' x) fun k => Q k H'
section
variable {te to : TE} {t : TA} {tj : TJ} {σ : St} {H : Hp} {Q : VK} {x acc : Str} {r : V → List V → Hp → VK → Prop} {QS : Str → Hp → Prop} {B : Bool → Hp → Prop} {D : Ends} {p q : Addr} {vs : List V} {kvs : List (Key × V)} {v : V} {b : Bool} {i : Int}
theorem e_fmt : tFmt te σ H Q = te σ H fun x H1 => onStr x fun z => z.length ≤ sizeLine ∧ Q (.str z) H1 := rfl
theorem e_j0 : tJ0 acc σ H QS = QS acc H := rfl
theorem e_j1 : tJ1 te tj acc σ H QS = te σ H fun x H1 => onStr x fun z => (acc ++ z).length ≤ sizeLine ∧ tj (acc ++ z) σ H1 QS := rfl
theorem e_joined : tJoined tj σ H Q = tj Str.empty σ H fun out H1 => out.length ≤ sizeLine ∧ Q (.str out) H1 := rfl
theorem e_estr : Str.empty ++ x = x := by
  show (⟨#[] ++ x.cps⟩ : Str) = x
  rw [Array.empty_append]
theorem e_lm : tLM r to t σ H Q = to σ H fun x H1 => onRef x fun a => onLst (H1 a) fun _ => t σ H1 fun xs H2 => r (.ref a) xs H2 Q := rfl
theorem e_ext : cExt (.ref p) [.ref q] H Q = onLst (H p) fun xs => onLst (H q) fun zs => xs.length + zs.length ≤ sizeLine ∧ Q .non (upd H p (.lst (xs ++ zs))) := rfl
theorem e_pop0 : cPop0 (.ref p) [.int 0] H Q = onLst (H p) fun xs => (0 : Int) = 0 ∧ onO xs[0]? fun v => Q v (upd H p (.lst xs.tail)) := rfl
theorem e_truth : tTruth te σ H B = te σ H fun x H' => onO (truO H' x) fun k => B k H' := rfl
theorem e_truN : truO H .non = some false := rfl
theorem e_truB : truO H (.bl b) = some b := rfl
theorem e_truI : truO H (.int i) = some (i != 0) := rfl
theorem e_truRef : truO H (.ref p) = truR (H p) := rfl
theorem e_truL : truR (some (.lst vs)) = some (!vs.isEmpty) := rfl
theorem e_truT : truR (some (.tup vs)) = some (!vs.isEmpty) := rfl
theorem e_truD : truR (some (.dK kvs)) = some (!kvs.isEmpty) := rfl
theorem e_never : tNever D σ H = False := rfl
variable {fr : List Nat} {tc : TT} {tl : TE} {K : PySem.W.Frag}
theorem e_compT : tComp (iTup K tl) fr tc te σ H Q = tl σ H fun x H1 => onRef x fun a => (∃ xs, SqT K H1 a xs) ∧ lc (Itt K a) fr tc te σ H1 Q := by
  unfold tComp iTup
  congr 1
  funext x H1
  exact propext ⟨fun ⟨a, e, h1, h⟩ => by subst e; exact ⟨h1, h⟩, fun h => by obtain ⟨a, rfl, h1, h⟩ := onRef_of h; exact ⟨a, rfl, h1, h⟩⟩
end
end L2
namespace L2
open PySem PySem.Spec PyProof.Rows
/-! ### == and != of lists and tuples that hold others; xs * n, list(xs), len(script) -/
section
variable {X : Cx} {pins : List (Addr × Obj)} {σ : St} {H : Hp} {s : Shared}
theorem rcNe_at {n : Nat} {a b : Addr} {r : Bool} {A : Around} (h : RcA X.K H n a b r) (I : Inv X pins σ H s) (hu : A.units + n < cLine) : SeqAt.RcNeAt A s (.ref a) (.ref b) (!r) := by
  cases h with
  | list hx hy hl he =>
    obtain ⟨its, r1, p1, z1⟩ := I.list hx
    obtain ⟨jts, r2, p2, z2⟩ := I.list hy
    have l1 := r1.length
    have l2 := r2.length
    have := SeqAt.RcNeAt.lists p1.isList p2.isList (by simp only [List.size_toArray]; omega) (by omega) (A := A) (fun j h1 h2 => by
      obtain ⟨x, ex, rx⟩ := item_of r1 h1
      obtain ⟨y, ey, ry⟩ := item_of r2 h2
      exact eqA_at (he j x y ex ey) I rx ry (by show A.units + 1 + _ < _; omega))
    rw [List.size_toArray, ← l1] at this
    exact this
  | listLen hx hy hl =>
    obtain ⟨its, r1, p1, z1⟩ := I.list hx
    obtain ⟨jts, r2, p2, z2⟩ := I.list hy
    have l1 := r1.length
    have l2 := r2.length
    exact SeqAt.RcNeAt.lists_lengths p1.isList p2.isList (by simp only [List.size_toArray, bne_iff_ne, ne_eq]; omega) (by omega)
  | tup hx hy he =>
    obtain ⟨its, r1, p1, z1⟩ := I.tuple hx
    obtain ⟨jts, r2, p2, z2⟩ := I.tuple hy
    have l1 := r1.length
    have l2 := r2.length
    have := SeqAt.RcNeAt.tuples (show s.heap.IsTuple _ its.toArray from p1) (show s.heap.IsTuple _ jts.toArray from p2) (by omega) (A := A) (fun j h1 h2 => by
      obtain ⟨x, ex, rx⟩ := item_of r1 h1
      obtain ⟨y, ey, ry⟩ := item_of r2 h2
      exact eqA_at (he j x y ex ey) I rx ry (by show A.units + 1 + _ < _; omega))
    rw [List.size_toArray, List.size_toArray, ← l1, ← l2] at this
    exact this
end
noncomputable def cNeA (K : PySem.W.Frag) (n : Nat) : R2 := fun x y H Q => onRef x fun a => onRef y fun b => ∃ r, RcA K H n a b r ∧ Q (.bl (!r)) H
noncomputable def cEqA (K : PySem.W.Frag) (n : Nat) : R2 := fun x y H Q => onRef x fun a => onRef y fun b => ∃ r, RcA K H n a b r ∧ Q (.bl r) H
theorem hu_n {A : Around} {k : Nat} (hr : Room k A) {n : Nat} (h : n ≤ 60) : A.units + n < cLine := Nat.lt_of_le_of_lt (Nat.add_le_add_left (by omega : n ≤ 64) _) hr.units
noncomputable def repV (n : Int) (xs : List V) : List V := (List.replicate n.toNat xs).flatten
noncomputable def cRep : R2 := fun x y H Q => onRef x fun l => onInt y fun k => onLst (H l) fun xs => (-(2 ^ 63) ≤ k ∧ k < 2 ^ 63) ∧ xs.length * k.toNat ≤ sizeLine ∧ ∀ p, H p = none → Q (.ref p) (upd H p (.lst (repV k xs)))
noncomputable def cLstOf : List V → Hp → VK → Prop := fun vs H Q => on1 vs fun x => onRef x fun p => onSeq (H p) fun ys => ∀ l, H l = none → Q (.ref l) (upd H l (.lst ys))
noncomputable def cLenK (K : PySem.W.Frag) : List V → Hp → VK → Prop := fun vs H Q => on1 vs fun x => onRef x fun p => ∃ xs, SqL K H p xs ∧ Q (.int xs.length) H
section
variable {X : Cx}
theorem op_neA (n : Nat) (hu : X.A.units + n < cLine) : OpR X (compareOp .NotEq) (cNeA X.K n) := fun pins s σ H x y v u Q I rx ry h => by
  obtain ⟨a, rfl, h1⟩ := onRef_of h
  obtain ⟨b, rfl, r, e, q⟩ := onRef_of h1
  cases rx
  cases ry
  exact rcNe_at e I hu X.prog X.w X.xe _ (fin_bl I q rfl)
theorem op_eqA (n : Nat) (hu : X.A.units + n < cLine) : OpR X (compareOp .Eq) (cEqA X.K n) := fun pins s σ H x y v u Q I rx ry h => by
  obtain ⟨a, rfl, h1⟩ := onRef_of h
  obtain ⟨b, rfl, r, e, q⟩ := onRef_of h1
  cases rx
  cases ry
  exact rcA_at e I hu X.prog X.w X.xe _ (fin_bl I q rfl)
theorem call_lstC : CallR X (.type "list") cLstOf := fun pins s σ H xs us Q I r h => by
  obtain ⟨x, rfl, h1⟩ := on1_is h
  obtain ⟨p, rfl, h2⟩ := onRef_of h1
  obtain ⟨ys, e, h3⟩ := onSeq_of h2
  refine call_list_of pins s σ H _ us Q I r ⟨p, ys, rfl, ?_, h3⟩
  rcases e with e | e
  · exact .inl (SqL.of e)
  · exact .inr (SqT.of e)
theorem call_lenK : CallR X (.builtin "len") (cLenK X.K) := fun pins s σ H xs us Q I r h => by
  obtain ⟨x, rfl, h1⟩ := on1_is h
  obtain ⟨p, rfl, ys, e, q⟩ := onRef_of h1
  exact call_len_seq pins s σ H _ us Q I r ⟨p, ys, rfl, .inl e, q⟩
end
section
variable {K : PySem.W.Frag} {H : Hp} {Q : VK} {a b p : Addr} {n : Nat} {i : Int}
theorem e_neA : cNeA K n (.ref a) (.ref b) H Q = ∃ r, RcA K H n a b r ∧ Q (.bl (!r)) H := rfl
theorem e_eqA : cEqA K n (.ref a) (.ref b) H Q = ∃ r, RcA K H n a b r ∧ Q (.bl r) H := rfl
theorem e_rep : cRep (.ref a) (.int i) H Q = onLst (H a) fun xs => (-(2 ^ 63) ≤ i ∧ i < 2 ^ 63) ∧ xs.length * i.toNat ≤ sizeLine ∧ ∀ p, H p = none → Q (.ref p) (upd H p (.lst (repV i xs))) := rfl
theorem e_lstOf : cLstOf [.ref p] H Q = onSeq (H p) fun ys => ∀ l, H l = none → Q (.ref l) (upd H l (.lst ys)) := rfl
theorem e_lenK : cLenK K [.ref p] H Q = ∃ xs, SqL K H p xs ∧ Q (.int xs.length) H := rfl
end
/-- two lists of the same things, all of them in the heap -/
theorem RcA.same {K : PySem.W.Frag} {H : Hp} {a b : Addr} {xs : List V} (h1 : H a = some (.lst xs)) (h2 : H b = some (.lst xs)) (h : ∀ x ∈ xs, ∃ c, x = .ref c) : RcA K H 1 a b true := by
  have := RcA.list (K := K) (H := H) (n := 0) (a := a) (b := b) (e := fun _ => true) (SqL.of h1) (SqL.of h2) rfl fun j x y e1 e2 => by
    rw [e1] at e2
    cases e2
    obtain ⟨c, rfl⟩ := h x (List.mem_of_getElem? e1)
    exact .same
  rwa [show ((List.range xs.length).all fun _ => true) = true by simp [List.all_eq_true]] at this
end L2
namespace L2
open PySem PySem.Spec PyProof.Rows
/-! ### texts: split and join by one sign, lines, int(text), startswith, endswith, <= of texts, all -/
noncomputable def Str.cs (x : Str) : List Nat := x.cps.toList
/-! rules -/
noncomputable def cIntT : List V → Hp → VK → Prop := fun vs H Q => on1 vs fun x => onStr x fun z => z.length ≤ 640 ∧ onO (intText? z) fun n => Q (.int n) H
noncomputable def cStarts : V → List V → Hp → VK → Prop := fun x vs H Q => onStr x fun z => on1 vs fun y => onStr y fun p => Q (.bl (Txt.startswith z p)) H
noncomputable def cEnds : V → List V → Hp → VK → Prop := fun x vs H Q => onStr x fun z => on1 vs fun y => onStr y fun p => Q (.bl (Txt.endswith z p)) H
noncomputable def cLeS : R2 := fun x y H Q => onStr x fun i => onStr y fun j => Q (.bl (!decide (j.cps.toList < i.cps.toList))) H
noncomputable def boolsV : List V → Option (List Bool)
  | [] => some []
  | .bl b :: r => (boolsV r).map (b :: ·)
  | _ => none
theorem e_boolsV : ∀ {bs : List Bool}, boolsV (bs.map V.bl) = some bs
  | [] => rfl
  | b :: bs => by
    show (boolsV (bs.map V.bl)).map (b :: ·) = _
    rw [e_boolsV]
    rfl
noncomputable def cAll : List V → Hp → VK → Prop := fun vs H Q => on1 vs fun x => onRef x fun p => onLst (H p) fun xs => onO (boolsV xs) fun bs => Q (.bl (bs.all id)) H
/-- in, not in: a tuple of the module -/
noncomputable def cInK (K : PySem.W.Frag) (neg : Bool) : R2 := fun x y H Q => onRef y fun p => ∃ xs, SqT K H p xs ∧ flatV x = true ∧ xs.all flatV = true ∧ Q (.bl (if neg = true then !inV x xs else inV x xs)) H
section
variable {X : Cx}
end
section
variable {K : PySem.W.Frag} {H : Hp} {Q : VK} {p : Addr} {x y z : Str} {neg : Bool} {v : V}
theorem e_intT : cIntT [.str z] H Q = (z.length ≤ 640 ∧ onO (intText? z) fun n => Q (.int n) H) := rfl
theorem e_starts : cStarts (.str z) [.str y] H Q = Q (.bl (Txt.startswith z y)) H := rfl
theorem e_ends : cEnds (.str z) [.str y] H Q = Q (.bl (Txt.endswith z y)) H := rfl
theorem e_leS : cLeS (.str x) (.str y) H Q = Q (.bl (!decide (y.cps.toList < x.cps.toList))) H := rfl
theorem e_all : cAll [.ref p] H Q = onLst (H p) fun xs => onO (boolsV xs) fun bs => Q (.bl (bs.all id)) H := rfl
theorem e_inK : cInK K neg v (.ref p) H Q = ∃ xs, SqT K H p xs ∧ flatV v = true ∧ xs.all flatV = true ∧ Q (.bl (if neg = true then !inV v xs else inV v xs)) H := rfl
end
/-! ### numbers as they are written -/
end L2
namespace L2
open PySem PySem.Spec PyProof.Rows
/-! ### objects of own classes: fields, methods, making -/
noncomputable def onIns (C : Addr) (o : Option HO) (k : Addr → List (Str × V) → Prop) (_u : Tg k := ()) : Prop := match o with
  | some (.ins C' dx fs) => C' = C ∧ k dx fs
  | _ => False
theorem onIns_of {C : Addr} {o : Option HO} {k : Addr → List (Str × V) → Prop} (h : onIns C o k) : ∃ dx fs, o = some (.ins C dx fs) ∧ k dx fs := by
  unfold onIns at h
  split at h
  · obtain ⟨rfl, h⟩ := h
    exact ⟨_, _, rfl, h⟩
  · exact h.elim
noncomputable def cFld (C : Addr) (f : Str) (ta : TE) : TE := fun σ H Q => ta σ H fun x H1 => onRef x fun a => onIns C (H1 a) fun _ fs => onO (fs.lookup f) fun v => Q v H1
noncomputable def cSetF (C : Addr) (f : Str) (ta tv : TE) : TS := fun D σ H => tv σ H fun y H1 => ta σ H1 fun x H2 => onRef x fun a => onIns C (H2 a) fun dx fs => fs.length < 1000 ∧ D.nx σ (upd H2 a (.ins C dx (putF f y fs)))
noncomputable def cAugF (C : Addr) (f : Str) (ta tv : TE) : TS := fun D σ H => ta σ H fun x H1 => onRef x fun a => onIns C (H1 a) fun _ fs => onO (fs.lookup f) fun v => tv σ H1 fun y H2 => onInt v fun i => onInt y fun j => onIns C (H2 a) fun dx fs' => fs'.length < 1000 ∧ D.nx σ (upd H2 a (.ins C dx (putF f (.int (i + j)) fs')))
section
variable {X : Cx} {o e value : Expr} {f : Str} {pos pos' tpos : Pos} {ta tv : TE} {C : Addr}
theorem pe_fldC (c : Cls X.K C) (n : NoAttr X.K C f) (he : PE X e ta) (hb : attributeBase e f X.env (eval e X.env) = eval e X.env := by rfl) : PE X (.Attribute e f pos) (cFld C f ta) := fun pins s σ H Q I h => by
  refine attr_of hb (thn (he pins s σ H _ I h) fun u s1 ⟨x, H1, I1, rx, q1⟩ => ?_)
  obtain ⟨a, rfl, q2⟩ := onRef_of q1
  obtain ⟨dx, fs, ea, q3⟩ := onIns_of q2
  obtain ⟨v, l, q⟩ := onO_of q3
  obtain rfl : u = Value.ref a := rx
  exact getattr_ok I1 ea c n l fun u' s2 I2 ru => ⟨v, H1, I2, ru, q⟩
theorem ps_fldC (c : Cls X.K C) (n : NoAttr X.K C f) (ha : PE X o ta) (hv : PE X value tv) (hs : swapsWith value (some (.Attribute o f pos')) pos.line X.env = pure false := by rfl) : PS X (.Assign [.Attribute o f pos'] value pos) (cSetF C f ta tv) := fun pins s σ H D I h => by
  refine plainObj_wpAny_Assign_Attribute (thn (hv pins s σ H _ I h) fun u s1 ⟨y, H1, I1, ry, q⟩ => thn (ha pins s1 σ H1 _ I1 q) fun ov s2 ⟨x, H2, I2, rx, q1⟩ => ?_) hs
  obtain ⟨a, rfl, q2⟩ := onRef_of q1
  obtain ⟨dx, fs, ea, l, q3⟩ := onIns_of q2
  obtain rfl : ov = Value.ref a := rx
  exact setattr_ok I2 ea c n l ry fun s3 I3 => ⟨σ, _, I3, q3⟩
end
section
variable {C a dx : Addr} {fs : List (Str × V)} {k : Addr → List (Str × V) → Prop} {m f : Str} {sp : Sp} {E : XK} {ta tv : TE} {t : TA} {σ : St} {H : Hp} {Q : VK} {D : Ends} {v u : V} {r : List (Str × V)}
theorem e_onIns {k : Addr → List (Str × V) → Prop} {u : Tg k} : @onIns C (some (.ins C dx fs)) k u = k dx fs := by simp [onIns]
theorem e_fld : cFld C f ta σ H Q = ta σ H fun x H1 => onRef x fun a => onIns C (H1 a) fun _ fs => onO (fs.lookup f) fun v => Q v H1 := rfl
theorem e_setF : cSetF C f ta tv D σ H = tv σ H fun y H1 => ta σ H1 fun x H2 => onRef x fun a => onIns C (H2 a) fun dx fs => fs.length < 1000 ∧ D.nx σ (upd H2 a (.ins C dx (putF f y fs))) := rfl
theorem e_augF : cAugF C f ta tv D σ H = ta σ H fun x H1 => onRef x fun a => onIns C (H1 a) fun _ fs => onO (fs.lookup f) fun v => tv σ H1 fun y H2 => onInt v fun i => onInt y fun j => onIns C (H2 a) fun dx fs' => fs'.length < 1000 ∧ D.nx σ (upd H2 a (.ins C dx (putF f (.int (i + j)) fs'))) := rfl
theorem e_meth : tMeth C m sp [] E ta t σ H Q = ta σ H fun x H1 => onRef x fun a => onIns C (H1 a) fun _ fs => fs.lookup m = none ∧ t σ H1 fun vs H2 => sp (.ref a :: vs) H2 Q E := by
  unfold tMeth
  congr 1
  funext x H1
  refine propext ⟨fun ⟨a, dx, fs, e, e1, l, h⟩ => ?_, fun h => ?_⟩
  · subst e
    show onIns C (H1 a) _
    rw [e1, e_onIns]
    simp only [List.append_nil] at h
    exact ⟨l, h⟩
  · obtain ⟨a, rfl, h⟩ := onRef_of h
    obtain ⟨dx, fs, e1, l, h⟩ := onIns_of h
    exact ⟨a, dx, fs, rfl, e1, l, by simpa only [List.append_nil] using h⟩
theorem e_make : tMake C sp [] E t σ H Q = t σ H fun vs H1 => ∀ x dx, H1 x = none → H1 dx = none → dx ≠ x → sp (.ref x :: vs) (upd (upd H1 dx (.own x)) x (.ins C dx [])) (fun v H2 => v = .non ∧ Q (.ref x) H2) E := by
  unfold tMake
  simp only [List.append_nil]
theorem of_inj {x y : String} : (Str.ofString x = Str.ofString y) = (x = y) := w_sinj
theorem e_lookup {x y : String} : List.lookup (Str.ofString x) ((Str.ofString y, v) :: r) = if x = y then some v else List.lookup (Str.ofString x) r := by
  by_cases h : x = y
  · subst h
    simp [List.lookup]
  · have : (Str.ofString x == Str.ofString y) = false := beq_eq_false_iff_ne.mpr fun z => h (of_inj ▸ z)
    simp only [List.lookup, this, if_neg h]
theorem e_lookup0 {x : Str} : List.lookup x ([] : List (Str × V)) = none := rfl
theorem e_putF {x y : String} : putF (Str.ofString x) u ((Str.ofString y, v) :: r) = if y = x then (Str.ofString y, u) :: r else (Str.ofString y, v) :: putF (Str.ofString x) u r := by
  rw [show putF (Str.ofString x) u ((Str.ofString y, v) :: r) = (if Str.ofString y = Str.ofString x then (Str.ofString y, u) :: r else (Str.ofString y, v) :: putF (Str.ofString x) u r) from rfl]
  by_cases h : y = x
  · rw [if_pos h, if_pos (by rw [h])]
  · rw [if_neg h, if_neg fun z => h (of_inj ▸ z)]
theorem e_putF0 {x : Str} : putF x u [] = [(x, u)] := rfl
end
end L2
namespace L2
open PySem PySem.Spec PyProof.Rows
/-! ### isinstance(x, (T, U)) -/
noncomputable def tysV : List V → Option (List String)
  | [] => some []
  | .ty T :: r => (tysV r).map (T :: ·)
  | _ => none
noncomputable def tyObj (Ts : List String) : Obj := { cls := .type "tuple", data := .seq (Ts.map Value.type).toArray }
noncomputable def tTupF (t : TA) : TE := fun σ H Q => t σ H fun xs H1 => onO (tysV xs) fun Ts => xs.length ≤ sizeLine ∧ ∀ p, H1 p = none → Q (.ref p) (upd H1 p (.frz (tyObj Ts) (.tup xs)))
/-- the kind of a value -/
noncomputable def kindR : Option HO → Option String
  | some (.tup _) => some "tuple"
  | some (.lst _) => some "list"
  | _ => none
noncomputable def kindO (H : Hp) : V → Option String
  | .int _ => some "int"
  | .str _ => some "str"
  | .non => some "NoneType"
  | .bl _ => some "bool"
  | .ref p => kindR (H p)
  | _ => none
/-- a kind is among these -/
noncomputable def isiK : String → String → Bool
  | "int", "int" => true
  | "bool", "int" => true
  | "str", "str" => true
  | "tuple", "tuple" => true
  | "list", "list" => true
  | _, _ => false
noncomputable def cIsiF : List V → Hp → VK → Prop := fun vs H Q => on2 vs fun x y => onRef y fun p => ∃ Ts xs, H p = some (.frz (tyObj Ts) (.tup xs)) ∧ (Ts = ["int", "str"] ∨ Ts = ["list", "tuple"]) ∧ onO (kindO H x) fun kd => Q (.bl (Ts.any (isiK kd))) H
theorem on2_is {vs : List V} {k : V → V → Prop} (h : on2 vs k) : ∃ v w, vs = [v, w] ∧ k v w := by
  unfold on2 at h
  split at h
  · exact ⟨_, _, rfl, h⟩
  · exact h.elim
section
variable {X : Cx}
end
section
variable {H : Hp} {Q : VK} {x : V} {p : Addr} {σ : St} {t : TA} {vs : List V} {i : Int} {z : Str} {b : Bool}
theorem e_tupF : tTupF t σ H Q = t σ H fun xs H1 => onO (tysV xs) fun Ts => xs.length ≤ sizeLine ∧ ∀ p, H1 p = none → Q (.ref p) (upd H1 p (.frz (tyObj Ts) (.tup xs))) := rfl
theorem e_tys2 {S T : String} : tysV [.ty S, .ty T] = some [S, T] := rfl
theorem e_isiF : cIsiF [x, .ref p] H Q = ∃ Ts xs, H p = some (.frz (tyObj Ts) (.tup xs)) ∧ (Ts = ["int", "str"] ∨ Ts = ["list", "tuple"]) ∧ onO (kindO H x) fun kd => Q (.bl (Ts.any (isiK kd))) H := rfl
end
/-! ### trees that are equal -/
mutual
theorem EqA.mono {K : PySem.W.Frag} {H : Hp} : ∀ {n m : Nat} {x y : V} {b : Bool}, EqA K H n x y b → n ≤ m → EqA K H m x y b
  | _, _, _, _, _, .flat a b, _ => .flat a b
  | _, _, _, _, _, .same, _ => .same
  | _, _, _, _, _, .refs ne r, h => .refs ne (RcA.mono r h)
theorem RcA.mono {K : PySem.W.Frag} {H : Hp} : ∀ {n m : Nat} {a b : Addr} {r : Bool}, RcA K H n a b r → n ≤ m → RcA K H m a b r
  | _, m + 1, _, _, _, .list a b c d, h => .list a b c fun j x y e1 e2 => EqA.mono (d j x y e1 e2) (by omega)
  | _, m + 1, _, _, _, .listLen a b c, _ => .listLen a b c
  | _, m + 1, _, _, _, .tup a b d, h => .tup a b fun j x y e1 e2 => EqA.mono (d j x y e1 e2) (by omega)
  | _, 0, _, _, _, .list _ _ _ _, h => absurd h (by omega)
  | _, 0, _, _, _, .listLen _ _ _, h => absurd h (by omega)
  | _, 0, _, _, _, .tup _ _ _, h => absurd h (by omega)
end
/-- two trees of one thing are equal -/
theorem EqA.pair {K : PySem.W.Frag} {H : Hp} {n : Nat} {a b : Addr} {xs ys : List V} (e1 : H a = some (.tup xs)) (e2 : H b = some (.tup ys)) (hl : xs.length = ys.length) (he : ∀ (j : Nat) (x y : V), xs[j]? = some x → ys[j]? = some y → EqA K H n x y true) : EqA K H (n + 1) (.ref a) (.ref b) true := by
  by_cases h : a = b
  · subst h
    exact .same
  · have := RcA.tup (K := K) (H := H) (n := n) (e := fun _ => true) (SqT.of e1) (SqT.of e2) he
    rw [show ((List.range (min xs.length ys.length)).all (fun _ => true) && xs.length == ys.length) = true by rw [hl]; simp [List.all_eq_true]] at this
    exact .refs h this
theorem eqV_str {a b : Str} : eqV (.str a) (.str b) = (a == b) := rfl
theorem eqV_int {a b : Int} : eqV (.int a) (.int b) = (a == b) := rfl
theorem str_self {K : PySem.W.Frag} {H : Hp} {n : Nat} (x : Str) : EqA K H n (.str x) (.str x) true := by
  have := EqA.flat (K := K) (H := H) (n := n) (x := .str x) (y := .str x) rfl rfl
  rwa [show eqV (.str x) (.str x) = true by simp [eqV_str]] at this
theorem int_self {K : PySem.W.Frag} {H : Hp} {n : Nat} (i : Int) : EqA K H n (.int i) (.int i) true := by
  have := EqA.flat (K := K) (H := H) (n := n) (x := .int i) (y := .int i) rfl rfl
  rwa [show eqV (.int i) (.int i) = true by simp [eqV_int]] at this
end L2
namespace L2
open PySem PySem.Spec PyProof.Rows
/-! ### a dict that was walked through is written again: thawed behind the loop -/
section
variable {X : Cx} {pins : List (Addr × Obj)} {σ : St} {H : Hp} {s : Shared} {a : Addr} {o : Obj} {kvs : List (Key × V)}
end
noncomputable def thawE (H₀ : Hp) (D : Ends) : Ends :=
  { nx := fun σ H => ∃ a o kvs, H a = some (.frz o (.dK kvs)) ∧ (∀ ob u, H₀ a ≠ some (.frz ob u)) ∧ D.nx σ (upd H a (.dK kvs))
    bk := fun σ H => ∃ a o kvs, H a = some (.frz o (.dK kvs)) ∧ (∀ ob u, H₀ a ≠ some (.frz ob u)) ∧ D.bk σ (upd H a (.dK kvs))
    ct := fun σ H => ∃ a o kvs, H a = some (.frz o (.dK kvs)) ∧ (∀ ob u, H₀ a ≠ some (.frz ob u)) ∧ D.ct σ (upd H a (.dK kvs))
    rt := fun v H => ∃ a o kvs, H a = some (.frz o (.dK kvs)) ∧ (∀ ob u, H₀ a ≠ some (.frz ob u)) ∧ D.rt v (upd H a (.dK kvs)) }
noncomputable def tThaw (H₀ : Hp) (t : TS) : TS := fun D σ H => t (thawE H₀ D) σ H
/-! ### dicts: in, pop, clear, get with a default, setdefault -/
noncomputable def cDIn (ty td : TE) : TE := fun σ H Q => ty σ H fun y H1 => td σ H1 fun x H2 => onRef x fun a => onDct (H2 a) fun kvs => onO (keyO y) fun k => Q (.bl (valV kvs k).isSome) H2
noncomputable def cDPop1 (td ty : TE) : TE := fun σ H Q => td σ H fun x H1 => onRef x fun a => onDct (H1 a) fun _ => ty σ H1 fun y H2 => onDct (H2 a) fun kvs => onO (keyO y) fun k => onO (valV kvs k) fun v => Q v (upd H2 a (.dK (dropK kvs k)))
noncomputable def cDGet2 (td ty tx : TE) : TE := fun σ H Q => td σ H fun x H1 => onRef x fun a => onDct (H1 a) fun _ => ty σ H1 fun y H2 => tx σ H2 fun z H3 => onDct (H3 a) fun kvs => onO (keyO y) fun k => Q ((valV kvs k).getD z) H3
theorem kV_key {y : V} {k : Key} (h : keyO y = some k) : y = kV k := by
  cases y <;> simp [keyO] at h <;> subst h <;> rfl
section
variable {X : Cx} {o e f : Expr} {apos cpos : Pos} {td ty tx : TE}
theorem pe_dget2C (hu : X.A.units + 1 < cLine) (ho : PE X o td) (he : PE X e ty) (hf : PE X f tx) (m : M2 X o "get" apos e f cpos) : PE X (.Call (.Attribute o "get" apos) [e, f] [] cpos) (cDGet2 td ty tx) := fun pins s σ H Q I h => by
  refine wpAny_Call_method m.base m.few m.line PySem.F.plainAttrs_dict PySem.F.slot_dict_get PySem.F.type_dict_get (thn (ho pins s σ H _ I h) fun u s1 ⟨x, H1, I1, rx, q1⟩ => ?_)
  obtain ⟨a, rfl, q2⟩ := onRef_of q1
  obtain ⟨kv0, e0, q3⟩ := onDct_of q2
  obtain rfl : u = Value.ref a := rx
  obtain ⟨t1, t2, _⟩ := isD_at I1 (.inl ⟨kv0, .inl e0⟩)
  refine ⟨t1, t2, ?_⟩
  rw [m.trees]
  refine Calls.callWith_builtin rfl (Calls.evalArgs_plain (Calls.spliced_cons (thn (he pins s1 σ H1 _ I1 q3) fun iv s2 ⟨y, H2, I2, ry, q4⟩ =>
    Calls.spliced_cons (thn (hf pins s2 σ H2 _ I2 q4) fun fv s3 ⟨z, H3, I3, rz, q5⟩ => Calls.spliced_nil ?_))))
  obtain ⟨kvs, ea, q6⟩ := onDct_of q5
  obtain ⟨k, ek, q7⟩ := onO_of q6
  cases kV_key ek
  exact d_get2 hu I3 (DGet.k ea) ry rz fun w' s4 I4 rw' => ⟨_, H3, I4, rw', q7⟩
/-- d.clear() -/
noncomputable def cDClear (td : TE) : TE := fun σ H Q => td σ H fun x H1 => onRef x fun a => onDct (H1 a) fun _ => Q .non (upd H1 a (.dK []))
theorem pe_dclear (ho : PE X o td) (hbase : attributeBase o "clear" X.env (eval o X.env) = eval o X.env := by rfl) (hline : (apos.endLine == cpos.line) = true := by rfl) : PE X (.Call (.Attribute o "clear" apos) [] [] cpos) (cDClear td) := fun pins s σ H Q I h => by
  refine wpAny_Call_method0_late hbase hline (thn (ho pins s σ H _ I h) fun v s1 ⟨x, H1, I1, r1, q1⟩ => ?_)
  obtain ⟨a, rfl, q2⟩ := onRef_of q1
  obtain ⟨kvs, e0, q3⟩ := onDct_of q2
  obtain rfl : v = Value.ref a := r1
  obtain ⟨t1, t2, _⟩ := isD_at I1 (.inl ⟨kvs, .inl e0⟩)
  refine ⟨"dict", "dict.clear", PySem.F.plainAttrs_dict, PySem.F.slot_dict_clear, PySem.F.type_dict_clear, t1, t2, Calls.callWith_builtin rfl (PySem.evalArgs_none ?_)⟩
  obtain ⟨z, hd, vs, rel, dd⟩ := dk_of I1.hok e0
  refine call_meetsIn PySem.F.slot_dict_clear dd.typeIs PySem.F.entry_dict_clear (PySem.F.args_dict_clear_1 _) (meets_dict_clear (mixKind X.prog X.w) a)
    ⟨vs, dd, by rw [← rel.length]; exact z, fun h' dd' hs => ⟨.non, _, ?_, rfl, q3⟩⟩
  have he : ∃ q, h'.get? a = some q := let ⟨q, _, _, hq, _⟩ := dd'; ⟨q, hq⟩
  exact d_write I1 (by rw [e0]; exact True.intro) hs he (dk_new (Nat.zero_le _) hd .nil dd')
/-- d.setdefault(k, x) -/
noncomputable def cDSet (td ty tx : TE) : TE := fun σ H Q => td σ H fun x H1 => onRef x fun a => onDct (H1 a) fun _ => ty σ H1 fun y H2 => tx σ H2 fun z H3 => onDct (H3 a) fun kvs => onO (keyO y) fun k => kvs.length < sizeLine ∧
  (∀ v, valV kvs k = some v → Q v H3) ∧ (valV kvs k = none → Q z (upd H3 a (.dK (putK kvs k z))))
end
section
variable {td ty tx : TE} {σ : St} {H H₀ : Hp} {Q : VK} {t : TS} {D : Ends} {v : V}
theorem e_thaw : tThaw H₀ t D σ H = t (thawE H₀ D) σ H := rfl
theorem e_dinC : cDIn ty td σ H Q = ty σ H fun y H1 => td σ H1 fun x H2 => onRef x fun a => onDct (H2 a) fun kvs => onO (keyO y) fun k => Q (.bl (valV kvs k).isSome) H2 := rfl
theorem e_dpopC : cDPop1 td ty σ H Q = td σ H fun x H1 => onRef x fun a => onDct (H1 a) fun _ => ty σ H1 fun y H2 => onDct (H2 a) fun kvs => onO (keyO y) fun k => onO (valV kvs k) fun v => Q v (upd H2 a (.dK (dropK kvs k))) := rfl
theorem e_dget2C : cDGet2 td ty tx σ H Q = td σ H fun x H1 => onRef x fun a => onDct (H1 a) fun _ => ty σ H1 fun y H2 => tx σ H2 fun z H3 => onDct (H3 a) fun kvs => onO (keyO y) fun k => Q ((valV kvs k).getD z) H3 := rfl
theorem e_dclear : cDClear td σ H Q = td σ H fun x H1 => onRef x fun a => onDct (H1 a) fun _ => Q .non (upd H1 a (.dK [])) := rfl
theorem e_dsetC : cDSet td ty tx σ H Q = td σ H fun x H1 => onRef x fun a => onDct (H1 a) fun _ => ty σ H1 fun y H2 => tx σ H2 fun z H3 => onDct (H3 a) fun kvs => onO (keyO y) fun k => kvs.length < sizeLine ∧ (∀ v, valV kvs k = some v → Q v H3) ∧ (valV kvs k = none → Q z (upd H3 a (.dK (putK kvs k z)))) := rfl
end
/-! ### o[i] += e of a list; a dict of the module; the def that lies in it called -/
noncomputable def cGetL : V → V → Hp → VK → Prop := fun x y H Q => onRef x fun p => onInt y fun i => onLst (H p) fun xs => onO (atI xs i) fun v => Q v H
noncomputable def cIpA : TIp := fun x y H Q => onInt x fun i => onInt y fun j => Q (.int (i + j)) H
section
variable {X : Cx}
end
/-- d[k](a, b ..): each def that lies in d keeps its promise -/
noncomputable def tDeed (tab : List (Str × Sp)) (tk : TE) (t : TA) : TE := fun σ H Q => tk σ H fun y H1 => onStr y fun x => onO (tab.lookup x) fun sp => t σ H1 fun vs H2 => sp vs H2 Q E0
section
variable {tab : List (Str × Sp)} {tk to ti te : TE} {t : TA} {σ : St} {H : Hp} {Q : VK} {D : Ends} {p : Addr} {i j : Int} {tget : V → V → Hp → VK → Prop} {tip : TIp} {tset : TSet}
theorem e_deed : tDeed tab tk t σ H Q = tk σ H fun y H1 => onStr y fun x => onO (tab.lookup x) fun sp => t σ H1 fun vs H2 => sp vs H2 Q E0 := rfl
theorem e_getL : cGetL (.ref p) (.int i) H Q = onLst (H p) fun xs => onO (atI xs i) fun v => Q v H := rfl
theorem e_ipA : cIpA (.int i) (.int j) H Q = Q (.int (i + j)) H := rfl
theorem e_augS : tAugS to ti te tget tip tset D σ H = to σ H fun o H1 => ti σ H1 fun i H2 => tget o i H2 fun x H3 => te σ H3 fun y H4 => tip x y H4 fun z H5 => tset o i z H5 fun H6 => D.nx σ H6 := rfl
theorem e_aug {i : Nat} {ti : TIp} : tAug i te ti D σ H = ∃ x, σ[i]? = some (some x) ∧ te σ H fun y H1 => ti x y H1 fun z H2 => D.nx (σ.set i (some z)) H2 := rfl
end
end L2
namespace L2
open PySem PySem.Spec PyProof.Rows
/-! ### sorted(d): a dict of fewer than 64 whole numbers -/
noncomputable def intKeys : List (Key × V) → Option (List Int)
  | [] => some []
  | (.inl i, _) :: r => (intKeys r).map (i :: ·)
  | _ => none
theorem ObjOk.there {P : Program} {w : World} {H : Hp} {h : Heap} {a : Addr} {o : HO} (x : ObjOk P w H h a o) : ∃ ob, h.get? a = some ob := by
  cases o with
  | lst xs => obtain ⟨_, _, _, _, e⟩ := x; exact ⟨_, e⟩
  | tup xs => obtain ⟨_, _, _, o, e, _⟩ := x; exact ⟨_, e⟩
  | dK kvs => obtain ⟨_, _, _, _, o, _, _, e, _⟩ := x; exact ⟨_, e⟩
  | dT kvs => obtain ⟨_, _, _, _, o, _, _, e, _⟩ := x; exact ⟨_, e⟩
  | set S n => obtain ⟨o, _, _, _, e, _⟩ := x; exact ⟨_, e⟩
  | ins C dx fs => obtain ⟨_, _, _, e, _⟩ := x; exact ⟨_, e⟩
  | own y => obtain ⟨_, e⟩ := x; exact ⟨_, e⟩
  | xd fs => obtain ⟨_, ⟨_, _, _, e, _⟩, _⟩ := x; exact ⟨_, e⟩
  | rng lo hi => obtain ⟨_, _, _, e⟩ := x; exact ⟨_, e⟩
  | frz ob u => obtain ⟨e, _⟩ := x; exact ⟨_, e⟩
  | tbl ps => exact ⟨_, (show h.get? a = some _ from x)⟩
  | met f y => exact ⟨_, (show h.get? a = some _ from x)⟩
  | ext φ => obtain ⟨_, ⟨_, e⟩, _⟩ := x; exact ⟨_, e⟩
noncomputable def cSortD : List V → Hp → VK → Prop := fun vs H Q => on1 vs fun x => onRef x fun p => onDct (H p) fun kvs => onO (intKeys kvs) fun ns => ns.length < 64 ∧ ∀ (l : Addr) (ns' : List Int), H l = none → ns'.Perm ns → ns'.Pairwise (· ≤ ·) → Q (.ref l) (upd H l (.lst (ns'.map V.int)))
section
variable {H : Hp} {Q : VK} {p : Addr}
theorem e_sortD : cSortD [.ref p] H Q = onDct (H p) fun kvs => onO (intKeys kvs) fun ns => ns.length < 64 ∧ ∀ (l : Addr) (ns' : List Int), H l = none → ns'.Perm ns → ns'.Pairwise (· ≤ ·) → Q (.ref l) (upd H l (.lst (ns'.map V.int))) := rfl
end
end L2
namespace L2
open PySem PySem.Spec PyProof.Rows
/-! ### zip and enumerate: iterators that hand out a pair -/
section
variable {X : Cx} {pins : List (Addr × Obj)} {σ : St} {H : Hp} {s : Shared} {h' : Heap}
end

/-- a list (false) or a tuple (true), and its iterator -/
noncomputable def SOk (t : Bool) (h : Heap) (a : Addr) (us : Array Value) : Prop := match t with
  | true => h.IsTuple a us
  | false => h.IsList a us
noncomputable def SIter (t : Bool) (h : Heap) (it a : Addr) (i : Nat) : Prop := match t with
  | true => h.IsTupleIter it a i
  | false => h.IsListIter it a i
theorem SOk.keep {t : Bool} {h h' : Heap} {a : Addr} {us : Array Value} (x : SOk t h a us) (e : ∀ o, h.get? a = some o → h'.get? a = some o) : SOk t h' a us := by
  cases t <;> (obtain ⟨o, ho, r⟩ := x; exact ⟨o, e o ho, r⟩)
theorem SIter.keep {t : Bool} {h h' : Heap} {it a : Addr} {i : Nat} (x : SIter t h it a i) (e : ∀ o, h.get? it = some o → h'.get? it = some o) : SIter t h' it a i := by
  cases t <;> (obtain ⟨o, ho, r⟩ := x; exact ⟨o, e o ho, r⟩)
theorem SIter.obj {t : Bool} {h : Heap} {it a : Addr} {i : Nat} (x : SIter t h it a i) : ∃ o, h.get? it = some o ∧ ∀ v, o.data ≠ .cell v := by
  cases t <;> (obtain ⟨o, ho, c, d⟩ := x; exact ⟨o, ho, fun v z => by rw [d] at z; cases z⟩)
section
variable {prog : Program} {w : World} {A : Around} {E : Value → Shared → Prop} {s : Shared}
end
end L2
namespace L2
open PySem PySem.Spec PyProof.Rows
section
variable {prog : Program} {w : World} {A : Around} {E : Value → Shared → Prop} {s : Shared}
end
/-- a list or a tuple that is read -/
noncomputable def SqS (K : PySem.W.Frag) (t : Bool) (H : Hp) (a : Addr) (xs : List V) : Prop := match t with
  | true => SqT K H a xs
  | false => SqL K H a xs
section
variable {X : Cx} {pins : List (Addr × Obj)} {σ : St} {H : Hp} {s : Shared} {a : Addr} {xs ys : List V} {t : Bool}
end
noncomputable def Itz (K : PySem.W.Frag) (t u : Bool) (a b : Addr) : It :=
  ⟨fun i H => ∃ xs ys x y, SqS K t H a xs ∧ SqS K u H b ys ∧ xs[i]? = some x ∧ ys[i]? = some y,
   fun i H v H' => ∃ p x y, H p = none ∧ v = .ref p ∧ H' = upd H p (.tup [x, y]) ∧ (∀ xs, SqS K t H a xs → xs[i]? = some x) ∧ ∀ ys, SqS K u H b ys → ys[i]? = some y,
   fun i H => ∃ xs ys, SqS K t H a xs ∧ SqS K u H b ys ∧ (xs.length ≤ i ∨ ys.length ≤ i)⟩
noncomputable def Ite (K : PySem.W.Frag) (a : Addr) : It :=
  ⟨fun i H => ∃ xs x, SqL K H a xs ∧ xs[i]? = some x, fun i H v H' => ∃ p x, H p = none ∧ v = .ref p ∧ H' = upd H p (.tup [.int i, x]) ∧ ∀ xs, SqL K H a xs → xs[i]? = some x,
   fun i H => ∃ xs, SqL K H a xs ∧ xs.length ≤ i⟩
section
variable {X : Cx} {elts : List Expr} {k : Nat} {tp : Pos}
noncomputable def iZip (K : PySem.W.Frag) (ta : TA) : TI := fun σ H R => ta σ H fun vs H1 => on2 vs fun x y => onRef x fun a => onRef y fun b => ∃ t u, (∃ xs, SqS K t H1 a xs) ∧ (∃ ys, SqS K u H1 b ys) ∧ R (Itz K t u a b) H1
noncomputable def iEnu (K : PySem.W.Frag) (ta : TA) : TI := fun σ H R => ta σ H fun vs H1 => on1 vs fun x => onRef x fun a => (∃ xs, SqL K H1 a xs) ∧ R (Ite K a) H1
end
section
variable {σ : St} {H : Hp} {D : Ends} {g : TG} {tb : TS} {as : TA} {K : PySem.W.Frag}
theorem e_forZ : tFor (iZip K as) g tb D σ H = as σ H fun vs H1 => on2 vs fun x y => onRef x fun a => onRef y fun b => ∃ t u, (∃ xs, SqS K t H1 a xs) ∧ (∃ ys, SqS K u H1 b ys) ∧ lp (Itz K t u a b) g tb D σ H1 := rfl
theorem e_forE : tFor (iEnu K as) g tb D σ H = as σ H fun vs H1 => on1 vs fun x => onRef x fun a => (∃ xs, SqL K H1 a xs) ∧ lp (Ite K a) g tb D σ H1 := rfl
end
end L2
namespace L2
open PySem PySem.Spec PyProof.Rows
/-! ### comprehensions of two names: [elt for x, y in iter if ..] -/
structure CompSc2 (X : Cx) (sc : Scope) (cl : List (Str × Addr)) (x y0 : Str) (fr : List Nat) (N : List Str) : Prop where
  kind : sc.kind = .function
  nocell : ∀ y ∈ sc.names, y.2 ≠ .cell
  names : ∀ y ∈ sc.names, y.2 = .local → sc.names.lookup y.1 = some .local
  clos : closureFor sc X.env = pure cl
  sub : ∀ y c, cl.lookup y = some c → X.env.cells.lookup y = some c
  has : ∀ y, ((relabel sc X.env).names.lookup y = some .cell ∨ (relabel sc X.env).names.lookup y = some .free) → ∃ c, cl.lookup y = some c
  tgt : sc.names.lookup x = some .local
  tgt2 : sc.names.lookup y0 = some .local
  nd : N.Nodup
  N0 : N = x :: y0 :: fr.map fun j => X.N.getD j x
  frc : ∀ j ∈ fr, ∃ y, X.N[j]? = some y ∧ X.env.kindOf y = some .cell ∧ ((relabel sc X.env).names.lookup y = some .cell ∨ (relabel sc X.env).names.lookup y = some .free)
section
variable {X : Cx} {pins : List (Addr × Obj)} {σ : St} {H : Hp} {s : Shared} {sc : Scope} {cl : List (Str × Addr)} {C : Addr} {x y0 : Str} {fr : List Nat} {N : List Str} {fp : List Addr}
end
@[irreducible] def tComp2 (K : PySem.W.Frag) (wi : TI) (fr : List Nat) (tc : TT) (te : TE) : TE := fun σ H Q => wi σ H fun J H1 => ∃ W : Nat → Nat → List V → Hp → Prop, (∃ m, W 0 m [] H1) ∧ ∀ i m xs H, W i m xs H → xs.length ≤ 1000000 ∧
  ((J.stop i H ∧ ∀ p, H p = none → Q (.ref p) (upd H p (.lst xs))) ∨
   (J.go i H ∧ ∀ v H', J.yld i H v H' → ∃ p y y2, v = .ref p ∧ SqT K H' p [y, y2] ∧ tc (some y :: some y2 :: compSt fr σ) H' fun b H2 => if b = true then te (some y :: some y2 :: compSt fr σ) H2 (fun z H3 => ∃ m', m' < m ∧ W (i + 1) m' (xs ++ [z]) H3) else ∃ m', m' < m ∧ W (i + 1) m' xs H2))
section
variable {X : Cx} {sc : Scope} {cl : List (Str × Addr)} {x y0 : Str} {fr : List Nat} {N : List Str} {elt iter : Expr} {px py tp pos : Pos} {tk : Nat} {ifs : List Expr} {wi : TI} {tc : TT} {te : TE}
end
theorem CompSc2.of {X : Cx} {sc : Scope} {cl : List (Str × Addr)} {x y0 : Str} {fr : List Nat} {N M : List Str} (S : CompSc X sc cl x fr M) (tgt2 : sc.names.lookup y0 = some .local) (nd : N.Nodup) (N0 : N = x :: y0 :: fr.map fun j => X.N.getD j x) : CompSc2 X sc cl x y0 fr N :=
  ⟨S.kind, S.nocell, S.names, S.clos, S.sub, S.has, S.tgt, tgt2, nd, N0, S.frc⟩
noncomputable def lc2 (K : PySem.W.Frag) (J : It) (fr : List Nat) (tc : TT) (te : TE) (σ : St) (H : Hp) (Q : VK) : Prop := ∃ W : Nat → Nat → List V → Hp → Prop, (∃ m, W 0 m [] H) ∧ ∀ i m xs H, W i m xs H → xs.length ≤ 1000000 ∧
  ((J.stop i H ∧ ∀ p, H p = none → Q (.ref p) (upd H p (.lst xs))) ∨
   (J.go i H ∧ ∀ v H', J.yld i H v H' → ∃ p y y2, v = .ref p ∧ SqT K H' p [y, y2] ∧ tc (some y :: some y2 :: compSt fr σ) H' fun b H2 => if b = true then te (some y :: some y2 :: compSt fr σ) H2 (fun z H3 => ∃ m', m' < m ∧ W (i + 1) m' (xs ++ [z]) H3) else ∃ m', m' < m ∧ W (i + 1) m' xs H2))
section
variable {fr : List Nat} {tc : TT} {te : TE} {σ : St} {H : Hp} {Q : VK} {as : TA} {K : PySem.W.Frag}
theorem e_comp2Z : tComp2 K (iZip K as) fr tc te σ H Q = as σ H fun vs H1 => on2 vs fun x y => onRef x fun a => onRef y fun b => ∃ t u, (∃ xs, SqS K t H1 a xs) ∧ (∃ ys, SqS K u H1 b ys) ∧ lc2 K (Itz K t u a b) fr tc te σ H1 Q := by
  unfold tComp2 iZip
  rfl
theorem e_comp2E : tComp2 K (iEnu K as) fr tc te σ H Q = as σ H fun vs H1 => on1 vs fun x => onRef x fun a => (∃ xs, SqL K H1 a xs) ∧ lc2 K (Ite K a) fr tc te σ H1 Q := by
  unfold tComp2 iEnu
  rfl
end
/-! ### dict(d) of a dict of the module -/
/-- the entries, by their keys -/
inductive EntsAre : List DictEntry → List (Key × V) → Prop
  | nil : EntsAre [] []
  | cons {h : Int} {x : Str} {t : Tok} {u : Value} {v : V} {es : List DictEntry} {kvs : List (Key × V)} : RelV v u → EntsAre es kvs → EntsAre ({ hash := h, key := .str x t, val := u } :: es) ((.inr x, v) :: kvs)
noncomputable def cDictM (d : Addr) (kvs : List (Key × V)) : List V → Hp → VK → Prop := fun vs H Q => vs = [.ref d] ∧ ∀ p, H p = none → Q (.ref p) (upd H p (.dK kvs))
theorem EntsAre.vals {P : Program} {w : World} {es : List DictEntry} {kvs : List (Key × V)} (h : EntsAre es kvs) : ∃ vs : List (Key × Value), KV kvs vs ∧ Pairs (mixKind P w) es vs := by
  induction h with
  | nil => exact ⟨[], .nil, .nil⟩
  | @cons h x t u v es kvs r _ ih =>
    obtain ⟨vs, a, b⟩ := ih
    exact ⟨(.inr x, u) :: vs, .cons ⟨rfl, r⟩ a, .cons (mixKind_str P w x t) rfl b⟩
theorem e_dictM {d : Addr} {kvs : List (Key × V)} {H : Hp} {Q : VK} : cDictM d kvs [.ref d] H Q = ∀ p, H p = none → Q (.ref p) (upd H p (.dK kvs)) := by simp [cDictM]
end L2
namespace L2
open PySem PySem.Spec PyProof.Rows
/-! ### isinstance(x, list), xs.clear(), != of truths -/
noncomputable def kLst : Option HO → Option Bool
  | some (.lst _) => some true
  | some (.tup _) => some false
  | _ => none
noncomputable def cIsiL : List V → Hp → VK → Prop := fun vs H Q => on2 vs fun x y => onRef x fun p => y = .ty "list" ∧ onO (kLst (H p)) fun b => Q (.bl b) H
section
variable {X : Cx}
theorem call_isiL : CallR X (.builtin "isinstance") cIsiL := fun pins s σ H xs us Q I r h => by
  obtain ⟨x, y, rfl, h1⟩ := on2_is h
  obtain ⟨p, rfl, rfl, h2⟩ := onRef_of h1
  obtain ⟨b, ek, q⟩ := onO_of h2
  obtain ⟨u, w', rfl, r1, r2⟩ := vals2 r
  cases r1
  cases r2
  unfold kLst at ek
  split at ek
  · next e =>
    cases ek
    obtain ⟨o, eo, c⟩ := Inv.listObj I (SqL.of e)
    exact IsiPair.list_list eo c ⟨.bl true, H, I, rfl, q⟩
  · next e =>
    cases ek
    obtain ⟨o, eo, c⟩ := Inv.tupObj I (SqT.of e)
    exact IsiPair.tuple_list eo c ⟨.bl false, H, I.tok _, rfl, q⟩
  · cases ek
noncomputable def cLenT (K : PySem.W.Frag) : List V → Hp → VK → Prop := fun vs H Q => on1 vs fun x => onRef x fun p => ∃ xs, SqT K H p xs ∧ Q (.int xs.length) H
variable {o : Expr} {to : TE} {apos cpos : Pos}
noncomputable def cLClear (to : TE) : TE := fun σ H Q => to σ H fun x H1 => onRef x fun a => onLst (H1 a) fun _ => Q .non (upd H1 a (.lst []))
end
section
variable {H : Hp} {Q : VK} {p : Addr} {σ : St} {to : TE} {vs : List V}
theorem e_isiL : cIsiL [.ref p, .ty "list"] H Q = onO (kLst (H p)) fun b => Q (.bl b) H := by
  unfold cIsiL on2
  simp only [onRef, true_and]
theorem e_lenT {K : PySem.W.Frag} : cLenT K [.ref p] H Q = ∃ xs, SqT K H p xs ∧ Q (.int xs.length) H := rfl
theorem e_kll : kLst (some (.lst vs)) = some true := rfl
theorem e_klt : kLst (some (.tup vs)) = some false := rfl
theorem e_lclear : cLClear to σ H Q = to σ H fun x H1 => onRef x fun a => onLst (H1 a) fun _ => Q .non (upd H1 a (.lst [])) := rfl
theorem e_neB {a b : Bool} : rNe (.bl a) (.bl b) H Q = Q (.bl (!decide (a = b))) H := by simp only [rNe, show scal (.bl a) (.bl b) = true from rfl, V.bl.injEq, true_and]
end
end L2
namespace L2
open PySem PySem.Spec PyProof.Rows
/-! ### sum(ints), a read list + a list -/
noncomputable def cSum (K : PySem.W.Frag) : List V → Hp → VK → Prop := fun vs H Q => on1 vs fun x => onRef x fun p => ∃ ns : List Int, SqL K H p (ns.map V.int) ∧ ∀ z : Int, Q (.int z) H
noncomputable def cCatS (K : PySem.W.Frag) : R2 := fun x y H Q => onRef x fun a => onRef y fun b => ∃ xs ys, SqL K H a xs ∧ SqL K H b ys ∧ xs.length + ys.length ≤ sizeLine ∧ ∀ p, H p = none → Q (.ref p) (upd H p (.lst (xs ++ ys)))
section
variable {X : Cx}
end
section
variable {K : PySem.W.Frag} {H : Hp} {Q : VK} {p a b : Addr}
theorem e_sum : cSum K [.ref p] H Q = ∃ ns : List Int, SqL K H p (ns.map V.int) ∧ ∀ z : Int, Q (.int z) H := rfl
theorem e_catS : cCatS K (.ref a) (.ref b) H Q = ∃ xs ys, SqL K H a xs ∧ SqL K H b ys ∧ xs.length + ys.length ≤ sizeLine ∧ ∀ p, H p = none → Q (.ref p) (upd H p (.lst (xs ++ ys))) := rfl
end
section
variable {X : Cx} {sc : Scope} {cl : List (Str × Addr)} {x y0 : Str} {fr : List Nat} {N : List Str} {elt iter : Expr} {px px0 tp pos : Pos} {tk : Nat} {ifs : List Expr} {wi : TI} {tc : TT} {te : TE}
end
end L2
namespace L2
open PySem PySem.Spec PyProof.Rows
/-! ### what follows a statement, hidden while it is read -/
section
variable {a b : TS} {D : Ends} {σ : St} {H : Hp}
theorem cut_seq (h : ∀ R : St → Hp → Prop, (∀ σ' H', b D σ' H' → R σ' H') → a { D with nx := R } σ H) : tSeq a b D σ H := h (b D) fun _ _ x => x
theorem cut_g {tb : TS} {i : Nat} {v : V} (h : tb D (σ.set i (some v)) H) : gName i v σ H fun σ2 H2 => tb D σ2 H2 := h
end
end L2
namespace L2
open PySem PySem.Spec PyProof.Rows
/-! ### dicts with tuples as keys, displays of dicts -/
section
variable {td ty tv : TE} {trs : List (TE × TE)} {tk : TE} {σ : St} {H : Hp} {Q : VK} {D : Ends}
theorem e_rnotin : tDNotIn ty td σ H Q = ty σ H fun y H1 => td σ H1 fun x H2 => onRef x fun a => ∃ o, DGet H2 a y o ∧ Q (.bl (!o.isSome)) H2 := by
  unfold tDNotIn
  congr 1
  funext y H1
  congr 1
  funext x H2
  exact propext ⟨fun ⟨a, o, e, h⟩ => by subst e; exact ⟨o, h⟩, fun h => by obtain ⟨a, rfl, o, h⟩ := onRef_of h; exact ⟨a, o, rfl, h⟩⟩
theorem e_rput : sDPut td ty tv D σ H = tv σ H fun v H1 => td σ H1 fun x H2 => ty σ H2 fun y H3 => onRef x fun a => ∃ H4, DPut H3 a y v H4 ∧ D.nx σ H4 := by
  unfold sDPut
  congr 1
  funext v H1
  congr 1
  funext x H2
  congr 1
  funext y H3
  exact propext ⟨fun ⟨a, H4, e, h⟩ => by subst e; exact ⟨H4, h⟩, fun h => by obtain ⟨a, rfl, H4, h⟩ := onRef_of h; exact ⟨a, H4, rfl, h⟩⟩
theorem e_newT : tDNewT σ H Q = ∀ p, H p = none → Q (.ref p) (upd H p (.dT [])) := rfl
theorem e_pairs0 {R : List (V × V) → Hp → Prop} : tPairs [] σ H R = R [] H := rfl
theorem e_pairs {R : List (V × V) → Hp → Prop} : tPairs ((tk, tv) :: trs) σ H R = tk σ H fun x H1 => tv σ H1 fun y H2 => tPairs trs σ H2 fun ps H3 => R ((x, y) :: ps) H3 := rfl
/-- a dict of tuples looked up -/
theorem DGet.tt {a b : Addr} {kvs : List (List Key × V)} {k : List Key} (e : H a = some (.dT kvs)) (eb : H b = some (.tup (k.map kV))) : DGet H a (.ref b) (valV kvs k) := DGet.t e eb
end
end L2
namespace L2
open PySem PySem.Spec PyProof.Rows
/-! ### the keys of a dict one by one, whatever they are -/
section
variable {P : Program} {W : World} {A : Around} {E : Value → Shared → Prop} {s : Shared} {dd it : Addr} {es : Array DictEntry} {ep i : Nat}
noncomputable def EntAt (h : Heap) (dd : Addr) (es : Array DictEntry) (ep : Nat) : Prop := ∃ o, h.get? dd = some o ∧ o.ExactDict ∧ o.data = .dict es ep
theorem EntAt.ty (x : EntAt s.heap dd es ep) : s.TypeIs (.ref dd) "dict" := let ⟨o, e, c, _⟩ := x; ⟨o, e, c.1⟩
theorem EntAt.to {h h' : Heap} (x : EntAt h dd es ep) (k : ∀ o, h.get? dd = some o → h'.get? dd = some o) : EntAt h' dd es ep := let ⟨o, e, r⟩ := x; ⟨o, k _ e, r⟩
theorem EntAt.lt {h : Heap} (x : EntAt h dd es ep) : dd < h.objs.size := let ⟨_, e, _⟩ := x; Heap.lt_size e
theorem ent_iter {Q : Value → Shared → Prop} (hm : (dd == sysModules) = false) (x : EntAt s.heap dd es ep)
    (q : Q (.ref s.heap.objs.size) { s with heap := s.heap.push { cls := .type "dict_keyiterator", data := .fields #[.ref dd, .int 0 0, .int es.size 0, .int ep 0] } }) : wpAny (model P W) A (pyIter (.ref dd)) Q E s := by
  obtain ⟨o, e1, e2, e3⟩ := id x
  refine wpAny_pyIter_slot x.ty F.slot_dict_iter (wpAny_call_entry F.slot_dict_iter x.ty F.entry_dict_iter ?_ (F.args_dict_iter_1 _))
  unfold Builtin.«dict.__iter__»
  refine wpAny_bind ?_
  unfold Builtin.Dict.dictSlotNone
  refine wpAny_bind (wpAny_notOrdered_dict x.ty (wpAny_pure ?_))
  show wpAny _ _ (Builtin.Dict.showsAll dd >>= _) _ _ s
  unfold Builtin.Dict.showsAll
  rw [if_neg fun z => by rw [hm] at z; cases z]
  refine wpAny_bind (wpAny_pure (wpAny_bind (wpAny_dictEntries e1 e3 (wpAny_bind (wpAny_dictEpoch e1 e3 ?_)))))
  refine wpAny_bind (wpAny_newObj_type (wpAny_pure ⟨_, rfl, "dict_keyiterator", _, ⟨_, Heap.get?_push_size _ rfl, rfl⟩, F.slot_dict_keyiterator_next.lookup, by simpa [rawInt] using q⟩))
theorem ent_next {e : DictEntry} {Q : Option Value → Shared → Prop} (ki : s.heap.IsKeyIter it dd i es.size ep) (x : EntAt s.heap dd es ep) (he : es[i]? = some e)
    (q : ∀ h', h'.IsKeyIter it dd (i + 1) es.size ep → Heap.SameBut it s.heap h' → Q (some e.key) { s with heap := h' }) : wpAny (model P W) A (pyNext (.ref it)) Q E s := by
  obtain ⟨oi, i1, i2, i3⟩ := id ki
  obtain ⟨o, e1, e2, e3⟩ := id x
  have lt : i < es.size := (Array.getElem?_eq_some_iff.mp he).1
  unfold pyNext
  refine wpAny_bind (wpAny_attempt (wpAny_callSpecial?_slot (name := Str.ofString "__next__") ki.typeIs F.slot_dict_keyiterator_next
    (wpAny_call_entry F.slot_dict_keyiterator_next ki.typeIs F.entry_dict_keyiterator_next ?_ (F.args_dict_keyiterator_next_1 _))))
  refine wpAny_bind (wpAny_pure (wpAny_bind (wpAny_bind ?_)))
  first | refine wpAny_bind (wpAny_typeNameOfWhole_keyiter ki.typeIs (wpAny_pure ?_)) | refine wpAny_bind (wpAny_typeNameOf_keyiter ki.typeIs (wpAny_pure ?_))
  refine wpAny_bind (wpAny_fieldsOf i1 i3 ?_)
  simp only [show Builtin.Dict_items.ownsTuple "dict_keyiterator" = false by decide, Bool.false_eq_true, if_false]
  show wpAny _ _ (if (Value.ref dd == Value.none) = true then _ else _) _ _ s
  rw [if_neg (fun z => Bool.false_ne_true z : ¬ (Value.ref dd == Value.none) = true)]
  refine wpAny_bind (wpAny_pure (wpAny_bind (wpAny_dictEntries e1 e3 ?_)))
  rw [if_neg (by simp)]
  refine wpAny_bind (wpAny_pure (wpAny_bind (wpAny_dictEpoch e1 e3 ?_)))
  rw [if_neg (by simp)]
  refine wpAny_pure ?_
  simp only [show ¬ (i : Int) < 0 by omega, if_false, Int.toNat_natCast, he]
  refine wpAny_bind ?_
  first | refine wpAny_bind (wpAny_typeNameOfWhole_keyiter ki.typeIs (wpAny_pure ?_)) | refine wpAny_bind (wpAny_typeNameOf_keyiter ki.typeIs (wpAny_pure ?_))
  refine wpAny_bind (wpAny_isOneOf_keyiter ki.typeIs ?_)
  show wpAny _ _ (setField (.ref it) 1 (rawInt ((i : Int) + 1)) >>= _) _ _ s
  refine wpAny_bind (wpAny_setField i1 i3 (by simp) ?_)
  have k2 : (s.heap.update it (Obj.mapFields (·.setIfInBounds 1 (rawInt ((i : Int) + 1))))).IsKeyIter it dd (i + 1) es.size ep :=
    ⟨_, Heap.get?_update_self _ i1 (Obj.isFreed_of_fields (Obj.data_mapFields i3 _)), (Obj.cls_mapFields ..).trans i2, by rw [Obj.data_mapFields i3]; simp [rawInt]⟩
  refine wpAny_bind (wpAny_holding (wpAny_bind (wpAny_isOneOf_keyiter (s := { s with heap := s.heap.update it (Obj.mapFields (·.setIfInBounds 1 (rawInt ((i : Int) + 1)))) }) k2.typeIs ?_)))
  show wpAny _ _ (pure e.key) _ _ _
  exact wpAny_pure (wpAny_pure ⟨_, rfl, wpAny_pure (q _ k2 (Heap.SameBut.update ..))⟩)
theorem ent_end {Q : Option Value → Shared → Prop} (hh : A.handled = none) (ki : s.heap.IsKeyIter it dd es.size es.size ep) (x : EntAt s.heap dd es ep)
    (q : ∀ h', Heap.ExtBut it s.heap h' → Q none { s with heap := h' }) : wpAny (model P W) A (pyNext (.ref it)) Q E s := by
  obtain ⟨oi, i1, i2, i3⟩ := id ki
  obtain ⟨o, e1, e2, e3⟩ := id x
  unfold pyNext
  refine wpAny_bind (wpAny_attempt (wpAny_callSpecial?_slot (name := Str.ofString "__next__") ki.typeIs F.slot_dict_keyiterator_next
    (wpAny_call_entry F.slot_dict_keyiterator_next ki.typeIs F.entry_dict_keyiterator_next ?_ (F.args_dict_keyiterator_next_1 _))))
  refine wpAny_bind (wpAny_pure (wpAny_bind (wpAny_bind ?_)))
  first | refine wpAny_bind (wpAny_typeNameOfWhole_keyiter ki.typeIs (wpAny_pure ?_)) | refine wpAny_bind (wpAny_typeNameOf_keyiter ki.typeIs (wpAny_pure ?_))
  refine wpAny_bind (wpAny_fieldsOf i1 i3 ?_)
  simp only [show Builtin.Dict_items.ownsTuple "dict_keyiterator" = false by decide, Bool.false_eq_true, if_false]
  show wpAny _ _ (if (Value.ref dd == Value.none) = true then _ else _) _ _ s
  rw [if_neg (fun z => Bool.false_ne_true z : ¬ (Value.ref dd == Value.none) = true)]
  refine wpAny_bind (wpAny_pure (wpAny_bind (wpAny_dictEntries e1 e3 ?_)))
  rw [if_neg (by simp)]
  refine wpAny_bind (wpAny_pure (wpAny_bind (wpAny_dictEpoch e1 e3 ?_)))
  rw [if_neg (by simp)]
  refine wpAny_pure ?_
  simp only [show ¬ (es.size : Int) < 0 by omega, if_false, Int.toNat_natCast, Array.getElem?_eq_none (Nat.le_refl es.size)]
  refine wpAny_bind ?_
  first | refine wpAny_bind (wpAny_typeNameOfWhole_keyiter ki.typeIs (wpAny_pure ?_)) | refine wpAny_bind (wpAny_typeNameOf_keyiter ki.typeIs (wpAny_pure ?_))
  show wpAny _ _ (setField (.ref it) 0 .none >>= _) _ _ s
  refine wpAny_bind (wpAny_setField i1 i3 (by simp) ?_)
  show wpAny _ _ (newExc (.type "StopIteration") [] >>= fun _ => _) _ _ _
  refine wpAny_bind ?_
  simp only [newExc, newTuple]
  refine wpAny_bind (wpAny_newObj_type ?_ (by size_fits))
  refine wpAny_bind (m := firstArgMember _ _) (wpAny_of_eq (a := Value.none) (by first | rfl | (simp only [firstArgMember]; rfl)) (wpAny_newObj_type ?_ (by size_fits)))
  simp only [raiseNew]
  refine wpAny_bind (wpAny_handled ?_)
  rw [show A.in1.handled = none from hh]
  refine wpAny_bind (wpAny_pure (wpAny_throw ?_))
  refine wpAny_bind (wpAny_isInstance (T := "StopIteration") (b := true) ⟨_, Heap.get?_push_size _ rfl, rfl⟩ (show _ from isSubtype_stop) ?_)
  exact wpAny_pure (q _ (((Heap.SameBut.update ..).extBut.push _).push _))
theorem walks_ent (hh : A.handled = none) (it dd : Addr) (ne : dd ≠ it) (es : Array DictEntry) (ep : Nat) :
    Walks P W A it [it, dd] [it] es.size (fun i v => ∃ e, es[i]? = some e ∧ v = e.key) (fun i h => h.IsKeyIter it dd i es.size ep ∧ EntAt h dd es ep) where
  sub := fun b hb => by simp at hb; simp [hb]
  frame := fun _ _ _ st hk => ⟨st.1.at fun o e => hk it (by simp) o e, st.2.to fun o e => hk dd (by simp) o e⟩
  item := fun i s Q E hi st hQ => ent_next st.1 st.2 (Array.getElem?_eq_getElem hi) fun h' k2 sb => hQ _ h' s.toks ⟨_, Array.getElem?_eq_getElem hi, rfl⟩ ⟨k2, st.2.to fun o e => sb.extBut dd o ne e⟩ fun b o hb e => sb.extBut b o (fun h => hb (by simp [h])) e
  done := fun s Q E st hQ => ent_end hh st.1 st.2 fun h' he => hQ h' s.toks fun b o hb e => he b o (fun h => hb (by simp [h])) e
  self := fun _ _ _ _ st hQ => wpAny_pyIter_keyiter st.1 hQ
open PySem.W in
theorem src_ent (lo : (dd == sysModules) = false) : KdlSrc P W "dict" dd dd es.size (fun i v => ∃ e, es[i]? = some e ∧ v = e.key) (fun h => EntAt h dd es ep) where
  type := fun _ hm => hm.ty
  there := fun _ hm => ⟨hm.lt, hm.lt⟩
  keep := fun _ _ hm hk => hm.to fun o e => hk dd (.inl rfl) o e
  notList := by decide
  notTuple := by decide
  hint := fun _ _ _ _ hm hq => kdl_hint_dict hm.ty hq
  iter := fun _ _ hh hm => ⟨_, _, (fun _ _ hq => ent_iter lo hm hq), walks_ent hh _ dd (Nat.ne_of_lt hm.lt) es ep, ⟨⟨_, Heap.get?_push_size _ rfl, rfl, rfl⟩, hm.to fun o e => Heap.get?_push_of_some _ e⟩⟩
theorem ent_len0 (hm : (dd == sysModules) = false) : MeetsIn P W (Builtin.«dict.__len__» ⟨[.ref dd], []⟩) (fun _ R s => ∃ es ep, EntAt s.heap dd es ep ∧ R (.ok (.ret (.int es.size s.toks))) { s with toks := s.toks + 1 }) :=
  .of_wp fun A R s ⟨es, ep, x, h⟩ => by
    obtain ⟨o, e1, e2, e3⟩ := id x
    show wpAny _ _ (dictSize dd >>= fun _ => _) _ _ s
    unfold dictSize
    refine wpAny_bind (wpAny_bind (wpAny_dictEntries e1 e3 (wpAny_pure ?_)))
    show wpAny _ _ (Builtin.Dict.pendingCount dd >>= fun _ => _) _ _ s
    refine wpAny_bind (wpAny_pendingCount_other hm (wpAny_ret_mkInt ?_))
    rw [Nat.add_zero]
    exact h
theorem ent_len {Q : Value → Shared → Prop} (hm : (dd == sysModules) = false) (x : EntAt s.heap dd es ep) (fit : (es.size : Int) < 2 ^ 63) (q : Q (.int es.size (s.toks + 1)) { s with toks := s.toks + 1 + 1 }) :
    wpAny (model P W) A (call (.builtin "len") [.ref dd]) Q E s := by
  refine Calls.call_function_entry kind_len plain_len entry_len (args_len1 _) ?_
  unfold Builtin.«len»
  refine wpAny_bind (m := oneArg "len" _) (wpAny_pure (wpAny_bind (m := callSpecial? (.ref dd) (Str.ofString "__len__")) (wpAny_callSpecial?_slot (name := Str.ofString "__len__") x.ty F.slot_dict_len
    (call_meetsIn F.slot_dict_len x.ty F.entry_dict_len (F.args_dict_len_1 _) (ent_len0 hm) ⟨es, ep, x, ?_⟩))))
  show wpAny _ _ _ _ _ { s with toks := s.toks + 1 }
  refine wpAny_bind (wpAny_holding (wpAny_pure (wpAny_bind (wpAny_letGo ?_))))
  show wpAny _ _ (if ((es.size : Nat) : Int) < 0 then _ else _) _ _ _
  rw [if_neg (by omega)]
  show wpAny _ _ (if ((es.size : Nat) : Int) ≥ 2 ^ 63 then _ else _) _ _ _
  rw [if_neg (by omega)]
  exact wpAny_bind (wpAny_mkInt (wpAny_pure ⟨_, rfl, q⟩))
end
/-! ### what sorting leaves: the same things -/
section
open PySem.W
inductive KasOk {α : Type} (n : Nat) (R : α → Prop) : KasT α → Prop
  | ret {a : α} : R a → KasOk n R (.ret a)
  | ask {i j : Nat} {k : Bool → KasT α} : i < n → j < n → (∀ b, KasOk n R (k b)) → KasOk n R (.ask i j k)
theorem KasOk.bind {α β : Type} {n : Nat} {R : α → Prop} {S : β → Prop} {t : KasT α} {f : α → KasT β} (h : KasOk n R t) (g : ∀ a, R a → KasOk n S (f a)) : KasOk n S (t.bind f) := by
  induction h with
  | ret x => exact g _ x
  | ask i j _ ih => exact .ask i j ih
theorem KasOk.wp {α : Type} {n : Nat} {R : α → Prop} {t : KasT α} {cmp : Nat → Nat → (Bool → Shared → Prop) → Shared → Prop} {Q : α → Shared → Prop} {s : Shared} (h : KasOk n R t)
    (hc : ∀ i j C, i < n → j < n → (∀ b, C b s) → cmp i j C s) (q : ∀ a, R a → Q a s) : t.kasWp cmp Q s := by
  induction h with
  | ret x => exact q _ x
  | ask i j _ ih => exact hc _ _ _ i j ih
noncomputable def Pm (n : Nat) (p : Array Nat) : Prop := p.Perm (List.toArray (List.range n))
variable {n : Nat} {p : Array Nat}
theorem Pm.get (h : Pm n p) (hn : 0 < n) (i : Nat) : p.getD i 0 < n := by
  by_cases hi : i < p.size
  · have m : p[i] ∈ p := Array.getElem_mem hi
    have := h.mem_iff.mp m
    simp only [List.mem_toArray, List.mem_range] at this
    simpa [Array.getD, hi] using this
  · simpa [Array.getD, hi] using hn
theorem Pm.rev (h : Pm n p) (i j : Nat) : Pm n (kas_rev p i j) := (mirror_perm _ _ _ _).trans h
theorem ok_asc (h : Pm n p) (hn : 0 < n) : ∀ f m, KasOk n (fun _ => True) (kas_asc p f m)
  | 0, m => .ret trivial
  | f + 1, m => .ask (h.get hn _) (h.get hn _) fun c => by
    cases c with
    | true => exact .ret trivial
    | false => exact ok_asc h hn f (m + 1)
theorem ok_desc (hn : 0 < n) : ∀ f (p : Array Nat) m q, Pm n p → KasOk n (fun r => Pm n r.1) (kas_desc f p m q)
  | 0, p, m, q, h => .ret h
  | f + 1, p, m, q, h => .ask (h.get hn _) (h.get hn _) fun c => by
    cases c with
    | true =>
      show KasOk n _ (if q > 0 then kas_desc f (kas_rev p (m - (q + 1)) m) (m + 1) 0 else kas_desc f p (m + 1) 0)
      split
      · exact ok_desc hn f _ _ _ (h.rev _ _)
      · exact ok_desc hn f _ _ _ h
    | false =>
      exact .ask (h.get hn _) (h.get hn _) fun d => by
        cases d with
        | true => exact .ret h
        | false => exact ok_desc hn f _ _ _ h
theorem ok_tail (hn : 0 < n) (m k : Nat) (h : Pm n p) : KasOk n (fun r => Pm n r.2) (kas_tail3 m k p) := (ok_asc (h.rev 0 m) hn _ _).bind fun _ _ => .ret (h.rev 0 m)
theorem ok_part (hn : 0 < n) (m k : Nat) (h : Pm n p) : KasOk n (fun r => Pm n r.2) (kas_descPart m k p) := (ok_desc hn _ _ _ _ h).bind fun r hr => by
  split
  · exact ok_tail hn _ _ (hr.rev _ _)
  · exact ok_tail hn _ _ hr
theorem ok_count (hn : 0 < n) (k : Nat) (h : Pm n p) : KasOk n (fun r => Pm n r.2) (kas_count k p) := (ok_asc h hn _ _).bind fun m _ => by
  split
  · exact .ret h
  · split
    · exact .ask (h.get hn _) (h.get hn _) fun c => by
        cases c with
        | true => exact .ret h
        | false => exact ok_part hn _ _ (h.rev _ _)
    · exact ok_part hn _ _ h
theorem ok_place (h : Pm n p) (hn : 0 < n) (k : Nat) : ∀ f l r, KasOk n (fun _ => True) (kas_place p k f l r)
  | 0, l, r => .ret trivial
  | f + 1, l, r => by
    show KasOk n _ (if l ≥ r then .ret l else .ask (p.getD k 0) (p.getD ((l + r) / 2) 0) fun c => if c = true then kas_place p k f l ((l + r) / 2) else kas_place p k f ((l + r) / 2 + 1) r)
    split
    · exact .ret trivial
    · exact .ask (h.get hn _) (h.get hn _) fun c => by
        cases c with
        | true => exact ok_place h hn k f _ _
        | false => exact ok_place h hn k f _ _
theorem ok_bin (hn : 0 < n) : ∀ f (p : Array Nat) k, Pm n p → KasOk n (Pm n) (kas_bin f p k)
  | 0, p, k, h => .ret h
  | f + 1, p, k, h => (ok_place h hn k k 0 k).bind fun l _ => ok_bin hn f _ _ ((bubble_perm _ _ _).trans h)
theorem ok_sort (hn : 0 < n) : KasOk n (Pm n) (kas_sort n) := (ok_count hn n (Array.Perm.refl _)).bind fun r hr => by
  split
  · exact ok_bin hn _ _ _ hr
  · exact .ret hr
end
/-! ### sorted(d) of fewer than 64 pairs of whole numbers -/
section
open PySem.W
variable {P : Program} {W : World} {A : Around} {E : Value → Shared → Prop} {s : Shared}
noncomputable def Pr2 (h : Heap) (v : Value) : Prop := ∃ a o x y t u c, v = .ref a ∧ h.get? a = some o ∧ o.cls = .type "tuple" ∧ o.data = .seq #[.int x t, .int y u] c
theorem Pr2.to {h h' : Heap} {v : Value} (x : Pr2 h v) (k : ∀ b o, h.get? b = some o → h'.get? b = some o) : Pr2 h' v := by
  obtain ⟨a, o, x, y, t, u, c, e, g, r⟩ := x
  exact ⟨a, o, x, y, t, u, c, e, k _ _ g, r⟩
theorem eq_ints {i j : Int} {t u : Tok} {Q : Bool → Shared → Prop} (q : ∀ b, Q b s) : wpAny (model P W) A (eqBool (.int i t) (.int j u)) Q E s :=
  (eqAt_V (x := .int j) (y := .int i) ⟨t, rfl⟩ ⟨u, rfl⟩ rfl rfl : SeqAt.EqAt A s _ _ _) P W _ _ (q _)
theorem pr_lt {v u : Value} {C : Bool → Shared → Prop} (hv : Pr2 s.heap v) (hu : Pr2 s.heap u) (q : ∀ b, C b s) : wpAny (model P W) A (keyLt' (tuples' true) v u) C E s := by
  obtain ⟨a, o, x, y, t, w, c, rfl, e1, e2, e3⟩ := hv
  obtain ⟨a', o', x', y', t', w', c', rfl, f1, f2, f3⟩ := hu
  refine kat_lt e1 e3 f1 f3 ?_
  refine kat_cons (eq_ints fun b => ?_)
  cases b with
  | false => exact kat_no (oneLt_int (q _))
  | true =>
    refine kat_yes (kat_cons (eq_ints fun b => ?_))
    cases b with
    | false => exact kat_no (kat_one _ _ (PySem.wpAny_lt_int (q _)))
    | true => exact kat_yes (kat_nil (q _))
theorem pr_tups {h : Heap} : ∀ {vs : List Value}, (∀ v ∈ vs, Pr2 h v) → ∃ fs : List Value, KatTups h vs fs ∧ fs.length = vs.length ∧ ∀ f ∈ fs, ∃ i t, f = .int i t
  | [], _ => ⟨[], trivial, rfl, by simp⟩
  | v :: vs, hv => by
    obtain ⟨fs, k, l, f⟩ := pr_tups fun w hw => hv w (List.mem_cons_of_mem _ hw)
    obtain ⟨a, o, x, y, t, u, c, rfl, e1, e2, e3⟩ := hv v (by simp)
    exact ⟨.int x t :: fs, KatTups.cons e1 e2 e3 rfl k, by simp [l], fun g hg => by
      rcases List.mem_cons.mp hg with rfl | hg
      · exact ⟨x, t, rfl⟩
      · exact f g hg⟩
theorem sort_pairs {a : Addr} {vs : List Value} {n : Nat} {R : PySem.Fin → Shared → Prop} (ho : s.heap.get? a = some (seqObj "list" vs.toArray n)) (h64 : vs.length < 64) (hp : ∀ v ∈ vs, Pr2 s.heap v) (hna : ∀ v ∈ vs, v ≠ .ref a)
    (r : ∀ out : List Value, out.Perm vs → R (.done (.ret .none)) { s with heap := sortedHeap s.heap a vs out.toArray }) : wpAny (model P W) A (Builtin.«list.sort» ⟨[.ref a], []⟩) R E s := by
  rw [list_sort_plain]
  have la : a < s.heap.objs.size := Heap.lt_size ho
  have l64 : vs.length ≤ sizeLine := by rw [sizeLine_eq]; omega
  refine wpAny_bind (listItems_at ho rfl (wpAny_bind (listUpdate_at ho rfl ?_ (by rw [List.size_toArray]; exact l64) (Nat.zero_le _))))
  obtain ⟨e1, g1⟩ : ∃ e1, (s.heap.update a (Obj.mapSeq fun _ => (#[] : Array Value))).get? a = some (seqObj "list" #[] e1) := ⟨_, get?_update_seq ho fun _ => #[]⟩
  refine wpAny_bind (seqEpoch_at g1 rfl (wpAny_bind (wpAny_newTuple ?_ (by show vs.length ≤ _; exact l64))))
  refine wpAny_bind (wpAny_newList (wpAny_holding ?_) (Nat.zero_le _))
  generalize hG : (((s.heap.update a (Obj.mapSeq fun _ => (#[] : Array Value))).push (seqObj "tuple" vs.toArray 0)).push (seqObj "list" #[] 0)) = G
  have g6 : G.get? a = some (seqObj "list" #[] e1) := by
    subst hG
    exact Heap.get?_push_of_some _ (Heap.get?_push_of_some _ g1)
  have hpG : ∀ v ∈ vs, Pr2 G v := fun v hv => by
    obtain ⟨b, o, x, y, t, u, c, rfl, f1, f2⟩ := hp v hv
    subst hG
    exact ⟨b, o, x, y, t, u, c, rfl, Heap.get?_push_of_some _ (Heap.get?_push_of_some _ (by rw [Heap.get?_update_ne _ _ _ _ (fun z => hna _ hv (by rw [z]))]; exact f1)), f2⟩
  have done : ∀ (out : List Value), out.Perm vs → R (.done (.ret .none)) { s with heap := G.update a (Obj.mapSeq fun _ => out.toArray) } := fun out ho' => by
    have := r out ho'
    unfold sortedHeap at this
    rw [hG] at this
    exact this
  show wpAny (model P W) A _ R E { s with heap := G }
  dsimp only
  by_cases h2 : vs.toArray.size < 2
  · rw [if_pos h2, if_pos h2]
    refine wpAny_bind (wpAny_pure ?_)
    rw [StateT.run_pure]
    refine wpAny_bind (wpAny_pure ?_)
    dsimp only
    have eo : (arrOf (SortSt.mk' general' (vs.toArray.zip vs.toArray) #[] 7 none)).map (·.2) = vs.toArray := by
      show (vs.toArray.zip vs.toArray).map (·.2) = vs.toArray
      simp
      exact List.map_snd_zip (Nat.le_refl _)
    refine wpAny_bind (seqEpoch_at g6 rfl (wpAny_bind (listUpdate_at g6 rfl ?_ (Nat.zero_le _) (by rw [eo, List.size_toArray]; exact Nat.le_succ_of_le l64))))
    simp only [bne_self_eq_false, Bool.false_eq_true, if_false]
    refine wpAny_pure ?_
    rw [eo]
    exact done vs (List.Perm.refl _)
  · rw [if_neg h2, if_neg h2]
    rw [List.size_toArray] at h2
    obtain ⟨fs, kt, lf, hf⟩ := pr_tups hpG
    refine wpAny_bind (kat_kind (s := { s with heap := G }) kt (by omega) (T := .type "int") (fun v hv => by obtain ⟨i, t, rfl⟩ := hf v hv; exact Looks.of_pure rfl) rfl ?_)
    refine wpAny_bind (wpAny_mono (kat_run (Q := fun st' s' => s' = { s with heap := G } ∧ ∃ q : Array Nat, Pm vs.length q ∧ arrOf st' = q.map (kas_item (vs.toArray.zip vs.toArray)) ∧ failedOf st' = none) (G := fun q s' => Pm vs.length q ∧ s' = { s with heap := G })
      rfl (by omega) h64 (fun q st' s' a1 a2 a3 a4 => ⟨a4.2, q, a4.1, a2, a3⟩) ((ok_sort (by omega)).wp (fun i j C hi hj q => ?_) fun q hq => ⟨hq, rfl⟩)) ?_ fun _ _ e => e)
    · have m : ∀ {i : Nat}, i < vs.length → Pr2 G (vs.getD i Value.none) := fun {i} hi => hpG _ (by
        rw [show vs.getD i Value.none = vs[i] by simp [hi]]
        exact List.getElem_mem hi)
      exact pr_lt (s := { s with heap := G }) (m hi) (m hj) q
    · rintro ⟨⟨⟩, st'⟩ s' ⟨rfl, q, hq, ha, hf'⟩
      dsimp only
      have eo := kat_snds rfl ha
      have pe : (q.toList.map fun i => vs.getD i Value.none).Perm vs := by
        have e : (List.range vs.length).map (fun i => vs.getD i Value.none) = vs := by
          apply List.ext_getElem (by simp)
          intro i h1 h2
          simp [h2]
        have := (Array.perm_iff_toList_perm.mp hq).map fun i => vs.getD i Value.none
        rw [show (List.range vs.length).toArray.toList = List.range vs.length from rfl, e] at this
        exact this
      refine wpAny_bind (seqEpoch_at g6 rfl (wpAny_bind (listUpdate_at g6 rfl ?_ (Nat.zero_le _) (by rw [eo, List.size_toArray, pe.length_eq]; exact Nat.le_succ_of_le l64))))
      rw [hf']
      simp only [bne_self_eq_false, Bool.false_eq_true, if_false]
      refine wpAny_pure ?_
      rw [eo]
      exact done _ pe
end
end L2
namespace L2
open PySem PySem.Spec PyProof.Rows
noncomputable def cSortT : List V → Hp → VK → Prop := fun vs H Q => on1 vs fun x => onRef x fun p => ∃ kvs : List (List Key × V), H p = some (.dT kvs) ∧ kvs.length < 64 ∧ (∀ kv ∈ kvs, ∃ i j : Int, kv.1 = [.inl i, .inl j]) ∧
  ∀ (l : Addr) (us : List V), H l = none → us.length = kvs.length → (∀ u ∈ us, ∃ (a : Addr) (i j : Int), u = .ref a ∧ H a = some (.tup [.int i, .int j])) → Q (.ref l) (upd H l (.lst us))
theorem pairs_vals {H : Hp} : ∀ {out : List Value}, (∀ v ∈ out, ∃ (a : Addr) (i j : Int), v = .ref a ∧ H a = some (.tup [.int i, .int j])) → ∃ us : List V, Vals us out ∧ us.length = out.length ∧ ∀ u ∈ us, ∃ (a : Addr) (i j : Int), u = .ref a ∧ H a = some (.tup [.int i, .int j])
  | [], _ => ⟨[], .nil, rfl, by simp⟩
  | v :: out, h => by
    obtain ⟨us, a, b, c⟩ := pairs_vals fun w hw => h w (List.mem_cons_of_mem _ hw)
    obtain ⟨x, i, j, rfl, e⟩ := h v (by simp)
    exact ⟨.ref x :: us, .cons rfl a, by simp [b], fun u hu => by
      rcases List.mem_cons.mp hu with rfl | hu
      · exact ⟨x, i, j, rfl, e⟩
      · exact c u hu⟩
theorem KT.at {H : Hp} {kvs : List (List Key × V)} {xs : List (List Key × Addr × Value)} (r : KT H kvs xs) : ∀ {j : Nat} {x : List Key × Addr × Value}, xs[j]? = some x → ∃ kv, kvs[j]? = some kv ∧ H x.2.1 = some (.tup (kv.1.map kV)) := by
  induction r with
  | nil => intro j x e; simp at e
  | cons h _ ih =>
    intro j x e
    cases j with
    | zero => simp only [List.getElem?_cons_zero, Option.some.injEq] at e; subst e; exact ⟨_, rfl, h.2.1⟩
    | succ j => exact ih (by simpa using e)
theorem KT.len {H : Hp} {kvs : List (List Key × V)} {xs : List (List Key × Addr × Value)} (r : KT H kvs xs) : kvs.length = xs.length := by
  induction r with
  | nil => rfl
  | cons _ _ ih => simp [ih]
theorem pr2_of {P : Program} {w : World} {H : Hp} {h : Heap} {a : Addr} {i j : Int} (x : ObjOk P w H h a (.tup [.int i, .int j])) : Pr2 h (.ref a) := by
  obtain ⟨_, its, r, o, e1, e2, n, e3⟩ := x
  cases r with
  | cons r1 r =>
    cases r with
    | cons r2 r =>
      cases r
      obtain ⟨t, rfl⟩ := r1
      obtain ⟨u, rfl⟩ := r2
      exact ⟨a, o, i, j, t, u, n, rfl, e1, e2, e3⟩
theorem call_sortT {X : Cx} (hc : X.calm = true) : CallR X (.builtin "sorted") cSortT := fun pins s σ H xs us Q I r h => by
  obtain ⟨x, rfl, h1⟩ := on1_is h
  obtain ⟨p, rfl, h2⟩ := onRef_of h1
  obtain ⟨kvs, e, h64, hk, q⟩ := h2
  obtain ⟨u, rfl, ru⟩ := vals1 r
  cases ru
  obtain ⟨z, hd, xs0, kt, dd⟩ := dt_of I.hok e
  obtain ⟨od, es, ep, ho, hx, hdat, hes, _, _⟩ := dd
  obtain ⟨m, hn, _⟩ := I.loc
  have hne : p ≠ X.env.locals := ne_of_none e I.free
  have l0 := kt.len
  have l1 : es.size = xs0.length := size_of_entries hes
  refine PySem.W.kdu_sorted (src_ent hd) (I.ok.hd hc) (Att.fr_all hn) (Att.news_ledger hne ho) ⟨od, ho, hx, hdat⟩ (by omega) fun D h' tk vs F N lt hlen hP => ?_
  have hvs : ∀ v ∈ vs, ∃ (a : Addr) (i j : Int), v = .ref a ∧ H a = some (.tup [.int i, .int j]) := fun v hv => by
    obtain ⟨j, ej⟩ := List.mem_iff_getElem?.mp hv
    obtain ⟨en, e1, rfl⟩ := hP j v ej
    rw [entry_at hes] at e1
    obtain ⟨y, ey, rfl⟩ := Option.map_eq_some_iff.mp e1
    obtain ⟨kv, ekv, hH⟩ := kt.at ey
    obtain ⟨i1, i2, ek⟩ := hk kv (List.mem_of_getElem? ekv)
    rw [ek] at hH
    exact ⟨y.2.1, i1, i2, rfl, hH⟩
  have hD : h'.get? D = some (seqObj "list" vs.toArray 0) := (N _ (List.Mem.head _)).1
  have old : ∀ b o, b ≠ X.env.locals → s.heap.get? b = some o → h'.get? b = some o ∧ b < D := fun b o nb eb => by
    by_cases hb : b = p
    · subst hb
      rw [ho] at eb
      cases eb
      exact ⟨(N _ (List.Mem.tail _ (List.Mem.head _))).1, lt _ (List.Mem.head _)⟩
    · have mem := Att.mem_ledger (h := s.heap) (L := X.env.locals) (d := p) |>.mpr ⟨nb, hb, eb⟩
      exact ⟨(N _ (List.Mem.tail _ (List.Mem.tail _ mem))).1, lt _ (List.Mem.tail _ mem)⟩
  have nl : ∀ {b : Addr} {o : HO}, H b = some o → b ≠ X.env.locals := fun h => ne_of_none h I.free
  have hpr : ∀ v ∈ vs, Pr2 h' v ∧ v ≠ .ref D := fun v hv => by
    obtain ⟨a, i, j, rfl, ha⟩ := hvs v hv
    obtain ⟨a', o, x, y, t, u, c, ea, e1, e2⟩ := pr2_of (I.hok a _ ha)
    cases ea
    obtain ⟨o1, o2⟩ := old a o (nl ha) e1
    exact ⟨⟨a, o, x, y, t, u, c, rfl, o1, e2⟩, fun z => by cases z; exact Nat.lt_irrefl _ o2⟩
  have g : MeetsIn X.prog X.w (Builtin.«list.sort» ⟨[.ref D], []⟩) (fun _ R s => (s.heap.get? D = some (seqObj "list" vs.toArray 0) ∧ ∀ v ∈ vs, Pr2 s.heap v) ∧ ∀ out : List Value, out.Perm vs → R (.ok (.ret .none)) { s with heap := sortedHeap s.heap D vs out.toArray }) :=
    fun A R s ⟨⟨g1, g3⟩, g2⟩ => sort_pairs g1 (by omega) g3 (fun v hv => (hpr v hv).2) fun out a => g2 out a
  refine call_meetsIn PySem.F.slot_list_sort ⟨_, hD, rfl⟩ PySem.F.entry_list_sort (PySem.F.args_list_sort_1 _) g ⟨⟨hD, fun v hv => (hpr v hv).1⟩, fun out hp => ?_⟩
  have hDL : D ≠ X.env.locals := (N _ (List.Mem.head _)).2.1
  have hDn : H D = none := by
    cases z : H D with
    | none => rfl
    | some o =>
      obtain ⟨ob, eb⟩ := (I.hok D o z).there
      exact absurd (old D ob hDL eb).2 (Nat.lt_irrefl _)
  have new : ∀ b o, b ≠ X.env.locals → s.heap.get? b = some o → (sortedHeap h' D vs out.toArray).get? b = some o := fun b o nb eb => by
    obtain ⟨h1, h2⟩ := old b o nb eb
    rw [sortedHeap_old (Nat.ne_of_lt h2) (Heap.lt_size h1)]
    exact h1
  obtain ⟨e', hD'⟩ := sortedHeap_at (out := out.toArray) hD
  have hns : ∀ m', s.heap.Ns X.env.locals m' → (sortedHeap h' D vs out.toArray).Ns X.env.locals m' := fun m' hm => by
    have em : m' = m := by
      obtain ⟨o1, es1, ep1, a1, b1, _, c1⟩ := hm
      obtain ⟨o2, es2, ep2, a2, b2, _, c2⟩ := hn
      rw [a1] at a2
      cases a2
      rw [b1] at b2
      cases b2
      funext y
      rw [← c1, ← c2]
    subst em
    obtain ⟨o1, es1, ep1, a1, r1⟩ := F.ns
    exact ⟨o1, es1, ep1, by rw [sortedHeap_old hDL.symm (Heap.lt_size a1)]; exact a1, r1⟩
  have nn : ∀ {b : Addr} {o : HO}, H b = some o → b ≠ D := fun h z => by subst z; rw [hDn] at h; cases h
  obtain ⟨us, vu, lu, hu⟩ := pairs_vals (H := H) (out := out) fun v hv => hvs v (hp.mem_iff.mp hv)
  have lo := hp.length_eq
  refine ⟨.ref D, upd H D (.lst us), show Inv X pins σ _ { s with heap := sortedHeap h' D vs out.toArray, gens := s.gens, drawn := s.drawn, toks := tk } from I.step (g' := s.gens) (d' := s.drawn) (t' := tk) (ch := []) (fun _ z => nomatch z) (fun b o nb _ _ eb _ => new b o nb eb) (fun b o nb _ _ eb _ => ⟨o.slots, new b o nb eb⟩) (fun b o _ eb hb => ?_) (fun b o _ eb => ?_)
    (fun b xs hb => by rw [upd_ne (nn hb)]; exact hb) (fun b o u hb => by rw [upd_ne (nn hb)]; exact hb) (fun b ps hb => ⟨#[], by rw [upd_ne (nn hb), hb]; simp⟩) hns (fun b o hb => ?_) I.bare, rfl, q D us hDn (by omega) hu⟩
  · by_cases hbD : b = D
    · subst hbD
      by_cases hbL : b = X.env.locals
      · exact absurd hbL hDL
      · exact absurd (old b o hbL eb).2 (Nat.lt_irrefl _)
    · rw [upd_ne hbD]
      exact hb
  · by_cases hbL : b = X.env.locals
    · subst hbL
      obtain ⟨o1, es1, ep1, a1, r1⟩ := hns m hn
      exact ⟨o1, a1⟩
    · exact ⟨o, new b o hbL eb⟩
  · by_cases hbD : b = D
    · subst hbD
      rw [upd_same] at hb
      cases hb
      exact ⟨by omega, out, e', vu, hD'⟩
    · rw [upd_ne hbD] at hb
      refine (I.hok b o hb).stay (fun c v hc ev => ?_) (fun c hc => by rw [upd_ne (nn hc)]; exact hc) fun c xs hc => by rw [upd_ne (nn hc)]; exact hc
      rcases hc with hc | hc
      · subst hc
        exact new c v (nl hb) ev
      · exact new c v (nl hc) ev
/-! ### len(d) -/
noncomputable def cLenDT : List V → Hp → VK → Prop := fun vs H Q => on1 vs fun x => onRef x fun p => ∃ kvs : List (List Key × V), H p = some (.dT kvs) ∧ Q (.int kvs.length) H
theorem call_lenDT {X : Cx} : CallR X (.builtin "len") cLenDT := fun pins s σ H xs us Q I r h => by
  obtain ⟨x, rfl, h1⟩ := on1_is h
  obtain ⟨p, rfl, kvs, e, q⟩ := onRef_of h1
  obtain ⟨u, rfl, ru⟩ := vals1 r
  cases ru
  obtain ⟨z, ha, xs0, kt, oa, es, ep, a1, a2, a3, a4, _⟩ := dt_of I.hok e
  have l1 : es.size = xs0.length := size_of_entries a4
  have l0 := kt.len
  refine ent_len ha ⟨oa, a1, a2, a3⟩ (by rw [sizeLine_eq] at z; omega) ?_
  exact ⟨.int kvs.length, H, I.tok _, ⟨_, by rw [show kvs.length = es.size by omega]⟩, q⟩
/-! ### d != {} -/
noncomputable def cNeT0 : R2 := fun x y H Q => onRef x fun a => onRef y fun b => ∃ kvs : List (List Key × V), H a = some (.dT kvs) ∧ H b = some (.dT []) ∧ Q (.bl (!kvs.isEmpty)) H
section
variable {P : Program} {W : World} {A : Around} {E : Value → Shared → Prop} {s : Shared} {a b : Addr} {es fs : Array DictEntry} {ep fp : Nat}
theorem ne_sizes {Q : Value → Shared → Prop} (ha : (a == sysModules) = false) (hb : (b == sysModules) = false) (xa : EntAt s.heap a es ep) (xb : EntAt s.heap b fs fp) (hu : A.units < cLine) (ne : es.size ≠ fs.size) (q : Q (.bool true) s) :
    wpAny (model P W) A (compareOp .NotEq (.ref a) (.ref b)) Q E s := by
  obtain ⟨o, a1, a2, a3⟩ := id xa
  obtain ⟨o', b1, b2, b3⟩ := id xb
  refine wpAny_richCompare_same_room (op := .NotEq) xa.ty xb.ty F.slot_dict_ne (wpAny_call_entry F.slot_dict_ne xa.ty F.entry_dict_ne ?_ (F.args_dict_ne_2 _ _)) hu
  show wpAny _ _ (Builtin.Dict.dictSlotArgs "__ne__" ⟨[.ref a, .ref b], []⟩ >>= fun _ => _) _ _ s
  refine wpAny_bind ?_
  unfold Builtin.Dict.dictSlotArgs
  refine wpAny_bind (wpAny_notOrdered_dict xa.ty ?_)
  show wpAny _ _ (pure (Value.ref a, Value.ref b)) _ _ _
  refine wpAny_pure (wpAny_bind (wpAny_isInstance (T := "dict") xb.ty F.sub_dict_dict ?_))
  simp only [Bool.not_true, Bool.false_eq_true, if_false]
  refine wpAny_bind (wpAny_pure (wpAny_bind (wpAny_pure (wpAny_bind ?_))))
  unfold Builtin.Dict.samePairs Builtin.Dict.showsAll
  rw [if_neg (fun z => by rw [ha] at z; cases z), if_neg (fun z => by rw [hb] at z; cases z)]
  refine wpAny_bind (wpAny_pure (wpAny_bind (wpAny_pure (wpAny_bind (wpAny_dictEntries a1 a3 ?_)))))
  dsimp only
  refine wpAny_bind (wpAny_dictEntries b1 b3 ?_)
  rw [if_pos (by simpa using ne)]
  refine wpAny_bind (wpAny_rule (wpAny_pure ?_))
  exact wpAny_pure ⟨_, rfl, (fun x => nomatch x), by simpa using q⟩
end
theorem op_neT0 {X : Cx} (hu : X.A.units < cLine) : OpR X (compareOp .NotEq) cNeT0 := fun pins s σ H x y v u Q I rx ry h => by
  obtain ⟨a, rfl, h1⟩ := onRef_of h
  obtain ⟨b, rfl, kvs, ea, eb, q⟩ := onRef_of h1
  cases rx
  cases ry
  obtain ⟨_, ha, xs0, kt, oa, es, ep, a1, a2, a3, a4, _⟩ := dt_of I.hok ea
  obtain ⟨_, hb, ys0, ku, ob, fs, fp, b1, b2, b3, b4, _⟩ := dt_of I.hok eb
  have l1 : es.size = xs0.length := size_of_entries a4
  have l0 := kt.len
  have l2 : fs.size = ys0.length := size_of_entries b4
  have l3 := ku.len
  rw [List.length_nil] at l3
  have lf : fs = #[] := Array.size_eq_zero_iff.mp (by omega)
  subst lf
  cases kvs with
  | nil =>
    have e0 : es = #[] := Array.size_eq_zero_iff.mp (by simp at l0; omega)
    subst e0
    refine PySem.W.keq_ne (ka := []) (kb := []) (r := true) (knd := mixKind X.prog X.w) ha hb ⟨oa, #[], ep, a1, a2, a3, fun e he => by simp at he, .nil, List.nodup_nil⟩ ⟨ob, #[], fp, b1, b2, b3, fun e he => by simp at he, .nil, List.nodup_nil⟩ hu (fun _ => .nil) (fin_bl I q rfl)
  | cons kv kvs => exact ne_sizes ha hb ⟨oa, a1, a2, a3⟩ ⟨ob, b1, b2, b3⟩ hu (by show es.size ≠ 0; rw [List.length_cons] at l0; omega) (fin_bl I q rfl)
theorem op_ne2 {X : Cx} {k : Nat} (K : PySem.W.Frag) (hK : X.K = K) (hr : Room k X.A) : OpR X (compareOp .NotEq) (cNeA K 2) := by
  subst hK
  exact op_neA 2 (hu_n hr (by decide))
/-! ### d != its copy -/
noncomputable def cNeDS : R2 := fun x y H Q => onRef x fun a => onRef y fun b => ∃ kvs : List (Key × V), H a = some (.dK kvs) ∧ H b = some (.dK kvs) ∧ (∀ kv ∈ kvs, ∃ c, kv.2 = .ref c ∧ valV kvs kv.1 = some (.ref c)) ∧ Q (.bl false) H
theorem hits_same {P : Program} {W : World} {A : Around} {s : Shared} {kb : List (Key × V)} {vb : List (Key × Value)} (rb : KV kb vb) :
    ∀ {ka : List (Key × V)} {va : List (Key × Value)}, KV ka va → (∀ kv ∈ ka, ∃ c, kv.2 = .ref c ∧ valV kb kv.1 = some (.ref c)) → PySem.W.KeqHits A s vb va true := by
  intro ka va ra
  unfold KV at ra
  induction ra with
  | nil => intro _; exact .nil
  | @cons p q ps qs h t ih =>
    intro fa
    obtain ⟨k, v⟩ := p
    obtain ⟨k', u⟩ := q
    obtain ⟨rfl, rv⟩ : k = k' ∧ RelV v u := h
    obtain ⟨c, e1, e2⟩ := fa (k, v) (by simp)
    dsimp only at e1 e2
    subst e1
    cases rv
    have hv := rb.val k
    rw [e2] at hv
    obtain ⟨z, ez, rz⟩ := RelO.some_of hv
    cases rz
    exact .hit (e := true) (b := true) ez (SeqAt.EqAt.same _) (ih fun kv hkv => fa kv (List.mem_cons_of_mem _ hkv))
theorem op_neDS {X : Cx} (hu : X.A.units < cLine) : OpR X (compareOp .NotEq) cNeDS := fun pins s σ H x y v u Q I rx ry h => by
  obtain ⟨a, rfl, h1⟩ := onRef_of h
  obtain ⟨b, rfl, kvs, ea, eb, hs, q⟩ := onRef_of h1
  cases rx
  cases ry
  obtain ⟨_, ha, va, ka, da⟩ := dk_of I.hok ea
  obtain ⟨_, hb, vb, kb, db⟩ := dk_of I.hok eb
  have l1 := ka.length
  have l2 := kb.length
  refine PySem.W.keq_ne (r := true) (knd := mixKind X.prog X.w) ha hb da db hu (fun _ => hits_same (P := X.prog) (W := X.w) kb ka hs) ?_
  rw [show (va.length == vb.length) = true by simp; omega]
  exact fin_bl I q rfl
/-! ### range with a step -/
noncomputable def Itg (lo c : Int) (n : Nat) : It := ⟨fun i _ => i < n, fun i H x H' => H' = H ∧ x = .int (lo + i * c), fun i _ => n ≤ i⟩
theorem turn_rangeS {P : Program} {w : World} {K : PySem.W.Frag} {tg : Expr} (it : Addr) (lo c : Int) (n : Nat) : Turn P w K tg (Itg lo c n) [it] it (fun i h => IsRangeIter h it (lo + (i : Nat) * c) ((n : Int) - (i : Nat)) c) where
  mem := by simp
  obj := fun i h st b hb => by
    have e : b = it := by simpa using hb
    subst e
    exact ⟨_, st, fun v z => by
      have z' : Data.fields _ = Data.cell v := z
      cases z'⟩
  keep := fun i h h' st k => k it (by simp) _ st
  item := by
    intro X hP hw hK hc i pins s σ H E I hf st hg
    subst hP hw hK
    obtain ⟨f0, f1, f2, f3, f4, f5⟩ := hf it (by simp)
    have W := Walks.range (prog := X.prog) (w := X.w) (I.ok.hd hc) it lo c n
    refine W.item i s _ _ hg st fun v h' tk hv st' kk => ?_
    obtain ⟨t, rfl⟩ := hv
    have I1 : Inv X pins σ H { s with heap := h', toks := tk } := I.turned (fun b o hb e => kk b o (by simpa using hb) e) f0 f1 f3 f4 f5
    exact ⟨_, rfl, go_of (s := { s with heap := h', toks := tk }) (n := "range_iterator") st' rfl rfl (by decide) ⟨.int (lo + i * c), H, I1, ⟨t, rfl⟩, ⟨rfl, rfl⟩, st', fun b hb => (hf b hb).1⟩⟩
  done := by
    intro X hP hw hK hc i pins s σ H E I hf st hg
    subst hP hw hK
    obtain ⟨f0, f1, f2, f3, f4, f5⟩ := hf it (by simp)
    exact wpAny_pyNext_range_end (I.ok.hd hc) st (by have : n ≤ i := hg; omega) fun h' eb => ⟨rfl, I.turned (t' := s.toks) (fun b o hb e => eb b o hb e) f0 f1 f3 f4 f5⟩
  self := fun _ _ _ _ _ st h => wpAny_pyIter_rangeiter st h
noncomputable def iRng3 (lo hi c : Int) (n : Nat) (ta : TA) : TI := fun σ H R => ta σ H fun vs H1 => vs = [.int lo, .int hi, .int c] ∧ R (Itg lo c n) H1
section
variable {X : Cx} {tg : Expr}
theorem pi_range3 {lo hi c : Int} {n : Nat} {x y z : Expr} {ta : TA} {p pos : Pos} (hc : c ≠ 0) (hn : Builtin.Range.rangeSize lo hi c = n) (hs : Builtin.Range.small lo hi c = true) (hp : Builtin.divisionGoesByPylong (hi - lo) c = false)
    (hg : Gl X "range") (hm : X.mg "range" = none) (ha : PA X [x, y, z] ta) (e1 : starEach [x, y, z] X.env = [(false, eval x X.env), (false, eval y X.env), (false, eval z X.env)] := by rfl) (e2 : starEach [y, z] X.env = [(false, eval y X.env), (false, eval z X.env)] := by rfl) :
    PI X tg (.Call (.Name "range" p) [x, y, z] [] pos) (iRng3 lo hi c n ta) := by
  intro pins s σ H R I h
  refine Call_ (ld_blt I hg hm boot_range (PyProof.Rows.callWith_type1 (thn (ha pos pins s σ H _ I h) fun us s1 ⟨vs, H1, I1, r1, q1⟩ => ?_) (by rw [e1, e2]) (by rw [e2]; rfl)))
  obtain ⟨e, q⟩ := q1
  subst e
  cases r1 with
  | cons r rr =>
    cases rr with
    | cons r' rr =>
      cases rr with
      | cons r'' rr =>
        cases rr
        obtain ⟨t, rfl⟩ := r
        obtain ⟨t', rfl⟩ := r'
        obtain ⟨t'', rfl⟩ := r''
        refine call_range_3 hc ?_ (.inl hp)
        refine wpAny_pyIter_range (IsRange.new ..) hs ?_
        have I2 : Inv X pins σ H1 { s1 with heap := s1.heap.push { cls := .type "range", data := .fields #[.int lo t, .int hi t', .int c t''] } } := I1.kept (t' := s1.toks) fun b o e => Heap.get?_push_of_some _ e
        refine ⟨(s1.heap.push { cls := .type "range", data := .fields #[.int lo t, .int hi t', .int c t''] }).objs.size, [(s1.heap.push { cls := .type "range", data := .fields #[.int lo t, .int hi t', .int c t''] }).objs.size], _, _, H1, rfl,
          I2.kept (t' := s1.toks) fun b o e => Heap.get?_push_of_some _ e, turn_rangeS _ lo c n, ?_, fun b hb => ?_, q⟩
        · show IsRangeIter _ _ (lo + ((0 : Nat) : Int) * c) ((n : Int) - ((0 : Nat) : Int)) c
          rw [show lo + ((0 : Nat) : Int) * c = lo by simp, show (n : Int) - ((0 : Nat) : Int) = Builtin.Range.rangeSize lo hi c by rw [hn]; simp]
          exact Heap.get?_push_size _ rfl
        · have e : b = (s1.heap.push { cls := .type "range", data := .fields #[.int lo t, .int hi t', .int c t''] }).objs.size := by simpa using hb
          subst e
          exact I2.fpOk (Nat.le_refl _) (I2.hok.fresh (Nat.le_refl _))
end
section
variable {σ : St} {H : Hp} {D : Ends} {g : TG} {tb : TS} {as : TA} {Q : VK} {a b : Addr} {p : Addr}
theorem e_forR3 {lo hi c : Int} {n : Nat} : tFor (iRng3 lo hi c n as) g tb D σ H = as σ H fun vs H1 => vs = [.int lo, .int hi, .int c] ∧ lp (Itg lo c n) g tb D σ H1 := rfl
theorem for_rangeS {lo c : Int} {n : Nat} (Pv : Nat → St → Hp → Prop) (h0 : Pv 0 σ H)
    (hs : ∀ i σ H, i < n → Pv i σ H → g (.int (lo + i * c)) σ H fun σ2 H2 => tb { D with nx := Pv (i + 1), ct := Pv (i + 1), bk := D.nx } σ2 H2) (hd : ∀ σ H, Pv n σ H → D.nx σ H) : lp (Itg lo c n) g tb D σ H := by
  refine ⟨fun i m σ H => m = n - i ∧ i ≤ n ∧ Pv i σ H, ⟨n, by simp, Nat.zero_le _, h0⟩, ?_⟩
  rintro i m σ H ⟨rfl, hi, p⟩
  by_cases hlt : i < n
  · refine .inr ⟨hlt, Pv (i + 1), fun σ' H' p' => ⟨n - (i + 1), by omega, rfl, hlt, p'⟩, fun x H' y => ?_⟩
    obtain ⟨e, y⟩ := y
    subst e y
    exact hs i σ _ hlt p
  · have e : i = n := by omega
    subst e
    exact .inl ⟨Nat.le_refl _, hd σ H p⟩
theorem e_sortT : cSortT [.ref p] H Q = ∃ kvs : List (List Key × V), H p = some (.dT kvs) ∧ kvs.length < 64 ∧ (∀ kv ∈ kvs, ∃ i j : Int, kv.1 = [.inl i, .inl j]) ∧
  ∀ (l : Addr) (us : List V), H l = none → us.length = kvs.length → (∀ u ∈ us, ∃ (a : Addr) (i j : Int), u = .ref a ∧ H a = some (.tup [.int i, .int j])) → Q (.ref l) (upd H l (.lst us)) := rfl
theorem e_neT0 : cNeT0 (.ref a) (.ref b) H Q = ∃ kvs : List (List Key × V), H a = some (.dT kvs) ∧ H b = some (.dT []) ∧ Q (.bl (!kvs.isEmpty)) H := rfl
theorem e_neDS : cNeDS (.ref a) (.ref b) H Q = ∃ kvs : List (Key × V), H a = some (.dK kvs) ∧ H b = some (.dK kvs) ∧ (∀ kv ∈ kvs, ∃ c, kv.2 = .ref c ∧ valV kvs kv.1 = some (.ref c)) ∧ Q (.bl false) H := rfl
theorem e_disp {trs : List (TE × TE)} : tDisp trs σ H Q = ∀ p, H p = none → tPairs trs σ (upd H p (.dK [])) fun ps H2 => H2 p = some (.dK []) ∧ ∃ kvs : List (Key × V), ps = kvs.map (fun kv => (kV kv.1, kv.2)) ∧ kvs.length ≤ 15 ∧ Q (.ref p) (upd H2 p (.dK (mergeK [] kvs))) := rfl
theorem e_lenDT : cLenDT [.ref p] H Q = ∃ kvs : List (List Key × V), H p = some (.dT kvs) ∧ Q (.int kvs.length) H := rfl
end
end L2
namespace Own
open PySem L2
seal PE PA PT PW PS PSs PI PG PGs PTs PO
noncomputable def top (i : Nat) : Stmt := PySem.Challenge.pw_outlast_k71_each_order_once.main.body.getD i (.Pass ⟨0, 0, 0, 0⟩)
noncomputable abbrev s_kept : Stmt := top 2
noncomputable abbrev s_numberof : Stmt := top 4
noncomputable abbrev s_Workerinit : Stmt := inClass (top 6) 0
noncomputable abbrev s_Workerdo : Stmt := inClass (top 6) 1
noncomputable abbrev s_Workeranswerof : Stmt := inClass (top 6) 2
noncomputable abbrev s_Workerdeeds : Stmt := inClass (top 6) 3
noncomputable abbrev s_lawcellat : Stmt := top 8
noncomputable abbrev s_lawtake : Stmt := top 9
noncomputable abbrev s_lawmade : Stmt := top 10
noncomputable abbrev s_lawtoldright : Stmt := top 11
noncomputable abbrev s_lawnumber : Stmt := top 12
noncomputable abbrev s_lawunlikeorders : Stmt := top 13
noncomputable abbrev s_law : Stmt := top 14
set_option genInjectivity false in
set_option genSizeOf false in
structure Ad where
  akept : Addr
  dkept : FuncData
  anumberof : Addr
  dnumberof : FuncData
  aWorkerinit : Addr
  dWorkerinit : FuncData
  aWorkerdo : Addr
  dWorkerdo : FuncData
  aWorkeranswerof : Addr
  dWorkeranswerof : FuncData
  aWorkerdeeds : Addr
  dWorkerdeeds : FuncData
  alawcellat : Addr
  dlawcellat : FuncData
  alawtake : Addr
  dlawtake : FuncData
  alawmade : Addr
  dlawmade : FuncData
  alawtoldright : Addr
  dlawtoldright : FuncData
  alawnumber : Addr
  dlawnumber : FuncData
  alawunlikeorders : Addr
  dlawunlikeorders : FuncData
  alaw : Addr
  dlaw : FuncData
  kGREATESTWORTH : Tok
  CWorker : Addr
structure Tx (K : PySem.W.Frag) (mg : Str → Option Value) (t : Ad) : Prop where
  fkept : Fun K "kept" "kept" s_kept t.akept t.dkept
  bkept : Binds K t.dkept ["number"] []
  mkept : mg "kept" = some (.ref t.akept)
  fnumberof : Fun K "number_of" "number_of" s_numberof t.anumberof t.dnumberof
  bnumberof : Binds K t.dnumberof ["worth"] []
  mnumberof : mg "number_of" = some (.ref t.anumberof)
  fWorkerinit : Fun K "__init__" "Worker.__init__" s_Workerinit t.aWorkerinit t.dWorkerinit
  bWorkerinit : Binds K t.dWorkerinit ["self", "trade"] []
  meWorkerinit : Meth K t.CWorker "__init__" t.aWorkerinit
  fWorkerdo : Fun K "do" "Worker.do" s_Workerdo t.aWorkerdo t.dWorkerdo
  bWorkerdo : Binds K t.dWorkerdo ["self", "run", "ticket", "work", "worth"] []
  meWorkerdo : Meth K t.CWorker "do" t.aWorkerdo
  fWorkeranswerof : Fun K "answer_of" "Worker.answer_of" s_Workeranswerof t.aWorkeranswerof t.dWorkeranswerof
  bWorkeranswerof : Binds K t.dWorkeranswerof ["self", "work", "worth"] []
  meWorkeranswerof : Meth K t.CWorker "answer_of" t.aWorkeranswerof
  fWorkerdeeds : Fun K "deeds" "Worker.deeds" s_Workerdeeds t.aWorkerdeeds t.dWorkerdeeds
  bWorkerdeeds : Binds K t.dWorkerdeeds ["self"] []
  meWorkerdeeds : Meth K t.CWorker "deeds" t.aWorkerdeeds
  flawcellat : Fun K "_law_cell_at" "_law_cell_at" s_lawcellat t.alawcellat t.dlawcellat
  blawcellat : Binds K t.dlawcellat ["script", "k"] []
  mlawcellat : mg "_law_cell_at" = some (.ref t.alawcellat)
  flawtake : Fun K "_law_take" "_law_take" s_lawtake t.alawtake t.dlawtake
  blawtake : Binds K t.dlawtake ["deck", "many"] []
  mlawtake : mg "_law_take" = some (.ref t.alawtake)
  flawmade : Fun K "_law_made" "_law_made" s_lawmade t.alawmade t.dlawmade
  blawmade : Binds K t.dlawmade ["trade", "deeds", "work", "worth"] []
  mlawmade : mg "_law_made" = some (.ref t.alawmade)
  flawtoldright : Fun K "_law_told_right" "_law_told_right" s_lawtoldright t.alawtoldright t.dlawtoldright
  blawtoldright : Binds K t.dlawtoldright ["worker", "deeds"] []
  mlawtoldright : mg "_law_told_right" = some (.ref t.alawtoldright)
  flawnumber : Fun K "_law_number" "_law_number" s_lawnumber t.alawnumber t.dlawnumber
  blawnumber : Binds K t.dlawnumber ["deck", "small"] []
  mlawnumber : mg "_law_number" = some (.ref t.alawnumber)
  flawunlikeorders : Fun K "_law_unlike_orders" "_law_unlike_orders" s_lawunlikeorders t.alawunlikeorders t.dlawunlikeorders
  blawunlikeorders : Binds K t.dlawunlikeorders [] []
  mlawunlikeorders : mg "_law_unlike_orders" = some (.ref t.alawunlikeorders)
  flaw : Fun K "law" "law" s_law t.alaw t.dlaw
  blaw : Binds K t.dlaw ["script"] []
  mlaw : mg "law" = some (.ref t.alaw)
  clWorker : Cls K t.CWorker
  mWorker : mg "Worker" = some (.ref t.CWorker)
  mkWorker : Mk K t.CWorker t.aWorkerinit
  natrade : NoAttr K t.CWorker "trade"
  naknown : NoAttr K t.CWorker "known"
  nacounts : NoAttr K t.CWorker "counts"
  narecords : NoAttr K t.CWorker "records"
  cGREATESTWORTH : mg "GREATEST_WORTH" = some (.int 1000000000 t.kGREATESTWORTH)
  zbool : mg "bool" = none
  zdict : mg "dict" = none
  zisinstance : mg "isinstance" = none
  zlen : mg "len" = none
  zlist : mg "list" = none
  zmax : mg "max" = none
  zmin : mg "min" = none
  zrange : mg "range" = none
  zsorted : mg "sorted" = none
theorem sc_kept : FnScope ["number"] ["number"] (defScope s_kept) := ⟨rfl, rfl, rfl, by decide +kernel, rfl, by decide +kernel, by decide +kernel⟩
theorem sc_numberof : FnScope ["worth"] ["worth"] (defScope s_numberof) := ⟨rfl, rfl, rfl, by decide +kernel, rfl, by decide +kernel, by decide +kernel⟩
theorem sc_Workerinit : FnScope ["self", "trade"] ["self", "trade"] (defScope s_Workerinit) := ⟨rfl, rfl, rfl, by decide +kernel, rfl, by decide +kernel, by decide +kernel⟩
theorem sc_Workerdo : FnScope ["self", "run", "ticket", "work", "worth", "answer"] ["self", "run", "ticket", "work", "worth"] (defScope s_Workerdo) := ⟨rfl, rfl, rfl, by decide +kernel, rfl, by decide +kernel, by decide +kernel⟩
theorem sc_Workeranswerof : FnScope ["self", "work", "worth", "way"] ["self", "work", "worth"] (defScope s_Workeranswerof) := ⟨rfl, rfl, rfl, by decide +kernel, rfl, by decide +kernel, by decide +kernel⟩
theorem sc_Workerdeeds : FnScope ["self"] ["self"] (defScope s_Workerdeeds) := ⟨rfl, rfl, rfl, by decide +kernel, rfl, by decide +kernel, by decide +kernel⟩
theorem sc_lawcellat : FnScope ["script", "k"] ["script", "k"] (defScope s_lawcellat) := ⟨rfl, rfl, rfl, by decide +kernel, rfl, by decide +kernel, by decide +kernel⟩
theorem sc_lawtake : FnScope ["deck", "many", "come", "number"] ["deck", "many"] (defScope s_lawtake) := ⟨rfl, rfl, rfl, by decide +kernel, rfl, by decide +kernel, by decide +kernel⟩
theorem sc_lawmade : FnScope ["trade", "deeds", "work", "worth"] ["trade", "deeds", "work", "worth"] (defScope s_lawmade) := ⟨rfl, rfl, rfl, by decide +kernel, rfl, by decide +kernel, by decide +kernel⟩
theorem sc_lawtoldright : FnScope ["worker", "deeds", "told"] ["worker", "deeds"] (defScope s_lawtoldright) := ⟨rfl, rfl, rfl, by decide +kernel, rfl, by decide +kernel, by decide +kernel⟩
theorem sc_lawnumber : FnScope ["deck", "small", "far", "way"] ["deck", "small"] (defScope s_lawnumber) := ⟨rfl, rfl, rfl, by decide +kernel, rfl, by decide +kernel, by decide +kernel⟩
theorem sc_lawunlikeorders : FnScope ["worker", "some", "k"] [] (defScope s_lawunlikeorders) := ⟨rfl, rfl, rfl, by decide +kernel, rfl, by decide +kernel, by decide +kernel⟩
theorem sc_law : FnScope ["script", "head", "vast", "trade", "handed", "workers", "deeds", "known", "held", "cell", "deck", "who", "both", "work", "worth", "come"] ["script"] (defScope s_law) := ⟨rfl, rfl, rfl, by decide +kernel, rfl, by decide +kernel, by decide +kernel⟩

theorem w_K {CX : CXT} {P : Program} {w : World} {K : PySem.W.Frag} {mg : Str → Option Value} {base : Heap} {N : List Str} {q : Str} {sc : Scope} {f : Addr} {cd : Value} {A : Around} {o : List Env} {s : Shared} {H : Hp} {E : XK} : (cxOf CX P w K mg base N q sc f cd A o s H E).K = K := rfl
theorem w_Kn {CX : CXT} {P : Program} {w : World} {K : PySem.W.Frag} {mg : Str → Option Value} {base : Heap} {N : List Str} {q : Str} {sc : Scope} {f : Addr} {cd : Value} {A : Around} {o : List Env} {s : Shared} {H : Hp} {E : XK} : (cxOf CX P w K mg base N q sc f cd A o s H E).nox.K = K := rfl
theorem small {n : Nat} (h : n ≤ 1000) : n ≤ sizeLine := Nat.le_of_lt (small1000 h)
theorem mulOk {i j : Int} (h0 : -(2 ^ 64) < i) (h1 : i < 2 ^ 64) : CMul i j := .inl ⟨h0, h1⟩
/-- None or a whole number, as a worth -/
noncomputable abbrev Wo := Option Int
noncomputable def wv : Wo → V
  | none => .non
  | some n => .int n
noncomputable def num (w : Wo) : Int := w.getD 0
theorem wv_non (w : Wo) : (wv w = .non) = (w = none) := by cases w <;> simp [wv]
/-- a number within the worths, or the end that it is beyond -/
noncomputable def clamp (n : Int) : Int := if (if n < 1000000000 then n else 1000000000) > -1000000000 then (if n < 1000000000 then n else 1000000000) else -1000000000
noncomputable def spKept : Sp := fun vs H Q _ => ∃ n : Int, vs = [.int n] ∧ Q (.int (clamp n)) H
theorem q_kept {n : Int} {H : Hp} {Q : VK} {E : XK} : spKept [.int n] H Q E = Q (.int (clamp n)) H := propext ⟨fun ⟨_, e, h⟩ => by cases e; exact h, fun h => ⟨_, rfl, h⟩⟩
/-- a deed: the order's run and ticket, its work and worth, the answer -/
structure Deed where
  r : Int
  t : Int
  k : Str
  w : Wo
  a : Wo
noncomputable def Deed.vs (d : Deed) : List V := [.int d.r, .int d.t, .str d.k, wv d.w, wv d.a]
noncomputable abbrev Trd := List (Str × Option Int)
noncomputable def cnt (k : Str) (ds : List Deed) : Nat := (ds.filter fun d => decide (d.k = k)).length
noncomputable def made (L : Trd) (n : Int) (k : Str) (w : Wo) : Wo := match L.lookup k with
  | none => none
  | some none => some n
  | some (some m) => some (clamp (num w + m))
noncomputable def look (ds : List Deed) (r t : Int) : Option Wo := (ds.find? fun d => decide (d.r = r ∧ d.t = t)).map (·.a)
noncomputable def knK (ds : List Deed) : List (List Key × V) := ds.map fun d => ([.inl d.r, .inl d.t], wv d.a)
noncomputable def ans (L : Trd) (ds : List Deed) (r t : Int) (k : Str) (w : Wo) : Wo := match look ds r t with
  | some a => a
  | none => made L ((cnt k ds : Nat) + 1) k w
noncomputable def stp (L : Trd) (ds : List Deed) (r t : Int) (k : Str) (w : Wo) : List Deed := match look ds r t with
  | some _ => ds
  | none => ds ++ [⟨r, t, k, w, made L ((cnt k ds : Nat) + 1) k w⟩]
theorem kn_val (ds : List Deed) (r t : Int) : valV (knK ds) [.inl r, .inl t] = (look ds r t).map wv := by
  induction ds with
  | nil => rfl
  | cons d ds ih =>
    have e : knK (d :: ds) = ([Key.inl d.r, .inl d.t], wv d.a) :: knK ds := rfl
    rw [e]
    by_cases h : d.r = r ∧ d.t = t
    · obtain ⟨rfl, rfl⟩ := h
      rw [valV_pos rfl]
      simp [look]
    · rw [valV_neg (fun z => h (by simpa using z)), ih]
      simp [look, List.find?_cons, h]
theorem kn_put {ds : List Deed} {r t : Int} (h : look ds r t = none) (k : Str) (w a : Wo) : putK (knK ds) [.inl r, .inl t] (wv a) = knK (ds ++ [⟨r, t, k, w, a⟩]) := by
  rw [putK_new (wv a) (by rw [kn_val, h]; rfl)]
  simp [knK]
theorem look_snoc {ds : List Deed} {r t : Int} (h : look ds r t = none) (k : Str) (w a : Wo) : look (ds ++ [⟨r, t, k, w, a⟩]) r t = some a := by
  unfold look at *
  rw [List.find?_append]
  rw [Option.map_eq_none_iff] at h
  rw [h]
  simp
theorem look_old {ds : List Deed} {r t r' t' : Int} {k : Str} {w a : Wo} (h : ¬ (r = r' ∧ t = t')) : look (ds ++ [⟨r, t, k, w, a⟩]) r' t' = look ds r' t' := by
  unfold look
  rw [List.find?_append]
  simp [List.find?_cons, h]
theorem look_none {ds : List Deed} {r t : Int} (h : ∀ d ∈ ds, ¬ (d.r = r ∧ d.t = t)) : look ds r t = none := by
  unfold look
  rw [Option.map_eq_none_iff, List.find?_eq_none]
  intro d hd
  simpa using h d hd
theorem cnt_snoc (k : Str) (ds : List Deed) (d : Deed) : cnt k (ds ++ [d]) = cnt k ds + (if d.k = k then 1 else 0) := by
  unfold cnt
  rw [List.filter_append, List.length_append]
  by_cases h : d.k = k <;> simp [h]
theorem kn_len (ds : List Deed) : (knK ds).length = ds.length := List.length_map ..
/-- a trade's pairs -/
inductive TrK (H : Hp) : List (Key × V) → Trd → Prop
  | nil : TrK H [] []
  | cnt {k : Str} {c : Addr} {kvs : List (Key × V)} {L : Trd} : H c = some (.tup [.str "count"]) → TrK H kvs L → TrK H ((.inr k, .ref c) :: kvs) ((k, none) :: L)
  | sum {k : Str} {c : Addr} {m : Int} {kvs : List (Key × V)} {L : Trd} : H c = some (.tup [.str "sum", .int m]) → TrK H kvs L → TrK H ((.inr k, .ref c) :: kvs) ((k, some m) :: L)
theorem TrK.kt {H H' : Hp} {kvs : List (Key × V)} {L : Trd} (h : TrK H kvs L) (k : ∀ b xs, H b = some (.tup xs) → H' b = some (.tup xs)) : TrK H' kvs L := by
  induction h with
  | nil => exact .nil
  | cnt e _ ih => exact .cnt (k _ _ e) ih
  | sum e _ ih => exact .sum (k _ _ e) ih
inductive TrV (H : Hp) (L : Trd) (k : Str) : Option V → Prop
  | none : L.lookup k = Option.none → TrV H L k Option.none
  | cnt {c : Addr} : L.lookup k = some Option.none → H c = some (.tup [.str "count"]) → TrV H L k (some (.ref c))
  | sum {c : Addr} {m : Int} : L.lookup k = some (some m) → H c = some (.tup [.str "sum", .int m]) → TrV H L k (some (.ref c))
theorem TrK.val {H : Hp} {kvs : List (Key × V)} {L : Trd} (h : TrK H kvs L) (k : Str) : TrV H L k (valV kvs (.inr k)) := by
  induction h with
  | nil => exact .none rfl
  | @cnt k' c kvs L e _ ih =>
    by_cases hk : k = k'
    · subst hk
      rw [valV_pos rfl]
      exact .cnt (by simp [List.lookup]) e
    · rw [valV_neg (fun z => hk (by cases z; rfl))]
      have el : List.lookup k ((k', none) :: L) = L.lookup k := by simp [List.lookup, beq_eq_false_iff_ne.mpr hk]
      generalize valV kvs (.inr k) = z at ih
      cases ih with
      | none x => exact .none (by rw [el]; exact x)
      | cnt x y => exact .cnt (by rw [el]; exact x) y
      | sum x y => exact .sum (by rw [el]; exact x) y
  | @sum k' c m kvs L e _ ih =>
    by_cases hk : k = k'
    · subst hk
      rw [valV_pos rfl]
      exact .sum (by simp [List.lookup]) e
    · rw [valV_neg (fun z => hk (by cases z; rfl))]
      have el : List.lookup k ((k', some m) :: L) = L.lookup k := by simp [List.lookup, beq_eq_false_iff_ne.mpr hk]
      generalize valV kvs (.inr k) = z at ih
      cases ih with
      | none x => exact .none (by rw [el]; exact x)
      | cnt x y => exact .cnt (by rw [el]; exact x) y
      | sum x y => exact .sum (by rw [el]; exact x) y
noncomputable def TrAt (H : Hp) (d : Addr) (L : Trd) : Prop := ∃ kvs, H d = some (.dK kvs) ∧ TrK H kvs L
/-- deeds, each by a tuple -/
inductive DsAt (H : Hp) : List V → List Deed → Prop
  | nil : DsAt H [] []
  | cons {a : Addr} {d : Deed} {us : List V} {ds : List Deed} : H a = some (.tup d.vs) → DsAt H us ds → DsAt H (.ref a :: us) (d :: ds)
theorem DsAt.kt {H H' : Hp} {us : List V} {ds : List Deed} (h : DsAt H us ds) (k : ∀ b xs, H b = some (.tup xs) → H' b = some (.tup xs)) : DsAt H' us ds := by
  induction h with
  | nil => exact .nil
  | cons e _ ih => exact .cons (k _ _ e) ih
theorem DsAt.len {H : Hp} {us : List V} {ds : List Deed} (h : DsAt H us ds) : us.length = ds.length := by
  induction h with
  | nil => rfl
  | cons _ _ ih => simp [ih]
theorem DsAt.snoc {H : Hp} {us : List V} {ds : List Deed} {a : Addr} {d : Deed} (h : DsAt H us ds) (e : H a = some (.tup d.vs)) : DsAt H (us ++ [.ref a]) (ds ++ [d]) := by
  induction h with
  | nil => exact .cons e .nil
  | cons x _ ih => exact .cons x ih
theorem DsAt.at {H : Hp} {us : List V} {ds : List Deed} (h : DsAt H us ds) : ∀ {i : Nat} {v : V}, us[i]? = some v → ∃ a d, v = .ref a ∧ ds[i]? = some d ∧ H a = some (.tup d.vs) := by
  induction h with
  | nil => intro i v e; simp at e
  | cons x _ ih =>
    intro i v e
    cases i with
    | zero => simp only [List.getElem?_cons_zero, Option.some.injEq] at e; subst e; exact ⟨_, _, rfl, rfl, x⟩
    | succ i => exact ih (by simpa using e)
theorem wv_self {K : PySem.W.Frag} {H : Hp} {n : Nat} (w : Wo) : EqA K H n (wv w) (wv w) true := by
  cases w with
  | none => exact EqA.flat (K := K) (H := H) (n := n) (x := .non) (y := .non) rfl rfl
  | some i => exact int_self i
theorem vs_self {K : PySem.W.Frag} {H : Hp} {n : Nat} (d : Deed) : ∀ v ∈ d.vs, EqA K H n v v true := fun v hv => by
  simp only [Deed.vs, List.mem_cons, List.not_mem_nil, or_false] at hv
  rcases hv with rfl | rfl | rfl | rfl | rfl
  · exact int_self _
  · exact int_self _
  · exact str_self _
  · exact wv_self _
  · exact wv_self _
theorem ds_eq {K : PySem.W.Frag} {H : Hp} {a b : Addr} {us vs : List V} {ds : List Deed} (ea : H a = some (.lst us)) (eb : H b = some (.lst vs)) (ha : DsAt H us ds) (hb : DsAt H vs ds) : RcA K H 2 a b true := by
  have := RcA.list (K := K) (H := H) (n := 1) (e := fun _ => true) (SqL.of ea) (SqL.of eb) (by rw [ha.len, hb.len]) fun j x y e1 e2 => by
    obtain ⟨c, d, rfl, ed, hc⟩ := ha.at e1
    obtain ⟨c', d', rfl, ed', hc'⟩ := hb.at e2
    rw [ed] at ed'
    cases ed'
    exact EqA.pair hc hc' rfl fun i u v f1 f2 => by
      rw [f1] at f2
      cases f2
      exact vs_self d u (List.mem_of_getElem? f1)
  rwa [show (List.range us.length).all (fun _ => true) = true by simp [List.all_eq_true]] at this
theorem nil_eq {K : PySem.W.Frag} {H : Hp} {a b : Addr} {n : Nat} (ea : H a = some (.lst [])) (eb : H b = some (.lst [])) : RcA K H (n + 1) a b true :=
  .list (n := n) (xs := []) (ys := []) (e := fun _ => true) (SqL.of ea) (SqL.of eb) rfl (fun j x y h1 _ => by simp at h1)
/-- a worker stands at x -/
structure WAt (C : Addr) (H : Hp) (x dx tr kn ct rc : Addr) (L : Trd) (ds : List Deed) : Prop where
  ins : H x = some (.ins C dx [("trade", .ref tr), ("known", .ref kn), ("counts", .ref ct), ("records", .ref rc)])
  htr : TrAt H tr L
  hkn : H kn = some (.dT (knK ds))
  hct : ∃ cs, H ct = some (.dK cs) ∧ cs.length ≤ ds.length ∧ ∀ k : Str, (valV cs (.inr k)).getD (.int 0) = .int (cnt k ds : Nat)
  hrc : ∃ us, H rc = some (.lst us) ∧ DsAt H us ds
  few : ds.length ≤ 1000
  ne : tr ≠ ct
theorem tup_kp {S : List Addr} {H H' : Hp} (k : Kp S H H') (n : ∀ b ∈ S, ∀ xs, H b ≠ some (.tup xs)) : ∀ b xs, H b = some (.tup xs) → H' b = some (.tup xs) := fun b xs e => k b _ e fun z => n b z xs e
theorem TrAt.kp {S : List Addr} {H H' : Hp} {d : Addr} {L : Trd} (h : TrAt H d L) (k : Kp S H H') (n : d ∉ S) (t : ∀ b xs, H b = some (.tup xs) → H' b = some (.tup xs)) : TrAt H' d L := by
  obtain ⟨kvs, e, r⟩ := h
  exact ⟨kvs, k _ _ e n, r.kt t⟩
theorem tup_nil {H H' : Hp} (k : Kp [] H H') : ∀ b xs, H b = some (.tup xs) → H' b = some (.tup xs) := fun b xs e => k b _ e (by simp)
theorem WAt.kp {S : List Addr} {C : Addr} {H H' : Hp} {x dx tr kn ct rc : Addr} {L : Trd} {ds : List Deed} (W : WAt C H x dx tr kn ct rc L ds) (k : Kp S H H') (t : ∀ b xs, H b = some (.tup xs) → H' b = some (.tup xs)) (n0 : x ∉ S) (n1 : tr ∉ S) (n2 : kn ∉ S) (n3 : ct ∉ S) (n4 : rc ∉ S) : WAt C H' x dx tr kn ct rc L ds := by
  obtain ⟨cs, c1, c2⟩ := W.hct
  obtain ⟨us, u1, u2⟩ := W.hrc
  exact ⟨k _ _ W.ins n0, W.htr.kp k n1 t, k _ _ W.hkn n2, ⟨cs, k _ _ c1 n3, c2⟩, ⟨us, k _ _ u1 n4, u2.kt t⟩, W.few, W.ne⟩
theorem WAt.kp0 {C : Addr} {H H' : Hp} {x dx tr kn ct rc : Addr} {L : Trd} {ds : List Deed} (W : WAt C H x dx tr kn ct rc L ds) (k : Kp [] H H') : WAt C H' x dx tr kn ct rc L ds :=
  W.kp k (tup_nil k) (by simp) (by simp) (by simp) (by simp) (by simp)
theorem put2 {H : Hp} {x p : Addr} {o o' u : HO} (hx : H x = some u) (hp : H p = none) : upd (upd H p o) x o' x = some o' ∧ upd (upd H p o) x o' p = some o ∧ Kp [x] H (upd (upd H p o) x o') ∧ x ≠ p := by
  have n : x ≠ p := ne_of_none hx hp
  exact ⟨upd_same, by rw [upd_ne n.symm]; exact upd_same, (Kp.new hp).trans (Kp.set (by simp)), n⟩
noncomputable def spAns (C : Addr) : Sp := fun vs H Q _ => ∃ (x dx tr kn ct rc : Addr) (L : Trd) (cs : List (Key × V)) (k : Str) (w : Wo) (n : Int), vs = [.ref x, .str k, wv w] ∧ H x = some (.ins C dx [("trade", .ref tr), ("known", .ref kn), ("counts", .ref ct), ("records", .ref rc)]) ∧ TrAt H tr L ∧
  H ct = some (.dK cs) ∧ valV cs (.inr k) = some (.int n) ∧ Q (wv (made L n k w)) H
noncomputable def spDo (C : Addr) : Sp := fun vs H Q _ => ∃ (x dx tr kn ct rc : Addr) (L : Trd) (ds : List Deed) (r t : Int) (k : Str) (w : Wo), vs = [.ref x, .int r, .int t, .str k, wv w] ∧ WAt C H x dx tr kn ct rc L ds ∧ ds.length < 1000 ∧
  ∀ H', WAt C H' x dx tr kn ct rc L (stp L ds r t k w) → Kp [kn, ct, rc] H H' → Q (wv (ans L ds r t k w)) H'
noncomputable def spDeeds (C : Addr) : Sp := fun vs H Q _ => ∃ (x dx tr kn ct rc : Addr) (L : Trd) (ds : List Deed), vs = [.ref x] ∧ WAt C H x dx tr kn ct rc L ds ∧ ∀ (l : Addr) (us : List V), H l = none → DsAt H us ds → Q (.ref l) (upd H l (.lst us))
noncomputable def spWInit (C : Addr) : Sp := fun vs H Q _ => ∃ (x dx d : Addr) (L : Trd), vs = [.ref x, .ref d] ∧ H x = some (.ins C dx []) ∧ TrAt H d L ∧ ∀ (tr kn ct rc : Addr) (H' : Hp), H tr = none → H kn = none → H ct = none → H rc = none → WAt C H' x dx tr kn ct rc L [] → Kp [x] H H' → Q .non H'
noncomputable def spNumO : Sp := fun vs H Q _ => ∃ w : Wo, vs = [wv w] ∧ Q (.int (num w)) H
theorem q_numO {w : Wo} {H : Hp} {Q : VK} {E : XK} : spNumO [wv w] H Q E = Q (.int (num w)) H := by
  refine propext ⟨fun ⟨u, e, h⟩ => ?_, fun h => ⟨w, rfl, h⟩⟩
  cases w <;> cases u <;> cases e <;> exact h
theorem q_numI {i : Int} {H : Hp} {Q : VK} {E : XK} : spNumO [.int i] H Q E = Q (.int i) H := q_numO (w := some i)

theorem wv_int {i : Int} : wv (some i) = .int i := rfl
/-- a deck of draws stands at r -/
structure DeckAt (H : Hp) (r : Addr) (n : Nat) : Prop where
  ex : ∃ c m s : Int, H r = some (.lst [.int c, .int m, .int s]) ∧ 0 ≤ s ∧ s ≤ n
theorem DeckAt.kp {H H' : Hp} {r : Addr} {n : Nat} (R : DeckAt H r n) (h : Kp [] H H') : DeckAt H' r n := by
  obtain ⟨c, m, s, e, x⟩ := R
  exact ⟨c, m, s, h _ _ e (by simp), x⟩
theorem DeckAt.new {H : Hp} {r p : Addr} {o : HO} {n : Nat} (R : DeckAt H r n) (h : H p = none) : DeckAt (upd H p o) r n := R.kp (Kp.new h)
theorem DeckAt.none {H : Hp} {r p : Addr} {n : Nat} (R : DeckAt H r n) (h : H p = Option.none) : p ≠ r := by
  obtain ⟨c, m, s, e, _⟩ := R
  exact (ne_of_none e h).symm
theorem modOk {i M : Int} (h : 0 < M) (h' : M ≤ 2 ^ 62) (j : Int) : CMul (i % M) j := by
  have := Int.emod_nonneg i (show M ≠ 0 by omega)
  have := Int.emod_lt_of_pos i h
  exact .inl ⟨by omega, by omega⟩
theorem ix32 : ixN 3 2 = some 2 := rfl
noncomputable def spDTake : Sp := fun vs H Q _ => ∃ (r : Addr) (m : Int) (n : Nat), vs = [.ref r, .int m] ∧ 0 < m ∧ m ≤ 10 ^ 45 ∧ DeckAt H r n ∧ n ≤ 1000 ∧ ∀ (g : Int) (H' : Hp), 0 ≤ g → g < m → DeckAt H' r (n + 1) → Kp [r] H H' → Q (.int g) H'
noncomputable def spDNum : Sp := fun vs H Q _ => ∃ (r : Addr) (m : Int) (n : Nat), vs = [.ref r, .int m] ∧ 0 < m ∧ m ≤ 10 ^ 45 ∧ DeckAt H r n ∧ n ≤ 900 ∧ ∀ (g : Int) (H' : Hp), DeckAt H' r (n + 5) → Kp [r] H H' → Q (.int g) H'
theorem q_dtake {r : Addr} {m : Int} {H : Hp} {Q : VK} {E : XK} : spDTake [.ref r, .int m] H Q E = (0 < m ∧ m ≤ 10 ^ 45 ∧ ∃ n, DeckAt H r n ∧ n ≤ 1000 ∧ ∀ (g : Int) (H' : Hp), 0 ≤ g → g < m → DeckAt H' r (n + 1) → Kp [r] H H' → Q (.int g) H') :=
  propext ⟨fun ⟨_, _, n, e, a, b, c⟩ => by cases e; exact ⟨a, b, n, c⟩, fun ⟨a, b, n, c⟩ => ⟨_, _, n, rfl, a, b, c⟩⟩
theorem q_dnum {r : Addr} {m : Int} {H : Hp} {Q : VK} {E : XK} : spDNum [.ref r, .int m] H Q E = (0 < m ∧ m ≤ 10 ^ 45 ∧ ∃ n, DeckAt H r n ∧ n ≤ 900 ∧ ∀ (g : Int) (H' : Hp), DeckAt H' r (n + 5) → Kp [r] H H' → Q (.int g) H') :=
  propext ⟨fun ⟨_, _, n, e, a, b, c⟩ => by cases e; exact ⟨a, b, n, c⟩, fun ⟨a, b, n, c⟩ => ⟨_, _, n, rfl, a, b, c⟩⟩
theorem made1 {r p : Addr} {H H' : Hp} {o : HO} {n : Nat} (x : Kp [r] (upd H p o) H') (R : DeckAt H r n) (h : H p = none) : H' p = some o := x.at1 upd_same (R.none h)
noncomputable def spCell (K : PySem.W.Frag) : Sp := fun vs H Q _ => ∃ (a : Addr) (ns : List Int), vs = [.ref a, .int 0] ∧ SqL K H a (ns.map V.int) ∧ ns.length ≤ 63 ∧ ∀ z : Int, Q (.int z) H
noncomputable def spMade : Sp := fun vs H Q _ => ∃ (d l : Addr) (L : Trd) (us : List V) (ds : List Deed) (k : Str) (w : Wo), vs = [.ref d, .ref l, .str k, wv w] ∧ TrAt H d L ∧ H l = some (.lst us) ∧ DsAt H us ds ∧ ds.length ≤ 1000 ∧ ∀ H', Kp [] H H' → Q (wv (made L ((cnt k ds : Nat) + 1) k w)) H'
noncomputable def spRight (C : Addr) : Sp := fun vs H Q _ => ∃ (x dx tr kn ct rc l : Addr) (L : Trd) (ds : List Deed) (us : List V), vs = [.ref x, .ref l] ∧ WAt C H x dx tr kn ct rc L ds ∧ H l = some (.lst us) ∧ DsAt H us ds ∧ ∀ H', Kp [] H H' → Q (.bl true) H'
noncomputable def spUn : Sp := fun vs H Q _ => vs = [] ∧ ∀ H', Q (.bl true) H'

noncomputable abbrev prs : List (Int × Int) := [(1, 10), (11, 0), (110, 0), (0, 110), (1, 0), (0, 1), (0, 64), (128, 0), (10, 0), (0, 10), (1, 100), (0, 1000), (1000, 0), (0, 256), (2, 0), (0, 2), (1000000, 0), (0, 1000000), (1, 1), (0, 0)]
noncomputable abbrev L0 : Trd := [("cnt", none), ("tally", none), ("sum", some 1)]
inductive PsAt (H : Hp) : List V → List (Int × Int) → Prop
  | nil : PsAt H [] []
  | cons {a : Addr} {i j : Int} {us : List V} {ps : List (Int × Int)} : H a = some (.tup [.int i, .int j]) → PsAt H us ps → PsAt H (.ref a :: us) ((i, j) :: ps)
theorem PsAt.kt {H H' : Hp} {us : List V} {ps : List (Int × Int)} (h : PsAt H us ps) (k : ∀ b xs, H b = some (.tup xs) → H' b = some (.tup xs)) : PsAt H' us ps := by
  induction h with
  | nil => exact .nil
  | cons e _ ih => exact .cons (k _ _ e) ih
theorem PsAt.len {H : Hp} {us : List V} {ps : List (Int × Int)} (h : PsAt H us ps) : us.length = ps.length := by
  induction h with
  | nil => rfl
  | cons _ _ ih => simp [ih]
theorem PsAt.at {H : Hp} {us : List V} {ps : List (Int × Int)} (h : PsAt H us ps) : ∀ {i : Nat}, i < ps.length → ∃ a x y, us[i]? = some (.ref a) ∧ ps[i]? = some (x, y) ∧ H a = some (.tup [.int x, .int y]) := by
  induction h with
  | nil => intro i e; exact absurd e (by simp)
  | cons x _ ih =>
    intro i e
    cases i with
    | zero => exact ⟨_, _, _, rfl, rfl, x⟩
    | succ i => exact ih (by simpa using e)
/-- the deeds of the first k turns of the first loop, and of the first m of the second -/
structure Und (k m : Nat) (ds : List Deed) : Prop where
  len : ds.length = 2 * k + m
  c1 : cnt "cnt" ds = k
  c2 : cnt "tally" ds = k
  keys : ∀ d ∈ ds, (∃ j, j < k ∧ prs[j]? = some (d.r, d.t)) ∨ (∃ j : Nat, j < k ∧ d.r = 7777 + j ∧ d.t = j) ∨ (∃ j : Nat, j < m ∧ d.r = 2000 + (j : Int) / 20 ∧ d.t = 30 + (j : Int) % 20)
  old : ∀ j x y, j < k → prs[j]? = some (x, y) → look ds x y = some (some ((j : Int) + 1))
  new : ∀ j : Nat, j < m → look ds (2000 + (j : Int) / 20) (30 + (j : Int) % 20) = some (some ((j : Int) + 1))
theorem prs_far : ∀ p ∈ prs, p.1 < 2000 ∨ 10000 < p.1 := by decide
theorem prs_nd : prs.Nodup := by decide
theorem prs_one {i j : Nat} {p : Int × Int} (h : prs[i]? = some p) (h' : prs[j]? = some p) : i = j :=
  (List.getElem?_inj (List.getElem?_eq_some_iff.mp h).1 prs_nd).mp (h.trans h'.symm)
theorem Und.nil : Und 0 0 [] := ⟨rfl, rfl, rfl, by simp, by simp, by simp⟩
theorem str_ne {a b : String} (h : a ≠ b) : (Str.ofString a : Str) ≠ Str.ofString b := fun z => h (by rwa [w_sinj] at z)
theorem Und.one {k : Nat} {ds : List Deed} {x y : Int} (U : Und k 0 ds) (hk : prs[k]? = some (x, y)) : look ds x y = none ∧ ans L0 ds x y "cnt" (some (k : Int)) = some ((k : Int) + 1) ∧ stp L0 ds x y "cnt" (some (k : Int)) = ds ++ [⟨x, y, "cnt", some (k : Int), some ((k : Int) + 1)⟩] := by
  have hkl : k < 20 := (List.getElem?_eq_some_iff.mp hk).1
  have hn : look ds x y = none := look_none fun d hd ⟨e1, e2⟩ => by
    have far := prs_far _ (List.mem_of_getElem? hk)
    rcases U.keys d hd with ⟨j, hj, e⟩ | ⟨j, hj, e, _⟩ | ⟨j, hj, _⟩
    · rw [e1, e2] at e
      have := prs_one hk e
      omega
    · rw [e1] at e
      dsimp only at far
      omega
    · omega
  have hm : made L0 ((cnt "cnt" ds : Nat) + 1) "cnt" (some (k : Int)) = some ((k : Int) + 1) := by
    rw [U.c1]
    simp [made, L0, List.lookup]
  exact ⟨hn, by simp only [ans, hn, hm], by simp only [stp, hn, hm]⟩
theorem Und.two {k : Nat} {ds : List Deed} {x y : Int} (U : Und k 0 ds) (hk : prs[k]? = some (x, y)) : ans L0 (ds ++ [⟨x, y, "cnt", some (k : Int), some ((k : Int) + 1)⟩]) (7777 + k) k "tally" (some (k : Int)) = some ((k : Int) + 1) ∧
    Und (k + 1) 0 (stp L0 (ds ++ [⟨x, y, "cnt", some (k : Int), some ((k : Int) + 1)⟩]) (7777 + k) k "tally" (some (k : Int))) := by
  obtain ⟨h0, _, _⟩ := U.one hk
  have far := prs_far _ (List.mem_of_getElem? hk)
  dsimp only at far
  have ne1 : ¬ ((("cnt" : Str)) = "tally") := str_ne (by decide)
  have ne2 : ¬ ((("tally" : Str)) = "cnt") := str_ne (by decide)
  have hkl : k < 20 := (List.getElem?_eq_some_iff.mp hk).1
  have hn : look (ds ++ [⟨x, y, "cnt", some (k : Int), some ((k : Int) + 1)⟩]) (7777 + k) k = none := by
    rw [look_old (by omega)]
    refine look_none fun d hd ⟨e1, e2⟩ => ?_
    rcases U.keys d hd with ⟨j, hj, e⟩ | ⟨j, hj, e, _⟩ | ⟨j, hj, _⟩
    · have := prs_far _ (List.mem_of_getElem? e)
      dsimp only at this
      omega
    · omega
    · omega
  have hm : made L0 ((cnt "tally" (ds ++ [⟨x, y, "cnt", some (k : Int), some ((k : Int) + 1)⟩]) : Nat) + 1) "tally" (some (k : Int)) = some ((k : Int) + 1) := by
    rw [cnt_snoc, if_neg ne1, U.c2]
    simp [made, L0, List.lookup, beq_eq_false_iff_ne.mpr ne2]
  refine ⟨by simp only [ans, hn, hm], ?_⟩
  rw [show stp L0 (ds ++ [⟨x, y, "cnt", some (k : Int), some ((k : Int) + 1)⟩]) (7777 + k) k "tally" (some (k : Int)) = ds ++ [⟨x, y, "cnt", some (k : Int), some ((k : Int) + 1)⟩] ++ [⟨7777 + k, k, "tally", some (k : Int), some ((k : Int) + 1)⟩] by simp only [stp, hn, hm]]
  refine ⟨by simp [U.len]; omega, by rw [cnt_snoc, cnt_snoc, U.c1, if_pos rfl, if_neg ne2], by rw [cnt_snoc, cnt_snoc, U.c2, if_neg ne1, if_pos rfl], fun d hd => ?_, fun j x' y' hj e => ?_, fun j hj => absurd hj (by omega)⟩
  · simp only [List.mem_append, List.mem_singleton] at hd
    rcases hd with (hd | rfl) | rfl
    · rcases U.keys d hd with ⟨j, hj, e⟩ | ⟨j, hj, e⟩ | ⟨j, hj, _⟩
      · exact .inl ⟨j, by omega, e⟩
      · exact .inr (.inl ⟨j, by omega, e⟩)
      · omega
    · exact .inl ⟨k, by omega, hk⟩
    · exact .inr (.inl ⟨k, by omega, rfl, rfl⟩)
  · have far' := prs_far _ (List.mem_of_getElem? e)
    dsimp only at far'
    rw [look_old (by omega)]
    by_cases hjk : j = k
    · subst hjk
      rw [hk] at e
      cases e
      exact look_snoc h0 _ _ _
    · rw [look_old (fun z => hjk ?_)]
      · exact U.old j x' y' (by omega) e
      · obtain ⟨rfl, rfl⟩ := z
        exact prs_one e hk
theorem Und.three {m : Nat} {ds : List Deed} (U : Und 20 m ds) (hm : m < 320) : ans L0 ds (2000 + (m : Int) / 20) (30 + (m : Int) % 20) "sum" (some (m : Int)) = some ((m : Int) + 1) ∧
    Und 20 (m + 1) (stp L0 ds (2000 + (m : Int) / 20) (30 + (m : Int) % 20) "sum" (some (m : Int))) := by
  have hn : look ds (2000 + (m : Int) / 20) (30 + (m : Int) % 20) = none := look_none fun d hd ⟨e1, e2⟩ => by
    rcases U.keys d hd with ⟨j, hj, e⟩ | ⟨j, hj, e, _⟩ | ⟨j, hj, e, f⟩
    · have := prs_far _ (List.mem_of_getElem? e)
      dsimp only at this
      omega
    · omega
    · omega
  have ne1 : ¬ ((("sum" : Str)) = "cnt") := str_ne (by decide)
  have ne2 : ¬ ((("sum" : Str)) = "tally") := str_ne (by decide)
  have hmd : made L0 ((cnt "sum" ds : Nat) + 1) "sum" (some (m : Int)) = some ((m : Int) + 1) := by
    have el : List.lookup (("sum" : Str)) L0 = some (some 1) := by simp only [L0, List.lookup, beq_eq_false_iff_ne.mpr ne1, beq_eq_false_iff_ne.mpr ne2, beq_self_eq_true]
    have ec : clamp ((m : Int) + 1) = (m : Int) + 1 := by
      unfold clamp
      repeat' split
      all_goals omega
    simp only [made, el, num, Option.getD_some, ec]
  refine ⟨by simp only [ans, hn, hmd], ?_⟩
  rw [show stp L0 ds (2000 + (m : Int) / 20) (30 + (m : Int) % 20) "sum" (some (m : Int)) = ds ++ [⟨2000 + (m : Int) / 20, 30 + (m : Int) % 20, "sum", some (m : Int), some ((m : Int) + 1)⟩] by simp only [stp, hn, hmd]]
  refine ⟨by simp [U.len]; omega, by rw [cnt_snoc, U.c1, if_neg ne1], by rw [cnt_snoc, U.c2, if_neg ne2], fun d hd => ?_, fun j x' y' hj e => ?_, fun j hj => ?_⟩
  · simp only [List.mem_append, List.mem_singleton] at hd
    rcases hd with hd | rfl
    · rcases U.keys d hd with ⟨j, hj, e⟩ | ⟨j, hj, e⟩ | ⟨j, hj, e⟩
      · exact .inl ⟨j, hj, e⟩
      · exact .inr (.inl ⟨j, hj, e⟩)
      · exact .inr (.inr ⟨j, by omega, e⟩)
    · exact .inr (.inr ⟨m, by omega, rfl, rfl⟩)
  · have far := prs_far _ (List.mem_of_getElem? e)
    dsimp only at far
    rw [look_old (by omega)]
    exact U.old j x' y' hj e
  · by_cases hjm : j = m
    · subst hjm
      exact look_snoc hn _ _ _
    · rw [look_old (by omega)]
      exact U.new j (by omega)

theorem none_upd {H : Hp} {a p : Addr} {o : HO} (h : upd H a o p = none) : H p = none := by
  by_cases e : p = a
  · subst e; rw [upd_same] at h; cases h
  · rwa [upd_ne e] at h
theorem make_w {C : Addr} {H1 : Hp} {d : Addr} {L : Trd} {Q : Addr → Hp → Prop} {E : XK} (hT : TrAt H1 d L)
    (q : ∀ x dx tr kn ct rc H', Kp [] H1 H' → WAt C H' x dx tr kn ct rc L [] → H1 x = none → H1 tr = none → H1 kn = none → H1 ct = none → H1 rc = none → Q x H') :
    ∀ x dx, H1 x = none → H1 dx = none → dx ≠ x → spWInit C [.ref x, .ref d] (upd (upd H1 dx (.own x)) x (.ins C dx [])) (fun v H2 => v = .non ∧ Q x H2) E := fun x dx hx hdx ne => by
  have K1 : Kp [] H1 (upd (upd H1 dx (.own x)) x (.ins C dx [])) := (Kp.new hdx).trans (Kp.new (by rw [upd_ne ne.symm]; exact hx))
  refine ⟨x, dx, d, L, rfl, upd_same, hT.kp K1 (by simp) (tup_nil K1), fun tr kn ct rc H' f1 f2 f3 f4 W K => ⟨rfl, ?_⟩⟩
  exact q x dx tr kn ct rc H' (Kp.drop ((K1.mono (by simp)).trans K) hx) W hx (none_upd (none_upd f1)) (none_upd (none_upd f2)) (none_upd (none_upd f3)) (none_upd (none_upd f4))
theorem ps_step {H0 H : Hp} {us : List V} {ps : List (Int × Int)} {q : Addr} {i j : Int} (h : PsAt H us ps ∧ Kp [] H0 H) (hq : H q = none) : PsAt (upd H q (.tup [.int i, .int j])) (us ++ [.ref q]) (ps ++ [(i, j)]) ∧ Kp [] H0 (upd H q (.tup [.int i, .int j])) := by
  obtain ⟨h, k0⟩ := h
  have k := Kp.new (S := []) (o := .tup [.int i, .int j]) hq
  refine ⟨?_, k0.trans k⟩
  have : ∀ {us : List V} {ps : List (Int × Int)}, PsAt H us ps → PsAt (upd H q (.tup [.int i, .int j])) (us ++ [.ref q]) (ps ++ [(i, j)]) := fun {us ps} h => by
    induction h with
    | nil => exact .cons upd_same .nil
    | cons e _ ih => exact .cons (k.at e) ih
  exact this h
theorem PsAt.app {H : Hp} {us vs : List V} {ps qs : List (Int × Int)} (h : PsAt H us ps) (g : PsAt H vs qs) : PsAt H (us ++ vs) (ps ++ qs) := by
  induction h with
  | nil => exact g
  | cons e _ ih => exact .cons e ih
theorem merge3 {a b c : V} : mergeK [] [((.inr "cnt" : Key), a), (.inr "tally", b), (.inr "sum", c)] = [(.inr "cnt", a), (.inr "tally", b), (.inr "sum", c)] := by
  have n1 : ¬ ((("cnt" : Str)) = "tally") := str_ne (by decide)
  have n2 : ¬ ((("cnt" : Str)) = "sum") := str_ne (by decide)
  have n3 : ¬ ((("tally" : Str)) = "sum") := str_ne (by decide)
  simp [mergeK, putK, n1, n2, n3]
theorem merge4 {a b c d : V} : mergeK [] [((.inr "sum" : Key), a), (.inr "vast", b), (.inr "cnt", c), (.inr "tally", d)] = [(.inr "sum", a), (.inr "vast", b), (.inr "cnt", c), (.inr "tally", d)] := by
  have n1 : ¬ ((("sum" : Str)) = "vast") := str_ne (by decide)
  have n2 : ¬ ((("sum" : Str)) = "cnt") := str_ne (by decide)
  have n3 : ¬ ((("sum" : Str)) = "tally") := str_ne (by decide)
  have n4 : ¬ ((("vast" : Str)) = "cnt") := str_ne (by decide)
  have n5 : ¬ ((("vast" : Str)) = "tally") := str_ne (by decide)
  have n6 : ¬ ((("cnt" : Str)) = "tally") := str_ne (by decide)
  simp [mergeK, putK, n1, n2, n3, n4, n5, n6]
theorem val4 {a b c d : Addr} : ∀ kv ∈ [((.inr "sum" : Key), (.ref a : V)), (.inr "vast", .ref b), (.inr "cnt", .ref c), (.inr "tally", .ref d)], ∃ p, kv.2 = .ref p ∧ valV [((.inr "sum" : Key), (.ref a : V)), (.inr "vast", .ref b), (.inr "cnt", .ref c), (.inr "tally", .ref d)] kv.1 = some (.ref p) := by
  have n1 : ¬ ((("sum" : Str)) = "vast") := str_ne (by decide)
  have n2 : ¬ ((("sum" : Str)) = "cnt") := str_ne (by decide)
  have n3 : ¬ ((("sum" : Str)) = "tally") := str_ne (by decide)
  have n4 : ¬ ((("vast" : Str)) = "cnt") := str_ne (by decide)
  have n5 : ¬ ((("vast" : Str)) = "tally") := str_ne (by decide)
  have n6 : ¬ ((("cnt" : Str)) = "tally") := str_ne (by decide)
  intro kv hkv
  simp only [List.mem_cons, List.not_mem_nil, or_false] at hkv
  rcases hkv with rfl | rfl | rfl | rfl <;> exact ⟨_, rfl, by simp [valV, List.find?_cons, n1, n2, n3, n4, n5, n6]⟩

theorem ne_self {y : Wo} {H : Hp} {Q : VK} : rNe (wv y) (wv y) H Q = Q (.bl false) H := by
  cases y with
  | none => simp only [wv, rNe, show scal .non .non = true from rfl, decide_true, Bool.not_true, true_and]
  | some i => simp only [wv, rNe, show scal (.int i) (.int i) = true from rfl, decide_true, Bool.not_true, true_and]
theorem isi_wv {y : Wo} {H : Hp} {Q : VK} : cIsi [wv y, .ty "bool"] H Q = Q (.bl false) H := by
  cases y with
  | none => exact e_isi_bool_non
  | some i => exact e_isi_bool_int
theorem look_stp (L : Trd) (ds : List Deed) (r t : Int) (k : Str) (w : Wo) : look (stp L ds r t k w) r t = some (ans L ds r t k w) := by
  unfold stp ans
  cases h : look ds r t with
  | some x => exact h
  | none => exact look_snoc h _ _ _
theorem stp_len (L : Trd) (ds : List Deed) (r t : Int) (k : Str) (w : Wo) : (stp L ds r t k w).length ≤ ds.length + 1 := by
  unfold stp
  split
  · omega
  · simp
theorem cat_t {H : Hp} {Q : VK} {a : Addr} {xs ys : List V} (h1 : xs ≠ []) (h2 : ys ≠ []) (hl : xs.length + ys.length ≤ sizeLine) (q : ∀ p, H p = none → Q (.ref p) (upd H p (.tup (xs ++ ys)))) : cCat H Q a (some (.tup xs)) (some (.tup ys)) := ⟨h1, hl, fun _ => q, fun z => absurd z h2⟩
/-- the two workers with what the law keeps of each -/
structure Fam where
  x : Bool → Addr
  dx : Bool → Addr
  tr : Bool → Addr
  kn : Bool → Addr
  ct : Bool → Addr
  rc : Bool → Addr
  kk : Bool → Addr
  dd : Bool → Addr
  d : Addr
  hl : Addr
  wl : Addr
  dl : Addr
  kl : Addr
noncomputable def Fam.mut (F : Fam) : List Addr := [F.rc false, F.rc true, F.dd false, F.dd true, F.hl]
noncomputable def Held (M : List Addr) (G : Hp) (v : V) : Prop := ∃ (p q r : Addr) (us vs : List V) (ds : List Deed), v = .ref p ∧ G p = some (.lst [.ref q, .ref r]) ∧ G q = some (.lst us) ∧ G r = some (.lst vs) ∧ DsAt G us ds ∧ DsAt G vs ds ∧ p ∉ M ∧ q ∉ M ∧ r ∉ M
structure Fam.Sep (F : Fam) : Prop where
  nkk : ∀ b c, F.kn b ≠ F.kk c
  kn : ∀ b c, b ≠ c → F.kn b ≠ F.kn c
  kk : ∀ b c, b ≠ c → F.kk b ≠ F.kk c
  ct : ∀ b c, b ≠ c → F.ct b ≠ F.ct c
  tr : ∀ b c, F.tr b ≠ F.ct c
  d : ∀ c, F.d ≠ F.ct c
  rc : ∀ b c, b ≠ c → F.rc b ≠ F.rc c
  rd : ∀ b c, F.rc b ≠ F.dd c
  dd : ∀ b c, b ≠ c → F.dd b ≠ F.dd c
  hl : ∀ b, F.rc b ≠ F.hl ∧ F.dd b ≠ F.hl
  ls : F.wl ∉ F.mut ∧ F.dl ∉ F.mut ∧ F.kl ∉ F.mut
structure Fam.At (C : Addr) (F : Fam) (L : Trd) (G : Hp) (ds : Bool → List Deed) (hs : List V) (n : Nat) : Prop where
  W : ∀ b, WAt C G (F.x b) (F.dx b) (F.tr b) (F.kn b) (F.ct b) (F.rc b) L (ds b)
  hk : ∀ b, G (F.kk b) = some (.dT (knK (ds b)))
  hd : ∀ b, ∃ us, G (F.dd b) = some (.lst us) ∧ DsAt G us (ds b)
  tr : TrAt G F.d L
  wl : G F.wl = some (.lst [.ref (F.x false), .ref (F.x true)])
  dl : G F.dl = some (.lst [.ref (F.dd false), .ref (F.dd true)])
  kl : G F.kl = some (.lst [.ref (F.kk false), .ref (F.kk true)])
  hl : G F.hl = some (.lst hs)
  held : ∀ v ∈ hs, Held F.mut G v
  len : ∀ b, (ds b).length ≤ n
  lh : hs.length ≤ n
noncomputable def Fam.S (F : Fam) (b : Bool) : List Addr := [F.kn b, F.ct b, F.rc b, F.kk b, F.dd b, F.hl]
theorem lst_mut {F : Fam} {b : Bool} {p : Addr} {G : Hp} {us : List V} {ks : List (List Key × V)} {cs : List (Key × V)} {ks' : List (List Key × V)} (hp : G p = some (.lst us)) (h : p ∉ F.mut) (h1 : G (F.kn b) = some (.dT ks)) (h2 : G (F.ct b) = some (.dK cs)) (h3 : G (F.kk b) = some (.dT ks')) : p ∉ F.S b := by
  simp only [Fam.mut, List.mem_cons, List.not_mem_nil, or_false, not_or] at h
  simp only [Fam.S, List.mem_cons, List.not_mem_nil, or_false, not_or]
  exact ⟨ne_of hp h1 (by intro z; cases z), ne_of hp h2 (by intro z; cases z), by cases b; exact h.1; exact h.2.1, ne_of hp h3 (by intro z; cases z), by cases b; exact h.2.2.1; exact h.2.2.2.1, h.2.2.2.2⟩
theorem Held.kp {F : Fam} {M : List Addr} {G G' : Hp} {v : V} (h : Held M G v) (k : ∀ p us, G p = some (.lst us) → p ∉ M → G' p = some (.lst us)) (t : ∀ b xs, G b = some (.tup xs) → G' b = some (.tup xs)) : Held M G' v := by
  obtain ⟨p, q, r, us, vs, ds, e, h1, h2, h3, d1, d2, n1, n2, n3⟩ := h
  exact ⟨p, q, r, us, vs, ds, e, k _ _ h1 n1, k _ _ h2 n2, k _ _ h3 n3, d1.kt t, d2.kt t, n1, n2, n3⟩
theorem Fam.At.kp {C : Addr} {F : Fam} {L : Trd} {G G' : Hp} {ds : Bool → List Deed} {hs : List V} {n : Nat} (A : F.At C L G ds hs n) (k : Kp [] G G') : F.At C L G' ds hs n :=
  ⟨fun b => (A.W b).kp0 k, fun b => k.at (A.hk b), fun b => let ⟨us, e, h⟩ := A.hd b; ⟨us, k.at e, h.kt (tup_nil k)⟩, A.tr.kp k (by simp) (tup_nil k), k.at A.wl, k.at A.dl, k.at A.kl, k.at A.hl,
    fun v hv => (A.held v hv).kp (F := F) (fun p us e _ => k.at e) (tup_nil k), A.len, A.lh⟩
theorem Fam.At.step {C : Addr} {F : Fam} {L : Trd} {G G' : Hp} {ds : Bool → List Deed} {hs : List V} {n : Nat} {b : Bool} {ds' : List Deed} {v : V} (S : F.Sep) (A : F.At C L G ds hs n) (k : Kp (F.S b) G G')
    (W : WAt C G' (F.x b) (F.dx b) (F.tr b) (F.kn b) (F.ct b) (F.rc b) L ds') (hk : G' (F.kk b) = some (.dT (knK ds'))) (hd : ∃ us, G' (F.dd b) = some (.lst us) ∧ DsAt G' us ds') (hh : G' F.hl = some (.lst (hs ++ [v]))) (hv : Held F.mut G' v)
    (ld : ds'.length ≤ (ds b).length + 1) : F.At C L G' (fun c => if c = b then ds' else ds c) (hs ++ [v]) (n + 1) := by
  obtain ⟨cs, c1, c2⟩ := (A.W b).hct
  obtain ⟨us, u1, u2⟩ := (A.W b).hrc
  obtain ⟨vs, v1, v2⟩ := A.hd b
  have kn := (A.W b).hkn
  have kk := A.hk b
  have t : ∀ z xs, G z = some (.tup xs) → G' z = some (.tup xs) := fun z xs hz => k z _ hz (by
    simp only [Fam.S, List.mem_cons, List.not_mem_nil, or_false, not_or]
    exact ⟨ne_of hz kn (by intro z; cases z), ne_of hz c1 (by intro z; cases z), ne_of hz u1 (by intro z; cases z), ne_of hz kk (by intro z; cases z), ne_of hz v1 (by intro z; cases z), ne_of hz A.hl (by intro z; cases z)⟩)
  have ls : ∀ p us, G p = some (.lst us) → p ∉ F.mut → G' p = some (.lst us) := fun p us e h => k p _ e (lst_mut e h kn c1 kk)
  refine ⟨fun c => ?_, fun c => ?_, fun c => ?_, ?_, ls _ _ A.wl S.ls.1, ls _ _ A.dl S.ls.2.1, ls _ _ A.kl S.ls.2.2, hh, fun w hw => ?_, fun c => ?_, ?_⟩
  · by_cases hc : c = b
    · subst hc
      rw [if_pos rfl]
      exact W
    · rw [if_neg hc]
      have Wc := A.W c
      obtain ⟨cs', c1', _⟩ := Wc.hct
      obtain ⟨us', u1', _⟩ := Wc.hrc
      obtain ⟨kvs, t1, _⟩ := Wc.htr
      have kc := Wc.hkn
      refine Wc.kp k t ?_ ?_ ?_ ?_ ?_ <;> simp only [Fam.S, List.mem_cons, List.not_mem_nil, or_false, not_or]
      · exact ⟨ne_of Wc.ins kn (by intro z; cases z), ne_of Wc.ins c1 (by intro z; cases z), ne_of Wc.ins u1 (by intro z; cases z), ne_of Wc.ins kk (by intro z; cases z), ne_of Wc.ins v1 (by intro z; cases z), ne_of Wc.ins A.hl (by intro z; cases z)⟩
      · exact ⟨ne_of t1 kn (by intro z; cases z), S.tr c b, ne_of t1 u1 (by intro z; cases z), ne_of t1 kk (by intro z; cases z), ne_of t1 v1 (by intro z; cases z), ne_of t1 A.hl (by intro z; cases z)⟩
      · exact ⟨S.kn c b hc, ne_of kc c1 (by intro z; cases z), ne_of kc u1 (by intro z; cases z), S.nkk c b, ne_of kc v1 (by intro z; cases z), ne_of kc A.hl (by intro z; cases z)⟩
      · exact ⟨ne_of c1' kn (by intro z; cases z), S.ct c b hc, ne_of c1' u1 (by intro z; cases z), ne_of c1' kk (by intro z; cases z), ne_of c1' v1 (by intro z; cases z), ne_of c1' A.hl (by intro z; cases z)⟩
      · exact ⟨ne_of u1' kn (by intro z; cases z), ne_of u1' c1 (by intro z; cases z), S.rc c b hc, ne_of u1' kk (by intro z; cases z), S.rd c b, (S.hl c).1⟩
  · by_cases hc : c = b
    · subst hc
      rw [if_pos rfl]
      exact hk
    · rw [if_neg hc]
      refine k _ _ (A.hk c) ?_
      simp only [Fam.S, List.mem_cons, List.not_mem_nil, or_false, not_or]
      exact ⟨(S.nkk b c).symm, ne_of (A.hk c) c1 (by intro z; cases z), ne_of (A.hk c) u1 (by intro z; cases z), S.kk c b hc, ne_of (A.hk c) v1 (by intro z; cases z), ne_of (A.hk c) A.hl (by intro z; cases z)⟩
  · by_cases hc : c = b
    · subst hc
      rw [if_pos rfl]
      exact hd
    · rw [if_neg hc]
      obtain ⟨ws, w1, w2⟩ := A.hd c
      refine ⟨ws, k _ _ w1 ?_, w2.kt t⟩
      simp only [Fam.S, List.mem_cons, List.not_mem_nil, or_false, not_or]
      exact ⟨ne_of w1 kn (by intro z; cases z), ne_of w1 c1 (by intro z; cases z), (S.rd b c).symm, ne_of w1 kk (by intro z; cases z), S.dd c b hc, (S.hl c).2⟩
  · obtain ⟨kvs, t1, _⟩ := id A.tr
    refine A.tr.kp k ?_ t
    simp only [Fam.S, List.mem_cons, List.not_mem_nil, or_false, not_or]
    exact ⟨ne_of t1 kn (by intro z; cases z), S.d b, ne_of t1 u1 (by intro z; cases z), ne_of t1 kk (by intro z; cases z), ne_of t1 v1 (by intro z; cases z), ne_of t1 A.hl (by intro z; cases z)⟩
  · rcases List.mem_append.mp hw with hw | hw
    · exact (A.held w hw).kp (F := F) ls t
    · rw [show w = v by simpa using hw]
      exact hv
  · have := A.len c
    by_cases hc : c = b
    · subst hc
      rw [if_pos rfl]
      omega
    · rw [if_neg hc]
      omega
  · have := A.lh
    simp
    omega

theorem cut_ints (ns : List Int) (lo hi : Option Int) : ∃ ms : List Int, cutV (ns.map V.int) lo hi = ms.map V.int ∧ ms.length ≤ ns.length := by
  unfold cutV
  rw [← List.map_drop, ← List.map_take]
  exact ⟨_, rfl, by rw [List.length_take, List.length_drop]; omega⟩
theorem ints_at {ms : List Int} {i : Nat} {y : V} (h : (ms.map V.int)[i]? = some y) : ∃ z : Int, y = .int z := by
  rw [List.getElem?_map] at h
  cases e : ms[i]? with
  | none => rw [e] at h; cases h
  | some z => rw [e] at h; exact ⟨z, (Option.some.inj h).symm⟩
local macro_rules | `(tactic| wp_walk) => `(tactic| wp_walk using true_and)
local macro_rules | `(tactic| wp_walk using $ts,*) => do
  let us ← ts.getElems.mapM fun t => `(Lean.Parser.Tactic.simpLemma| $t:term)
  let vs ← ("↓q_kept ↓q_numO ↓q_numI ↓q_dtake ↓q_dnum ↓e_seq ↓e_asg ↓e_name ↓e_ret ↓e_retN ↓e_ifS ↓e_test ↓e_tB ↓e_if ↓e_op ↓e_un ↓e_c ↓e_cons ↓e_nil ↓e_call ↓e_cb ↓e_lst ↓e_tup ↓e_dnew ↓e_drop ↓e_next ↓e_break ↓e_cont ↓e_andV ↓e_orV ↓e_notV ↓e_and ↓e_or ↓e_not ↓e_chain ↓e_sl ↓e_part ↓e_nopart ↓e_gsub ↓e_gnil ↓e_gcons ↓e_get1 ↓e_get ↓e_put ↓e_app ↓e_pop ↓e_onO ↓e_onB ↓e_onRef ↓e_onInt ↓e_onLst ↓e_onSeqL ↓e_onSeqT ↓e_onDct ↓e_ixR ↓e_ixS ↓e_addI ↓e_addS ↓e_addR ↓e_catL ↓e_slS ↓e_slR ↓e_cutL ↓e_lenS ↓e_lenR ↓e_set ↓e_in ↓e_dict ↓e_keyI ↓e_keyS ↓e_keyN ↓e_at0 ↓e_at1 ↓e_at2 ↓e_at3 ↓e_at4 ↓e_at5 ↓e_at6 ↓e_at7 ↓e_at8 ↓e_at9 ↓e_at10 ↓e_at11 ↓e_at12 ↓e_cmul1 ↓e_cmul2 ↓e_cmul3 ↓e_cmul10 ↓e_cpow6 ↓e_cpow9 ↓e_cpow12 ↓e_cpow18 ↓e_cpow30 ↓e_cpow40 ↓e_cpow45 ↓e_ixN0 ↓e_ixN1 ↓e_intI ↓e_intB ↓e_is ↓e_isnot ↓e_max ↓e_min ↓e_abs ↓e_isi_int_int ↓e_isi_int_bl ↓e_isi_int_str ↓e_isi_int_non ↓e_isi_int_ref ↓e_isi_bool_int ↓e_isi_bool_bl ↓e_isi_bool_str ↓e_isi_bool_non ↓e_isi_bool_ref ↓e_isi_str_int ↓e_isi_str_bl ↓e_isi_str_str ↓e_isi_str_non ↓e_isi_str_ref ↓e_isi_tuple_int ↓e_isi_tuple_bl ↓e_isi_tuple_str ↓e_isi_tuple_non ↓e_isi_tuple_ref ↓e_kl_int ↓e_kt_int ↓e_kl_bool ↓e_kt_bool ↓e_kl_str ↓e_kt_str ↓e_kl_tuple ↓e_kt_tuple ↓e_kd_int ↓e_kd_bool ↓e_kd_str ↓e_chk ↓e_chn ↓e_ite1 ↓e_ite0 ↓e_on1 ↓e_forR1 ↓e_on2 ↓e_forR2 ↓e_forL ↓e_forT ↓e_forV ↓e_compR ↓e_compL ↓e_onStr ↓e_compS ↓e_true ↓e_cs0 ↓e_idx ↓e_eqB ↓e_eqNN ↓e_eqNI ↓e_eqIN ↓e_slLr ↓e_gtup ↓e_c0 ↓e_c1 ↓e_c2 ↓e_neE ↓e_neD ↓e_onTup ↓e_tcat ↓e_eqTE ↓e_cutT ↓e_compD ↓e_rget1 ↓e_rget ↓e_rin ↓e_rpop2 ↓e_dictP ↓e_bm ↓e_tyS ↓e_strI ↓e_strS ↓e_join ↓e_strsV ↓e_split ↓e_neTE ↓e_tupOf ↓e_fmt ↓e_j0 ↓e_j1 ↓e_joined ↓e_estr ↓e_lm ↓e_ext ↓e_pop0 ↓e_truth ↓e_truN ↓e_truB ↓e_truI ↓e_truRef ↓e_truL ↓e_truT ↓e_truD ↓e_never ↓e_compT ↓e_neA ↓e_eqA ↓e_rep ↓e_lstOf ↓e_lenK ↓e_boolsV ↓e_intT ↓e_starts ↓e_ends ↓e_leS ↓e_all ↓e_inK ↓e_onIns ↓e_fld ↓e_setF ↓e_augF ↓e_meth ↓e_make ↓e_lookup ↓e_lookup0 ↓e_putF ↓e_putF0 ↓e_tupF ↓e_tys2 ↓e_isiF ↓e_thaw ↓e_dinC ↓e_dpopC ↓e_dget2C ↓e_dclear ↓e_dsetC ↓e_deed ↓e_getL ↓e_ipA ↓e_augS ↓e_aug ↓e_sortD ↓e_forZ ↓e_forE ↓e_comp2Z ↓e_comp2E ↓e_dictM ↓e_isiL ↓e_lenT ↓e_kll ↓e_klt ↓e_lclear ↓e_neB ↓e_sum ↓e_catS ↓e_rnotin ↓e_rput ↓e_newT ↓e_pairs0 ↓e_pairs ↓e_forR3 ↓e_sortT ↓e_neT0 ↓e_neDS ↓e_disp ↓e_lenDT ↓w_v1 ↓w_v2 ↓w_v3 ↓w_v4 ↓w_v5 ↓w_v6 ↓w_v7 ↓w_v8 ↓w_v9 ↓w_v10 ↓w_v11 ↓w_v12 ↓w_v13 ↓w_v14 ↓w_v15 ↓w_v16 ↓w_v17 ↓w_v18 ↓w_v19 ↓w_v20 ↓w_v21 ↓w_v22 ↓w_v23 ↓w_v24 ↓w_v25 ↓w_v26 ↓w_v27 ↓w_v28 ↓w_v29 ↓w_v30 ↓w_v0s ↓w_rI0 ↓w_rU ↓w_eqI ↓w_eqS ↓w_neI ↓w_neS ↓w_rI ↓upd_same ↓List.set_cons_zero ↓List.set_cons_succ ↓List.getElem?_cons_zero ↓List.getElem?_cons_succ L2.start m_cons m_nil List.cons_append List.nil_append List.append_nil List.replicate_succ List.replicate_zero List.length_cons List.length_nil Nat.reduceAdd Nat.reduceSub Nat.zero_add Nat.add_zero Nat.reduceLeDiff Nat.reducePow Nat.reduceLT true_and and_true false_and and_false forall_const ↓reduceIte w_sinj String.reduceEq Int.reduceToNat Int.reducePow Int.reduceNeg Int.reduceSub Int.reduceAdd Int.reduceMul Int.reduceLT Int.reduceLE Int.reduceEq sizeLine w_K w_Kn decide_true decide_false Bool.not_true Bool.not_false Bool.false_eq_true".splitOn " ").toArray.mapM fun (n : String) => do
    let p := n.splitOn "↓"
    let x := Lean.mkIdent (p.getLastD "").toName
    if p.length = 1 then `(Lean.Parser.Tactic.simpLemma| $x:term) else `(Lean.Parser.Tactic.simpLemma| ↓ $x:term)
  let ws := us ++ vs
  `(tactic| try simp (config := { dsimp := false }) only [$ws,*])

/-- law's promise: a list of at most 63 ints is handed in, True comes out -/
noncomputable def spLaw (K : PySem.W.Frag) : Sp := fun vs H Q _ => ∃ (a : Addr) (ns : List Int), vs = [.ref a] ∧ SqL K H a (ns.map V.int) ∧ ns.length ≤ 63 ∧ ∀ H', Q (.bl true) H'
section
variable {P : Program} {w : World} {K : PySem.W.Frag} {mg : Str → Option Value} {base : Heap}
theorem ok_lawcellat {t : Ad} (T : Tx K mg t) : FnOk P w K mg base CX0 1 t.alawcellat t.dlawcellat ["script", "k"] (spCell K) := by
  refine T.flawcellat.ok sc_lawcellat (fun vs H Q E h => ?_) (fun cdv A outer s H vs Q E hr h => ?_)
  · obtain ⟨a, ns, rfl, _⟩ := h
    rfl
  · obtain ⟨a, ns, rfl, hS, hl, q⟩ := h
    refine ⟨_, (pss_cons (ps_if (pt_cmpR op_lt (pv 1) (pe_callB call_lenK rfl T.zlen bt_len (pa_n (pv 0) pa_nil)) (nomark _)) (pss_one (ps_ret (pe_ix ix_list (pv 0) (pv 1) (fun _ _ => rfl)))) pss_nil)
      (pss_one (ps_ret pe_int))), ?_⟩
    try dsimp only [L2.start, m_cons, m_nil, List.cons_append, List.nil_append, List.replicate_succ, List.replicate_zero, List.length_cons, List.length_nil, Nat.reduceAdd, Nat.reduceSub, Nat.zero_add]
    wp_walk
    refine ⟨_, hS, ?_⟩
    wp_walk
    split
    · next hz =>
      cases ns with
      | nil => exact absurd hz (by simp)
      | cons z ns => exact ⟨a, _, 0, _, rfl, rfl, hS, by rw [e_at0]; rfl, q z⟩
    · exact q 0
theorem ok_Workerinit {t : Ad} (T : Tx K mg t) : FnOk P w K mg base CX0 1 t.aWorkerinit t.dWorkerinit ["self", "trade"] (spWInit t.CWorker) := by
  refine T.fWorkerinit.ok sc_Workerinit (fun vs H Q E h => ?_) (fun cdv A outer s H vs Q E hr h => ?_)
  · obtain ⟨x, dx, d, L, rfl, _⟩ := h
    rfl
  · obtain ⟨x, dx, d, L, rfl, e, ⟨kvs, ed, hK⟩, q⟩ := h
    refine ⟨_, (pss_cons (ps_fldC T.clWorker T.natrade (pv 0) (pe_callTy call_dictC rfl T.zdict bt_dict (pa_n (pv 1) pa_nil)))
      (pss_cons (ps_fldC T.clWorker T.naknown (pv 0) pe_dnewT)
      (pss_cons (ps_fldC T.clWorker T.nacounts (pv 0) pe_dnewK)
      (pss_one (ps_fldC T.clWorker T.narecords (pv 0) (pe_lst pa_nil)))))), ?_⟩
    try dsimp only [L2.start, m_cons, m_nil, List.cons_append, List.nil_append, List.replicate_succ, List.replicate_zero, List.length_cons, List.length_nil, Nat.reduceAdd, Nat.reduceSub, Nat.zero_add]
    refine cut_seq fun R1 hR1 => ?_
    wp_walk using e, ed
    refine fun tr h1 => ?_
    obtain ⟨g1, f1, K1, n1⟩ := put2 (o := .dK kvs) (o' := .ins t.CWorker dx [("trade", .ref tr)]) e h1
    wp_walk using upd_ne n1, e
    generalize upd (upd H tr (.dK kvs)) x (.ins t.CWorker dx [("trade", .ref tr)]) = G1 at *
    refine hR1 _ _ ?_
    refine cut_seq fun R2 hR2 => ?_
    wp_walk using g1, ed
    refine fun kn h2 => ?_
    obtain ⟨g2, f2, K2, n2⟩ := put2 (o := .dT []) (o' := .ins t.CWorker dx [("trade", .ref tr), ("known", .ref kn)]) g1 h2
    wp_walk using upd_ne n2, g1
    generalize upd (upd G1 kn (.dT [])) x (.ins t.CWorker dx [("trade", .ref tr), ("known", .ref kn)]) = G2 at *
    refine hR2 _ _ ?_
    refine cut_seq fun R3 hR3 => ?_
    wp_walk using g2, ed
    refine fun ct h3 => ?_
    obtain ⟨g3, f3, K3, n3⟩ := put2 (o := .dK []) (o' := .ins t.CWorker dx [("trade", .ref tr), ("known", .ref kn), ("counts", .ref ct)]) g2 h3
    wp_walk using upd_ne n3, g2
    generalize upd (upd G2 ct (.dK [])) x (.ins t.CWorker dx [("trade", .ref tr), ("known", .ref kn), ("counts", .ref ct)]) = G3 at *
    refine hR3 _ _ ?_
    wp_walk using g3, ed
    refine fun rc h4 => ?_
    obtain ⟨g4, f4, K4, n4⟩ := put2 (o := .lst []) (o' := .ins t.CWorker dx [("trade", .ref tr), ("known", .ref kn), ("counts", .ref ct), ("records", .ref rc)]) g3 h4
    wp_walk using upd_ne n4, g3
    generalize upd (upd G3 rc (.lst [])) x (.ins t.CWorker dx [("trade", .ref tr), ("known", .ref kn), ("counts", .ref ct), ("records", .ref rc)]) = G4 at *

    have KA := (K1.trans K2).trans (K3.trans K4)
    have fr : ∀ {G : Hp} {p : Addr} {u : HO}, Kp [x] H G → G x = some u → G p = none → H p = none := fun {G p u} k gx hp => by
      cases z : H p with
      | none => rfl
      | some o =>
        by_cases hz : p = x
        · subst hz
          rw [gx] at hp
          cases hp
        · rw [k.at1 z hz] at hp
          cases hp
    refine q tr kn ct rc G4 h1 (fr K1 g1 h2) (fr (K1.trans K2) g2 h3) (fr ((K1.trans K2).trans K3) g3 h4) ⟨g4, ⟨kvs, (K2.trans (K3.trans K4)).at1 f1 n1.symm, hK.kt fun b xs hb => KA.at1 hb (ne_of hb e (by intro z; cases z))⟩, (K3.trans K4).at1 f2 n2.symm, ⟨[], K4.at1 f3 n3.symm, Nat.zero_le _, fun k => rfl⟩, ⟨[], f4, .nil⟩, by decide, fun z => ?_⟩ KA
    subst z
    exact absurd ((K2.at1 f1 n1.symm).symm.trans h3) (by simp)
theorem ok_kept {t : Ad} (T : Tx K mg t) : FnOk P w K mg base CX0 1 t.akept t.dkept ["number"] spKept := by
  refine T.fkept.ok sc_kept (fun vs H Q E h => ?_) (fun cdv A outer s H vs Q E hr h => ?_)
  · obtain ⟨n, rfl, _⟩ := h
    rfl
  · obtain ⟨n, rfl, q⟩ := h
    refine ⟨_, (pss_one (ps_ret (pe_callB (call_maxC rfl) rfl T.zmax bt_max (pa_n (pe_un un_neg (pe_glob (v := .int 1000000000) rfl T.cGREATESTWORTH ⟨_, rfl⟩)) (pa_n (pe_callB (call_minC rfl) rfl T.zmin bt_min (pa_n (pe_glob (v := .int 1000000000) rfl T.cGREATESTWORTH ⟨_, rfl⟩) (pa_n (pv 0) pa_nil))) pa_nil))))), ?_⟩
    try dsimp only [L2.start, m_cons, m_nil, List.cons_append, List.nil_append, List.replicate_succ, List.replicate_zero, List.length_cons, List.length_nil, Nat.reduceAdd, Nat.reduceSub, Nat.zero_add]
    wp_walk
    exact q
theorem ok_numberof {t : Ad} (T : Tx K mg t) : FnOk P w K mg base CX0 1 t.anumberof t.dnumberof ["worth"] spNumO := by
  refine T.fnumberof.ok sc_numberof (fun vs H Q E h => ?_) (fun cdv A outer s H vs Q E hr h => ?_)
  · obtain ⟨w, rfl, _⟩ := h
    rfl
  · obtain ⟨w, rfl, q⟩ := h
    refine ⟨_, (pss_one (ps_ret (pe_ifExp (pt_cmpR op_isC (pv 0) pe_non (nomark _)) pe_int (pv 0)))), ?_⟩
    try dsimp only [L2.start, m_cons, m_nil, List.cons_append, List.nil_append, List.replicate_succ, List.replicate_zero, List.length_cons, List.length_nil, Nat.reduceAdd, Nat.reduceSub, Nat.zero_add]
    wp_walk using wv_non
    cases w with
    | none => exact q
    | some i => exact q
theorem ok_Workeranswerof {t : Ad} (T : Tx K mg t) : FnOk P w K mg base CX0 2 t.aWorkeranswerof t.dWorkeranswerof ["self", "work", "worth"] (spAns t.CWorker) := by
  refine T.fWorkeranswerof.ok sc_Workeranswerof (fun vs H Q E h => ?_) (fun cdv A outer s H vs Q E hr h => ?_)
  · obtain ⟨x, dx, tr, kn, ct, rc, L, cs, k, w, n, rfl, _⟩ := h
    rfl
  · obtain ⟨x, dx, tr, kn, ct, rc, L, cs, k, w, n, rfl, e, ⟨kvs, ed, hK⟩, ec, hn, q⟩ := h
    have hu := hu_of hr
    refine ⟨_, (pss_cons (ps_set (i := 3) sc_Workeranswerof.nd rfl (Or.inl rfl) (pe_getC hu (pe_fldC T.clWorker T.natrade (pv 0)) (pv 1) ⟨rfl, rfl, rfl, rfl⟩))
      (pss_cons (ps_if (pt_cmpR op_isC (pv 3) pe_non (nomark _)) (pss_one (ps_ret pe_non)) pss_nil)
      (pss_cons (ps_if (pt_cmpR op_eq (pe_ix ix_c (pv 3) pe_int (fun _ _ => rfl)) pe_str (nomark _)) (pss_one (ps_ret (pe_dgetC hu (pe_fldC T.clWorker T.nacounts (pv 0)) (pv 1) (fun _ _ => rfl)))) pss_nil)
      (pss_one (ps_ret (pe_call (ok_kept T) (hr.mono (by omega)) rfl T.mkept T.fkept.kp T.bkept .nil pass0 (pa_n (pe_op op_addC (pe_call (ok_numberof T) (hr.mono (by omega)) rfl T.mnumberof T.fnumberof.kp T.bnumberof .nil pass0 (pa_n (pv 2) pa_nil)) (pe_call (ok_numberof T) (hr.mono (by omega)) rfl T.mnumberof T.fnumberof.kp T.bnumberof .nil pass0 (pa_n (pe_ix ix_c (pv 3) pe_int (fun _ _ => rfl)) pa_nil))) pa_nil))))))), ?_⟩
    try dsimp only [L2.start, m_cons, m_nil, List.cons_append, List.nil_append, List.replicate_succ, List.replicate_zero, List.length_cons, List.length_nil, Nat.reduceAdd, Nat.reduceSub, Nat.zero_add]
    have hv := hK.val k
    generalize hz : valV kvs (.inr k) = z at hv
    cases hv with
    | none y =>
      rw [show made L n k w = none by simp [made, y]] at q
      wp_walk using e, ed, hz, Option.getD_none
      exact q
    | cnt y yc =>
      rw [show made L n k w = some n by simp [made, y]] at q
      wp_walk using e, ed, hz, Option.getD_some, yc, ec, hn
      exact q
    | @sum c m y yc =>
      rw [show made L n k w = some (clamp (num w + m)) by simp [made, y]] at q
      wp_walk using e, ed, hz, Option.getD_some, yc
      exact q
theorem ok_Workerdo {t : Ad} (T : Tx K mg t) : FnOk P w K mg base CX0 3 t.aWorkerdo t.dWorkerdo ["self", "run", "ticket", "work", "worth"] (spDo t.CWorker) := by
  refine T.fWorkerdo.ok sc_Workerdo (fun vs H Q E h => ?_) (fun cdv A outer s H vs Q E hr h => ?_)
  · obtain ⟨x, dx, tr, kn, ct, rc, L, ds, r, tk, k, w, rfl, _⟩ := h
    rfl
  · obtain ⟨x, dx, tr, kn, ct, rc, L, ds, r, tk, k, w, rfl, W, hl, q⟩ := h
    have hu := hu_of hr
    refine ⟨_, (pss_cons (ps_if (pt_cmp (pc_dnotin hu (pe_tup (pa_n (pv 1) (pa_n (pv 2) pa_nil))) (pe_fldC T.clWorker T.naknown (pv 0)))) (pss_cons (ps_putC hu (pe_fldC T.clWorker T.nacounts (pv 0)) (pv 3) (pe_op op_addC (pe_dget2C hu (pe_fldC T.clWorker T.nacounts (pv 0)) (pv 3) pe_int ⟨rfl, rfl, rfl, rfl⟩) pe_int))
      (pss_cons (ps_set (i := 5) sc_Workerdo.nd rfl (Or.inl rfl) (pe_meth (pv 0) T.clWorker T.meWorkeranswerof (ok_Workeranswerof T) (hr.mono (by omega)) T.bWorkeranswerof .nil pass0 (pa_n (pv 3) (pa_n (pv 4) pa_nil))))
      (pss_cons (ps_dput hu (pe_fldC T.clWorker T.naknown (pv 0)) (pe_tup (pa_n (pv 1) (pa_n (pv 2) pa_nil))) (pv 5) rfl)
      (pss_one (ps_expr (pe_appC (pe_fldC T.clWorker T.narecords (pv 0)) (pe_tup (pa_n (pv 1) (pa_n (pv 2) (pa_n (pv 3) (pa_n (pv 4) (pa_n (pv 5) pa_nil)))))))))))) pss_nil)
      (pss_one (ps_ret (pe_dget hu (pe_fldC T.clWorker T.naknown (pv 0)) (pe_tup (pa_n (pv 1) (pa_n (pv 2) pa_nil))) (fun _ _ => rfl))))), ?_⟩
    try dsimp only [L2.start, m_cons, m_nil, List.cons_append, List.nil_append, List.replicate_succ, List.replicate_zero, List.length_cons, List.length_nil, Nat.reduceAdd, Nat.reduceSub, Nat.zero_add]
    obtain ⟨cs, c1, c2, c3⟩ := W.hct
    obtain ⟨us, u1, u2⟩ := W.hrc
    wp_walk using W.ins
    refine fun p1 h1 => ?_
    have N1 := Kp.new (S := []) (o := .tup [.int r, .int tk]) h1
    have W1 := W.kp0 N1
    have e1 : upd H p1 (.tup [.int r, .int tk]) p1 = some (.tup (([.inl r, .inl tk] : List Key).map kV)) := upd_same
    have c1' := N1.at c1
    have u1' := N1.at u1
    have u2' := u2.kt (tup_nil N1)
    generalize upd H p1 (.tup [.int r, .int tk]) = G1 at *
    wp_walk using W1.ins
    refine ⟨_, DGet.tt W1.hkn e1, ?_⟩
    rw [kn_val]
    cases hk : look ds r tk with
    | some a =>
      rw [show stp L ds r tk k w = ds by simp [stp, hk], show ans L ds r tk k w = a by simp [ans, hk]] at q
      wp_walk using W1.ins, Option.map_some, Option.isSome_some, Bool.not_true
      refine fun p2 h2 => ?_
      have N2 := Kp.new (S := []) (o := .tup [.int r, .int tk]) h2
      have W2 := W1.kp0 N2
      have e2 : upd G1 p2 (.tup [.int r, .int tk]) p2 = some (.tup (([.inl r, .inl tk] : List Key).map kV)) := upd_same
      generalize upd G1 p2 (.tup [.int r, .int tk]) = G2 at *
      wp_walk using W2.ins
      have g := DGet.tt W2.hkn e2
      rw [kn_val, hk] at g
      exact ⟨_, g, q _ W2 ((N1.trans N2).mono (by simp))⟩
    | none =>
      rw [show stp L ds r tk k w = ds ++ [⟨r, tk, k, w, made L ((cnt k ds : Nat) + 1) k w⟩] by simp [stp, hk], show ans L ds r tk k w = made L ((cnt k ds : Nat) + 1) k w by simp [ans, hk]] at q
      wp_walk using W1.ins, Option.map_none, Option.isSome_none, Bool.not_false, c1', c3 k
      have nx : x ≠ ct := ne_of W1.ins c1' (by intro z; cases z)
      have nkn : kn ≠ ct := ne_of W1.hkn c1' (by intro z; cases z)
      have nrc : rc ≠ ct := ne_of u1' c1' (by intro z; cases z)
      have K2 : Kp [ct] G1 (upd G1 ct (.dK (putK cs (.inr k) (.int ((cnt k ds : Nat) + 1))))) := Kp.set (by simp)
      have e2 : upd G1 ct (.dK (putK cs (.inr k) (.int ((cnt k ds : Nat) + 1)))) ct = some (.dK (putK cs (.inr k) (.int ((cnt k ds : Nat) + 1)))) := upd_same
      have t2 := tup_kp K2 fun b hb xs z => by
        rw [show b = ct by simpa using hb, c1'] at z
        cases z
      generalize upd G1 ct (.dK (putK cs (.inr k) (.int ((cnt k ds : Nat) + 1)))) = G2 at *
      have ins2 := K2.at1 W1.ins nx
      have tr2 := W1.htr.kp K2 (by simpa using W.ne) t2
      have kn2 := K2.at1 W1.hkn nkn
      have rc2 := K2.at1 u1' nrc
      have ds2 := u2'.kt t2
      wp_walk using ins2
      refine ⟨by omega, x, dx, tr, kn, ct, rc, L, _, k, w, (cnt k ds : Nat) + 1, rfl, ins2, tr2, e2, by rw [valV_put, if_pos rfl], ?_⟩
      generalize hm : made L ((cnt k ds : Nat) + 1) k w = a at *
      wp_walk using ins2
      refine fun p3 h3 => ?_
      have N3 := Kp.new (S := []) (o := .tup [.int r, .int tk]) h3
      have e3 : upd G2 p3 (.tup [.int r, .int tk]) p3 = some (.tup (([.inl r, .inl tk] : List Key).map kV)) := upd_same
      generalize upd G2 p3 (.tup [.int r, .int tk]) = G3 at *
      refine ⟨_, DPut.t (N3.at kn2) e3 (by rw [kn_len, sizeLine_eq]; omega), ?_⟩
      rw [kn_put hk k w a]
      have nk3 : x ≠ kn := ne_of ins2 kn2 (by intro z; cases z)
      have nr3 : rc ≠ kn := ne_of rc2 kn2 (by intro z; cases z)
      have K4 : Kp [kn] G3 (upd G3 kn (.dT (knK (ds ++ [⟨r, tk, k, w, a⟩])))) := Kp.set (by simp)
      have e4 : upd G3 kn (.dT (knK (ds ++ [⟨r, tk, k, w, a⟩]))) kn = some (.dT (knK (ds ++ [⟨r, tk, k, w, a⟩]))) := upd_same
      have t4 := tup_kp K4 fun b hb xs z => by
        rw [show b = kn by simpa using hb, N3.at kn2] at z
        cases z
      generalize upd G3 kn (.dT (knK (ds ++ [⟨r, tk, k, w, a⟩]))) = G4 at *
      have ins4 := K4.at1 (N3.at ins2) nk3
      have rc4 := K4.at1 (N3.at rc2) nr3
      wp_walk using ins4, rc4
      refine fun p5 h5 => ?_
      have N5 := Kp.new (S := []) (o := .tup [.int r, .int tk, .str k, wv w, wv a]) h5
      have e5 : upd G4 p5 (.tup [.int r, .int tk, .str k, wv w, wv a]) p5 = some (.tup (Deed.vs ⟨r, tk, k, w, a⟩)) := upd_same
      generalize upd G4 p5 (.tup [.int r, .int tk, .str k, wv w, wv a]) = G5 at *
      have rc5 := N5.at rc4
      wp_walk using N5.at ins4, rc5
      have lu := u2.len
      refine ⟨by omega, ?_⟩
      have K6 : Kp [rc] G5 (upd G5 rc (.lst (us ++ [.ref p5]))) := Kp.set (by simp)
      have e6 : upd G5 rc (.lst (us ++ [.ref p5])) rc = some (.lst (us ++ [.ref p5])) := upd_same
      have t6 := tup_kp K6 fun b hb xs z => by
        rw [show b = rc by simpa using hb, rc5] at z
        cases z
      generalize upd G5 rc (.lst (us ++ [.ref p5])) = G6 at *
      have ins6 := K6.at1 (N5.at ins4) (ne_of (N5.at ins4) rc5 (by intro z; cases z))
      have kn6 := K6.at1 (N5.at e4) nr3.symm
      have tt : ∀ b xs, G2 b = some (.tup xs) → G6 b = some (.tup xs) := fun b xs hb => t6 _ _ (N5.at (t4 _ _ (N3.at hb)))
      have W6 : WAt t.CWorker G6 x dx tr kn ct rc L (ds ++ [⟨r, tk, k, w, a⟩]) := by
        obtain ⟨kvs, tr1, tr3⟩ := tr2
        refine ⟨ins6, ⟨kvs, K6.at1 (N5.at (K4.at1 (N3.at tr1) (ne_of tr1 kn2 (by intro z; cases z)))) (ne_of tr1 rc2 (by intro z; cases z)), tr3.kt tt⟩, kn6, ⟨_, K6.at1 (N5.at (K4.at1 (N3.at e2) nkn.symm)) nrc.symm, ?_, fun j => ?_⟩, ⟨_, e6, (ds2.kt tt).snoc (t6 _ _ e5)⟩, by simp; omega, W.ne⟩
        · have := length_putK cs (.inr k) (.int ((cnt k ds : Nat) + 1))
          simp
          omega
        · rw [cnt_snoc, valV_put]
          by_cases hj : j = k
          · subst hj
            simp
          · rw [if_neg (fun z => hj (by cases z; rfl)), if_neg (fun z => hj z.symm)]
            exact c3 j
      wp_walk using ins6
      refine fun p7 h7 => ?_
      have N7 := Kp.new (S := []) (o := .tup [.int r, .int tk]) h7
      have W7 := W6.kp0 N7
      have e7 : upd G6 p7 (.tup [.int r, .int tk]) p7 = some (.tup (([.inl r, .inl tk] : List Key).map kV)) := upd_same
      generalize upd G6 p7 (.tup [.int r, .int tk]) = G7 at *
      wp_walk using W7.ins
      have g := DGet.tt W7.hkn e7
      rw [kn_val, look_snoc hk] at g
      refine ⟨_, g, q _ W7 fun b o hb nb => ?_⟩
      simp only [List.mem_cons, List.not_mem_nil, or_false, not_or] at nb
      exact N7.at (K6.at1 (N5.at (K4.at1 (N3.at (K2.at1 (N1.at hb) nb.2.1)) nb.1)) nb.2.2)
theorem ok_Workerdeeds {t : Ad} (T : Tx K mg t) : FnOk P w K mg base CX0 1 t.aWorkerdeeds t.dWorkerdeeds ["self"] (spDeeds t.CWorker) := by
  refine T.fWorkerdeeds.ok sc_Workerdeeds (fun vs H Q E h => ?_) (fun cdv A outer s H vs Q E hr h => ?_)
  · obtain ⟨x, dx, tr, kn, ct, rc, L, ds, rfl, _⟩ := h
    rfl
  · obtain ⟨x, dx, tr, kn, ct, rc, L, ds, rfl, W, q⟩ := h
    refine ⟨_, (pss_one (ps_ret (pe_callTy call_lstC rfl T.zlist bt_list (pa_n (pe_fldC T.clWorker T.narecords (pv 0)) pa_nil)))), ?_⟩
    try dsimp only [L2.start, m_cons, m_nil, List.cons_append, List.nil_append, List.replicate_succ, List.replicate_zero, List.length_cons, List.length_nil, Nat.reduceAdd, Nat.reduceSub, Nat.zero_add]
    obtain ⟨us, u1, u2⟩ := W.hrc
    wp_walk using W.ins, u1
    exact fun l hl => q l us hl u2
theorem ok_lawunlikeorders {t : Ad} (T : Tx K mg t) : FnOk P w K mg base CX0 5 t.alawunlikeorders t.dlawunlikeorders [] spUn := by
  refine T.flawunlikeorders.ok sc_lawunlikeorders (fun vs H Q E h => ?_) (fun cdv A outer s H vs Q E hr h => ?_)
  · obtain ⟨rfl, _⟩ := h
    rfl
  · obtain ⟨rfl, q⟩ := h
    refine ⟨_, (pss_cons (ps_set (i := 0) sc_lawunlikeorders.nd rfl (Or.inr rfl) (pe_make T.mkWorker (ok_Workerinit T) (hr.mono (by omega)) rfl T.mWorker T.bWorkerinit .nil pass0 (pa_n (pe_disp (pps_cons pe_str (pe_tup (pa_n pe_str pa_nil)) (pps_cons pe_str (pe_tup (pa_n pe_str pa_nil)) (pps_cons pe_str (pe_tup (pa_n pe_str (pa_n pe_int pa_nil))) pps_nil))) rfl rfl (List.cons_ne_nil _ _) (by decide)) pa_nil)))
      (pss_cons (ps_set (i := 1) sc_lawunlikeorders.nd rfl (Or.inl rfl) (pe_lst (pa_n (pe_tup (pa_n pe_int (pa_n pe_int pa_nil))) (pa_n (pe_tup (pa_n pe_int (pa_n pe_int pa_nil))) (pa_n (pe_tup (pa_n pe_int (pa_n pe_int pa_nil))) (pa_n (pe_tup (pa_n pe_int (pa_n pe_int pa_nil))) (pa_n (pe_tup (pa_n pe_int (pa_n pe_int pa_nil))) (pa_n (pe_tup (pa_n pe_int (pa_n pe_int pa_nil))) (pa_n (pe_tup (pa_n pe_int (pa_n pe_int pa_nil))) (pa_n (pe_tup (pa_n pe_int (pa_n pe_int pa_nil))) (pa_n (pe_tup (pa_n pe_int (pa_n pe_int pa_nil))) (pa_n (pe_tup (pa_n pe_int (pa_n pe_int pa_nil))) (pa_n (pe_tup (pa_n pe_int (pa_n pe_int pa_nil))) pa_nil)))))))))))))
      (pss_cons (ps_set (i := 1) sc_lawunlikeorders.nd rfl (Or.inl rfl) (pe_op op_addC (pv 1) (pe_lst (pa_n (pe_tup (pa_n pe_int (pa_n pe_int pa_nil))) (pa_n (pe_tup (pa_n pe_int (pa_n pe_int pa_nil))) (pa_n (pe_tup (pa_n pe_int (pa_n pe_int pa_nil))) (pa_n (pe_tup (pa_n pe_int (pa_n pe_int pa_nil))) (pa_n (pe_tup (pa_n pe_int (pa_n pe_int pa_nil))) (pa_n (pe_tup (pa_n (pe_op op_pow pe_int pe_int) (pa_n pe_int pa_nil))) (pa_n (pe_tup (pa_n pe_int (pa_n (pe_op op_pow pe_int pe_int) pa_nil))) (pa_n (pe_tup (pa_n pe_int (pa_n pe_int pa_nil))) (pa_n (pe_tup (pa_n pe_int (pa_n pe_int pa_nil))) pa_nil))))))))))))
      (pss_cons (ps_for PassesOwn.never rfl (pi_range1 rfl T.zrange (pa_n (pe_callB call_lenC rfl T.zlen bt_len (pa_n (pv 1) pa_nil)) pa_nil)) (pg_name (i := 2) sc_lawunlikeorders.nd rfl (Or.inl rfl)) (pss_one (ps_if (PW.pt (pw_or (pt_cmpR op_ne (pe_meth (pv 0) T.clWorker T.meWorkerdo (ok_Workerdo T) (hr.mono (by omega)) T.bWorkerdo .nil pass0 (pa_n (pe_ix ix_c (pe_ix ix_c (pv 1) (pv 2) (fun _ _ => rfl)) pe_int (fun _ _ => rfl)) (pa_n (pe_ix ix_c (pe_ix ix_c (pv 1) (pv 2) (fun _ _ => rfl)) pe_int (fun _ _ => rfl)) (pa_n pe_str (pa_n (pv 2) pa_nil))))) (pe_op op_addC (pv 2) pe_int) (nomark _)) (pw_or1 (pt_cmpR op_ne (pe_meth (pv 0) T.clWorker T.meWorkerdo (ok_Workerdo T) (hr.mono (by omega)) T.bWorkerdo .nil pass0 (pa_n (pe_op op_addC pe_int (pv 2)) (pa_n (pv 2) (pa_n pe_str (pa_n (pv 2) pa_nil))))) (pe_op op_addC (pv 2) pe_int) (nomark _))))) (pss_one (ps_ret pe_bl)) pss_nil)))
      (pss_cons (ps_for PassesOwn.never rfl (pi_range1 rfl T.zrange (pa_n pe_int pa_nil)) (pg_name (i := 2) sc_lawunlikeorders.nd rfl (Or.inl rfl)) (pss_one (ps_if (pt_cmpR op_ne (pe_meth (pv 0) T.clWorker T.meWorkerdo (ok_Workerdo T) (hr.mono (by omega)) T.bWorkerdo .nil pass0 (pa_n (pe_op op_addC pe_int (pe_op op_fdivB (pv 2) pe_int)) (pa_n (pe_op op_addC pe_int (pe_op op_mod (pv 2) pe_int)) (pa_n pe_str (pa_n (pv 2) pa_nil))))) (pe_op op_addC (pv 2) pe_int) (nomark _)) (pss_one (ps_ret pe_bl)) pss_nil)))
      (pss_cons (ps_for PassesOwn.never rfl (pi_range3 (lo := 0) (hi := 320) (c := 29) (n := 12) (by decide) (by decide) (by decide +kernel) (by decide +kernel) rfl T.zrange (pa_n pe_int (pa_n pe_int (pa_n pe_int pa_nil)))) (pg_name (i := 2) sc_lawunlikeorders.nd rfl (Or.inl rfl)) (pss_one (ps_if (pt_cmpR op_ne (pe_meth (pv 0) T.clWorker T.meWorkerdo (ok_Workerdo T) (hr.mono (by omega)) T.bWorkerdo .nil pass0 (pa_n (pe_op op_addC pe_int (pe_op op_fdivB (pv 2) pe_int)) (pa_n (pe_op op_addC pe_int (pe_op op_mod (pv 2) pe_int)) (pa_n pe_str (pa_n (pe_op op_addC (pe_op op_mul pe_int (pv 2)) pe_int) pa_nil))))) (pe_op op_addC (pv 2) pe_int) (nomark _)) (pss_one (ps_ret pe_bl)) pss_nil)))
      (pss_cons (ps_if (pt_cmpR (op_neA 1 (hu_n hr (by decide))) (pe_comp (fr := [0]) (N := ["both", "worker"]) rfl (fun _ _ h => h) (CompSc.free rfl rfl rfl rfl rfl (fun _ _ h => h) rfl (by decide) rfl (fun j hj => by rw [show j = 0 by simpa using hj]; exact ⟨_, rfl, rfl, .inl rfl⟩)) (pi_list (pv 1)) (fun C s H ex pn => ⟨pts_nil, (pe_meth (pv 1) T.clWorker T.meWorkerdo (ok_Workerdo T) (hr.mono (by omega)) T.bWorkerdo .nil pass0 (pa_n (pe_ix ix_c (pv 0) pe_int (fun _ _ => rfl)) (pa_n (pe_ix ix_c (pv 0) pe_int (fun _ _ => rfl)) (pa_n pe_str (pa_n pe_int pa_nil)))))⟩)) (pe_comp (cl := []) (fr := []) (N := ["k"]) rfl (fun _ _ h => h) (CompSc.nofree rfl rfl rfl rfl) (pi_range1 rfl T.zrange (pa_n (pe_callB call_lenC rfl T.zlen bt_len (pa_n (pv 1) pa_nil)) pa_nil)) (fun C s H ex pn => ⟨pts_nil, (pe_op op_addC (pv 0) pe_int)⟩)) (nomark _)) (pss_one (ps_ret pe_bl)) pss_nil)
      (pss_one (ps_ret (pe_and (pe_cmpR op_eq (pe_callB call_lenC rfl T.zlen bt_len (pa_n (pe_meth0 (pv 0) T.clWorker T.meWorkerdeeds (ok_Workerdeeds T) (hr.mono (by omega)) T.bWorkerdeeds .nil pass0) pa_nil)) (pe_op op_addC pe_int (pe_op op_mul pe_int (pe_callB call_lenC rfl T.zlen bt_len (pa_n (pv 1) pa_nil)))) (nomark _)) (pe_one (pe_cmpR op_isC (pe_meth (pe_make T.mkWorker (ok_Workerinit T) (hr.mono (by omega)) rfl T.mWorker T.bWorkerinit .nil pass0 (pa_n pe_dnewK pa_nil)) T.clWorker T.meWorkerdo (ok_Workerdo T) (hr.mono (by omega)) T.bWorkerdo .nil pass0 (pa_n pe_int (pa_n pe_int (pa_n pe_str (pa_n pe_int pa_nil))))) pe_non (nomark _))))))))))))), ?_⟩
    try dsimp only [L2.start, m_cons, m_nil, List.cons_append, List.nil_append, List.replicate_succ, List.replicate_zero, List.length_cons, List.length_nil, Nat.reduceAdd, Nat.reduceSub, Nat.zero_add]
    refine cut_seq fun R1 hR1 => ?_
    wp_walk
    refine fun d hd p1 h1 p2 h2 p3 h3 => ?_
    have f0 : upd H d (.dK []) d = some (.dK []) := upd_same
    have f1 : upd (upd H d (.dK [])) p1 (.tup [.str "count"]) p1 = some (.tup [.str "count"]) := upd_same
    have f2 : upd (upd (upd H d (.dK [])) p1 (.tup [.str "count"])) p2 (.tup [.str "count"]) p2 = some (.tup [.str "count"]) := upd_same
    have f3 : upd (upd (upd (upd H d (.dK [])) p1 (.tup [.str "count"])) p2 (.tup [.str "count"])) p3 (.tup [.str "sum", .int 1]) p3 = some (.tup [.str "sum", .int 1]) := upd_same
    have N1 := Kp.new (S := []) (o := .tup [.str "count"]) h1
    have N2 := Kp.new (S := []) (o := .tup [.str "count"]) h2
    have N3 := Kp.new (S := []) (o := .tup [.str "sum", .int 1]) h3
    have g0 := ((N1.trans N2).trans N3).at f0
    have g1 := (N2.trans N3).at f1
    have g2 := N3.at f2
    generalize upd (upd (upd (upd H d (.dK [])) p1 (.tup [.str "count"])) p2 (.tup [.str "count"])) p3 (.tup [.str "sum", .int 1]) = G at *
    clear N1 N2 N3 f0 f1 f2 h1 h2 h3 hd
    refine ⟨g0, [(.inr "cnt", .ref p1), (.inr "tally", .ref p2), (.inr "sum", .ref p3)], rfl, by simp, ?_⟩
    rw [merge3]
    have hT : TrAt (upd G d (.dK [(.inr "cnt", .ref p1), (.inr "tally", .ref p2), (.inr "sum", .ref p3)])) d L0 := by
      have K4 : Kp [d] G (upd G d (.dK [(.inr "cnt", .ref p1), (.inr "tally", .ref p2), (.inr "sum", .ref p3)])) := Kp.set (by simp)
      exact ⟨_, upd_same, .cnt (K4.at1 g1 (ne_of g1 g0 (by intro z; cases z))) (.cnt (K4.at1 g2 (ne_of g2 g0 (by intro z; cases z))) (.sum (K4.at1 f3 (ne_of f3 g0 (by intro z; cases z))) .nil))⟩
    generalize upd G d (.dK [(.inr "cnt", .ref p1), (.inr "tally", .ref p2), (.inr "sum", .ref p3)]) = G4 at *
    refine make_w hT fun x dx tr kn ct rc G5 _ W5 _ _ _ _ _ => ?_
    refine hR1 _ _ ?_
    clear hR1 hT g0 g1 g2 f3
    clear R1
    refine cut_seq fun R2 hR2 => ?_
    wp_walk
    refine fun q0 k0 q1 k1 q2 k2 q3 k3 q4 k4 q5 k5 q6 k6 q7 k7 q8 k8 q9 k9 q10 k10 l1 m1 => ?_
    obtain ⟨A1, KA1⟩ : PsAt (upd (upd (upd (upd (upd (upd (upd (upd (upd (upd (upd G5 q0 (.tup [.int 1, .int 10])) q1 (.tup [.int 11, .int 0])) q2 (.tup [.int 110, .int 0])) q3 (.tup [.int 0, .int 110])) q4 (.tup [.int 1, .int 0])) q5 (.tup [.int 0, .int 1])) q6 (.tup [.int 0, .int 64])) q7 (.tup [.int 128, .int 0])) q8 (.tup [.int 10, .int 0])) q9 (.tup [.int 0, .int 10])) q10 (.tup [.int 1, .int 100])) [.ref q0, .ref q1, .ref q2, .ref q3, .ref q4, .ref q5, .ref q6, .ref q7, .ref q8, .ref q9, .ref q10] [(1, 10), (11, 0), (110, 0), (0, 110), (1, 0), (0, 1), (0, 64), (128, 0), (10, 0), (0, 10), (1, 100)] ∧ Kp [] G5 (upd (upd (upd (upd (upd (upd (upd (upd (upd (upd (upd G5 q0 (.tup [.int 1, .int 10])) q1 (.tup [.int 11, .int 0])) q2 (.tup [.int 110, .int 0])) q3 (.tup [.int 0, .int 110])) q4 (.tup [.int 1, .int 0])) q5 (.tup [.int 0, .int 1])) q6 (.tup [.int 0, .int 64])) q7 (.tup [.int 128, .int 0])) q8 (.tup [.int 10, .int 0])) q9 (.tup [.int 0, .int 10])) q10 (.tup [.int 1, .int 100])) := (ps_step (ps_step (ps_step (ps_step (ps_step (ps_step (ps_step (ps_step (ps_step (ps_step (ps_step ⟨.nil, Kp.refl⟩ k0) k1) k2) k3) k4) k5) k6) k7) k8) k9) k10)
    have b1 : upd (upd (upd (upd (upd (upd (upd (upd (upd (upd (upd (upd G5 q0 (.tup [.int 1, .int 10])) q1 (.tup [.int 11, .int 0])) q2 (.tup [.int 110, .int 0])) q3 (.tup [.int 0, .int 110])) q4 (.tup [.int 1, .int 0])) q5 (.tup [.int 0, .int 1])) q6 (.tup [.int 0, .int 64])) q7 (.tup [.int 128, .int 0])) q8 (.tup [.int 10, .int 0])) q9 (.tup [.int 0, .int 10])) q10 (.tup [.int 1, .int 100])) l1 (.lst [.ref q0, .ref q1, .ref q2, .ref q3, .ref q4, .ref q5, .ref q6, .ref q7, .ref q8, .ref q9, .ref q10]) l1 = some (.lst [.ref q0, .ref q1, .ref q2, .ref q3, .ref q4, .ref q5, .ref q6, .ref q7, .ref q8, .ref q9, .ref q10]) := upd_same
    have M1 := Kp.new (S := []) (o := .lst [.ref q0, .ref q1, .ref q2, .ref q3, .ref q4, .ref q5, .ref q6, .ref q7, .ref q8, .ref q9, .ref q10]) m1
    generalize (upd (upd (upd (upd (upd (upd (upd (upd (upd (upd (upd G5 q0 (.tup [.int 1, .int 10])) q1 (.tup [.int 11, .int 0])) q2 (.tup [.int 110, .int 0])) q3 (.tup [.int 0, .int 110])) q4 (.tup [.int 1, .int 0])) q5 (.tup [.int 0, .int 1])) q6 (.tup [.int 0, .int 64])) q7 (.tup [.int 128, .int 0])) q8 (.tup [.int 10, .int 0])) q9 (.tup [.int 0, .int 10])) q10 (.tup [.int 1, .int 100])) = GA1 at *
    clear k0 k1 k2 k3 k4 k5 k6 k7 k8 k9 k10
    generalize upd GA1 l1 (.lst [.ref q0, .ref q1, .ref q2, .ref q3, .ref q4, .ref q5, .ref q6, .ref q7, .ref q8, .ref q9, .ref q10]) = GB1 at *
    replace A1 := A1.kt (tup_nil M1)
    have KB1 := KA1.trans M1
    generalize ([.ref q0, .ref q1, .ref q2, .ref q3, .ref q4, .ref q5, .ref q6, .ref q7, .ref q8, .ref q9, .ref q10] : List V) = u1 at *

    replace W5 := W5.kp0 KB1
    refine hR2 _ _ ?_
    clear hR2 KA1 M1
    refine cut_seq fun R3 hR3 => ?_
    wp_walk
    refine fun q0 k0 q1 k1 q2 k2 q3 k3 q4 k4 q5 k5 q6 k6 q7 k7 q8 k8 l2 m2 => ?_
    obtain ⟨A2, KA2⟩ : PsAt (upd (upd (upd (upd (upd (upd (upd (upd (upd GB1 q0 (.tup [.int 0, .int 1000])) q1 (.tup [.int 1000, .int 0])) q2 (.tup [.int 0, .int 256])) q3 (.tup [.int 2, .int 0])) q4 (.tup [.int 0, .int 2])) q5 (.tup [.int 1000000, .int 0])) q6 (.tup [.int 0, .int 1000000])) q7 (.tup [.int 1, .int 1])) q8 (.tup [.int 0, .int 0])) [.ref q0, .ref q1, .ref q2, .ref q3, .ref q4, .ref q5, .ref q6, .ref q7, .ref q8] [(0, 1000), (1000, 0), (0, 256), (2, 0), (0, 2), (1000000, 0), (0, 1000000), (1, 1), (0, 0)] ∧ Kp [] GB1 (upd (upd (upd (upd (upd (upd (upd (upd (upd GB1 q0 (.tup [.int 0, .int 1000])) q1 (.tup [.int 1000, .int 0])) q2 (.tup [.int 0, .int 256])) q3 (.tup [.int 2, .int 0])) q4 (.tup [.int 0, .int 2])) q5 (.tup [.int 1000000, .int 0])) q6 (.tup [.int 0, .int 1000000])) q7 (.tup [.int 1, .int 1])) q8 (.tup [.int 0, .int 0])) := (ps_step (ps_step (ps_step (ps_step (ps_step (ps_step (ps_step (ps_step (ps_step ⟨.nil, Kp.refl⟩ k0) k1) k2) k3) k4) k5) k6) k7) k8)
    have b2 : upd (upd (upd (upd (upd (upd (upd (upd (upd (upd GB1 q0 (.tup [.int 0, .int 1000])) q1 (.tup [.int 1000, .int 0])) q2 (.tup [.int 0, .int 256])) q3 (.tup [.int 2, .int 0])) q4 (.tup [.int 0, .int 2])) q5 (.tup [.int 1000000, .int 0])) q6 (.tup [.int 0, .int 1000000])) q7 (.tup [.int 1, .int 1])) q8 (.tup [.int 0, .int 0])) l2 (.lst [.ref q0, .ref q1, .ref q2, .ref q3, .ref q4, .ref q5, .ref q6, .ref q7, .ref q8]) l2 = some (.lst [.ref q0, .ref q1, .ref q2, .ref q3, .ref q4, .ref q5, .ref q6, .ref q7, .ref q8]) := upd_same
    have M2 := Kp.new (S := []) (o := .lst [.ref q0, .ref q1, .ref q2, .ref q3, .ref q4, .ref q5, .ref q6, .ref q7, .ref q8]) m2
    generalize (upd (upd (upd (upd (upd (upd (upd (upd (upd GB1 q0 (.tup [.int 0, .int 1000])) q1 (.tup [.int 1000, .int 0])) q2 (.tup [.int 0, .int 256])) q3 (.tup [.int 2, .int 0])) q4 (.tup [.int 0, .int 2])) q5 (.tup [.int 1000000, .int 0])) q6 (.tup [.int 0, .int 1000000])) q7 (.tup [.int 1, .int 1])) q8 (.tup [.int 0, .int 0])) = GA2 at *
    clear k0 k1 k2 k3 k4 k5 k6 k7 k8
    generalize upd GA2 l2 (.lst [.ref q0, .ref q1, .ref q2, .ref q3, .ref q4, .ref q5, .ref q6, .ref q7, .ref q8]) = GB2 at *
    replace A2 := A2.kt (tup_nil M2)
    have KB2 := KA2.trans M2
    generalize ([.ref q0, .ref q1, .ref q2, .ref q3, .ref q4, .ref q5, .ref q6, .ref q7, .ref q8] : List V) = u2 at *

    have b1' := KB2.at b1
    wp_walk using b1', b2
    have lu1 := A1.len
    have lu2 := A2.len
    simp only [List.length_cons, List.length_nil] at lu1 lu2
    have A3 : PsAt GB2 (u1 ++ u2) prs := (A1.kt (tup_nil KB2)).app A2
    refine ⟨by omega, fun l hl => ?_⟩
    have nrc : l ≠ rc := by
      obtain ⟨_, r1, _⟩ := (W5.kp0 KB2).hrc
      exact (ne_of_none r1 hl).symm
    have lus : (u1 ++ u2).length = 20 := A3.len
    generalize u1 ++ u2 = us at *
    have N8 := Kp.new (S := []) (o := .lst us) hl
    have el : upd GB2 l (.lst us) l = some (.lst us) := upd_same
    replace W5 := (W5.kp0 KB2).kp0 N8
    replace A3 := A3.kt (tup_nil N8)
    generalize upd GB2 l (.lst us) = G8 at *
    refine hR3 _ _ ?_
    clear hR3 A1 A2 KA2 KB2 M2 b1 b1' b2 N8 hl KB1
    clear R2 R3
    have go : ∀ {G G' : Hp} {ds : List Deed}, WAt t.CWorker G x dx tr kn ct rc L0 ds → Kp [kn, ct, rc] G G' → G l = some (.lst us) → PsAt G us prs → G' l = some (.lst us) ∧ PsAt G' us prs := fun {G G' ds} W k h p => by
      obtain ⟨cs, c1, _⟩ := W.hct
      obtain ⟨vs, v1, _⟩ := W.hrc
      refine ⟨k _ _ h ?_, p.kt (tup_kp k fun b hb xs z => ?_)⟩
      · simp only [List.mem_cons, List.not_mem_nil, or_false, not_or]
        exact ⟨ne_of h W.hkn (by intro z; cases z), ne_of h c1 (by intro z; cases z), nrc⟩
      · simp only [List.mem_cons, List.not_mem_nil, or_false] at hb
        rcases hb with rfl | rfl | rfl
        · rw [W.hkn] at z; cases z
        · rw [c1] at z; cases z
        · rw [v1] at z; cases z
    refine cut_seq fun R4 hR4 => ?_
    wp_walk using el
    rw [lus]
    refine ⟨by omega, ?_⟩
    obtain ⟨Pv, hPv⟩ : ∃ Pv : Nat → St → Hp → Prop, ∀ i σ G, Pv i σ G = ∃ (v : Option V) (ds : List Deed), σ = [some (.ref x), some (.ref l), v] ∧ WAt t.CWorker G x dx tr kn ct rc L0 ds ∧ Und i 0 ds ∧ G l = some (.lst us) ∧ PsAt G us prs := ⟨_, fun _ _ _ => rfl⟩
    refine for_range (lo := 0) (n := 20) Pv ?_ ?_ ?_
    · rw [hPv]
      exact ⟨none, [], rfl, W5, .nil, el, A3⟩
    · intro i σ G hi hG
      rw [hPv] at hG
      obtain ⟨v, ds, rfl, W, U, eG, AG⟩ := hG
      have back : ∀ (w : Option V) (ds' : List Deed) (G' : Hp), WAt t.CWorker G' x dx tr kn ct rc L0 ds' → Und (i + 1) 0 ds' → G' l = some (.lst us) → PsAt G' us prs → Pv (i + 1) [some (.ref x), some (.ref l), w] G' := fun w ds' G' a b c d => by
        rw [hPv]
        exact ⟨_, _, rfl, a, b, c, d⟩
      clear hPv
      obtain ⟨a, X, Y, ea, ep, ha⟩ := AG.at (i := i) (by simpa using hi)
      have at1 : atI us (i : Int) = some (.ref a) := by rw [atI_nat]; exact ea
      have lenU := U.len
      wp_walk using Int.zero_add, W.ins, eG, at1, ha
      refine ⟨x, dx, tr, kn, ct, rc, L0, ds, X, Y, "cnt", some (i : Int), rfl, W, by omega, fun G1 W1 K1 => ?_⟩
      obtain ⟨_, e1, e2⟩ := U.one ep
      rw [e2] at W1
      rw [e1]
      wp_walk using Int.zero_add, W1.ins, wv_int
      refine ⟨x, dx, tr, kn, ct, rc, L0, _, 7777 + i, i, "tally", some (i : Int), rfl, W1, by simp; omega, fun G2 W2 K2 => ?_⟩
      obtain ⟨e3, U3⟩ := U.two ep
      rw [e3]
      wp_walk using wv_int
      obtain ⟨q1, q2⟩ := go W K1 eG AG
      obtain ⟨q3, q4⟩ := go W1 K2 q1 q2
      exact back _ _ _ W2 U3 q3 q4
    · intro σ G hG
      rw [hPv] at hG
      obtain ⟨v, ds, rfl, W, U, eG, AG⟩ := hG
      refine hR4 _ _ ?_
      clear hPv hR4
      clear R4 Pv
      refine cut_seq fun R5 hR5 => ?_
      wp_walk
      obtain ⟨Pv, hPv⟩ : ∃ Pv : Nat → St → Hp → Prop, ∀ i σ G, Pv i σ G = ∃ (v : Option V) (ds : List Deed), σ = [some (.ref x), some (.ref l), v] ∧ WAt t.CWorker G x dx tr kn ct rc L0 ds ∧ Und 20 i ds ∧ G l = some (.lst us) ∧ PsAt G us prs := ⟨_, fun _ _ _ => rfl⟩
      refine for_range (lo := 0) (n := 320) Pv ?_ ?_ ?_
      · rw [hPv]
        exact ⟨_, _, rfl, W, U, eG, AG⟩
      · intro i σ G hi hG
        rw [hPv] at hG
        obtain ⟨v, ds, rfl, W, U, eG, AG⟩ := hG
        have back : ∀ (w : Option V) (ds' : List Deed) (G' : Hp), WAt t.CWorker G' x dx tr kn ct rc L0 ds' → Und 20 (i + 1) ds' → G' l = some (.lst us) → PsAt G' us prs → Pv (i + 1) [some (.ref x), some (.ref l), w] G' := fun w ds' G' a b c d => by
          rw [hPv]
          exact ⟨_, _, rfl, a, b, c, d⟩
        clear hPv
        have lenU := U.len
        wp_walk using Int.zero_add, W.ins
        refine ⟨⟨by decide, by decide⟩, x, dx, tr, kn, ct, rc, L0, ds, 2000 + (i : Int) / 20, 30 + (i : Int) % 20, "sum", some (i : Int), rfl, W, by omega, fun G1 W1 K1 => ?_⟩
        obtain ⟨e3, U3⟩ := U.three hi
        rw [e3]
        wp_walk using wv_int, Int.zero_add
        obtain ⟨q1, q2⟩ := go W K1 eG AG
        exact back _ _ _ W1 U3 q1 q2
      intro σ G hG
      rw [hPv] at hG
      obtain ⟨v, ds, rfl, W, U, eG, AG⟩ := hG
      refine hR5 _ _ ?_
      clear hPv hR5
      clear R5 Pv
      refine cut_seq fun R6 hR6 => ?_
      wp_walk
      have lenU := U.len
      obtain ⟨Pv, hPv⟩ : ∃ Pv : Nat → St → Hp → Prop, ∀ i σ G, Pv i σ G = ∃ (v : Option V), σ = [some (.ref x), some (.ref l), v] ∧ WAt t.CWorker G x dx tr kn ct rc L0 ds ∧ G l = some (.lst us) ∧ PsAt G us prs := ⟨_, fun _ _ _ => rfl⟩
      refine for_rangeS (lo := 0) (c := 29) (n := 12) Pv ?_ ?_ ?_
      · rw [hPv]
        exact ⟨_, rfl, W, eG, AG⟩
      · intro i σ G hi hG
        rw [hPv] at hG
        obtain ⟨v, rfl, W, eG, AG⟩ := hG
        have back : ∀ (w : Option V) (G' : Hp), WAt t.CWorker G' x dx tr kn ct rc L0 ds → G' l = some (.lst us) → PsAt G' us prs → Pv (i + 1) [some (.ref x), some (.ref l), w] G' := fun w G' a c d => by
          rw [hPv]
          exact ⟨_, rfl, a, c, d⟩
        clear hPv
        have un := U.new (i * 29) (by omega)
        rw [show ((i * 29 : Nat) : Int) = (i : Int) * 29 by simp] at un
        wp_walk using Int.zero_add, W.ins
        refine ⟨⟨by decide, by decide⟩, mulOk (by decide) (by decide), x, dx, tr, kn, ct, rc, L0, ds, 2000 + (i : Int) * 29 / 20, 30 + (i : Int) * 29 % 20, "sum", some (5 * ((i : Int) * 29) + 1), rfl, W, by omega, fun G1 W1 K1 => ?_⟩
        rw [show stp L0 ds (2000 + (i : Int) * 29 / 20) (30 + (i : Int) * 29 % 20) "sum" (some (5 * ((i : Int) * 29) + 1)) = ds by simp only [stp, un]] at W1
        rw [show ans L0 ds (2000 + (i : Int) * 29 / 20) (30 + (i : Int) * 29 % 20) "sum" (some (5 * ((i : Int) * 29) + 1)) = some ((i : Int) * 29 + 1) by simp only [ans, un]]
        wp_walk using wv_int, Int.zero_add
        obtain ⟨q1, q2⟩ := go W K1 eG AG
        exact back _ _ W1 q1 q2
      intro σ G hG
      rw [hPv] at hG
      obtain ⟨v, rfl, W, eG, AG⟩ := hG
      refine hR6 _ _ ?_
      clear hPv hR6
      clear R6 Pv
      refine cut_seq fun R7 hR7 => ?_
      wp_walk
      refine ⟨⟨_, SqL.of eG⟩, ?_⟩
      refine lc_list (ys := us) (fun j xs G' => (xs = (List.range j).map (fun i : Nat => V.int ((i : Int) + 1)) ∧ j ≤ 20) ∧ WAt t.CWorker G' x dx tr kn ct rc L0 ds ∧ G' l = some (.lst us) ∧ PsAt G' us prs) ⟨⟨rfl, by decide⟩, W, eG, AG⟩ ?_ ?_ ?_ ?_
      · rintro j xs G' ⟨⟨rfl, _⟩, _⟩
        simp
        omega
      · rintro j xs G' ⟨_, _, h, _⟩
        exact SqL.of h
      · rintro j y xs G' hj ey ⟨⟨rfl, _⟩, W', e', A'⟩
        rw [lus] at hj
        obtain ⟨a, X, Y, ea, ep, ha⟩ := A'.at (i := j) (by simpa using hj)
        rw [ey] at ea
        cases ea
        have uo := U.old j X Y hj ep
        wp_walk using compSt, Option.join_some, ha, W'.ins
        refine ⟨x, dx, tr, kn, ct, rc, L0, ds, X, Y, "sum", some 9, rfl, W', by omega, fun G1 W1 K1 => ?_⟩
        rw [show stp L0 ds X Y "sum" (some 9) = ds by simp only [stp, uo]] at W1
        rw [show ans L0 ds X Y "sum" (some 9) = some ((j : Int) + 1) by simp only [ans, uo]]
        obtain ⟨q1, q2⟩ := go W' K1 e' A'
        refine ⟨⟨?_, by omega⟩, W1, q1, q2⟩
        rw [List.range_succ, List.map_append]
        rfl
      rintro xs G1 ⟨⟨rfl, _⟩, W1, eG1, _⟩ p1 h1
      rw [lus]
      have N1 := Kp.new (S := []) (o := .lst ((List.range 20).map (fun i : Nat => V.int ((i : Int) + 1)))) h1
      have e1 : upd G1 p1 (.lst ((List.range 20).map (fun i : Nat => V.int ((i : Int) + 1)))) p1 = some (.lst ((List.range 20).map (fun i : Nat => V.int ((i : Int) + 1)))) := upd_same
      have W2 := W1.kp0 N1
      have eG2 := N1.at eG1
      generalize upd G1 p1 (.lst ((List.range 20).map (fun i : Nat => V.int ((i : Int) + 1)))) = G2 at *
      wp_walk using eG2
      rw [lus]
      refine ⟨by omega, ?_⟩
      refine lc_range (lo := 0) (n := 20) (fun j xs G' => (xs = (List.range j).map (fun i : Nat => V.int ((i : Int) + 1)) ∧ j ≤ 20) ∧ G' = G2) ⟨⟨rfl, by decide⟩, rfl⟩ ?_ ?_ ?_
      · rintro j xs G' ⟨⟨rfl, _⟩, _⟩
        simp
        omega
      · rintro j xs G' hj ⟨⟨rfl, _⟩, rfl⟩
        wp_walk using compSt, Option.join_some, Int.zero_add
        refine ⟨?_, by omega⟩
        rw [List.range_succ, List.map_append]
        rfl
      rintro xs G3 ⟨⟨rfl, _⟩, rfl⟩ p2 h2
      have N2 := Kp.new (S := []) (o := .lst ((List.range 20).map (fun i : Nat => V.int ((i : Int) + 1)))) h2
      have e2 : upd G3 p2 (.lst ((List.range 20).map (fun i : Nat => V.int ((i : Int) + 1)))) p2 = some (.lst ((List.range 20).map (fun i : Nat => V.int ((i : Int) + 1)))) := upd_same
      have e1' := N2.at e1
      have W3 := W2.kp0 N2
      have eG3 := N2.at eG2
      generalize upd G3 p2 (.lst ((List.range 20).map (fun i : Nat => V.int ((i : Int) + 1)))) = G4 at *
      wp_walk
      have same : RcA K G4 1 p1 p2 true := by
        have := RcA.list (K := K) (H := G4) (n := 0) (e := fun _ => true) (SqL.of e1') (SqL.of e2) rfl fun j a b f1 f2 => by
          rw [f1] at f2
          cases f2
          rw [List.getElem?_map] at f1
          obtain ⟨z, _, rfl⟩ := Option.map_eq_some_iff.mp f1
          exact int_self _
        rwa [show (List.range ((List.range 20).map (fun i : Nat => V.int ((i : Int) + 1))).length).all (fun _ => true) = true by simp [List.all_eq_true]] at this
      refine ⟨true, same, ?_⟩
      wp_walk
      refine hR7 _ _ ?_
      clear hR7
      clear R7
      wp_walk using W3.ins
      refine ⟨x, dx, tr, kn, ct, rc, L0, ds, rfl, W3, fun l5 us5 h5 d5 => ?_⟩
      have N5 := Kp.new (S := []) (o := .lst us5) h5
      have e5 : upd G4 l5 (.lst us5) l5 = some (.lst us5) := upd_same
      have eG5 := N5.at eG3
      have z5 : us5.length = 360 := by
        rw [d5.len]
        omega
      generalize upd G4 l5 (.lst us5) = G5 at *
      wp_walk using e5, eG5, z5, lus, Int.cast_ofNat_Int
      refine fun d0 _ => make_w (L := []) ⟨[], upd_same, .nil⟩ fun x' dx' tr' kn' ct' rc' G6 _ W6 _ _ _ _ _ => ?_
      wp_walk using W6.ins
      refine ⟨x', dx', tr', kn', ct', rc', [], [], 0, 0, "sum", some 5, rfl, W6, by decide, fun G7 W7 K7 => ?_⟩
      rw [show ans [] [] 0 0 "sum" (some 5) = none from rfl]
      wp_walk using wv_non
      exact q _
theorem ok_lawtake {t : Ad} (T : Tx K mg t) : FnOk P w K mg base CX0 1 t.alawtake t.dlawtake ["deck", "many"] spDTake := by
  refine T.flawtake.ok sc_lawtake (fun vs H Q E h => ?_) (fun cdv A outer s H vs Q E hr h => ?_)
  · obtain ⟨r, m, n, rfl, _⟩ := h
    rfl
  · obtain ⟨r, m, n, rfl, m0, m1, ⟨c, f, s, hr0, s0, s1⟩, hn, q⟩ := h
    refine ⟨_, (pss_cons (ps_if (pt_cmpR op_eq (pe_ix ix_c (pv 0) pe_int (fun _ _ => rfl)) pe_int (nomark _)) (pss_cons (ps_set (i := 2) sc_lawtake.nd rfl (Or.inl rfl) (pe_op op_mod (pe_ix ix_c (pv 0) pe_int (fun _ _ => rfl)) (pv 1)))
      (pss_cons (ps_asg (pe_op op_fdivB (pe_ix ix_c (pv 0) pe_int (fun _ _ => rfl)) (pv 1)) (pg_sub (pv 0) pe_int set_c))
      (pss_one (ps_ret (pv 2))))) pss_nil)
      (pss_cons (ps_asg (pe_op op_addC (pe_ix ix_c (pv 0) pe_int (fun _ _ => rfl)) pe_int) (pg_sub (pv 0) pe_int set_c))
      (pss_cons (ps_set (i := 3) sc_lawtake.nd rfl (Or.inl rfl) (pe_op op_mod (pe_op op_addC (pe_op op_mul (pe_op op_mod (pe_ix ix_c (pv 0) pe_int (fun _ _ => rfl)) pe_int) (pe_op op_addC (pe_op op_mul (pe_ix ix_c (pv 0) pe_int (fun _ _ => rfl)) (pe_ix ix_c (pv 0) pe_int (fun _ _ => rfl))) pe_int)) (pe_ix ix_c (pv 0) pe_int (fun _ _ => rfl))) pe_int))
      (pss_cons (ps_set (i := 3) sc_lawtake.nd rfl (Or.inl rfl) (pe_op op_mod (pe_op op_mul (pv 3) (pv 3)) pe_int))
      (pss_one (ps_ret (pe_op op_mod (pe_op op_fdivB (pe_op op_mod (pe_op op_mul (pv 3) pe_int) pe_int) pe_int) (pv 1)))))))), ?_⟩
    try dsimp only [L2.start, m_cons, m_nil, List.cons_append, List.nil_append, List.replicate_succ, List.replicate_zero, List.length_cons, List.length_nil, Nat.reduceAdd, Nat.reduceSub, Nat.zero_add]
    wp_walk using hr0, ix32
    split
    · exact ⟨m0, ⟨m0, log2_lt m0 m1⟩, q _ _ (Int.emod_nonneg _ (by omega)) (Int.emod_lt_of_pos _ m0) ⟨_, _, _, upd_same, s0, by omega⟩ (Kp.set (by simp))⟩
    · exact ⟨mulOk (by omega) (by omega), modOk (by decide) (by decide) _, modOk (by decide) (by decide) _, modOk (by decide) (by decide) _, ⟨by decide, by decide⟩, m0, q _ _ (Int.emod_nonneg _ (by omega)) (Int.emod_lt_of_pos _ m0) ⟨_, _, _, upd_same, by omega, by omega⟩ (Kp.set (by simp))⟩
theorem ok_lawnumber {t : Ad} (T : Tx K mg t) : FnOk P w K mg base CX0 2 t.alawnumber t.dlawnumber ["deck", "small"] spDNum := by
  refine T.flawnumber.ok sc_lawnumber (fun vs H Q E h => ?_) (fun cdv A outer s H vs Q E hr h => ?_)
  · obtain ⟨r, m, n, rfl, _⟩ := h
    rfl
  · obtain ⟨r, m, n, rfl, m0, m1, hR, hn, q⟩ := h
    refine ⟨_, (pss_cons (ps_set (i := 2) sc_lawnumber.nd rfl (Or.inl rfl) (pe_lst (pa_n pe_int (pa_n pe_int (pa_n pe_int (pa_n pe_int (pa_n pe_int (pa_n pe_int (pa_n pe_int (pa_n pe_int (pa_n pe_int (pa_n pe_int (pa_n pe_int (pa_n pe_int pa_nil))))))))))))))
      (pss_cons (ps_set (i := 3) sc_lawnumber.nd rfl (Or.inl rfl) (pe_call (ok_lawtake T) (hr.mono (by omega)) rfl T.mlawtake T.flawtake.kp T.blawtake .nil pass0 (pa_n (pv 0) (pa_n pe_int pa_nil))))
      (pss_one (ps_ret (pe_ix ix_c (pe_lst (pa_n (pe_ix ix_c (pv 2) (pe_call (ok_lawtake T) (hr.mono (by omega)) rfl T.mlawtake T.flawtake.kp T.blawtake .nil pass0 (pa_n (pv 0) (pa_n pe_int pa_nil))) (fun _ _ => rfl)) (pa_n (pe_call (ok_lawtake T) (hr.mono (by omega)) rfl T.mlawtake T.flawtake.kp T.blawtake .nil pass0 (pa_n (pv 0) (pa_n (pe_op op_pow pe_int pe_int) pa_nil))) (pa_n (pe_call (ok_lawtake T) (hr.mono (by omega)) rfl T.mlawtake T.flawtake.kp T.blawtake .nil pass0 (pa_n (pv 0) (pa_n (pv 1) pa_nil))) (pa_n (pe_call (ok_lawtake T) (hr.mono (by omega)) rfl T.mlawtake T.flawtake.kp T.blawtake .nil pass0 (pa_n (pv 0) (pa_n (pv 1) pa_nil))) pa_nil))))) (pv 3) (fun _ _ => rfl)))))), ?_⟩
    try dsimp only [L2.start, m_cons, m_nil, List.cons_append, List.nil_append, List.replicate_succ, List.replicate_zero, List.length_cons, List.length_nil, Nat.reduceAdd, Nat.reduceSub, Nat.zero_add]
    wp_walk
    refine fun p hp => ⟨n, hR.new hp, by omega, fun g1 H1 a1 b1 R1 K1 => ?_⟩
    have e1 := made1 K1 hR hp
    refine ⟨_, R1, by omega, fun g2 H2 a2 b2 R2 K2 => ?_⟩
    wp_walk using K2.at1 e1 (hR.none hp)
    refine r_draw a2 b2 fun v hv => ⟨_, R2, by omega, fun g3 H3 a3 b3 R3 K3 => ⟨m0, by omega, _, R3, by omega, fun g4 H4 a4 b4 R4 K4 => ⟨m0, by omega, _, R4, by omega, fun g5 H5 a5 b5 R5 K5 => fun p6 h6 => ?_⟩⟩⟩
    obtain ⟨z, rfl⟩ : ∃ z : Int, v = .int z := by
      simp only [List.mem_cons, List.not_mem_nil, or_false] at hv
      rcases hv with rfl | rfl | rfl | rfl | rfl | rfl | rfl | rfl | rfl | rfl | rfl | rfl <;> exact ⟨_, rfl⟩
    have K := (((((Kp.new hp).trans K1).trans K2).trans K3).trans K4).trans K5
    refine r_draw a1 b1 fun u hu => ?_
    simp only [List.mem_cons, List.not_mem_nil, or_false] at hu
    have R6 := R5.new (o := .lst [.int z, .int g3, .int g4, .int g5]) h6
    rcases hu with rfl | rfl | rfl | rfl <;> exact q _ _ R6 (K.trans (Kp.new h6))
theorem ok_lawmade {t : Ad} (T : Tx K mg t) : FnOk P w K mg base CX0 1 t.alawmade t.dlawmade ["trade", "deeds", "work", "worth"] spMade := by
  refine T.flawmade.ok sc_lawmade (fun vs H Q E h => ?_) (fun cdv A outer s H vs Q E hr h => ?_)
  · obtain ⟨d, l, L, us, ds, k, w, rfl, _⟩ := h
    rfl
  · obtain ⟨d, l, L, us, ds, k, w, rfl, ⟨kvs, ed, hK⟩, hl, hD, few, q⟩ := h
    have hu := hu_of hr
    refine ⟨_, (pss_cons (ps_if (pt_cmp (pc_dnotin hu (pv 2) (pv 0))) (pss_one (ps_ret pe_non)) pss_nil)
      (pss_cons (ps_if (pt_cmpR op_eq (pe_ix ix_c (pe_dgetC hu (pv 0) (pv 2) (fun _ _ => rfl)) pe_int (fun _ _ => rfl)) pe_str (nomark _)) (pss_one (ps_ret (pe_op op_addC pe_int (pe_callB call_lenC rfl T.zlen bt_len (pa_n (pe_comp (fr := [2]) (N := ["deed", "work"]) rfl (fun _ _ h => h) (CompSc.free rfl rfl rfl rfl rfl (fun _ _ h => h) rfl (by decide) rfl (fun j hj => by rw [show j = 2 by simpa using hj]; exact ⟨_, rfl, rfl, .inl rfl⟩)) (pi_list (pv 1)) (fun C s H ex pn => ⟨pts_one (pt_cmpR op_eq (pe_ix ix_c (pv 0) pe_int (fun _ _ => rfl)) (pv 1) (nomark _)), (pv 0)⟩)) pa_nil))))) pss_nil)
      (pss_cons (ps_if (pt_cmpR op_isC (pv 3) pe_non (nomark _)) (pss_one (ps_set (i := 3) sc_lawmade.nd rfl (Or.inl rfl) pe_int)) pss_nil)
      (pss_one (ps_ret (pe_callB (call_maxC rfl) rfl T.zmax bt_max (pa_n (pe_op op_sub pe_int (pe_op op_pow pe_int pe_int)) (pa_n (pe_callB (call_minC rfl) rfl T.zmin bt_min (pa_n (pe_op op_pow pe_int pe_int) (pa_n (pe_op op_addC (pv 3) (pe_ix ix_c (pe_dgetC hu (pv 0) (pv 2) (fun _ _ => rfl)) pe_int (fun _ _ => rfl))) pa_nil))) pa_nil)))))))), ?_⟩
    try dsimp only [L2.start, m_cons, m_nil, List.cons_append, List.nil_append, List.replicate_succ, List.replicate_zero, List.length_cons, List.length_nil, Nat.reduceAdd, Nat.reduceSub, Nat.zero_add]
    have hv := hK.val k
    generalize hz : valV kvs (.inr k) = z at hv
    have lD := hD.len
    wp_walk
    refine ⟨_, DGet.k (k := .inr k) ed, ?_⟩
    rw [hz]
    cases hv with
    | none y =>
      rw [show made L ((cnt k ds : Nat) + 1) k w = none by simp [made, y]] at q
      wp_walk using Option.isSome_none, Bool.not_false
      exact q _ Kp.refl
    | cnt y yc =>
      rw [show made L ((cnt k ds : Nat) + 1) k w = some ((cnt k ds : Nat) + 1) by simp [made, y]] at q
      wp_walk using Option.isSome_some, Bool.not_true, ed, hz, yc
      refine ⟨⟨_, SqL.of hl⟩, ?_⟩
      refine lc_list (ys := us) (fun j xs G => G = H ∧ xs.length = cnt k (ds.take j)) ⟨rfl, rfl⟩ ?_ ?_ ?_ ?_
      · rintro j xs G ⟨_, e⟩
        have := List.length_filter_le (fun d : Deed => decide (d.k = k)) (ds.take j)
        rw [List.length_take] at this
        unfold cnt at e
        omega
      · rintro j xs G ⟨rfl, _⟩
        exact SqL.of hl
      · rintro j v xs G hj hv ⟨rfl, e⟩
        obtain ⟨a, d, rfl, ed', ha⟩ := hD.at hv
        have et : cnt k (ds.take (j + 1)) = cnt k (ds.take j) + (if d.k = k then 1 else 0) := by
          rw [← cnt_snoc, List.take_add_one, ed']
          rfl
        unfold Deed.vs at ha
        wp_walk using compSt, Option.join_some, ha
        rw [et, ← e]
        by_cases h : d.k = k
        · simp [h]
        · simp [h]
      · rintro xs G ⟨rfl, e⟩ p hp
        rw [lD, List.take_length] at e
        wp_walk
        have := q _ (Kp.new (o := .lst xs) hp)
        rw [← e] at this
        rwa [Int.add_comm 1]
    | @sum c m y yc =>
      rw [show made L ((cnt k ds : Nat) + 1) k w = some (clamp (num w + m)) by simp [made, y]] at q
      wp_walk using Option.isSome_some, Bool.not_true, ed, hz, yc
      cases w with
      | none =>
        wp_walk using ed, hz, yc
        exact q _ Kp.refl
      | some i =>
        wp_walk using ed, hz, yc
        exact q _ Kp.refl
theorem ok_lawtoldright {t : Ad} (T : Tx K mg t) : FnOk P w K mg base CX0 2 t.alawtoldright t.dlawtoldright ["worker", "deeds"] (spRight t.CWorker) := by
  refine T.flawtoldright.ok sc_lawtoldright (fun vs H Q E h => ?_) (fun cdv A outer s H vs Q E hr h => ?_)
  · obtain ⟨x, dx, tr, kn, ct, rc, l, L, ds, us, rfl, _⟩ := h
    rfl
  · obtain ⟨x, dx, tr, kn, ct, rc, l, L, ds, us, rfl, W, hl, hD, q⟩ := h
    refine ⟨_, (pss_cons (ps_set (i := 2) sc_lawtoldright.nd rfl (Or.inl rfl) (pe_meth0 (pv 0) T.clWorker T.meWorkerdeeds (ok_Workerdeeds T) (hr.mono (by omega)) T.bWorkerdeeds .nil pass0))
      (pss_cons (ps_if (PW.pt (pw_or (pt_not (pt_val (pe_callB call_isiL rfl T.zisinstance bt_isinstance (pa_n (pv 2) (pa_n (pe_bltn (v := .ty "list") rfl T.zlist bt_list rfl) pa_nil))))) (pw_or1 (pt_cmpR (op_neA 2 (hu_n hr (by decide))) (pv 2) (pv 1) (nomark _))))) (pss_one (ps_ret pe_bl)) pss_nil)
      (pss_cons (ps_expr (pe_appC (pv 2) pe_str))
      (pss_one (ps_ret (pe_cmpR (op_eqA 2 (hu_n hr (by decide))) (pe_meth0 (pv 0) T.clWorker T.meWorkerdeeds (ok_Workerdeeds T) (hr.mono (by omega)) T.bWorkerdeeds .nil pass0) (pv 1) (nomark _))))))), ?_⟩
    try dsimp only [L2.start, m_cons, m_nil, List.cons_append, List.nil_append, List.replicate_succ, List.replicate_zero, List.length_cons, List.length_nil, Nat.reduceAdd, Nat.reduceSub, Nat.zero_add]
    wp_walk using W.ins
    refine ⟨x, dx, tr, kn, ct, rc, L, ds, rfl, W, fun l1 us1 h1 d1 => ?_⟩
    have N1 := Kp.new (S := []) (o := .lst us1) h1
    have e1 : upd H l1 (.lst us1) l1 = some (.lst us1) := upd_same
    have W1 := W.kp0 N1
    have hl1 := N1.at hl
    have hD1 := hD.kt (tup_nil N1)
    have d1' := d1.kt (tup_nil N1)
    have ld := d1.len
    have few := W.few
    have fr : ∀ b o, H b = some o → b ≠ l1 := fun b o hb => ne_of_none hb h1
    generalize upd H l1 (.lst us1) = G1 at *
    wp_walk using e1
    refine ⟨true, ds_eq e1 hl1 d1' hD1, ?_⟩
    wp_walk using e1
    have N2 : Kp [] H (upd G1 l1 (.lst (us1 ++ [.str "more"]))) := fun b o hb _ => by
      rw [upd_ne (fr b o hb)]
      exact N1.at hb
    have W2 := W.kp0 N2
    have hl2 := N2.at hl
    have hD2 := hD.kt (tup_nil N2)
    generalize upd G1 l1 (.lst (us1 ++ [.str "more"])) = G2 at *
    wp_walk using W2.ins
    refine ⟨by omega, x, dx, tr, kn, ct, rc, L, ds, rfl, W2, fun l3 us3 h3 d3 => ?_⟩
    have N3 := Kp.new (S := []) (o := .lst us3) h3
    wp_walk
    exact ⟨true, ds_eq upd_same (N3.at hl2) (d3.kt (tup_nil N3)) (hD2.kt (tup_nil N3)), q _ (N2.trans N3)⟩
theorem ok_law {t : Ad} (T : Tx K mg t) : FnOk P w K mg base CX0 6 t.alaw t.dlaw ["script"] (spLaw K) := by
  refine T.flaw.ok sc_law (fun vs H Q E h => ?_) (fun cdv A outer s H vs Q E hr h => ?_)
  · obtain ⟨a, ns, rfl, _⟩ := h
    rfl
  · obtain ⟨a, ns, rfl, hS, h63, q⟩ := h
    have hu := hu_of hr
    refine ⟨_, (pss_cons (ps_set (i := 1) sc_law.nd rfl (Or.inl rfl) (pe_call (ok_lawcellat T) (hr.mono (by omega)) rfl T.mlawcellat T.flawcellat.kp T.blawcellat .nil pass0 (pa_n (pv 0) (pa_n pe_int pa_nil))))
      (pss_cons (ps_set (i := 2) sc_law.nd rfl (Or.inl rfl) (pe_ix ix_c (pe_lst (pa_n (pe_op op_pow pe_int pe_int) (pa_n (pe_un un_neg (pe_op op_pow pe_int pe_int)) pa_nil))) (pe_op op_mod (pe_op op_fdivB (pv 1) pe_int) pe_int) (fun _ _ => rfl)))
      (pss_cons (ps_set (i := 3) sc_law.nd rfl (Or.inl rfl) (pe_disp (pps_cons pe_str (pe_tup (pa_n pe_str (pa_n (pe_op op_sub (pe_op op_mod (pe_op op_fdivB (pv 1) pe_int) pe_int) pe_int) pa_nil))) (pps_cons pe_str (pe_tup (pa_n pe_str (pa_n (pv 2) pa_nil))) (pps_cons pe_str (pe_tup (pa_n pe_str pa_nil)) (pps_cons pe_str (pe_tup (pa_n pe_str pa_nil)) pps_nil)))) rfl rfl (List.cons_ne_nil _ _) (by decide)))
      (pss_cons (ps_set (i := 4) sc_law.nd rfl (Or.inl rfl) (pe_callTy call_dictC rfl T.zdict bt_dict (pa_n (pv 3) pa_nil)))
      (pss_cons (ps_set (i := 5) sc_law.nd rfl (Or.inl rfl) (pe_lst (pa_n (pe_make T.mkWorker (ok_Workerinit T) (hr.mono (by omega)) rfl T.mWorker T.bWorkerinit .nil pass0 (pa_n (pv 4) pa_nil)) (pa_n (pe_make T.mkWorker (ok_Workerinit T) (hr.mono (by omega)) rfl T.mWorker T.bWorkerinit .nil pass0 (pa_n (pe_callTy call_dictC rfl T.zdict bt_dict (pa_n (pv 3) pa_nil)) pa_nil)) pa_nil))))
      (pss_cons (ps_if (pt_cmpR (op_neDS (Nat.lt_of_succ_lt hu)) (pv 4) (pv 3) (nomark _)) (pss_one (ps_ret pe_bl)) pss_nil)
      (pss_cons (ps_expr (pe_dclear (pv 4)))
      (pss_cons (ps_set (i := 6) sc_law.nd rfl (Or.inl rfl) (pe_lst (pa_n (pe_lst pa_nil) (pa_n (pe_lst pa_nil) pa_nil))))
      (pss_cons (ps_set (i := 7) sc_law.nd rfl (Or.inl rfl) (pe_lst (pa_n pe_dnewT (pa_n pe_dnewT pa_nil))))
      (pss_cons (ps_set (i := 8) sc_law.nd rfl (Or.inl rfl) (pe_lst pa_nil))
      (pss_cons (ps_for PassesOwn.never rfl (pi_list (pe_op op_addC (pe_lst (pa_n pe_int (pa_n pe_int pa_nil))) (pe_slice sl_list (pv 0) po_none (po_some pe_int)))) (pg_name (i := 9) sc_law.nd rfl (Or.inl rfl)) (pss_cons (ps_set (i := 10) sc_law.nd rfl (Or.inl rfl) (pe_lst (pa_n (pv 9) (pa_n (pe_op op_mod (pv 1) pe_int) (pa_n pe_int pa_nil)))))
      (pss_cons (ps_set (i := 11) sc_law.nd rfl (Or.inl rfl) (pe_call (ok_lawtake T) (hr.mono (by omega)) rfl T.mlawtake T.flawtake.kp T.blawtake .nil pass0 (pa_n (pv 10) (pa_n pe_int pa_nil))))
      (pss_cons (ps_set (i := 12) sc_law.nd rfl (Or.inl rfl) (pe_tup (pa_n (pe_call (ok_lawnumber T) (hr.mono (by omega)) rfl T.mlawnumber T.flawnumber.kp T.blawnumber .nil pass0 (pa_n (pv 10) (pa_n pe_int pa_nil))) (pa_n (pe_call (ok_lawnumber T) (hr.mono (by omega)) rfl T.mlawnumber T.flawnumber.kp T.blawnumber .nil pass0 (pa_n (pv 10) (pa_n pe_int pa_nil))) pa_nil))))
      (pss_cons (ps_if (PW.pt (pw_and (pt_cmpR (op_neT0 (Nat.lt_of_succ_lt hu)) (pe_ix ix_c (pv 7) (pv 11) (fun _ _ => rfl)) pe_dnewT (nomark _)) (pw_and1 (pt_cmpR op_eq (pe_call (ok_lawtake T) (hr.mono (by omega)) rfl T.mlawtake T.flawtake.kp T.blawtake .nil pass0 (pa_n (pv 10) (pa_n pe_int pa_nil))) pe_int (nomark _))))) (pss_one (ps_set (i := 12) sc_law.nd rfl (Or.inl rfl) (pe_ix ix_c (pe_callB (call_sortT rfl) rfl T.zsorted bt_sorted (pa_n (pe_ix ix_c (pv 7) (pv 11) (fun _ _ => rfl)) pa_nil)) (pe_call (ok_lawtake T) (hr.mono (by omega)) rfl T.mlawtake T.flawtake.kp T.blawtake .nil pass0 (pa_n (pv 10) (pa_n (pe_callB call_lenDT rfl T.zlen bt_len (pa_n (pe_ix ix_c (pv 7) (pv 11) (fun _ _ => rfl)) pa_nil)) pa_nil))) (fun _ _ => rfl)))) pss_nil)
      (pss_cons (ps_set (i := 13) sc_law.nd rfl (Or.inl rfl) (pe_ix ix_c (pe_lst (pa_n pe_str (pa_n pe_str (pa_n pe_str (pa_n pe_str (pa_n pe_str pa_nil)))))) (pe_call (ok_lawtake T) (hr.mono (by omega)) rfl T.mlawtake T.flawtake.kp T.blawtake .nil pass0 (pa_n (pv 10) (pa_n pe_int pa_nil))) (fun _ _ => rfl)))
      (pss_cons (ps_set (i := 14) sc_law.nd rfl (Or.inl rfl) (pe_ix ix_c (pe_lst (pa_n pe_non (pa_n pe_int (pa_n pe_int (pa_n (pe_un un_neg pe_int) (pa_n (pe_op op_pow pe_int pe_int) (pa_n (pe_un un_neg (pe_op op_pow pe_int pe_int)) (pa_n (pe_op op_sub (pe_op op_pow pe_int pe_int) pe_int) (pa_n (pe_call (ok_lawtake T) (hr.mono (by omega)) rfl T.mlawtake T.flawtake.kp T.blawtake .nil pass0 (pa_n (pv 10) (pa_n pe_int pa_nil))) pa_nil))))))))) (pe_call (ok_lawtake T) (hr.mono (by omega)) rfl T.mlawtake T.flawtake.kp T.blawtake .nil pass0 (pa_n (pv 10) (pa_n pe_int pa_nil))) (fun _ _ => rfl)))
      (pss_cons (ps_if (pt_cmp (pc_dnotin hu (pv 12) (pe_ix ix_c (pv 7) (pv 11) (fun _ _ => rfl)))) (pss_cons (ps_dput hu (pe_ix ix_c (pv 7) (pv 11) (fun _ _ => rfl)) (pv 12) (pe_call (ok_lawmade T) (hr.mono (by omega)) rfl T.mlawmade T.flawmade.kp T.blawmade .nil pass0 (pa_n (pv 3) (pa_n (pe_ix ix_c (pv 6) (pv 11) (fun _ _ => rfl)) (pa_n (pv 13) (pa_n (pv 14) pa_nil))))) rfl)
      (pss_one (ps_expr (pe_appC (pe_ix ix_c (pv 6) (pv 11) (fun _ _ => rfl)) (pe_op op_addC (pv 12) (pe_tup (pa_n (pv 13) (pa_n (pv 14) (pa_n (pe_dget hu (pe_ix ix_c (pv 7) (pv 11) (fun _ _ => rfl)) (pv 12) (fun _ _ => rfl)) pa_nil))))))))) pss_nil)
      (pss_cons (ps_set (i := 15) sc_law.nd rfl (Or.inl rfl) (pe_meth (pe_ix ix_c (pv 5) (pv 11) (fun _ _ => rfl)) T.clWorker T.meWorkerdo (ok_Workerdo T) (hr.mono (by omega)) T.bWorkerdo .nil pass0 (pa_n (pe_ix ix_c (pv 12) pe_int (fun _ _ => rfl)) (pa_n (pe_ix ix_c (pv 12) pe_int (fun _ _ => rfl)) (pa_n (pv 13) (pa_n (pv 14) pa_nil))))))
      (pss_cons (ps_if (PW.pt (pw_or (pt_cmpR op_ne (pv 15) (pe_dget hu (pe_ix ix_c (pv 7) (pv 11) (fun _ _ => rfl)) (pv 12) (fun _ _ => rfl)) (nomark _)) (pw_or (pt_val (pe_callB call_isiC rfl T.zisinstance bt_isinstance (pa_n (pv 15) (pa_n (pe_bltn (v := .ty "bool") rfl T.zbool bt_bool rfl) pa_nil)))) (pw_or1 (pt_not (pt_val (pe_call (ok_lawtoldright T) (hr.mono (by omega)) rfl T.mlawtoldright T.flawtoldright.kp T.blawtoldright .nil pass0 (pa_n (pe_ix ix_c (pv 5) (pv 11) (fun _ _ => rfl)) (pa_n (pe_ix ix_c (pv 6) (pv 11) (fun _ _ => rfl)) pa_nil))))))))) (pss_one (ps_ret pe_bl)) pss_nil)
      (pss_one (ps_expr (pe_appC (pv 8) (pe_lst (pa_n (pe_meth0 (pe_ix ix_c (pv 5) (pv 11) (fun _ _ => rfl)) T.clWorker T.meWorkerdeeds (ok_Workerdeeds T) (hr.mono (by omega)) T.bWorkerdeeds .nil pass0) (pa_n (pe_callTy call_lstC rfl T.zlist bt_list (pa_n (pe_ix ix_c (pv 6) (pv 11) (fun _ _ => rfl)) pa_nil)) pa_nil))))))))))))))))
      (pss_cons (ps_if (pt_cmpR (op_neA 1 (hu_n hr (by decide))) (pe_comp (cl := []) (fr := []) (N := ["one"]) rfl (fun _ _ h => h) (CompSc.nofree rfl rfl rfl rfl) (pi_list (pv 8)) (fun C s H ex pn => ⟨pts_one (pt_cmpR (op_ne2 K rfl hr) (pe_ix ix_c (pv 0) pe_int (fun _ _ => rfl)) (pe_ix ix_c (pv 0) pe_int (fun _ _ => rfl)) (nomark _)), (pv 0)⟩)) (pe_lst pa_nil) (nomark _)) (pss_one (ps_ret pe_bl)) pss_nil)
      (pss_cons (ps_if (PW.pt (pw_or (pt_not (pt_val (pe_call (ok_lawtoldright T) (hr.mono (by omega)) rfl T.mlawtoldright T.flawtoldright.kp T.blawtoldright .nil pass0 (pa_n (pe_ix ix_c (pv 5) pe_int (fun _ _ => rfl)) (pa_n (pe_ix ix_c (pv 6) pe_int (fun _ _ => rfl)) pa_nil))))) (pw_or1 (pt_not (pt_val (pe_call (ok_lawtoldright T) (hr.mono (by omega)) rfl T.mlawtoldright T.flawtoldright.kp T.blawtoldright .nil pass0 (pa_n (pe_ix ix_c (pv 5) pe_int (fun _ _ => rfl)) (pa_n (pe_ix ix_c (pv 6) pe_int (fun _ _ => rfl)) pa_nil)))))))) (pss_one (ps_ret pe_bl)) pss_nil)
      (pss_one (ps_ret (pe_call0 (ok_lawunlikeorders T) (hr.mono (by omega)) rfl T.mlawunlikeorders T.flawunlikeorders.kp T.blawunlikeorders .nil pass0)))))))))))))))), ?_⟩
    try dsimp only [L2.start, m_cons, m_nil, List.cons_append, List.nil_append, List.replicate_succ, List.replicate_zero, List.length_cons, List.length_nil, Nat.reduceAdd, Nat.reduceSub, Nat.zero_add]
    refine cut_seq fun R1 hR1 => ?_
    wp_walk
    refine ⟨a, ns, rfl, hS, h63, fun hd => ?_⟩

    refine hR1 _ _ ?_
    clear hR1
    clear R1
    refine cut_seq fun R2 hR2 => ?_
    wp_walk
    refine fun p0 h0 => ⟨⟨by decide, by decide⟩, r_draw (Int.emod_nonneg _ (by decide)) (Int.emod_lt_of_pos _ (by decide)) fun v hv => ?_⟩
    obtain ⟨vast, rfl⟩ : ∃ vast : Int, v = .int vast := by
      simp only [List.mem_cons, List.not_mem_nil, or_false] at hv
      rcases hv with rfl | rfl <;> exact ⟨_, rfl⟩
    wp_walk
    have KH := Kp.new (S := []) (o := .lst [.int 1000000000, .int (-1000000000)]) h0
    generalize upd H p0 (.lst [.int 1000000000, .int (-1000000000)]) = G0 at *
    clear h0 hv

    refine hR2 _ _ ?_
    clear hR2
    clear R2
    refine cut_seq fun R3 hR3 => ?_
    wp_walk
    refine fun d hd0 => ⟨⟨by decide, by decide⟩, fun p1 h1 p2 h2 p3 h3 p4 h4 => ?_⟩
    have dH := KH.same.free hd0
    have N0 := Kp.new (S := []) (o := .dK []) hd0
    have f0 : (upd G0 d (.dK [])) d = some (.dK []) := upd_same
    have f1 : (upd (upd G0 d (.dK [])) p1 (.tup [.str "sum", .int (hd / 2 % 20 - 9)])) p1 = some (.tup [.str "sum", .int (hd / 2 % 20 - 9)]) := upd_same
    have f2 : (upd (upd (upd G0 d (.dK [])) p1 (.tup [.str "sum", .int (hd / 2 % 20 - 9)])) p2 (.tup [.str "sum", .int vast])) p2 = some (.tup [.str "sum", .int vast]) := upd_same
    have f3 : (upd (upd (upd (upd G0 d (.dK [])) p1 (.tup [.str "sum", .int (hd / 2 % 20 - 9)])) p2 (.tup [.str "sum", .int vast])) p3 (.tup [.str "count"])) p3 = some (.tup [.str "count"]) := upd_same
    have f4 : (upd (upd (upd (upd (upd G0 d (.dK [])) p1 (.tup [.str "sum", .int (hd / 2 % 20 - 9)])) p2 (.tup [.str "sum", .int vast])) p3 (.tup [.str "count"])) p4 (.tup [.str "count"])) p4 = some (.tup [.str "count"]) := upd_same
    have N1 := Kp.new (S := []) (o := (.tup [.str "sum", .int (hd / 2 % 20 - 9)])) h1
    have N2 := Kp.new (S := []) (o := (.tup [.str "sum", .int vast])) h2
    have N3 := Kp.new (S := []) (o := (.tup [.str "count"])) h3
    have N4 := Kp.new (S := []) (o := (.tup [.str "count"])) h4
    have g0 := (((N1.trans N2).trans N3).trans N4).at f0
    have g1 := ((N2.trans N3).trans N4).at f1
    have g2 := (N3.trans N4).at f2
    have g3 := N4.at f3
    replace KH := KH.trans ((((N0.trans N1).trans N2).trans N3).trans N4)
    generalize (upd (upd (upd (upd (upd G0 d (.dK [])) p1 (.tup [.str "sum", .int (hd / 2 % 20 - 9)])) p2 (.tup [.str "sum", .int vast])) p3 (.tup [.str "count"])) p4 (.tup [.str "count"])) = G1 at *
    clear N0 N1 N2 N3 N4 f0 f1 f2 f3 h1 h2 h3 h4 hd0
    refine ⟨g0, [(.inr "sum", .ref p1), (.inr "vast", .ref p2), (.inr "cnt", .ref p3), (.inr "tally", .ref p4)], rfl, by simp, ?_⟩
    rw [merge4]
    have K4 : Kp [d] G1 (upd G1 d (.dK [(.inr "sum", .ref p1), (.inr "vast", .ref p2), (.inr "cnt", .ref p3), (.inr "tally", .ref p4)])) := Kp.set (by simp)
    have ed : upd G1 d (.dK [(.inr "sum", .ref p1), (.inr "vast", .ref p2), (.inr "cnt", .ref p3), (.inr "tally", .ref p4)]) d = some (.dK [(.inr "sum", .ref p1), (.inr "vast", .ref p2), (.inr "cnt", .ref p3), (.inr "tally", .ref p4)]) := upd_same
    have g5 := K4.at1 g1 (ne_of g1 g0 (by intro z; cases z))
    have g6 := K4.at1 g2 (ne_of g2 g0 (by intro z; cases z))
    have g7 := K4.at1 g3 (ne_of g3 g0 (by intro z; cases z))
    have g8 := K4.at1 f4 (ne_of f4 g0 (by intro z; cases z))
    replace KH := Kp.drop ((KH.mono (by simp)).trans K4) dH
    generalize upd G1 d (.dK [(.inr "sum", .ref p1), (.inr "vast", .ref p2), (.inr "cnt", .ref p3), (.inr "tally", .ref p4)]) = G2 at *
    generalize hL : ([("sum", some (hd / 2 % 20 - 9)), ("vast", some vast), ("cnt", none), ("tally", none)] : Trd) = L
    have hK : TrK G2 [(.inr "sum", .ref p1), (.inr "vast", .ref p2), (.inr "cnt", .ref p3), (.inr "tally", .ref p4)] L := by
      subst hL
      exact .sum g5 (.sum g6 (.cnt g7 (.cnt g8 .nil)))
    have v4 := val4 (a := p1) (b := p2) (c := p3) (d := p4)
    generalize ([(.inr "sum", .ref p1), (.inr "vast", .ref p2), (.inr "cnt", .ref p3), (.inr "tally", .ref p4)] : List (Key × V)) = kvs at *
    clear K4 g0 g1 g2 g3 f4 g5 g6 g7 g8 hL dH

    refine hR3 _ _ ?_
    clear hR3
    clear R3
    refine cut_seq fun R4 hR4 => ?_
    wp_walk using ed
    refine fun he h1 => ?_
    have heH := KH.same.free h1
    have N1 := Kp.new (S := []) (o := .dK kvs) h1
    have eh : upd G2 he (.dK kvs) he = some (.dK kvs) := upd_same
    have nhd : he ≠ d := (ne_of_none ed h1).symm
    replace KH := KH.trans N1
    replace ed := N1.at ed
    replace hK := hK.kt (tup_nil N1)
    generalize upd G2 he (.dK kvs) = G3 at *
    clear N1 h1

    refine hR4 _ _ ?_
    clear hR4
    clear R4
    refine cut_seq fun R5 hR5 => ?_
    wp_walk
    refine make_w (L := L) ⟨kvs, eh, hK⟩ fun x0 dx0 tr0 kn0 ct0 rc0 G4 K4 W0 _ i2 _ i4 _ => ?_
    have n0d : d ≠ ct0 := ne_of_none ed i4
    have n0h : ct0 ≠ he := (ne_of_none eh i4).symm
    have n0t : tr0 ≠ he := (ne_of_none eh i2).symm
    replace KH := KH.trans K4
    replace ed := K4.at ed
    replace eh := K4.at eh
    replace hK := hK.kt (tup_nil K4)
    clear K4
    wp_walk using ed
    refine fun pc h1 => ?_
    have ec : upd G4 pc (.dK kvs) pc = some (.dK kvs) := upd_same
    have N1 := Kp.new (S := []) (o := .dK kvs) h1
    replace KH := KH.trans N1
    replace ed := N1.at ed
    replace eh := N1.at eh
    replace hK := hK.kt (tup_nil N1)
    replace W0 := W0.kp0 N1
    generalize upd G4 pc (.dK kvs) = G5 at *
    clear N1 h1 i2 i4
    refine make_w (L := L) ⟨kvs, ec, hK⟩ fun x1 dx1 tr1 kn1 ct1 rc1 G6 K4 W1 _ i2 i3 i4 i5 => ?_
    have n1d : d ≠ ct1 := ne_of_none ed i4
    have n1h : ct1 ≠ he := (ne_of_none eh i4).symm
    have n1t : tr1 ≠ he := (ne_of_none eh i2).symm
    have nkn : kn0 ≠ kn1 := ne_of_none W0.hkn i3
    have nct : ct0 ≠ ct1 := let ⟨_, z, _⟩ := W0.hct; ne_of_none z i4
    have ntc : tr0 ≠ ct1 := let ⟨_, z, _⟩ := W0.htr; ne_of_none z i4
    have nuc : tr1 ≠ ct0 := let ⟨_, z, _⟩ := W0.hct; (ne_of_none z i2).symm
    have nrc : rc0 ≠ rc1 := let ⟨_, z, _⟩ := W0.hrc; ne_of_none z i5
    replace KH := KH.trans K4
    replace ed := K4.at ed
    replace eh := K4.at eh
    replace hK := hK.kt (tup_nil K4)
    replace W0 := W0.kp0 K4
    clear K4 i2 i3 i4 i5 ec

    refine fun wl h1 => ?_
    have ewl : upd G6 wl (.lst [.ref x0, .ref x1]) wl = some (.lst [.ref x0, .ref x1]) := upd_same
    have N1 := Kp.new (S := []) (o := .lst [.ref x0, .ref x1]) h1
    have n_rc0_wl : rc0 ≠ wl := let ⟨_, z, _⟩ := W0.hrc; ne_of_none z h1
    have n_rc1_wl : rc1 ≠ wl := let ⟨_, z, _⟩ := W1.hrc; ne_of_none z h1
    replace KH := KH.trans N1
    replace ed := N1.at ed
    try replace eh := N1.at eh
    replace hK := hK.kt (tup_nil N1)
    replace W0 := W0.kp0 N1
    replace W1 := W1.kp0 N1
    generalize upd G6 wl (.lst [.ref x0, .ref x1]) = G7 at *
    clear N1 h1

    refine hR5 _ _ ?_
    clear hR5
    clear R5
    refine cut_seq fun R6 hR6 => ?_
    wp_walk
    refine ⟨kvs, eh, ed, v4, ?_⟩
    wp_walk
    refine hR6 _ _ ?_
    clear hR6
    clear R6
    refine cut_seq fun R7 hR7 => ?_
    wp_walk using eh
    have K4 : Kp [he] G7 (upd G7 he (.dK [])) := Kp.set (by simp)
    have t4 := tup_kp K4 fun b hb xs z => by
      rw [show b = he by simpa using hb, eh] at z
      cases z
    replace KH := Kp.drop ((KH.mono (by simp)).trans K4) heH
    replace ed := K4.at1 ed nhd.symm
    replace ewl := K4.at1 ewl (ne_of ewl eh (by intro z; cases z))
    replace hK := hK.kt t4
    replace W0 : WAt t.CWorker (upd G7 he (.dK [])) x0 dx0 tr0 kn0 ct0 rc0 L [] := by
      obtain ⟨_, r1, _⟩ := W0.hrc
      exact W0.kp K4 t4 (by simpa using ne_of W0.ins eh (by intro z; cases z)) (by simpa using n0t) (by simpa using ne_of W0.hkn eh (by intro z; cases z)) (by simpa using n0h) (by simpa using ne_of r1 eh (by intro z; cases z))
    replace W1 : WAt t.CWorker (upd G7 he (.dK [])) x1 dx1 tr1 kn1 ct1 rc1 L [] := by
      obtain ⟨_, r1, _⟩ := W1.hrc
      exact W1.kp K4 t4 (by simpa using ne_of W1.ins eh (by intro z; cases z)) (by simpa using n1t) (by simpa using ne_of W1.hkn eh (by intro z; cases z)) (by simpa using n1h) (by simpa using ne_of r1 eh (by intro z; cases z))
    generalize upd G7 he (.dK []) = G8 at *
    clear K4 t4 eh heH nhd n0h n0t n1h n1t v4

    refine hR7 _ _ ?_
    clear hR7
    clear R7
    refine cut_seq fun R8 hR8 => ?_
    wp_walk
    refine fun d0 h1 => ?_
    have ed0 : upd G8 d0 (.lst []) d0 = some (.lst []) := upd_same
    have N1 := Kp.new (S := []) (o := .lst []) h1
    have n_rc0_d0 : rc0 ≠ d0 := let ⟨_, z, _⟩ := W0.hrc; ne_of_none z h1
    have n_rc1_d0 : rc1 ≠ d0 := let ⟨_, z, _⟩ := W1.hrc; ne_of_none z h1
    have n_wl_d0 : wl ≠ d0 := ne_of_none ewl h1
    replace ewl := N1.at ewl
    replace KH := KH.trans N1
    replace ed := N1.at ed
    try replace eh := N1.at eh
    replace hK := hK.kt (tup_nil N1)
    replace W0 := W0.kp0 N1
    replace W1 := W1.kp0 N1
    generalize upd G8 d0 (.lst []) = G9 at *
    clear N1 h1

    refine fun d1 h1 => ?_
    have ed1 : upd G9 d1 (.lst []) d1 = some (.lst []) := upd_same
    have N1 := Kp.new (S := []) (o := .lst []) h1
    have n_rc0_d1 : rc0 ≠ d1 := let ⟨_, z, _⟩ := W0.hrc; ne_of_none z h1
    have n_rc1_d1 : rc1 ≠ d1 := let ⟨_, z, _⟩ := W1.hrc; ne_of_none z h1
    have n_wl_d1 : wl ≠ d1 := ne_of_none ewl h1
    have n_d0_d1 : d0 ≠ d1 := ne_of_none ed0 h1
    replace ewl := N1.at ewl
    replace ed0 := N1.at ed0
    replace KH := KH.trans N1
    replace ed := N1.at ed
    try replace eh := N1.at eh
    replace hK := hK.kt (tup_nil N1)
    replace W0 := W0.kp0 N1
    replace W1 := W1.kp0 N1
    generalize upd G9 d1 (.lst []) = G10 at *
    clear N1 h1

    refine fun dl h1 => ?_
    have edl : upd G10 dl (.lst [.ref d0, .ref d1]) dl = some (.lst [.ref d0, .ref d1]) := upd_same
    have N1 := Kp.new (S := []) (o := .lst [.ref d0, .ref d1]) h1
    have n_rc0_dl : rc0 ≠ dl := let ⟨_, z, _⟩ := W0.hrc; ne_of_none z h1
    have n_rc1_dl : rc1 ≠ dl := let ⟨_, z, _⟩ := W1.hrc; ne_of_none z h1
    have n_wl_dl : wl ≠ dl := ne_of_none ewl h1
    have n_d0_dl : d0 ≠ dl := ne_of_none ed0 h1
    have n_d1_dl : d1 ≠ dl := ne_of_none ed1 h1
    replace ewl := N1.at ewl
    replace ed0 := N1.at ed0
    replace ed1 := N1.at ed1
    replace KH := KH.trans N1
    replace ed := N1.at ed
    try replace eh := N1.at eh
    replace hK := hK.kt (tup_nil N1)
    replace W0 := W0.kp0 N1
    replace W1 := W1.kp0 N1
    generalize upd G10 dl (.lst [.ref d0, .ref d1]) = G11 at *
    clear N1 h1

    refine hR8 _ _ ?_
    clear hR8
    clear R8
    refine cut_seq fun R9 hR9 => ?_
    wp_walk
    refine fun k0 h1 => ?_
    have ek0 : upd G11 k0 (.dT []) k0 = some (.dT []) := upd_same
    have N1 := Kp.new (S := []) (o := .dT []) h1
    have n_kn0_k0 : kn0 ≠ k0 := ne_of_none W0.hkn h1
    have n_kn1_k0 : kn1 ≠ k0 := ne_of_none W1.hkn h1
    replace ewl := N1.at ewl
    replace ed0 := N1.at ed0
    replace ed1 := N1.at ed1
    replace edl := N1.at edl
    replace KH := KH.trans N1
    replace ed := N1.at ed
    replace hK := hK.kt (tup_nil N1)
    replace W0 := W0.kp0 N1
    replace W1 := W1.kp0 N1
    generalize upd G11 k0 (.dT []) = G12 at *
    clear N1 h1

    refine fun k1 h1 => ?_
    have ek1 : upd G12 k1 (.dT []) k1 = some (.dT []) := upd_same
    have N1 := Kp.new (S := []) (o := .dT []) h1
    have n_kn0_k1 : kn0 ≠ k1 := ne_of_none W0.hkn h1
    have n_kn1_k1 : kn1 ≠ k1 := ne_of_none W1.hkn h1
    have n_k0_k1 : k0 ≠ k1 := ne_of_none ek0 h1
    replace ewl := N1.at ewl
    replace ed0 := N1.at ed0
    replace ed1 := N1.at ed1
    replace edl := N1.at edl
    replace ek0 := N1.at ek0
    replace KH := KH.trans N1
    replace ed := N1.at ed
    replace hK := hK.kt (tup_nil N1)
    replace W0 := W0.kp0 N1
    replace W1 := W1.kp0 N1
    generalize upd G12 k1 (.dT []) = G13 at *
    clear N1 h1

    refine fun kl h1 => ?_
    have ekl : upd G13 kl (.lst [.ref k0, .ref k1]) kl = some (.lst [.ref k0, .ref k1]) := upd_same
    have N1 := Kp.new (S := []) (o := .lst [.ref k0, .ref k1]) h1
    have n_rc0_kl : rc0 ≠ kl := let ⟨_, z, _⟩ := W0.hrc; ne_of_none z h1
    have n_rc1_kl : rc1 ≠ kl := let ⟨_, z, _⟩ := W1.hrc; ne_of_none z h1
    have n_wl_kl : wl ≠ kl := ne_of_none ewl h1
    have n_d0_kl : d0 ≠ kl := ne_of_none ed0 h1
    have n_d1_kl : d1 ≠ kl := ne_of_none ed1 h1
    have n_dl_kl : dl ≠ kl := ne_of_none edl h1
    replace ewl := N1.at ewl
    replace ed0 := N1.at ed0
    replace ed1 := N1.at ed1
    replace edl := N1.at edl
    replace ek0 := N1.at ek0
    replace ek1 := N1.at ek1
    replace KH := KH.trans N1
    replace ed := N1.at ed
    try replace eh := N1.at eh
    replace hK := hK.kt (tup_nil N1)
    replace W0 := W0.kp0 N1
    replace W1 := W1.kp0 N1
    generalize upd G13 kl (.lst [.ref k0, .ref k1]) = G14 at *
    clear N1 h1

    refine hR9 _ _ ?_
    clear hR9
    clear R9
    refine cut_seq fun R10 hR10 => ?_
    wp_walk
    refine fun hl h1 => ?_
    have ehl : upd G14 hl (.lst []) hl = some (.lst []) := upd_same
    have N1 := Kp.new (S := []) (o := .lst []) h1
    have n_rc0_hl : rc0 ≠ hl := let ⟨_, z, _⟩ := W0.hrc; ne_of_none z h1
    have n_rc1_hl : rc1 ≠ hl := let ⟨_, z, _⟩ := W1.hrc; ne_of_none z h1
    have n_wl_hl : wl ≠ hl := ne_of_none ewl h1
    have n_d0_hl : d0 ≠ hl := ne_of_none ed0 h1
    have n_d1_hl : d1 ≠ hl := ne_of_none ed1 h1
    have n_dl_hl : dl ≠ hl := ne_of_none edl h1
    have n_kl_hl : kl ≠ hl := ne_of_none ekl h1
    replace ewl := N1.at ewl
    replace ed0 := N1.at ed0
    replace ed1 := N1.at ed1
    replace edl := N1.at edl
    replace ekl := N1.at ekl
    replace ek0 := N1.at ek0
    replace ek1 := N1.at ek1
    replace KH := KH.trans N1
    replace ed := N1.at ed
    try replace eh := N1.at eh
    replace hK := hK.kt (tup_nil N1)
    replace W0 := W0.kp0 N1
    replace W1 := W1.kp0 N1
    generalize upd G14 hl (.lst []) = G15 at *
    clear N1 h1

    refine hR10 _ _ ?_
    clear hR10
    clear R10

    obtain ⟨F, S, A, rfl, rfl, rfl, rfl, rfl⟩ : ∃ F : Fam, F.Sep ∧ F.At t.CWorker L G15 (fun _ => []) [] 0 ∧ wl = F.wl ∧ dl = F.dl ∧ kl = F.kl ∧ hl = F.hl ∧ d = F.d := by
      refine ⟨⟨fun b => bif b then x1 else x0, fun b => bif b then dx1 else dx0, fun b => bif b then tr1 else tr0, fun b => bif b then kn1 else kn0, fun b => bif b then ct1 else ct0, fun b => bif b then rc1 else rc0, fun b => bif b then k1 else k0, fun b => bif b then d1 else d0, d, hl, wl, dl, kl⟩, ?_, ?_, rfl, rfl, rfl, rfl, rfl⟩
      · have w0 := W0.ne
        have w1 := W1.ne
        refine ⟨?_, ?_, ?_, ?_, ?_, ?_, ?_, ?_, ?_, ?_, ?_⟩
        · rintro (_ | _) (_ | _) <;> assumption
        · rintro (_ | _) (_ | _) h <;> first | exact absurd rfl h | assumption | (apply Ne.symm; assumption)
        · rintro (_ | _) (_ | _) h <;> first | exact absurd rfl h | assumption | (apply Ne.symm; assumption)
        · rintro (_ | _) (_ | _) h <;> first | exact absurd rfl h | assumption | (apply Ne.symm; assumption)
        · rintro (_ | _) (_ | _) <;> assumption
        · rintro (_ | _) <;> assumption
        · rintro (_ | _) (_ | _) h <;> first | exact absurd rfl h | assumption | (apply Ne.symm; assumption)
        · rintro (_ | _) (_ | _) <;> assumption
        · rintro (_ | _) (_ | _) h <;> first | exact absurd rfl h | assumption | (apply Ne.symm; assumption)
        · rintro (_ | _) <;> exact ⟨by assumption, by assumption⟩
        · simp only [Fam.mut, cond_true, cond_false, List.mem_cons, List.not_mem_nil, or_false, not_or]
          exact ⟨⟨n_rc0_wl.symm, n_rc1_wl.symm, n_wl_d0, n_wl_d1, n_wl_hl⟩, ⟨n_rc0_dl.symm, n_rc1_dl.symm, n_d0_dl.symm, n_d1_dl.symm, n_dl_hl⟩, ⟨n_rc0_kl.symm, n_rc1_kl.symm, n_d0_kl.symm, n_d1_kl.symm, n_kl_hl⟩⟩
      · refine ⟨?_, ?_, ?_, ⟨kvs, ed, hK⟩, ewl, edl, ekl, ehl, by simp, fun b => Nat.zero_le _, Nat.zero_le _⟩
        · rintro (_ | _)
          · exact W0
          · exact W1
        · rintro (_ | _)
          · exact ek0
          · exact ek1
        · rintro (_ | _)
          · exact ⟨[], ed0, .nil⟩
          · exact ⟨[], ed1, .nil⟩
    clear W0 W1 ek0 ek1 ed0 ed1 ewl edl ekl ehl ed hK
    refine cut_seq fun R11 hR11 => ?_
    wp_walk
    refine fun q1 m1 => ⟨_, (KH.trans (Kp.new m1)).same.seq hS, fun q2 m2 => ?_⟩
    obtain ⟨ms, em, lm⟩ := cut_ints ns none (some 61)
    have l61 : ms.length ≤ 61 := by
      have : (cutV (ns.map V.int) none (some 61)).length ≤ 61 := by
        unfold cutV
        rw [List.length_take]
        refine Nat.le_trans (Nat.min_le_left _ _) ?_
        rw [show (some (61 : Int)) = some ((61 : Nat) : Int) from rfl, HT.sIx_nat]
        omega
      rwa [em, List.length_map] at this
    rw [em]
    have N2 := (Kp.new (S := []) (o := .lst [.int 0, .int 5]) m1).trans (Kp.new (o := .lst (ms.map V.int)) m2)
    have f1 := (Kp.new (S := []) (o := .lst (ms.map V.int)) m2).at (upd_same : upd G15 q1 (.lst [.int 0, .int 5]) q1 = some (.lst [.int 0, .int 5]))
    have f2 : upd (upd G15 q1 (.lst [.int 0, .int 5])) q2 (.lst (ms.map V.int)) q2 = some (.lst (ms.map V.int)) := upd_same
    replace A := A.kp N2
    generalize upd (upd G15 q1 (.lst [.int 0, .int 5])) q2 (.lst (ms.map V.int)) = G16 at *
    wp_walk using f1, f2
    refine ⟨by rw [List.length_map]; omega, fun q3 m3 => ?_⟩
    have N3 := Kp.new (S := []) (o := .lst (.int 0 :: .int 5 :: ms.map V.int)) m3
    have el : upd G16 q3 (.lst (.int 0 :: .int 5 :: ms.map V.int)) q3 = some (.lst (.int 0 :: .int 5 :: ms.map V.int)) := upd_same
    have nq : q3 ∉ F.mut := by
      obtain ⟨_, r0, _⟩ := (A.W false).hrc
      obtain ⟨_, r1, _⟩ := (A.W true).hrc
      obtain ⟨_, r2, _⟩ := A.hd false
      obtain ⟨_, r3, _⟩ := A.hd true
      simp only [Fam.mut, List.mem_cons, List.not_mem_nil, or_false, not_or]
      exact ⟨(ne_of_none r0 m3).symm, (ne_of_none r1 m3).symm, (ne_of_none r2 m3).symm, (ne_of_none r3 m3).symm, (ne_of_none A.hl m3).symm⟩
    replace A := A.kp N3
    generalize upd G16 q3 (.lst (.int 0 :: .int 5 :: ms.map V.int)) = G17 at *
    have hz : ∀ (i : Nat) (y : V), (.int 0 :: .int 5 :: ms.map V.int : List V)[i]? = some y → ∃ z : Int, y = .int z := fun i y h => by
      rcases i with _ | _ | i
      · exact ⟨0, (Option.some.inj h).symm⟩
      · exact ⟨5, (Option.some.inj h).symm⟩
      · exact ints_at h
    have lz : (.int 0 :: .int 5 :: ms.map V.int : List V).length ≤ 63 := by
      simp only [List.length_cons, List.length_map]
      omega
    generalize (.int 0 :: .int 5 :: ms.map V.int : List V) = zs at *
    clear f1 f2 N2 N3 m1 m2 m3 KH hS
    refine ⟨⟨_, SqL.of el⟩, ?_⟩
    obtain ⟨Pv, hPv⟩ : ∃ Pv : Nat → St → Hp → Prop, ∀ i σ G, Pv i σ G = ∃ (u0 u1 u2 u3 u4 u5 u6 : Option V) (ds : Bool → List Deed) (hs : List V), σ = [some (.ref a), some (.int hd), some (.int vast), some (.ref F.d), some (.ref he), some (.ref F.wl), some (.ref F.dl), some (.ref F.kl), some (.ref F.hl), u0, u1, u2, u3, u4, u5, u6] ∧
      F.At t.CWorker L G ds hs i ∧ G q3 = some (.lst zs) := ⟨_, fun _ _ _ => rfl⟩
    refine for_list (xs := zs) Pv ?_ ?_ ?_ ?_
    · rw [hPv]
      exact ⟨none, none, none, none, none, none, none, _, _, rfl, A, el⟩
    · intro i σ G _ hG
      rw [hPv] at hG
      obtain ⟨_, _, _, _, _, _, _, _, _, _, _, h⟩ := hG
      exact SqL.of h
    · clear A el
      intro i y σ G hi hG
      rw [hPv] at hG
      obtain ⟨u0, u1, u2, u3, u4, u5, u6, ds, hs, rfl, A, el⟩ := hG
      obtain ⟨z, rfl⟩ := hz i y hi
      have hil : i < zs.length := (List.getElem?_eq_some_iff.mp hi).1
      refine cut_g ?_
      have back : ∀ (w0 w1 w2 w3 w4 w5 w6 : Option V) (ds' : Bool → List Deed) (hs' : List V) (G' : Hp), F.At t.CWorker L G' ds' hs' (i + 1) → G' q3 = some (.lst zs) → Pv (i + 1) [some (.ref a), some (.int hd), some (.int vast), some (.ref F.d), some (.ref he), some (.ref F.wl), some (.ref F.dl), some (.ref F.kl), some (.ref F.hl), w0, w1, w2, w3, w4, w5, w6] G' := fun w0 w1 w2 w3 w4 w5 w6 ds' hs' G' x y => by
        rw [hPv]
        exact ⟨_, _, _, _, _, _, _, _, _, rfl, x, y⟩
      clear hPv
      refine cut_seq fun R12 hR12 => ?_
      wp_walk
      refine fun dk hdk => ?_
      have R1 : DeckAt (upd G dk (.lst [.int z, .int (hd % 2), .int 7])) dk 7 := ⟨_, _, _, upd_same, by decide, by decide⟩
      have KG : Kp [] G (upd G dk (.lst [.int z, .int (hd % 2), .int 7])) := Kp.new hdk
      generalize upd G dk (.lst [.int z, .int (hd % 2), .int 7]) = G1 at *
  
      refine hR12 _ _ ?_
      clear hR12
      clear R12
      refine cut_seq fun R13 hR13 => ?_
      wp_walk
      refine ⟨_, R1, by omega, fun g G2 g0 g1 R2 K2 => ?_⟩
      replace KG := Kp.drop ((KG.mono (by simp)).trans K2) hdk
      obtain ⟨b, pk⟩ : ∃ b : Bool, ∀ f : Bool → Addr, atI [V.ref (f false), V.ref (f true)] g = some (.ref (f b)) := by
        rcases (show g = 0 ∨ g = 1 by omega) with rfl | rfl
        · exact ⟨false, fun f => rfl⟩
        · exact ⟨true, fun f => rfl⟩
      clear K2 R1 g0 g1
  
      refine hR13 _ _ ?_
      clear hR13
      clear R13
      refine cut_seq fun R14 hR14 => ?_
      wp_walk
      refine ⟨_, R2, by omega, fun r0 G3 R3 K3 => ⟨_, R3, by omega, fun t0 G4 R4 K4 c0 h4 => ?_⟩⟩
      have ec : upd G4 c0 (.tup [.int r0, .int t0]) c0 = some (.tup [.int r0, .int t0]) := upd_same
      have R5 := R4.new (o := .tup [.int r0, .int t0]) h4
      replace KG := (Kp.drop (((KG.mono (by simp)).trans K3).trans K4) hdk).trans (Kp.new (o := .tup [.int r0, .int t0]) h4)
      generalize upd G4 c0 (.tup [.int r0, .int t0]) = G5 at *
      clear K3 K4 R2 R3 R4 h4
  
      refine hR14 _ _ ?_
      clear hR14
      clear R14
      refine cut_seq fun R15 hR15 => ?_
  
      have rest : ∀ (c : Addr) (r t' : Int) (G' : Hp) (n' : Nat), DeckAt G' dk n' → n' ≤ 60 → G' c = some (.tup [.int r, .int t']) → Kp [] G G' → R15 [some (.ref a), some (.int hd), some (.int vast), some (.ref F.d), some (.ref he), some (.ref F.wl), some (.ref F.dl), some (.ref F.kl), some (.ref F.hl), some (.int z), some (.ref dk), some (.int g), some (.ref c), u4, u5, u6] G' := by
        clear KG R5 ec
        intro c r t' G6 n6 R6 hn6 ec KG
        refine hR15 _ _ ?_
        clear hR15
        clear R15
        refine cut_seq fun R16 hR16 => ?_
        wp_walk
        refine fun p7 h7 => ⟨_, R6.new h7, by omega, fun g7 G8 a7 b7 R8 K8 => ?_⟩
        have e7 := made1 K8 R6 h7
        have nc : c ≠ dk := fun z => by
          obtain ⟨_, _, _, e, _⟩ := R6
          rw [← z, ec] at e
          cases e
        replace ec := K8.at1 ((Kp.new (S := []) h7).at ec) nc
        replace KG := Kp.drop (((KG.trans (Kp.new h7)).mono (by simp)).trans K8) hdk
        wp_walk using e7
        refine r_draw a7 b7 fun v hv => ?_
        obtain ⟨k, rfl⟩ : ∃ k : Str, v = .str k := by
          simp only [List.mem_cons, List.not_mem_nil, or_false] at hv
          rcases hv with rfl | rfl | rfl | rfl | rfl <;> exact ⟨_, rfl⟩
        wp_walk
        clear hv a7 b7 e7 K8 R6 h7
    
        refine hR16 _ _ ?_
        clear hR16
        clear R16
        refine cut_seq fun R17 hR17 => ?_
        wp_walk
        refine ⟨_, R8, by omega, fun g9 G9 a9 b9 R9 K9 p9 h9 => ⟨_, R9.new h9, by omega, fun g10 G10 a10 b10 R10 K10 => ?_⟩⟩
        have e9 := made1 K10 R9 h9
        replace ec := K10.at1 ((Kp.new (S := []) h9).at (K9.at1 ec nc)) nc
        replace KG := Kp.drop ((((KG.mono (by simp)).trans K9).trans (Kp.new h9)).trans K10) hdk
        wp_walk using e9
        refine r_draw a10 b10 fun v hv => ?_
        obtain ⟨w, rfl⟩ : ∃ w : Wo, v = wv w := by
          simp only [List.mem_cons, List.not_mem_nil, or_false] at hv
          rcases hv with rfl | rfl | rfl | rfl | rfl | rfl | rfl | rfl <;> first | exact ⟨none, rfl⟩ | exact ⟨some _, rfl⟩
        wp_walk
        clear hv a9 b9 a10 b10 e9 K9 K10 R8 R9 R10 h9
    
        refine hR17 _ _ ?_
        clear hR17
        clear R17
        refine cut_seq fun R18 hR18 => ?_
    
        replace A := A.kp KG
        have elG := KG.at el
        have lb := A.len b
        obtain ⟨us, eu, hD⟩ := A.hd b
        have lD := hD.len
        have rest2 : ∀ G' : Hp, Kp [F.kk b, F.dd b] G10 G' → G' (F.kk b) = some (.dT (knK (stp L (ds b) r t' k w))) → (∃ vs, G' (F.dd b) = some (.lst vs) ∧ DsAt G' vs (stp L (ds b) r t' k w)) → R18 [some (.ref a), some (.int hd), some (.int vast), some (.ref F.d), some (.ref he), some (.ref F.wl), some (.ref F.dl), some (.ref F.kl), some (.ref F.hl), some (.int z), some (.ref dk), some (.int g), some (.ref c), some (.str k), some (wv w), u6] G' := by
          intro G11 K11 k11 d11
          refine hR18 _ _ ?_
          clear hR18
          clear R18
          have ls := stp_len L (ds b) r t' k w
          have lk := look_stp L (ds b) r t' k w
          obtain ⟨cs, c1, _⟩ := (A.W b).hct
          obtain ⟨rs, r1, _⟩ := (A.W b).hrc
          obtain ⟨kvs', tt1, _⟩ := (A.W b).htr
          have S1 := S.ls
          simp only [Fam.mut, List.mem_cons, List.not_mem_nil, or_false, not_or] at S1
          have t11 := tup_kp K11 fun b' hb xs z => by
            simp only [List.mem_cons, List.not_mem_nil, or_false] at hb
            rcases hb with rfl | rfl
            · rw [A.hk b] at z; cases z
            · rw [eu] at z; cases z
          have nn : ∀ {p : Addr} {o : HO}, G10 p = some o → (∀ ks, o ≠ .dT ks) → (∀ vs, o ≠ .lst vs) → G11 p = some o := fun {p o} hp h1 h2 => K11 _ _ hp (by
            simp only [List.mem_cons, List.not_mem_nil, or_false, not_or]
            exact ⟨ne_of hp (A.hk b) (h1 _), ne_of hp eu (h2 _)⟩)
          have nl : ∀ {p : Addr} {vs : List V}, G10 p = some (.lst vs) → p ≠ F.dd b → G11 p = some (.lst vs) := fun {p vs} hp h => K11 _ _ hp (by
            simp only [List.mem_cons, List.not_mem_nil, or_false, not_or]
            exact ⟨ne_of hp (A.hk b) (by intro z; cases z), h⟩)
          have W11 : WAt t.CWorker G11 (F.x b) (F.dx b) (F.tr b) (F.kn b) (F.ct b) (F.rc b) L (ds b) := by
            refine (A.W b).kp K11 t11 ?_ ?_ ?_ ?_ ?_ <;> simp only [List.mem_cons, List.not_mem_nil, or_false, not_or]
            · exact ⟨ne_of (A.W b).ins (A.hk b) (by intro z; cases z), ne_of (A.W b).ins eu (by intro z; cases z)⟩
            · exact ⟨ne_of tt1 (A.hk b) (by intro z; cases z), ne_of tt1 eu (by intro z; cases z)⟩
            · exact ⟨S.nkk b b, ne_of (A.W b).hkn eu (by intro z; cases z)⟩
            · exact ⟨ne_of c1 (A.hk b) (by intro z; cases z), ne_of c1 eu (by intro z; cases z)⟩
            · exact ⟨ne_of r1 (A.hk b) (by intro z; cases z), S.rd b b⟩
          have wl11 := nl A.wl (by cases b; exact S1.1.2.2.1; exact S1.1.2.2.2.1)
          have dl11 := nl A.dl (by cases b; exact S1.2.1.2.2.1; exact S1.2.1.2.2.2.1)
          have kl11 := nl A.kl (by cases b; exact S1.2.2.2.2.1; exact S1.2.2.2.2.2.1)
          have hl11 := nl A.hl (S.hl b).2.symm
          have el11 := nl elG (by
            simp only [Fam.mut, List.mem_cons, List.not_mem_nil, or_false, not_or] at nq
            cases b
            · exact nq.2.2.1
            · exact nq.2.2.2.1)
          have ec11 := t11 _ _ ec
          refine cut_seq fun R19 hR19 => ?_
          wp_walk using wl11, pk F.x, W11.ins, ec11
          refine ⟨F.x b, F.dx b, F.tr b, F.kn b, F.ct b, F.rc b, L, ds b, r, t', k, w, rfl, W11, by omega, fun G12 W12 K12 => ?_⟩
          wp_walk
      
          refine hR19 _ _ ?_
          clear hR19
          clear R19
      
          obtain ⟨cs', c2, _⟩ := W11.hct
          obtain ⟨rs', r2, _⟩ := W11.hrc
          have t12 := tup_kp K12 fun b' hb xs z => by
            simp only [List.mem_cons, List.not_mem_nil, or_false] at hb
            rcases hb with rfl | rfl | rfl
            · rw [W11.hkn] at z; cases z
            · rw [c2] at z; cases z
            · rw [r2] at z; cases z
          have nl12 : ∀ {p : Addr} {vs : List V}, G11 p = some (.lst vs) → p ≠ F.rc b → G12 p = some (.lst vs) := fun {p vs} hp h => K12 _ _ hp (by
            simp only [List.mem_cons, List.not_mem_nil, or_false, not_or]
            exact ⟨ne_of hp W11.hkn (by intro z; cases z), ne_of hp c2 (by intro z; cases z), h⟩)
          have wl12 := nl12 wl11 (by cases b; exact S1.1.1; exact S1.1.2.1)
          have dl12 := nl12 dl11 (by cases b; exact S1.2.1.1; exact S1.2.1.2.1)
          have kl12 := nl12 kl11 (by cases b; exact S1.2.2.1; exact S1.2.2.2.1)
          have hl12 := nl12 hl11 (S.hl b).1.symm
          have el12 := nl12 el11 (by
            simp only [Fam.mut, List.mem_cons, List.not_mem_nil, or_false, not_or] at nq
            cases b
            · exact nq.1
            · exact nq.2.1)
          have kk12 := K12 _ _ k11 (by
            simp only [List.mem_cons, List.not_mem_nil, or_false, not_or]
            exact ⟨(S.nkk b b).symm, ne_of k11 c2 (by intro z; cases z), ne_of k11 r2 (by intro z; cases z)⟩)
          obtain ⟨vs, v11, hV⟩ := d11
          have v12 := nl12 v11 (S.rd b b).symm
          have hV12 := hV.kt t12
          have ec12 := t12 _ _ ec11
          have KX : Kp (F.S b) G10 G12 := fun b' o hb nb => by
            simp only [Fam.S, List.mem_cons, List.not_mem_nil, or_false, not_or] at nb
            exact K12 _ _ (K11 _ _ hb (by simp only [List.mem_cons, List.not_mem_nil, or_false, not_or]; exact ⟨nb.2.2.2.1, nb.2.2.2.2.1⟩)) (by simp only [List.mem_cons, List.not_mem_nil, or_false, not_or]; exact ⟨nb.1, nb.2.1, nb.2.2.1⟩)
          clear c1 r1 tt1 t11 nn nl W11 wl11 dl11 kl11 hl11 el11 ec11 c2 r2 k11 v11 hV K11 K12 t12 nl12
          generalize stp L (ds b) r t' k w = ds' at *
          generalize ans L (ds b) r t' k w = y at *
          refine cut_seq fun R20 hR20 => ?_
          wp_walk using kl12, pk F.kk
          have g12 := DGet.tt (k := [.inl r, .inl t']) kk12 ec12
          rw [kn_val, lk] at g12
          refine ⟨_, g12, ?_⟩
          wp_walk using ne_self, isi_wv, wl12, dl12, pk F.x, pk F.dd
          refine ⟨F.x b, F.dx b, F.tr b, F.kn b, F.ct b, F.rc b, F.dd b, L, ds', vs, rfl, W12, v12, hV12, fun G13 K13 => ?_⟩
          wp_walk
          have W13 := W12.kp0 K13
          have wl13 := K13.at wl12
          have dl13 := K13.at dl12
          have hl13 := K13.at hl12
          have v13 := K13.at v12
          have hV13 := hV12.kt (tup_nil K13)
      
          refine hR20 _ _ ?_
          clear hR20
          clear R20
          wp_walk using hl13, wl13, pk F.x, W13.ins
          refine ⟨F.x b, F.dx b, F.tr b, F.kn b, F.ct b, F.rc b, L, ds', rfl, W13, fun l1 us1 h1 D1 => ?_⟩
          have N1 := Kp.new (S := []) (o := .lst us1) h1
          have f1 : upd G13 l1 (.lst us1) l1 = some (.lst us1) := upd_same
          have mx : ∀ z ∈ F.mut, ∃ o, G13 z = some o := fun z hz => by
            obtain ⟨o, ho⟩ : ∃ o, G10 z = some o := by
              obtain ⟨_, e0, _⟩ := (A.W false).hrc
              obtain ⟨_, e1, _⟩ := (A.W true).hrc
              obtain ⟨_, e2, _⟩ := A.hd false
              obtain ⟨_, e3, _⟩ := A.hd true
              simp only [Fam.mut, List.mem_cons, List.not_mem_nil, or_false] at hz
              rcases hz with rfl | rfl | rfl | rfl | rfl
              · exact ⟨_, e0⟩
              · exact ⟨_, e1⟩
              · exact ⟨_, e2⟩
              · exact ⟨_, e3⟩
              · exact ⟨_, A.hl⟩
            by_cases hS : z ∈ F.S b
            · obtain ⟨_, e0, _⟩ := W13.hct
              obtain ⟨_, e1, _⟩ := W13.hrc
              simp only [Fam.S, List.mem_cons, List.not_mem_nil, or_false] at hS
              rcases hS with rfl | rfl | rfl | rfl | rfl | rfl
              · exact ⟨_, W13.hkn⟩
              · exact ⟨_, e0⟩
              · exact ⟨_, e1⟩
              · exact ⟨_, K13.at kk12⟩
              · exact ⟨_, v13⟩
              · exact ⟨_, hl13⟩
            · exact ⟨_, K13.at (KX _ _ ho hS)⟩
          have fresh : ∀ {GZ : Hp} {p : Addr}, Kp [] G13 GZ → GZ p = none → p ∉ F.mut := fun {GZ p} k h hz => by
            obtain ⟨o, e⟩ := mx p hz
            rw [k.at e] at h
            cases h
          have m1 : l1 ∉ F.mut := fresh Kp.refl h1
          generalize upd G13 l1 (.lst us1) = GW at *
          wp_walk using N1.at dl13, pk F.dd, N1.at v13, N1.at hl13
          refine fun l2 h2 p3 h3 => ?_
          have N2 := Kp.new (S := []) (o := .lst vs) h2
          have f2 : upd GW l2 (.lst vs) l2 = some (.lst vs) := upd_same
          have N3 := Kp.new (S := []) (o := .lst [.ref l1, .ref l2]) h3
          have f3 : upd (upd GW l2 (.lst vs)) p3 (.lst [.ref l1, .ref l2]) p3 = some (.lst [.ref l1, .ref l2]) := upd_same
          have m2 : l2 ∉ F.mut := fresh N1 h2
          have m3 : p3 ∉ F.mut := fresh (N1.trans N2) h3
          have NN := (N1.trans N2).trans N3
          have f1' := (N2.trans N3).at f1
          have f2' := N3.at f2
          generalize upd (upd GW l2 (.lst vs)) p3 (.lst [.ref l1, .ref l2]) = GY at *
          have hlY := NN.at hl13
          wp_walk using hlY
          have lh := A.lh
          refine ⟨by omega, ?_⟩
          have K16 : Kp [F.hl] GY (upd GY F.hl (.lst (hs ++ [.ref p3]))) := Kp.set (by simp)
          have hhl : upd GY F.hl (.lst (hs ++ [.ref p3])) F.hl = some (.lst (hs ++ [.ref p3])) := upd_same
          have t16 := tup_kp K16 fun b' hb xs z => by
            rw [show b' = F.hl by simpa using hb, hlY] at z
            cases z
          generalize upd GY F.hl (.lst (hs ++ [.ref p3])) = GZ at *
          have mh : ∀ {p : Addr}, p ∉ F.mut → p ≠ F.hl := fun {p} h z => h (by rw [z]; simp [Fam.mut])
          have KK : Kp (F.S b) G10 GZ := (KX.trans ((K13.trans NN).mono (by simp))).trans (K16.mono (by simp [Fam.S]))
          have tA : ∀ b' xs, G13 b' = some (.tup xs) → GZ b' = some (.tup xs) := fun b' xs h => t16 _ _ (NN.at h)
          have WY := W13.kp0 NN
          obtain ⟨csY, c3, _⟩ := WY.hct
          obtain ⟨rsY, r3, _⟩ := WY.hrc
          obtain ⟨kvY, t3, _⟩ := WY.htr
          have WZ : WAt t.CWorker GZ (F.x b) (F.dx b) (F.tr b) (F.kn b) (F.ct b) (F.rc b) L ds' :=
            WY.kp K16 t16 (by simpa using ne_of WY.ins hlY (by intro z; cases z)) (by simpa using ne_of t3 hlY (by intro z; cases z)) (by simpa using ne_of WY.hkn hlY (by intro z; cases z)) (by simpa using ne_of c3 hlY (by intro z; cases z)) (by simpa using (S.hl b).1)
          have kkY := NN.at (K13.at kk12)
          exact back _ _ _ _ _ _ _ _ _ _ (A.step S KK WZ (K16.at1 kkY (ne_of kkY hlY (by intro z; cases z))) ⟨vs, K16.at1 (NN.at v13) (S.hl b).2, hV13.kt tA⟩ hhl ⟨p3, l1, l2, us1, vs, ds', rfl, K16.at1 f3 (mh m3), K16.at1 f1' (mh m1), K16.at1 f2' (mh m2), D1.kt tA, hV13.kt tA, m3, m1, m2⟩ ls) (K16.at1 (NN.at (K13.at el12)) (mh nq))
        wp_walk using A.kl, pk F.kk
        refine ⟨_, DGet.tt (k := [.inl r, .inl t']) (A.hk b) ec, ?_⟩
        rw [kn_val]
        cases hk : look (ds b) r t' with
        | some x =>
          wp_walk using Option.map_some, Option.isSome_some, Bool.not_true
          have es : stp L (ds b) r t' k w = ds b := by simp only [stp, hk]
          rw [es] at rest2
          exact rest2 G10 Kp.refl (A.hk b) ⟨us, eu, hD⟩
        | none =>
          have es : stp L (ds b) r t' k w = ds b ++ [⟨r, t', k, w, made L ((cnt k (ds b) : Nat) + 1) k w⟩] := by simp only [stp, hk]
          rw [es] at rest2
          wp_walk using Option.map_none, Option.isSome_none, Bool.not_false, A.dl, pk F.dd
          refine ⟨F.d, F.dd b, L, us, ds b, k, w, rfl, A.tr, eu, hD, by omega, fun G11 K11 => ?_⟩
          generalize hm : made L ((cnt k (ds b) : Nat) + 1) k w = x at *
          have A11 := A.kp K11
          wp_walk using A11.kl, pk F.kk
          have ec11 := K11.at ec
          have eu11 := K11.at eu
          refine ⟨_, DPut.t (k := [.inl r, .inl t']) (A11.hk b) ec11 (by rw [kn_len, sizeLine_eq]; omega), ?_⟩
          rw [kn_put hk k w x]
          have K12 : Kp [F.kk b] G11 (upd G11 (F.kk b) (.dT (knK (ds b ++ [⟨r, t', k, w, x⟩])))) := Kp.set (by simp)
          have e12 : upd G11 (F.kk b) (.dT (knK (ds b ++ [⟨r, t', k, w, x⟩]))) (F.kk b) = some (.dT (knK (ds b ++ [⟨r, t', k, w, x⟩]))) := upd_same
          have t12 := tup_kp K12 fun b' hb xs z => by
            rw [show b' = F.kk b by simpa using hb, A11.hk b] at z
            cases z
          generalize upd G11 (F.kk b) (.dT (knK (ds b ++ [⟨r, t', k, w, x⟩]))) = G12 at *
          have dl12 := K12.at1 A11.dl (ne_of A11.dl (A11.hk b) (by intro z; cases z))
          have kl12 := K12.at1 A11.kl (ne_of A11.kl (A11.hk b) (by intro z; cases z))
          have eu12 := K12.at1 eu11 (ne_of eu11 (A11.hk b) (by intro z; cases z))
          have ec12 := t12 _ _ ec11
          wp_walk using dl12, pk F.dd, eu12, kl12, pk F.kk
          have g12 := DGet.tt (k := [.inl r, .inl t']) e12 ec12
          rw [kn_val, look_snoc hk] at g12
          refine ⟨_, g12, fun p13 h13 => ?_⟩
          have N13 := Kp.new (S := []) (o := .tup [.str k, wv w, wv x]) h13
          have e13 : upd G12 p13 (.tup [.str k, wv w, wv x]) p13 = some (.tup [.str k, wv w, wv x]) := upd_same
          have ec13 := N13.at ec12
          have eu13 := N13.at eu12
          generalize upd G12 p13 (.tup [.str k, wv w, wv x]) = G13 at *
          wp_walk using ec13, e13, eu13
          refine cat_t (by simp) (by simp) (by rw [sizeLine_eq]; simp) fun p14 h14 => ?_
          have N14 := Kp.new (S := []) (o := .tup ([.int r, .int t'] ++ [.str k, wv w, wv x])) h14
          have e14 : upd G13 p14 (.tup ([.int r, .int t'] ++ [.str k, wv w, wv x])) p14 = some (.tup (Deed.vs ⟨r, t', k, w, x⟩)) := upd_same
          have eu14 := N14.at eu13
          generalize upd G13 p14 (.tup ([.int r, .int t'] ++ [.str k, wv w, wv x])) = G14 at *
          wp_walk using eu14
          have K15 : Kp [F.dd b] G14 (upd G14 (F.dd b) (.lst (us ++ [.ref p14]))) := Kp.set (by simp)
          have t15 := tup_kp K15 fun b' hb xs z => by
            rw [show b' = F.dd b by simpa using hb, eu14] at z
            cases z
          refine ⟨by omega, rest2 _ (fun b' o hb nb => ?_) (K15.at1 (N14.at (N13.at e12)) (ne_of e12 eu12 (by intro z; cases z))) ⟨_, upd_same, (hD.kt fun b' xs hb => t15 _ _ (N14.at (N13.at (t12 _ _ (K11.at hb))))).snoc (t15 _ _ e14)⟩⟩
          simp only [List.mem_cons, List.not_mem_nil, or_false, not_or] at nb
          exact K15.at1 (N14.at (N13.at (K12.at1 (K11.at hb) nb.1))) nb.2
      have A5 := A.kp KG
      have lb := A.len b
      wp_walk using A5.kl, pk F.kk
      refine fun p5 h5 => ?_
      have N5 := Kp.new (S := []) (o := .dT []) h5
      replace R5 := R5.new (o := .dT []) h5
      replace ec := N5.at ec
      replace KG := KG.trans N5
      replace A5 := A5.kp N5
      generalize upd G5 p5 (.dT []) = G6 at *
      refine ⟨knK (ds b), A5.hk b, ?_⟩
      cases hE : (knK (ds b)).isEmpty with
      | true =>
        wp_walk using Bool.not_true
        exact rest c0 r0 t0 G6 _ R5 (by decide) ec KG
      | false =>
        wp_walk using Bool.not_false
        refine ⟨_, R5, by decide, fun g3 G7 a3 b3 R7 K7 => ?_⟩
        have nc0 : c0 ≠ dk := fun z => by
          obtain ⟨_, _, _, e, _⟩ := R5
          rw [← z, ec] at e
          cases e
        replace KG := Kp.drop ((KG.mono (by simp)).trans K7) hdk
        replace A5 := A.kp KG
        replace ec := K7.at1 ec nc0
        split
        · wp_walk using A5.kl, pk F.kk
          refine ⟨knK (ds b), A5.hk b, by rw [kn_len]; omega, fun kv hkv => ?_, fun l us hl lu hu => ?_⟩
          · obtain ⟨x, _, rfl⟩ := List.mem_map.mp hkv
            exact ⟨_, _, rfl⟩
          have N8 := Kp.new (S := []) (o := .lst us) hl
          have e8 : upd G7 l (.lst us) l = some (.lst us) := upd_same
          have A8 := A5.kp N8
          have R8 := R7.new (o := .lst us) hl
          have nl := R7.none hl
          replace hu : ∀ u ∈ us, ∃ (a : Addr) (i j : Int), u = .ref a ∧ upd G7 l (.lst us) a = some (.tup [.int i, .int j]) := fun u h => by
            obtain ⟨a, i, j, e, f⟩ := hu u h
            exact ⟨a, i, j, e, N8.at f⟩
          replace KG := KG.trans N8
          generalize upd G7 l (.lst us) = G8 at *
          wp_walk using A8.kl, pk F.kk
          have lk : 0 < (knK (ds b)).length := by
            cases hk : knK (ds b) with
            | nil => rw [hk] at hE; cases hE
            | cons _ _ => simp
          refine ⟨knK (ds b), A8.hk b, by omega, by rw [kn_len]; omega, _, R8, by decide, fun g9 G9 a9 b9 R9 K9 => ?_⟩
          wp_walk using K9.at1 e8 nl
          refine r_draw a9 (by rw [lu]; exact b9) fun v hv => ?_
          obtain ⟨c, r, t', rfl, hc⟩ := hu v hv
          wp_walk
          have nc : c ≠ dk := fun z => by
            obtain ⟨_, _, _, e, _⟩ := R8
            rw [← z, hc] at e
            cases e
          exact rest c r t' G9 _ R9 (by decide) (K9.at1 hc nc) (Kp.drop ((KG.mono (by simp)).trans K9) hdk)
        · wp_walk
          exact rest c0 r0 t0 G7 _ R7 (by decide) ec KG
    · intro σ G hG
      rw [hPv] at hG
      obtain ⟨u0, u1, u2, u3, u4, u5, u6, ds, hs, rfl, A, _⟩ := hG
      clear hPv
      refine hR11 _ _ ?_
      clear hR11
      clear R11
      refine cut_seq fun R12 hR12 => ?_
      wp_walk
      refine ⟨⟨_, SqL.of A.hl⟩, ?_⟩
      refine lc_list (ys := hs) (fun j xs G' => xs = [] ∧ G' = G) ⟨rfl, rfl⟩ ?_ ?_ ?_ ?_
      · rintro j xs G' ⟨rfl, _⟩
        simp
      · rintro j xs G' ⟨_, rfl⟩
        exact SqL.of A.hl
      · rintro j y xs G' hj ey ⟨rfl, rfl⟩
        obtain ⟨p, q', r, us, vs, ds', rfl, h1, h2, h3, d1, d2, _⟩ := A.held y (List.mem_of_getElem? ey)
        wp_walk using compSt, Option.join_some, h1
        refine ⟨true, ds_eq h2 h3 d1 d2, ?_⟩
        wp_walk
      rintro xs G' ⟨rfl, rfl⟩ p1 h1
      wp_walk
      refine fun p2 h2 => ⟨true, nil_eq ((Kp.new (S := []) h2).at upd_same) upd_same, ?_⟩
      replace A := A.kp ((Kp.new (o := .lst []) h1).trans (Kp.new (o := .lst []) h2))
      generalize upd (upd G' p1 (.lst [])) p2 (.lst []) = G2 at *
      wp_walk
      refine hR12 _ _ ?_
      clear hR12
      clear R12
      refine cut_seq fun R13 hR13 => ?_
      wp_walk using A.wl, A.dl
      obtain ⟨us0, e0, D0⟩ := A.hd false
      refine ⟨F.x false, F.dx false, F.tr false, F.kn false, F.ct false, F.rc false, F.dd false, L, ds false, us0, rfl, A.W false, e0, D0, fun G3 K3 => ?_⟩
      replace A := A.kp K3
      obtain ⟨us1, e1, D1⟩ := A.hd true
      wp_walk using A.wl, A.dl
      refine ⟨F.x true, F.dx true, F.tr true, F.kn true, F.ct true, F.rc true, F.dd true, L, ds true, us1, rfl, A.W true, e1, D1, fun G4 K4 => ?_⟩
      wp_walk
      refine hR13 _ _ ?_
      clear hR13
      clear R13
      wp_walk
      exact ⟨rfl, fun H' => q _⟩
end
theorem ln0 {us : List Value} (h : us.length = ([] : List Str).length) : us = [] := List.length_eq_zero_iff.mp h
theorem ln1 {us : List Value} {x0 : Str} (h : us.length = [x0].length) : ∃ a0, us = [a0] := by
  obtain ⟨a0, rfl⟩ := List.length_eq_one_iff.mp h; exact ⟨a0, rfl⟩
theorem ln2 {us : List Value} {x0 x1 : Str} (h : us.length = [x0, x1].length) : ∃ a0 a1, us = [a0, a1] := by
  cases us with
  | nil => cases h
  | cons a0 us => obtain ⟨b0, rfl⟩ := ln1 (x0 := x0) (us := us) (Nat.succ.inj h); exact ⟨a0, b0, rfl⟩
theorem ln3 {us : List Value} {x0 x1 x2 : Str} (h : us.length = [x0, x1, x2].length) : ∃ a0 a1 a2, us = [a0, a1, a2] := by
  cases us with
  | nil => cases h
  | cons a0 us => obtain ⟨b0, b1, rfl⟩ := ln2 (x0 := x0) (x1 := x0) (us := us) (Nat.succ.inj h); exact ⟨a0, b0, b1, rfl⟩
theorem ln4 {us : List Value} {x0 x1 x2 x3 : Str} (h : us.length = [x0, x1, x2, x3].length) : ∃ a0 a1 a2 a3, us = [a0, a1, a2, a3] := by
  cases us with
  | nil => cases h
  | cons a0 us => obtain ⟨b0, b1, b2, rfl⟩ := ln3 (x0 := x0) (x1 := x0) (x2 := x0) (us := us) (Nat.succ.inj h); exact ⟨a0, b0, b1, b2, rfl⟩
theorem ln5 {us : List Value} {x0 x1 x2 x3 x4 : Str} (h : us.length = [x0, x1, x2, x3, x4].length) : ∃ a0 a1 a2 a3 a4, us = [a0, a1, a2, a3, a4] := by
  cases us with
  | nil => cases h
  | cons a0 us => obtain ⟨b0, b1, b2, b3, rfl⟩ := ln4 (x0 := x0) (x1 := x0) (x2 := x0) (x3 := x0) (us := us) (Nat.succ.inj h); exact ⟨a0, b0, b1, b2, b3, rfl⟩
theorem walkX_of {q : Program} {loose : List Str} {XP : (Str → Option Value) → Heap → Prop} {K : Params → PySem.W.Frag} {as : List Addr} {n t : Nat} {r : PySem.W.RowW} {d : DefRec} {kwd : List (Str × Expr)} {run : Value → List Value → Sem Value} (e : ∀ P : Params, as = List.map (fun x => x.fst) (K P)) (H : PySem.W.WalkO q loose XP (PySem.W.kHook K as e).says r d kwd run) : PySem.W.WalkX q loose XP (PySem.W.X.obsZ as) (PySem.W.X.valZ K n t) r d kwd run := fun w s₀ s₁ mg mb G y a o pm cd doc dV kV h1 h2 h3 h4 h5 h6 args vals bs L => by
  obtain ⟨_, f, _, _⟩ := PySem.W.X.z_facts e y
  exact H w s₀ s₁ mg mb G (show PySem.W.InK K w s₁.heap from fun p ob hp => L.keeps _ _ (f p ob hp)) a o pm cd doc dV kV h1 h2 h3 h4 h5 h6 args vals bs
theorem all_mk {l : PySem.W.OpenLaw} {w : World} {K : PySem.W.Frag} {h : Heap} {mg : Str → Option Value} {fa : Addr} (X : K.In h) (G : h.Ns mainGlobals mg) (hfa : mg "law" = some (.ref fa))
    {f0 : Addr} {od0 an0 : Option Addr} {sl0 : Array (Option Value)} {oc0 kV0 dc0 pm0 cd0 ct0 : Value}
    {f1 : Addr} {od1 an1 : Option Addr} {sl1 : Array (Option Value)} {oc1 kV1 dc1 pm1 cd1 ct1 : Value}
    {f2 : Addr} {od2 an2 : Option Addr} {sl2 : Array (Option Value)} {oc2 kV2 dc2 pm2 cd2 ct2 : Value}
    {f3 : Addr} {od3 an3 : Option Addr} {sl3 : Array (Option Value)} {oc3 kV3 dc3 pm3 cd3 ct3 : Value}
    {f4 : Addr} {od4 an4 : Option Addr} {sl4 : Array (Option Value)} {oc4 kV4 dc4 pm4 cd4 ct4 : Value}
    {f5 : Addr} {od5 an5 : Option Addr} {sl5 : Array (Option Value)} {oc5 kV5 dc5 pm5 cd5 ct5 : Value}
    {f6 : Addr} {od6 an6 : Option Addr} {sl6 : Array (Option Value)} {oc6 kV6 dc6 pm6 cd6 ct6 : Value}
    {f7 : Addr} {od7 an7 : Option Addr} {sl7 : Array (Option Value)} {oc7 kV7 dc7 pm7 cd7 ct7 : Value}
    {f8 : Addr} {od8 an8 : Option Addr} {sl8 : Array (Option Value)} {oc8 kV8 dc8 pm8 cd8 ct8 : Value}
    {f9 : Addr} {od9 an9 : Option Addr} {sl9 : Array (Option Value)} {oc9 kV9 dc9 pm9 cd9 ct9 : Value}
    {f10 : Addr} {od10 an10 : Option Addr} {sl10 : Array (Option Value)} {oc10 kV10 dc10 pm10 cd10 ct10 : Value}
    {f11 : Addr} {od11 an11 : Option Addr} {sl11 : Array (Option Value)} {oc11 kV11 dc11 pm11 cd11 ct11 : Value}
    {f12 : Addr} {od12 an12 : Option Addr} {sl12 : Array (Option Value)} {oc12 kV12 dc12 pm12 cd12 ct12 : Value}
    {CWorker : Addr}
    {tk0 : Tok}
    (a0 : PySem.W.nsIn K mainGlobals "kept" = some (some (.ref f0)))
    (l0 : K.lookup f0 = some ⟨oc0, od0, .func (PySem.W.fnOf "kept" "kept" (defArgs s_kept) (defBody s_kept) (defScope s_kept) .none kV0 dc0 pm0 an0 cd0 ct0), sl0⟩) (c0 : PySem.W.codeIn K cd0 "kept" = true) (k0 : PySem.W.keepIn K (.ref f0) = true)
    (a1 : PySem.W.nsIn K mainGlobals "number_of" = some (some (.ref f1)))
    (l1 : K.lookup f1 = some ⟨oc1, od1, .func (PySem.W.fnOf "number_of" "number_of" (defArgs s_numberof) (defBody s_numberof) (defScope s_numberof) .none kV1 dc1 pm1 an1 cd1 ct1), sl1⟩) (c1 : PySem.W.codeIn K cd1 "number_of" = true) (k1 : PySem.W.keepIn K (.ref f1) = true)
    (a2 : PySem.W.findIn K (.ref CWorker) "__init__" = some (some (.ref f2))) (i2 : PySem.W.isFn K (.ref f2) = true)
    (l2 : K.lookup f2 = some ⟨oc2, od2, .func (PySem.W.fnOf "__init__" "Worker.__init__" (defArgs s_Workerinit) (defBody s_Workerinit) (defScope s_Workerinit) .none kV2 dc2 pm2 an2 cd2 ct2), sl2⟩) (c2 : PySem.W.codeIn K cd2 "Worker.__init__" = true) (k2 : PySem.W.keepIn K (.ref f2) = true)
    (a3 : PySem.W.findIn K (.ref CWorker) "do" = some (some (.ref f3))) (i3 : PySem.W.isFn K (.ref f3) = true)
    (l3 : K.lookup f3 = some ⟨oc3, od3, .func (PySem.W.fnOf "do" "Worker.do" (defArgs s_Workerdo) (defBody s_Workerdo) (defScope s_Workerdo) .none kV3 dc3 pm3 an3 cd3 ct3), sl3⟩) (c3 : PySem.W.codeIn K cd3 "Worker.do" = true) (k3 : PySem.W.keepIn K (.ref f3) = true)
    (a4 : PySem.W.findIn K (.ref CWorker) "answer_of" = some (some (.ref f4))) (i4 : PySem.W.isFn K (.ref f4) = true)
    (l4 : K.lookup f4 = some ⟨oc4, od4, .func (PySem.W.fnOf "answer_of" "Worker.answer_of" (defArgs s_Workeranswerof) (defBody s_Workeranswerof) (defScope s_Workeranswerof) .none kV4 dc4 pm4 an4 cd4 ct4), sl4⟩) (c4 : PySem.W.codeIn K cd4 "Worker.answer_of" = true) (k4 : PySem.W.keepIn K (.ref f4) = true)
    (a5 : PySem.W.findIn K (.ref CWorker) "deeds" = some (some (.ref f5))) (i5 : PySem.W.isFn K (.ref f5) = true)
    (l5 : K.lookup f5 = some ⟨oc5, od5, .func (PySem.W.fnOf "deeds" "Worker.deeds" (defArgs s_Workerdeeds) (defBody s_Workerdeeds) (defScope s_Workerdeeds) .none kV5 dc5 pm5 an5 cd5 ct5), sl5⟩) (c5 : PySem.W.codeIn K cd5 "Worker.deeds" = true) (k5 : PySem.W.keepIn K (.ref f5) = true)
    (a6 : PySem.W.nsIn K mainGlobals "_law_cell_at" = some (some (.ref f6)))
    (l6 : K.lookup f6 = some ⟨oc6, od6, .func (PySem.W.fnOf "_law_cell_at" "_law_cell_at" (defArgs s_lawcellat) (defBody s_lawcellat) (defScope s_lawcellat) .none kV6 dc6 pm6 an6 cd6 ct6), sl6⟩) (c6 : PySem.W.codeIn K cd6 "_law_cell_at" = true) (k6 : PySem.W.keepIn K (.ref f6) = true)
    (a7 : PySem.W.nsIn K mainGlobals "_law_take" = some (some (.ref f7)))
    (l7 : K.lookup f7 = some ⟨oc7, od7, .func (PySem.W.fnOf "_law_take" "_law_take" (defArgs s_lawtake) (defBody s_lawtake) (defScope s_lawtake) .none kV7 dc7 pm7 an7 cd7 ct7), sl7⟩) (c7 : PySem.W.codeIn K cd7 "_law_take" = true) (k7 : PySem.W.keepIn K (.ref f7) = true)
    (a8 : PySem.W.nsIn K mainGlobals "_law_made" = some (some (.ref f8)))
    (l8 : K.lookup f8 = some ⟨oc8, od8, .func (PySem.W.fnOf "_law_made" "_law_made" (defArgs s_lawmade) (defBody s_lawmade) (defScope s_lawmade) .none kV8 dc8 pm8 an8 cd8 ct8), sl8⟩) (c8 : PySem.W.codeIn K cd8 "_law_made" = true) (k8 : PySem.W.keepIn K (.ref f8) = true)
    (a9 : PySem.W.nsIn K mainGlobals "_law_told_right" = some (some (.ref f9)))
    (l9 : K.lookup f9 = some ⟨oc9, od9, .func (PySem.W.fnOf "_law_told_right" "_law_told_right" (defArgs s_lawtoldright) (defBody s_lawtoldright) (defScope s_lawtoldright) .none kV9 dc9 pm9 an9 cd9 ct9), sl9⟩) (c9 : PySem.W.codeIn K cd9 "_law_told_right" = true) (k9 : PySem.W.keepIn K (.ref f9) = true)
    (a10 : PySem.W.nsIn K mainGlobals "_law_number" = some (some (.ref f10)))
    (l10 : K.lookup f10 = some ⟨oc10, od10, .func (PySem.W.fnOf "_law_number" "_law_number" (defArgs s_lawnumber) (defBody s_lawnumber) (defScope s_lawnumber) .none kV10 dc10 pm10 an10 cd10 ct10), sl10⟩) (c10 : PySem.W.codeIn K cd10 "_law_number" = true) (k10 : PySem.W.keepIn K (.ref f10) = true)
    (a11 : PySem.W.nsIn K mainGlobals "_law_unlike_orders" = some (some (.ref f11)))
    (l11 : K.lookup f11 = some ⟨oc11, od11, .func (PySem.W.fnOf "_law_unlike_orders" "_law_unlike_orders" (defArgs s_lawunlikeorders) (defBody s_lawunlikeorders) (defScope s_lawunlikeorders) .none kV11 dc11 pm11 an11 cd11 ct11), sl11⟩) (c11 : PySem.W.codeIn K cd11 "_law_unlike_orders" = true) (k11 : PySem.W.keepIn K (.ref f11) = true)
    (a12 : PySem.W.nsIn K mainGlobals "law" = some (some (.ref f12)))
    (l12 : K.lookup f12 = some ⟨oc12, od12, .func (PySem.W.fnOf "law" "law" (defArgs s_law) (defBody s_law) (defScope s_law) .none kV12 dc12 pm12 an12 cd12 ct12), sl12⟩) (c12 : PySem.W.codeIn K cd12 "law" = true) (k12 : PySem.W.keepIn K (.ref f12) = true)
    (aCWorker : PySem.W.nsIn K mainGlobals "Worker" = some (some (.ref CWorker))) (pgWorker : PySem.W.plainGet K CWorker Str.empty = true) (hdWorker : PySem.W.hasDictIn K CWorker = true) (poWorker : PySem.W.plainOver K CWorker = true) (saWorker : PySem.W.findIn K (.ref CWorker) "__setattr__" = some (some (.builtin "object.__setattr__"))) (mkWorker : PySem.W.makesIn K CWorker = true) (kcWorker : PySem.W.keepIn K (.ref CWorker) = true)
    (natrade : PySem.W.findIn K (.ref CWorker) "trade" = some none)
    (naknown : PySem.W.findIn K (.ref CWorker) "known" = some none)
    (nacounts : PySem.W.findIn K (.ref CWorker) "counts" = some none)
    (narecords : PySem.W.findIn K (.ref CWorker) "records" = some none)
    (v0 : PySem.W.nsIn K mainGlobals "GREATEST_WORTH" = some (some (.int 1000000000 tk0)))
    (zbool : PySem.W.nsIn K mainGlobals "bool" = some none)
    (zdict : PySem.W.nsIn K mainGlobals "dict" = some none)
    (zisinstance : PySem.W.nsIn K mainGlobals "isinstance" = some none)
    (zlen : PySem.W.nsIn K mainGlobals "len" = some none)
    (zlist : PySem.W.nsIn K mainGlobals "list" = some none)
    (zmax : PySem.W.nsIn K mainGlobals "max" = some none)
    (zmin : PySem.W.nsIn K mainGlobals "min" = some none)
    (zrange : PySem.W.nsIn K mainGlobals "range" = some none)
    (zsorted : PySem.W.nsIn K mainGlobals "sorted" = some none)
    : ∃ fd : FuncData, (∀ (s : Shared) (v : Value), BindsTo s fd ⟨[v], []⟩ [("script", v)]) ∧ ∀ base : Heap, K.In base → base.Ns mainGlobals mg → FnOk l.prog w K mg base CX0 6 fa fd ["script"] (spLaw K) := by
  have e := hfa.symm.trans (PySem.W.mg_of X G a12)
  cases e
  have F0 := fun_mk (st := s_kept) l0 c0 k0
  have B0 := F0.binds (ps := ["number"]) fun _ _ _ _ _ _ us hl => by obtain ⟨_, rfl⟩ := ln1 hl; rfl
  have F1 := fun_mk (st := s_numberof) l1 c1 k1
  have B1 := F1.binds (ps := ["worth"]) fun _ _ _ _ _ _ us hl => by obtain ⟨_, rfl⟩ := ln1 hl; rfl
  have F2 := fun_mk (st := s_Workerinit) l2 c2 k2
  have B2 := F2.binds (ps := ["self", "trade"]) fun _ _ _ _ _ _ us hl => by obtain ⟨_, _, rfl⟩ := ln2 hl; rfl
  have F3 := fun_mk (st := s_Workerdo) l3 c3 k3
  have B3 := F3.binds (ps := ["self", "run", "ticket", "work", "worth"]) fun _ _ _ _ _ _ us hl => by obtain ⟨_, _, _, _, _, rfl⟩ := ln5 hl; rfl
  have F4 := fun_mk (st := s_Workeranswerof) l4 c4 k4
  have B4 := F4.binds (ps := ["self", "work", "worth"]) fun _ _ _ _ _ _ us hl => by obtain ⟨_, _, _, rfl⟩ := ln3 hl; rfl
  have F5 := fun_mk (st := s_Workerdeeds) l5 c5 k5
  have B5 := F5.binds (ps := ["self"]) fun _ _ _ _ _ _ us hl => by obtain ⟨_, rfl⟩ := ln1 hl; rfl
  have F6 := fun_mk (st := s_lawcellat) l6 c6 k6
  have B6 := F6.binds (ps := ["script", "k"]) fun _ _ _ _ _ _ us hl => by obtain ⟨_, _, rfl⟩ := ln2 hl; rfl
  have F7 := fun_mk (st := s_lawtake) l7 c7 k7
  have B7 := F7.binds (ps := ["deck", "many"]) fun _ _ _ _ _ _ us hl => by obtain ⟨_, _, rfl⟩ := ln2 hl; rfl
  have F8 := fun_mk (st := s_lawmade) l8 c8 k8
  have B8 := F8.binds (ps := ["trade", "deeds", "work", "worth"]) fun _ _ _ _ _ _ us hl => by obtain ⟨_, _, _, _, rfl⟩ := ln4 hl; rfl
  have F9 := fun_mk (st := s_lawtoldright) l9 c9 k9
  have B9 := F9.binds (ps := ["worker", "deeds"]) fun _ _ _ _ _ _ us hl => by obtain ⟨_, _, rfl⟩ := ln2 hl; rfl
  have F10 := fun_mk (st := s_lawnumber) l10 c10 k10
  have B10 := F10.binds (ps := ["deck", "small"]) fun _ _ _ _ _ _ us hl => by obtain ⟨_, _, rfl⟩ := ln2 hl; rfl
  have F11 := fun_mk (st := s_lawunlikeorders) l11 c11 k11
  have B11 := F11.binds (ps := []) fun _ _ _ _ _ _ us hl => by obtain rfl := ln0 hl; rfl
  have F12 := fun_mk (st := s_law) l12 c12 k12
  have B12 := F12.binds (ps := ["script"]) fun _ _ _ _ _ _ us hl => by obtain ⟨_, rfl⟩ := ln1 hl; rfl
  have T : Tx K mg ⟨f0, _, f1, _, f2, _, f3, _, f4, _, f5, _, f6, _, f7, _, f8, _, f9, _, f10, _, f11, _, fa, _, tk0, CWorker⟩ := ⟨F0, B0, (PySem.W.mg_of X G a0), F1, B1, (PySem.W.mg_of X G a1), F2, B2, ⟨a2, i2, k2⟩, F3, B3, ⟨a3, i3, k3⟩, F4, B4, ⟨a4, i4, k4⟩, F5, B5, ⟨a5, i5, k5⟩, F6, B6, (PySem.W.mg_of X G a6), F7, B7, (PySem.W.mg_of X G a7), F8, B8, (PySem.W.mg_of X G a8), F9, B9, (PySem.W.mg_of X G a9), F10, B10, (PySem.W.mg_of X G a10), F11, B11, (PySem.W.mg_of X G a11), F12, B12, (PySem.W.mg_of X G a12), ⟨pgWorker, hdWorker, poWorker, saWorker⟩, (PySem.W.mg_of X G aCWorker), ⟨mkWorker, a2, i2, kcWorker⟩, natrade, naknown, nacounts, narecords, (PySem.W.mg_of X G v0), (PySem.W.mg_none_of X G zbool), (PySem.W.mg_none_of X G zdict), (PySem.W.mg_none_of X G zisinstance), (PySem.W.mg_none_of X G zlen), (PySem.W.mg_none_of X G zlist), (PySem.W.mg_none_of X G zmax), (PySem.W.mg_none_of X G zmin), (PySem.W.mg_none_of X G zrange), (PySem.W.mg_none_of X G zsorted)⟩
  exact ⟨PySem.W.fnOf "law" "law" (defArgs s_law) (defBody s_law) (defScope s_law) .none kV12 dc12 pm12 an12 cd12 ct12, fun s v => .of_eq rfl, fun base _ _ => ok_law T⟩
theorem walk {l : PySem.W.OpenLaw} {q : Program} {loose : List Str} {XP : (Str → Option Value) → Heap → Prop} {YP : World → Heap → Prop} {d : DefRec} {K : Params → PySem.W.Frag} (hn : l.most = some 63) (hdf : d.params.defaults = [])
    (hY : ∀ (w : World) (h : Heap), YP w h → (K w.params).In h)
    (F : ∀ (w : World) (mg : Str → Option Value) (fa : Addr) (h : Heap), (K w.params).In h → h.Ns mainGlobals mg → mg d.name = some (.ref fa) →
      ∃ fd : FuncData, (∀ (s : Shared) (u : Value), BindsTo s fd ⟨[u], []⟩ [("script", u)]) ∧ ∀ base : Heap, (K w.params).In base → base.Ns mainGlobals mg → FnOk l.prog w (K w.params) mg base CX0 6 fa fd ["script"] (spLaw (K w.params))) :
    PySem.W.WalkO q loose XP YP l.row.toRowW d [] (fun f vs => PySem.call f vs) :=
  L2.walk_of (n := 63) (k := 6) (x := "script") (CX := fun _ => CX0) (sp := fun w => spLaw (K w.params)) hn (by decide) hdf ⟨rfl, by decide, by decide⟩ hY F (fun _ _ a ns hl _ hS => ⟨a, ns, rfl, hS, hl, fun _ => rfl⟩) fun _ _ _ _ _ z => z
end Own
open PySem PySem.W PyProof.Rows
set_option maxRecDepth 100000 in
set_option maxHeartbeats 0 in
theorem PySem.Challenge.cw_outlast_k71_each_order_once_holds : PySem.Challenge.rw_outlast_k71_each_order_once.Holds := by
  w_on; o_law; z_head; (case hw => w_witness2)
  k_fill
  refine Own.walkX_of (fun _ => rfl) ?_
  refine Own.walk (l := PySem.Challenge.rw_outlast_k71_each_order_once) rfl rfl (fun w h Y => PySem.W.kIn_of Y) ?F
  case F =>
    intro w mg fa h KX G hmg
    refine' Own.all_mk KX G hmg ?a0 ?l0 ?c0 ?k0 ?a1 ?l1 ?c1 ?k1 ?a2 ?i2 ?l2 ?c2 ?k2 ?a3 ?i3 ?l3 ?c3 ?k3 ?a4 ?i4 ?l4 ?c4 ?k4 ?a5 ?i5 ?l5 ?c5 ?k5 ?a6 ?l6 ?c6 ?k6 ?a7 ?l7 ?c7 ?k7 ?a8 ?l8 ?c8 ?k8 ?a9 ?l9 ?c9 ?k9 ?a10 ?l10 ?c10 ?k10 ?a11 ?l11 ?c11 ?k11 ?a12 ?l12 ?c12 ?k12 ?aCWorker ?pgWorker ?hdWorker ?poWorker ?saWorker ?mkWorker ?kcWorker ?natrade ?naknown ?nacounts ?narecords ?v0 ?zbool ?zdict ?zisinstance ?zlen ?zlist ?zmax ?zmin ?zrange ?zsorted
    (case aCWorker => k_is)
    (case a0 => k_is)
    (case l0 => k_is)
    (case c0 => k_is)
    (case k0 => k_is)
    (case a1 => k_is)
    (case l1 => k_is)
    (case c1 => k_is)
    (case k1 => k_is)
    (case a2 => k_is)
    (case i2 => k_is)
    (case l2 => k_is)
    (case c2 => k_is)
    (case k2 => k_is)
    (case a3 => k_is)
    (case i3 => k_is)
    (case l3 => k_is)
    (case c3 => k_is)
    (case k3 => k_is)
    (case a4 => k_is)
    (case i4 => k_is)
    (case l4 => k_is)
    (case c4 => k_is)
    (case k4 => k_is)
    (case a5 => k_is)
    (case i5 => k_is)
    (case l5 => k_is)
    (case c5 => k_is)
    (case k5 => k_is)
    (case a6 => k_is)
    (case l6 => k_is)
    (case c6 => k_is)
    (case k6 => k_is)
    (case a7 => k_is)
    (case l7 => k_is)
    (case c7 => k_is)
    (case k7 => k_is)
    (case a8 => k_is)
    (case l8 => k_is)
    (case c8 => k_is)
    (case k8 => k_is)
    (case a9 => k_is)
    (case l9 => k_is)
    (case c9 => k_is)
    (case k9 => k_is)
    (case a10 => k_is)
    (case l10 => k_is)
    (case c10 => k_is)
    (case k10 => k_is)
    (case a11 => k_is)
    (case l11 => k_is)
    (case c11 => k_is)
    (case k11 => k_is)
    (case a12 => k_is)
    (case l12 => k_is)
    (case c12 => k_is)
    (case k12 => k_is)
    (case pgWorker => k_is)
    (case hdWorker => k_is)
    (case poWorker => k_is)
    (case saWorker => k_is)
    (case mkWorker => k_is)
    (case kcWorker => k_is)
    (case natrade => k_is)
    (case naknown => k_is)
    (case nacounts => k_is)
    (case narecords => k_is)
    (case v0 => k_is)
    (case zbool => k_is)
    (case zdict => k_is)
    (case zisinstance => k_is)
    (case zlen => k_is)
    (case zlist => k_is)
    (case zmax => k_is)
    (case zmin => k_is)
    (case zrange => k_is)
    (case zsorted => k_is)
