import PyProof.Rows.All
import Wide.All
import OpenK.AllK
import Wide.FinOn
import Lean
import PyProof.EqAt
import PyProof.EqKinds
import PyProof.TupleCall
import PySem.Challenge.RW_outlast_k11_whole_texts_put_together
set_option Elab.async false
set_option linter.all false
set_option maxRecDepth 100000
/-! THE HAND LAYER, for ints, bools, texts, own classes, LISTS and tuples (index, slices, in, append, pop ..), calls, loops. Paste it whole ahead of your own text; what your proof does not reach may be deleted. -/
local macro_rules | `(command| set_option linter.all false in $c:command) => return c.raw.rewriteBottomUp (·.setInfo .none)
local macro_rules | `(tactic| omega) => `(tactic| first | assumption | lia | omega +splitDisjunctions)
local macro_rules | `(tactic| trivial) => `(tactic| first | exact .inl rfl | exact .inr rfl | exact .inr (.inl rfl) | exact .inr (.inr rfl) | exact List.not_mem_nil | assumption | (intro _; rfl) | simp_all)
namespace L2
open PySem PySem.Spec PyProof.Rows

set_option linter.all false in private inductive Key where
  | inl (i : Int) | inr (x : Str) | no
  deriving DecidableEq
set_option linter.all false in private noncomputable def keyIs : Key → Value → Bool
  | .inl k, v => Value.isInt k v
  | .inr x, v => Value.isStrOf x v
  | .no, .none => true
  | .no, _ => false
set_option linter.all false in private noncomputable def keyH (w : World) : Key → Int
  | .inl k => hashInt k
  | .inr x => hashStr w x
  | .no => reduceHash 0xFCA86420
set_option linter.all false in private theorem keyIs_shape : ∀ {k : Key} {v : Value}, keyIs k v = true → (∃ i t, k = Key.inl i ∧ v = Value.int i t) ∨ (∃ x t, k = Key.inr x ∧ v = Value.str x t) ∨ (k = Key.no ∧ v = Value.none)
  | .inl i, v, h => by
    obtain ⟨t, e⟩ := Value.isInt_shape (k := i) (v := v) h
    exact .inl ⟨i, t, rfl, e⟩
  | .inr x, v, h => by
    obtain ⟨t, e⟩ := Value.isStrOf_shape (x := x) (v := v) h
    exact .inr (.inl ⟨x, t, rfl, e⟩)
  | .no, v, h => by
    cases v <;> first | exact .inr (.inr ⟨rfl, rfl⟩) | cases h
set_option linter.all false in private theorem keyIs_int (i : Int) (t : Tok) : keyIs (.inl i) (.int i t) = true := by simp [keyIs, Value.isInt]
set_option linter.all false in private theorem keyIs_str (x : Str) (t : Tok) : keyIs (.inr x) (.str x t) = true := by simp [keyIs, Value.isStrOf]
set_option linter.all false in private theorem key_ll (a b : Int) : decide (Key.inl a = Key.inl b) = (a == b) := by
  by_cases e : a = b
  · subst e; simp
  · have h : ¬ Key.inl a = Key.inl b := fun q => e (Key.inl.inj q)
    rw [decide_eq_false h]
    exact (beq_eq_false_iff_ne.mpr e).symm
set_option linter.all false in private theorem key_rr (a b : Str) : decide (Key.inr a = Key.inr b) = decide (a = b) := by
  by_cases e : a = b
  · subst e; simp
  · have h : ¬ Key.inr a = Key.inr b := fun q => e (Key.inr.inj q)
    rw [decide_eq_false h, decide_eq_false e]
set_option linter.all false in private noncomputable def mixKind (prog : Program) (w : World) : PySem.KeyKind prog w Key where
  is := keyIs
  hash := keyH w
  inj := fun v a b ha hb => by
    rcases keyIs_shape ha with ⟨i, t, rfl, rfl⟩ | ⟨x, t, rfl, rfl⟩ | ⟨rfl, rfl⟩ <;> rcases keyIs_shape hb with ⟨j, u, rfl, e⟩ | ⟨y, u, rfl, e⟩ | ⟨rfl, e⟩ <;>
      first | rfl | (cases e <;> rfl)
  byValue := fun k v h => by
    rcases keyIs_shape h with ⟨i, t, rfl, rfl⟩ | ⟨x, t, rfl, rfl⟩ | ⟨rfl, rfl⟩ <;> rfl
  pyHash := fun hv h => by
    rcases keyIs_shape hv with ⟨i, t, rfl, rfl⟩ | ⟨x, t, rfl, rfl⟩ | ⟨rfl, rfl⟩
    · exact wpAny_pyHash_int h
    · exact wpAny_pyHash_str h
    · exact PySem.W.pyHash_slot (T := "NoneType") rfl F.slot_NoneType_hash F.entry_NoneType_hash (F.args_NoneType_hash_1 _) (beq_builtin_none _) (.inl rfl) (wpAny_bind (wpAny_pure (wpAny_bind (wpAny_mkInt (wpAny_pure ⟨_, _, rfl, h⟩)))))
  eqBool := fun hu hv h => by
    rcases keyIs_shape hu with ⟨i, t, rfl, rfl⟩ | ⟨x, t, rfl, rfl⟩ | ⟨rfl, rfl⟩ <;> rcases keyIs_shape hv with ⟨j, u, rfl, rfl⟩ | ⟨y, u, rfl, rfl⟩ | ⟨rfl, rfl⟩
    · rw [key_ll] at h; exact wpAny_eqBool_int h
    · exact SeqAt.EqAt.int_str i t y u _ _ _ _ h
    · exact SeqAt.EqAt.int_none i t _ _ _ _ h
    · exact SeqAt.EqAt.str_int x t j u _ _ _ _ h
    · rw [key_rr] at h; exact wpAny_eqBool_str h
    · exact SeqAt.EqAt.str_none x t _ _ _ _ h
    · exact SeqAt.EqAt.none_int j u _ _ _ _ h
    · exact SeqAt.EqAt.none_str y u _ _ _ _ h
    · exact SeqAt.EqAt.same .none _ _ _ _ h
  «strs» := fun k x t v h => by
    rcases keyIs_shape h with ⟨i, u, rfl, e⟩ | ⟨y, u, rfl, e⟩ | ⟨rfl, e⟩
    · exact nomatch e
    · injection e with e1 _
      subst e1
      cases v <;> rfl
    · exact nomatch e
set_option linter.all false in private theorem mixKind_int (prog : Program) (w : World) (i : Int) (t : Tok) : (mixKind prog w).is (.inl i) (.int i t) = true := keyIs_int i t
set_option linter.all false in private theorem mixKind_str (prog : Program) (w : World) (x : Str) (t : Tok) : (mixKind prog w).is (.inr x) (.str x t) = true := keyIs_str x t
end L2

namespace L2
open PySem PySem.Spec PyProof.Rows

set_option linter.all false in private inductive V where
  | non | bl (b : Bool) | int (i : Int) | str (x : Str) | byt (b : Array UInt8) | flt (b : UInt64) | ref (a : Addr) | ty (n : String)
  deriving DecidableEq

set_option linter.all false in private noncomputable def RelV : V → Value → Prop
  | .non, u => u = Value.none
  | .bl b, u => u = Value.bool b
  | .int i, u => ∃ t, u = Value.int i t
  | .str x, u => ∃ t, u = Value.str x t
  | .byt b, u => ∃ t, u = Value.bytes b t
  | .flt b, u => ∃ t, u = Value.float b t
  | .ref a, u => u = Value.ref a
  | .ty n, u => u = Value.type n

set_option linter.all false in private noncomputable abbrev Vals : List V → List Value → Prop := Paired RelV
set_option linter.all false in private theorem Vals.length {xs : List V} {us : List Value} (r : Vals xs us) : xs.length = us.length := Paired.length r
set_option linter.all false in private theorem Vals.get : ∀ {xs : List V} {us : List Value} {i : Nat} {x : V}, Vals xs us → xs[i]? = some x → ∃ u, us[i]? = some u ∧ RelV x u
  | _, _, _, _, .nil, e => by simp at e
  | _, _, 0, _, .cons r _, e => by simp at e; subst e; exact ⟨_, rfl, r⟩
  | _, _, i + 1, x, .cons _ t, e => by
    obtain ⟨u, h1, h2⟩ := Vals.get (i := i) (x := x) t (by simpa using e)
    exact ⟨u, by simpa using h1, h2⟩
set_option linter.all false in private theorem Vals.set {x : V} {u : Value} (r : RelV x u) : ∀ {xs : List V} {us : List Value} (i : Nat), Vals xs us → Vals (xs.set i x) (us.set i u)
  | _, _, _, .nil => .nil
  | _, _, 0, .cons _ t => .cons r t
  | _, _, i + 1, .cons q t => .cons q (Vals.set r i t)
set_option linter.all false in private theorem Vals.append {xs ys : List V} {us ws : List Value} (h : Vals xs us) (s : Vals ys ws) : Vals (xs ++ ys) (us ++ ws) := by
  induction h with
  | nil => exact s
  | cons r _ ih => exact .cons r ih
set_option linter.all false in private theorem Vals.take : ∀ {xs : List V} {us : List Value} (n : Nat), Vals xs us → Vals (xs.take n) (us.take n)
  | _, _, 0, _ => .nil
  | _, _, _ + 1, .nil => .nil
  | _, _, n + 1, .cons r t => .cons r (Vals.take n t)
set_option linter.all false in private theorem Vals.drop : ∀ {xs : List V} {us : List Value} (n : Nat), Vals xs us → Vals (xs.drop n) (us.drop n)
  | _, _, 0, r => r
  | _, _, _ + 1, .nil => .nil
  | _, _, n + 1, .cons _ t => Vals.drop n t
set_option linter.all false in private noncomputable def RelO : Option V → Option Value → Prop
  | some v, some u => RelV v u
  | none, none => True
  | _, _ => False
set_option linter.all false in private noncomputable def KV {κ : Type} : List (κ × V) → List (κ × Value) → Prop := Paired fun (p : κ × V) (q : κ × Value) => p.1 = q.1 ∧ RelV p.2 q.2

set_option linter.all false in private noncomputable def kV : Key → V
  | .inl i => .int i
  | .inr x => .str x
  | .no => .non

set_option linter.all false in private inductive HO where
  /-- a list -/
  | lst (xs : List V)
  /-- a tuple (never changes) -/
  | tup (xs : List V)
  /-- a dict whose keys are ints and texts; one whose keys are tuples of ints and texts (the empty one is both) -/
  | dK (kvs : List (Key × V)) | dT (kvs : List (List Key × V))
  /-- a set of ints: its members, its size -/
  | set (S : Int → Bool) (n : Nat)
  /-- an instance of the class at C, its dict at dx, its attributes -/
  | ins (C dx : Addr) (fs : List (Str × V))
  /-- the dict of the instance at x -/
  | own (x : Addr)
  /-- the dict of an exception -/
  | xd (fs : List (Str × V))
  /-- a bound method, f of x -/
  | met (f x : Addr)
  /-- a range object lo, lo + 1, .. below hi -/
  | rng (lo hi : Int)
  /-- a thing that is known to the object (the script; a dict while a loop walks it): read, never written while it is so -/
  | frz (o : Obj) (u : HO)
  /-- a code object's table -/
  | tbl (ps : Array Value)
  /-- any other thing, by what is true of its one object (a def of one's own: SetO a S n := HO.ext fun h => ..) -/
  | ext (φ : Heap → Prop)

set_option linter.all false in private noncomputable abbrev Hp := Addr → Option HO
set_option linter.all false in private noncomputable def upd (H : Hp) (a : Addr) (o : HO) : Hp := fun b => if b = a then some o else H b
set_option linter.all false in private theorem upd_same {H : Hp} {a : Addr} {o : HO} : upd H a o a = some o := by unfold upd; rw [if_pos rfl]
set_option linter.all false in private theorem upd_ne {H : Hp} {a b : Addr} {o : HO} (h : b ≠ a) : upd H a o b = H b := by unfold upd; rw [if_neg h]
set_option linter.all false in private theorem ne_of {H : Hp} {a b : Addr} {o u : HO} (h : H a = some o) (h' : H b = some u) (d : o ≠ u) : a ≠ b := by
  intro e; subst e; rw [h] at h'; exact d (Option.some.inj h')
set_option linter.all false in private theorem ne_of_none {H : Hp} {a b : Addr} {o : HO} (h : H a = some o) (h' : H b = none) : a ≠ b := by
  intro e; subst e; rw [h] at h'; cases h'

section
variable (P : Program) (w : World)
set_option linter.all false in private noncomputable def ObjOk (H : Hp) (h : Heap) (a : Addr) : HO → Prop
  | .lst xs => xs.length ≤ sizeLine ∧ ∃ (its : List Value) (n : Nat), Vals xs its ∧ h.get? a = some { cls := .type "list", data := .seq its.toArray n }
  | .tup xs => xs.length ≤ sizeLine ∧ ∃ its : List Value, Vals xs its ∧ IsTup h a its.toArray
  | .dK kvs => kvs.length ≤ sizeLine ∧ (a == sysModules) = false ∧ ∃ vs, KV kvs vs ∧ h.DictOf (mixKind P w) a vs
  | .dT kvs => kvs.length ≤ sizeLine ∧ (a == sysModules) = false ∧ ∃ xs : List (List Key × Addr × Value),
      Paired (fun (p : List Key × V) (q : List Key × Addr × Value) => p.1 = q.1 ∧ H q.2.1 = some (.tup (p.1.map kV)) ∧ RelV p.2 q.2.2) kvs xs ∧
      ∃ o es ep, h.get? a = some o ∧ o.ExactDict ∧ o.data = .dict es ep ∧ es.toList = xs.map (entryOfKey (tupleKind (mixKind P w))) ∧ (xs.map (·.1)).Nodup
  | .set S n => h.SetOf (intKind P w) a S n
  | .ins C dx fs => H dx = some (.own a) ∧ fs.length ≤ 1000 ∧ dx ≠ a ∧ h.get? a = some (PySem.W.instObj C dx) ∧
      ∃ mA, h.Ns1 dx mA ∧ (∀ f, RelO (fs.lookup f) (mA f)) ∧ PySem.Within mA (fs.map (·.1))
  | .own _ => ∃ o, h.get? a = some o
  | .xd fs => ∃ mA, h.Ns1 a mA ∧ ∀ f, RelO (fs.lookup f) (mA f)
  | .rng lo hi => ∃ t u v, h.get? a = some { cls := .type "range", data := .fields #[.int lo t, .int hi u, .int 1 v] }
  | .frz o u => h.get? a = some o ∧ ObjOk H h a u
  | .tbl ps => h.get? a = some { cls := .none, data := .fields ps }
  | .met f x => h.get? a = some (PySem.W.methodObj (.ref f) (.ref x))
  | .ext φ => φ h ∧ (∃ o, h.get? a = some o) ∧ ∀ h1 h2 : Heap, φ h1 → (∀ o, h1.get? a = some o → h2.get? a = some o) → φ h2
set_option linter.all false in private noncomputable def HOk (H : Hp) (h : Heap) : Prop := ∀ a o, H a = some o → ObjOk P w H h a o
end

section
variable {P : Program} {w : World} {H H' : Hp} {h h' : Heap} {a : Addr} {o : HO}
set_option linter.all false in private theorem ObjOk.lt (x : ObjOk P w H h a o) : a < h.objs.size := by
  cases o with
  | lst xs => obtain ⟨_, _, _, _, e⟩ := x; exact Heap.lt_size e
  | tup xs => obtain ⟨_, _, _, p⟩ := x; exact p.lt
  | dK kvs => obtain ⟨_, _, _, _, o, _, _, e, _⟩ := x; exact Heap.lt_size e
  | dT kvs => obtain ⟨_, _, _, _, o, _, _, e, _⟩ := x; exact Heap.lt_size e
  | set S n => obtain ⟨o, _, _, _, e, _⟩ := x; exact Heap.lt_size e
  | ins C dx fs => obtain ⟨_, _, _, e, _⟩ := x; exact Heap.lt_size e
  | own y => obtain ⟨_, e⟩ := x; exact Heap.lt_size e
  | xd fs => obtain ⟨_, ⟨_, _, _, e, _⟩, _⟩ := x; exact Heap.lt_size e
  | rng lo hi => obtain ⟨_, _, _, e⟩ := x; exact Heap.lt_size e
  | frz ob u => obtain ⟨e, _⟩ := x; exact Heap.lt_size e
  | tbl ps => exact Heap.lt_size (show h.get? a = some _ from x)
  | met f y => exact Heap.lt_size (show h.get? a = some _ from x)
  | ext φ => obtain ⟨_, ⟨_, e⟩, _⟩ := x; exact Heap.lt_size e
set_option linter.all false in private theorem Paired.mapP {α β : Type} {F G : α → β → Prop} : ∀ {l₁ : List α} {l₂ : List β}, Paired F l₁ l₂ → (∀ a b, F a b → G a b) → Paired G l₁ l₂
  | _, _, .nil, _ => .nil
  | _, _, .cons r t, f => .cons (f _ _ r) (Paired.mapP t f)
set_option linter.all false in private theorem ObjOk.stay (x : ObjOk P w H h a o) (k : ∀ b u, (b = a ∨ H b = some (.own a)) → h.get? b = some u → h'.get? b = some u)
    (ho : ∀ b, H b = some (.own a) → H' b = some (.own a)) (ht : ∀ b xs, H b = some (.tup xs) → H' b = some (.tup xs)) : ObjOk P w H' h' a o := by
  induction o with
  | lst xs => obtain ⟨z, its, n, r, e⟩ := x; exact ⟨z, its, n, r, k _ _ (.inl rfl) e⟩
  | tup xs => obtain ⟨z, its, r, ob, e, c⟩ := x; exact ⟨z, its, r, ob, k _ _ (.inl rfl) e, c⟩
  | dK kvs => obtain ⟨z, y, vs, r, ob, es, ep, e, c⟩ := x; exact ⟨z, y, vs, r, ob, es, ep, k _ _ (.inl rfl) e, c⟩
  | dT kvs =>
    obtain ⟨z, y, xs, r, ob, es, ep, e, c⟩ := x
    exact ⟨z, y, xs, Paired.mapP r fun p q z => ⟨z.1, ht _ _ z.2.1, z.2.2⟩, ob, es, ep, k _ _ (.inl rfl) e, c⟩
  | set S n => obtain ⟨ob, es, ep, t, e, c⟩ := x; exact ⟨ob, es, ep, t, k _ _ (.inl rfl) e, c⟩
  | ins C dx fs =>
    obtain ⟨d, z, ne, e, mA, ⟨od, es, ep, e2, c⟩, r⟩ := x
    exact ⟨ho _ d, z, ne, k _ _ (.inl rfl) e, mA, ⟨od, es, ep, k _ _ (.inr d) e2, c⟩, r⟩
  | own y => obtain ⟨ob, e⟩ := x; exact ⟨ob, k _ _ (.inl rfl) e⟩
  | xd fs => obtain ⟨mA, ⟨od, es, ep, e, c⟩, r⟩ := x; exact ⟨mA, ⟨od, es, ep, k _ _ (.inl rfl) e, c⟩, r⟩
  | rng lo hi => obtain ⟨t, u, v, e⟩ := x; exact ⟨t, u, v, k _ _ (.inl rfl) e⟩
  | frz ob u ih => obtain ⟨e, q⟩ := x; exact ⟨k _ _ (.inl rfl) e, ih q⟩
  | tbl ps =>
    have e : h.get? a = some { cls := .none, data := .fields ps } := x
    show h'.get? a = some { cls := .none, data := .fields ps }
    exact k a _ (.inl rfl) e
  | met f y =>
    have e : h.get? a = some (PySem.W.methodObj (.ref f) (.ref y)) := x
    show h'.get? a = some (PySem.W.methodObj (.ref f) (.ref y))
    exact k a _ (.inl rfl) e
  | ext φ => obtain ⟨p, ⟨o, e⟩, st⟩ := x; exact ⟨st _ _ p fun o q => k _ _ (.inl rfl) q, ⟨o, k _ _ (.inl rfl) e⟩, st⟩
set_option linter.all false in private theorem HOk.lt (x : HOk P w H h) (e : H a = some o) : a < h.objs.size := (x a o e).lt
set_option linter.all false in private theorem HOk.fresh (x : HOk P w H h) (e : h.objs.size ≤ a) : H a = none := by
  cases q : H a with
  | none => rfl
  | some u => exact absurd (Nat.lt_of_lt_of_le (x.lt q) e) (Nat.lt_irrefl _)
set_option linter.all false in private theorem HOk.kept (x : HOk P w H h) (k : ∀ b u, h.get? b = some u → h'.get? b = some u) : HOk P w H h' := fun a o e =>
  (x a o e).stay (fun b u _ q => k b u q) (fun _ q => q) fun _ _ q => q
set_option linter.all false in private theorem HOk.laid (x : HOk P w H h) (k : ∀ b u, h.get? b = some u → h'.get? b = some u) (hp : h.objs.size ≤ a) (new : ObjOk P w (upd H a o) h' a o) : HOk P w (upd H a o) h' := fun b u e => by
  have hn := x.fresh hp
  by_cases hb : b = a
  · subst hb; rw [upd_same] at e; cases e; exact new
  · rw [upd_ne hb] at e
    exact (x b u e).stay (fun c v _ q => k c v q) (fun c q => by rw [upd_ne (ne_of_none q hn)]; exact q) fun c xs q => by rw [upd_ne (ne_of_none q hn)]; exact q
end

set_option linter.all false in private noncomputable def Rd (H : Hp) (a : Addr) (u : HO) : Prop := H a = some u ∨ ∃ o, H a = some (.frz o u)
set_option linter.all false in private theorem Rd.ok {P : Program} {w : World} {H : Hp} {h : Heap} {a : Addr} {u : HO} (r : Rd H a u) (x : HOk P w H h) : ObjOk P w H h a u := by
  rcases r with r | ⟨o, r⟩
  · exact x a u r
  · obtain ⟨_, q⟩ := x a _ r
    exact q
set_option linter.all false in private noncomputable def Mut : Option HO → Prop
  | some (.lst _) => True
  | some (.dK _) => True
  | some (.dT _) => True
  | some (.set _ _) => True
  | some (.ins _ _ _) => True
  | some (.ext _) => True
  | _ => False
section
variable {P : Program} {w : World} {H : Hp} {h h' : Heap} {x e : Addr} {o' : HO}
set_option linter.all false in private theorem HOk.write (ok : HOk P w H h) (mu : Mut (H x)) (he : e = x ∨ H e = some (.own x)) (k : ∀ b u, b ≠ e → h.get? b = some u → h'.get? b = some u) (heo : ∃ u, h'.get? e = some u)
    (new : ObjOk P w (upd H x o') h' x o') : HOk P w (upd H x o') h' := fun b u q => by
  have nown : ∀ c y, H c = some (.own y) → c ≠ x := fun c y r z => by subst z; rw [r] at mu; exact mu
  have ntup : ∀ c xs, H c = some (.tup xs) → c ≠ x := fun c xs r z => by subst z; rw [r] at mu; exact mu
  by_cases hb : b = x
  · subst hb; rw [upd_same] at q; cases q; exact new
  · rw [upd_ne hb] at q
    by_cases hbe : b = e
    · have q' : H b = some (.own x) := by
        rcases he with z | z
        · exact absurd (hbe.trans z) hb
        · rw [hbe]; exact z
      rw [q] at q'; cases q'
      obtain ⟨v, hv⟩ := heo
      exact ⟨v, by rw [hbe]; exact hv⟩
    · refine (ok b u q).stay (fun c v hc r => k c v ?_ r) (fun c r => by rw [upd_ne (nown c b r)]; exact r) fun c xs r => by rw [upd_ne (ntup c xs r)]; exact r
      rcases hc with rfl | hc
      · exact hbe
      · rintro rfl
        rcases he with z | z
        · exact nown c b hc z
        · rw [hc] at z; cases z; exact hb rfl
end

/-! ### kept unless tracked; of the frames at fs (the callers') the slots may change (an exception that passes writes there); of the records at ex (iterators) nothing is said -/
set_option linter.all false in private structure Un (fs ex : List Addr) (H H' : Hp) (h h' : Heap) : Prop where
  keep : ∀ b o, h.get? b = some o → H b = none → b ∉ fs → b ∉ ex → h'.get? b = some o
  slot : ∀ b o, h.get? b = some o → H b = none → b ∈ fs → b ∉ ex → ∃ sl, h'.get? b = some { o with slots := sl }
  free : ∀ b o, h.get? b = some o → H b = none → b ∉ ex → H' b = none
  there : ∀ b o, h.get? b = some o → b ∉ ex → ∃ o', h'.get? b = some o'
  tups : ∀ b xs, H b = some (.tup xs) → H' b = some (.tup xs)
  frzs : ∀ b o u, H b = some (.frz o u) → H' b = some (.frz o u)
  tbls : ∀ b ps, H b = some (.tbl ps) → ∃ more, H' b = some (.tbl (ps ++ more))
section
variable {fs fs' ex ex' : List Addr} {H H1 H2 : Hp} {h h1 h2 h' : Heap} {a x e : Addr} {o : HO}
set_option linter.all false in private theorem Un.any (u : Un fs ex H H1 h h1) {b : Addr} {ob : Obj} (q : h.get? b = some ob) (n : H b = none) (hx : b ∉ ex) : ∃ sl, h1.get? b = some { ob with slots := sl } := by
  by_cases hb : b ∈ fs
  · exact u.slot b ob q n hb hx
  · exact ⟨ob.slots, u.keep b ob q n hb hx⟩
set_option linter.all false in private theorem Un.kept (k : ∀ b u, h.get? b = some u → h'.get? b = some u) : Un fs ex H H h h' :=
  ⟨fun b ob q _ _ _ => k b ob q, fun b ob q _ _ _ => ⟨ob.slots, k b ob q⟩, fun _ _ _ n _ => n, fun b ob q _ => ⟨ob, k b ob q⟩, fun _ _ q => q, fun _ _ _ q => q, fun _ ps q => ⟨#[], by rw [q]; simp⟩⟩
set_option linter.all false in private theorem Un.refl : Un fs ex H H h h := Un.kept fun _ _ q => q
set_option linter.all false in private theorem Un.laid (k : ∀ b u, h.get? b = some u → h'.get? b = some u) (hp : h.objs.size ≤ a) (hn : H a = none) : Un fs ex H (upd H a o) h h' where
  keep := fun b u q _ _ _ => k b u q
  slot := fun b u q _ _ _ => ⟨u.slots, k b u q⟩
  free := fun b u q n _ => by rw [upd_ne (Nat.ne_of_lt (Nat.lt_of_lt_of_le (Heap.lt_size q) hp))]; exact n
  there := fun b u q _ => ⟨u, k b u q⟩
  tups := fun b xs q => by rw [upd_ne (ne_of_none q hn)]; exact q
  frzs := fun b u xs q => by rw [upd_ne (ne_of_none q hn)]; exact q
  tbls := fun b ps q => ⟨#[], by rw [upd_ne (ne_of_none q hn), q]; simp⟩
set_option linter.all false in private theorem Un.write (mu : Mut (H x)) (he : e = x ∨ H e = some (.own x)) (k : ∀ b u, b ≠ e → h.get? b = some u → h'.get? b = some u) (heo : ∃ u, h'.get? e = some u) : Un fs ex H (upd H x o) h h' := by
  have hx : ∀ b, H b = none → b ≠ x := fun b n z => by subst z; rw [n] at mu; exact mu
  have hb : ∀ b, H b = none → b ≠ e := fun b n z => by
    subst z
    rcases he with r | r
    · exact hx b n r
    · rw [n] at r; cases r
  have hm : ∀ b u, H b = some u → ¬ Mut (some u) → b ≠ x := fun b u q nm z => by subst z; rw [q] at mu; exact nm mu
  refine ⟨fun b u q n _ _ => k b u (hb b n) q, fun b u q n _ _ => ⟨u.slots, k b u (hb b n) q⟩, fun b u q n _ => by rw [upd_ne (hx b n)]; exact n, fun b u q _ => ?_,
    fun b xs q => by rw [upd_ne (hm b _ q fun z => z)]; exact q, fun b u xs q => by rw [upd_ne (hm b _ q fun z => z)]; exact q, fun b ps q => ⟨#[], by rw [upd_ne (hm b _ q fun z => z), q]; simp⟩⟩
  by_cases hbe : b = e
  · subst hbe; exact heo
  · exact ⟨u, k b u hbe q⟩
end

/-! ### the heap without what is tracked -/
set_option linter.all false in private noncomputable def trk (h : Heap) (H : Hp) : List Addr := (List.range h.objs.size).filter fun a => (H a).isSome
set_option linter.all false in private noncomputable def hidT (h : Heap) (H : Hp) : Heap := PySem.W.hideAll h (trk h H)
set_option linter.all false in private theorem hidT_size (h : Heap) (H : Hp) : (hidT h H).objs.size = h.objs.size := PySem.W.hideAll_size _ _
set_option linter.all false in private theorem hidT_get {h : Heap} {H : Hp} {b : Addr} {o : Obj} (e : h.get? b = some o) (n : H b = none) : (hidT h H).get? b = some o :=
  PySem.W.hideAll_get _ e fun hm => by
    have q : (H b).isSome = true := (List.mem_filter.mp hm).2
    rw [n] at q; simp at q
set_option linter.all false in private theorem of_hidT {h : Heap} {H : Hp} {b : Addr} {o : Obj} (e : (hidT h H).get? b = some o) : h.get? b = some o ∧ H b = none := by
  have e' : h.get? b = some o := PySem.W.of_hideAll (trk h H) e
  refine ⟨e', ?_⟩
  cases q : H b with
  | none => rfl
  | some x =>
    have hm : b ∈ trk h H := List.mem_filter.mpr ⟨List.mem_range.mpr (Heap.lt_size e'), by simp [q]⟩
    have z : (hidT h H).get? b = none := PySem.W.hideAll_none (trk h H) hm
    rw [z] at e; cases e

/-! ### OpenK's ledger, filled with every new object but one -/
set_option linter.all false in private noncomputable def allNews (g h : Heap) (L : Addr) : List (Addr × Obj) := (List.range h.objs.size).filterMap fun a => if a = L ∨ (g.get? a).isSome = true then none else (h.get? a).map fun o => (a, o)
set_option linter.all false in private noncomputable def rest (g h : Heap) (L d : Addr) : List (Addr × Obj) := (allNews g h L).filter fun p => decide (p.1 ≠ d)
end L2

namespace L2
open PySem PySem.Spec PyProof.Rows

set_option linter.all false in private structure Mod (K : PySem.W.Frag) (mg : Str → Option Value) (base : Heap) : Prop where
  kin : K.In base
  glob : base.Ns mainGlobals mg
  blt : ∃ mb, base.Ns builtinsNs mb ∧ ∀ x : Str, x ≠ "__name__" → mb x = bootBuiltins x
  nolimit : base.NoLimit

set_option linter.all false in private structure Cx where
  prog : Program
  w : World
  K : PySem.W.Frag
  mg : Str → Option Value
  base : Heap
  A : Around
  N : List Str
  s₀ : Shared
  H₀ : Hp
  env : Env
  outer : List Env
  stack : List Env
  ex : List Addr
  fn : Str → Bool
  calm : Bool
  pn : List (Addr × Obj)
  xe : Value → Shared → Prop
set_option linter.all false in private noncomputable def frs (l : List Env) : List Addr := l.filterMap (·.frame)
set_option linter.all false in private noncomputable abbrev Cx.fs (X : Cx) : List Addr := frs X.outer

set_option linter.all false in private noncomputable def Vis (sc : Scope) (x : Str) : Prop := sc.names.lookup x = some .local ∨ sc.names.lookup x = some .cell ∨ sc.names.lookup x = some .free
set_option linter.all false in private noncomputable def Loc (sc : Scope) (x : Str) : Prop := sc.names.lookup x = some .local ∨ sc.names.lookup x = some .cell
set_option linter.all false in private noncomputable def Look (env : Env) (h : Heap) (m : Str → Option Value) (x : Str) (u : Value) : Prop :=
  (env.kindOf x = some .local ∧ m x = some u) ∨ ((env.kindOf x = some .cell ∨ env.kindOf x = some .free) ∧ ∃ c, env.cells.lookup x = some c ∧ h.IsCell c (some u))

set_option linter.all false in private structure Cx.Ok (X : Cx) : Prop where
  mod : Mod X.K X.mg X.base
  kind : X.env.scope.kind = .function
  glob : X.env.globals = mainGlobals
  blt : X.env.builtins = builtinsNs
  above : X.s₀.heap.objs.size ≤ X.env.locals
  inj : ∀ x y c, X.env.cells.lookup x = some c → X.env.cells.lookup y = some c → x = y
  has : ∀ x, (X.env.kindOf x = some .cell ∨ X.env.kindOf x = some .free) → ∃ c, X.env.cells.lookup x = some c
  cab : ∀ x c, X.fn x = true → X.env.cells.lookup x = some c → X.s₀.heap.objs.size ≤ c
  hd : X.calm = true → X.A.handled = none
  frames : X.A.frames = some X.stack
  stk : X.stack = X.outer ∨ (X.stack = X.env :: X.outer ∧ X.env.frame = some X.env.locals)
  exf : ∀ b ∈ X.ex, b ≠ X.env.locals ∧ ∀ x c, X.env.cells.lookup x = some c → c ≠ b
  bs : ∀ b o, X.base.get? b = some o → X.s₀.heap.get? b = some o ∧ X.H₀ b = none
  bsz : X.base.objs.size ≤ X.s₀.heap.objs.size
  noex : ∀ b o, X.base.get? b = some o → b ∉ X.ex
  exfs : ∀ b ∈ X.ex, b ∉ X.fs
  funs : X.s₀.heap.FunFrames X.base X.outer
  frf : ∀ b ∈ X.fs, X.H₀ b = none

set_option linter.all false in private structure Inv (X : Cx) (pins : List (Addr × Obj)) (σ : List (Option V)) (H : Hp) (s : Shared) : Prop where
  ok : X.Ok
  os : s.os = X.s₀.os
  bare : AllBare s.gens
  base : Un X.fs X.ex X.H₀ H X.s₀.heap s.heap
  loc : ∃ m, s.heap.Ns X.env.locals m ∧ ∀ (i : Nat) (x : Str) (v : V), X.N[i]? = some x → σ[i]? = some (some v) → Vis X.env.scope x → ∃ u, RelV v u ∧ Look X.env s.heap m x u
  cell : ∀ x c, X.env.cells.lookup x = some c → ∃ v, s.heap.IsCell c v
  free : H X.env.locals = none
  freeC : ∀ x c, X.env.cells.lookup x = some c → H c = none
  pin : ∀ p ∈ X.pn ++ pins, s.heap.get? p.1 = some p.2 ∧ H p.1 = none ∧ p.1 ≠ X.env.locals ∧ p.1 ∉ X.fs ∧ ∀ v, p.2.data ≠ .cell v
  hok : HOk X.prog X.w H s.heap
  len : σ.length = X.N.length

section
variable {X : Cx} {pins : List (Addr × Obj)} {σ : List (Option V)} {H H' : Hp} {s : Shared} {h' : Heap}

set_option linter.all false in private theorem Cx.Ok.nofr (ok : X.Ok) {b : Addr} {o : Obj} (e : X.base.get? b = some o) : b ∉ X.fs := fun hb => by
  have := (ok.funs.mem hb).1
  rw [e] at this; cases this
set_option linter.all false in private theorem Inv.bs (I : Inv X pins σ H s) : ∀ b o, X.base.get? b = some o → s.heap.get? b = some o ∧ H b = none := fun b o e =>
  ⟨I.base.keep b o (I.ok.bs b o e).1 (I.ok.bs b o e).2 (I.ok.nofr e) (I.ok.noex b o e), I.base.free b o (I.ok.bs b o e).1 (I.ok.bs b o e).2 (I.ok.noex b o e)⟩
set_option linter.all false in private theorem Inv.bk (I : Inv X pins σ H s) : ∀ b o, X.base.get? b = some o → s.heap.get? b = some o := fun b o e => (I.bs b o e).1
set_option linter.all false in private theorem Inv.mod (I : Inv X pins σ H s) : Mod X.K X.mg X.base := I.ok.mod
set_option linter.all false in private theorem Inv.kIn (I : Inv X pins σ H s) : X.K.In s.heap := I.ok.mod.kin.keeps I.bk
set_option linter.all false in private theorem Inv.lt (I : Inv X pins σ H s) : X.env.locals < s.heap.objs.size := let ⟨_, hn, _⟩ := I.loc; hn.lt
set_option linter.all false in private theorem Inv.sz (I : Inv X pins σ H s) : X.s₀.heap.objs.size ≤ s.heap.objs.size := Nat.le_trans I.ok.above (Nat.le_of_lt I.lt)
set_option linter.all false in private theorem Inv.nofs (I : Inv X pins σ H s) {a : Addr} (h : s.heap.objs.size ≤ a) : a ∉ X.fs := fun hb => by
  obtain ⟨_, o, ho, _⟩ := I.ok.funs.mem hb
  exact absurd (Nat.lt_of_lt_of_le (Heap.lt_size ho) (Nat.le_trans I.sz h)) (Nat.lt_irrefl _)
set_option linter.all false in private theorem Inv.cne (I : Inv X pins σ H s) : ∀ x c, X.env.cells.lookup x = some c → c ≠ X.env.locals := fun x c e z => by
  obtain ⟨v, o, ho, hd⟩ := I.cell x c e
  obtain ⟨m, ⟨o', es, ep, ho', hd', _⟩, _⟩ := I.loc
  rw [z, ho'] at ho; cases ho; rw [hd'] at hd; cases hd
set_option linter.all false in private theorem Inv.funs (I : Inv X pins σ H s) : s.heap.FunFrames X.base X.outer := by
  have all : ∀ (l : List Env), (∀ b ∈ frs l, b ∈ X.fs) → X.s₀.heap.FunFrames X.base l → s.heap.FunFrames X.base l := by
    intro l
    induction l with
    | nil => intro _ _; trivial
    | cons env r ih =>
      intro hs hl
      obtain ⟨hk, ⟨L, o, hf, hn, ho, hd⟩, hr⟩ := hl
      have hL : L ∈ X.fs := hs L (by unfold frs; rw [List.filterMap_cons, hf]; exact List.mem_cons_self)
      obtain ⟨sl, e⟩ := I.base.slot L o ho (I.ok.frf L hL) hL fun z => I.ok.exfs L z hL
      exact ⟨hk, ⟨L, _, hf, hn, e, hd⟩, ih (fun b hb => hs b (by unfold frs; rw [List.filterMap_cons, hf]; exact List.mem_cons_of_mem _ hb)) hr⟩
  exact all X.outer (fun _ hb => hb) I.ok.funs

set_option linter.all false in private theorem Inv.stack (I : Inv X pins σ H s) : s.heap.FunFrames X.base X.stack := by
  rcases I.ok.stk with e | ⟨e, hf⟩
  · rw [e]; exact I.funs
  · rw [e]
    obtain ⟨m, hn, _⟩ := I.loc
    refine .cons (by rw [I.ok.kind]; decide) hf hn ?_ I.funs
    exact Heap.get?_none_of_le (Nat.le_trans I.ok.bsz I.ok.above)
set_option linter.all false in private theorem Inv.stkSub (I : Inv X pins σ H s) : ∀ b ∈ frs X.stack, b ∈ X.env.locals :: X.fs := fun b hb => by
  rcases I.ok.stk with e | ⟨e, hf⟩
  · rw [e] at hb; exact List.mem_cons_of_mem _ hb
  · rw [e] at hb
    unfold frs at hb
    rw [List.filterMap_cons, hf] at hb
    exact hb
set_option linter.all false in private theorem Inv.stkFree (I : Inv X pins σ H s) : ∀ b ∈ frs X.stack, H b = none := fun b hb => by
  rcases List.mem_cons.mp (I.stkSub b hb) with e | hb
  · rw [e]; exact I.free
  · obtain ⟨_, o, ho, _⟩ := I.ok.funs.mem hb
    exact I.base.free b o ho (I.ok.frf b hb) fun z => I.ok.exfs b z hb

set_option linter.all false in private theorem Inv.step {g' : Array GenState} {t' : Nat} {d' : Drawn} {ch : List Addr} (I : Inv X pins σ H s)
    (hch : ∀ b ∈ ch, (b ∈ X.ex ∨ X.s₀.heap.objs.size ≤ b) ∧ b ≠ X.env.locals ∧ (∀ x c, X.env.cells.lookup x = some c → c ≠ b) ∧ ∀ p ∈ X.pn ++ pins, p.1 ≠ b)
    (keep : ∀ b o, b ≠ X.env.locals → b ∉ X.fs → b ∉ ch → s.heap.get? b = some o → H b = none → h'.get? b = some o)
    (slot : ∀ b o, b ≠ X.env.locals → b ∈ X.fs → b ∉ ch → s.heap.get? b = some o → H b = none → ∃ sl, h'.get? b = some { o with slots := sl }) (free : ∀ b o, b ∉ ch → s.heap.get? b = some o → H b = none → H' b = none)
    (there : ∀ b o, b ∉ ch → s.heap.get? b = some o → ∃ o', h'.get? b = some o')
    (tups : ∀ b xs, H b = some (.tup xs) → H' b = some (.tup xs)) (frzs : ∀ b o u, H b = some (.frz o u) → H' b = some (.frz o u)) (tbls : ∀ b ps, H b = some (.tbl ps) → ∃ more, H' b = some (.tbl (ps ++ more)))
    (ns : ∀ m, s.heap.Ns X.env.locals m → h'.Ns X.env.locals m) (hok : HOk X.prog X.w H' h') (hg : AllBare g') :
    Inv X pins σ H' { s with heap := h', gens := g', drawn := d', toks := t' } := by
  have neL : ∀ b o, X.s₀.heap.get? b = some o → b ≠ X.env.locals := fun b o e => Nat.ne_of_lt (Nat.lt_of_lt_of_le (Heap.lt_size e) I.ok.above)
  have neC : ∀ b o, X.s₀.heap.get? b = some o → b ∉ X.ex → b ∉ ch := fun b o e hx hb => by
    rcases (hch b hb).1 with z | z
    · exact hx z
    · exact absurd (Nat.lt_of_lt_of_le (Heap.lt_size e) z) (Nat.lt_irrefl _)
  have cellK : ∀ x c, X.env.cells.lookup x = some c → ∀ v, s.heap.IsCell c v → h'.IsCell c v := fun x c e v ⟨o, ho, hd⟩ => by
    have nch : c ∉ ch := fun z => (hch c z).2.2.1 x c e rfl
    by_cases hc : c ∈ X.fs
    · obtain ⟨sl, q⟩ := slot c o (I.cne x c e) hc nch ho (I.freeC x c e)
      exact ⟨_, q, hd⟩
    · exact ⟨o, keep c o (I.cne x c e) hc nch ho (I.freeC x c e), hd⟩
  refine ⟨I.ok, I.os, hg, ⟨fun b o e n hb hx => ?_, fun b o e n hb hx => ?_, fun b o e n hx => ?_, fun b o e hx => ?_, fun b xs e => tups b xs (I.base.tups b xs e), fun b o xs e => frzs b o xs (I.base.frzs b o xs e), fun b ps e => ?_⟩, ?_, fun x c e => ?_, ?_, fun x c e => ?_, fun p hp => ?_, hok, I.len⟩
  · exact keep b o (neL b o e) hb (neC b o e hx) (I.base.keep b o e n hb hx) (I.base.free b o e n hx)
  · obtain ⟨sl, e1⟩ := I.base.slot b o e n hb hx
    obtain ⟨sl', e2⟩ := slot b _ (neL b o e) hb (neC b o e hx) e1 (I.base.free b o e n hx)
    exact ⟨sl', e2⟩
  · obtain ⟨o', e1⟩ := I.base.there b o e hx
    exact free b o' (neC b o e hx) e1 (I.base.free b o e n hx)
  · obtain ⟨o', e1⟩ := I.base.there b o e hx
    exact there b o' (neC b o e hx) e1
  · obtain ⟨m1, e1⟩ := I.base.tbls b ps e
    obtain ⟨m2, e2⟩ := tbls b _ e1
    exact ⟨m1 ++ m2, by rw [e2, Array.append_assoc]⟩
  · obtain ⟨m, hn, hl⟩ := I.loc
    refine ⟨m, ns m hn, fun i x v e1 e2 e3 => ?_⟩
    obtain ⟨u, r, l⟩ := hl i x v e1 e2 e3
    refine ⟨u, r, ?_⟩
    rcases l with l | ⟨k, c, e, z⟩
    · exact .inl l
    · exact .inr ⟨k, c, e, cellK x c e _ z⟩
  · obtain ⟨v, z⟩ := I.cell x c e
    exact ⟨v, cellK x c e v z⟩
  · obtain ⟨m, ⟨o, _, _, ho, _⟩, _⟩ := I.loc
    exact free _ o (fun z => (hch _ z).2.1 rfl) ho I.free
  · obtain ⟨v, o, ho, hd⟩ := I.cell x c e
    exact free c o (fun z => (hch c z).2.2.1 x c e rfl) ho (I.freeC x c e)
  · obtain ⟨e, n, ne, nf, d⟩ := I.pin p hp
    have nch : p.1 ∉ ch := fun z => (hch p.1 z).2.2.2 p hp rfl
    exact ⟨keep p.1 p.2 ne nf nch e n, free p.1 p.2 nch e n, ne, nf, d⟩
set_option linter.all false in private theorem Inv.un {t' : Nat} (I : Inv X pins σ H s) (u : Un X.fs [] H H' s.heap h') (hok : HOk X.prog X.w H' h') : Inv X pins σ H' { s with heap := h', toks := t' } := by
  obtain ⟨m, ⟨o, es, ep, ho, r⟩, _⟩ := id I.loc
  obtain ⟨sl, hL⟩ := u.any ho I.free (by simp)
  exact I.step (g' := s.gens) (d' := s.drawn) (ch := []) (fun _ z => nomatch z) (fun b o _ hb _ e n => u.keep b o e n hb (by simp)) (fun b o _ hb _ e n => u.slot b o e n hb (by simp)) (fun b o _ e n => u.free b o e n (by simp)) (fun b o _ e => u.there b o e (by simp)) u.tups u.frzs u.tbls (fun m' hm => by
    obtain ⟨o', es', ep', ho', r'⟩ := hm
    rw [ho] at ho'; cases ho'
    exact ⟨_, es', ep', hL, r'⟩) hok I.bare
set_option linter.all false in private theorem Inv.call {g' : Array GenState} {t' : Nat} {d' : Drawn} {ch : List Addr} (I : Inv X pins σ H s) (u : Un (frs X.stack) ch H H' s.heap h') (hok : HOk X.prog X.w H' h') (hg : AllBare g')
    (hch : ∀ b ∈ ch, (b ∈ X.ex ∨ X.s₀.heap.objs.size ≤ b) ∧ b ≠ X.env.locals ∧ (∀ x c, X.env.cells.lookup x = some c → c ≠ b) ∧ ∀ p ∈ X.pn ++ pins, p.1 ≠ b) :
    Inv X pins σ H' { s with heap := h', gens := g', drawn := d', toks := t' } := by
  obtain ⟨m, ⟨o, es, ep, ho, r⟩, _⟩ := id I.loc
  obtain ⟨sl, hL⟩ := u.any ho I.free fun z => (hch _ z).2.1 rfl
  exact I.step (ch := ch) hch (fun b o hL hb hc e n => u.keep b o e n (fun z => (List.mem_cons.mp (I.stkSub b z)).elim hL hb) hc) (fun b o _ _ hc e n => u.any e n hc) (fun b o hc e n => u.free b o e n hc) (fun b o hc e => u.there b o e hc) u.tups u.frzs u.tbls (fun m' hm => by
    obtain ⟨o', es', ep', ho', r'⟩ := hm
    rw [ho] at ho'; cases ho'
    exact ⟨_, es', ep', hL, r'⟩) hok hg
set_option linter.all false in private theorem Inv.turned {t' : Nat} {it : Addr} (I : Inv X pins σ H s) (k : ∀ b o, b ≠ it → s.heap.get? b = some o → h'.get? b = some o) (hn : H it = none) (hL : it ≠ X.env.locals)
    (h1 : it ∈ X.ex ∨ X.s₀.heap.objs.size ≤ it) (h2 : ∀ x c, X.env.cells.lookup x = some c → c ≠ it) (h3 : ∀ p ∈ X.pn ++ pins, p.1 ≠ it) : Inv X pins σ H { s with heap := h', toks := t' } := by
  have nit : ∀ b u, H b = some u → b ≠ it := fun b u e z => by rw [z, hn] at e; cases e
  refine I.step (g' := s.gens) (d' := s.drawn) (ch := [it]) (fun b hb => ?_) (fun b o _ _ hc e _ => k b o (fun z => hc (by simp [z])) e) (fun b o _ _ hc e _ => ⟨o.slots, k b o (fun z => hc (by simp [z])) e⟩) (fun _ _ _ _ n => n)
    (fun b o hc e => ⟨o, k b o (fun z => hc (by simp [z])) e⟩) (fun _ _ e => e) (fun _ _ _ e => e) (fun b ps e => ⟨#[], by rw [e]; simp⟩) (fun m hm => ?_) (fun b u e => ?_) I.bare
  · have e : b = it := by simpa using hb
    subst e
    exact ⟨h1, hL, h2, h3⟩
  · obtain ⟨o, es, ep, ho, r⟩ := hm
    exact ⟨o, es, ep, k _ o (Ne.symm hL) ho, r⟩
  · refine (I.hok b u e).stay (fun c v hc q => k c v ?_ q) (fun _ q => q) fun _ _ q => q
    rcases hc with z | z
    · rw [z]; exact nit b u e
    · exact nit c _ z
set_option linter.all false in private theorem Inv.tok (I : Inv X pins σ H s) (t : Nat) : Inv X pins σ H { s with toks := t } := I.un (h' := s.heap) (t' := t) Un.refl I.hok
set_option linter.all false in private theorem Inv.kept {t' : Nat} (I : Inv X pins σ H s) (k : ∀ b u, s.heap.get? b = some u → h'.get? b = some u) : Inv X pins σ H { s with heap := h', toks := t' } := I.un (Un.kept k) (I.hok.kept k)
set_option linter.all false in private theorem Inv.laid {a : Addr} {o : HO} {t' : Nat} (I : Inv X pins σ H s) (k : ∀ b u, s.heap.get? b = some u → h'.get? b = some u) (hp : s.heap.objs.size ≤ a) (new : ObjOk X.prog X.w (upd H a o) h' a o) :
    Inv X pins σ (upd H a o) { s with heap := h', toks := t' } := I.un (Un.laid k hp (I.hok.fresh hp)) (I.hok.laid k hp new)
set_option linter.all false in private theorem Inv.write {x e : Addr} {o : HO} {t' : Nat} (I : Inv X pins σ H s) (mu : Mut (H x)) (he : e = x ∨ H e = some (.own x)) (k : ∀ b u, b ≠ e → s.heap.get? b = some u → h'.get? b = some u) (heo : ∃ u, h'.get? e = some u)
    (new : ObjOk X.prog X.w (upd H x o) h' x o) : Inv X pins σ (upd H x o) { s with heap := h', toks := t' } := I.un (Un.write mu he k heo) (I.hok.write mu he k heo new)
set_option linter.all false in private theorem Inv.pins_of {pins' : List (Addr × Obj)} (I : Inv X pins σ H s) (h : ∀ p ∈ pins', s.heap.get? p.1 = some p.2 ∧ H p.1 = none ∧ p.1 ≠ X.env.locals ∧ p.1 ∉ X.fs ∧ ∀ v, p.2.data ≠ .cell v) : Inv X pins' σ H s :=
  ⟨I.ok, I.os, I.bare, I.base, I.loc, I.cell, I.free, I.freeC, fun p hp => (List.mem_append.mp hp).elim (fun z => I.pin p (List.mem_append_left _ z)) (h p), I.hok, I.len⟩

set_option linter.all false in private theorem nodup_ix {N : List Str} (hN : N.Nodup) {i j : Nat} {x : Str} (a : N[i]? = some x) (b : N[j]? = some x) : i = j := by
  obtain ⟨h1, e1⟩ := List.getElem?_eq_some_iff.mp a
  obtain ⟨h2, e2⟩ := List.getElem?_eq_some_iff.mp b
  exact (List.getElem_inj hN).mp (e1.trans e2.symm)

set_option linter.all false in private theorem store_ok2 {M : Model} {A : Around} {E : Value → Shared → Prop} {i : Nat} {x : Str} {v : V} {u : Value} {Q : Unit → Shared → Prop} (I : Inv X pins σ H s) (hN : X.N.Nodup) (hi : X.N[i]? = some x) (hx : Loc X.env.scope x) (r : RelV v u)
    (h : ∀ s', Inv X pins (σ.set i (some v)) H s' → (∃ a, Heap.SameBut a s.heap s'.heap ∧ (a = X.env.locals ∨ X.env.cells.lookup x = some a)) → Q () s') (hf : X.fn x = true ∨ X.env.scope.names.lookup x = some .local := by trivial) : wpAny M A (storeName X.env x u) Q E s := by
  obtain ⟨m, hn, hl⟩ := id I.loc
  have hcls : (X.env.scope.kind == .class || (X.env.scope.kind == .module && X.env.locals != X.env.globals)) = false := by rw [I.ok.kind]; rfl
  have hiσ : i < σ.length := by rw [I.len]; exact (List.getElem?_eq_some_iff.mp hi).1
  have cne := I.cne
  have tracked : ∀ {a : Addr} {h' : Heap}, (∃ o, s.heap.get? a = some o ∧ H a = none) → Heap.SameBut a s.heap h' → HOk X.prog X.w H h' := fun {a h'} ha hs b ob e => by
    obtain ⟨_, _, hfree⟩ := ha
    refine (I.hok b ob e).stay (fun c w' hc q => (hs.2 c ?_).trans q) (fun _ q => q) fun _ _ q => q
    rintro rfl
    rcases hc with rfl | hc
    · rw [hfree] at e; cases e
    · rw [hfree] at hc; cases hc
  rcases hx with hk | hk
  · refine wpAny_storeName_local hk hn (fun h' hn' hs => ?_) hcls
    obtain ⟨oL, _, _, hoL, _⟩ := id hn
    refine h _ ⟨I.ok, I.os, I.bare, ⟨fun b o e n hb hx => ?_, fun b o e n hb hx => ?_, I.base.free, fun b o e hx => ?_, I.base.tups, I.base.frzs, I.base.tbls⟩, ⟨_, hn', fun j y v' e1 e2 e3 => ?_⟩, fun y c e => ?_, I.free, I.freeC, fun p hp => ?_, tracked ⟨oL, hoL, I.free⟩ hs, by simpa using I.len⟩ ⟨_, hs, .inl rfl⟩
    · exact (hs.2 b (Nat.ne_of_lt (Nat.lt_of_lt_of_le (Heap.lt_size e) I.ok.above))).trans (I.base.keep b o e n hb hx)
    · obtain ⟨sl, e1⟩ := I.base.slot b o e n hb hx
      exact ⟨sl, (hs.2 b (Nat.ne_of_lt (Nat.lt_of_lt_of_le (Heap.lt_size e) I.ok.above))).trans e1⟩
    · obtain ⟨o', e1⟩ := I.base.there b o e hx
      exact ⟨o', (hs.2 b (Nat.ne_of_lt (Nat.lt_of_lt_of_le (Heap.lt_size e) I.ok.above))).trans e1⟩
    · by_cases hj : j = i
      · subst hj
        rw [hi] at e1; cases e1
        rw [List.getElem?_set_self hiσ] at e2
        cases e2
        exact ⟨u, r, .inl ⟨hk, by simp⟩⟩
      · rw [List.getElem?_set_ne (Ne.symm hj)] at e2
        obtain ⟨u', r', q⟩ := hl j y v' e1 e2 e3
        refine ⟨u', r', ?_⟩
        rcases q with ⟨k, e⟩ | ⟨k, c, e, z⟩
        · refine .inl ⟨k, ?_⟩
          have : y ≠ x := fun e => hj (nodup_ix hN e1 (e ▸ hi))
          simp [this, e]
        · exact .inr ⟨k, c, e, z.sameBut hs (cne y c e)⟩
    · obtain ⟨w', z⟩ := I.cell y c e
      exact ⟨w', z.sameBut hs (cne y c e)⟩
    · obtain ⟨e, n, ne, nf, d⟩ := I.pin p hp
      exact ⟨(hs.2 p.1 ne).trans e, n, ne, nf, d⟩
  · have hfn : X.fn x = true := by
      rcases hf with z | z
      · exact z
      · rw [z] at hk; cases hk
    obtain ⟨c, hc⟩ := I.ok.has x (.inl hk)
    obtain ⟨w', z⟩ := I.cell x c hc
    refine wpAny_storeName_cell I.ok.kind hk hc z (fun h' hc' hs => ?_)
    obtain ⟨oc, hoc, hocd⟩ := id z
    refine h { s with heap := h' } ⟨I.ok, I.os, I.bare, ⟨fun b o e n hb hx => ?_, fun b o e n hb hx => ?_, I.base.free, fun b o e hx => ?_, I.base.tups, I.base.frzs, I.base.tbls⟩, ⟨m, hn.sameBut hs (Ne.symm (cne x c hc)), fun j y v' e1 e2 e3 => ?_⟩, fun y c' e => ?_, I.free, I.freeC, fun p hp => ?_, tracked ⟨oc, hoc, I.freeC x c hc⟩ hs, by simpa using I.len⟩ ⟨c, hs, .inr hc⟩
    · exact (hs.2 b (Nat.ne_of_lt (Nat.lt_of_lt_of_le (Heap.lt_size e) (I.ok.cab x c hfn hc)))).trans (I.base.keep b o e n hb hx)
    · obtain ⟨sl, e1⟩ := I.base.slot b o e n hb hx
      exact ⟨sl, (hs.2 b (Nat.ne_of_lt (Nat.lt_of_lt_of_le (Heap.lt_size e) (I.ok.cab x c hfn hc)))).trans e1⟩
    · obtain ⟨o', e1⟩ := I.base.there b o e hx
      exact ⟨o', (hs.2 b (Nat.ne_of_lt (Nat.lt_of_lt_of_le (Heap.lt_size e) (I.ok.cab x c hfn hc)))).trans e1⟩
    · by_cases hj : j = i
      · subst hj
        rw [hi] at e1; cases e1
        rw [List.getElem?_set_self hiσ] at e2
        cases e2
        exact ⟨u, r, .inr ⟨.inl hk, c, hc, hc'⟩⟩
      · rw [List.getElem?_set_ne (Ne.symm hj)] at e2
        obtain ⟨u', r', q⟩ := hl j y v' e1 e2 e3
        refine ⟨u', r', ?_⟩
        rcases q with q | ⟨k, c', e, z'⟩
        · exact .inl q
        · refine .inr ⟨k, c', e, z'.sameBut hs ?_⟩
          rintro rfl
          exact hj (nodup_ix hN e1 (I.ok.inj _ _ _ e hc ▸ hi))
    · by_cases hcc : c' = c
      · subst hcc; exact ⟨_, hc'⟩
      · obtain ⟨w2, z2⟩ := I.cell y c' e
        exact ⟨w2, z2.sameBut hs hcc⟩
    · obtain ⟨e, n, ne, nf, d⟩ := I.pin p hp
      refine ⟨(hs.2 p.1 ?_).trans e, n, ne, nf, d⟩
      intro q
      rw [q, hoc] at e
      have q' : oc = p.2 := Option.some.inj e
      exact d w' (by rw [← q']; exact hocd)
set_option linter.all false in private theorem store_ok {M : Model} {A : Around} {E : Value → Shared → Prop} {i : Nat} {x : Str} {v : V} {u : Value} {Q : Unit → Shared → Prop} (I : Inv X pins σ H s) (hN : X.N.Nodup) (hi : X.N[i]? = some x) (hx : Loc X.env.scope x) (r : RelV v u)
    (h : ∀ s', Inv X pins (σ.set i (some v)) H s' → Q () s') (hf : X.fn x = true ∨ X.env.scope.names.lookup x = some .local := by trivial) : wpAny M A (storeName X.env x u) Q E s :=
  store_ok2 I hN hi hx r (fun s' I' _ => h s' I') hf
set_option linter.all false in private theorem Inv.call' {s' : Shared} {ch : List Addr} (I : Inv X pins σ H s) (ho : s'.os = s.os) (u : Un (frs X.stack) ch H H' s.heap s'.heap) (hok : HOk X.prog X.w H' s'.heap) (hg : AllBare s'.gens)
    (hch : ∀ b ∈ ch, (b ∈ X.ex ∨ X.s₀.heap.objs.size ≤ b) ∧ b ≠ X.env.locals ∧ (∀ x c, X.env.cells.lookup x = some c → c ≠ b) ∧ ∀ p ∈ X.pn ++ pins, p.1 ≠ b) : Inv X pins σ H' s' := by
  obtain ⟨h', g', d', t', o'⟩ := s'
  have e : o' = s.os := ho
  subst e
  exact I.call (g' := g') (t' := t') (d' := d') u hok hg hch
end

/-! ### the judgements -/
set_option linter.all false in private noncomputable abbrev XK := Value → Option Addr → Hp → Prop
set_option linter.all false in private noncomputable abbrev St := List (Option V)
set_option linter.all false in private noncomputable abbrev VK := V → Hp → Prop
set_option linter.all false in private noncomputable abbrev TE := St → Hp → VK → Prop
set_option linter.all false in private noncomputable abbrev TT := St → Hp → (Bool → Hp → Prop) → Prop
set_option linter.all false in private noncomputable abbrev TA := St → Hp → (List V → Hp → Prop) → Prop
set_option linter.all false in private structure Ends where
  nx : St → Hp → Prop
  rt : VK
  bk : St → Hp → Prop := fun _ _ => False
  ct : St → Hp → Prop := fun _ _ => False
set_option linter.all false in private noncomputable abbrev TS := Ends → St → Hp → Prop

set_option linter.all false in private noncomputable def EP (X : Cx) (pins : List (Addr × Obj)) (σ : St) (Q : VK) (u : Value) (s' : Shared) : Prop := ∃ v H', Inv X pins σ H' s' ∧ RelV v u ∧ Q v H'
set_option linter.all false in private noncomputable def TP (X : Cx) (pins : List (Addr × Obj)) (σ : St) (Q : Bool → Hp → Prop) (b : Bool) (s' : Shared) : Prop := ∃ H', Inv X pins σ H' s' ∧ Q b H'
set_option linter.all false in private noncomputable def AP (X : Cx) (pins : List (Addr × Obj)) (σ : St) (Q : List V → Hp → Prop) (us : List Value) (s' : Shared) : Prop := ∃ vs H', Inv X pins σ H' s' ∧ Vals vs us ∧ Q vs H'
set_option linter.all false in private noncomputable def SP (X : Cx) (pins : List (Addr × Obj)) (D : Ends) (f : Flow) (s' : Shared) : Prop :=
  match f with
  | .next => ∃ σ' H', Inv X pins σ' H' s' ∧ D.nx σ' H'
  | .brk => ∃ σ' H', Inv X pins σ' H' s' ∧ D.bk σ' H'
  | .cont => ∃ σ' H', Inv X pins σ' H' s' ∧ D.ct σ' H'
  | .ret u => ∃ v σ' H', Inv X pins σ' H' s' ∧ RelV v u ∧ D.rt v H'

set_option linter.all false in private noncomputable def PE (X : Cx) (e : Expr) (t : TE) : Prop :=
  ∀ (pins : List (Addr × Obj)) (s : Shared) (σ : St) (H : Hp) (Q : VK), Inv X pins σ H s → t σ H Q → wpAny (model X.prog X.w) X.A (eval e X.env) (EP X pins σ Q) X.xe s
set_option linter.all false in private noncomputable def PT (X : Cx) (e : Expr) (t : TT) : Prop :=
  ∀ (pins : List (Addr × Obj)) (s : Shared) (σ : St) (H : Hp) (Q : Bool → Hp → Prop), Inv X pins σ H s → t σ H Q → wpAny (model X.prog X.w) X.A (isTrue e X.env (eval e X.env)) (TP X pins σ Q) X.xe s
set_option linter.all false in private noncomputable def PW (X : Cx) (e : Expr) (t : TT) : Prop :=
  ∀ (whole : Sem Value) (pins : List (Addr × Obj)) (s : Shared) (σ : St) (H : Hp) (Q : Bool → Hp → Prop), Inv X pins σ H s → t σ H Q → wpAny (model X.prog X.w) X.A (isTrue e X.env whole) (TP X pins σ Q) X.xe s
set_option linter.all false in private theorem PW.pt {X : Cx} {e : Expr} {t : TT} (h : PW X e t) : PT X e t := h _
set_option linter.all false in private noncomputable def PA (X : Cx) (es : List Expr) (t : TA) : Prop :=
  ∀ (pos : Pos) (pins : List (Addr × Obj)) (s : Shared) (σ : St) (H : Hp) (Q : List V → Hp → Prop), Inv X pins σ H s → t σ H Q → wpAny (model X.prog X.w) X.A (spliced (backTo pos (starEach es X.env))) (AP X pins σ Q) X.xe s
set_option linter.all false in private noncomputable def PS (X : Cx) (st : Stmt) (t : TS) : Prop :=
  ∀ (pins : List (Addr × Obj)) (s : Shared) (σ : St) (H : Hp) (D : Ends), Inv X pins σ H s → t D σ H → wpAny (model X.prog X.w) X.A (exec st X.env) (SP X pins D) X.xe s
set_option linter.all false in private noncomputable def PSs (X : Cx) (st : List Stmt) (t : TS) : Prop :=
  ∀ (pins : List (Addr × Obj)) (s : Shared) (σ : St) (H : Hp) (D : Ends), Inv X pins σ H s → t D σ H → wpAny (model X.prog X.w) X.A (execs st X.env) (SP X pins D) X.xe s
set_option linter.all false in private theorem thn {α : Type} {t : Sem α} {Q Q' : α → Shared → Prop} {M : Model} {A : Around} {E : Value → Shared → Prop} {s : Shared} (h : wpAny M A t Q E s) (hQ : ∀ a s, Q a s → Q' a s) : wpAny M A t Q' E s := wpAny_mono h hQ fun _ _ x => x
end L2

namespace L2
open PySem PySem.Spec PyProof.Rows
section
variable {X : Cx}

/-! ### names and constants -/
set_option linter.all false in private noncomputable def tVar (i : Nat) : TE := fun σ H Q => ∃ v, σ[i]? = some (some v) ∧ Q v H
set_option linter.all false in private noncomputable def tC (v : V) : TE := fun _ H Q => Q v H
set_option linter.all false in private theorem pe_var {i : Nat} {x : Str} {pos : Pos} (hN : X.N[i]? = some x) (hv : Vis X.env.scope x) (hd : (x == ("__debug__" : Str)) = false := by decide) (hcd : (x == ("__classdict__" : Str)) = false := by decide) : PE X (.Name x pos) (tVar i) := by
  intro pins s σ H Q I h
  obtain ⟨v, e, h⟩ := h
  obtain ⟨m, hn, hl⟩ := I.loc
  obtain ⟨u, r, l⟩ := hl i x v hN e hv
  have fin : EP X pins σ Q u s := ⟨v, H, I, r, h⟩
  rcases l with ⟨hk, hm⟩ | ⟨hk, c, hc, hcell⟩
  · exact wpAny_Name (wpAny_loadName_local I.ok.kind hk hn hm fin) hd
  · rcases hk with hk | hk
    · exact wpAny_Name (wpAny_loadName_cell I.ok.kind hk hc hcell fin) hd
    · exact wpAny_Name (wpAny_loadName_free I.ok.kind hk hc hcell fin hcd) hd
set_option linter.all false in private theorem pe_int {i j pos} : PE X (.Constant (.int i) j pos) (tC (.int i)) := fun _ _ _ H _ I h => wpAny_Constant_int ⟨.int i, H, I.tok _, ⟨_, rfl⟩, h⟩
set_option linter.all false in private theorem pe_bl {b j pos} : PE X (.Constant (.bool b) j pos) (tC (.bl b)) := fun _ _ _ H _ I h => Constant_bool ⟨.bl b, H, I, rfl, h⟩
set_option linter.all false in private theorem pe_non {j pos} : PE X (.Constant .none j pos) (tC .non) := fun _ _ _ H _ I h => Constant_none ⟨.non, H, I, rfl, h⟩
set_option linter.all false in private theorem pe_str {x j pos} : PE X (.Constant (.str x) j pos) (tC (.str x)) := fun _ _ _ H _ I h => Calls.Constant_str ⟨.str x, H, I.tok _, ⟨_, rfl⟩, h⟩

set_option linter.all false in private noncomputable def Gl (X : Cx) (x : Str) : Prop := X.env.kindOf x = some .globalImplicit
set_option linter.all false in private theorem ld_glob {E : Value → Shared → Prop} {pins : List (Addr × Obj)} {s : Shared} {σ : St} {H : Hp} {x : Str} {u : Value} {pos : Pos} {Q : Value → Shared → Prop} (I : Inv X pins σ H s) (hg : Gl X x) (hm : X.mg x = some u) (h : Q u s)
    (hd : (x == ("__debug__" : Str)) = false := by decide) : wpAny (model X.prog X.w) X.A (eval (.Name x pos) X.env) Q E s :=
  Calls.Name_function_global I.ok.kind hg (Calls.loadGlobal_global (by rw [I.ok.glob]; exact I.mod.glob.keeps I.bk) hm h) hd
set_option linter.all false in private theorem ld_blt {E : Value → Shared → Prop} {pins : List (Addr × Obj)} {s : Shared} {σ : St} {H : Hp} {x : Str} {u : Value} {pos : Pos} {Q : Value → Shared → Prop} (I : Inv X pins σ H s) (hg : Gl X x) (hm : X.mg x = none) (hv : bootBuiltins x = some u) (h : Q u s)
    (hn : x ≠ "__name__" := by decide) (hd : (x == ("__debug__" : Str)) = false := by decide) : wpAny (model X.prog X.w) X.A (eval (.Name x pos) X.env) Q E s := by
  obtain ⟨mb, h1, h2⟩ := I.mod.blt
  exact Calls.Name_function_global I.ok.kind hg (Calls.loadGlobal_builtin (by rw [I.ok.glob]; exact I.mod.glob.keeps I.bk) hm (by rw [I.ok.blt]; exact h1.keeps I.bk) ((h2 x hn).trans hv) h) hd
set_option linter.all false in private theorem pe_glob {x : Str} {v : V} {u : Value} {pos : Pos} (hg : Gl X x) (hm : X.mg x = some u) (r : RelV v u) (hd : (x == ("__debug__" : Str)) = false := by decide) : PE X (.Name x pos) (tC v) :=
  fun _ _ _ H _ I h => ld_glob I hg hm ⟨v, H, I, r, h⟩ hd
set_option linter.all false in private theorem pe_bltn {x : Str} {v : V} {u : Value} {pos : Pos} (hg : Gl X x) (hm : X.mg x = none) (hv : bootBuiltins x = some u) (r : RelV v u) (hn : x ≠ "__name__" := by decide) (hd : (x == ("__debug__" : Str)) = false := by decide) : PE X (.Name x pos) (tC v) :=
  fun _ _ _ H _ I h => ld_blt I hg hm hv ⟨v, H, I, r, h⟩ hn hd

/-! ### arithmetic -/
variable {a b : Expr} {ta tb : TE} {pos : Pos}
/-! ### comparisons -/
set_option linter.all false in private noncomputable def tB (t : TE) : TT := fun σ H Q => t σ H fun x H1 => ∃ c, x = .bl c ∧ Q c H1
set_option linter.all false in private theorem pt_val {e : Expr} {t : TE} (h : PE X e t) (he : ∀ whole, isTrue e X.env whole = (do let v ← whole; standAt e.pos; holding [v] (truthy v)) := by trivial) : PT X e (tB t) := by
  intro pins s σ H Q I hw
  refine isTrue_plain (thn (h pins s σ H _ I hw) fun v s1 ⟨x, H1, I1, r1, q1⟩ => ?_) (he _)
  obtain ⟨d, rfl, q⟩ := q1
  cases r1
  exact wpAny_truthy_bool ⟨H1, I1, q⟩

/-! ### and, or, not -/
variable {tA tB' : TT} {rest : List Expr}
set_option linter.all false in private noncomputable def tAnd (t u : TT) : TT := fun σ H Q => t σ H fun c H1 => if c = true then u σ H1 Q else Q false H1
set_option linter.all false in private noncomputable def tOr (t u : TT) : TT := fun σ H Q => t σ H fun c H1 => if c = true then Q true H1 else u σ H1 Q
set_option linter.all false in private noncomputable def tNot (t : TT) : TT := fun σ H Q => t σ H fun c H1 => Q (!c) H1
set_option linter.all false in private theorem pw_and1 (ha : PT X a tA) : PW X (.BoolOp .And [a] pos) tA := by
  intro wh pins s σ H Q I h
  refine isTrue_and (thn (ha pins s σ H Q I h) fun c s1 e => ?_)
  cases c with
  | true => exact isTrue_and_nil e
  | false => exact e
set_option linter.all false in private theorem pw_or1 (ha : PT X a tA) : PW X (.BoolOp .Or [a] pos) tA := by
  intro wh pins s σ H Q I h
  refine isTrue_or (thn (ha pins s σ H Q I h) fun c s1 e => ?_)
  cases c with
  | false => exact isTrue_or_nil e
  | true => exact e
set_option linter.all false in private theorem pw_and (ha : PT X a tA) (hb : PW X (.BoolOp .And (b :: rest) pos) tB') : PW X (.BoolOp .And (a :: b :: rest) pos) (tAnd tA tB') := by
  intro wh pins s σ H Q I h
  refine isTrue_and (thn (ha pins s σ H _ I h) fun c s1 ⟨H1, I1, q1⟩ => ?_)
  cases c with
  | true => exact hb wh pins s1 σ H1 Q I1 q1
  | false => exact ⟨H1, I1, q1⟩
set_option linter.all false in private theorem pw_or (ha : PT X a tA) (hb : PW X (.BoolOp .Or (b :: rest) pos) tB') : PW X (.BoolOp .Or (a :: b :: rest) pos) (tOr tA tB') := by
  intro wh pins s σ H Q I h
  refine isTrue_or (thn (ha pins s σ H _ I h) fun c s1 ⟨H1, I1, q1⟩ => ?_)
  cases c with
  | true => exact ⟨H1, I1, q1⟩
  | false => exact hb wh pins s1 σ H1 Q I1 q1
set_option linter.all false in private theorem pt_not (ha : PT X a tA) : PT X (.UnaryOp .Not a pos) (tNot tA) := by
  intro pins s σ H Q I h
  exact isTrue_not (ha pins s σ H (fun c H1 => Q (!c) H1) I h)
set_option linter.all false in private noncomputable def tAndV (ta tb : TE) : TE := fun σ H Q => ta σ H fun x H1 => ∃ c, x = .bl c ∧ if c = true then tb σ H1 Q else Q (.bl false) H1
set_option linter.all false in private theorem pe_one {op} {t : TE} (h : PE X a t) : PE X (.BoolOp op [a] pos) t := fun pins s σ H Q I hw => BoolOp_one (h pins s σ H Q I hw)
set_option linter.all false in private theorem pe_and (ha : PE X a ta) (hb : PE X (.BoolOp .And (b :: rest) pos) tb) : PE X (.BoolOp .And (a :: b :: rest) pos) (tAndV ta tb) := by
  intro pins s σ H Q I h
  refine BoolOp_and (thn (ha pins s σ H _ I h) fun v s1 ⟨x, H1, I1, r1, q1⟩ => ?_)
  obtain ⟨c, rfl, q1⟩ := q1
  cases r1
  refine wpAny_truthy_bool ?_
  cases c with
  | true => exact hb pins s1 σ H1 Q I1 q1
  | false => exact ⟨.bl false, H1, I1, rfl, q1⟩
set_option linter.all false in private noncomputable def tIf (t : TT) (ta tb : TE) : TE := fun σ H Q => t σ H fun c H1 => if c = true then ta σ H1 Q else tb σ H1 Q
set_option linter.all false in private theorem pe_ifExp {c : Expr} (hc : PT X c tA) (ha : PE X a ta) (hb : PE X b tb) : PE X (.IfExp c a b pos) (tIf tA ta tb) := by
  intro pins s σ H Q I h
  refine wpAny_IfExp (thn (hc pins s σ H _ I h) fun d s1 ⟨H1, I1, q1⟩ => ?_)
  cases d with
  | true => exact ha pins s1 σ H1 Q I1 q1
  | false => exact hb pins s1 σ H1 Q I1 q1
end
end L2

namespace L2
open PySem PySem.Spec PyProof.Rows

/-! ### a list, a tuple that is read: tracked, frozen, or an object of the module -/
set_option linter.all false in private noncomputable def SqL (K : PySem.W.Frag) (H : Hp) (a : Addr) (xs : List V) : Prop :=
  Rd H a (.lst xs) ∨
    ∃ (o : Obj) (its : Array Value) (n : Nat), K.lookup a = some o ∧ o.cls = .type "list" ∧ o.dict = none ∧ o.data = .seq its n ∧ its.size ≤ sizeLine ∧ Vals xs its.toList
set_option linter.all false in private noncomputable def SqT (K : PySem.W.Frag) (H : Hp) (a : Addr) (xs : List V) : Prop :=
  Rd H a (.tup xs) ∨
    ∃ (o : Obj) (its : Array Value) (n : Nat), K.lookup a = some o ∧ o.cls = .type "tuple" ∧ o.data = .seq its n ∧ its.size ≤ sizeLine ∧ Vals xs its.toList
set_option linter.all false in private noncomputable def absV : Value → Option V
  | .none => some .non
  | .bool b => some (.bl b)
  | .int i _ => some (.int i)
  | .str x _ => some (.str x)
  | .bytes b _ => some (.byt b)
  | .float b _ => some (.flt b)
  | .ref a => some (.ref a)
  | .type n => some (.ty n)
  | _ => none
set_option linter.all false in private theorem RelV.abs {x : V} {u : Value} (r : RelV x u) : absV u = some x := by
  cases x with
  | non => cases r; rfl
  | bl _ => cases r; rfl
  | int _ => obtain ⟨t, rfl⟩ := r; rfl
  | str _ => obtain ⟨t, rfl⟩ := r; rfl
  | byt _ => obtain ⟨t, rfl⟩ := r; rfl
  | flt _ => obtain ⟨t, rfl⟩ := r; rfl
  | ref _ => cases r; rfl
  | ty _ => cases r; rfl
set_option linter.all false in private theorem RelV.inj {x y : V} {u : Value} (r : RelV x u) (q : RelV y u) : x = y := Option.some.inj (r.abs.symm.trans q.abs)
set_option linter.all false in private theorem Vals.inj {xs ys : List V} {us : List Value} (h : Vals xs us) (g : Vals ys us) : xs = ys := by
  induction h generalizing ys with
  | nil => cases g; rfl
  | cons r t ih =>
    cases g with
    | cons r' t' => rw [r.inj r', ih t']
section
variable {X : Cx} {pins : List (Addr × Obj)} {σ : St} {H : Hp} {s : Shared} {a : Addr} {xs ys : List V}
set_option linter.all false in private theorem SqL.of {K : PySem.W.Frag} (h : H a = some (.lst xs)) : SqL K H a xs := .inl (.inl h)
set_option linter.all false in private theorem SqT.of {K : PySem.W.Frag} (h : H a = some (.tup xs)) : SqT K H a xs := .inl (.inl h)
set_option linter.all false in private theorem Inv.list (I : Inv X pins σ H s) (h : SqL X.K H a xs) : ∃ its : List Value, Vals xs its ∧ PlainL s.heap a its.toArray ∧ xs.length ≤ sizeLine := by
  rcases h with h | ⟨o, its, n, hk, hc, hd, hs, hz, r⟩
  · obtain ⟨z, its, n, r, e⟩ := h.ok I.hok
    exact ⟨its, r, ⟨_, n, e, rfl, rfl, rfl⟩, z⟩
  · refine ⟨its.toList, r, ⟨o, n, I.kIn a o hk, hc, hd, by simpa using hs⟩, ?_⟩
    have e := r.length
    simp only [Array.length_toList] at e
    omega
set_option linter.all false in private theorem Inv.tuple (I : Inv X pins σ H s) (h : SqT X.K H a xs) : ∃ its : List Value, Vals xs its ∧ IsTup s.heap a its.toArray ∧ xs.length ≤ sizeLine := by
  rcases h with h | ⟨o, its, n, hk, hc, hs, hz, r⟩
  · obtain ⟨z, its, r, p⟩ := h.ok I.hok
    exact ⟨its, r, p, z⟩
  · refine ⟨its.toList, r, ⟨o, I.kIn a o hk, hc, n, by simpa using hs⟩, ?_⟩
    have e := r.length
    simp only [Array.length_toList] at e
    omega
set_option linter.all false in private theorem Inv.list_inj (I : Inv X pins σ H s) (h : SqL X.K H a xs) (h' : SqL X.K H a ys) : xs = ys := by
  obtain ⟨its, r, ⟨o, n, e, _, _, d⟩, _⟩ := I.list h
  obtain ⟨its', r', ⟨o', n', e', _, _, d'⟩, _⟩ := I.list h'
  rw [e] at e'; cases e'
  rw [d] at d'
  injection d' with d1 _
  have : its = its' := by simpa using congrArg Array.toList d1
  subst this
  exact r.inj r'
set_option linter.all false in private theorem Inv.tuple_inj (I : Inv X pins σ H s) (h : SqT X.K H a xs) (h' : SqT X.K H a ys) : xs = ys := by
  obtain ⟨its, r, ⟨o, e, _, n, d⟩, _⟩ := I.tuple h
  obtain ⟨its', r', ⟨o', e', _, n', d'⟩, _⟩ := I.tuple h'
  rw [e] at e'; cases e'
  rw [d] at d'
  injection d' with d1 _
  have : its = its' := by simpa using congrArg Array.toList d1
  subst this
  exact r.inj r'
end

/-! ### another wish about exceptions -/
set_option linter.all false in private noncomputable abbrev Cx.wish (X : Cx) (E : Value → Shared → Prop) : Cx := { X with xe := E }
set_option linter.all false in private noncomputable abbrev Cx.nox (X : Cx) : Cx := X.wish fun _ _ => False
set_option linter.all false in private theorem Cx.Ok.wish {X : Cx} (ok : X.Ok) (E : Value → Shared → Prop) : (X.wish E).Ok :=
  ⟨ok.mod, ok.kind, ok.glob, ok.blt, ok.above, ok.inj, ok.has, ok.cab, ok.hd, ok.frames, ok.stk, ok.exf, ok.bs, ok.bsz, ok.noex, ok.exfs, ok.funs, ok.frf⟩
set_option linter.all false in private theorem Cx.Ok.unwish {X : Cx} {E : Value → Shared → Prop} (ok : (X.wish E).Ok) : X.Ok :=
  ⟨ok.mod, ok.kind, ok.glob, ok.blt, ok.above, ok.inj, ok.has, ok.cab, ok.hd, ok.frames, ok.stk, ok.exf, ok.bs, ok.bsz, ok.noex, ok.exfs, ok.funs, ok.frf⟩
section
variable {X : Cx} {pins : List (Addr × Obj)} {σ : St} {H : Hp} {s : Shared} {E : Value → Shared → Prop}
set_option linter.all false in private theorem Inv.wish (I : Inv X pins σ H s) (E : Value → Shared → Prop) : Inv (X.wish E) pins σ H s := ⟨I.ok.wish E, I.os, I.bare, I.base, I.loc, I.cell, I.free, I.freeC, I.pin, I.hok, I.len⟩
set_option linter.all false in private theorem Inv.unwish (I : Inv (X.wish E) pins σ H s) : Inv X pins σ H s := ⟨I.ok.unwish, I.os, I.bare, I.base, I.loc, I.cell, I.free, I.freeC, I.pin, I.hok, I.len⟩
set_option linter.all false in private theorem SP.unwish {D : Ends} {f : Flow} {s' : Shared} (h : SP (X.wish E) pins D f s') : SP X pins D f s' := by
  cases f with
  | next => obtain ⟨σ', H', I, q⟩ := h; exact ⟨σ', H', I.unwish, q⟩
  | brk => obtain ⟨σ', H', I, q⟩ := h; exact ⟨σ', H', I.unwish, q⟩
  | cont => obtain ⟨σ', H', I, q⟩ := h; exact ⟨σ', H', I.unwish, q⟩
  | ret u => obtain ⟨v, σ', H', I, r, q⟩ := h; exact ⟨v, σ', H', I.unwish, r, q⟩
set_option linter.all false in private theorem PSs.nox {st : List Stmt} {t : TS} (h : PSs X.nox st t) : PSs X st t := fun pins s σ H D I hw =>
  wpAny_mono (h pins s σ H D (I.wish _) hw) (fun _ _ q => q.unwish) fun _ _ z => False.elim z
end

/-! ### blocks and small statements -/
section
variable {X : Cx} {st : Stmt} {rest : List Stmt} {t u : TS} {e : Expr} {te : TE} {pos : Pos}
set_option linter.all false in private noncomputable def tNext : TS := fun D σ H => D.nx σ H
set_option linter.all false in private noncomputable def tSeq (t u : TS) : TS := fun D σ H => t { D with nx := u D } σ H
set_option linter.all false in private theorem pss_nil : PSs X [] tNext := fun _ _ σ H _ I h => wpAny_execs_nil ⟨σ, H, I, h⟩
set_option linter.all false in private theorem pss_cons (h1 : PS X st t) (h2 : PSs X rest u) : PSs X (st :: rest) (tSeq t u) := by
  intro pins s σ H D I h
  refine wpAny_execs_cons (thn (h1 pins s σ H { D with nx := u D } I h) fun f s1 q => ?_)
  cases f with
  | next =>
    obtain ⟨σ', H', I', q⟩ := q
    exact h2 pins s1 σ' H' D I' q
  | ret v => exact q
  | brk => exact q
  | cont => exact q
set_option linter.all false in private theorem pss_one (h1 : PS X st t) : PSs X [st] t := by
  intro pins s σ H D I h
  refine wpAny_execs_cons (thn (h1 pins s σ H D I h) fun f s1 q => ?_)
  cases f with
  | next => exact wpAny_execs_nil q
  | ret v => exact q
  | brk => exact q
  | cont => exact q
set_option linter.all false in private theorem Inv.quiet {pins : List (Addr × Obj)} {σ : St} {H : Hp} {s : Shared} (I : Inv X pins σ H s) : interactive X.env = false := by simp [interactive, I.ok.kind]
set_option linter.all false in private noncomputable def tDrop (te : TE) : TS := fun D σ H => te σ H fun _ H1 => D.nx σ H1
set_option linter.all false in private theorem ps_expr (he : PE X e te) (hs : swapsWith e none pos.line X.env = pure false := by rfl) : PS X (.Expr e pos) (tDrop te) := by
  intro pins s σ H D I h
  exact wpAny_Expr_any (thn (he pins s σ H _ I h) fun v s1 ⟨x, H1, I1, r1, q1⟩ => ⟨σ, H1, I1, q1⟩) I.quiet hs
set_option linter.all false in private noncomputable def tRet (te : TE) : TS := fun D σ H => te σ H D.rt
set_option linter.all false in private theorem ps_ret (he : PE X e te) : PS X (.Return (some e) pos) (tRet te) := by
  intro pins s σ H D I h
  exact wpAny_Return_some (thn (he pins s σ H _ I h) fun v s1 ⟨x, H1, I1, r1, q1⟩ => ⟨x, σ, H1, I1, r1, q1⟩)
set_option linter.all false in private noncomputable def tIfS (c : TT) (t u : TS) : TS := fun D σ H => c σ H fun b H1 => if b = true then t D σ H1 else u D σ H1
set_option linter.all false in private theorem ps_if {c : Expr} {a b : List Stmt} {tc : TT} (hc : PT X c tc) (ha : PSs X a t) (hb : PSs X b u) : PS X (.If c a b pos) (tIfS tc t u) := by
  intro pins s σ H D I h
  refine wpAny_If (thn (hc pins s σ H _ I h) fun d s1 ⟨H1, I1, q1⟩ => ?_)
  cases d with
  | true => exact ha pins s1 σ H1 D I1 q1
  | false => exact hb pins s1 σ H1 D I1 q1
set_option linter.all false in private noncomputable def tNever : TS := fun _ _ _ => False
set_option linter.all false in private theorem ps_never : PS X st tNever := fun _ _ _ _ _ _ h => h.elim
end

/-! ### targets -/
set_option linter.all false in private noncomputable abbrev TG := V → St → Hp → (St → Hp → Prop) → Prop
set_option linter.all false in private noncomputable abbrev TGs := List V → St → Hp → (St → Hp → Prop) → Prop
set_option linter.all false in private noncomputable def PG (X : Cx) (target : Expr) (t : TG) : Prop :=
  ∀ (pins : List (Addr × Obj)) (s : Shared) (σ : St) (H : Hp) (v : V) (u : Value) (Q : St → Hp → Prop), Inv X pins σ H s → RelV v u → t v σ H Q →
    wpAny (model X.prog X.w) X.A (assign target X.env u) (fun _ s' => ∃ σ' H', Inv X pins σ' H' s' ∧ Q σ' H') X.xe s
set_option linter.all false in private noncomputable def PGs (X : Cx) (ts : List Expr) (t : TGs) : Prop :=
  ∀ (pins : List (Addr × Obj)) (s : Shared) (σ : St) (H : Hp) (vs : List V) (us : List Value) (Q : St → Hp → Prop), Inv X pins σ H s → Vals vs us → t vs σ H Q →
    wpAny (model X.prog X.w) X.A (assignInOrder ((assignEach ts X.env).map (·.2)) us) (fun _ s' => ∃ σ' H', Inv X pins σ' H' s' ∧ Q σ' H') X.xe s
set_option linter.all false in private noncomputable abbrev TSet := V → V → V → Hp → (Hp → Prop) → Prop
set_option linter.all false in private noncomputable def PSet (X : Cx) (t : TSet) : Prop :=
  ∀ (pins : List (Addr × Obj)) (s : Shared) (σ : St) (H : Hp) (o i v : V) (ov iv u : Value) (Q : Hp → Prop), Inv X pins σ H s → RelV o ov → RelV i iv → RelV v u → t o i v H Q →
    wpAny (model X.prog X.w) X.A (setItem ov iv u) (fun _ s' => ∃ H', Inv X pins σ H' s' ∧ Q H') X.xe s
set_option linter.all false in private noncomputable abbrev TIp := V → V → Hp → VK → Prop
section
variable {X : Cx} {pos : Pos}
set_option linter.all false in private noncomputable def gName (i : Nat) : TG := fun v σ H Q => Q (σ.set i (some v)) H
set_option linter.all false in private theorem pg_name {i : Nat} {x : Str} (hN : X.N.Nodup) (hi : X.N[i]? = some x) (hx : Loc X.env.scope x) (hf : X.fn x = true ∨ X.env.scope.names.lookup x = some .local := by trivial) : PG X (.Name x pos) (gName i) := by
  intro pins s σ H v u Q I r h
  exact wpAny_assign_Name (store_ok I hN hi hx r (fun s' I' => ⟨_, H, I', h⟩) hf)
set_option linter.all false in private noncomputable def gSub (to ti : TE) (t : TSet) : TG := fun v σ H Q => to σ H fun o H1 => ti σ H1 fun i H2 => t o i v H2 fun H3 => Q σ H3
set_option linter.all false in private theorem pg_sub {o i : Expr} {to ti : TE} {t : TSet} (ho : PE X o to) (hi : PE X i ti) (hs : PSet X t)
    (ha : ∀ v, assign (.Subscript o i pos) X.env v = (do
      let ov ← holding [v] (eval o X.env)
      let iv ← holding [v, ov] (eval i X.env)
      standAt pos
      holding [v, ov, iv] (setItem ov iv v)
      release [v, ov, iv] []) := by trivial) : PG X (.Subscript o i pos) (gSub to ti t) := by
  intro pins s σ H v u Q I r h
  rw [ha]
  refine wpAny_bind (wpAny_holding (thn (ho pins s σ H _ I h) fun ov s1 ⟨x, H1, I1, r1, q1⟩ => ?_))
  refine wpAny_bind (wpAny_holding (thn (hi pins s1 σ H1 _ I1 q1) fun iv s2 ⟨y, H2, I2, r2, q2⟩ => ?_))
  refine wpAny_bind (wpAny_standAt (wpAny_bind (wpAny_holding (thn (hs pins s2 σ H2 x y v ov iv u _ I2 r1 r2 r q2) fun _ s3 ⟨H3, I3, q3⟩ => ?_))))
  exact wpAny_release ⟨σ, H3, I3, q3⟩
set_option linter.all false in private noncomputable def tAsg (te : TE) (g : TG) : TS := fun D σ H => te σ H fun x H1 => g x σ H1 D.nx
set_option linter.all false in private theorem ps_asg {tg e : Expr} {te : TE} {g : TG} (he : PE X e te) (hg : PG X tg g) (hs : swapsWithSole [tg] e pos.line X.env = pure false := by rfl) (hw : swappedStores [tg] e X.env = pure none := by rfl)
    (h1 : (assignEach [tg] X.env).map (·.2) = [assign tg X.env] := by rfl) : PS X (.Assign [tg] e pos) (tAsg te g) := by
  intro pins s σ H D I h
  refine wpAny_Assign_stores (thn (he pins s σ H _ I h) fun v s1 ⟨x, H1, I1, r1, q1⟩ => ?_) hs hw
  rw [h1]
  exact thn (hg pins s1 σ H1 x v _ I1 r1 q1) fun _ s2 q => q
set_option linter.all false in private theorem ps_set {i : Nat} {x : Str} {e : Expr} {te : TE} {pos' : Pos} (hN : X.N.Nodup) (hi : X.N[i]? = some x) (hx : Loc X.env.scope x) (he : PE X e te) (hs : swapsWith e (some (.Name x pos')) pos.line X.env = pure false := by rfl) (hf : X.fn x = true ∨ X.env.scope.names.lookup x = some .local := by trivial) :
    PS X (.Assign [.Name x pos'] e pos) (tAsg te (gName i)) := by
  intro pins s σ H D I h
  refine wpAny_Assign_Name (thn (he pins s σ H _ I h) fun v s1 ⟨y, H1, I1, r1, q1⟩ => ?_) hs
  exact store_ok I1 hN hi hx r1 (fun s2 I2 => ⟨_, H1, I2, q1⟩) hf
end

/-! ### while -/
section
variable {X : Cx} {pos : Pos}
set_option linter.all false in private noncomputable def tWhile (c : TT) (tb : TS) : TS := fun D σ H => ∃ W : Nat → St → Hp → Prop, (∃ m, W m σ H) ∧ ∀ m σ H, W m σ H →
  c σ H fun b H1 => if b = true then ∃ N : St → Hp → Prop, (∀ σ' H', N σ' H' → ∃ m', m' < m ∧ W m' σ' H') ∧ tb { D with nx := N, ct := N, bk := D.nx } σ H1 else D.nx σ H1
set_option linter.all false in private theorem ps_while {c : Expr} {body : List Stmt} {tc : TT} {tb : TS} (hp : PassesOwn (model X.prog X.w) X.A X.env X.xe) (hc : PT X c tc) (hb : PSs X body tb) : PS X (.While c body [] pos) (tWhile tc tb) := by
  intro pins s σ H D I h
  obtain ⟨W, ⟨m0, w0⟩, turn⟩ := h
  refine wpAny_While (codeAny_whileLoop (fun n s' => ∃ σ' H', Inv X pins σ' H' s' ∧ W n σ' H') ?_ m0 ⟨σ, H, I, w0⟩)
  rintro n s1 ⟨σ1, H1, I1, w1⟩
  refine wpAny_passesOwn hp (thn (hc pins s1 σ1 H1 _ I1 (turn n σ1 H1 w1)) fun b s2 ⟨H2, I2, q2⟩ => ?_)
  cases b with
  | true =>
    obtain ⟨N, hN, q2⟩ := q2
    rw [if_pos rfl]
    refine wpAny_passesOwn hp (thn (hb pins s2 σ1 H2 _ I2 q2) fun f s3 q3 => ?_)
    cases f with
    | next =>
      obtain ⟨σ3, H3, I3, n3⟩ := q3
      obtain ⟨m', hm, w3⟩ := hN σ3 H3 n3
      exact ⟨m', hm, σ3, H3, I3, w3⟩
    | cont =>
      obtain ⟨σ3, H3, I3, n3⟩ := q3
      obtain ⟨m', hm, w3⟩ := hN σ3 H3 n3
      exact ⟨m', hm, σ3, H3, I3, w3⟩
    | brk => exact q3
    | ret v => exact q3
  | false =>
    rw [if_neg Bool.false_ne_true]
    exact wpAny_execs_nil ⟨σ1, H2, I2, q2⟩
end

/-! ### what a loop or a comprehension walks -/
set_option linter.all false in private structure It where
  go : Nat → Hp → Prop
  yld : Nat → Hp → V → Hp → Prop
  stop : Nat → Hp → Prop
set_option linter.all false in private noncomputable def FpOk (X : Cx) (pins : List (Addr × Obj)) (H : Hp) (b : Addr) : Prop :=
  H b = none ∧ b ≠ X.env.locals ∧ b ∉ X.fs ∧ (b ∈ X.ex ∨ X.s₀.heap.objs.size ≤ b) ∧ (∀ x c, X.env.cells.lookup x = some c → c ≠ b) ∧ ∀ p ∈ X.pn ++ pins, p.1 ≠ b
set_option linter.all false in private theorem Inv.fpOk {X : Cx} {pins : List (Addr × Obj)} {σ : St} {H H' : Hp} {s : Shared} {b : Addr} (I : Inv X pins σ H s) (hb : s.heap.objs.size ≤ b) (hn : H' b = none) : FpOk X pins H' b := by
  refine ⟨hn, Nat.ne_of_gt (Nat.lt_of_lt_of_le I.lt hb), I.nofs hb, .inr (Nat.le_trans I.sz hb), fun x c e z => ?_, fun p hp z => ?_⟩
  · obtain ⟨v, q⟩ := I.cell x c e
    exact absurd (Nat.lt_of_lt_of_le q.lt (by rw [z]; exact hb)) (Nat.lt_irrefl _)
  · exact absurd (Nat.lt_of_lt_of_le (Heap.lt_size (I.pin p hp).1) (by rw [z]; exact hb)) (Nat.lt_irrefl _)
set_option linter.all false in private structure Turn (P : Program) (w : World) (K : PySem.W.Frag) (tg : Expr) (J : It) (fp : List Addr) (it : Addr) (tn : Nat → Heap → Prop) : Prop where
  mem : it ∈ fp
  obj : ∀ i h, tn i h → ∀ b ∈ fp, ∃ o, h.get? b = some o ∧ ∀ v, o.data ≠ .cell v
  keep : ∀ i h h', tn i h → (∀ b ∈ fp, ∀ o, h.get? b = some o → h'.get? b = some o) → tn i h'
  item : ∀ (X : Cx), X.prog = P → X.w = w → X.K = K → X.calm = true → ∀ (i : Nat) (pins : List (Addr × Obj)) (s : Shared) (σ : St) (H : Hp) (E : Value → Shared → Prop), Inv X pins σ H s → (∀ b ∈ fp, FpOk X pins H b) → tn i s.heap → J.go i H →
    wpAny (model P w) X.A (pyNext (.ref it)) (fun r s1 => ∃ u, r = some u ∧
      wpAny (model P w) X.A (letOwnedTupleGo tg (.ref it) u) (fun _ s2 => ∃ x H', Inv X pins σ H' s2 ∧ RelV x u ∧ J.yld i H x H' ∧ tn (i + 1) s2.heap ∧ ∀ b ∈ fp, H' b = none) E s1) E s
  done : ∀ (X : Cx), X.prog = P → X.w = w → X.K = K → X.calm = true → ∀ (i : Nat) (pins : List (Addr × Obj)) (s : Shared) (σ : St) (H : Hp) (E : Value → Shared → Prop), Inv X pins σ H s → (∀ b ∈ fp, FpOk X pins H b) → tn i s.heap → J.stop i H →
    wpAny (model P w) X.A (pyNext (.ref it)) (fun r s1 => r = none ∧ Inv X pins σ H s1) E s
  self : ∀ (A : Around) (i : Nat) (s : Shared) (Q : Value → Shared → Prop) (E : Value → Shared → Prop), tn i s.heap → Q (.ref it) s → wpAny (model P w) A (pyIter (.ref it)) Q E s
set_option linter.all false in private noncomputable abbrev TI := St → Hp → (It → Hp → Prop) → Prop
set_option linter.all false in private noncomputable def PIE (X : Cx) (pins : List (Addr × Obj)) (σ : St) (tg : Expr) (R : It → Hp → Prop) (itv : Value) (s2 : Shared) : Prop :=
  ∃ (it : Addr) (fp : List Addr) (tn : Nat → Heap → Prop) (J : It) (H' : Hp), itv = .ref it ∧ Inv X pins σ H' s2 ∧ Turn X.prog X.w X.K tg J fp it tn ∧ tn 0 s2.heap ∧ (∀ b ∈ fp, FpOk X pins H' b) ∧ R J H'
set_option linter.all false in private noncomputable def PI (X : Cx) (tg iter : Expr) (wi : TI) : Prop :=
  ∀ (pins : List (Addr × Obj)) (s : Shared) (σ : St) (H : Hp) (R : It → Hp → Prop), Inv X pins σ H s → wi σ H R →
    wpAny (model X.prog X.w) X.A (eval iter X.env) (fun v s1 => wpAny (model X.prog X.w) X.A (pyIter v) (PIE X pins σ tg R) X.xe s1) X.xe s

set_option linter.all false in private theorem go_of {M : Model} {A : Around} {E : Value → Shared → Prop} {s : Shared} {tg : Expr} {it : Addr} {u : Value} {o : Obj} {n : String} {vs : Array Value} {Q : Unit → Shared → Prop} (ho : s.heap.get? it = some o) (hc : o.cls = .type n) (hd : o.data = .fields vs)
    (hn : ["enumerate", "zip", "dict_itemiterator", "dict_reverseitemiterator", "odict_iterator", "itertools.zip_longest", "itertools.pairwise"].contains n = false) (hQ : Q () s) : wpAny M A (letOwnedTupleGo tg (.ref it) u) Q E s := by
  unfold letOwnedTupleGo
  cases tg <;> first
    | exact wpAny_pure hQ
    | (cases u <;> first
        | exact wpAny_pure hQ
        | (refine wpAny_bind (wpAny_load ho ?_)
           rw [hc, hd]
           show wpAny M A (if (["enumerate", "zip", "dict_itemiterator", "dict_reverseitemiterator", "odict_iterator", "itertools.zip_longest", "itertools.pairwise"].contains n && vs[0]? == some (rawInt _)) = true then _ else _) Q E s
           rw [if_neg (by intro h; rw [hn, Bool.false_and] at h; cases h)]
           exact wpAny_pure hQ))

set_option linter.all false in private noncomputable def Itl (K : PySem.W.Frag) (a : Addr) : It :=
  ⟨fun i H => ∃ xs x, SqL K H a xs ∧ xs[i]? = some x, fun i H x H' => H' = H ∧ ∀ xs, SqL K H a xs → xs[i]? = some x, fun i H => ∃ xs, SqL K H a xs ∧ xs.length ≤ i⟩
set_option linter.all false in private noncomputable def Itt (K : PySem.W.Frag) (a : Addr) : It :=
  ⟨fun i H => ∃ xs x, SqT K H a xs ∧ xs[i]? = some x, fun i H x H' => H' = H ∧ ∀ xs, SqT K H a xs → xs[i]? = some x, fun i H => ∃ xs, SqT K H a xs ∧ xs.length ≤ i⟩
set_option linter.all false in private noncomputable def Itr (lo : Int) (n : Nat) : It := ⟨fun i _ => i < n, fun i H x H' => H' = H ∧ x = .int (lo + i), fun i _ => n ≤ i⟩
set_option linter.all false in private theorem turn_list {P : Program} {w : World} {K : PySem.W.Frag} {tg : Expr} (a it : Addr) : Turn P w K tg (Itl K a) [it] it (fun i h => h.IsListIter it a i) where
  mem := by simp
  obj := fun i h st b hb => by
    have e : b = it := by simpa using hb
    subst e
    obtain ⟨o, e, c, d⟩ := st
    exact ⟨o, e, fun v z => by rw [d] at z; cases z⟩
  keep := fun i h h' st k => st.at fun o e => k it (by simp) o e
  item := by
    intro X hP hw hK hc i pins s σ H E I hf st hg
    subst hP hw hK
    obtain ⟨xs, x, hq, hx⟩ := hg
    obtain ⟨its, rv, p, hz⟩ := I.list hq
    obtain ⟨u, hu, ru⟩ := rv.get hx
    obtain ⟨f0, f1, f2, f3, f4, f5⟩ := hf it (by simp)
    refine wpAny_pyNext_list_item st p.isList (x := u) (by simpa using hu) fun h' st' sb => ?_
    have I1 : Inv X pins σ H { s with heap := h' } := I.turned (t' := s.toks) (fun b o hb e => (sb.2 b hb).trans e) f0 f1 f3 f4 f5
    obtain ⟨o, e, c, d⟩ := id st'
    exact ⟨u, rfl, go_of (s := { s with heap := h' }) e c d (by decide) ⟨x, H, I1, ru, ⟨rfl, fun ys hy => by rw [I.list_inj hy hq]; exact hx⟩, st', fun b hb => (hf b hb).1⟩⟩
  done := by
    intro X hP hw hK hc i pins s σ H E I hf st hg
    subst hP hw hK
    obtain ⟨xs, hq, hx⟩ := hg
    obtain ⟨its, rv, p, hz⟩ := I.list hq
    obtain ⟨f0, f1, f2, f3, f4, f5⟩ := hf it (by simp)
    have hl := rv.length
    exact wpAny_pyNext_list_end (I.ok.hd hc) st p.isList (by simp; omega) fun h' eb => ⟨rfl, I.turned (t' := s.toks) (fun b o hb e => eb b o hb e) f0 f1 f3 f4 f5⟩
  self := fun _ _ _ _ _ st h => wpAny_pyIter_listiter st h
set_option linter.all false in private theorem turn_tuple {P : Program} {w : World} {K : PySem.W.Frag} {tg : Expr} (a it : Addr) : Turn P w K tg (Itt K a) [it] it (fun i h => h.IsTupleIter it a i) where
  mem := by simp
  obj := fun i h st b hb => by
    have e : b = it := by simpa using hb
    subst e
    obtain ⟨o, e, c, d⟩ := st
    exact ⟨o, e, fun v z => by rw [d] at z; cases z⟩
  keep := fun i h h' st k => st.at fun o e => k it (by simp) o e
  item := by
    intro X hP hw hK hc i pins s σ H E I hf st hg
    subst hP hw hK
    obtain ⟨xs, x, hq, hx⟩ := hg
    obtain ⟨its, rv, p, hz⟩ := I.tuple hq
    obtain ⟨u, hu, ru⟩ := rv.get hx
    obtain ⟨f0, f1, f2, f3, f4, f5⟩ := hf it (by simp)
    refine wpAny_pyNext_tuple_item st (show s.heap.IsTuple a its.toArray from p) (x := u) (by simpa using hu) fun h' st' sb => ?_
    have I1 : Inv X pins σ H { s with heap := h' } := I.turned (t' := s.toks) (fun b o hb e => (sb.2 b hb).trans e) f0 f1 f3 f4 f5
    obtain ⟨o, e, c, d⟩ := id st'
    exact ⟨u, rfl, go_of (s := { s with heap := h' }) e c d (by decide) ⟨x, H, I1, ru, ⟨rfl, fun ys hy => by rw [I.tuple_inj hy hq]; exact hx⟩, st', fun b hb => (hf b hb).1⟩⟩
  done := by
    intro X hP hw hK hc i pins s σ H E I hf st hg
    subst hP hw hK
    obtain ⟨xs, hq, hx⟩ := hg
    obtain ⟨its, rv, p, hz⟩ := I.tuple hq
    obtain ⟨f0, f1, f2, f3, f4, f5⟩ := hf it (by simp)
    have hl := rv.length
    exact wpAny_pyNext_tuple_end (I.ok.hd hc) st (show s.heap.IsTuple a its.toArray from p) (by simp; omega) fun h' eb => ⟨rfl, I.turned (t' := s.toks) (fun b o hb e => eb b o hb e) f0 f1 f3 f4 f5⟩
  self := fun _ _ _ _ _ st h => wpAny_pyIter_tupleiter st h
set_option linter.all false in private theorem turn_range {P : Program} {w : World} {K : PySem.W.Frag} {tg : Expr} (it : Addr) (lo : Int) (n : Nat) : Turn P w K tg (Itr lo n) [it] it (fun i h => IsRangeIter h it (lo + (i : Nat) * 1) ((n : Int) - (i : Nat)) 1) where
  mem := by simp
  obj := fun i h st b hb => by
    have e : b = it := by simpa using hb
    subst e
    exact ⟨_, st, fun v z => by
      have z' : Data.fields _ = Data.cell v := z
      cases z'⟩
  keep := fun i h h' st k => k it (by simp) _ st
  item := by
    intro X hP hw hK hc i pins s σ H E I hf st hg
    subst hP hw hK
    obtain ⟨f0, f1, f2, f3, f4, f5⟩ := hf it (by simp)
    have W := Walks.range (prog := X.prog) (w := X.w) (I.ok.hd hc) it lo 1 n
    refine W.item i s _ _ hg st fun v h' tk hv st' kk => ?_
    obtain ⟨t, rfl⟩ := hv
    have I1 : Inv X pins σ H { s with heap := h', toks := tk } := I.turned (fun b o hb e => kk b o (by simpa using hb) e) f0 f1 f3 f4 f5
    refine ⟨_, rfl, go_of (s := { s with heap := h', toks := tk }) (n := "range_iterator") st' rfl rfl (by decide) ⟨.int (lo + i), H, I1, ⟨t, ?_⟩, ⟨rfl, rfl⟩, st', fun b hb => (hf b hb).1⟩⟩
    rw [Int.mul_one]
  done := by
    intro X hP hw hK hc i pins s σ H E I hf st hg
    subst hP hw hK
    obtain ⟨f0, f1, f2, f3, f4, f5⟩ := hf it (by simp)
    exact wpAny_pyNext_range_end (I.ok.hd hc) st (by have : n ≤ i := hg; omega) fun h' eb => ⟨rfl, I.turned (t' := s.toks) (fun b o hb e => eb b o hb e) f0 f1 f3 f4 f5⟩
  self := fun _ _ _ _ _ st h => wpAny_pyIter_rangeiter st h
end L2

namespace L2
open PySem PySem.Spec PyProof.Rows
section
variable {X : Cx} {tg : Expr}
set_option linter.all false in private noncomputable def iList (K : PySem.W.Frag) (tl : TE) : TI := fun σ H R => tl σ H fun x H1 => ∃ a, x = .ref a ∧ (∃ xs, SqL K H1 a xs) ∧ R (Itl K a) H1
set_option linter.all false in private noncomputable def iTup (K : PySem.W.Frag) (tl : TE) : TI := fun σ H R => tl σ H fun x H1 => ∃ a, x = .ref a ∧ (∃ xs, SqT K H1 a xs) ∧ R (Itt K a) H1
set_option linter.all false in private theorem pi_list {l : Expr} {tl : TE} (hl : PE X l tl) : PI X tg l (iList X.K tl) := by
  intro pins s σ H R I h
  refine thn (hl pins s σ H _ I h) fun v s1 ⟨x, H1, I1, r1, q1⟩ => ?_
  obtain ⟨a, e, ⟨xs, hq⟩, q⟩ := q1
  subst e
  cases r1
  obtain ⟨its, rv, p, hz⟩ := I1.list hq
  refine wpAny_pyIter_list p.isList ?_
  refine ⟨s1.heap.objs.size, [s1.heap.objs.size], _, _, H1, rfl, I1.kept (t' := s1.toks) fun b o e => Heap.get?_push_of_some _ e, turn_list a _, ⟨_, Heap.get?_push_size _ rfl, rfl, rfl⟩, fun b hb => ?_, q⟩
  have e : b = s1.heap.objs.size := by simpa using hb
  subst e
  exact I1.fpOk (Nat.le_refl _) (I1.hok.fresh (Nat.le_refl _))
set_option linter.all false in private theorem pi_tup {l : Expr} {tl : TE} (hl : PE X l tl) : PI X tg l (iTup X.K tl) := by
  intro pins s σ H R I h
  refine thn (hl pins s σ H _ I h) fun v s1 ⟨x, H1, I1, r1, q1⟩ => ?_
  obtain ⟨a, e, ⟨xs, hq⟩, q⟩ := q1
  subst e
  cases r1
  obtain ⟨its, rv, p, hz⟩ := I1.tuple hq
  refine wpAny_pyIter_tuple (show s1.heap.IsTuple a its.toArray from p) ?_
  refine ⟨s1.heap.objs.size, [s1.heap.objs.size], _, _, H1, rfl, I1.kept (t' := s1.toks) fun b o e => Heap.get?_push_of_some _ e, turn_tuple a _, ⟨_, Heap.get?_push_size _ rfl, rfl, rfl⟩, fun b hb => ?_, q⟩
  have e : b = s1.heap.objs.size := by simpa using hb
  subst e
  exact I1.fpOk (Nat.le_refl _) (I1.hok.fresh (Nat.le_refl _))
set_option linter.all false in private theorem range_it {pins : List (Addr × Obj)} {σ : St} {H : Hp} {s : Shared} {R : It → Hp → Prop} {E : Value → Shared → Prop} {lo hi : Int} {t u v : Tok} {tk : Nat} (I : Inv X pins σ H s) (h1 : -(2 ^ 62) ≤ lo) (h2 : lo < 2 ^ 62) (h3 : -(2 ^ 62) ≤ hi) (h4 : hi < 2 ^ 62)
    (q : R (Itr lo (hi - lo).toNat) H) : wpAny (model X.prog X.w) X.A (pyIter (.ref s.heap.objs.size)) (PIE X pins σ tg R) E { s with heap := s.heap.push { cls := .type "range", data := .fields #[.int lo t, .int hi u, .int 1 v] }, toks := tk } := by
  refine wpAny_pyIter_range (IsRange.new ..) (small_one h1 h2 h3 h4) ?_
  have I1 : Inv X pins σ H { s with heap := s.heap.push { cls := .type "range", data := .fields #[.int lo t, .int hi u, .int 1 v] }, toks := tk } := I.kept fun b o e => Heap.get?_push_of_some _ e
  refine ⟨(s.heap.push { cls := .type "range", data := .fields #[.int lo t, .int hi u, .int 1 v] }).objs.size, [(s.heap.push { cls := .type "range", data := .fields #[.int lo t, .int hi u, .int 1 v] }).objs.size], _, _, H, rfl,
    I1.kept (t' := tk) fun b o e => Heap.get?_push_of_some _ e, turn_range _ lo (hi - lo).toNat, ?_, fun b hb => ?_, q⟩
  · have e1 : lo + ((0 : Nat) : Int) * 1 = lo := by simp
    have e2 : (((hi - lo).toNat : Nat) : Int) - ((0 : Nat) : Int) = Builtin.Range.rangeSize lo hi 1 := by rw [rangeSize_one]; split <;> omega
    show IsRangeIter _ _ (lo + ((0 : Nat) : Int) * 1) ((((hi - lo).toNat : Nat) : Int) - ((0 : Nat) : Int)) 1
    rw [e1, e2]
    exact Heap.get?_push_size _ rfl
  · have e : b = (s.heap.push { cls := .type "range", data := .fields #[.int lo t, .int hi u, .int 1 v] }).objs.size := by simpa using hb
    subst e
    exact I1.fpOk (Nat.le_refl _) (I1.hok.fresh (Nat.le_refl _))
set_option linter.all false in private noncomputable def iRng1 (ta : TA) : TI := fun σ H R => ta σ H fun vs H1 => ∃ j : Int, vs = [.int j] ∧ -(2 ^ 62) ≤ j ∧ j < 2 ^ 62 ∧ R (Itr 0 j.toNat) H1
set_option linter.all false in private theorem pi_range1 {a : Expr} {ta : TA} {p pos : Pos} (hg : Gl X "range") (hm : X.mg "range" = none) (ha : PA X [a] ta) (hs : starEach [a] X.env = [(false, eval a X.env)] := by rfl) : PI X tg (.Call (.Name "range" p) [a] [] pos) (iRng1 ta) := by
  intro pins s σ H R I h
  refine Call_ (ld_blt I hg hm boot_range (PyProof.Rows.callWith_type1 (thn (ha pos pins s σ H _ I h) fun us s1 ⟨vs, H1, I1, r1, q1⟩ => ?_) hs rfl))
  obtain ⟨j, e, q1, q2, q⟩ := q1
  subst e
  cases r1 with
  | cons r rr =>
    cases rr
    obtain ⟨t, rfl⟩ := r
    exact call_range_1 (range_it I1 (by omega) (by omega) q1 q2 (by simpa using q))
/-! ### for -/
set_option linter.all false in private noncomputable def tFor (wi : TI) (g : TG) (tb : TS) : TS := fun D σ H => wi σ H fun J H1 => ∃ W : Nat → Nat → St → Hp → Prop, (∃ m, W 0 m σ H1) ∧ ∀ i m σ H, W i m σ H →
  (J.stop i H ∧ D.nx σ H) ∨ (J.go i H ∧ ∃ N : St → Hp → Prop, (∀ σ' H', N σ' H' → ∃ m', m' < m ∧ W (i + 1) m' σ' H') ∧ ∀ x H', J.yld i H x H' → g x σ H' fun σ2 H2 => tb { D with nx := N, ct := N, bk := D.nx } σ2 H2)
set_option linter.all false in private noncomputable def pinsAt (fp : List Addr) (h : Heap) : List (Addr × Obj) := fp.filterMap fun b => (h.get? b).map fun o => (b, o)
set_option linter.all false in private theorem mem_pinsAt {fp : List Addr} {h : Heap} {b : Addr} {o : Obj} (hb : b ∈ fp) (e : h.get? b = some o) : (b, o) ∈ pinsAt fp h := List.mem_filterMap.mpr ⟨b, hb, by rw [e]; rfl⟩
set_option linter.all false in private theorem of_pinsAt {fp : List Addr} {h : Heap} {p : Addr × Obj} (hp : p ∈ pinsAt fp h) : p.1 ∈ fp ∧ h.get? p.1 = some p.2 := by
  obtain ⟨b, hb, e⟩ := List.mem_filterMap.mp hp
  cases q : h.get? b with
  | none => rw [q] at e; cases e
  | some o =>
    rw [q] at e
    have e' : (b, o) = p := Option.some.inj e
    subst e'
    exact ⟨hb, q⟩
set_option linter.all false in private theorem Inv.pinned {pins : List (Addr × Obj)} {σ : St} {H : Hp} {s : Shared} {fp : List Addr} (I : Inv X pins σ H s) (hf : ∀ b ∈ fp, FpOk X pins H b) (ho : ∀ b ∈ fp, ∃ o, s.heap.get? b = some o ∧ ∀ v, o.data ≠ .cell v) : Inv X (pins ++ pinsAt fp s.heap) σ H s :=
  I.pins_of fun p hp => (List.mem_append.mp hp).elim (fun z => I.pin p (List.mem_append_right _ z)) fun z => by
    obtain ⟨hb, e⟩ := of_pinsAt z
    obtain ⟨f0, f1, f2, _⟩ := hf p.1 hb
    obtain ⟨o, e', d⟩ := ho p.1 hb
    rw [e] at e'; cases e'
    exact ⟨e, f0, f1, f2, d⟩
set_option linter.all false in private theorem Inv.unpinned {pins pl : List (Addr × Obj)} {σ : St} {H : Hp} {s : Shared} (I : Inv X (pins ++ pl) σ H s) : Inv X pins σ H s := I.pins_of fun p hp => I.pin p (List.mem_append_right _ (List.mem_append_left _ hp))
set_option linter.all false in private theorem ps_for {iter : Expr} {body : List Stmt} {wi : TI} {g : TG} {tb : TS} {pos : Pos} (hp : PassesOwn (model X.prog X.w) X.A X.env X.xe) (hc : X.calm = true) (hi : PI X tg iter wi) (hg : PG X tg g) (hb : PSs X body tb)
    (hs : ∀ x, foldedSetIterable iter X.env x = pure x := by trivial) : PS X (.For tg iter body [] pos) (tFor wi g tb) := by
  intro pins s σ H D I h
  refine wpAny_For (thn (hi pins s σ H _ I h) fun v s1 h1 => thn h1 fun itv s2 h2 => ?_) hs
  obtain ⟨it, fp, tn, J, H2, e, I2, T, st2, f2, W, ⟨m0, w0⟩, turn⟩ := h2
  subst e
  -- what stays true of the iterator's objects through the loop
  have stat : ∀ {H' : Hp}, (∀ b ∈ fp, H' b = none) → ∀ b ∈ fp, FpOk X pins H' b := fun hn b hb => ⟨hn b hb, (f2 b hb).2⟩
  refine codeAny_forLoop_any (fun n s' => ∃ i σ' H', Inv X pins σ' H' s' ∧ tn i s'.heap ∧ (∀ b ∈ fp, H' b = none) ∧ W i n σ' H') ?_ m0 ⟨0, σ, H2, I2, st2, fun b hb => (f2 b hb).1, w0⟩
  rintro n s3 ⟨i, σ3, H3, I3, st3, fr3, w3⟩
  rcases turn i n σ3 H3 w3 with ⟨stop, qn⟩ | ⟨go, N, hN, step⟩
  · refine wpAny_passesOwn hp (thn (T.done X rfl rfl rfl hc i pins s3 σ3 H3 X.xe I3 (stat fr3) st3 stop) fun r s4 ⟨hr, I4⟩ => ?_)
    subst hr
    exact wpAny_execs_nil ⟨σ3, H3, I4, qn⟩
  · refine wpAny_passesOwn hp (thn (T.item X rfl rfl rfl hc i pins s3 σ3 H3 X.xe I3 (stat fr3) st3 go) fun r s4 ⟨u, hr, h4⟩ => ?_)
    subst hr
    refine wpAny_passesOwn hp (thn h4 fun _ s5 ⟨x, H5, I5, r5, y5, st5, fr5⟩ => ?_)
    have I5' := I5.pinned (stat fr5) (T.obj _ _ st5)
    refine wpAny_passesOwn hp (thn (hg _ s5 σ3 H5 x u _ I5' r5 (step x H5 y5)) fun _ s6 ⟨σ6, H6, I6, q6⟩ => ?_)
    refine wpAny_passesOwn hp (thn (hb _ s6 σ6 H6 _ I6 q6) fun f s7 q7 => ?_)
    have again : ∀ {σ7 : St} {H7 : Hp}, Inv X (pins ++ pinsAt fp s5.heap) σ7 H7 s7 → N σ7 H7 → ∃ m, m < n ∧ ∃ i σ' H', Inv X pins σ' H' s7 ∧ tn i s7.heap ∧ (∀ b ∈ fp, H' b = none) ∧ W i m σ' H' := fun {σ7 H7} I7 n7 => by
      obtain ⟨m', hm, w7⟩ := hN σ7 H7 n7
      refine ⟨m', hm, i + 1, σ7, H7, I7.unpinned, T.keep _ _ _ st5 fun b hb o e => (I7.pin (b, o) (List.mem_append_right _ (List.mem_append_right _ (mem_pinsAt hb e)))).1, fun b hb => ?_, w7⟩
      obtain ⟨o, e, d⟩ := T.obj _ _ st5 b hb
      exact (I7.pin (b, o) (List.mem_append_right _ (List.mem_append_right _ (mem_pinsAt hb e)))).2.1
    cases f with
    | next => obtain ⟨σ7, H7, I7, n7⟩ := q7; exact again I7 n7
    | cont => obtain ⟨σ7, H7, I7, n7⟩ := q7; exact again I7 n7
    | brk => obtain ⟨σ7, H7, I7, q7⟩ := q7; exact ⟨σ7, H7, I7.unpinned, q7⟩
    | ret v => obtain ⟨x7, σ7, H7, I7, r7, q7⟩ := q7; exact ⟨x7, σ7, H7, I7.unpinned, r7, q7⟩
end

/-! ### the forms one uses -/
set_option linter.all false in private theorem for_list {K : PySem.W.Frag} {a : Addr} {xs : List V} {g : TG} {tb : TS} {D : Ends} {σ : St} {H : Hp} (Pv : Nat → St → Hp → Prop) (h0 : Pv 0 σ H) (hl : ∀ i σ H, i ≤ xs.length → Pv i σ H → SqL K H a xs)
    (hs : ∀ i x σ H, xs[i]? = some x → Pv i σ H → g x σ H fun σ2 H2 => tb { D with nx := Pv (i + 1), ct := Pv (i + 1), bk := D.nx } σ2 H2) (hd : ∀ σ H, Pv xs.length σ H → D.nx σ H) :
    ∃ W : Nat → Nat → St → Hp → Prop, (∃ m, W 0 m σ H) ∧ ∀ i m σ H, W i m σ H →
      ((Itl K a).stop i H ∧ D.nx σ H) ∨ ((Itl K a).go i H ∧ ∃ N : St → Hp → Prop, (∀ σ' H', N σ' H' → ∃ m', m' < m ∧ W (i + 1) m' σ' H') ∧ ∀ x H', (Itl K a).yld i H x H' → g x σ H' fun σ2 H2 => tb { D with nx := N, ct := N, bk := D.nx } σ2 H2) := by
  refine ⟨fun i m σ H => m = xs.length - i ∧ i ≤ xs.length ∧ Pv i σ H, ⟨xs.length, by simp, Nat.zero_le _, h0⟩, ?_⟩
  rintro i m σ H ⟨rfl, hi, p⟩
  have q := hl i σ H hi p
  by_cases hlt : i < xs.length
  · refine .inr ⟨⟨xs, xs[i], q, by simp [hlt]⟩, Pv (i + 1), fun σ' H' p' => ⟨xs.length - (i + 1), by omega, rfl, hlt, p'⟩, fun x H' y => ?_⟩
    obtain ⟨e, y⟩ := y
    subst e
    exact hs i x σ _ (y xs q) p
  · have e : i = xs.length := by omega
    subst e
    exact .inl ⟨⟨xs, q, Nat.le_refl _⟩, hd σ H p⟩
set_option linter.all false in private theorem for_tup {K : PySem.W.Frag} {a : Addr} {xs : List V} {g : TG} {tb : TS} {D : Ends} {σ : St} {H : Hp} (Pv : Nat → St → Hp → Prop) (h0 : Pv 0 σ H) (hl : ∀ i σ H, i ≤ xs.length → Pv i σ H → SqT K H a xs)
    (hs : ∀ i x σ H, xs[i]? = some x → Pv i σ H → g x σ H fun σ2 H2 => tb { D with nx := Pv (i + 1), ct := Pv (i + 1), bk := D.nx } σ2 H2) (hd : ∀ σ H, Pv xs.length σ H → D.nx σ H) :
    ∃ W : Nat → Nat → St → Hp → Prop, (∃ m, W 0 m σ H) ∧ ∀ i m σ H, W i m σ H →
      ((Itt K a).stop i H ∧ D.nx σ H) ∨ ((Itt K a).go i H ∧ ∃ N : St → Hp → Prop, (∀ σ' H', N σ' H' → ∃ m', m' < m ∧ W (i + 1) m' σ' H') ∧ ∀ x H', (Itt K a).yld i H x H' → g x σ H' fun σ2 H2 => tb { D with nx := N, ct := N, bk := D.nx } σ2 H2) := by
  refine ⟨fun i m σ H => m = xs.length - i ∧ i ≤ xs.length ∧ Pv i σ H, ⟨xs.length, by simp, Nat.zero_le _, h0⟩, ?_⟩
  rintro i m σ H ⟨rfl, hi, p⟩
  have q := hl i σ H hi p
  by_cases hlt : i < xs.length
  · refine .inr ⟨⟨xs, xs[i], q, by simp [hlt]⟩, Pv (i + 1), fun σ' H' p' => ⟨xs.length - (i + 1), by omega, rfl, hlt, p'⟩, fun x H' y => ?_⟩
    obtain ⟨e, y⟩ := y
    subst e
    exact hs i x σ _ (y xs q) p
  · have e : i = xs.length := by omega
    subst e
    exact .inl ⟨⟨xs, q, Nat.le_refl _⟩, hd σ H p⟩
set_option linter.all false in private theorem for_range {lo : Int} {n : Nat} {g : TG} {tb : TS} {D : Ends} {σ : St} {H : Hp} (Pv : Nat → St → Hp → Prop) (h0 : Pv 0 σ H)
    (hs : ∀ i σ H, i < n → Pv i σ H → g (.int (lo + i)) σ H fun σ2 H2 => tb { D with nx := Pv (i + 1), ct := Pv (i + 1), bk := D.nx } σ2 H2) (hd : ∀ σ H, Pv n σ H → D.nx σ H) :
    ∃ W : Nat → Nat → St → Hp → Prop, (∃ m, W 0 m σ H) ∧ ∀ i m σ H, W i m σ H →
      ((Itr lo n).stop i H ∧ D.nx σ H) ∨ ((Itr lo n).go i H ∧ ∃ N : St → Hp → Prop, (∀ σ' H', N σ' H' → ∃ m', m' < m ∧ W (i + 1) m' σ' H') ∧ ∀ x H', (Itr lo n).yld i H x H' → g x σ H' fun σ2 H2 => tb { D with nx := N, ct := N, bk := D.nx } σ2 H2) := by
  refine ⟨fun i m σ H => m = n - i ∧ i ≤ n ∧ Pv i σ H, ⟨n, by simp, Nat.zero_le _, h0⟩, ?_⟩
  rintro i m σ H ⟨rfl, hi, p⟩
  by_cases hlt : i < n
  · refine .inr ⟨hlt, Pv (i + 1), fun σ' H' p' => ⟨n - (i + 1), by omega, rfl, hlt, p'⟩, fun x H' y => ?_⟩
    obtain ⟨e, y⟩ := y
    subst e y
    exact hs i σ _ hlt p
  · have e : i = n := by omega
    subst e
    exact .inl ⟨Nat.le_refl _, hd σ H p⟩
end L2

namespace L2
open PySem PySem.Spec PyProof.Rows

set_option linter.all false in private noncomputable abbrev R2 := V → V → Hp → VK → Prop
set_option linter.all false in private noncomputable def OpR (X : Cx) (f : Value → Value → Sem Value) (r : R2) : Prop :=
  ∀ (pins : List (Addr × Obj)) (s : Shared) (σ : St) (H : Hp) (x y : V) (v u : Value) (Q : VK), Inv X pins σ H s → RelV x v → RelV y u → r x y H Q →
    wpAny (model X.prog X.w) X.A (f v u) (EP X pins σ Q) X.xe s
set_option linter.all false in private noncomputable def UnR (X : Cx) (f : Value → Sem Value) (r : V → Hp → VK → Prop) : Prop :=
  ∀ (pins : List (Addr × Obj)) (s : Shared) (σ : St) (H : Hp) (x : V) (v : Value) (Q : VK), Inv X pins σ H s → RelV x v → r x H Q →
    wpAny (model X.prog X.w) X.A (f v) (EP X pins σ Q) X.xe s
set_option linter.all false in private noncomputable def CallR (X : Cx) (f : Value) (r : List V → Hp → VK → Prop) : Prop :=
  ∀ (pins : List (Addr × Obj)) (s : Shared) (σ : St) (H : Hp) (xs : List V) (us : List Value) (Q : VK), Inv X pins σ H s → Vals xs us → r xs H Q →
    wpAny (model X.prog X.w) X.A (call f us) (EP X pins σ Q) X.xe s
set_option linter.all false in private noncomputable def TruR (X : Cx) (r : V → Hp → (Bool → Hp → Prop) → Prop) : Prop :=
  ∀ (pins : List (Addr × Obj)) (s : Shared) (σ : St) (H : Hp) (x : V) (v : Value) (Q : Bool → Hp → Prop), Inv X pins σ H s → RelV x v → r x H Q →
    wpAny (model X.prog X.w) X.A (truthy v) (TP X pins σ Q) X.xe s

set_option linter.all false in private noncomputable def tOp (r : R2) (ta tb : TE) : TE := fun σ H Q => ta σ H fun x H1 => tb σ H1 fun y H2 => r x y H2 Q
set_option linter.all false in private noncomputable def tUn (r : V → Hp → VK → Prop) (ta : TE) : TE := fun σ H Q => ta σ H fun x H1 => r x H1 Q
set_option linter.all false in private noncomputable def rI (C : Int → Int → Prop) (g : Int → Int → V) : R2 := fun x y H Q => ∃ i j, x = .int i ∧ y = .int j ∧ C i j ∧ Q (g i j) H
set_option linter.all false in private noncomputable def rI0 (g : Int → Int → V) : R2 := fun x y H Q => ∃ i j, x = .int i ∧ y = .int j ∧ Q (g i j) H
set_option linter.all false in private noncomputable def rU (g : Int → V) : V → Hp → VK → Prop := fun x H Q => ∃ i, x = .int i ∧ Q (g i) H

section
variable {X : Cx} {a b c : Expr} {ta tb tc : TE} {pos : Pos}

set_option linter.all false in private theorem binT (ha : PE X a ta) (hb : PE X b tb) {pins : List (Addr × Obj)} {s : Shared} {σ : St} {H : Hp} {R : V → V → Hp → Prop} (I : Inv X pins σ H s)
    (h : ta σ H fun x H1 => tb σ H1 fun y H2 => R x y H2) {Q : Value → Shared → Prop} {f : Value → Value → Sem Value}
    (hf : ∀ v u s2 x y H2, Inv X pins σ H2 s2 → RelV x v → RelV y u → R x y H2 → wpAny (model X.prog X.w) X.A (f v u) Q X.xe s2) :
    wpAny (model X.prog X.w) X.A (eval a X.env) (fun v s₁ => wpAny (model X.prog X.w) X.A (eval b X.env) (fun u s₂ => wpAny (model X.prog X.w) X.A (f v u) Q X.xe s₂) X.xe s₁) X.xe s := by
  refine thn (ha pins s σ H _ I h) fun v s1 ⟨x, H1, I1, r1, q1⟩ => ?_
  refine thn (hb pins s1 σ H1 _ I1 q1) fun u s2 ⟨y, H2, I2, r2, q2⟩ => ?_
  exact hf v u s2 x y H2 I2 r1 r2 q2

set_option linter.all false in private theorem pe_op {op : Operator} {r : R2} (ho : OpR X (binaryOp op) r) (ha : PE X a ta) (hb : PE X b tb) : PE X (.BinOp a op b pos) (tOp r ta tb) := by
  intro pins s σ H Q I h
  exact wpAny_BinOp (binT ha hb I h fun v u s2 x y H2 I2 rx ry q => ho pins s2 σ H2 x y v u Q I2 rx ry q)
set_option linter.all false in private theorem pe_un {op : UnaryOp} {r : V → Hp → VK → Prop} (ho : UnR X (unaryOp op) r) (ha : PE X a ta) : PE X (.UnaryOp op a pos) (tUn r ta) := by
  intro pins s σ H Q I h
  exact UnaryOp_ (thn (ha pins s σ H _ I h) fun v s1 ⟨x, H1, I1, r1, q1⟩ => ho pins s1 σ H1 x v Q I1 r1 q1)
/-! ### ints -/
set_option linter.all false in private theorem opI {f : Value → Value → Sem Value} {C : Int → Int → Prop} {g : Int → Int → Int}
    (rule : ∀ (i j : Int) (t u : Tok) (s : Shared) (Q : Value → Shared → Prop) (E : Value → Shared → Prop), C i j → Q (.int (g i j) s.toks) { s with toks := s.toks + 1 } → wpAny (model X.prog X.w) X.A (f (.int i t) (.int j u)) Q E s) :
    OpR X f (rI C fun i j => .int (g i j)) := by
  intro pins s σ H x y v u Q I rx ry h
  obtain ⟨i, j, rfl, rfl, hc, q⟩ := h
  obtain ⟨t, rfl⟩ := rx
  obtain ⟨t', rfl⟩ := ry
  exact rule i j t t' s _ _ hc ⟨.int (g i j), H, I.tok _, ⟨_, rfl⟩, q⟩
set_option linter.all false in private theorem opI0 {f : Value → Value → Sem Value} {g : Int → Int → Int}
    (rule : ∀ (i j : Int) (t u : Tok) (s : Shared) (Q : Value → Shared → Prop) (E : Value → Shared → Prop), Q (.int (g i j) s.toks) { s with toks := s.toks + 1 } → wpAny (model X.prog X.w) X.A (f (.int i t) (.int j u)) Q E s) :
    OpR X f (rI0 fun i j => .int (g i j)) := by
  intro pins s σ H x y v u Q I rx ry h
  obtain ⟨i, j, rfl, rfl, q⟩ := h
  obtain ⟨t, rfl⟩ := rx
  obtain ⟨t', rfl⟩ := ry
  exact rule i j t t' s _ _ ⟨.int (g i j), H, I.tok _, ⟨_, rfl⟩, q⟩
set_option linter.all false in private theorem opB0 {f : Value → Value → Sem Value} {g : Int → Int → Bool}
    (rule : ∀ (i j : Int) (t u : Tok) (s : Shared) (Q : Value → Shared → Prop) (E : Value → Shared → Prop), Q (.bool (g i j)) s → wpAny (model X.prog X.w) X.A (f (.int i t) (.int j u)) Q E s) :
    OpR X f (rI0 fun i j => .bl (g i j)) := by
  intro pins s σ H x y v u Q I rx ry h
  obtain ⟨i, j, rfl, rfl, q⟩ := h
  obtain ⟨t, rfl⟩ := rx
  obtain ⟨t', rfl⟩ := ry
  exact rule i j t t' s _ _ ⟨.bl (g i j), H, I, rfl, q⟩

set_option linter.all false in private noncomputable def CPow (i j : Int) : Prop := 0 ≤ j ∧ j ≤ 1000000 ∧ i.natAbs < 2 ^ 64
set_option linter.all false in private noncomputable def CMul (i j : Int) : Prop := (-(2 ^ 64) < i ∧ i < 2 ^ 64) ∨ (-(2 ^ 64) < j ∧ j < 2 ^ 64)
set_option linter.all false in private theorem CMul.ok {i j : Int} (h : CMul i j) : IntMulOk i j := by
  rcases h with ⟨h1, h2⟩ | ⟨h1, h2⟩
  · exact .of_left (intBits_le_64 h1 h2)
  · exact .of_right (intBits_le_64 h1 h2)
set_option linter.all false in private theorem op_add : OpR X (binaryOp .Add) (rI0 fun i j => .int (i + j)) := opI0 fun _ _ _ _ _ _ _ q => add_int q
set_option linter.all false in private theorem op_sub : OpR X (binaryOp .Sub) (rI0 fun i j => .int (i - j)) := opI0 fun _ _ _ _ _ _ _ q => sub_int q
set_option linter.all false in private theorem op_mul : OpR X (binaryOp .Mult) (rI CMul fun i j => .int (i * j)) := opI fun _ _ _ _ _ _ _ hc q => mul_int q hc.ok
set_option linter.all false in private theorem op_mod : OpR X (binaryOp .Mod) (rI (fun _ j => 0 < j) fun i j => .int (i % j)) := opI fun i j _ _ _ _ _ hc q => by
  have h1 : (0 : Int) < j := hc
  exact mod_int' (by omega) (by rw [Int.fmod_eq_emod_of_nonneg i (by omega)]; exact q)
set_option linter.all false in private theorem op_pow : OpR X (binaryOp .Pow) (rI CPow fun i j => .int (i ^ j.toNat)) := opI fun _ _ _ _ _ _ _ hc q => pow_int_small hc.1 hc.2.1 hc.2.2 q
set_option linter.all false in private theorem unI {f : Value → Sem Value} {g : Int → Int}
    (rule : ∀ (i : Int) (t : Tok) (s : Shared) (Q : Value → Shared → Prop) (E : Value → Shared → Prop), Q (.int (g i) s.toks) { s with toks := s.toks + 1 } → wpAny (model X.prog X.w) X.A (f (.int i t)) Q E s) :
    UnR X f (rU fun i => .int (g i)) := by
  intro pins s σ H x v Q I rx h
  obtain ⟨i, rfl, q⟩ := h
  obtain ⟨t, rfl⟩ := rx
  exact rule i t s _ _ ⟨.int (g i), H, I.tok _, ⟨_, rfl⟩, q⟩
set_option linter.all false in private theorem un_neg : UnR X (unaryOp .USub) (rU fun i => .int (-i)) := unI fun _ _ _ _ _ q => neg_int q
/-! ### bools among ints: n += (a < b) -/
end

/-! ### comparisons -/
set_option linter.all false in private noncomputable def scal : V → V → Bool
  | .non, .non => true | .non, .int _ => true | .int _, .non => true | .non, .bl _ => true | .bl _, .non => true | .non, .str _ => true | .str _, .non => true
  | .int _, .int _ => true | .bl _, .bl _ => true | .str _, .str _ => true | .byt _, .byt _ => true
  | .int _, .str _ => true | .str _, .int _ => true | .bl _, .str _ => true | .str _, .bl _ => true
  | _, _ => false
set_option linter.all false in private noncomputable def rEq : R2 := fun x y H Q => scal x y = true ∧ Q (.bl (decide (x = y))) H
set_option linter.all false in private noncomputable def rNe : R2 := fun x y H Q => scal x y = true ∧ Q (.bl (!decide (x = y))) H

set_option linter.all false in private theorem dec_int {i j : Int} : decide (V.int i = V.int j) = (i == j) := by
  rw [Bool.eq_iff_iff]
  simp
set_option linter.all false in private theorem dec_bl {i j : Bool} : decide (V.bl i = V.bl j) = (i == j) := by
  rw [Bool.eq_iff_iff]
  simp
set_option linter.all false in private theorem dec_str {i j : Str} : decide (V.str i = V.str j) = (i == j) := by
  rw [Bool.eq_iff_iff]
  simp
set_option linter.all false in private theorem dec_byt {i j : Array UInt8} : decide (V.byt i = V.byt j) = (i.toList == j.toList) := by
  rw [Bool.eq_iff_iff]
  cases i
  cases j
  simp

section
variable {X : Cx} {a b c : Expr} {ta tb tc : TE} {pos : Pos}
set_option linter.all false in private theorem fin_bl {pins : List (Addr × Obj)} {σ : St} {H : Hp} {s : Shared} {Q : VK} {k k' : Bool} (I : Inv X pins σ H s) (q : Q (.bl k) H) (e : k = k') : EP X pins σ Q (.bool k') s := by
  subst e
  exact ⟨.bl k, H, I, rfl, q⟩
set_option linter.all false in private theorem op_eq : OpR X (compareOp .Eq) rEq := by
  intro pins s σ H x y v u Q I rx ry h
  obtain ⟨hs, q⟩ := h
  cases x with
  | non =>
    cases rx
    cases y with
    | non => cases ry; exact PySem.EqNone.eq_none_none (fin_bl I q (by simp))
    | bl j => cases ry; exact PySem.EqNone.eq_none_bool (fin_bl I q (by simp))
    | int j => obtain ⟨t', rfl⟩ := ry; exact PySem.EqNone.eq_none_int (fin_bl I q (by simp))
    | str j => obtain ⟨t', rfl⟩ := ry; exact PySem.EqNone.eq_none_str (fin_bl I q (by simp))
    | _ => exact absurd (show false = true from hs) Bool.false_ne_true
  | bl i =>
    cases rx
    cases y with
    | non => cases ry; exact PySem.EqNone.eq_bool_none (fin_bl I q (by simp))
    | bl j => cases ry; exact eq_bool (fin_bl I q dec_bl)
    | str j => obtain ⟨t', rfl⟩ := ry; exact PySem.EqMixed.eq_bool_str (fin_bl I q (by simp))
    | _ => exact absurd (show false = true from hs) Bool.false_ne_true
  | int i =>
    obtain ⟨t, rfl⟩ := rx
    cases y with
    | non => cases ry; exact PySem.EqNone.eq_int_none (fin_bl I q (by simp))
    | int j => obtain ⟨t', rfl⟩ := ry; exact eq_int (fin_bl I q dec_int)
    | str j => obtain ⟨t', rfl⟩ := ry; exact PySem.EqMixed.eq_int_str (fin_bl I q (by simp))
    | _ => exact absurd (show false = true from hs) Bool.false_ne_true
  | str i =>
    obtain ⟨t, rfl⟩ := rx
    cases y with
    | non => cases ry; exact PySem.EqNone.eq_str_none (fin_bl I q (by simp))
    | bl j => cases ry; exact PySem.EqMixed.eq_str_bool (fin_bl I q (by simp))
    | int j => obtain ⟨t', rfl⟩ := ry; exact PySem.EqMixed.eq_str_int (fin_bl I q (by simp))
    | str j => obtain ⟨t', rfl⟩ := ry; exact eq_str (fin_bl I q dec_str)
    | _ => exact absurd (show false = true from hs) Bool.false_ne_true
  | byt i =>
    obtain ⟨t, rfl⟩ := rx
    cases y with
    | byt j => obtain ⟨t', rfl⟩ := ry; exact PySem.W.eq_bytes (fin_bl I q dec_byt)
    | _ => exact absurd (show false = true from hs) Bool.false_ne_true
  | _ => cases y <;> exact absurd (show false = true from hs) Bool.false_ne_true
set_option linter.all false in private theorem op_ne : OpR X (compareOp .NotEq) rNe := by
  intro pins s σ H x y v u Q I rx ry h
  obtain ⟨hs, q⟩ := h
  cases x with
  | non =>
    cases rx
    cases y with
    | non => cases ry; exact PySem.EqNone.ne_none_none (fin_bl I q (by simp))
    | bl j => cases ry; exact PySem.EqNone.ne_none_bool (fin_bl I q (by simp))
    | int j => obtain ⟨t', rfl⟩ := ry; exact PySem.EqNone.ne_none_int (fin_bl I q (by simp))
    | str j => obtain ⟨t', rfl⟩ := ry; exact PySem.EqNone.ne_none_str (fin_bl I q (by simp))
    | _ => exact absurd (show false = true from hs) Bool.false_ne_true
  | bl i =>
    cases rx
    cases y with
    | non => cases ry; exact PySem.EqNone.ne_bool_none (fin_bl I q (by simp))
    | bl j => cases ry; exact ne_bool (fin_bl I q (congrArg not dec_bl))
    | str j => obtain ⟨t', rfl⟩ := ry; exact PySem.EqMixed.ne_bool_str (fin_bl I q (by simp))
    | _ => exact absurd (show false = true from hs) Bool.false_ne_true
  | int i =>
    obtain ⟨t, rfl⟩ := rx
    cases y with
    | non => cases ry; exact PySem.EqNone.ne_int_none (fin_bl I q (by simp))
    | int j => obtain ⟨t', rfl⟩ := ry; exact ne_int (fin_bl I q (congrArg not dec_int))
    | str j => obtain ⟨t', rfl⟩ := ry; exact PySem.EqMixed.ne_int_str (fin_bl I q (by simp))
    | _ => exact absurd (show false = true from hs) Bool.false_ne_true
  | str i =>
    obtain ⟨t, rfl⟩ := rx
    cases y with
    | non => cases ry; exact PySem.EqNone.ne_str_none (fin_bl I q (by simp))
    | bl j => cases ry; exact PySem.EqMixed.ne_str_bool (fin_bl I q (by simp))
    | int j => obtain ⟨t', rfl⟩ := ry; exact PySem.EqMixed.ne_str_int (fin_bl I q (by simp))
    | str j => obtain ⟨t', rfl⟩ := ry; exact ne_str (fin_bl I q (congrArg not dec_str))
    | _ => exact absurd (show false = true from hs) Bool.false_ne_true
  | byt i =>
    obtain ⟨t, rfl⟩ := rx
    cases y with
    | byt j => obtain ⟨t', rfl⟩ := ry; exact PySem.W.ne_bytes (fin_bl I q (congrArg not dec_byt))
    | _ => exact absurd (show false = true from hs) Bool.false_ne_true
  | _ => cases y <;> exact absurd (show false = true from hs) Bool.false_ne_true

set_option linter.all false in private theorem op_lt : OpR X (compareOp .Lt) (rI0 fun i j => .bl (decide (i < j))) := opB0 fun _ _ _ _ _ _ _ q => lt_int q
set_option linter.all false in private theorem op_le : OpR X (compareOp .LtE) (rI0 fun i j => .bl (decide (i ≤ j))) := opB0 fun _ _ _ _ _ _ _ q => le_int q
set_option linter.all false in private theorem op_gt : OpR X (compareOp .Gt) (rI0 fun i j => .bl (decide (j < i))) := opB0 fun _ _ _ _ _ _ _ q => gt_int q
set_option linter.all false in private theorem op_ge : OpR X (compareOp .GtE) (rI0 fun i j => .bl (decide (j ≤ i))) := opB0 fun _ _ _ _ _ _ _ q => ge_int q
set_option linter.all false in private theorem op_isN : OpR X (compareOp .Is) (fun x y H Q => y = .non ∧ Q (.bl (decide (x = .non))) H) := by
  intro pins s σ H x y v u Q I rx ry h
  obtain ⟨rfl, q⟩ := h
  cases ry
  refine is_none_gen (fin_bl I q ?_)
  cases x <;> first
    | (cases rx; rfl)
    | (obtain ⟨t, rfl⟩ := rx; rfl)
set_option linter.all false in private theorem op_notN : OpR X (compareOp .IsNot) (fun x y H Q => y = .non ∧ Q (.bl (!decide (x = .non))) H) := by
  intro pins s σ H x y v u Q I rx ry h
  obtain ⟨rfl, q⟩ := h
  cases ry
  refine isnot_none_gen (fin_bl I q ?_)
  cases x <;> first
    | (cases rx; rfl)
    | (obtain ⟨t, rfl⟩ := rx; rfl)

set_option linter.all false in private theorem OpR.or {f : Value → Value → Sem Value} {r r' : R2} (h : OpR X f r) (h' : OpR X f r') : OpR X f (fun x y H Q => r x y H Q ∨ r' x y H Q) := by
  intro pins s σ H x y v u Q I rx ry q
  rcases q with q | q
  · exact h pins s σ H x y v u Q I rx ry q
  · exact h' pins s σ H x y v u Q I rx ry q

set_option linter.all false in private theorem nomark (b : Expr) {op : CmpOp} (h : op ≠ .In := by decide) (h2 : op ≠ .NotIn := by decide) : behindInMarks op b = false := by
  have e1 : (op == CmpOp.In) = false := by cases op <;> first | rfl | exact absurd rfl h
  have e2 : (op == CmpOp.NotIn) = false := by cases op <;> first | rfl | exact absurd rfl h2
  cases b <;> simp [behindInMarks, e1, e2]
set_option linter.all false in private theorem pe_cmpR {op : CmpOp} {r : R2} (ho : OpR X (compareOp op) r) (ha : PE X a ta) (hb : PE X b tb) (hm : behindInMarks op b = false) : PE X (.Compare a [op] [b] pos) (tOp r ta tb) := by
  intro pins s σ H Q I h
  exact wpAny_Compare1 (binT ha hb I h fun v u s2 x y H2 I2 rx ry q => ho pins s2 σ H2 x y v u Q I2 rx ry q) hm
set_option linter.all false in private noncomputable def tTest (t : TE) : TT := fun σ H Q => t σ H fun x H' => ∃ k, x = .bl k ∧ Q k H'
set_option linter.all false in private theorem pt_cmpR {op : CmpOp} {r : R2} (ho : OpR X (compareOp op) r) (ha : PE X a ta) (hb : PE X b tb) (hm : behindInMarks op b = false) : PT X (.Compare a [op] [b] pos) (tTest (tOp r ta tb)) := by
  intro pins s σ H Q I h
  refine wpAny_isTrue_Compare1 (thn (ha pins s σ H _ I h) fun v s1 ⟨x, H1, I1, r1, q1⟩ => thn (hb pins s1 σ H1 _ I1 q1) fun u s2 ⟨y, H2, I2, r2, q2⟩ =>
    thn (ho pins s2 σ H2 x y v u _ I2 r1 r2 q2) fun c s3 ⟨z, H3, I3, r3, k, e, q3⟩ => ?_) hm
  subst e
  cases r3
  exact wpAny_truthy_bool ⟨H3, I3, q3⟩
set_option linter.all false in private noncomputable def tChain (r r' : R2) (ta tb tc : TE) : TE := fun σ H Q => ta σ H fun x H1 => tb σ H1 fun y H2 => r x y H2 fun z H3 => ∃ k, z = .bl k ∧
  (if k = true then tc σ H3 fun w' H4 => r' y w' H4 Q else Q (.bl false) H3)
set_option linter.all false in private theorem pe_chain {op op' : CmpOp} {r r' : R2} (ho : OpR X (compareOp op) r) (ho' : OpR X (compareOp op') r') (ha : PE X a ta) (hb : PE X b tb) (hc : PE X c tc)
    (hm : lastMarks [op, op'] [b, c] = false := by with_unfolding_all rfl) : PE X (.Compare a [op, op'] [b, c] pos) (tChain r r' ta tb tc) := by
  intro pins s σ H Q I h
  refine Compare_chain (thn (ha pins s σ H _ I h) fun v s1 ⟨x, H1, I1, r1, q1⟩ => chain_link (thn (hb pins s1 σ H1 _ I1 q1) fun u s2 ⟨y, H2, I2, r2, q2⟩ =>
    thn (ho pins s2 σ H2 x y v u _ I2 r1 r2 q2) fun d s3 ⟨z, H3, I3, r3, k, e, q3⟩ => ?_)) hm
  subst e
  cases r3
  refine wpAny_truthy_bool ?_
  cases k with
  | false => exact ite_ff ⟨.bl false, H3, I3, rfl, q3⟩
  | true => exact ite_tt (chain_last (thn (hc pins s3 σ H3 _ I3 q3) fun w' s4 ⟨z', H4, I4, r4, q4⟩ => ho' pins s4 σ H4 y z' u w' Q I4 r2 r4 q4))
set_option linter.all false in private theorem pt_chain {op op' : CmpOp} {r r' : R2} (ho : OpR X (compareOp op) r) (ho' : OpR X (compareOp op') r') (ha : PE X a ta) (hb : PE X b tb) (hc : PE X c tc)
    (hm : lastMarks [op, op'] [b, c] = false := by with_unfolding_all rfl) : PT X (.Compare a [op, op'] [b, c] pos) (tTest (tChain r r' ta tb tc)) := by
  intro pins s σ H Q I h
  refine isTrue_chain (thn (ha pins s σ H _ I h) fun v s1 ⟨x, H1, I1, r1, q1⟩ => test_link (thn (hb pins s1 σ H1 _ I1 q1) fun u s2 ⟨y, H2, I2, r2, q2⟩ =>
    thn (ho pins s2 σ H2 x y v u _ I2 r1 r2 q2) fun d s3 ⟨z, H3, I3, r3, k, e, q3⟩ => ?_)) hm
  subst e
  cases r3
  refine wpAny_truthy_bool ?_
  cases k with
  | false =>
    obtain ⟨k', e', q'⟩ := q3
    cases e'
    exact ite_ff ⟨H3, I3, q'⟩
  | true =>
    refine ite_tt (test_last (thn (hc pins s3 σ H3 _ I3 q3) fun w' s4 ⟨z', H4, I4, r4, q4⟩ => thn (ho' pins s4 σ H4 y z' u w' _ I4 r2 r4 q4) fun d' s5 ⟨z2, H5, I5, r5, k2, e2, q5⟩ => ?_))
    subst e2
    cases r5
    exact wpAny_truthy_bool ⟨H5, I5, q5⟩

/-! ### truth -/
set_option linter.all false in private noncomputable def TruV (K : PySem.W.Frag) (x : V) (H : Hp) (k : Bool) : Prop :=
  match x with
  | .non => k = false
  | .bl b => k = b
  | .int i => k = (i != 0)
  | .str y => y.length ≤ sizeLine ∧ k = ((y.length : Int) != 0)
  | .byt y => y.size ≤ sizeLine ∧ k = ((y.size : Int) != 0)
  | .ref p => (∃ xs, SqL K H p xs ∧ k = !xs.isEmpty) ∨ (∃ xs, SqT K H p xs ∧ k = !xs.isEmpty) ∨ ∃ kvs, H p = some (.dK kvs) ∧ k = !kvs.isEmpty
  | _ => False
set_option linter.all false in private theorem isEmpty_kv {κ : Type} {kvs : List (κ × V)} {vs : List (κ × Value)} (r : KV kvs vs) : (!vs.isEmpty) = !kvs.isEmpty := by
  cases r <;> rfl
set_option linter.all false in private theorem isEmpty_of {xs : List V} {its : List Value} (r : Vals xs its) : (!its.toArray.isEmpty) = !xs.isEmpty := by
  cases r <;> simp
set_option linter.all false in private theorem line63 : (sizeLine : Nat) < 2 ^ 63 := by rw [sizeLine_eq]; decide
set_option linter.all false in private theorem tru_ok : TruR X (fun x H Q => ∃ k, TruV X.K x H k ∧ Q k H) := by
  intro pins s σ H x v Q I rx h
  obtain ⟨k, e, q⟩ := h
  have hl := line63
  have hs : sizeLine = 16777216 := sizeLine_eq
  cases x with
  | non =>
    cases rx
    have e' : k = false := e
    subst e'
    exact truthy_none ⟨H, I, q⟩
  | bl b =>
    cases rx
    have e' : k = b := e
    subst e'
    exact wpAny_truthy_bool ⟨H, I, q⟩
  | int i =>
    obtain ⟨t, rfl⟩ := rx
    have e' : k = (i != 0) := e
    subst e'
    exact PySem.P.truthy_int ⟨H, I, q⟩
  | str y =>
    obtain ⟨t, rfl⟩ := rx
    obtain ⟨hy, e'⟩ : y.length ≤ sizeLine ∧ k = ((y.length : Int) != 0) := e
    subst e'
    exact PySem.P.truthy_str (by omega) ⟨H, I.tok _, q⟩
  | byt y =>
    obtain ⟨t, rfl⟩ := rx
    obtain ⟨hy, e'⟩ : y.size ≤ sizeLine ∧ k = ((y.size : Int) != 0) := e
    subst e'
    exact PySem.W.truthy_bytes (by omega) ⟨H, I.tok _, q⟩
  | ref p =>
    cases rx
    have e' : (∃ xs, SqL X.K H p xs ∧ k = !xs.isEmpty) ∨ (∃ xs, SqT X.K H p xs ∧ k = !xs.isEmpty) ∨ ∃ kvs, H p = some (.dK kvs) ∧ k = !kvs.isEmpty := e
    rcases e' with ⟨xs, hx, e'⟩ | ⟨xs, hx, e'⟩ | ⟨kvs, hx, e'⟩
    · subst e'
      obtain ⟨its, r, pl, hz⟩ := I.list hx
      have hlen := r.length
      exact wpAny_truthy_list pl.isList (by simp only [List.size_toArray]; omega) ⟨H, I.tok _, by rw [isEmpty_of r]; exact q⟩
    · subst e'
      obtain ⟨its, r, pl, hz⟩ := I.tuple hx
      have hlen := r.length
      exact truthy_tuple pl (by simp only [List.size_toArray]; omega) ⟨H, I.tok _, by rw [isEmpty_of r]; exact q⟩
    · subst e'
      obtain ⟨hz, hS, vs, r, m⟩ : kvs.length ≤ sizeLine ∧ (p == sysModules) = false ∧ ∃ vs, KV kvs vs ∧ s.heap.DictOf (mixKind X.prog X.w) p vs := I.hok p _ hx
      have hlen : kvs.length = vs.length := Paired.length r
      exact wpAny_truthy_dict hS m (by omega) ⟨H, I.tok _, by rw [isEmpty_kv r]; exact q⟩
  | _ => exact (show False from e).elim
/-! ### strs and bytes -/
set_option linter.all false in private theorem op_add_str : OpR X (binaryOp .Add) (fun x y H Q => ∃ i j, x = .str i ∧ y = .str j ∧ i.length + j.length ≤ sizeLine ∧ Q (.str (i ++ j)) H) := by
  intro pins s σ H x y v u Q I rx ry h
  obtain ⟨i, j, rfl, rfl, hz, q⟩ := h
  obtain ⟨t, rfl⟩ := rx
  obtain ⟨t', rfl⟩ := ry
  exact add_str (fun t' tk => ⟨.str (i ++ j), H, I.tok _, ⟨_, rfl⟩, q⟩) hz
/-! ### scalar builtins, by CallR -/
set_option linter.all false in private theorem vals1 {x : V} {us : List Value} (r : Vals [x] us) : ∃ u, us = [u] ∧ RelV x u := by
  cases r with
  | cons r1 r2 => cases r2; exact ⟨_, rfl, r1⟩
set_option linter.all false in private theorem vals2 {x y : V} {us : List Value} (r : Vals [x, y] us) : ∃ u w', us = [u, w'] ∧ RelV x u ∧ RelV y w' := by
  cases r with
  | cons r1 r2 =>
    cases r2 with
    | cons r3 r4 => cases r4; exact ⟨_, _, rfl, r1, r3⟩
set_option linter.all false in private theorem call_max2 (hc : X.calm = true) : CallR X (.builtin "max") (fun xs H Q => ∃ i j, xs = [.int i, .int j] ∧ Q (.int (if j > i then j else i)) H) := by
  intro pins s σ H xs us Q I r h
  obtain ⟨i, j, rfl, q⟩ := h
  obtain ⟨u, w', rfl, ⟨t, rfl⟩, ⟨t', rfl⟩⟩ := vals2 r
  refine max_two_ints (I.ok.hd hc) fun h' tk k => ⟨_, H, I.kept k, ?_, q⟩
  by_cases hj : j > i
  · rw [if_pos hj, if_pos hj]; exact ⟨_, rfl⟩
  · rw [if_neg hj, if_neg hj]; exact ⟨_, rfl⟩
set_option linter.all false in private theorem call_int1 : CallR X (.type "int") (fun xs H Q => (∃ i, xs = [.int i] ∧ Q (.int i) H) ∨ ∃ k, xs = [.bl k] ∧ Q (.int (if k then 1 else 0)) H) := by
  intro pins s σ H xs us Q I r h
  rcases h with ⟨i, rfl, q⟩ | ⟨k, rfl, q⟩
  · obtain ⟨u, rfl, t, rfl⟩ := vals1 r
    exact call_int_int ⟨.int i, H, I, ⟨_, rfl⟩, q⟩
  · obtain ⟨u, rfl, r1⟩ := vals1 r
    cases r1
    exact call_int_bool ⟨.int (if k then 1 else 0), H, I.tok _, ⟨_, rfl⟩, q⟩
set_option linter.all false in private theorem call_str_int : CallR X (.type "str") (fun xs H Q => ∃ i, xs = [.int i] ∧ i.natAbs.log2 < 1920 ∧ Q (.str (toString i)) H) := by
  intro pins s σ H xs us Q I r h
  obtain ⟨i, rfl, hz, q⟩ := h
  obtain ⟨u, rfl, t, rfl⟩ := vals1 r
  exact PySem.P.str_of_int hz ⟨.str _, H, I.tok _, ⟨_, rfl⟩, q⟩
set_option linter.all false in private noncomputable def LenV (K : PySem.W.Frag) (x : V) (H : Hp) (n : Nat) : Prop :=
  match x with
  | .str y => y.length ≤ sizeLine ∧ n = y.length
  | .byt y => y.size ≤ sizeLine ∧ n = y.size
  | .ref p => (∃ xs, SqL K H p xs ∧ n = xs.length) ∨ ∃ xs, SqT K H p xs ∧ n = xs.length
  | _ => False
set_option linter.all false in private theorem call_len : CallR X (.builtin "len") (fun xs H Q => ∃ x n, xs = [x] ∧ LenV X.K x H n ∧ Q (.int n) H) := by
  intro pins s σ H xs us Q I r h
  obtain ⟨x, n, rfl, e, q⟩ := h
  obtain ⟨u, rfl, rx⟩ := vals1 r
  have hl := line63
  have hs : sizeLine = 16777216 := sizeLine_eq
  cases x with
  | str y =>
    obtain ⟨t, rfl⟩ := rx
    obtain ⟨hy, e'⟩ : y.length ≤ sizeLine ∧ n = y.length := e
    subst e'
    exact len_str (by omega) ⟨.int _, H, I.tok _, ⟨_, rfl⟩, q⟩
  | byt y =>
    obtain ⟨t, rfl⟩ := rx
    obtain ⟨hy, e'⟩ : y.size ≤ sizeLine ∧ n = y.size := e
    subst e'
    exact PySem.W.len_bytes (by omega) ⟨.int _, H, I.tok _, ⟨_, rfl⟩, q⟩
  | ref p =>
    cases rx
    have e' : (∃ xs, SqL X.K H p xs ∧ n = xs.length) ∨ ∃ xs, SqT X.K H p xs ∧ n = xs.length := e
    rcases e' with ⟨xs, hx, e'⟩ | ⟨xs, hx, e'⟩
    · subst e'
      obtain ⟨its, r', pl, hz⟩ := I.list hx
      have hlen := r'.length
      exact Calls.call_len_list pl.isList (by simp only [List.size_toArray]; omega) ⟨.int xs.length, H, I.tok _, ⟨_, by simp only [List.size_toArray]; rw [hlen]⟩, q⟩
    · subst e'
      obtain ⟨its, r', pl, hz⟩ := I.tuple hx
      have hlen := r'.length
      exact len_tuple pl (by simp only [List.size_toArray]; omega) ⟨.int xs.length, H, I.tok _, ⟨_, by simp only [List.size_toArray]; rw [hlen]⟩, q⟩
  | _ => exact (show False from e).elim
end
end L2

namespace L2
open PySem PySem.Spec PyProof.Rows

/-! ### an instance, its attributes a map -/
set_option linter.all false in private structure ObjM (h : Heap) (x dx C : Addr) (mA : Str → Option Value) : Prop where
  obj : h.get? x = some (PySem.W.instObj C dx)
  ns : h.Ns1 dx mA
  ne : dx ≠ x

set_option linter.all false in private theorem lookIn_ns {h : Heap} {dx : Addr} {mA : Str → Option Value} (n : h.Ns1 dx mA) : ∃ od, h.get? dx = some od ∧ ∀ name, PySem.W.lookIn name od = some (mA name) := by
  obtain ⟨o, es, ep, ho, hd, hk, _, hm⟩ := n
  refine ⟨o, ho, fun name => ?_⟩
  have e := hm name
  unfold nsFind findBy at e
  rw [← Array.find?_toList] at e
  unfold PySem.W.lookIn
  rw [hd]
  dsimp only
  split
  · rename_i y q
    rw [q] at e
    exact congrArg some e
  · rename_i q
    rw [q] at e
    have a : es.toList.any (·.refKey) = false := by
      rw [List.any_eq_false]
      intro y hy
      obtain ⟨z, t, hkey⟩ := hk y (Array.mem_toList_iff.mp hy)
      simp [DictEntry.refKey, hkey]
    have a' : ¬ es.toList.any (·.refKey) = true := by rw [a]; exact Bool.false_ne_true
    rw [if_neg a']
    exact congrArg some e

set_option linter.all false in private theorem ObjM.look {h : Heap} {x dx C : Addr} {mA : Str → Option Value} (I : ObjM h x dx C mA) : ∃ od, PySem.W.InstAt h x (PySem.W.instObj C dx) C (some od) ∧ ∀ name, PySem.W.lookIn name od = some (mA name) :=
  let ⟨od, ho, hl⟩ := lookIn_ns I.ns
  ⟨od, ⟨I.obj, rfl, rfl, ho⟩, hl⟩

section
variable {prog : Program} {w : World} {A : Around} {E : Value → Shared → Prop} {s : Shared} {K : PySem.W.Frag} {x dx C f : Addr} {mA : Str → Option Value} {name : Str} {v : Value}

set_option linter.all false in private theorem get_map {expr : Bool} {Q : Value → Shared → Prop} (X : K.In s.heap) (I : ObjM s.heap x dx C mA) (hg : PySem.W.plainGet K C name = true) (hh : PySem.W.hasDictIn K C = true)
    (ha : PySem.W.findIn K (.ref C) name = some none) (hv : mA name = some v) (hv' : PySem.W.handedIn v = true) (h : Q v { s with toks := s.toks + 1 }) :
    wpAny (model prog w) A (getAttr (.ref x) name expr) Q E s := by
  obtain ⟨od, J, hl⟩ := I.look
  exact PySem.W.get_value X J (PySem.W.plainGet_of hg).1 (PySem.W.findObj_own hh ha rfl (by rw [hl, hv])) hv' h

set_option linter.all false in private theorem get_meth {pl : Sem Bool} {Q : Value × List Value → Shared → Prop} (X : K.In s.heap) (I : ObjM s.heap x dx C mA) (hg : PySem.W.plainGet K C name = true)
    (hf : PySem.W.findIn K (.ref C) name = some (some (.ref f))) (ht : PySem.W.isFn K (.ref f) = true) (hv : mA name = none) (h : Q (.ref f, [.ref x]) s) :
    wpAny (model prog w) A (getMethod (.ref x) name pl) Q E s := by
  obtain ⟨od, J, hl⟩ := I.look
  exact PySem.W.method_fn X J (PySem.W.plainGet_of hg).1 (PySem.W.plainGet_of hg).2 hf (beq_iff_eq.mp ht) (by show (PySem.W.lookIn name od).map (·.isSome) = some false; rw [hl, hv]; rfl) h

set_option linter.all false in private theorem set_map {ns : List Str} {Q : Unit → Shared → Prop} (X : K.In s.heap) (I : ObjM s.heap x dx C mA)
    (hs : PySem.W.findIn K (.ref C) "__setattr__" = some (some (.builtin "object.__setattr__"))) (hp : PySem.W.plainOver K C = true) (ht : PySem.W.takerIn K C name = some none) (hh : PySem.W.hasDictIn K C = true)
    (hw : PySem.Within mA ns) (hsz : ns.length ≤ sizeLine)
    (h : ∀ h', ObjM h' x dx C (fun y => if y = name then some v else mA y) → Heap.SameBut dx s.heap h' → Q () { s with heap := h', toks := s.toks + 2 }) :
    wpAny (model prog w) A (setAttr (.ref x) name v) Q E s := by
  obtain ⟨od, J, hl⟩ := I.look
  refine PySem.W.set_plain X J hs (PySem.W.osa_open (s := { s with toks := s.toks + 1 }) (r := none) X J hp ht fun b => ?_)
  obtain ⟨cd, hc, hd'⟩ := PySem.W.any_some hh
  have hx : s.heap.get? x = some ⟨.ref C, some dx, .plain, #[]⟩ := I.obj
  refine wpAny_bind (wpAny_pure (wpAny_bind (wpAny_bind (wpAny_loadPart hx (wpAny_bind (PySem.W.Looks.here (s := { s with toks := s.toks + 1 }) (PySem.W.looks_clsIn X hc) ?_))))))
  rw [hd']
  refine wpAny_pure (a := some dx) (wpAny_bind (wpAny_pure (wpAny_bind ?_)))
  refine wpAny_nsSet1 (s := { s with toks := s.toks + 1 }) I.ns fun h' hn2 hs2 => ?_
  obtain ⟨oD, esD, epD, hoD, hdD, hcD⟩ := hn2.count (PySem.Within.cons name v hw)
  refine wpAny_bind (wpAny_lookBehind hoD (by rw [hdD]; exact pastItsLine_dict (Nat.le_trans hcD (by rw [List.length_cons]; omega))) ?_)
  exact wpAny_pure (h _ ⟨(hs2.2 _ (Ne.symm I.ne)).trans I.obj, hn2, I.ne⟩ hs2)

set_option linter.all false in private theorem make_map {R : Result → Shared → Prop} {vs : List Value} {kw : List (Str × Value)} (X : K.In s.heap) (hm : PySem.W.makesIn K C = true)
    (hi : PySem.W.findIn K (.ref C) "__init__" = some (some (.ref f))) (hf : PySem.W.typeIn K (.ref f) = some (.type "function"))
    (h : codeAny (model prog w) (A.under (.builtin "type.__call__" ⟨.ref C :: vs, kw⟩)) (.call (.ref f) ⟨.ref (s.heap.objs.size + 1) :: vs, kw⟩) (PySem.W.InitBack (s.heap.objs.size + 1) R)
      { s with heap := (s.heap.push PySem.W.emptyDict).push (PySem.W.instObj C s.heap.objs.size) }) :
    codeAny (model prog w) A (.call (.ref C) ⟨vs, kw⟩) R s := by
  obtain ⟨hh, g, d, t, os⟩ := s
  exact PySem.W.make_core (PySem.W.makes_of X hm) (PySem.W.looks_findIn X hi) (fun self => PySem.W.bind_fn X self hf) (.inl rfl) h
end

/-! ### the attributes as a list of pairs -/
set_option linter.all false in private noncomputable def putF (f : Str) (v : V) : List (Str × V) → List (Str × V)
  | [] => [(f, v)]
  | (g, x) :: r => if g = f then (g, v) :: r else (g, x) :: putF f v r
set_option linter.all false in private theorem lookup_putF (f g : Str) (v : V) : ∀ fs : List (Str × V), (putF f v fs).lookup g = if g = f then some v else fs.lookup g
  | [] => by
    show List.lookup g [(f, v)] = _
    by_cases h : g = f
    · have hb : (g == f) = true := beq_iff_eq.mpr h
      simp only [List.lookup, hb, if_pos h]
    · have hb : (g == f) = false := beq_eq_false_iff_ne.mpr h
      simp only [List.lookup, hb, if_neg h]
  | (k, x) :: r => by
    have ih := lookup_putF f g v r
    rw [show putF f v ((k, x) :: r) = (if k = f then (k, v) :: r else (k, x) :: putF f v r) from rfl]
    by_cases hk : k = f
    · rw [if_pos hk]
      by_cases h : g = k
      · have hb : (g == k) = true := beq_iff_eq.mpr h
        simp only [List.lookup, hb, if_pos (h.trans hk)]
      · have hb : (g == k) = false := beq_eq_false_iff_ne.mpr h
        simp only [List.lookup, hb, if_neg (fun e : g = f => h (e.trans hk.symm))]
    · rw [if_neg hk]
      by_cases h : g = k
      · have hb : (g == k) = true := beq_iff_eq.mpr h
        simp only [List.lookup, hb, if_neg (fun e : g = f => hk (h.symm.trans e))]
      · have hb : (g == k) = false := beq_eq_false_iff_ne.mpr h
        simp only [List.lookup, hb]
        exact ih
set_option linter.all false in private theorem keys_putF (f : Str) (v : V) : ∀ fs : List (Str × V), f ∈ (putF f v fs).map (·.1) ∧ ∀ g, g ∈ fs.map (·.1) → g ∈ (putF f v fs).map (·.1)
  | [] => ⟨by simp [putF], fun g h => by simp at h⟩
  | (k, x) :: r => by
    obtain ⟨i1, i2⟩ := keys_putF f v r
    rw [show putF f v ((k, x) :: r) = (if k = f then (k, v) :: r else (k, x) :: putF f v r) from rfl]
    by_cases hk : k = f
    · rw [if_pos hk]
      subst hk
      exact ⟨by simp, fun g h => by simpa using h⟩
    · rw [if_neg hk]
      refine ⟨?_, fun g h => ?_⟩
      · rw [List.map_cons]
        exact List.mem_cons_of_mem _ i1
      · rw [List.map_cons] at h ⊢
        rcases List.mem_cons.mp h with e | e
        · exact List.mem_cons.mpr (.inl e)
        · exact List.mem_cons_of_mem _ (i2 g e)
set_option linter.all false in private theorem length_putF (f : Str) (v : V) : ∀ fs : List (Str × V), (putF f v fs).length ≤ fs.length + 1
  | [] => by simp [putF]
  | (k, x) :: r => by
    have ih := length_putF f v r
    rw [show putF f v ((k, x) :: r) = (if k = f then (k, v) :: r else (k, x) :: putF f v r) from rfl]
    by_cases hk : k = f
    · rw [if_pos hk, List.length_cons, List.length_cons]; omega
    · rw [if_neg hk, List.length_cons, List.length_cons]; omega

set_option linter.all false in private theorem RelO.some_of {v : V} {o : Option Value} (r : RelO (some v) o) : ∃ u, o = some u ∧ RelV v u := by
  cases o with
  | none => exact (show False from r).elim
  | some u => exact ⟨u, rfl, r⟩
set_option linter.all false in private theorem RelO.none_of {o : Option Value} (r : RelO none o) : o = none := by
  cases o with
  | none => rfl
  | some u => exact (show False from r).elim
set_option linter.all false in private theorem handed_of {v : V} {u : Value} (r : RelV v u) : PySem.W.handedIn u = true := by
  cases v with
  | non => cases (show u = Value.none from r); rfl
  | bl b => cases (show u = Value.bool b from r); rfl
  | int i => obtain ⟨t, e⟩ := (show ∃ t, u = Value.int i t from r); cases e; rfl
  | str x => obtain ⟨t, e⟩ := (show ∃ t, u = Value.str x t from r); cases e; rfl
  | byt b => obtain ⟨t, e⟩ := (show ∃ t, u = Value.bytes b t from r); cases e; rfl
  | flt b => obtain ⟨t, e⟩ := (show ∃ t, u = Value.float b t from r); cases e; rfl
  | ref a => cases (show u = Value.ref a from r); rfl
  | ty n => cases (show u = Value.type n from r); rfl

section
variable {P : Program} {w : World} {H H' : Hp} {h h' : Heap} {a C dx : Addr} {fs fs' : List (Str × V)}
set_option linter.all false in private theorem ins_get (hok : HOk P w H h) (e : H a = some (.ins C dx fs)) : ∃ mA, ObjM h a dx C mA ∧ (∀ f, RelO (fs.lookup f) (mA f)) ∧ PySem.Within mA (fs.map (·.1)) ∧ fs.length ≤ 1000 ∧ H dx = some (.own a) := by
  obtain ⟨d, z, ne, ob, mA, n, r, q⟩ := (show ObjOk P w H h a (.ins C dx fs) from hok a _ e)
  exact ⟨mA, ⟨ob, n, ne⟩, r, q, z, d⟩
end

/-! ### what of the text a class must have -/
set_option linter.all false in private structure Cls (K : PySem.W.Frag) (C : Addr) : Prop where
  pg : PySem.W.plainGet K C Str.empty = true
  hd : PySem.W.hasDictIn K C = true
  po : PySem.W.plainOver K C = true
  sa : PySem.W.findIn K (.ref C) "__setattr__" = some (some (.builtin "object.__setattr__"))
set_option linter.all false in private theorem Cls.get {K : PySem.W.Frag} {C : Addr} (c : Cls K C) (f : Str) : PySem.W.plainGet K C f = true := c.pg
set_option linter.all false in private noncomputable def NoAttr (K : PySem.W.Frag) (C : Addr) (f : Str) : Prop := PySem.W.findIn K (.ref C) f = some none
set_option linter.all false in private theorem NoAttr.taker {K : PySem.W.Frag} {C : Addr} {f : Str} (n : NoAttr K C f) : PySem.W.takerIn K C f = some none := by
  unfold PySem.W.takerIn
  rw [show PySem.W.findIn K (.ref C) f = some none from n]
  rfl
set_option linter.all false in private structure Meth (K : PySem.W.Frag) (C : Addr) (m : Str) (f : Addr) : Prop where
  at_ : PySem.W.findIn K (.ref C) m = some (some (.ref f))
  fn : PySem.W.isFn K (.ref f) = true
  kp : PySem.W.keepIn K (.ref f) = true

section
variable {X : Cx} {pins : List (Addr × Obj)} {σ : St} {H : Hp} {s : Shared} {a C dx : Addr} {fs : List (Str × V)} {f : Str} {v : V} {A : Around} {E : Value → Shared → Prop}

set_option linter.all false in private theorem getattr_ok {b : Bool} {Q : Value → Shared → Prop} (I : Inv X pins σ H s) (e : H a = some (.ins C dx fs)) (c : Cls X.K C) (n : NoAttr X.K C f) (l : fs.lookup f = some v)
    (h : ∀ u s', Inv X pins σ H s' → RelV v u → Q u s') : wpAny (model X.prog X.w) A (getAttr (.ref a) f b) Q E s := by
  obtain ⟨mA, O, r, _, _, _⟩ := ins_get I.hok e
  obtain ⟨u, hu, ru⟩ := RelO.some_of (v := v) (o := mA f) (by rw [← l]; exact r f)
  exact get_map I.kIn O (c.get f) c.hd n hu (handed_of ru) (h u _ (I.tok _) ru)

set_option linter.all false in private theorem getmeth_ok {m : Str} {g : Addr} {pl : Sem Bool} {Q : Value × List Value → Shared → Prop} (I : Inv X pins σ H s) (e : H a = some (.ins C dx fs)) (c : Cls X.K C) (k : Meth X.K C m g) (l : fs.lookup m = none)
    (h : Q (.ref g, [.ref a]) s) : wpAny (model X.prog X.w) A (getMethod (.ref a) m pl) Q E s := by
  obtain ⟨mA, O, r, _, _, _⟩ := ins_get I.hok e
  have hn : mA m = none := RelO.none_of (by rw [← l]; exact r m)
  exact get_meth I.kIn O (c.get m) k.at_ k.fn hn h

set_option linter.all false in private theorem setattr_ok {y : V} {u : Value} {Q : Unit → Shared → Prop} (I : Inv X pins σ H s) (e : H a = some (.ins C dx fs)) (c : Cls X.K C) (n : NoAttr X.K C f) (hl : fs.length < 1000) (ry : RelV y u)
    (h : ∀ s', Inv X pins σ (upd H a (.ins C dx (putF f y fs))) s' → Q () s') : wpAny (model X.prog X.w) A (setAttr (.ref a) f u) Q E s := by
  obtain ⟨mA, O, r, wi, _, ho⟩ := ins_get I.hok e
  have hz : (fs.map (·.1)).length ≤ sizeLine := by rw [List.length_map, sizeLine_eq]; omega
  refine set_map I.kIn O c.sa c.po n.taker c.hd wi hz fun h' O' sb => h _ ?_
  have hd : ∃ o, h'.get? dx = some o := let ⟨o, _, _, e', _⟩ := O'.ns; ⟨o, e'⟩
  refine I.write (x := a) (e := dx) (by rw [e]; exact True.intro) (.inr ho) (fun b q hb z => (sb.2 b hb).trans z) hd ?_
  refine ⟨by rw [upd_ne O.ne]; exact ho, ?_, O.ne, O'.obj, _, O'.ns, fun g => ?_, fun g hg => ?_⟩
  · have := length_putF f y fs; omega
  · show RelO ((putF f y fs).lookup g) (if g = f then some u else mA g)
    rw [lookup_putF]
    by_cases q : g = f
    · rw [if_pos q, if_pos q]; exact ry
    · rw [if_neg q, if_neg q]; exact r g
  · by_cases q : g = f
    · rw [q]; exact (keys_putF f y fs).1
    · refine (keys_putF f y fs).2 g (wi g fun z => hg ?_)
      show (if g = f then some u else mA g) = none
      rw [if_neg q]; exact z

set_option linter.all false in private theorem Inv.made (I : Inv X pins σ H s) : Inv X pins σ (upd (upd H s.heap.objs.size (.own (s.heap.objs.size + 1))) (s.heap.objs.size + 1) (.ins C s.heap.objs.size []))
    { s with heap := (s.heap.push PySem.W.emptyDict).push (PySem.W.instObj C s.heap.objs.size) } := by
  have e1 : (s.heap.push PySem.W.emptyDict).get? s.heap.objs.size = some PySem.W.emptyDict := Heap.get?_push_size s.heap rfl
  have e2 : ((s.heap.push PySem.W.emptyDict).push (PySem.W.instObj C s.heap.objs.size)).get? (s.heap.objs.size + 1) = some (PySem.W.instObj C s.heap.objs.size) := by
    have := Heap.get?_push_size (s.heap.push PySem.W.emptyDict) (o := PySem.W.instObj C s.heap.objs.size) rfl
    rwa [Heap.size_push] at this
  have e3 : (s.heap.push PySem.W.emptyDict).Ns s.heap.objs.size (fun _ => none) := ⟨PySem.W.emptyDict, #[], _, e1, rfl, (fun e he => absurd he (by simp)), fun _ => rfl⟩
  have I1 := I.laid (a := s.heap.objs.size) (o := .own (s.heap.objs.size + 1)) (h' := s.heap.push PySem.W.emptyDict) (t' := s.toks) (fun b u q => Heap.get?_push_of_some _ q) (Nat.le_refl _) ⟨_, e1⟩
  refine I1.laid (a := s.heap.objs.size + 1) (o := .ins C s.heap.objs.size []) (t' := s.toks) (fun b u q => Heap.get?_push_of_some _ q) (Nat.le_of_eq (Heap.size_push _ _)) ?_
  have ne : s.heap.objs.size ≠ s.heap.objs.size + 1 := Nat.ne_of_lt (Nat.lt_succ_self _)
  refine ⟨by rw [upd_ne ne, upd_same], Nat.zero_le _, ne, e2, fun _ => none, (Heap.Ns1.of_empty e3).at fun o q => Heap.get?_push_of_some _ q, fun _ => True.intro, fun y hy => absurd rfl hy⟩

set_option linter.all false in private theorem attr_of {prog : Program} {w : World} {env : Env} {e : Expr} {f : Str} {pos : Pos} {s : Shared} {Q : Value → Shared → Prop} (hb : attributeBase e f env (eval e env) = eval e env)
    (h : wpAny (model prog w) A (eval e env) (fun o s₁ => wpAny (model prog w) A (getAttr o f true) Q E s₁) E s) : wpAny (model prog w) A (eval (.Attribute e f pos) env) Q E s :=
  Attribute_any_ h (by rw [arm_eval_Attribute, hb])
end

/-! ### readings and rules -/
set_option linter.all false in private noncomputable def InOp (X : Cx) (op : Operator) (rd : V → V → Hp → VK → Prop) : Prop :=
  ∀ (pins : List (Addr × Obj)) (s : Shared) (σ : St) (H : Hp) (x y : V) (u v : Value) (Q : VK), Inv X pins σ H s → RelV x u → RelV y v → rd x y H Q → wpAny (model X.prog X.w) X.A (inplaceOp op u v) (EP X pins σ Q) X.xe s
section
variable {X : Cx} {o e value : Expr} {f : Str} {pos pos' tpos : Pos} {ta tv : TE}
set_option linter.all false in private noncomputable def rAdd : V → V → Hp → VK → Prop := fun x y H Q => ∃ i j, x = .int i ∧ y = .int j ∧ Q (.int (i + j)) H
set_option linter.all false in private theorem in_add : InOp X .Add rAdd := by
  rintro pins s σ H x y u v Q I rx ry ⟨i, j, rfl, rfl, q⟩
  obtain ⟨t, rfl⟩ := (show ∃ t, u = Value.int i t from rx)
  obtain ⟨t', rfl⟩ := (show ∃ t', v = Value.int j t' from ry)
  exact PyProof.Rows.iadd_int ⟨.int (i + j), H, I.tok _, ⟨_, rfl⟩, q⟩
end

/-! ### isinstance -/
section
variable {X : Cx} {pins : List (Addr × Obj)} {σ : St} {H : Hp} {s : Shared} {A : Around} {E : Value → Shared → Prop} {Q : Value → Shared → Prop} {c : Value} {b : Bool}
end
end L2

namespace L2
open PySem PySem.Spec PyProof.Rows

/-! ### room -/
set_option linter.all false in private structure Room (k : Nat) (A : Around) : Prop where
  hd : A.handled = none
  dp : A.depth + 3 * k + 5 < recursionLimit
  un : A.units + 16 * k + 200 < cLine
set_option linter.all false in private theorem Room.mono {j k : Nat} {A : Around} (r : Room k A) (h : j ≤ k) : Room j A := ⟨r.hd, by have := r.dp; omega, by have := r.un; omega⟩
set_option linter.all false in private theorem Room.deeper {k : Nat} {A : Around} (r : Room (k + 1) A) (env : Env) : Room k (A.deeper env) :=
  ⟨r.hd, by have := r.dp; show A.depth + 1 + 3 * k + 5 < _; omega, by have := r.un; show A.units + 3 + 16 * k + 200 < _; omega⟩
set_option linter.all false in private theorem make_depth {A : Around} {C : Addr} {us : List Value} {kw : List (Str × Value)} : (A.under (.builtin "type.__call__" ⟨.ref C :: us, kw⟩)).depth = A.depth + 1 := by
  first | rfl | simp [Around.under, Code.weight, Code.isCreation, Code.isGuard, Code.isCaller, Code.frames, Code.isFrame, guardIds]
set_option linter.all false in private theorem make_units {A : Around} {C : Addr} {us : List Value} {kw : List (Str × Value)} : (A.under (.builtin "type.__call__" ⟨.ref C :: us, kw⟩)).units = A.units + 1 := by
  first | rfl | simp [Around.under, Code.cUnits, Code.frames, Code.isFrame]
set_option linter.all false in private theorem Room.make {k : Nat} {A : Around} (r : Room (k + 1) A) (C : Addr) (us : List Value) (kw : List (Str × Value)) : Room k (A.under (.builtin "type.__call__" ⟨.ref C :: us, kw⟩)) :=
  ⟨r.hd, by have := r.dp; rw [make_depth]; omega, by have := r.un; rw [make_units]; omega⟩
set_option linter.all false in private theorem Room.depth {k : Nat} {A : Around} (r : Room k A) : A.depth < recursionLimit := by have := r.dp; omega
set_option linter.all false in private theorem Room.units {k : Nat} {A : Around} (r : Room k A) : A.units + 64 < cLine := by have := r.un; omega
/-! ### argument lists and displays -/
set_option linter.all false in private noncomputable def tNil : TA := fun _ H Q => Q [] H
set_option linter.all false in private noncomputable def tCons (ta : TE) (tr : TA) : TA := fun σ H Q => ta σ H fun x H1 => tr σ H1 fun xs H2 => Q (x :: xs) H2
section
variable {X : Cx} {e : Expr} {es : List Expr} {te : TE} {t : TA} {pos : Pos}
set_option linter.all false in private theorem pa_nil : PA X [] tNil := fun _ _ _ _ H Q I h => Calls.spliced_nil ⟨[], H, I, .nil, h⟩
set_option linter.all false in private theorem pa_cons (ha : PE X e te) (hr : PA X es t) (hs : starEach (e :: es) X.env = (false, eval e X.env) :: starEach es X.env := by rfl) : PA X (e :: es) (tCons te t) := by
  intro pos pins s σ H Q I h
  rw [hs]
  show wpAny _ _ (spliced ((false, eval e X.env) :: backTo pos (starEach es X.env))) _ _ s
  refine Calls.spliced_cons (thn (ha pins s σ H _ I h) fun u s1 ⟨x, H1, I1, r1, q1⟩ => ?_)
  exact thn (hr pos pins s1 σ H1 _ I1 q1) fun us s2 ⟨xs, H2, I2, r2, q2⟩ => ⟨x :: xs, H2, I2, .cons r1 r2, q2⟩

set_option linter.all false in private noncomputable def tTup (t : TA) : TE := fun σ H Q => t σ H fun xs H1 => xs.length ≤ sizeLine ∧ ∀ p, H1 p = none → Q (.ref p) (upd H1 p (.tup xs))
set_option linter.all false in private noncomputable def tLst (t : TA) : TE := fun σ H Q => t σ H fun xs H1 => xs.length ≤ sizeLine ∧ ∀ p, H1 p = none → Q (.ref p) (upd H1 p (.lst xs))
set_option linter.all false in private theorem pe_tup {x1} (h : PA X es t) : PE X (.Tuple es x1 pos) (tTup t) := by
  intro pins s σ H Q I hq
  refine wpAny_Tuple_spliced (thn (h pos pins s σ H _ I hq) fun us s1 ⟨xs, H1, I1, r, z, q⟩ => ⟨by rw [← r.length]; exact z, ?_⟩)
  have hf : H1 s1.heap.objs.size = none := I1.hok.fresh (Nat.le_refl _)
  refine ⟨.ref s1.heap.objs.size, upd H1 s1.heap.objs.size (.tup xs), I1.laid (t' := s1.toks) (fun b u e => Heap.get?_push_of_some _ e) (Nat.le_refl _) ?_, rfl, q _ hf⟩
  exact ⟨z, us, r, ⟨_, Heap.get?_push_size _ rfl, rfl, _, rfl⟩⟩
set_option linter.all false in private theorem pe_lst (h : PA X es t) : PE X (.List es pos) (tLst t) := by
  intro pins s σ H Q I hq
  refine wpAny_List_spliced (thn (h pos pins s σ H _ I hq) fun us s1 ⟨xs, H1, I1, r, z, q⟩ => ⟨by rw [← r.length]; exact z, ?_⟩)
  have hf : H1 s1.heap.objs.size = none := I1.hok.fresh (Nat.le_refl _)
  refine ⟨.ref s1.heap.objs.size, upd H1 s1.heap.objs.size (.lst xs), I1.laid (t' := s1.toks) (fun b u e => Heap.get?_push_of_some _ e) (Nat.le_refl _) ?_, rfl, q _ hf⟩
  exact ⟨z, us, 0, r, Heap.get?_push_size _ rfl⟩
end

/-! ### what a def promises -/
set_option linter.all false in private noncomputable abbrev Sp := List V → Hp → VK → XK → Prop
set_option linter.all false in private noncomputable abbrev CXT := List Env → Hp → Shared → XK → Value → Shared → Prop

set_option linter.all false in private structure Env0 (P : Program) (w : World) (K : PySem.W.Frag) (mg : Str → Option Value) (base : Heap) (A : Around) (outer : List Env) (s : Shared) (H : Hp) : Prop where
  frames : A.frames = some outer
  mod : Mod K mg base
  bs : ∀ b o, base.get? b = some o → s.heap.get? b = some o ∧ H b = none
  bsz : base.objs.size ≤ s.heap.objs.size
  funs : s.heap.FunFrames base outer
  frf : ∀ b ∈ frs outer, H b = none
  hok : HOk P w H s.heap
  bare : AllBare s.gens
set_option linter.all false in private noncomputable def CE (outer : List Env) (P : Program) (w : World) (H : Hp) (s : Shared) (Q : VK) (u : Value) (s' : Shared) : Prop :=
  ∃ v H', s'.os = s.os ∧ AllBare s'.gens ∧ Un (frs outer) [] H H' s.heap s'.heap ∧ HOk P w H' s'.heap ∧ RelV v u ∧ Q v H'
set_option linter.all false in private noncomputable def CR (CX : CXT) (outer : List Env) (P : Program) (w : World) (H : Hp) (s : Shared) (Q : VK) (E : XK) (r : Result) (s' : Shared) : Prop :=
  match r with
  | .ok (.ret u) => CE outer P w H s Q u s'
  | .ok _ => False
  | .error e => CX outer H s E e s'
set_option linter.all false in private structure FnOk (P : Program) (w : World) (K : PySem.W.Frag) (mg : Str → Option Value) (base : Heap) (CX : CXT) (k : Nat) (f : Addr) (fd : FuncData) (ps : List Str) (sp : Sp) : Prop where
  len : ∀ vs H Q E, sp vs H Q E → vs.length = ps.length
  run : ∀ (A : Around) (outer : List Env) (s : Shared) (H : Hp) (args : Args) (us : List Value) (vs : List V) (Q : VK) (E : XK), Room k A → Env0 P w K mg base A outer s H → BindsTo s fd args (ps.zip us) → Vals vs us → sp vs H Q E →
    codeAny (model P w) A (.call (.ref f) args) (CR CX outer P w H s Q E) s
set_option linter.all false in private theorem Env0.make {P : Program} {w : World} {K : PySem.W.Frag} {mg : Str → Option Value} {base : Heap} {A : Around} {outer : List Env} {s : Shared} {H : Hp} (e : Env0 P w K mg base A outer s H) (C : Addr) (us : List Value) (kw : List (Str × Value)) :
    Env0 P w K mg base (A.under (.builtin "type.__call__" ⟨.ref C :: us, kw⟩)) outer s H := ⟨by first | exact e.frames | (simpa [Around.under, Code.envs, Code.isFrame, pushEnvs] using e.frames), e.mod, e.bs, e.bsz, e.funs, e.frf, e.hok, e.bare⟩
section
variable {X : Cx} {pins : List (Addr × Obj)} {σ : St} {H : Hp} {s s' : Shared}
set_option linter.all false in private theorem Inv.env0 (I : Inv X pins σ H s) : Env0 X.prog X.w X.K X.mg X.base X.A X.stack s H :=
  ⟨I.ok.frames, I.ok.mod, I.bs, Nat.le_trans I.ok.bsz I.sz, I.stack, I.stkFree, I.hok, I.bare⟩
set_option linter.all false in private theorem Inv.after {Q : VK} {u : Value} (I : Inv X pins σ H s) (h : CE X.stack X.prog X.w H s Q u s') : EP X pins σ Q u s' := by
  obtain ⟨v, H', os, bare, un, hok, r, q⟩ := h
  obtain ⟨hh, g, d, t, os'⟩ := s'
  obtain rfl : os' = s.os := os
  exact ⟨v, H', I.call (h' := hh) (g' := g) (d' := d) (t' := t) (ch := []) un hok bare (fun b z => absurd z (by simp)), r, q⟩
end

/-! ### calls -/
set_option linter.all false in private noncomputable def tCall (sp : Sp) (dvs : List V) (E : XK) (t : TA) : TE := fun σ H Q => t σ H fun vs H1 => sp (vs ++ dvs) H1 Q E
set_option linter.all false in private noncomputable def tMeth (C : Addr) (m : Str) (sp : Sp) (dvs : List V) (E : XK) (ta : TE) (t : TA) : TE := fun σ H Q => ta σ H fun x H1 => ∃ a dx fs, x = .ref a ∧ H1 a = some (.ins C dx fs) ∧ fs.lookup m = none ∧
  t σ H1 fun vs H2 => sp (x :: (vs ++ dvs)) H2 Q E
set_option linter.all false in private noncomputable def tMake (C : Addr) (sp : Sp) (dvs : List V) (E : XK) (t : TA) : TE := fun σ H Q => t σ H fun vs H1 => ∀ x dx, H1 x = none → H1 dx = none → dx ≠ x →
  sp (.ref x :: (vs ++ dvs)) (upd (upd H1 dx (.own x)) x (.ins C dx [])) (fun v H2 => v = .non ∧ Q (.ref x) H2) E

set_option linter.all false in private noncomputable def Binds (K : PySem.W.Frag) (fd : FuncData) (ps : List Str) (ds : List Value) : Prop :=
  ∀ (s : Shared) (us : List Value), K.In s.heap → (us ++ ds).length = ps.length → BindsTo s fd ⟨us, []⟩ (ps.zip (us ++ ds))
set_option linter.all false in private theorem Binds.all {K : PySem.W.Frag} {fd : FuncData} {ps : List Str} (h : ∀ us : List Value, us.length = ps.length → bindArgs fd ⟨us, []⟩ = pure (ps.zip us)) : Binds K fd ps [] := fun s us _ hl => by
  rw [List.append_nil] at hl ⊢
  exact .of_eq (h us hl)

set_option linter.all false in private noncomputable def Passes (CX : CXT) (X : Cx) (E : XK) : Prop := ∀ (pins : List (Addr × Obj)) (σ : St) (H : Hp) (s : Shared) (e : Value) (s' : Shared), Inv X pins σ H s → CX X.stack H s E e s' → X.xe e s'

section
variable {X : Cx} {CX : CXT} {k : Nat} {f C : Addr} {fd : FuncData} {ps : List Str} {sp : Sp} {dvs : List V} {ds : List Value} {E : XK} {x m : Str} {p pos apos : Pos} {e o : Expr} {es : List Expr} {ta : TE} {t : TA}

set_option linter.all false in private theorem run_fn {pins : List (Addr × Obj)} {σ : St} {H : Hp} {s : Shared} {Q : VK} {us : List Value} {vs : List V} (F : FnOk X.prog X.w X.K X.mg X.base CX k f fd ps sp) (hr : Room k X.A) (hb : Binds X.K fd ps ds) (hd : Vals dvs ds) (hx : Passes CX X E)
    (I : Inv X pins σ H s) (r : Vals vs us) (h : sp (vs ++ dvs) H Q E) : wpAny (model X.prog X.w) X.A (call (.ref f) us) (EP X pins σ Q) X.xe s := by
  have r2 : Vals (vs ++ dvs) (us ++ ds) := r.append hd
  have hl : (us ++ ds).length = ps.length := by rw [← r2.length]; exact F.len _ _ _ _ h
  refine wpAny_call (codeAny_mono (F.run X.A X.stack s H ⟨us, []⟩ (us ++ ds) (vs ++ dvs) Q E hr I.env0 (hb s us I.kIn hl) r2 h) fun r s' hq => ?_)
  cases r with
  | error e => exact hx pins σ H s e s' I hq
  | ok fl =>
    cases fl with
    | ret u => exact I.after hq
    | next => exact False.elim hq
    | brk => exact False.elim hq
    | cont => exact False.elim hq

set_option linter.all false in private theorem pe_call (F : FnOk X.prog X.w X.K X.mg X.base CX k f fd ps sp) (hr : Room k X.A) (hg : Gl X x) (hm : X.mg x = some (.ref f)) (hk : PySem.W.keepIn X.K (.ref f) = true) (hb : Binds X.K fd ps ds) (hd : Vals dvs ds) (hx : Passes CX X E)
    (ha : PA X (e :: es) t) (hdb : (x == ("__debug__" : Str)) = false := by decide) (he : starEach (e :: es) X.env = (false, eval e X.env) :: starEach es X.env := by rfl) (hpl : (backTo pos (starEach es X.env)).any (·.1) = false := by rfl) :
    PE X (.Call (.Name x p) (e :: es) [] pos) (tCall sp dvs E t) := by
  intro pins s σ H Q I h
  refine wpAny_Call_Name_kw (ld_glob I hg hm ?_ hdb)
  refine PySem.W.callWith_K (h₀ := X.base) I.ok.mod.kin hk (thn (ha pos pins s σ H _ I h) fun us s1 ⟨vs, H1, I1, r, q⟩ => ⟨I1.kIn, ?_⟩) he hpl
  exact run_fn F hr hb hd hx I1 r q
set_option linter.all false in private theorem pe_call0 (F : FnOk X.prog X.w X.K X.mg X.base CX k f fd ps sp) (hr : Room k X.A) (hg : Gl X x) (hm : X.mg x = some (.ref f)) (hk : PySem.W.keepIn X.K (.ref f) = true) (hb : Binds X.K fd ps ds) (hd : Vals dvs ds) (hx : Passes CX X E)
    (hdb : (x == ("__debug__" : Str)) = false := by decide) : PE X (.Call (.Name x p) [] [] pos) (tCall sp dvs E tNil) := by
  intro pins s σ H Q I h
  refine wpAny_Call_Name_kw (ld_glob I hg hm ?_ hdb)
  exact PySem.W.callWith_K0 I.kIn hk (run_fn (us := []) F hr hb hd hx I .nil h)

set_option linter.all false in private theorem pe_meth {pl : Sem Bool} (he : PE X o ta) (c : Cls X.K C) (hm : Meth X.K C m f) (F : FnOk X.prog X.w X.K X.mg X.base CX k f fd ps sp) (hr : Room k X.A) (hb : Binds X.K fd ps ds) (hd : Vals dvs ds) (hx : Passes CX X E) (ha : PA X (e :: es) t)
    (hst : starEach (e :: es) X.env = (false, eval e X.env) :: starEach es X.env := by rfl) (hpl : (backTo pos (starEach es X.env)).any (·.1) = false := by rfl)
    (ht : eval (.Call (.Attribute o m apos) (e :: es) [] pos) X.env = (do
      let ov ← eval o X.env
      standAt apos.atName
      let (f, first) ← holding [ov] (getMethod ov m pl)
      callWith pos f first (backTo pos (starEach (e :: es) X.env)) (backToKw pos (keywordEach [] X.env))) := by rfl) :
    PE X (.Call (.Attribute o m apos) (e :: es) [] pos) (tMeth C m sp dvs E ta t) := by
  intro pins s σ H Q I h
  refine PySem.W.methodCall_KW (pl := pl) (thn (he pins s σ H _ I h) fun u s1 ⟨x, H1, I1, rx, a, dx, fs, ex, ea, l, q⟩ => ?_) ht
  subst ex
  obtain rfl : u = Value.ref a := rx
  refine getmeth_ok I1 ea c hm l ?_
  refine PySem.W.callWith_K (first := [.ref a]) (h₀ := X.base) I.ok.mod.kin hm.kp (thn (ha pos pins s1 σ H1 _ I1 q) fun us s2 ⟨vs, H2, I2, r, q2⟩ => ⟨I2.kIn, ?_⟩) hst hpl
  exact run_fn (us := .ref a :: us) (vs := .ref a :: vs) F hr hb hd hx I2 (.cons rfl r) q2
set_option linter.all false in private theorem pe_meth0 {pl : Sem Bool} (he : PE X o ta) (c : Cls X.K C) (hm : Meth X.K C m f) (F : FnOk X.prog X.w X.K X.mg X.base CX k f fd ps sp) (hr : Room k X.A) (hb : Binds X.K fd ps ds) (hd : Vals dvs ds) (hx : Passes CX X E)
    (ht : eval (.Call (.Attribute o m apos) [] [] pos) X.env = (do
      let ov ← eval o X.env
      standAt apos.atName
      let (f, first) ← holding [ov] (getMethod ov m pl)
      callWith pos f first (backTo pos (starEach [] X.env)) (backToKw pos (keywordEach [] X.env))) := by rfl) :
    PE X (.Call (.Attribute o m apos) [] [] pos) (tMeth C m sp dvs E ta tNil) := by
  intro pins s σ H Q I h
  refine PySem.W.methodCall_KW (pl := pl) (thn (he pins s σ H _ I h) fun u s1 ⟨x, H1, I1, rx, a, dx, fs, ex, ea, l, q⟩ => ?_) ht
  subst ex
  obtain rfl : u = Value.ref a := rx
  refine getmeth_ok I1 ea c hm l ?_
  exact PySem.W.callWith_K0 (first := [.ref a]) I1.kIn hm.kp (run_fn (us := [.ref a]) (vs := [.ref a]) F hr hb hd hx I1 (.cons rfl .nil) q)

set_option linter.all false in private structure Mk (K : PySem.W.Frag) (C f : Addr) : Prop where
  makes : PySem.W.makesIn K C = true
  init : PySem.W.findIn K (.ref C) "__init__" = some (some (.ref f))
  fn : PySem.W.isFn K (.ref f) = true
  kp : PySem.W.keepIn K (.ref C) = true

set_option linter.all false in private theorem run_make {pins : List (Addr × Obj)} {σ : St} {H : Hp} {s : Shared} {Q : VK} {us : List Value} {vs : List V} (M : Mk X.K C f) (F : FnOk X.prog X.w X.K X.mg X.base CX k f fd ps sp) (hr : Room (k + 1) X.A) (hb : Binds X.K fd ps ds) (hd : Vals dvs ds)
    (hx : Passes CX X E) (I : Inv X pins σ H s) (r : Vals vs us)
    (h : ∀ x dx, H x = none → H dx = none → dx ≠ x → sp (.ref x :: (vs ++ dvs)) (upd (upd H dx (.own x)) x (.ins C dx [])) (fun v H2 => v = .non ∧ Q (.ref x) H2) E) :
    wpAny (model X.prog X.w) X.A (call (.ref C) us) (EP X pins σ Q) X.xe s := by
  have hq := h (s.heap.objs.size + 1) s.heap.objs.size (I.hok.fresh (Nat.le_succ _)) (I.hok.fresh (Nat.le_refl _)) (Nat.ne_of_lt (Nat.lt_succ_self _))
  have I2 := Inv.made (C := C) I
  have r2 : Vals (V.ref (s.heap.objs.size + 1) :: (vs ++ dvs)) (Value.ref (s.heap.objs.size + 1) :: (us ++ ds)) := .cons rfl (r.append hd)
  have hl : (Value.ref (s.heap.objs.size + 1) :: us ++ ds).length = ps.length := by
    have e := r2.length
    rw [F.len _ _ _ _ hq] at e
    exact e.symm
  refine wpAny_call (make_map (f := f) I.kIn M.makes M.init (beq_iff_eq.mp M.fn) (codeAny_mono (F.run _ X.stack _ _ ⟨Value.ref (s.heap.objs.size + 1) :: us, []⟩ (Value.ref (s.heap.objs.size + 1) :: (us ++ ds)) _ _ E (hr.make C us [])
    (I2.env0.make C us []) (hb _ (Value.ref (s.heap.objs.size + 1) :: us) I2.kIn hl) r2 hq) fun r s' hq' => ?_))
  cases r with
  | error e => exact hx pins σ _ _ e s' I2 hq'
  | ok fl =>
    cases fl with
    | ret u =>
      obtain ⟨v, H', I3, rv, ev, q3⟩ := I2.after hq'
      subst ev
      exact ⟨rv, ⟨V.ref (s.heap.objs.size + 1), H', I3, rfl, q3⟩⟩
    | next => exact False.elim hq'
    | brk => exact False.elim hq'
    | cont => exact False.elim hq'
set_option linter.all false in private theorem pe_make (M : Mk X.K C f) (F : FnOk X.prog X.w X.K X.mg X.base CX k f fd ps sp) (hr : Room (k + 1) X.A) (hg : Gl X x) (hm : X.mg x = some (.ref C)) (hb : Binds X.K fd ps ds) (hd : Vals dvs ds) (hx : Passes CX X E)
    (ha : PA X (e :: es) t) (hdb : (x == ("__debug__" : Str)) = false := by decide) (he : starEach (e :: es) X.env = (false, eval e X.env) :: starEach es X.env := by rfl) (hpl : (backTo pos (starEach es X.env)).any (·.1) = false := by rfl) :
    PE X (.Call (.Name x p) (e :: es) [] pos) (tMake C sp dvs E t) := by
  intro pins s σ H Q I h
  refine wpAny_Call_Name_kw (ld_glob I hg hm ?_ hdb)
  refine PySem.W.callWith_K (h₀ := X.base) I.ok.mod.kin M.kp (thn (ha pos pins s σ H _ I h) fun us s1 ⟨vs, H1, I1, r, q⟩ => ⟨I1.kIn, ?_⟩) he hpl
  exact run_make M F hr hb hd hx I1 r q
end

/-! ### keywords -/
section
variable {X : Cx} {CX : CXT} {k : Nat} {f C : Addr} {fd : FuncData} {ps ks : List Str} {sp : Sp} {E : XK} {x m : Str} {p pos apos kpos : Pos} {e o : Expr} {es : List Expr} {kws : List Keyword} {te ta : TE} {t tk : TA} {nm : Option Str}
variable {g : List Value → List Value → List Value} {gV : List V → List V → List V}
end

/-! ### a def's body keeps its promise -/
set_option linter.all false in private structure FnScope (N P : List Str) (sc : Scope) : Prop where
  kind : sc.kind = .function
  co : sc.isCoroutine = false
  gen : sc.isGenerator = false
  nd : N.Nodup
  pre : N.take P.length = P
  par : ∀ x ∈ P, sc.names.lookup x = some .local ∨ sc.names.lookup x = some .cell
  nofree : ∀ y ∈ sc.names, y.2 ≠ .free

set_option linter.all false in private theorem bindL_out {kindOf : Str → Option NameKind} {x : Str} : ∀ {binds : List (Str × Value)} {m : Str → Option Value}, (∀ v, (x, v) ∉ binds) → bindL kindOf binds m x = m x
  | [], _, _ => rfl
  | (n, v) :: r, m, h => by
    unfold bindL
    rw [bindL_out fun w hw => h w (List.mem_cons_of_mem _ hw)]
    split
    · have : x ≠ n := by rintro rfl; exact h v List.mem_cons_self
      simp [this]
    · rfl
set_option linter.all false in private theorem bindC_out {kindOf : Str → Option NameKind} {x : Str} : ∀ {binds : List (Str × Value)} {m : Str → Option Value}, (∀ v, (x, v) ∉ binds) → bindC kindOf binds m x = m x
  | [], _, _ => rfl
  | (n, v) :: r, m, h => by
    unfold bindC
    rw [bindC_out fun w hw => h w (List.mem_cons_of_mem _ hw)]
    split
    · rfl
    · have : x ≠ n := by rintro rfl; exact h v List.mem_cons_self
      simp [this]
set_option linter.all false in private theorem bindL_get {kindOf : Str → Option NameKind} {x : Str} {v : Value} : ∀ {P : List Str} {vs : List Value} {i : Nat} {m : Str → Option Value}, P.Nodup → P[i]? = some x → vs[i]? = some v → kindOf x = some .local →
    bindL kindOf (P.zip vs) m x = some v
  | [], _, _, _, _, h, _, _ => by simp at h
  | _ :: _, [], _, _, _, _, h, _ => by simp at h
  | p :: P, w :: vs, 0, m, nd, h1, h2, hk => by
    simp at h1 h2; subst h1; subst h2
    show bindL kindOf ((p, w) :: P.zip vs) m p = _
    unfold bindL
    rw [bindL_out fun v hv => (List.nodup_cons.mp nd).1 (List.of_mem_zip hv).1, if_pos hk]
    simp
  | p :: P, w :: vs, i + 1, m, nd, h1, h2, hk => by
    show bindL kindOf ((p, w) :: P.zip vs) m x = _
    unfold bindL
    exact bindL_get (i := i) (List.nodup_cons.mp nd).2 (by simpa using h1) (by simpa using h2) hk
set_option linter.all false in private theorem bindC_get {kindOf : Str → Option NameKind} {x : Str} {v : Value} : ∀ {P : List Str} {vs : List Value} {i : Nat} {m : Str → Option Value}, P.Nodup → P[i]? = some x → vs[i]? = some v → kindOf x ≠ some .local →
    bindC kindOf (P.zip vs) m x = some v
  | [], _, _, _, _, h, _, _ => by simp at h
  | _ :: _, [], _, _, _, _, h, _ => by simp at h
  | p :: P, w :: vs, 0, m, nd, h1, h2, hk => by
    simp at h1 h2; subst h1; subst h2
    show bindC kindOf ((p, w) :: P.zip vs) m p = _
    unfold bindC
    rw [bindC_out fun v hv => (List.nodup_cons.mp nd).1 (List.of_mem_zip hv).1, if_neg hk]
    simp
  | p :: P, w :: vs, i + 1, m, nd, h1, h2, hk => by
    show bindC kindOf ((p, w) :: P.zip vs) m x = _
    unfold bindC
    exact bindC_get (i := i) (List.nodup_cons.mp nd).2 (by simpa using h1) (by simpa using h2) hk

set_option linter.all false in private noncomputable def start (N : List Str) (vs : List V) : St := vs.map some ++ List.replicate (N.length - vs.length) none

set_option linter.all false in private noncomputable def cxOf (CX : CXT) (P : Program) (w : World) (K : PySem.W.Frag) (mg : Str → Option Value) (base : Heap) (N : List Str) (qual : Str) (scope : Scope) (f : Addr) (cd : Value) (A : Around) (outer : List Env) (s : Shared) (H : Hp) (E : XK) : Cx where
  prog := P
  w := w
  K := K
  mg := mg
  base := base
  A := A.deeper (envOfC qual scope s.heap.objs.size f cd)
  N := N
  s₀ := s
  H₀ := H
  env := envOfC qual scope s.heap.objs.size f cd
  outer := outer
  stack := envOfC qual scope s.heap.objs.size f cd :: outer
  ex := []
  calm := true
  fn := fun _ => true
  pn := []
  xe := fun e s' => wpAny (model P w) (A.deeper (envOfC qual scope s.heap.objs.size f cd)) (leaving (envOfC qual scope s.heap.objs.size f cd) e) (fun _ s'' => CX outer H s E e s'') (fun e' s'' => CX outer H s E e' s'') s'

set_option linter.all false in private theorem cell_has {sc : Scope} {n : Nat} {x : Str} (h : sc.names.lookup x = some .cell) : ∃ c, (cellsFrom n sc.names []).lookup x = some c := by
  have q := PySem.W.cellsFrom_some sc.names n [] (.inl h)
  exact Option.isSome_iff_exists.mp q

set_option linter.all false in private theorem inv_start {CX : CXT} {P : Program} {w : World} {K : PySem.W.Frag} {mg : Str → Option Value} {base : Heap} {N ps : List Str} {qual : Str} {scope : Scope} {f : Addr} {cd : Value} {A : Around} {outer : List Env} {s s1 : Shared} {H : Hp} {E : XK} {us : List Value} {vs : List V}
    (S : FnScope N ps scope) (hd : A.handled = none) (e0 : Env0 P w K mg base A outer s H) (hl : vs.length = ps.length) (r : Vals vs us)
    (x : InCallC s s.heap.objs.size (bindL (envOfC qual scope s.heap.objs.size f cd).kindOf (ps.zip us) fun _ => none) (cellsFrom (s.heap.objs.size + 1) scope.names []) (bindC (envOfC qual scope s.heap.objs.size f cd).kindOf (ps.zip us) fun _ => none) s1) :
    Inv (cxOf CX P w K mg base N qual scope f cd A outer s H E) [] (start N vs) H s1 := by
  have hpl : ps.length ≤ N.length := by have := congrArg List.length S.pre; rw [List.length_take] at this; omega
  obtain ⟨h1, tk, rfl, hk⟩ := x.done
  have noA : ∀ b : Addr, b ∉ (cxOf CX P w K mg base N qual scope f cd A outer s H E).ex := fun b z => absurd (show b ∈ ([] : List Addr) from z) (by simp)
  refine ⟨⟨e0.mod, S.kind, rfl, rfl, Nat.le_refl _, fun y z c h1 h2 => ?_, fun y hy => ?_, fun y c _ h => ?_, fun _ => hd, Around.frames_deeper e0.frames, .inr ⟨rfl, rfl⟩, fun b z => absurd z (noA b), e0.bs, e0.bsz, fun b _ _ => noA b, fun b z => absurd z (noA b), e0.funs, e0.frf⟩,
    rfl, e0.bare, Un.kept hk, ⟨_, x.toInCall.ns, fun i y v h1 h2 h3 => ?_⟩, fun y c h => ⟨_, x.cell y c h⟩, e0.hok.fresh (Nat.le_refl _), fun y c h => ?_, fun p hp => absurd (show p ∈ ([] : List (Addr × Obj)) from hp) (by simp), e0.hok.kept hk, ?_⟩
  · exact name_of_addr x.apart (PySem.mem_of_lookup h1) (PySem.mem_of_lookup h2)
  · have hy : scope.names.lookup y = some .cell ∨ scope.names.lookup y = some .free := hy
    rcases hy with hy | hy
    · exact cell_has hy
    · exact absurd rfl (S.nofree _ (PySem.mem_of_lookup hy))
  · exact Nat.le_of_lt (x.above y c (PySem.mem_of_lookup h))
  · have hi : i < vs.length := by
      unfold start at h2
      by_cases hi : i < vs.length
      · exact hi
      · rw [List.getElem?_append_right (by simpa using hi)] at h2
        rw [List.getElem?_replicate] at h2
        split at h2 <;> cases h2
    have ha : vs[i]? = some v := by
      unfold start at h2
      rw [List.getElem?_append_left (by simpa using hi), List.getElem?_map] at h2
      cases e : vs[i]? with
      | none => rw [e] at h2; cases h2
      | some a => rw [e] at h2; cases h2; rfl
    obtain ⟨u, hu, rv⟩ := r.get ha
    have hp : ps[i]? = some y := by
      rw [← S.pre, List.getElem?_take_of_lt (by omega)]; exact h1
    have ndP : ps.Nodup := by rw [← S.pre]; exact S.nd.sublist (List.take_sublist _ _)
    refine ⟨u, rv, ?_⟩
    rcases S.par y (List.mem_of_getElem? hp) with k | k
    · exact .inl ⟨k, bindL_get ndP hp hu k⟩
    · obtain ⟨c, e⟩ := cell_has (n := s.heap.objs.size + 1) k
      refine .inr ⟨.inl k, c, e, ?_⟩
      have q := x.cell y c e
      rw [bindC_get ndP hp hu (by show scope.names.lookup y ≠ _; rw [k]; decide)] at q
      exact q
  · exact e0.hok.fresh (Nat.le_of_lt (x.above y c (PySem.mem_of_lookup h)))
  · unfold start
    show _ = N.length
    rw [List.length_append, List.length_map, List.length_replicate]
    omega

set_option linter.all false in private theorem fn_of {CX : CXT} {P : Program} {w : World} {K : PySem.W.Frag} {mg : Str → Option Value} {base : Heap} {k : Nat} {f : Addr} {name qual : Str} {params : Arguments} {body : List Stmt} {scope : Scope} {dV kV doc pm cdv ct oc : Value} {an od : Option Addr}
    {osl : Array (Option Value)} {N ps : List Str} {sp : Sp} (lk : K.lookup f = some ⟨oc, od, .func (PySem.W.fnOf name qual params body scope dV kV doc pm an cdv ct), osl⟩) (hcd : PySem.W.codeIn K cdv qual = true) (S : FnScope N ps scope)
    (len : ∀ vs H Q E, sp vs H Q E → vs.length = ps.length)
    (hbody : ∀ (A : Around) (outer : List Env) (s : Shared) (H : Hp) (vs : List V) (Q : VK) (E : XK), Room k (A.deeper (envOfC qual scope s.heap.objs.size f cdv)) → sp vs H Q E →
      ∃ t, PSs (cxOf CX P w K mg base N qual scope f cdv A outer s H E) body t ∧ t { nx := fun _ H' => Q .non H', rt := Q } (start N vs) H) :
    FnOk P w K mg base CX (k + 1) f (PySem.W.fnOf name qual params body scope dV kV doc pm an cdv ct) ps sp := by
  refine ⟨len, fun A outer s H args us vs Q E hr e0 hb r hsp => ?_⟩
  have hl := len _ _ _ _ hsp
  have KX : K.In s.heap := e0.mod.kin.keeps fun b o e => (e0.bs b o e).1
  have lim : s.heap.NoLimit := e0.mod.nolimit.keeps fun b o e => (e0.bs b o e).1
  have hkind : ∀ y ∈ ps.zip us, scope.names.lookup y.1 = some .local ∨ (scope.names.lookup y.1 = some .cell ∧ ((cellsFrom (s.heap.objs.size + 1) scope.names []).lookup y.1).isSome = true) := fun ⟨n, v⟩ hy => by
    rcases S.par n (List.of_mem_zip hy).1 with q | q
    · exact .inl q
    · exact .inr ⟨q, PySem.W.cellsFrom_some _ _ _ (.inl q)⟩
  refine codeAny_call_function hr.depth (KX _ _ lk) rfl S.co S.gen rfl (PySem.W.codeRec_of KX hcd) (hb _ _ _ _ ?_)
  refine wpAny_newFunctionEnv_cells S.kind hkind fun env he s1 x => ?_
  subst he
  refine ⟨lim.keeps x.toInCall.keep, codeAny_func ?_⟩
  obtain ⟨t, ht, hq⟩ := hbody A outer s H vs Q E (hr.deeper _) hsp
  have I : Inv (cxOf CX P w K mg base N qual scope f cdv A outer s H E) [] (start N vs) H s1 := inv_start S hr.hd e0 hl r x
  refine wpAny_mono (ht [] s1 (start N vs) H _ I hq) (fun fl s' hs => ?_) fun e s' hs => hs
  have fin : ∀ {σ' : St} {H' : Hp} {v : V} {u : Value}, Inv (cxOf CX P w K mg base N qual scope f cdv A outer s H E) [] σ' H' s' → RelV v u → Q v H' → CE outer P w H s Q u s' :=
    fun {σ' H' v u} J rv q => ⟨v, H', J.os, J.bare, J.base, J.hok, rv, q⟩
  cases fl with
  | ret u =>
    obtain ⟨v, σ', H', J, rv, q⟩ := hs
    exact fin J rv q
  | next =>
    obtain ⟨σ', H', J, q⟩ := hs
    exact fin (v := V.non) (u := Value.none) J rfl q
  | brk =>
    obtain ⟨_, _, _, q⟩ := hs
    exact False.elim q
  | cont =>
    obtain ⟨_, _, _, q⟩ := hs
    exact False.elim q
end L2

namespace L2
open PySem PySem.Spec PyProof.Rows
section
variable {X : Cx} {x : Str} {p pos : Pos} {e : Expr} {es : List Expr} {t : TA} {id T : String} {r : List V → Hp → VK → Prop}

set_option linter.all false in private noncomputable def tCB (r : List V → Hp → VK → Prop) (t : TA) : TE := fun σ H Q => t σ H fun vs H1 => r vs H1 Q
set_option linter.all false in private theorem pe_callB (hc : CallR X (.builtin id) r) (hg : Gl X x) (hm : X.mg x = none) (hv : bootBuiltins x = some (.builtin id)) (ha : PA X (e :: es) t) (hn : x ≠ "__name__" := by decide) (hdb : (x == ("__debug__" : Str)) = false := by decide)
    (he : starEach (e :: es) X.env = (false, eval e X.env) :: starEach es X.env := by rfl) (hpl : (backTo pos (starEach es X.env)).any (·.1) = false := by rfl) : PE X (.Call (.Name x p) (e :: es) [] pos) (tCB r t) := by
  intro pins s σ H Q I h
  refine wpAny_Call_Name_kw (ld_blt I hg hm hv ?_ hn hdb)
  exact PyProof.Rows.callWith_builtin1 (thn (ha pos pins s σ H _ I h) fun us s1 ⟨vs, H1, I1, r1, q1⟩ => hc pins s1 σ H1 vs us Q I1 r1 q1) he hpl
set_option linter.all false in private theorem pe_callTy (hc : CallR X (.type T) r) (hg : Gl X x) (hm : X.mg x = none) (hv : bootBuiltins x = some (.type T)) (ha : PA X (e :: es) t) (hn : x ≠ "__name__" := by decide) (hdb : (x == ("__debug__" : Str)) = false := by decide)
    (he : starEach (e :: es) X.env = (false, eval e X.env) :: starEach es X.env := by rfl) (hpl : (backTo pos (starEach es X.env)).any (·.1) = false := by rfl) : PE X (.Call (.Name x p) (e :: es) [] pos) (tCB r t) := by
  intro pins s σ H Q I h
  refine wpAny_Call_Name_kw (ld_blt I hg hm hv ?_ hn hdb)
  exact PyProof.Rows.callWith_type1 (thn (ha pos pins s σ H _ I h) fun us s1 ⟨vs, H1, I1, r1, q1⟩ => hc pins s1 σ H1 vs us Q I1 r1 q1) he hpl
end
end L2

namespace HT
open PySem PyProof.Rows

section
open PySem.SeqAt
open PySem.AutoSeq1 (wpAny_loadPart')
open PySem.MeetsSeq PySem.MeetsSeq2 PySem.MeetsSeq3

end

section
variable {prog : Program} {w : World} {A : Around} {E : Value → Shared → Prop} {s : Shared}

set_option linter.all false in private theorem cat_tup {t b : Addr} {vs ws : List Value} {Q : Value → Shared → Prop} (ht : IsTup s.heap t vs.toArray) (hb : IsTup s.heap b ws.toArray) (hv : vs ≠ [])
    (h1 : ws = [] → Q (.ref t) s) (h2 : ws ≠ [] → Q (.ref s.heap.objs.size) { s with heap := s.heap.push { cls := .type "tuple", data := .seq (vs ++ ws).toArray } })
    (hsz : vs.length + ws.length ≤ sizeLine) : wpAny (model prog w) A (binaryOp .Add (.ref t) (.ref b)) Q E s := by
  obtain ⟨⟨cls, dd, data, sl⟩, ho, hc, n, hd⟩ := id ht
  obtain ⟨⟨cls2, dd2, data2, sl2⟩, ho2, hc2, n2, hd2⟩ := id hb
  simp only at hc hd hc2 hd2
  subst hc hd hc2 hd2
  have e : vs.toArray ++ ws.toArray = (vs ++ ws).toArray := by simp
  by_cases hw : ws = []
  · exact concat_meets ⟨_, ho, rfl⟩ ⟨_, ho2, rfl⟩ noFill_tuple_add seq_tuple_add PySem.F.slot_tuple_add PySem.F.entry_tuple_add (PySem.F.args_tuple_add_2 _ _)
      (tuple_addW1 t b vs.toArray ws.toArray n n2 dd dd2 sl sl2 (by simpa using hv) (by simp [hw])) ⟨ho, ho2, h1 hw⟩
  · refine concat_meets ⟨_, ho, rfl⟩ ⟨_, ho2, rfl⟩ noFill_tuple_add seq_tuple_add PySem.F.slot_tuple_add PySem.F.entry_tuple_add (PySem.F.args_tuple_add_2 _ _)
      (tuple_addW2 t b vs.toArray ws.toArray n n2 dd dd2 sl sl2 (by simpa using hv) (by simpa using hw) (by rw [List.size_toArray, List.size_toArray]; exact hsz)) ⟨ho, ho2, ?_⟩
    rw [e]
    exact h2 hw

/-! ### t[a:b], not the whole -/
set_option linter.all false in private noncomputable def sIx (n d : Nat) : Option Int → Nat
  | none => d
  | some v => if v < 0 then (v + (n : Int)).toNat else min v.toNat n
set_option linter.all false in private theorem sIx_none (n d : Nat) : sIx n d none = d := rfl
set_option linter.all false in private theorem sIx_nat (n d k : Nat) : sIx n d (some (k : Int)) = min k n := by
  show (if (k : Int) < 0 then ((k : Int) + (n : Int)).toNat else min (k : Int).toNat n) = min k n
  rw [if_neg (by omega), Int.toNat_natCast]
set_option linter.all false in private theorem sIx_le (n d : Nat) (hd : d ≤ n) (o : Option Int) : sIx n d o ≤ n := by
  cases o with
  | none => exact hd
  | some v =>
    show (if v < 0 then (v + (n : Int)).toNat else min v.toNat n) ≤ n
    by_cases hv : v < 0
    · rw [if_pos hv]; omega
    · rw [if_neg hv]; exact Nat.min_le_right _ _
set_option linter.all false in private theorem clip_eq (v : Int) (n d : Nat) : (if v < 0 then max (v + (n : Int)) 0 else min v (n : Int)) = ((sIx n d (some v) : Nat) : Int) := by
  show (if v < 0 then max (v + (n : Int)) 0 else min v (n : Int)) = (((if v < 0 then (v + (n : Int)).toNat else min v.toNat n) : Nat) : Int)
  by_cases hv : v < 0
  · simp only [if_pos hv]; omega
  · simp only [if_neg hv]; omega
set_option linter.all false in private theorem adjust_gen (lo hi : Option Int) (n : Nat) : Builtin.Slice.sliceAdjust lo hi 1 (n : Int) = (((sIx n 0 lo : Nat) : Int), ((sIx n n hi : Nat) : Int)) := by
  have h1 : ¬ ((1 : Int) < 0) := by omega
  unfold Builtin.Slice.sliceAdjust
  simp only [h1, if_false]
  refine Prod.ext ?_ ?_
  · cases lo with
    | none => rfl
    | some v => exact clip_eq v n 0
  · cases hi with
    | none => rfl
    | some v => exact clip_eq v n n
set_option linter.all false in private theorem places_gen (i j : Nat) : Builtin.Slice.slicePlaces (i : Int) (j : Int) 1 = j - i := by
  unfold Builtin.Slice.slicePlaces
  have h1 : (1 : Int) > 0 := by omega
  simp only [h1, if_true, Int.ediv_one]
  split <;> omega
set_option linter.all false in private theorem slicePart_ {v : Value} {o : Option Int} {Q : Option Int → Shared → Prop} (p : IsPart v o) (h : Q o s) : wpAny (model prog w) A (Builtin.Slice.slicePartIndex v) Q E s := by
  cases p with
  | none => exact slicePart_none h
  | int i t => exact slicePart_int h
set_option linter.all false in private theorem sliceApplied_gen {sl : Addr} {vl vu : Value} {lo hi : Option Int} {n : Nat} {Q : Int × Int × Nat → Shared → Prop} (hs : s.heap.IsSliceOf sl vl vu .none) (pl : IsPart vl lo) (pu : IsPart vu hi)
    (h : Q (((sIx n 0 lo : Nat) : Int), 1, sIx n n hi - sIx n 0 lo) s) : wpAny (model prog w) A (Builtin.Slice.sliceApplied (.ref sl) (pure (n : Int))) Q E s := by
  obtain ⟨os, hos, hcs, hds⟩ := id hs
  unfold Builtin.Slice.sliceApplied Builtin.Slice.sliceFields
  refine wpAny_bind (wpAny_bind (wpAny_field hos hds (x := vl) rfl (wpAny_bind (wpAny_field hos hds (x := vu) rfl (wpAny_bind (wpAny_field hos hds (x := .none) rfl (wpAny_pure ?_)))))))
  refine wpAny_bind (slicePart_none ?_)
  show wpAny _ _ (if ((1 : Int) == 0) = true then _ else _) _ _ s
  rw [if_neg (by decide)]
  refine wpAny_bind (slicePart_ pl (wpAny_bind (slicePart_ pu (wpAny_bind (wpAny_pure ?_)))))
  show wpAny _ _ (match Builtin.Slice.sliceAdjust lo hi 1 (n : Int) with | (lo, hi) => pure (lo, (1 : Int), Builtin.Slice.slicePlaces lo hi 1)) _ _ s
  rw [adjust_gen lo hi n]
  show wpAny _ _ (pure (((sIx n 0 lo : Nat) : Int), (1 : Int), Builtin.Slice.slicePlaces ((sIx n 0 lo : Nat) : Int) ((sIx n n hi : Nat) : Int) 1)) _ _ s
  rw [places_gen]
  exact wpAny_pure h
set_option linter.all false in private theorem pick_gen (xs : Array Value) (i k : Nat) : ((List.range k).filterMap fun (m : Nat) => xs[((i : Int) + (m : Int) * 1).toNat]?).toArray = ((xs.toList.drop i).take k).toArray := by
  have e : (fun (m : Nat) => xs[((i : Int) + (m : Int) * 1).toNat]?) = fun m => xs[i + m]? := by
    funext m
    have : ((i : Int) + (m : Int) * 1).toNat = i + m := by omega
    rw [this]
  rw [e]
  have := pick_run xs i k
  rw [List.filterMap_map] at this
  have e2 : ((fun x => xs[x]?) ∘ fun x => i + x) = fun m => xs[i + m]? := rfl
  rw [e2] at this
  rw [this]

set_option linter.all false in private theorem getItem_tuple_cut {t sl : Addr} {items : Array Value} {vl vu : Value} {lo hi : Option Int} {Q : Value → Shared → Prop} (ht : IsTup s.heap t items) (hs : s.heap.IsSliceOf sl vl vu .none) (pl : IsPart vl lo) (pu : IsPart vu hi)
    (hw : ¬ (sIx items.size 0 lo = 0 ∧ sIx items.size items.size hi = items.size))
    (h : Q (.ref s.heap.objs.size) { s with heap := s.heap.push { cls := .type "tuple", data := .seq ((items.toList.drop (sIx items.size 0 lo)).take (sIx items.size items.size hi - sIx items.size 0 lo)).toArray } })
    (hsz : items.size ≤ sizeLine) : wpAny (model prog w) A (getItem (.ref t) (.ref sl)) Q E s := by
  have htake : sizeOk (.seq ((items.toList.drop (sIx items.size 0 lo)).take (sIx items.size items.size hi - sIx items.size 0 lo)).toArray) := by
    show ((items.toList.drop (sIx items.size 0 lo)).take (sIx items.size items.size hi - sIx items.size 0 lo)).toArray.size ≤ sizeLine
    rw [List.size_toArray, List.length_take, List.length_drop, Array.length_toList]
    omega
  have hj : sIx items.size items.size hi ≤ items.size := sIx_le _ _ (Nat.le_refl _) hi
  obtain ⟨os, hos, hcs, hds⟩ := id hs
  have hTs : s.TypeIs (.ref sl) "slice" := ⟨os, hos, hcs⟩
  unfold getItem
  try with_reducible refine wpAny_holding ?_
  first | refine wpAny_bind (wpAny_pure ?_) | skip
  refine wpAny_bind (wpAny_sequenceKey ht.typeIs (by decide) ?_)
  refine wpAny_bind (wpAny_callSpecial?_slot (name := Str.ofString "__getitem__") ht.typeIs PyProof.Rows.slot_tuple_getitem
    (wpAny_call_entry PyProof.Rows.slot_tuple_getitem ht.typeIs entry_tuple_getitem ?_ (args_tuple_getitem _ _)))
  show wpAny _ _ (Builtin.Tuple.tupleItemsOf (.ref t) >>= _) _ _ s
  refine wpAny_bind (tupleItemsOf_ ht ?_)
  refine wpAny_bind (wpAny_typeOf hTs ?_)
  rw [if_pos (by decide)]
  refine wpAny_bind (sliceApplied_gen hs pl pu ?_)
  have hno : ¬ ((((sIx items.size 0 lo : Nat) : Int) == 0 && (1 : Int) == 1 && (sIx items.size items.size hi - sIx items.size 0 lo) == items.size) = true) := by
    intro q
    rw [Bool.and_eq_true, Bool.and_eq_true] at q
    have q1 : ((sIx items.size 0 lo : Nat) : Int) = 0 := eq_of_beq q.1.1
    have q2 : sIx items.size items.size hi - sIx items.size 0 lo = items.size := eq_of_beq q.2
    exact hw ⟨by omega, by omega⟩
  show wpAny _ _ (if (((sIx items.size 0 lo : Nat) : Int) == 0 && (1 : Int) == 1 && (sIx items.size items.size hi - sIx items.size 0 lo) == items.size) = true then _ else _) _ _ s
  rw [if_neg hno, pick_gen]
  first
    | exact wpAny_bind (m := Builtin.Tuple.tupleExact _) (wpAny_newObj_type (wpAny_pure ⟨_, rfl, wpAny_pure h⟩) htake)
    | exact wpAny_bind (m := Builtin.Tuple.tupleExact _) (wpAny_newObj_type (wpAny_bind (wpAny_pure (wpAny_pure ⟨_, rfl, wpAny_pure h⟩))) htake)
    | exact wpAny_bind (wpAny_bind (m := Builtin.Tuple.tupleExact _) (wpAny_newObj_type (wpAny_pure (wpAny_pure ⟨_, rfl, wpAny_pure h⟩)) htake))
    | exact wpAny_bind (wpAny_bind (m := Builtin.Tuple.tupleExact _) (wpAny_newObj_type (wpAny_pure ⟨_, rfl, wpAny_pure h⟩) htake))
end
end HT

namespace L2
open PySem PySem.Spec PyProof.Rows

/-! ### the parts of a slice -/
set_option linter.all false in private noncomputable abbrev TO := St → Hp → (Option Int → Hp → Prop) → Prop
set_option linter.all false in private noncomputable def PO (X : Cx) (e : Option Expr) (t : TO) : Prop :=
  ∀ (pins : List (Addr × Obj)) (s : Shared) (σ : St) (H : Hp) (Q : Option Int → Hp → Prop), Inv X pins σ H s → t σ H Q →
    wpAny (model X.prog X.w) X.A (evalPart e X.env) (fun u s' => ∃ o H', Inv X pins σ H' s' ∧ IsPart u o ∧ Q o H') X.xe s
set_option linter.all false in private noncomputable def tNoPart : TO := fun _ H Q => Q none H
set_option linter.all false in private noncomputable def tPart (t : TE) : TO := fun σ H Q => t σ H fun x H1 => ∃ i, x = .int i ∧ Q (some i) H1

section
variable {X : Cx} {e : Expr} {te : TE} {lo hi : Option Expr} {tl th : TO} {pos p2 : Pos}

set_option linter.all false in private theorem po_none : PO X none tNoPart := by
  intro pins s σ H Q I h
  rw [evalPart_none]
  exact wpAny_pure ⟨none, H, I, .none, h⟩
set_option linter.all false in private theorem po_some (h : PE X e te) : PO X (some e) (tPart te) := by
  intro pins s σ H Q I hw
  rw [evalPart_some]
  refine thn (h pins s σ H _ I hw) fun u s1 ⟨x, H1, I1, r1, q1⟩ => ?_
  obtain ⟨i, rfl, q⟩ := q1
  obtain ⟨t, rfl⟩ := r1
  exact ⟨some i, H1, I1, .int i t, q⟩

set_option linter.all false in private noncomputable def SlR (X : Cx) (r : V → Option Int → Option Int → Hp → VK → Prop) : Prop :=
  ∀ (pins : List (Addr × Obj)) (s : Shared) (σ : St) (H : Hp) (x : V) (v vl vu : Value) (lo hi : Option Int) (sl : Addr) (Q : VK), Inv X pins σ H s → RelV x v → s.heap.IsSliceOf sl vl vu .none → IsPart vl lo → IsPart vu hi → r x lo hi H Q →
    ∃ T id, typeLookup (.type T) "__getitem__" = pure (some (.builtin id)) ∧ s.TypeIs v T ∧ wpAny (model X.prog X.w) X.A (getItem v (.ref sl)) (EP X pins σ Q) X.xe s
set_option linter.all false in private theorem SlR.or {r r' : V → Option Int → Option Int → Hp → VK → Prop} (h : SlR X r) (h' : SlR X r') : SlR X (fun x lo hi H Q => r x lo hi H Q ∨ r' x lo hi H Q) := by
  intro pins s σ H x v vl vu lo hi sl Q I rx hs pl pu q
  rcases q with q | q
  · exact h pins s σ H x v vl vu lo hi sl Q I rx hs pl pu q
  · exact h' pins s σ H x v vl vu lo hi sl Q I rx hs pl pu q
set_option linter.all false in private noncomputable def tSl (r : V → Option Int → Option Int → Hp → VK → Prop) (te : TE) (tl th : TO) : TE := fun σ H Q => te σ H fun x H1 => tl σ H1 fun l H2 => th σ H2 fun u H3 => r x l u H3 Q
set_option linter.all false in private theorem pe_slice {r : V → Option Int → Option Int → Hp → VK → Prop} (hr : SlR X r) (he : PE X e te) (hl : PO X lo tl) (hu : PO X hi th) : PE X (.Subscript e (.Slice lo hi none p2) pos) (tSl r te tl th) := by
  intro pins s σ H Q I h
  refine Subscript_ (thn (he pins s σ H _ I h) fun v s1 ⟨x, H1, I1, r1, q1⟩ => ?_)
  refine wpAny_Slice (thn (hl pins s1 σ H1 _ I1 q1) fun vl s2 ⟨l, H2, I2, pl, q2⟩ => thn (hu pins s2 σ H2 _ I2 q2) fun vu s3 ⟨u, H3, I3, pu, q3⟩ => ?_)
  rw [evalPart_none]
  refine wpAny_pure ?_
  have I4 : Inv X pins σ H3 { s3 with heap := s3.heap.push { cls := .type "slice", data := .fields #[vl, vu, .none] } } := I3.kept (t' := s3.toks) fun b ob q => Heap.get?_push_of_some _ q
  obtain ⟨T, id, hT, ht, hg⟩ := hr pins { s3 with heap := s3.heap.push { cls := .type "slice", data := .fields #[vl, vu, .none] } } σ H3 x v vl vu l u s3.heap.objs.size Q I4 r1 (Heap.IsSliceOf.new ..) pl pu q3
  show wpAny (model X.prog X.w) X.A (subscriptTail e (.Slice lo hi none p2) v (.ref s3.heap.objs.size)) (EP X pins σ Q) X.xe { s3 with heap := s3.heap.push { cls := .type "slice", data := .fields #[vl, vu, .none] } }
  exact tail_any (ops := [.ref s3.heap.objs.size, v]) ht hT hg (by with_unfolding_all rfl)

set_option linter.all false in private noncomputable def cutV (xs : List V) (lo hi : Option Int) : List V := (xs.drop (HT.sIx xs.length 0 lo)).take (HT.sIx xs.length xs.length hi - HT.sIx xs.length 0 lo)
set_option linter.all false in private theorem cutV_length (xs : List V) (lo hi : Option Int) : (cutV xs lo hi).length ≤ xs.length := by
  unfold cutV
  rw [List.length_take, List.length_drop]
  omega
set_option linter.all false in private noncomputable def rSlT (K : PySem.W.Frag) : V → Option Int → Option Int → Hp → VK → Prop := fun x lo hi H Q => ∃ a xs, x = .ref a ∧ SqT K H a xs ∧
  ¬ (HT.sIx xs.length 0 lo = 0 ∧ HT.sIx xs.length xs.length hi = xs.length) ∧ ∀ p, H p = none → Q (.ref p) (upd H p (.tup (cutV xs lo hi)))
set_option linter.all false in private theorem sl_tup : SlR X (rSlT X.K) := by
  intro pins s σ H x v vl vu lo hi sl Q I rx hs pl pu h
  obtain ⟨a, xs, rfl, hx, hw, q⟩ := h
  cases rx
  obtain ⟨its, r, ht, hz⟩ := I.tuple hx
  have hlen : its.toArray.size = xs.length := by rw [List.size_toArray]; exact r.length.symm
  refine ⟨"tuple", _, PyProof.Rows.slot_tuple_getitem.lookup, ht.typeIs, ?_⟩
  refine HT.getItem_tuple_cut ht hs pl pu (by rw [hlen]; exact hw) ?_ (by rw [hlen]; exact hz)
  rw [hlen]
  refine ⟨.ref s.heap.objs.size, _, I.laid (t' := s.toks) (o := .tup (cutV xs lo hi)) (fun b ob q => Heap.get?_push_of_some _ q) (Nat.le_refl _) ?_, rfl, q _ (I.hok.fresh (Nat.le_refl _))⟩
  exact ⟨Nat.le_trans (cutV_length xs lo hi) hz, _, (r.drop (HT.sIx xs.length 0 lo)).take (HT.sIx xs.length xs.length hi - HT.sIx xs.length 0 lo), IsTup.new _ _⟩

/-! ### t < u, t + u -/
set_option linter.all false in private noncomputable def rCatT (K : PySem.W.Frag) : R2 := fun x y H Q => ∃ a b xs ys, x = .ref a ∧ y = .ref b ∧ SqT K H a xs ∧ SqT K H b ys ∧ xs ≠ [] ∧ xs.length + ys.length ≤ sizeLine ∧
  (ys = [] → Q (.ref a) H) ∧ (ys ≠ [] → ∀ p, H p = none → Q (.ref p) (upd H p (.tup (xs ++ ys))))
set_option linter.all false in private theorem Vals.nil_iff {xs : List V} {us : List Value} (r : Vals xs us) : us = [] ↔ xs = [] := by
  cases r with
  | nil => simp
  | cons _ _ => simp
set_option linter.all false in private theorem op_catT : OpR X (binaryOp .Add) (rCatT X.K) := by
  intro pins s σ H x y v u Q I rx ry h
  obtain ⟨a, b, xs, ys, rfl, rfl, ha, hb, hx, hz, q1, q2⟩ := h
  cases rx
  cases ry
  obtain ⟨its, r1, p1, _⟩ := I.tuple ha
  obtain ⟨its2, r2, p2, _⟩ := I.tuple hb
  refine HT.cat_tup p1 p2 (fun z => hx (r1.nil_iff.mp z)) (fun z => ⟨.ref a, H, I, rfl, q1 (r2.nil_iff.mp z)⟩) (fun z => ?_) (by rw [← r1.length, ← r2.length]; exact hz)
  refine ⟨.ref s.heap.objs.size, _, I.laid (t' := s.toks) (o := .tup (xs ++ ys)) (fun b ob q => Heap.get?_push_of_some _ q) (Nat.le_refl _) ?_, rfl, q2 (fun w => z (r2.nil_iff.mpr w)) _ (I.hok.fresh (Nat.le_refl _))⟩
  exact ⟨by rw [List.length_append]; exact hz, _, r1.append r2, IsTup.new _ _⟩
end
end L2

namespace L2
open PySem PySem.Spec PyProof.Rows

/-! ### places -/
set_option linter.all false in private noncomputable def ixN (n : Nat) (i : Int) : Option Nat := if 0 ≤ i then (if i < n then some i.toNat else none) else if -(n : Int) ≤ i then some (i + n).toNat else none
set_option linter.all false in private noncomputable def atI {α : Type} (xs : List α) (i : Int) : Option α := (ixN xs.length i).bind fun j => xs[j]?
set_option linter.all false in private theorem ixN_seq {n : Nat} {i : Int} {j : Nat} (h : ixN n i = some j) : seqIndex? i n = some j ∧ j < n ∧ -(n : Int) ≤ i ∧ i < n := by
  unfold ixN at h
  by_cases h0 : 0 ≤ i
  · rw [if_pos h0] at h
    by_cases h1 : i < n
    · rw [if_pos h1] at h
      have e : i.toNat = j := Option.some.inj h
      exact ⟨by rw [seqIndex_of h0 h1, e], by omega, by omega, h1⟩
    · rw [if_neg h1] at h; cases h
  · rw [if_neg h0] at h
    by_cases h1 : -(n : Int) ≤ i
    · rw [if_pos h1] at h
      have e : (i + n).toNat = j := Option.some.inj h
      exact ⟨by rw [seqIndex_neg (by omega) h1, e], by omega, h1, by omega⟩
    · rw [if_neg h1] at h; cases h
set_option linter.all false in private theorem atI_get {α : Type} {xs : List α} {i : Int} {v : α} (h : atI xs i = some v) : ∃ j, seqIndex? i xs.length = some j ∧ xs[j]? = some v ∧ j < xs.length ∧ -(xs.length : Int) ≤ i ∧ i < xs.length := by
  unfold atI at h
  cases e : ixN xs.length i with
  | none => rw [e] at h; cases h
  | some j =>
    rw [e] at h
    obtain ⟨h1, h2, h3, h4⟩ := ixN_seq e
    exact ⟨j, h1, h, h2, h3, h4⟩
set_option linter.all false in private theorem atI_nat {α : Type} {xs : List α} {j : Nat} {v : α} (h : xs[j]? = some v) : atI xs (j : Int) = some v := by
  have hj : j < xs.length := (List.getElem?_eq_some_iff.mp h).1
  have e : ixN xs.length (j : Int) = some j := by
    unfold ixN
    rw [if_pos (by omega), if_pos (by omega)]; simp
  unfold atI; rw [e]; exact h
/-! ### what may be subscripted -/
set_option linter.all false in private noncomputable def PlainIx (b : Expr) : Prop := ∀ o i, subscripted b false o i = operate [o, i] (getItem o i)
set_option linter.all false in private noncomputable def IxR (X : Cx) (r : R2) : Prop :=
  ∀ (value slice : Expr) (pins : List (Addr × Obj)) (s : Shared) (σ : St) (H : Hp) (x y : V) (v u : Value) (Q : VK), Inv X pins σ H s → RelV x v → RelV y u → r x y H Q →
    subscripted slice false v u = operate [v, u] (getItem v u) → wpAny (model X.prog X.w) X.A (subscriptTail value slice v u) (EP X pins σ Q) X.xe s
set_option linter.all false in private noncomputable def MtR (X : Cx) (id : String) (r : V → List V → Hp → VK → Prop) : Prop :=
  ∀ (pins : List (Addr × Obj)) (s : Shared) (σ : St) (H : Hp) (x : V) (xs : List V) (v : Value) (us : List Value) (Q : VK), Inv X pins σ H s → RelV x v → Vals xs us → r x xs H Q →
    wpAny (model X.prog X.w) X.A (call (.builtin id) (v :: us)) (EP X pins σ Q) X.xe s
section
variable {X : Cx} {a b : Expr} {ta tb : TE} {pos : Pos}
set_option linter.all false in private theorem IxR.or {r r' : R2} (h : IxR X r) (h' : IxR X r') : IxR X (fun x y H Q => r x y H Q ∨ r' x y H Q) := by
  intro value slice pins s σ H x y v u Q I rx ry q hs
  rcases q with q | q
  · exact h value slice pins s σ H x y v u Q I rx ry q hs
  · exact h' value slice pins s σ H x y v u Q I rx ry q hs
set_option linter.all false in private theorem pe_ix {r : R2} (hr : IxR X r) (ha : PE X a ta) (hb : PE X b tb) (hs : PlainIx b) : PE X (.Subscript a b pos) (tOp r ta tb) := by
  intro pins s σ H Q I h
  exact Subscript_ (binT ha hb I h fun v u s2 x y H2 I2 rx ry q => hr a b pins s2 σ H2 x y v u Q I2 rx ry q (hs _ _))

set_option linter.all false in private noncomputable def rIxL (K : PySem.W.Frag) : R2 := fun x y H Q => ∃ p xs i v, x = .ref p ∧ y = .int i ∧ SqL K H p xs ∧ atI xs i = some v ∧ Q v H
set_option linter.all false in private noncomputable def rIxT (K : PySem.W.Frag) : R2 := fun x y H Q => ∃ p xs i v, x = .ref p ∧ y = .int i ∧ SqT K H p xs ∧ atI xs i = some v ∧ Q v H
set_option linter.all false in private noncomputable def rIxS : R2 := fun x y H Q => ∃ z i c, x = .str z ∧ y = .int i ∧ z.length ≤ sizeLine ∧ atI z.cps.toList i = some c ∧ Q (.str ⟨#[c]⟩) H
set_option linter.all false in private theorem ix_list : IxR X (rIxL X.K) := by
  intro value slice pins s σ H x y v u Q I rx ry h hs
  obtain ⟨p, xs, i, z, rfl, rfl, hq, he, q⟩ := h
  cases rx
  obtain ⟨t, rfl⟩ := ry
  obtain ⟨its, r, pl, hz⟩ := I.list hq
  obtain ⟨j, h1, h2, h3, h4, h5⟩ := atI_get he
  obtain ⟨w, ew, rw'⟩ := r.get h2
  have hl := r.length
  have hn := line63
  have fin : EP X pins σ Q w s := ⟨z, H, I, rw', q⟩
  by_cases h0 : 0 ≤ i
  · have hj : i.toNat = j := by
      rw [seqIndex_of h0 h5] at h1
      exact Option.some.inj h1
    exact item_listR pl.isList h0 (by omega) (by rw [hj]; simpa using ew) fin hs
  · have hj : (i + (its.toArray.size : Int)).toNat = j := by
      rw [seqIndex_neg (by omega) h4] at h1
      rw [List.size_toArray, ← hl]
      exact Option.some.inj h1
    exact subscriptTail_builtinR (x := w) pl.isList.typeIs slot_list_getitem.lookup
      (wpAny_getItem_list_neg (Q := fun r s' => r = w ∧ EP X pins σ Q r s') pl.isList (by omega) (by rw [List.size_toArray] <;> omega) (by omega) (by rw [hj]; simpa using ew) ⟨rfl, fin⟩) hs
set_option linter.all false in private theorem ix_tup : IxR X (rIxT X.K) := by
  intro value slice pins s σ H x y v u Q I rx ry h hs
  obtain ⟨p, xs, i, z, rfl, rfl, hq, he, q⟩ := h
  cases rx
  obtain ⟨t, rfl⟩ := ry
  obtain ⟨its, r, pl, hz⟩ := I.tuple hq
  obtain ⟨j, h1, h2, h3, h4, h5⟩ := atI_get he
  obtain ⟨w, ew, rw'⟩ := r.get h2
  have hl := r.length
  have hn := line63
  have fin : EP X pins σ Q w s := ⟨z, H, I, rw', q⟩
  exact subscriptTail_builtinR (x := w) pl.typeIs slot_tuple_getitem.lookup
    (getItem_tuple (j := j) (Q := fun r s' => r = w ∧ EP X pins σ Q r s') pl (by omega) (by omega) (by rw [List.size_toArray, ← hl]; exact h1) (by simpa using ew) ⟨rfl, fin⟩) hs
set_option linter.all false in private theorem ix_str : IxR X rIxS := by
  intro value slice pins s σ H x y v u Q I rx ry h hs
  obtain ⟨z, i, c, rfl, rfl, hz, he, q⟩ := h
  obtain ⟨t, rfl⟩ := rx
  obtain ⟨t', rfl⟩ := ry
  obtain ⟨j, h1, h2, h3, h4, h5⟩ := atI_get he
  have hl : z.cps.toList.length = z.length := by simp [Str.length]
  rw [hl] at h1 h4 h5
  have hn := line63
  exact tail_any (typeIs_str s z t) slot_str_getitem.lookup (getItem_str (c := c) (by
    have e1 : decide (i < -(2 ^ 63 : Int)) = false := decide_eq_false (by omega)
    have e2 : decide (i ≥ 2 ^ 63) = false := decide_eq_false (by omega)
    rw [e1, e2, Bool.or_false]) (by rw [h1]; simpa using h2) ⟨.str ⟨#[c]⟩, H, I.tok _, ⟨_, rfl⟩, q⟩) hs
set_option linter.all false in private noncomputable def rIx (K : PySem.W.Frag) : R2 := fun x y H Q => rIxL K x y H Q ∨ rIxT K x y H Q ∨ rIxS x y H Q
set_option linter.all false in private theorem ix_seq : IxR X (rIx X.K) := ix_list.or (ix_tup.or ix_str)

/-! ### xs[i] = v, any sign -/
set_option linter.all false in private theorem mapSeq_set (its : List Value) (n j : Nat) (u : Value) : Obj.mapSeq (·.setIfInBounds j u) { cls := .type "list", data := .seq its.toArray n } = { cls := .type "list", data := .seq (its.set j u).toArray n } := by
  simp [Obj.mapSeq]
set_option linter.all false in private theorem Inv.lst {pins : List (Addr × Obj)} {σ : St} {H : Hp} {s : Shared} {p : Addr} {xs : List V} (I : Inv X pins σ H s) (h : H p = some (.lst xs)) :
    ∃ (its : List Value) (n : Nat), Vals xs its ∧ s.heap.get? p = some { cls := .type "list", data := .seq its.toArray n } ∧ xs.length ≤ sizeLine := by
  obtain ⟨z, its, n, r, e⟩ := I.hok p _ h
  exact ⟨its, n, r, e, z⟩
set_option linter.all false in private theorem Inv.lstUpd {pins : List (Addr × Obj)} {σ : St} {H : Hp} {s : Shared} {p : Addr} {xs ys : List V} {its its' : List Value} {n n' : Nat} {f : Obj → Obj} (I : Inv X pins σ H s) (h : H p = some (.lst xs))
    (ho : s.heap.get? p = some { cls := .type "list", data := .seq its.toArray n }) (hf : f { cls := .type "list", data := .seq its.toArray n } = { cls := .type "list", data := .seq its'.toArray n' }) (r : Vals ys its') (hz : ys.length ≤ sizeLine) (t : Nat) :
    Inv X pins σ (upd H p (.lst ys)) { s with heap := s.heap.update p f, toks := t } := by
  have e : (s.heap.update p f).get? p = some { cls := .type "list", data := .seq its'.toArray n' } := by
    rw [Heap.get?_update_self f ho (by rw [hf] <;> rfl), hf]
  refine I.write (x := p) (e := p) (by rw [h]; trivial) (.inl rfl) (fun b u hb q => (Heap.get?_update_other _ _ (Ne.symm hb)).trans q) ⟨_, e⟩ ?_
  exact ⟨hz, its', n', r, e⟩
set_option linter.all false in private noncomputable def rSetL : V → V → V → Hp → (Hp → Prop) → Prop := fun o i v H Q => ∃ p xs k j, o = .ref p ∧ i = .int k ∧ H p = some (.lst xs) ∧ ixN xs.length k = some j ∧ Q (upd H p (.lst (xs.set j v)))
set_option linter.all false in private theorem set_list : PSet X rSetL := by
  intro pins s σ H o i v ov iv u Q I ro ri rv h
  obtain ⟨p, xs, k, j, rfl, rfl, hp, hj, q⟩ := h
  cases ro
  obtain ⟨t, rfl⟩ := ri
  obtain ⟨its, n, r, ho, hz⟩ := I.lst hp
  obtain ⟨h1, h2, h3, h4⟩ := ixN_seq hj
  have hl := r.length
  have hn := line63
  have I' : Inv X pins σ (upd H p (.lst (xs.set j v))) { s with heap := s.heap.update p (Obj.mapSeq (·.setIfInBounds j u)) } :=
    I.lstUpd hp ho (mapSeq_set its n j u) (r.set rv j) (by rw [List.length_set]; exact hz) s.toks
  by_cases h0 : 0 ≤ k
  · have hk : k.toNat = j := by
      rw [seqIndex_of h0 h4] at h1
      exact Option.some.inj h1
    exact PySem.W.ki_setAt ho h0 (by omega) (by rw [List.size_toArray, ← hl]; exact h4) (by rw [hk]; exact ⟨_, I', q⟩)
  · have hk : (k + (its.toArray.size : Int)).toNat = j := by
      rw [seqIndex_neg (by omega) h3] at h1
      rw [List.size_toArray, ← hl]
      exact Option.some.inj h1
    exact PySem.W.ki_setBack ho (by omega) (by rw [List.size_toArray, ← hl]; exact h3) (by omega) (by rw [hk]; exact ⟨_, I', q⟩)

/-! ### slices -/
set_option linter.all false in private theorem slice_bounds (lo hi : Option Int) (n : Nat) : (sliceBounds lo hi none n).1 = ((HT.sIx n 0 lo : Nat) : Int) ∧ (sliceBounds lo hi none n).2.1 = ((HT.sIx n n hi : Nat) : Int) ∧ (sliceBounds lo hi none n).2.2 = 1 := by
  refine ⟨?_, ?_, rfl⟩
  · cases lo with
    | none => simp [sliceBounds, HT.sIx]
    | some i =>
      simp only [sliceBounds, HT.sIx, Option.getD_none, show (1 : Int) > 0 by decide, if_true]
      by_cases h : i < 0
      · simp only [h, if_true] <;> omega
      · simp only [h, if_false] <;> omega
  · cases hi with
    | none => simp [sliceBounds, HT.sIx]
    | some i =>
      simp only [sliceBounds, HT.sIx, Option.getD_none, show (1 : Int) > 0 by decide, if_true]
      by_cases h : i < 0
      · simp only [h, if_true] <;> omega
      · simp only [h, if_false] <;> omega
set_option linter.all false in private theorem slicePick_cut (its : List Value) (lo hi : Option Int) : slicePick its.toArray lo hi none = ((its.drop (HT.sIx its.length 0 lo)).take (HT.sIx its.length its.length hi - HT.sIx its.length 0 lo)).toArray := by
  obtain ⟨h1, h2, h3⟩ := slice_bounds lo hi its.toArray.size
  unfold slicePick
  rw [h1, h2, h3]
  simp only [sliceRange_one, pick_run, List.size_toArray] <;> rfl
set_option linter.all false in private noncomputable def rSlL (K : PySem.W.Frag) : V → Option Int → Option Int → Hp → VK → Prop := fun x lo hi H Q => ∃ a xs, x = .ref a ∧ SqL K H a xs ∧ ∀ p, H p = none → Q (.ref p) (upd H p (.lst (cutV xs lo hi)))
set_option linter.all false in private theorem sl_list : SlR X (rSlL X.K) := by
  intro pins s σ H x v vl vu lo hi sl Q I rx hs pl pu h
  obtain ⟨a, xs, rfl, hx, q⟩ := h
  cases rx
  obtain ⟨its, r, ht, hz⟩ := I.list hx
  have hlen := r.length
  refine ⟨"list", _, slot_list_getitem.lookup, ht.isList.typeIs, ?_⟩
  refine wpAny_getItem_list_slice ht.isList hs pl pu .none (by simp) ?_ (by rw [List.size_toArray] <;> omega)
  rw [slicePick_cut, ← hlen]
  refine ⟨.ref s.heap.objs.size, _, I.laid (t' := s.toks) (o := .lst (cutV xs lo hi)) (fun b ob q => Heap.get?_push_of_some _ q) (Nat.le_refl _) ?_, rfl, q _ (I.hok.fresh (Nat.le_refl _))⟩
  exact ⟨Nat.le_trans (cutV_length xs lo hi) hz, _, 0, (r.drop (HT.sIx xs.length 0 lo)).take (HT.sIx xs.length xs.length hi - HT.sIx xs.length 0 lo), Heap.get?_push_size _ rfl⟩

/-! ### in, not in: flat items -/
set_option linter.all false in private noncomputable def flatV : V → Bool
  | .non => true
  | .bl _ => true
  | .int _ => true
  | .str _ => true
  | _ => false
set_option linter.all false in private noncomputable def eqV : V → V → Bool
  | .non, .non => true
  | .bl a, .bl b => a == b
  | .bl a, .int b => (if a then 1 else 0) == b
  | .int a, .bl b => a == (if b then 1 else 0)
  | .int a, .int b => a == b
  | .str a, .str b => a == b
  | _, _ => false
set_option linter.all false in private theorem eqAt_V {A : Around} {s : Shared} {y x : V} {u v : Value} (ry : RelV y u) (rx : RelV x v) (fy : flatV y = true) (fx : flatV x = true) : SeqAt.EqAt A s u v (eqV y x) := by
  cases y with
  | non =>
    cases ry
    cases x with
    | non => cases rx; exact SeqAt.EqAt.same _
    | bl b => cases rx; exact SeqAt.EqAt.none_bool b
    | int b => obtain ⟨t, rfl⟩ := rx; exact SeqAt.EqAt.none_int b t
    | str b => obtain ⟨t, rfl⟩ := rx; exact SeqAt.EqAt.none_str b t
    | _ => exact absurd (show false = true from fx) Bool.false_ne_true
  | bl a =>
    cases ry
    cases x with
    | non => cases rx; exact SeqAt.EqAt.bool_none a
    | bl b => cases rx; exact SeqAt.EqAt.bool_bool a b
    | int b => obtain ⟨t, rfl⟩ := rx; exact SeqAt.EqAt.bool_int a b t
    | str b => obtain ⟨t, rfl⟩ := rx; exact SeqAt.EqAt.bool_str a b t
    | _ => exact absurd (show false = true from fx) Bool.false_ne_true
  | int a =>
    obtain ⟨t', rfl⟩ := ry
    cases x with
    | non => cases rx; exact SeqAt.EqAt.int_none a t'
    | bl b => cases rx; exact SeqAt.EqAt.int_bool a t' b
    | int b => obtain ⟨t, rfl⟩ := rx; exact SeqAt.EqAt.int_int a t' b t
    | str b => obtain ⟨t, rfl⟩ := rx; exact SeqAt.EqAt.int_str a t' b t
    | _ => exact absurd (show false = true from fx) Bool.false_ne_true
  | str a =>
    obtain ⟨t', rfl⟩ := ry
    cases x with
    | non => cases rx; exact SeqAt.EqAt.str_none a t'
    | bl b => cases rx; exact SeqAt.EqAt.str_bool a t' b
    | int b => obtain ⟨t, rfl⟩ := rx; exact SeqAt.EqAt.str_int a t' b t
    | str b => obtain ⟨t, rfl⟩ := rx; exact SeqAt.EqAt.str_str a t' b t
    | _ => exact absurd (show false = true from fx) Bool.false_ne_true
  | _ => exact absurd (show false = true from fy) Bool.false_ne_true
set_option linter.all false in private noncomputable def eqU (x : V) (u : Value) : Bool := match u with
  | .none => eqV .non x
  | .bool b => eqV (.bl b) x
  | .int i _ => eqV (.int i) x
  | .str z _ => eqV (.str z) x
  | _ => false
set_option linter.all false in private theorem eqU_of {x y : V} {u : Value} (r : RelV y u) (f : flatV y = true) : eqU x u = eqV y x := by
  cases y with
  | non => cases r; rfl
  | bl b => cases r; rfl
  | int i => obtain ⟨t, rfl⟩ := r; rfl
  | str z => obtain ⟨t, rfl⟩ := r; rfl
  | _ => exact absurd (show false = true from f) Bool.false_ne_true
set_option linter.all false in private theorem any_eqU {x : V} : ∀ {xs : List V} {us : List Value}, Vals xs us → xs.all flatV = true → us.any (eqU x) = xs.any fun y => eqV y x
  | _, _, .nil, _ => rfl
  | y :: xs, u :: us, .cons r t, f => by
    rw [List.all_cons, Bool.and_eq_true] at f
    rw [List.any_cons, List.any_cons, eqU_of r f.1, any_eqU t f.2]
set_option linter.all false in private theorem mem_eqAt {A : Around} {s : Shared} {x : V} {v : Value} (rx : RelV x v) (fx : flatV x = true) : ∀ {xs : List V} {us : List Value}, Vals xs us → xs.all flatV = true → ∀ u ∈ us, SeqAt.EqAt A s u v (eqU x u)
  | _, _, .nil, _ => fun u hu => by cases hu
  | y :: xs, u :: us, .cons r t, f => fun u' hu => by
    rw [List.all_cons, Bool.and_eq_true] at f
    rcases List.mem_cons.mp hu with rfl | hu
    · rw [eqU_of r f.1]; exact eqAt_V r rx f.1 fx
    · exact mem_eqAt rx fx t f.2 u' hu
set_option linter.all false in private noncomputable def inV (x : V) (xs : List V) : Bool := xs.any fun y => eqV y x
set_option linter.all false in private noncomputable def rIn (K : PySem.W.Frag) (neg : Bool) : R2 := fun x y H Q => ∃ p xs, y = .ref p ∧ (SqL K H p xs ∨ SqT K H p xs) ∧ flatV x = true ∧ xs.all flatV = true ∧ Q (.bl (if neg then !inV x xs else inV x xs)) H
set_option linter.all false in private theorem op_in_seq : OpR X (compareOp .In) (rIn X.K false) := by
  intro pins s σ H x y v u Q I rx ry h
  obtain ⟨p, xs, rfl, hq, fx, fs, q⟩ := h
  cases ry
  rcases hq with hq | hq
  · obtain ⟨its, r, pl, hz⟩ := I.list hq
    refine SeqAt.in_listAt (eqU x) pl.isList (fun w hw => mem_eqAt rx fx r fs w (by simpa using hw)) ⟨.bl _, H, I, rfl, ?_⟩
    rw [show its.toArray.any (eqU x) = its.any (eqU x) by simp, any_eqU r fs]
    exact q
  · obtain ⟨its, r, pl, hz⟩ := I.tuple hq
    refine SeqAt.in_tupleAt (eqU x) pl (fun w hw => mem_eqAt rx fx r fs w (by simpa using hw)) ⟨.bl _, H, I, rfl, ?_⟩
    rw [show its.toArray.any (eqU x) = its.any (eqU x) by simp, any_eqU r fs]
    exact q
set_option linter.all false in private theorem op_notIn_seq : OpR X (compareOp .NotIn) (rIn X.K true) := by
  intro pins s σ H x y v u Q I rx ry h
  obtain ⟨p, xs, rfl, hq, fx, fs, q⟩ := h
  cases ry
  rcases hq with hq | hq
  · obtain ⟨its, r, pl, hz⟩ := I.list hq
    refine SeqAt.notIn_listAt (eqU x) pl.isList (fun w hw => mem_eqAt rx fx r fs w (by simpa using hw)) ⟨.bl _, H, I, rfl, ?_⟩
    rw [show its.toArray.any (eqU x) = its.any (eqU x) by simp, any_eqU r fs]
    exact q
  · obtain ⟨its, r, pl, hz⟩ := I.tuple hq
    refine SeqAt.notIn_tupleAt (eqU x) pl (fun w hw => mem_eqAt rx fx r fs w (by simpa using hw)) ⟨.bl _, H, I, rfl, ?_⟩
    rw [show its.toArray.any (eqU x) = its.any (eqU x) by simp, any_eqU r fs]
    exact q
/-! ### len, list(x), tuple(x) of any list or tuple that is read -/
set_option linter.all false in private theorem call_tuple_of : CallR X (.type "tuple") (fun xs H Q => ∃ p ys, xs = [.ref p] ∧ ((SqL X.K H p ys ∧ ∀ l, H l = none → Q (.ref l) (upd H l (.tup ys))) ∨ (SqT X.K H p ys ∧ Q (.ref p) H))) := by
  intro pins s σ H xs us Q I r h
  obtain ⟨p, ys, rfl, h⟩ := h
  obtain ⟨u, rfl, rx⟩ := vals1 r
  cases rx
  rcases h with ⟨hq, q⟩ | ⟨hq, q⟩
  · obtain ⟨its, r', pl, hz⟩ := I.list hq
    have hlen := r'.length
    refine call_tuple_list pl.isList (fun h' kp => ?_) (by simp only [List.size_toArray] <;> omega)
    have I1 : Inv X pins σ H { s with heap := h' } := I.kept (t' := s.toks) kp
    have I2 : Inv X pins σ (upd H h'.objs.size (.tup ys)) { s with heap := h'.push { cls := .type "tuple", data := .seq its.toArray } } :=
      I1.laid (t' := s.toks) (fun b o e => Heap.get?_push_of_some _ e) (Nat.le_refl _) (show ObjOk X.prog X.w _ _ _ (.tup ys) from ⟨hz, its, r', IsTup.new _ _⟩)
    exact ⟨.ref h'.objs.size, _, I2, rfl, q _ (I1.hok.fresh (Nat.le_refl _))⟩
  · obtain ⟨its, r', pl, hz⟩ := I.tuple hq
    exact call_tuple_same pl ⟨.ref p, H, I, rfl, q⟩

/-! ### the call of a builtin's method: o.m(..) -/
set_option linter.all false in private noncomputable def tyV (K : PySem.W.Frag) (T : String) (x : V) (H : Hp) : Prop := match x with
  | .str _ => T = "str"
  | .int _ => T = "int"
  | .ref p => (T = "list" ∧ ∃ xs, SqL K H p xs) ∨ (T = "tuple" ∧ ∃ o, K.lookup p = some o ∧ o.cls = .type "tuple" ∧ o.dict = none) ∨
      (T = "dict" ∧ ((∃ kvs, H p = some (.dK kvs)) ∨ ∃ kvs, H p = some (.dT kvs))) ∨ (T = "set" ∧ ∃ S n, H p = some (.set S n))
  | _ => False
set_option linter.all false in private theorem tyV_is {pins : List (Addr × Obj)} {σ : St} {H : Hp} {s : Shared} {T : String} {x : V} {v : Value} (I : Inv X pins σ H s) (r : RelV x v) (ty : tyV X.K T x H) :
    s.TypeIs v T ∧ ∀ a, v = .ref a → ∃ ob, s.heap.get? a = some ob ∧ ob.dict = none := by
  cases x with
  | str z =>
    obtain ⟨t, rfl⟩ := r
    cases (show T = "str" from ty)
    exact ⟨typeIs_str s z t, fun _ e => nomatch e⟩
  | int i =>
    obtain ⟨t, rfl⟩ := r
    cases (show T = "int" from ty)
    exact ⟨typeIs_int s i t, fun _ e => nomatch e⟩
  | ref p =>
    cases r
    rcases ty with ⟨rfl, xs, hq⟩ | ⟨rfl, o, hk, hc, hd⟩ | ⟨rfl, hk⟩ | ⟨rfl, S, n, hk⟩
    · obtain ⟨its, _, pl, _⟩ := I.list hq
      refine ⟨pl.isList.typeIs, fun a e => ?_⟩
      cases e
      obtain ⟨o, n, e, c, hd, _⟩ := pl
      exact ⟨o, e, hd⟩
    · refine ⟨⟨o, I.kIn p o hk, hc⟩, fun a e => ?_⟩
      cases e
      exact ⟨o, I.kIn _ o hk, hd⟩
    · have z : ∃ o, s.heap.get? p = some o ∧ o.ExactDict := by
        rcases hk with ⟨kvs, hk⟩ | ⟨kvs, hk⟩
        · obtain ⟨_, _, _, _, o, _, _, e, ex, _⟩ := I.hok p _ hk
          exact ⟨o, e, ex⟩
        · obtain ⟨_, _, _, _, o, _, _, e, ex, _⟩ := I.hok p _ hk
          exact ⟨o, e, ex⟩
      obtain ⟨o, e, ex⟩ := z
      refine ⟨⟨o, e, ex.1⟩, fun a e2 => ?_⟩
      cases e2
      exact ⟨o, e, ex.2.1⟩
    · obtain ⟨o, _, _, _, e, ex, _⟩ := I.hok p _ hk
      refine ⟨⟨o, e, ex.1⟩, fun a e2 => ?_⟩
      cases e2
      exact ⟨o, e, ex.2.1⟩
  | _ => exact False.elim ty
set_option linter.all false in private noncomputable def tBM (K : PySem.W.Frag) (T : String) (r : V → List V → Hp → VK → Prop) (to : TE) (t : TA) : TE := fun σ H Q => to σ H fun x H1 => tyV K T x H1 ∧ t σ H1 fun xs H2 => r x xs H2 Q
variable {o e : Expr} {es : List Expr} {to : TE} {t : TA} {name : Str} {apos cpos : Pos} {T id : String} {r : V → List V → Hp → VK → Prop}
set_option linter.all false in private theorem pe_bm (pa : PlainAttrs T) (slot : Slot T name id) (hty : typeOf (.builtin id) = pure (.type "method_descriptor")) (hm : MtR X id r) (ho : PE X o to) (ha : PA X (e :: es) t)
    (hbase : attributeBase o name X.env (eval o X.env) = eval o X.env := by rfl)
    (hfew : ((backTo cpos (starEach (e :: es) X.env)).all (fun x => !x.1) && (backToKw cpos (keywordEach [] X.env)).all (fun x => x.1.isSome)
      && decide ((e :: es).length + ([] : List Keyword).length + (if ([] : List Keyword).isEmpty then 0 else 1) < 30)) = true := by rfl)
    (hline : (apos.endLine == cpos.line) = true := by rfl) (hs : starEach (e :: es) X.env = (false, eval e X.env) :: starEach es X.env := by rfl) (hplain : (backTo cpos (starEach es X.env)).any (·.1) = false := by rfl) :
    PE X (.Call (.Attribute o name apos) (e :: es) [] cpos) (tBM X.K T r to t) := by
  intro pins s σ H Q I h
  refine wpAny_Call_method_late hbase hfew hline rfl (thn (ho pins s σ H _ I h) fun v s1 ⟨x, H1, I1, r1, ty, q1⟩ => ?_)
  obtain ⟨h1, h2⟩ := tyV_is I1 r1 ty
  refine ⟨T, id, pa, slot, hty, h1, h2, ?_⟩
  have hA := ha cpos pins s1 σ H1 _ I1 q1
  rw [hs] at hA ⊢
  refine Calls.callWith_builtin (by show (false || (backTo cpos (starEach es X.env)).any (·.1)) = false; rw [hplain] <;> rfl) (Calls.evalArgs_plain ?_)
  exact thn hA fun us s2 ⟨vs, H2, I2, r2, q2⟩ => hm pins s2 σ H2 x vs v us Q I2 r1 r2 q2
/- xs.append(e), list.index on a module's tuple .. are MtR facts of 06m -/
end
end L2

namespace L2
open PySem PySem.Spec PyProof.Rows

set_option linter.all false in private noncomputable def MtM (X : Cx) (id : String) (r : V → List V → Hp → VK → Prop) : Prop :=
  ∀ (pins : List (Addr × Obj)) (s : Shared) (σ : St) (H : Hp) (x : V) (xs : List V) (v : Value) (us : List Value) (Q : VK), Inv X pins σ H s → RelV x v → Vals xs us → r x xs H Q →
    wpAny (model X.prog X.w) X.A (call (.builtin id) (v :: us)) (EP X pins σ Q) X.xe s

/-! ### lists of values -/
set_option linter.all false in private theorem Vals.one {x : V} {us : List Value} (h : Vals [x] us) : ∃ u, us = [u] ∧ RelV x u := by
  cases h with
  | cons r t => cases t; exact ⟨_, rfl, r⟩
set_option linter.all false in private theorem Vals.eraseIdx : ∀ {xs : List V} {us : List Value} (i : Nat), Vals xs us → Vals (xs.eraseIdx i) (us.eraseIdx i)
  | _, _, _, .nil => .nil
  | _, _, 0, .cons _ t => t
  | _, _, i + 1, .cons r t => .cons r (Vals.eraseIdx i t)
set_option linter.all false in private theorem len_erase {α : Type} : ∀ (l : List α) (i : Nat), (l.eraseIdx i).length ≤ l.length
  | [], _ => Nat.le_refl _
  | _ :: _, 0 => Nat.le_succ _
  | _ :: r, i + 1 => Nat.succ_le_succ (len_erase r i)
section
variable {X : Cx} {pins : List (Addr × Obj)} {σ : St} {H : Hp} {s : Shared} {l b : Addr} {xs ys zs : List V}

/-! ### the two steps: a tracked list is rewritten, a new list is laid -/
set_option linter.all false in private theorem Inv.lset {its its' : List Value} {n : Nat} {f : Array Value → Array Value} {t' : Nat} (I : Inv X pins σ H s) (hH : H l = some (.lst xs))
    (e : s.heap.get? l = some { cls := .type "list", data := .seq its.toArray n }) (hf : f its.toArray = its'.toArray) (hv : Vals ys its') (hz : ys.length ≤ sizeLine) :
    Inv X pins σ (upd H l (.lst ys)) { s with heap := s.heap.update l (Obj.mapSeq f), toks := t' } := by
  have q := PySem.IsL.update e f
  rw [hf] at q
  refine I.write (x := l) (e := l) (by rw [hH]; exact trivial) (.inl rfl) (fun b' u hb hu => (Heap.get?_update_other s.heap (Obj.mapSeq f) (Ne.symm hb)).trans hu) ⟨_, q⟩ ?_
  exact ⟨hz, its', _, hv, q⟩
set_option linter.all false in private theorem Inv.lnew {its : List Value} {t' : Nat} (I : Inv X pins σ H s) (hv : Vals ys its) (hz : ys.length ≤ sizeLine) :
    Inv X pins σ (upd H s.heap.objs.size (.lst ys)) { s with heap := s.heap.push { cls := .type "list", data := .seq its.toArray }, toks := t' } :=
  I.laid (fun _ _ q => Heap.get?_push_of_some _ q) (Nat.le_refl _) ⟨hz, its, 0, hv, Heap.get?_push_size _ rfl⟩
set_option linter.all false in private theorem Inv.fresh (I : Inv X pins σ H s) : H s.heap.objs.size = none := I.hok.fresh (Nat.le_refl _)
set_option linter.all false in private theorem Inv.lstM (I : Inv X pins σ H s) (hH : H l = some (.lst xs)) : xs.length ≤ sizeLine ∧ ∃ (its : List Value) (n : Nat), Vals xs its ∧ xs.length = its.length ∧ s.heap.get? l = some { cls := .type "list", data := .seq its.toArray n } := by
  obtain ⟨z, its, n, r, e⟩ := I.hok l _ hH
  exact ⟨z, its, n, r, r.length, e⟩

set_option linter.all false in private theorem notLongL {n : Nat} (h : n ≤ sizeLine) : Builtin.List.listTooLong n = false := by
  unfold Builtin.List.listTooLong
  exact decide_eq_false (by omega)
end

section
variable {X : Cx}

/-! ### methods -/
set_option linter.all false in private noncomputable def rAppend : V → List V → Hp → VK → Prop := fun x vs H Q => ∃ l xs y, x = .ref l ∧ vs = [y] ∧ H l = some (.lst xs) ∧ xs.length < sizeLine ∧ Q .non (upd H l (.lst (xs ++ [y])))
set_option linter.all false in private theorem mt_append : MtM X "list.append" rAppend := by
  intro pins s σ H x vs v us Q I rx rv h
  obtain ⟨l, xs, y, rfl, rfl, hH, hz, q⟩ := h
  cases rx
  obtain ⟨u, rfl, ru⟩ := rv.one
  obtain ⟨z, its, n, r, hl, e⟩ := I.lstM hH
  refine call_meets F.slot_list_append ⟨_, e, rfl⟩ F.entry_list_append (F.args_list_append_2 _ _) (PySem.list_append l its.toArray n u (by rw [List.size_toArray]; omega)) ⟨e, ?_⟩
  refine ⟨.non, _, I.lset (its' := its ++ [u]) hH e (by simp) (r.append (.cons ru .nil)) ?_, rfl, q⟩
  rw [List.length_append, List.length_singleton]
  omega

set_option linter.all false in private noncomputable def rExtend : V → List V → Hp → VK → Prop := fun x vs H Q => ∃ l b xs zs, x = .ref l ∧ vs = [.ref b] ∧ H l = some (.lst xs) ∧ H b = some (.lst zs) ∧ xs.length + zs.length ≤ sizeLine ∧ Q .non (upd H l (.lst (xs ++ zs)))
set_option linter.all false in private theorem mt_extend : MtM X "list.extend" rExtend := by
  intro pins s σ H x vs v us Q I rx rv h
  obtain ⟨l, b, xs, zs, rfl, rfl, hH, hB, hz, q⟩ := h
  cases rx
  obtain ⟨u, rfl, ru⟩ := rv.one
  cases ru
  obtain ⟨z, its, n, r, hl, e⟩ := I.lstM hH
  obtain ⟨z2, its2, n2, r2, hl2, e2⟩ := I.lstM hB
  have hsz : its.toArray.size + its2.toArray.size ≤ sizeLine := by rw [List.size_toArray, List.size_toArray]; omega
  have hlong : ¬ (!its.toArray.isEmpty && Builtin.List.listTooLong (its.toArray.size + its2.toArray.size)) = true := by
    rw [notLongL hsz, Bool.and_false]
    exact Bool.false_ne_true
  refine call_meets F.slot_list_extend ⟨_, e, rfl⟩ F.entry_list_extend (F.args_list_extend_2 _ _)
    (AutoSeq1.list_extend_list_list_0 l its.toArray n b its2.toArray n2 hlong (by rw [List.size_toArray]; omega) (by omega)) ⟨e, e2, ?_⟩
  refine ⟨.non, _, I.lset (its' := its ++ its2) hH e (by simp) (r.append r2) ?_, rfl, q⟩
  rw [List.length_append]
  omega

set_option linter.all false in private noncomputable def rPopAt : V → List V → Hp → VK → Prop := fun x vs H Q => ∃ l xs i k y, x = .ref l ∧ vs = [.int i] ∧ H l = some (.lst xs) ∧ -(2 ^ 63) ≤ i ∧ i < 2 ^ 63 ∧ seqIndex? i xs.length = some k ∧ xs[k]? = some y ∧ Q y (upd H l (.lst (xs.eraseIdx k)))
set_option linter.all false in private theorem mt_popAt : MtM X "list.pop" rPopAt := by
  intro pins s σ H x vs v us Q I rx rv h
  obtain ⟨l, xs, i, k, y, rfl, rfl, hH, h1, h2, hk, hy, q⟩ := h
  cases rx
  obtain ⟨u, rfl, ru⟩ := rv.one
  obtain ⟨t, rfl⟩ := ru
  obtain ⟨z, its, n, r, hl, e⟩ := I.lstM hH
  obtain ⟨w, hw, rw'⟩ := r.get hy
  refine call_meets F.slot_list_pop ⟨_, e, rfl⟩ F.entry_list_pop (F.args_list_pop_2 _ _)
    (MeetsSeq.list_pop_at l its.toArray n i t k w (fitsIndex_both h1 h2) (by rw [List.size_toArray, ← hl]; exact hk) (by rw [← Array.getElem?_toList]; exact hw) (by rw [List.size_toArray]; omega)) ⟨e, ?_⟩
  refine ⟨y, _, I.lset (its' := its.eraseIdx k) hH e ?_ (r.eraseIdx k) ?_, rw', q⟩
  · show its.toArray.eraseIdxIfInBounds k = (its.eraseIdx k).toArray
    rw [List.eraseIdxIfInBounds_toArray]
  · have := len_erase xs k
    omega

/-! ### list + list, list += list, list * int -/
set_option linter.all false in private noncomputable def rCat : R2 := fun x y H Q => ∃ l b xs zs, x = .ref l ∧ y = .ref b ∧ H l = some (.lst xs) ∧ H b = some (.lst zs) ∧ xs.length + zs.length ≤ sizeLine ∧ ∀ p, H p = none → Q (.ref p) (upd H p (.lst (xs ++ zs)))
set_option linter.all false in private theorem op_cat : OpR X (binaryOp .Add) rCat := by
  intro pins s σ H x y v u Q I rx ry h
  obtain ⟨l, b, xs, zs, rfl, rfl, hH, hB, hz, q⟩ := h
  cases rx
  cases ry
  obtain ⟨z, its, n, r, hl, e⟩ := I.lstM hH
  obtain ⟨z2, its2, n2, r2, hl2, e2⟩ := I.lstM hB
  refine PySem.P.add_list e e2 ?_ (by rw [List.size_toArray, List.size_toArray]; omega)
  have ea : its.toArray ++ its2.toArray = (its ++ its2).toArray := by simp
  rw [ea]
  exact ⟨.ref _, _, I.lnew (t' := s.toks) (r.append r2) (by rw [List.length_append]; omega), rfl, q _ I.fresh⟩
/-! ### del xs[i] -/
end

end L2

namespace L2
open PySem PySem.Spec PyProof.Rows

/-! ### lists of pairs as tables -/
section
variable {κ : Type} [DecidableEq κ]
set_option linter.all false in private noncomputable def valV (kvs : List (κ × V)) (k : κ) : Option V := (kvs.find? fun kv => decide (kv.1 = k)).map (·.2)
end


/-! ### a tracked dict, its keys ints and texts or tuples of these -/
set_option linter.all false in private theorem kV_is {P : Program} {w : World} {k : Key} {u : Value} (r : RelV (kV k) u) : (mixKind P w).is k u = true := by
  cases k with
  | inl i => obtain ⟨t, e⟩ := (show ∃ t, u = Value.int i t from r); subst e; exact mixKind_int P w i t
  | inr x => obtain ⟨t, e⟩ := (show ∃ t, u = Value.str x t from r); subst e; exact mixKind_str P w x t
  | no => cases (show u = Value.none from r); rfl
set_option linter.all false in private theorem items_are {P : Program} {w : World} : ∀ {ks : List Key} {us : List Value}, Vals (ks.map kV) us → ItemsAre (mixKind P w) ks us
  | [], _, r => by rw [List.map_nil] at r; cases r; exact .nil
  | k :: ks, _, r => by
    rw [List.map_cons] at r
    cases r with
    | cons h t => exact .cons (kV_is h) (items_are t)

set_option linter.all false in private noncomputable abbrev KT (H : Hp) : List (List Key × V) → List (List Key × Addr × Value) → Prop := Paired fun p q => p.1 = q.1 ∧ H q.2.1 = some (.tup (p.1.map kV)) ∧ RelV p.2 q.2.2
section
variable {P : Program} {w : World} {H : Hp} {h : Heap} {a : Addr}
set_option linter.all false in private theorem rd_of {u : HO} (ok : HOk P w H h) (e : Rd H a u) : ObjOk P w H h a u := e.ok ok
set_option linter.all false in private theorem dk_rd {kvs : List (Key × V)} (ok : HOk P w H h) (e : Rd H a (.dK kvs)) : kvs.length ≤ sizeLine ∧ (a == sysModules) = false ∧ ∃ vs, KV kvs vs ∧ h.DictOf (mixKind P w) a vs :=
  show ObjOk P w H h a (.dK kvs) from rd_of ok e
set_option linter.all false in private theorem key_of {ks : List Key} (ok : HOk P w H h) (e : H a = some (.tup (ks.map kV))) : (tupleKind (mixKind P w)).is h ks a := by
  obtain ⟨_, its, r, o, h1, h2, n, h3⟩ := (show ObjOk P w H h a (.tup (ks.map kV)) from ok a _ e)
  exact ⟨o, its.toArray, n, h1, h2, h3, by simpa using items_are r⟩
set_option linter.all false in private theorem dt_rd {kvs : List (List Key × V)} (ok : HOk P w H h) (e : Rd H a (.dT kvs)) : kvs.length ≤ sizeLine ∧ (a == sysModules) = false ∧
    ∃ xs, KT H kvs xs ∧ h.DictOfH (tupleKind (mixKind P w)) a xs := by
  obtain ⟨z, y, xs, r, o, es, ep, h1, h2, h3, h4, h5⟩ := (show ObjOk P w H h a (.dT kvs) from rd_of ok e)
  refine ⟨z, y, xs, r, o, es, ep, h1, h2, h3, h4, fun x hx => ?_, h5⟩
  have all : ∀ {l : List (List Key × V)} {m : List (List Key × Addr × Value)}, KT H l m → ∀ x ∈ m, (tupleKind (mixKind P w)).is h x.1 x.2.1 := by
    intro l m q
    induction q with
    | nil => intro x hx; exact nomatch hx
    | @cons p q ps qs hq t ih =>
      intro x hx
      rcases List.mem_cons.mp hx with e | hx
      · subst e
        exact key_of ok (by rw [← hq.1]; exact hq.2.1)
      · exact ih x hx
  exact all r x hx
end

set_option linter.all false in private noncomputable def DGet (H : Hp) (a : Addr) (y : V) (r : Option V) : Prop :=
  (∃ kvs k, Rd H a (.dK kvs) ∧ y = kV k ∧ r = valV kvs k) ∨ ∃ kvs k b, Rd H a (.dT kvs) ∧ y = .ref b ∧ H b = some (.tup (k.map kV)) ∧ r = valV kvs k
set_option linter.all false in private theorem DGet.k {H : Hp} {a : Addr} {kvs : List (Key × V)} {k : Key} (e : H a = some (.dK kvs)) : DGet H a (kV k) (valV kvs k) := .inl ⟨kvs, k, .inl e, rfl, rfl⟩
section
variable {X : Cx} {pins : List (Addr × Obj)} {σ : St} {H : Hp} {s : Shared} {a : Addr} {y v : V} {u r : Value} {o : Option V} {A : Around} {E : Value → Shared → Prop}

end

section
variable {X : Cx} {pins : List (Addr × Obj)} {σ : St} {H : Hp} {s : Shared} {a : Addr} {kvs : List (Key × V)} {k : Key} {u : Value} {A : Around} {E : Value → Shared → Prop}
end


/-! ### readings and rules -/
set_option linter.all false in private theorem dict_typeIs {X : Cx} {pins : List (Addr × Obj)} {σ : St} {H : Hp} {s : Shared} {a : Addr} {y : V} {o : Option V} (I : Inv X pins σ H s) (g : DGet H a y o) : s.TypeIs (.ref a) "dict" := by
  rcases g with ⟨kvs, k, e, _, _⟩ | ⟨kvs, k, b, e, _, _, _⟩
  · obtain ⟨_, _, vs, _, dd⟩ := dk_rd I.hok e
    exact dd.typeIs
  · obtain ⟨_, _, xs, _, dd⟩ := dt_rd I.hok e
    exact dd.typeIs
section
variable {X : Cx} {o i e value : Expr} {pos pos' tpos : Pos} {td ty tv : TE}
end


/-! ### displays -/
section
variable {X : Cx} {pos : Pos}
end

/-! ### methods -/
section
variable {X : Cx} {pins : List (Addr × Obj)} {σ : St} {H : Hp} {s : Shared} {a : Addr} {y d : V} {u r : Value} {o : Option V} {A : Around} {E : Value → Shared → Prop}
end

section
variable {X : Cx} {o e f : Expr} {apos cpos : Pos} {td ty tx : TE}
end

/-! ### dict(d): a copy -/
section
variable {X : Cx} {pins : List (Addr × Obj)} {σ : St} {H : Hp} {s : Shared} {a : Addr} {kvs : List (Key × V)} {A : Around} {E : Value → Shared → Prop}
end


section
variable {X : Cx} {pins : List (Addr × Obj)} {σ : St} {H : Hp} {s : Shared} {a : Addr} {y : V} {u : Value} {A : Around} {E : Value → Shared → Prop}
end
end L2

namespace Att
open PySem PySem.W PySem.Calls PyProof.Rows

/-! ### the script -/
set_option linter.all false in private theorem ints_of_wellAll {P : Params} {h : Heap} : ∀ (ns : List Int) (vs : List Value), WellAll P h vs (ns.map WData.int) → IntsAre vs ns := by
  intro ns
  induction ns with
  | nil =>
    intro vs w
    rw [List.map_nil] at w
    cases w
    exact .nil
  | cons n ns ih =>
    intro vs w
    rw [List.map_cons] at w
    cases w with
    | cons a b =>
      cases a
      exact .cons _ _ (ih _ b)

set_option linter.all false in private theorem script_of {l : OpenLaw} {n : Nat} (hn : l.most = some n) {P : Params} {h : Heap} {args : List WData} {vals : List Value}
    (hpre : l.row.toRowW.claim.pre args = true) (hwl : WellAll P h vals args) :
    ∃ a vs ns, vals = [Value.ref a] ∧ args = [WData.list (ns.map WData.int)] ∧ h.get? a = some { cls := .type "list", data := .seq vs.toArray } ∧ IntsAre vs ns ∧ ns.length ≤ n := by
  have hsh : WShape.hasAll [] args [.list .int] = true := (pre_splitW hpre).1
  have hc : l.pre.holds [] { args := args } = true := (pre_splitW hpre).2
  obtain ⟨d, r, rfl, h1, h2⟩ := hasAllW_cons hsh
  obtain rfl := hasAllW_nil h2
  obtain ⟨xs, rfl, h3⟩ := hasW_list h1
  obtain ⟨ns, rfl⟩ := items_int h3
  have hlen : ns.length ≤ n := by
    unfold OpenLaw.pre at hc
    have h4 : (WTm.not (.lt (.lit (.int (n : Int))) (.len (.arg 0)))).holds [] { args := [.list (ns.map .int)] } = true := by
      have h4 := (holds_andW hc).1
      rw [hn] at h4
      exact h4
    have h5 := condW_of h4 (w_not (w_lt w_lit (w_len_list (w_arg rfl))))
    rw [List.length_map] at h5
    refine Nat.le_of_not_lt fun q => ?_
    have q' : (n : Int) < ((ns.length : Nat) : Int) := by omega
    first
      | (rw [decide_eq_true q'] at h5; exact absurd h5 (by decide))
      | (simp at h5; omega)
  cases hwl with
  | cons w1 w2 =>
    cases w2
    cases w1 with
    | list ho hall => exact ⟨_, _, ns, rfl, rfl, ho, ints_of_wellAll ns _ hall, hlen⟩

set_option linter.all false in private theorem post_true (l : OpenLaw) (args : List WData) : l.row.toRowW.claim.post args (.bool true) args = true :=
  postW_of (r := l.row.toRowW) (X := (true == true))
    (show WShape.has [] (.bool true) .bool = true by first | rfl | decide | simp [WShape.has, WShape.arms, WShape.armsAll])
    (show (WTm.eq .res (.lit (.bool true))).value [] { args := args, res := some (.bool true), after := args } = some (.bool (true == true)) from w_eq_bool (w_res rfl) w_lit) rfl

/-! ### the attachment: holds_open's last premise (the goal 'hc' behind k_head) from a wpAny of the law's body -/
set_option linter.all false in private theorem attach_call {l : OpenLaw} {n : Nat} {q : Program} {loose : List Str} {XP : (Str → Option Value) → Heap → Prop} {YP : World → Heap → Prop} {d : DefRec}
    (hn : l.most = some n) (hdf : d.params.defaults = [])
    (call : ∀ (w : World) (s₀ s₁ : Shared) (mg mb : Str → Option Value) (fa : Addr) (o : Obj) (pm cd doc : Value) (a : Addr) (vs : List Value) (ns : List Int),
      Ground q loose [] XP w s₀ mg mb s₁.heap → YP w s₁.heap →
      s₁.heap.get? fa = some o → o.data = .func (docDef d.name d.params d.body d.scope pm cd doc) → s₁.heap.CodeRec cd d.name → mg d.name = some (.ref fa) →
      s₁.heap.get? a = some { cls := .type "list", data := .seq vs.toArray } → IntsAre vs ns → ns.length ≤ n → s₁.gens = #[] →
      codeAny (model l.prog w) callerA (.call (.ref fa) ⟨[.ref a], []⟩) (fun r s' => r = .ok (.ret (.bool true)) ∧ OldK s₁.heap s'.heap ∧ s'.os = s₁.os ∧ AllBare s'.gens) s₁) :
    WalkO q loose XP YP l.row.toRowW d [] (fun f vs => PySem.call f vs) := by
  intro w s₀ s₁ mg mb G Y fa o pm cd doc dV kV ho hd hcd hD hmg hg args vals as hpre hlay hrd hwl hlo
  obtain rfl : dV = .none := Dflts.none hD hdf
  obtain rfl : kV = .none := Dflts.noKw hD
  obtain ⟨a, vs, ns, rfl, rfl, hobj, hints, hlen⟩ := script_of hn hpre hwl
  refine enter_call (codeAny_mono (call w s₀ s₁ mg mb fa o pm cd doc a vs ns G Y ho (fd_plain hd) hcd hmg hobj hints hlen hg) fun r s' hq => ?_)
  obtain ⟨rfl, h2, h3, h4⟩ := hq
  exact ⟨.inl ⟨.bool true, .bool true, [], rfl, fun _ => rfl, .bool true, post_true l _, fun _ => ⟨List.Pairwise.nil, fun _ hm => (nomatch hm)⟩⟩, h2, h3, h4⟩

/-! ### rules over ANY heap (no ledger) from facts about the written part K: the library's own take a ledger (News) for what they write -/
section
variable {prog : Program} {w : World} {A : Around} {E : Value → Shared → Prop} {s : Shared} {K : Frag}

/-! the whole heap as the ledger: makes every rule that writes through a ledger a rule over any heap -/
set_option linter.all false in private noncomputable def ledger (h : Heap) (L d : Addr) : List (Addr × Obj) := (List.range h.objs.size).filterMap fun a => if a = L ∨ a = d then none else (h.get? a).map fun o => (a, o)
end
end Att

namespace L2
open PySem PySem.Spec PyProof.Rows

set_option linter.all false in private theorem vals_ints : ∀ {vs : List Value} {ns : List Int}, IntsAre vs ns → Vals (ns.map V.int) vs
  | _, _, .nil => .nil
  | _, _, .cons n t h => .cons ⟨t, rfl⟩ (vals_ints h)

set_option linter.all false in private noncomputable def Only (H : Hp) : Prop := ∀ b, H b = none ∨ ∃ o xs, H b = some (.frz o (.lst xs))

set_option linter.all false in private theorem law_call {P : Program} {w : World} {K : PySem.W.Frag} {mg mb : Str → Option Value} {CX : CXT} {k : Nat} {fa a : Addr} {fd : FuncData} {x : Str} {sp : Sp} {s₁ : Shared} {vs : List Value} {ns : List Int}
    (KX : K.In s₁.heap) (hns : s₁.heap.Ns mainGlobals mg) (hb : s₁.heap.Ns builtinsNs mb) (hbb : ∀ x : Str, x ≠ "__name__" → mb x = bootBuiltins x) (hlim : s₁.heap.NoLimit) (hg : s₁.gens = #[])
    (ha : s₁.heap.get? a = some { cls := .type "list", data := .seq vs.toArray }) (hi : IntsAre vs ns) (hl : ns.length ≤ sizeLine) (hr : Room k callerA)
    (F : ∀ base : Heap, K.In base → base.Ns mainGlobals mg → FnOk P w K mg base CX k fa fd [x] sp) (hbind : ∀ (s : Shared) (u : Value), BindsTo s fd ⟨[u], []⟩ [(x, u)])
    (hsp : ∀ H : Hp, Only H → SqL K H a (ns.map V.int) → sp [.ref a] H (fun v _ => v = .bl true) fun _ _ _ => False)
    (hCX : ∀ H e s', CX [] H s₁ (fun _ _ _ => False) e s' → False) :
    codeAny (model P w) callerA (.call (.ref fa) ⟨[.ref a], []⟩) (fun r s' => r = .ok (.ret (.bool true)) ∧ OldK s₁.heap s'.heap ∧ s'.os = s₁.os ∧ AllBare s'.gens) s₁ := by
  have rv := vals_ints hi
  have lenV := hi.length
  -- from an abstract heap in which nothing but the script may be tracked
  have core : ∀ H : Hp, Only H → SqL K H a (ns.map V.int) → HOk P w H s₁.heap → (∀ b, H b ≠ none → b = a) → (H a ≠ none → K.lookup a = none) →
      codeAny (model P w) callerA (.call (.ref fa) ⟨[.ref a], []⟩) (fun r s' => r = .ok (.ret (.bool true)) ∧ OldK s₁.heap s'.heap ∧ s'.os = s₁.os ∧ AllBare s'.gens) s₁ := by
    intro H hO hS hok hA hK
    have base_of : ∀ {b : Addr} {o : Obj}, s₁.heap.get? b = some o → H b = none → (hidT s₁.heap H).get? b = some o := fun e n => hidT_get e n
    have noA : ∀ {b : Addr} {o : Obj} {es : Array DictEntry} {ep : Nat}, s₁.heap.get? b = some o → o.data = .dict es ep → H b = none := fun {b o es ep} e d => by
      cases q : H b with
      | none => rfl
      | some u =>
        have e' : b = a := hA b (by rw [q]; simp)
        subst e'
        rw [ha] at e; cases e
        have d' : Data.seq vs.toArray _ = Data.dict es ep := d
        cases d'
    have nsK : ∀ {b : Addr} {m : Str → Option Value}, s₁.heap.Ns b m → (hidT s₁.heap H).Ns b m := fun {b m} ⟨o, es, ep, e, d, r⟩ => ⟨o, es, ep, base_of e (noA e d), d, r⟩
    have hKb : K.In (hidT s₁.heap H) := fun b o e => base_of (KX b o e) (by
      cases q : H b with
      | none => rfl
      | some u =>
        have e' : b = a := hA b (by rw [q]; simp)
        subst e'
        rw [hK (by rw [q]; simp)] at e; cases e)
    have hM : Mod K mg (hidT s₁.heap H) := ⟨hKb, nsK hns, ⟨mb, nsK hb, hbb⟩, let ⟨mc, h1, h2⟩ := hlim; ⟨mc, nsK h1, h2⟩⟩
    have e0 : Env0 P w K mg (hidT s₁.heap H) callerA [] s₁ H := ⟨rfl, hM, fun b o e => of_hidT e, Nat.le_of_eq (hidT_size _ _), trivial, fun b hb => absurd (show b ∈ ([] : List Addr) from hb) (by simp), hok, .of_eq hg⟩
    refine codeAny_mono ((F _ hKb (nsK hns)).run callerA [] s₁ H ⟨[.ref a], []⟩ [.ref a] [.ref a] _ _ hr e0 (hbind s₁ (.ref a)) (.cons rfl .nil) (hsp H hO hS)) fun r s' h => ?_
    cases r with
    | error e => exact (hCX H e s' h).elim
    | ok fl =>
      cases fl with
      | next => exact False.elim h
      | brk => exact False.elim h
      | cont => exact False.elim h
      | ret u =>
        obtain ⟨v, H', os, bare, un, hok', r', q⟩ := h
        have q' : v = .bl true := q
        subst q'
        obtain rfl : u = Value.bool true := r'
        refine ⟨rfl, OldK.of_keep fun b o e => ?_, os, bare⟩
        cases q : H b with
        | none => exact un.keep b o e q (by intro z; exact absurd (show b ∈ ([] : List Addr) from z) (by simp)) (by simp)
        | some u =>
          rcases hO b with z | ⟨ob, xs, z⟩
          · rw [q] at z; cases z
          · have z2 := un.frzs b ob _ z
            obtain ⟨e1, _⟩ := hok b _ z
            obtain ⟨e2, _⟩ := hok' b _ z2
            rw [e] at e1; cases e1
            exact e2
  cases hk : K.lookup a with
  | some o =>
    -- the script is one of the module's own objects
    have e := KX a o hk
    rw [ha] at e
    cases e
    refine core (fun _ => none) (fun _ => .inl rfl) (.inr ⟨_, vs.toArray, _, hk, rfl, rfl, rfl, by rw [List.size_toArray, lenV]; exact hl, by simpa using rv⟩) (fun b u z => by have z' : (none : Option HO) = some u := z; cases z') (fun b z => absurd rfl z) fun z => absurd rfl z
  | none =>
    refine core (fun b => if b = a then some (.frz { cls := .type "list", data := .seq vs.toArray } (.lst (ns.map V.int))) else none) (fun b => ?_) (.inl (.inr ⟨{ cls := .type "list", data := .seq vs.toArray }, if_pos rfl⟩)) (fun b u z => ?_) (fun b z => ?_) fun _ => hk
    · by_cases hb : b = a
      · exact .inr ⟨_, _, if_pos hb⟩
      · exact .inl (if_neg hb)
    · by_cases hb : b = a
      · have z' := (if_pos hb).symm.trans z
        cases z'
        subst hb
        exact ⟨ha, by rw [List.length_map]; exact hl, vs, _, rv, ha⟩
      · have z' := (if_neg hb).symm.trans z
        cases z'
    · by_cases hb : b = a
      · exact hb
      · exact absurd (if_neg hb) z
end L2

namespace L2
open PySem PySem.Spec PyProof.Rows

set_option linter.all false in private theorem walk_of {l : PySem.W.OpenLaw} {n k : Nat} {q : Program} {loose : List Str} {XP : (Str → Option Value) → Heap → Prop} {YP : World → Heap → Prop} {d : DefRec} {K : Params → PySem.W.Frag} {CX : World → CXT} {sp : World → Sp} {x : Str}
    (hn : l.most = some n) (hn2 : n ≤ sizeLine) (hdf : d.params.defaults = []) (hr : Room k callerA)
    (hY : ∀ (w : World) (h : Heap), YP w h → (K w.params).In h)
    (F : ∀ (w : World) (mg : Str → Option Value) (fa : Addr) (h : Heap), (K w.params).In h → h.Ns mainGlobals mg → mg d.name = some (.ref fa) →
      ∃ fd : FuncData, (∀ (s : Shared) (u : Value), BindsTo s fd ⟨[u], []⟩ [(x, u)]) ∧
        ∀ base : Heap, (K w.params).In base → base.Ns mainGlobals mg → FnOk l.prog w (K w.params) mg base (CX w) k fa fd [x] (sp w))
    (hsp : ∀ (w : World) (H : Hp) (a : Addr) (ns : List Int), ns.length ≤ n → Only H → SqL (K w.params) H a (ns.map V.int) → sp w [.ref a] H (fun v _ => v = .bl true) fun _ _ _ => False)
    (hCX : ∀ (w : World) (H : Hp) (s : Shared) (e : Value) (s' : Shared), CX w [] H s (fun _ _ _ => False) e s' → False) :
    PySem.W.WalkO q loose XP YP l.row.toRowW d [] (fun f vs => PySem.call f vs) := by
  refine Att.attach_call hn hdf fun w s₀ s₁ mg mb fa o pm cd doc a vs ns G Y ho hd hcd hmg hobj hints hlen hg => ?_
  have KX := hY w _ Y
  obtain ⟨fd, hb, hF⟩ := F w mg fa _ KX G.T.g hmg
  exact law_call KX G.T.g G.T.b G.T.builtins G.T.nolimit hg hobj hints (Nat.le_trans hlen hn2) hr hF hb (fun H hO hS => hsp w H a ns hlen hO hS) fun H e s' => hCX w H s₁ e s'
end L2



/-! SHORT WORDS over the layer: a def of the text, its body, what a loop and a test want. -/
namespace L2
open PySem PySem.Spec PyProof.Rows

/-! ### the text by places -/
set_option linter.all false in private noncomputable def inClass (s : Stmt) (j : Nat) : Stmt := match s with
  | .ClassDef _ _ _ body _ _ _ _ _ _ _ => body.getD j (.Pass ⟨0, 0, 0, 0⟩)
  | _ => .Pass ⟨0, 0, 0, 0⟩
set_option linter.all false in private noncomputable def defArgs (s : Stmt) : Arguments := match s with
  | .FunctionDef _ a _ _ _ _ _ _ _ _ => a
  | _ => { posonlyargs := [], args := [], vararg := none, kwonlyargs := [], kw_defaults := [], kwarg := none, defaults := [] }
set_option linter.all false in private noncomputable def defBody (s : Stmt) : List Stmt := match s with
  | .FunctionDef _ _ b _ _ _ _ _ _ _ => b
  | _ => []
set_option linter.all false in private noncomputable def defScope (s : Stmt) : Scope := match s with
  | .FunctionDef _ _ _ _ _ _ sc _ _ _ => sc
  | _ => { kind := .function, names := [], isGenerator := false, isCoroutine := false }

/-! ### no exception leaves a def -/
set_option linter.all false in private noncomputable abbrev CX0 : CXT := fun _ _ _ _ _ _ => False
set_option linter.all false in private noncomputable abbrev E0 : XK := fun _ _ _ => False
set_option linter.all false in private theorem pass0 {X : Cx} : Passes CX0 X E0 := fun _ _ _ _ _ _ _ h => h.elim

/-! ### a def (or method) of the text as it stands behind the top -/
set_option linter.all false in private structure Fun (K : PySem.W.Frag) (x qual : Str) (st : Stmt) (f : Addr) (fd : FuncData) : Prop where
  ex : ∃ (oc : Value) (od : Option Addr) (kV doc pm : Value) (an : Option Addr) (cdv ct : Value) (osl : Array (Option Value)),
    fd = PySem.W.fnOf x qual (defArgs st) (defBody st) (defScope st) .none kV doc pm an cdv ct ∧ K.lookup f = some ⟨oc, od, .func fd, osl⟩ ∧ PySem.W.codeIn K cdv qual = true
  kp : PySem.W.keepIn K (.ref f) = true
section
variable {P : Program} {w : World} {K : PySem.W.Frag} {mg : Str → Option Value} {base : Heap}
set_option linter.all false in private theorem Fun.ok {x qual : Str} {st : Stmt} {f : Addr} {fd : FuncData} {N ps : List Str} {k : Nat} {sp : Sp} (F : Fun K x qual st f fd) (S : FnScope N ps (defScope st)) (len : ∀ vs H Q E, sp vs H Q E → vs.length = ps.length)
    (hbody : ∀ (cdv : Value) (A : Around) (outer : List Env) (s : Shared) (H : Hp) (vs : List V) (Q : VK) (E : XK), Room k (A.deeper (envOfC qual (defScope st) s.heap.objs.size f cdv)) → sp vs H Q E →
      ∃ t, PSs (cxOf CX0 P w K mg base N qual (defScope st) f cdv A outer s H E).nox (defBody st) t ∧ t { nx := fun _ H' => Q .non H', rt := Q } (start N vs) H) : FnOk P w K mg base CX0 (k + 1) f fd ps sp := by
  obtain ⟨oc, od, kV, doc, pm, an, cdv, ct, osl, rfl, lk, hcd⟩ := F.ex
  refine fn_of lk hcd S len fun A outer s H vs Q E hr hsp => ?_
  obtain ⟨t, h, q⟩ := hbody cdv A outer s H vs Q E hr hsp
  exact ⟨t, h.nox, q⟩
set_option linter.all false in private theorem Fun.binds {x qual : Str} {st : Stmt} {f : Addr} {fd : FuncData} {ps : List Str} (F : Fun K x qual st f fd)
    (h : ∀ (kV doc pm : Value) (an : Option Addr) (cdv ct : Value) (us : List Value), us.length = ps.length → bindArgs (PySem.W.fnOf x qual (defArgs st) (defBody st) (defScope st) .none kV doc pm an cdv ct) ⟨us, []⟩ = pure (ps.zip us)) : Binds K fd ps [] := by
  obtain ⟨oc, od, kV, doc, pm, an, cdv, ct, osl, rfl, lk, hcd⟩ := F.ex
  exact .all (h kV doc pm an cdv ct)
set_option linter.all false in private theorem fun_mk {x qual : Str} {st : Stmt} {f : Addr} {oc : Value} {od an : Option Addr} {osl : Array (Option Value)} {kV doc pm cdv ct : Value} (l : K.lookup f = some ⟨oc, od, .func (PySem.W.fnOf x qual (defArgs st) (defBody st) (defScope st) .none kV doc pm an cdv ct), osl⟩)
    (c : PySem.W.codeIn K cdv qual = true) (k : PySem.W.keepIn K (.ref f) = true) : Fun K x qual st f (PySem.W.fnOf x qual (defArgs st) (defBody st) (defScope st) .none kV doc pm an cdv ct) := ⟨⟨oc, od, kV, doc, pm, an, cdv, ct, osl, rfl, l, c⟩, k⟩
end
set_option linter.all false in private theorem hu_of {A : Around} {k : Nat} (hr : Room k A) : A.units + 1 < cLine := Nat.lt_of_le_of_lt (Nat.add_le_add_left (by decide : 1 ≤ 64) _) hr.units
set_option linter.all false in private theorem small1000 {n : Nat} (h : n ≤ 1000) : n < sizeLine := Nat.lt_of_le_of_lt h (by decide)

/-! ### expressions in short: the name that stands in the i-th slot -/
section
variable {X : Cx}
set_option linter.all false in private theorem pv (i : Nat) {x : Str} {pos : Pos} (hN : X.N[i]? = some x := by rfl) (hv : Vis X.env.scope x := by trivial) (hd : (x == ("__debug__" : Str)) = false := by decide)
    (hcd : (x == ("__classdict__" : Str)) = false := by decide) : PE X (.Name x pos) (tVar i) := pe_var hN hv hd hcd
end

/-! ### tests -/
/-! ### heaps -/
set_option linter.all false in private noncomputable def Same (H H' : Hp) : Prop := ∀ b o, H b = some o → H' b = some o
set_option linter.all false in private theorem Same.seq {K : PySem.W.Frag} {H H' : Hp} {a : Addr} {xs : List V} (e : Same H H') (h : SqL K H a xs) : SqL K H' a xs := by
  rcases h with (h | ⟨o, h⟩) | h
  · exact .inl (.inl (e _ _ h))
  · exact .inl (.inr ⟨o, e _ _ h⟩)
  · exact .inr h

end L2

namespace L2
open PySem PySem.Spec PyProof.Rows
section
variable {X : Cx}
end
end L2
namespace L2
open PySem PySem.Spec PyProof.Rows
/-! ### a dict's pairs: keys that differ -/
section
variable {κ : Type} [DecidableEq κ]
end
end L2

set_option maxHeartbeats 4000000
namespace L2
open PySem PySem.Spec PyProof.Rows
set_option linter.all false in private theorem bt_int : bootBuiltins "int" = some (.type "int") := by decide +kernel
set_option linter.all false in private theorem bt_str : bootBuiltins "str" = some (.type "str") := by decide +kernel
set_option linter.all false in private theorem bt_tuple : bootBuiltins "tuple" = some (.type "tuple") := by decide +kernel
set_option linter.all false in private theorem bt_isinstance : bootBuiltins "isinstance" = some (.builtin "isinstance") := by decide +kernel
set_option linter.all false in private theorem bt_max : bootBuiltins "max" = some (.builtin "max") := by decide +kernel
set_option linter.all false in private theorem bt_all : bootBuiltins "all" = some (.builtin "all") := by decide +kernel
set_option linter.all false in private theorem bt_len : bootBuiltins "len" = some (.builtin "len") := by decide +kernel
section
variable {X : Cx}
set_option linter.all false in private noncomputable def CDivB (_ j : Int) : Prop := 0 < j ∧ j.natAbs.log2 < 9000
set_option linter.all false in private theorem op_fdivB : OpR X (binaryOp .FloorDiv) (rI CDivB fun i j => .int (i / j)) := opI fun i j _ _ _ _ _ hc q => by
  have h1 : (0 : Int) < j := hc.1
  exact floordiv_int (by omega) (by rw [Int.fdiv_eq_ediv_of_nonneg i (by omega)]; exact q) (.inl (PyProof.noPylong_of_log2 hc.2))
set_option linter.all false in private theorem log2_lt {j : Int} (h0 : 0 < j) (h : j ≤ 10 ^ 45) : j.natAbs.log2 < 9000 := by
  have h1 : j.natAbs ≤ 10 ^ 45 := by omega
  have h2 : j.natAbs < 2 ^ 150 := Nat.lt_of_le_of_lt h1 (by decide)
  have h3 : j.natAbs.log2 < 150 := (Nat.log2_lt (by omega)).mpr h2
  omega

set_option linter.all false in private inductive IsI (K : PySem.W.Frag) (H : Hp) : V → String → Bool → Prop
  | ii (n : Int) : IsI K H (.int n) "int" true
  | ib (n : Int) : IsI K H (.int n) "bool" false
  | is (n : Int) : IsI K H (.int n) "str" false
  | it (n : Int) : IsI K H (.int n) "tuple" false
  | bi (b : Bool) : IsI K H (.bl b) "int" true
  | bb (b : Bool) : IsI K H (.bl b) "bool" true
  | bs (b : Bool) : IsI K H (.bl b) "str" false
  | bt (b : Bool) : IsI K H (.bl b) "tuple" false
  | si (x : Str) : IsI K H (.str x) "int" false
  | sb (x : Str) : IsI K H (.str x) "bool" false
  | ss (x : Str) : IsI K H (.str x) "str" true
  | st (x : Str) : IsI K H (.str x) "tuple" false
  | ni : IsI K H .non "int" false
  | nb : IsI K H .non "bool" false
  | ns : IsI K H .non "str" false
  | nt : IsI K H .non "tuple" false
  | li {a : Addr} {xs : List V} : SqL K H a xs → IsI K H (.ref a) "int" false
  | lb {a : Addr} {xs : List V} : SqL K H a xs → IsI K H (.ref a) "bool" false
  | ls {a : Addr} {xs : List V} : SqL K H a xs → IsI K H (.ref a) "str" false
  | lt {a : Addr} {xs : List V} : SqL K H a xs → IsI K H (.ref a) "tuple" false
  | ti {a : Addr} {xs : List V} : SqT K H a xs → IsI K H (.ref a) "int" false
  | tb {a : Addr} {xs : List V} : SqT K H a xs → IsI K H (.ref a) "bool" false
  | ts {a : Addr} {xs : List V} : SqT K H a xs → IsI K H (.ref a) "str" false
  | tt {a : Addr} {xs : List V} : SqT K H a xs → IsI K H (.ref a) "tuple" true
  | di {a : Addr} {kvs : List (Key × V)} : H a = some (.dK kvs) → IsI K H (.ref a) "int" false
  | db {a : Addr} {kvs : List (Key × V)} : H a = some (.dK kvs) → IsI K H (.ref a) "bool" false
  | ds {a : Addr} {kvs : List (Key × V)} : H a = some (.dK kvs) → IsI K H (.ref a) "str" false
set_option linter.all false in private theorem Inv.listObj {pins : List (Addr × Obj)} {σ : St} {H : Hp} {s : Shared} {a : Addr} {xs : List V} (I : Inv X pins σ H s) (h : SqL X.K H a xs) : ∃ o, s.heap.get? a = some o ∧ o.cls = .type "list" := by
  obtain ⟨its, _, ⟨o, n, e, c, _, _⟩, _⟩ := I.list h
  exact ⟨o, e, c⟩
set_option linter.all false in private theorem Inv.tupObj {pins : List (Addr × Obj)} {σ : St} {H : Hp} {s : Shared} {a : Addr} {xs : List V} (I : Inv X pins σ H s) (h : SqT X.K H a xs) : ∃ o, s.heap.get? a = some o ∧ o.cls = .type "tuple" := by
  obtain ⟨its, _, ⟨o, e, c, _⟩, _⟩ := I.tuple h
  exact ⟨o, e, c⟩
set_option linter.all false in private theorem Inv.dictObj {pins : List (Addr × Obj)} {σ : St} {H : Hp} {s : Shared} {a : Addr} {kvs : List (Key × V)} (I : Inv X pins σ H s) (h : H a = some (.dK kvs)) : ∃ o, s.heap.get? a = some o ∧ o.cls = .type "dict" :=
  dict_typeIs I (DGet.k (k := .inl 0) h)
set_option linter.all false in private theorem call_isi : CallR X (.builtin "isinstance") (fun xs H Q => ∃ v T b, xs = [v, .ty T] ∧ IsI X.K H v T b ∧ Q (.bl b) H) := by
  intro pins s σ H xs us Q I r h
  obtain ⟨v, T, b, rfl, hi, q⟩ := h
  obtain ⟨u, w', rfl, r1, r2⟩ := vals2 r
  cases r2
  have fin : EP X pins σ Q (.bool b) s := ⟨.bl b, H, I, rfl, q⟩
  have fin' : EP X pins σ Q (.bool b) { s with toks := s.toks + 1 } := ⟨.bl b, H, I.tok _, rfl, q⟩
  cases hi with
  | ii n => obtain ⟨t, rfl⟩ := r1; exact IsiPair.int_int fin
  | ib n => obtain ⟨t, rfl⟩ := r1; exact IsiPair.int_bool fin'
  | is n => obtain ⟨t, rfl⟩ := r1; exact IsiPair.int_str fin'
  | it n => obtain ⟨t, rfl⟩ := r1; exact IsiPair.int_tuple fin'
  | bi b => cases r1; exact IsiPair.bool_int fin
  | bb b => cases r1; exact IsiPair.bool_bool fin
  | bs b => cases r1; exact IsiPair.bool_str fin'
  | bt b => cases r1; exact IsiPair.bool_tuple fin'
  | si x => obtain ⟨t, rfl⟩ := r1; exact IsiPair.str_int fin'
  | sb x => obtain ⟨t, rfl⟩ := r1; exact IsiPair.str_bool fin'
  | ss x => obtain ⟨t, rfl⟩ := r1; exact IsiPair.str_str fin
  | st x => obtain ⟨t, rfl⟩ := r1; exact IsiPair.str_tuple fin'
  | ni => cases r1; exact IsiPair.NoneType_int fin'
  | nb => cases r1; exact IsiPair.NoneType_bool fin'
  | ns => cases r1; exact IsiPair.NoneType_str fin'
  | nt => cases r1; exact IsiPair.NoneType_tuple fin'
  | li hl => cases r1; obtain ⟨o, e, c⟩ := Inv.listObj I hl; exact IsiPair.list_int e c fin'
  | lb hl => cases r1; obtain ⟨o, e, c⟩ := Inv.listObj I hl; exact IsiPair.list_bool e c fin'
  | ls hl => cases r1; obtain ⟨o, e, c⟩ := Inv.listObj I hl; exact IsiPair.list_str e c fin'
  | lt hl => cases r1; obtain ⟨o, e, c⟩ := Inv.listObj I hl; exact IsiPair.list_tuple e c fin'
  | ti hl => cases r1; obtain ⟨o, e, c⟩ := Inv.tupObj I hl; exact IsiPair.tuple_int e c fin'
  | tb hl => cases r1; obtain ⟨o, e, c⟩ := Inv.tupObj I hl; exact IsiPair.tuple_bool e c fin'
  | ts hl => cases r1; obtain ⟨o, e, c⟩ := Inv.tupObj I hl; exact IsiPair.tuple_str e c fin'
  | tt hl => cases r1; obtain ⟨o, e, c⟩ := Inv.tupObj I hl; exact IsiPair.tuple_tuple e c fin
  | di hl => cases r1; obtain ⟨o, e, c⟩ := Inv.dictObj I hl; exact IsiPair.dict_int e c fin'
  | db hl => cases r1; obtain ⟨o, e, c⟩ := Inv.dictObj I hl; exact IsiPair.dict_bool e c fin'
  | ds hl => cases r1; obtain ⟨o, e, c⟩ := Inv.dictObj I hl; exact IsiPair.dict_str e c fin'

end
/-! ### an argument list item by item, the rest a letter -/
set_option linter.all false in private noncomputable def isStar : Expr → Bool
  | .Starred .. => true
  | _ => false
set_option linter.all false in private theorem star_cons {e : Expr} {es : List Expr} {env : Env} (h : isStar e = false) : starEach (e :: es) env = (false, eval e env) :: starEach es env := by
  cases e <;> first | rfl | cases h
section
variable {X : Cx} {e : Expr} {es : List Expr} {te : TE} {t : TA}
set_option linter.all false in private theorem pa_n (ha : PE X e te) (hr : PA X es t) (h : isStar e = false := by rfl) : PA X (e :: es) (tCons te t) := pa_cons ha hr (star_cons h)
end
end L2
namespace L2
open PySem PySem.Spec PyProof.Rows

set_option linter.all false in private noncomputable abbrev noteE (prog : Program) (w : World) (A : Around) (env : Env) (R : Result → Shared → Prop) : Value → Shared → Prop := notedBy (model prog w) A env fun e s' => R (.error e) s'
set_option linter.all false in private noncomputable abbrev testsOf (ifs : List Expr) (env : Env) : Sem Bool := forIn ifs true fun c r => if r = true then do let ok ← isTrue c env (eval c env); pure (ForInStep.yield ok) else pure (ForInStep.yield r)

section
variable {prog : Program} {w : World} {A : Around} {R : Result → Shared → Prop} {s : Shared}
set_option linter.all false in private theorem compLoop_go {elt target iter : Expr} {ifs : List Expr} {scope : Scope} {pos : Pos} {it acc : Value} {env : Env} (I : Nat → Shared → Prop)
    (turn : ∀ n s, I n s → wpAny (model prog w) A (pyNext it) (fun r s₁ => match r with
      | none => R (.ok .next) s₁
      | some v => wpAny (model prog w) A (letOwnedTupleGo target it v) (fun _ s₁' => wpAny (model prog w) A (assign target env v) (fun _ s₂ =>
          wpAny (model prog w) A (testsOf ifs env) (fun ok s₃ =>
            if ok = true then wpAny (model prog w) A (eval elt env) (fun x s₄ =>
              wpAny (model prog w) A (call (.builtin "list.append") [acc, x]) (fun _ s₅ => ∃ m, m < n ∧ I m s₅) (noteE prog w A env R) s₄) (noteE prog w A env R) s₃
            else ∃ m, m < n ∧ I m s₃) (noteE prog w A env R) s₂) (noteE prog w A env R) s₁') (noteE prog w A env R) s₁) (noteE prog w A env R) s)
    (n : Nat) (h : I n s) : codeAny (model prog w) A (.compLoop (.ListComp elt [⟨target, iter, ifs, 0⟩] scope pos) 0 it acc env) R s := by
  refine codeAny_loop rfl I (fun n s hI => ?_) n h
  show wpAny _ A ((compTurn (.ListComp elt [⟨target, iter, ifs, 0⟩] scope pos) 0 it acc env).onRaise (fun x => do noteFrame x env; theTreesLotGoes x)) _ _ s
  refine wpAny_noted ?_
  rw [compTurn_list]
  refine wpAny_bind (wpAny_standAt (wpAny_bind (wpAny_mono (turn n s hI) (fun r s₁ h₁ => ?_) fun _ _ h' => h')))
  cases r with
  | none => exact wpAny_pure h₁
  | some v =>
    refine wpAny_bind (wpAny_mono h₁ (fun _ s₁' h₁' => ?_) fun _ _ h' => h')
    refine wpAny_bind (wpAny_mono h₁' (fun _ s₂ h₂ => wpAny_bind (wpAny_mono h₂ (fun ok s₃ h₃ => ?_) fun _ _ h' => h')) fun _ _ h' => h')
    cases ok with
    | false => exact wpAny_pure ⟨rfl, h₃⟩
    | true =>
      exact wpAny_bind (wpAny_bind (wpAny_mono h₃ (fun x s₄ h₄ => wpAny_bind (wpAny_mono h₄ (fun _ s₅ h₅ => wpAny_pure (wpAny_pure ⟨rfl, h₅⟩)) fun _ _ h' => h')) fun _ _ h' => h'))
end

/-! ### a comprehension's block as a context of its own -/
set_option linter.all false in private noncomputable def compCx (X : Cx) (sc : Scope) (cl : List (Str × Addr)) (C : Addr) (N : List Str) (s : Shared) (H : Hp) (ex : List Addr) (pn : List (Addr × Obj)) : Cx :=
  { X with env := compEnvC sc cl C X.env, N := N, s₀ := s, H₀ := H, outer := X.stack, ex := ex, fn := fun _ => false, pn := pn }
set_option linter.all false in private structure CompSc (X : Cx) (sc : Scope) (cl : List (Str × Addr)) (x : Str) (fr : List Nat) (N : List Str) : Prop where
  kind : sc.kind = .function
  nocell : ∀ y ∈ sc.names, y.2 ≠ .cell
  names : ∀ y ∈ sc.names, y.2 = .local → sc.names.lookup y.1 = some .local
  clos : closureFor sc X.env = pure cl
  sub : ∀ y c, cl.lookup y = some c → X.env.cells.lookup y = some c
  has : ∀ y, ((relabel sc X.env).names.lookup y = some .cell ∨ (relabel sc X.env).names.lookup y = some .free) → ∃ c, cl.lookup y = some c
  tgt : sc.names.lookup x = some .local
  nd : N.Nodup
  N0 : N = x :: fr.map fun j => X.N.getD j x
  frc : ∀ j ∈ fr, ∃ y, X.N[j]? = some y ∧ X.env.kindOf y = some .cell ∧ ((relabel sc X.env).names.lookup y = some .cell ∨ (relabel sc X.env).names.lookup y = some .free)
set_option linter.all false in private noncomputable def compSt (fr : List Nat) (σ : St) : St := fr.map fun j => (σ[j]?).join

section
variable {X : Cx} {pins : List (Addr × Obj)} {σ : St} {H : Hp} {s : Shared} {sc : Scope} {cl : List (Str × Addr)} {C : Addr} {x : Str} {fr : List Nat} {N : List Str} {fp : List Addr}
set_option linter.all false in private theorem comp_ok (I : Inv X pins σ H s) (S : CompSc X sc cl x fr N) (hf : ∀ b ∈ fp, FpOk X pins H b) (hfo : ∀ b ∈ fp, b < s.heap.objs.size) (hC : s.heap.objs.size ≤ C) :
    (compCx X sc cl C N s H fp (X.pn ++ pins)).Ok where
  mod := I.ok.mod
  kind := S.kind
  glob := I.ok.glob
  blt := I.ok.blt
  above := hC
  inj := fun y z c h1 h2 => I.ok.inj y z c (S.sub y c h1) (S.sub z c h2)
  has := S.has
  cab := fun _ _ h => by cases h
  hd := I.ok.hd
  frames := I.ok.frames
  stk := .inl rfl
  exf := fun b hb => ⟨Nat.ne_of_lt (Nat.lt_of_lt_of_le (hfo b hb) hC), fun y c e => (hf b hb).2.2.2.2.1 y c (S.sub y c e)⟩
  bs := I.bs
  bsz := Nat.le_trans I.ok.bsz I.sz
  noex := fun b o e hb => by
    rcases (hf b hb).2.2.2.1 with z | z
    · exact I.ok.noex b o e z
    · exact absurd (Nat.lt_of_lt_of_le (Heap.lt_size e) (Nat.le_trans I.ok.bsz z)) (Nat.lt_irrefl _)
  exfs := fun b hb hm => by
    rcases List.mem_cons.mp (I.stkSub b hm) with z | z
    · exact (hf b hb).2.1 z
    · exact (hf b hb).2.2.1 z
  funs := I.stack
  frf := I.stkFree

set_option linter.all false in private theorem nostk (I : Inv X pins σ H s) {b : Addr} (h1 : b ≠ X.env.locals) (h2 : b ∉ X.fs) : b ∉ frs X.stack := fun hm => by
  rcases List.mem_cons.mp (I.stkSub b hm) with z | z
  · exact h1 z
  · exact h2 z

set_option linter.all false in private theorem comp_inv (I : Inv X pins σ H s) (S : CompSc X sc cl x fr N) (hf : ∀ b ∈ fp, FpOk X pins H b) (hfo : ∀ b ∈ fp, b < s.heap.objs.size) (hC : s.heap.objs.size ≤ C) {h1 : Heap} {t1 : Nat} {m0 : Str → Option Value}
    (hn : h1.Ns C m0) (hk : ∀ b o, s.heap.get? b = some o → h1.get? b = some o) : Inv (compCx X sc cl C N s H fp (X.pn ++ pins)) [] (none :: compSt fr σ) H { s with heap := h1, toks := t1 } := by
  refine ⟨comp_ok I S hf hfo hC, rfl, I.bare, Un.kept hk, ⟨m0, hn, fun i y v e1 e2 e3 => ?_⟩, fun y c e => ?_, I.hok.fresh hC, fun y c e => I.freeC y c (S.sub y c e), fun p hp => ?_, I.hok.kept hk, ?_⟩
  · have e1' : N[i]? = some y := e1
    rw [S.N0] at e1'
    cases i with
    | zero =>
      have z : (some (none : Option V)) = some (some v) := e2
      cases z
    | succ j =>
      have e1'' : (fr.map fun j => X.N.getD j x)[j]? = some y := e1'
      have e2' : (compSt fr σ)[j]? = some (some v) := e2
      unfold compSt at e2'
      rw [List.getElem?_map] at e1'' e2'
      cases q : fr[j]? with
      | none => rw [q] at e1''; cases e1''
      | some k =>
        rw [q] at e1'' e2'
        have ey : X.N.getD k x = y := Option.some.inj e1''
        have ev : (σ[k]?).join = some v := Option.some.inj e2'
        obtain ⟨y', hy, hkind, hvis⟩ := S.frc k (List.mem_of_getElem? q)
        have eyy : y = y' := by
          rw [← ey, List.getD_eq_getElem?_getD, hy]
          rfl
        subst eyy
        have ev' : σ[k]? = some (some v) := by
          cases z : σ[k]? with
          | none => rw [z] at ev; cases ev
          | some o =>
            rw [z] at ev
            have ev2 : o = some v := ev
            rw [ev2]
        obtain ⟨m, _, hl⟩ := I.loc
        obtain ⟨u, r, l⟩ := hl k y v hy ev' (.inr (.inl hkind))
        refine ⟨u, r, .inr ⟨hvis, ?_⟩⟩
        rcases l with ⟨z, _⟩ | ⟨_, c, hc, o, ho, hd⟩
        · rw [hkind] at z
          cases z
        · obtain ⟨c', hc'⟩ := S.has y hvis
          have z := S.sub y c' hc'
          rw [hc] at z
          cases z
          exact ⟨c, hc', o, hk c o ho, hd⟩
  · obtain ⟨v, o, ho, hd⟩ := I.cell y c (S.sub y c e)
    exact ⟨v, o, hk c o ho, hd⟩
  · have hp' : p ∈ X.pn ++ pins := by
      have z : p ∈ (X.pn ++ pins) ++ [] := hp
      simpa using z
    obtain ⟨e, n, ne, nf, d⟩ := I.pin p hp'
    exact ⟨hk _ _ e, n, Nat.ne_of_lt (Nat.lt_of_lt_of_le (Heap.lt_size e) hC), nostk I ne nf, d⟩
  · show (none :: compSt fr σ).length = N.length
    rw [S.N0]
    simp [compSt]

set_option linter.all false in private theorem comp_end (I : Inv X pins σ H s) (hf : ∀ b ∈ fp, FpOk X pins H b) {D : Addr} {pl : List (Addr × Obj)} {σ' : St} {H' : Hp} {s' : Shared} (J : Inv (compCx X sc cl C N s H fp (X.pn ++ pins)) pl σ' H' s')
    (hC : s.heap.objs.size ≤ C) (hD : s.heap.objs.size ≤ D) (hDC : D ≠ C) (hDn : H' D = none) {xs : List V} {vals : List Value} {k : Nat} (hg : s'.heap.get? D = some { cls := .type "list", data := .seq vals.toArray k }) (rv : Vals xs vals) (hz : xs.length ≤ sizeLine)
    {h' : Heap} (hs : Heap.SameBut C s'.heap h') : Inv X pins σ (upd H' D (.lst xs)) { s' with heap := h' } := by
  have lt : ∀ {b : Addr} {o : Obj}, s.heap.get? b = some o → b < s.heap.objs.size := fun e => Heap.lt_size e
  have neC : ∀ {b : Addr} {o : Obj}, s.heap.get? b = some o → b ≠ C := fun e => Nat.ne_of_lt (Nat.lt_of_lt_of_le (Heap.lt_size e) hC)
  have neD : ∀ {b : Addr} {o : Obj}, s.heap.get? b = some o → b ≠ D := fun e => Nat.ne_of_lt (Nat.lt_of_lt_of_le (Heap.lt_size e) hD)
  have neDt : ∀ {b : Addr} {o : HO}, H b = some o → b ≠ D := fun e => Nat.ne_of_lt (Nat.lt_of_lt_of_le (I.hok.lt e) hD)
  have base : Un (frs X.stack) fp H H' s.heap s'.heap := J.base
  have HC : H' C = none := J.free
  refine I.call' (s' := { s' with heap := h' }) (ch := fp) J.os ⟨fun b o e n hb hx => ?_, fun b o e n hb hx => ?_, fun b o e n hx => ?_, fun b o e hx => ?_, fun b ys e => ?_, fun b o u e => ?_, fun b ps e => ?_⟩ (fun b u e => ?_) J.bare (fun b hb => ?_)
  · exact (hs.2 b (neC e)).trans (base.keep b o e n hb hx)
  · obtain ⟨sl, q⟩ := base.slot b o e n hb hx
    exact ⟨sl, (hs.2 b (neC e)).trans q⟩
  · rw [upd_ne (neD e)]
    exact base.free b o e n hx
  · obtain ⟨o', q⟩ := base.there b o e hx
    exact ⟨o', (hs.2 b (neC e)).trans q⟩
  · rw [upd_ne (neDt e)]
    exact base.tups b ys e
  · rw [upd_ne (neDt e)]
    exact base.frzs b o u e
  · rw [upd_ne (neDt e)]
    exact base.tbls b ps e
  · by_cases hb : b = D
    · subst hb
      rw [upd_same] at e
      cases e
      exact ⟨hz, vals, k, rv, (hs.2 b hDC).trans hg⟩
    · rw [upd_ne hb] at e
      have tC : ∀ {c : Addr} {o : HO}, H' c = some o → c ≠ C := fun q z => by rw [z, HC] at q; cases q
      have tD : ∀ {c : Addr} {o : HO}, H' c = some o → c ≠ D := fun q z => by rw [z, hDn] at q; cases q
      refine (J.hok b u e).stay (fun c v hc q => (hs.2 c ?_).trans q) (fun c q => by rw [upd_ne (tD q)]; exact q) fun c ys q => by rw [upd_ne (tD q)]; exact q
      rcases hc with z | z
      · rw [z]; exact tC e
      · exact tC z
  · obtain ⟨_, f1, _, f3, f4, f5⟩ := hf b hb
    exact ⟨f3, f1, f4, f5⟩
end

set_option linter.all false in private noncomputable def PTs (Y : Cx) (ifs : List Expr) (t : TT) : Prop :=
  ∀ (pins : List (Addr × Obj)) (s : Shared) (σ : St) (H : Hp) (Q : Bool → Hp → Prop), Inv Y pins σ H s → t σ H Q → wpAny (model Y.prog Y.w) Y.A (testsOf ifs Y.env) (TP Y pins σ Q) Y.xe s
set_option linter.all false in private noncomputable def tTrue : TT := fun _ H Q => Q true H
set_option linter.all false in private theorem pts_nil {Y : Cx} : PTs Y [] tTrue := fun _ _ _ H _ I h => wpAny_tests_nil ⟨H, I, h⟩
set_option linter.all false in private theorem pts_one {Y : Cx} {c : Expr} {t : TT} (h : PT Y c t) : PTs Y [c] t := fun pins s σ H Q I hw => wpAny_tests_one (h pins s σ H Q I hw)

set_option linter.all false in @[irreducible] def tComp (wi : TI) (fr : List Nat) (tc : TT) (te : TE) : TE := fun σ H Q => wi σ H fun J H1 => ∃ W : Nat → Nat → List V → Hp → Prop, (∃ m, W 0 m [] H1) ∧ ∀ i m xs H, W i m xs H → xs.length ≤ 1000000 ∧
  ((J.stop i H ∧ ∀ p, H p = none → Q (.ref p) (upd H p (.lst xs))) ∨
   (J.go i H ∧ ∀ y H', J.yld i H y H' → tc (some y :: compSt fr σ) H' fun b H2 => if b = true then te (some y :: compSt fr σ) H2 (fun z H3 => ∃ m', m' < m ∧ W (i + 1) m' (xs ++ [z]) H3) else ∃ m', m' < m ∧ W (i + 1) m' xs H2))

section
variable {X : Cx} {sc : Scope} {cl : List (Str × Addr)} {x : Str} {fr : List Nat} {N : List Str} {elt iter : Expr} {px pos : Pos} {ifs : List Expr} {wi : TI} {tc : TT} {te : TE}
set_option linter.all false in private theorem comp_block (hc : X.calm = true) (hx : ∀ e s, ¬ X.xe e s) (S : CompSc X sc cl x fr N)
    (hb : ∀ C s H ex pn, PTs (compCx X sc cl C N s H ex pn) ifs tc ∧ PE (compCx X sc cl C N s H ex pn) elt te)
    {pins : List (Addr × Obj)} {σ : St} {H : Hp} {s : Shared} {it : Addr} {fp : List Addr} {tn : Nat → Heap → Prop} {J : It} {Q : VK} {RR : Value → Addr → Result → Shared → Prop} {E : Value → Shared → Prop}
    (I : Inv X pins σ H s) (T : Turn X.prog X.w X.K (.Name x px) J fp it tn) (st : tn 0 s.heap) (hf : ∀ b ∈ fp, FpOk X pins H b)
    {W : Nat → Nat → List V → Hp → Prop} {m0 : Nat} (w0 : W 0 m0 [] H)
    (turn : ∀ i m xs H, W i m xs H → xs.length ≤ 1000000 ∧
      ((J.stop i H ∧ ∀ p, H p = none → Q (.ref p) (upd H p (.lst xs))) ∨
       (J.go i H ∧ ∀ y H', J.yld i H y H' → tc (some y :: compSt fr σ) H' fun b H2 => if b = true then te (some y :: compSt fr σ) H2 (fun z H3 => ∃ m', m' < m ∧ W (i + 1) m' (xs ++ [z]) H3) else ∃ m', m' < m ∧ W (i + 1) m' xs H2)))
    (fin : ∀ (D C : Addr) (s' : Shared) (m' : Str → Option Value) (H' : Hp), s'.heap.Ns C m' → FpOk X pins H' C → (∀ h', Heap.SameBut C s'.heap h' → Inv X pins σ H' { s' with heap := h' }) → Q (.ref D) H' → RR (.ref D) C (.ok .next) s') :
    wpAny (model X.prog X.w) X.A (newList []) (fun acc s₃ => wpAny (model X.prog X.w) X.A (newFunctionEnv sc X.env.globals cl [] X.env.qual none .none (some X.env)) (fun cenv s₄ =>
      codeAny (model X.prog X.w) X.A (.compStart (.ListComp elt [⟨.Name x px, iter, ifs, 0⟩] sc pos) 0 (.ref it) acc { cenv with scope := relabel sc X.env }) (RR acc cenv.locals) s₄) E s₃) E s := by
  refine wpAny_newObj_type (wpAny_newFunctionEnv S.nocell (by intro y hy; simp at hy) (fun h₁ hns₁ hsb₁ => ?_) S.kind)
  dsimp only at hns₁ hsb₁ ⊢
  generalize hH2 : s.heap.push { cls := .type "list", dict := none, data := .seq ([] : List Value).toArray } = G2 at hns₁ hsb₁ ⊢
  have hCs : G2.objs.size = s.heap.objs.size + 1 := by rw [← hH2, Heap.size_push]
  have hDC : s.heap.objs.size ≠ G2.objs.size := by rw [hCs]; exact Nat.ne_of_lt (Nat.lt_succ_self _)
  have hC : s.heap.objs.size ≤ G2.objs.size := by rw [hCs]; exact Nat.le_succ _
  have below : ∀ b, b < s.heap.objs.size → b ≠ G2.objs.size := fun b hb => by rw [hCs]; exact Nat.ne_of_lt (Nat.lt_succ_of_lt hb)
  have old : ∀ b o, s.heap.get? b = some o → h₁.get? b = some o := fun b o e => hsb₁.extBut b o (below b (Heap.lt_size e)) (Heap.get?_push_of_some _ (hH2 ▸ Heap.get?_push_of_some _ e))
  have hD1 : h₁.get? s.heap.objs.size = some { cls := .type "list", data := .seq ([] : List Value).toArray 0 } := hsb₁.extBut _ _ hDC (Heap.get?_push_of_some _ (hH2 ▸ Heap.get?_push_size _ rfl))
  have hfo : ∀ b ∈ fp, b < s.heap.objs.size := fun b hbm => by
    obtain ⟨o, e, _⟩ := T.obj 0 s.heap st b hbm
    exact Heap.lt_size e
  have hDn : H s.heap.objs.size = none := I.hok.fresh (Nat.le_refl _)
  -- what stays true of the made list's place
  have Dstk : s.heap.objs.size ∉ frs X.stack := fun hm => by
    rcases List.mem_cons.mp (I.stkSub _ hm) with z | z
    · exact absurd I.lt (by rw [← z]; exact Nat.lt_irrefl _)
    · exact I.nofs (Nat.le_refl _) z
  have Dcell : ∀ y c, cl.lookup y = some c → c ≠ s.heap.objs.size := fun y c e z => by
    obtain ⟨v, q⟩ := I.cell y c (S.sub y c e)
    exact absurd q.lt (by rw [z]; exact Nat.lt_irrefl _)
  have Dpin : ∀ p ∈ X.pn ++ pins, p.1 ≠ s.heap.objs.size := fun p hp z => absurd (Heap.lt_size (I.pin p hp).1) (by rw [z]; exact Nat.lt_irrefl _)
  have Dfp : s.heap.objs.size ∉ fp := fun hm => Nat.lt_irrefl _ (hfo _ hm)
  have loop : ∀ s₃ : Shared, s₃ = { s with heap := h₁, toks := s.toks + ([] : List (Str × Value)).length } →
      codeAny (model X.prog X.w) X.A (.compLoop (.ListComp elt [⟨.Name x px, iter, ifs, 0⟩] sc pos) 0 (.ref it) (.ref s.heap.objs.size) (compEnvC sc cl G2.objs.size X.env)) (RR (.ref s.heap.objs.size) G2.objs.size) s₃ := by
    rintro s₃ rfl
    have I0 : Inv (compCx X sc cl G2.objs.size N s H fp (X.pn ++ pins)) [] (none :: compSt fr σ) H { s with heap := h₁, toks := s.toks + ([] : List (Str × Value)).length } := comp_inv I S hf hfo hC hns₁ old
    refine compLoop_go (fun n s' => ∃ (i : Nat) (xs : List V) (vals : List Value) (k : Nat) (v0 : Option V) (H' : Hp), Inv (compCx X sc cl G2.objs.size N s H fp (X.pn ++ pins)) [] (v0 :: compSt fr σ) H' s' ∧ tn i s'.heap ∧ (∀ b ∈ fp, H' b = none) ∧
      s'.heap.get? s.heap.objs.size = some { cls := .type "list", data := .seq vals.toArray k } ∧ Vals xs vals ∧ H' s.heap.objs.size = none ∧ W i n xs H') ?_ m0
      ⟨0, [], [], 0, none, H, I0, T.keep _ _ _ st fun b _ o e => old b o e, fun b hb => (hf b hb).1, hD1, .nil, hDn, w0⟩
    rintro n s1 ⟨i, xs, vals, k, v0, H1, I1, st1, fr1, hg1, rv1, hD1', w1⟩
    have hlen := rv1.length
    obtain ⟨hz, step⟩ := turn i n xs H1 w1
    have hz2 : xs.length ≤ sizeLine := Nat.le_trans hz (by decide)
    have stat : ∀ {H' : Hp} {pl : List (Addr × Obj)}, (∀ b ∈ fp, H' b = none) → (∀ p ∈ pl, p.1 = s.heap.objs.size) → ∀ b ∈ fp, FpOk (compCx X sc cl G2.objs.size N s H fp (X.pn ++ pins)) pl H' b := fun {H' pl} hn hpl b hb =>
      ⟨hn b hb, below b (hfo b hb), nostk I (hf b hb).2.1 (hf b hb).2.2.1, .inl hb, fun y c e => (hf b hb).2.2.2.2.1 y c (S.sub y c e), fun p hp z => by
        rcases List.mem_append.mp hp with q | q
        · exact (hf b hb).2.2.2.2.2 p q z
        · exact Dfp (by rw [← hpl p q, z]; exact hb)⟩
    have I1' : Inv (compCx X sc cl G2.objs.size N s H fp (X.pn ++ pins)) [(s.heap.objs.size, { cls := .type "list", data := .seq vals.toArray k })] (v0 :: compSt fr σ) H1 s1 := I1.pins_of fun p hp => by
      have e : p = (s.heap.objs.size, { cls := .type "list", data := .seq vals.toArray k }) := by simpa using hp
      subst e
      exact ⟨hg1, hD1', hDC, Dstk, fun v z => by cases z⟩
    rcases step with ⟨stop, hq⟩ | ⟨go, step⟩
    · refine thn (T.done (compCx X sc cl G2.objs.size N s H fp (X.pn ++ pins)) rfl rfl rfl hc i [(s.heap.objs.size, { cls := .type "list", data := .seq vals.toArray k })] s1 _ H1 _ I1' (stat fr1 fun p hp => by
        have e : p = (s.heap.objs.size, { cls := .type "list", data := .seq vals.toArray k }) := by simpa using hp
        rw [e]) st1 stop) fun r s2 ⟨hr, I2⟩ => ?_
      subst hr
      obtain ⟨g2, n2, _⟩ := I2.pin (s.heap.objs.size, { cls := .type "list", data := .seq vals.toArray k }) (List.mem_append_right _ (by simp))
      obtain ⟨m2, hn2, _⟩ := I2.loc
      have hCn : upd H1 s.heap.objs.size (.lst xs) G2.objs.size = none := by
        rw [upd_ne (Ne.symm hDC)]
        exact I2.free
      exact fin s.heap.objs.size G2.objs.size s2 m2 _ hn2 (I.fpOk hC hCn) (fun h' hs' => comp_end I hf I2 hC (Nat.le_refl _) hDC n2 g2 rv1 hz2 hs') (hq _ n2)
    · refine thn (T.item (compCx X sc cl G2.objs.size N s H fp (X.pn ++ pins)) rfl rfl rfl hc i [(s.heap.objs.size, { cls := .type "list", data := .seq vals.toArray k })] s1 _ H1 _ I1' (stat fr1 fun p hp => by
        have e : p = (s.heap.objs.size, { cls := .type "list", data := .seq vals.toArray k }) := by simpa using hp
        rw [e]) st1 go) fun r s2 ⟨u, hr, h2⟩ => ?_
      subst hr
      refine thn h2 fun _ s3 ⟨y, H3, I3, r3, y3, st3, fr3⟩ => ?_
      have I3' := I3.pinned (stat fr3 fun p hp => by
        have e : p = (s.heap.objs.size, { cls := .type "list", data := .seq vals.toArray k }) := by simpa using hp
        rw [e]) (T.obj _ _ st3)
      -- what the pins say again behind each part
      have back : ∀ {σ9 : St} {H9 : Hp} {s9 : Shared}, Inv (compCx X sc cl G2.objs.size N s H fp (X.pn ++ pins)) ([(s.heap.objs.size, { cls := .type "list", data := .seq vals.toArray k })] ++ pinsAt fp s3.heap) σ9 H9 s9 →
          tn (i + 1) s9.heap ∧ (∀ b ∈ fp, H9 b = none) ∧ s9.heap.get? s.heap.objs.size = some { cls := .type "list", data := .seq vals.toArray k } ∧ H9 s.heap.objs.size = none := fun {σ9 H9 s9} I9 => by
        refine ⟨T.keep _ _ _ st3 fun b hb o e => (I9.pin (b, o) (List.mem_append_right _ (List.mem_append_right _ (mem_pinsAt hb e)))).1, fun b hb => ?_, ?_⟩
        · obtain ⟨o, e, d⟩ := T.obj _ _ st3 b hb
          exact (I9.pin (b, o) (List.mem_append_right _ (List.mem_append_right _ (mem_pinsAt hb e)))).2.1
        · obtain ⟨a1, a2, _⟩ := I9.pin (s.heap.objs.size, { cls := .type "list", data := .seq vals.toArray k }) (List.mem_append_right _ (List.mem_append_left _ (by simp)))
          exact ⟨a1, a2⟩
      have hN0 : (compCx X sc cl G2.objs.size N s H fp (X.pn ++ pins)).N[0]? = some x := by
        show N[0]? = some x
        rw [S.N0]
        rfl
      have hloc : (relabel sc X.env).names.lookup x = some .local := lookup_relabel_local S.tgt
      have hpg : PG (compCx X sc cl G2.objs.size N s H fp (X.pn ++ pins)) (.Name x px) (gName 0) := pg_name (i := 0) S.nd hN0 (.inl hloc) (.inr hloc)
      have noX : ∀ e s', (compCx X sc cl G2.objs.size N s H fp (X.pn ++ pins)).xe e s' → noteE X.prog X.w X.A (compEnvC sc cl G2.objs.size X.env) (RR (.ref s.heap.objs.size) G2.objs.size) e s' := fun e s' z => (hx e s' z).elim
      have hstep := step y H3 y3
      refine wpAny_mono (hpg _ s3 _ H3 y u (fun σ' H' => σ' = some y :: compSt fr σ ∧ H' = H3) I3' r3 ⟨rfl, rfl⟩) (fun _ s4 ⟨σ4, H4, I4, e4, e4'⟩ => ?_) noX
      subst e4 e4'
      obtain ⟨hbT, hbE⟩ := hb G2.objs.size s H fp (X.pn ++ pins)
      refine wpAny_mono (hbT _ s4 _ H4 _ I4 hstep) (fun ok s5 ⟨H5, I5, q5⟩ => ?_) noX
      cases ok with
      | false =>
        rw [if_neg Bool.false_ne_true]
        have q5' : ∃ m', m' < n ∧ W (i + 1) m' xs H5 := q5
        obtain ⟨m', hm, w5⟩ := q5'
        obtain ⟨b1, b2, b3, b4⟩ := back I5
        exact ⟨m', hm, i + 1, xs, vals, k, some y, H5, I5.pins_of (fun p hp => absurd hp (by simp)), b1, b2, b3, rv1, b4, w5⟩
      | true =>
        rw [if_pos rfl]
        refine wpAny_mono (hbE _ s5 _ H5 _ I5 q5) (fun z s6 ⟨v6, H6, I6, r6, q6⟩ => ?_) noX
        obtain ⟨m', hm, w6⟩ := q6
        obtain ⟨b1, b2, b3, b4⟩ := back I6
        refine call_meets F.slot_list_append ⟨_, b3, rfl⟩ F.entry_list_append (F.args_list_append_2 _ _) (PySem.list_append s.heap.objs.size vals.toArray k z (by rw [List.size_toArray]; omega)) ⟨b3, ?_⟩
        have q7 := PySem.IsL.update b3 (fun a : Array Value => a.push z)
        have hpush : vals.toArray.push z = (vals ++ [z]).toArray := by simp
        rw [hpush] at q7
        have I6' : Inv (compCx X sc cl G2.objs.size N s H fp (X.pn ++ pins)) [] (some y :: compSt fr σ) H6 s6 := I6.pins_of (fun p hp => absurd hp (by simp))
        have others : ∀ b o, b ≠ s.heap.objs.size → s6.heap.get? b = some o → (s6.heap.update s.heap.objs.size (Obj.mapSeq fun a => a.push z)).get? b = some o := fun b o hb' e => (Heap.get?_update_other _ _ (Ne.symm hb')).trans e
        refine ⟨m', hm, i + 1, xs ++ [v6], vals ++ [z], _, some y, H6, I6'.turned (it := s.heap.objs.size) others b4 hDC (.inr (Nat.le_refl _)) Dcell (fun p hp z' => ?_), T.keep _ _ _ b1 fun b hb' o e => others b o (fun z' => Dfp (by rw [← z']; exact hb')) e, b2, q7, rv1.append (.cons r6 .nil), b4, w6⟩
        have hp' : p ∈ X.pn ++ pins := by
          have z2 : p ∈ (X.pn ++ pins) ++ [] := hp
          simpa using z2
        exact Dpin p hp' z'
  exact codeAny_compStart_list (loop _ rfl) (T.self _ _ _ _ _ (T.keep _ _ _ st fun b _ o e => old b o e) (loop _ rfl))

set_option linter.all false in private theorem pe_comp (hc : X.calm = true) (hx : ∀ e s, ¬ X.xe e s) (S : CompSc X sc cl x fr N) (hi : PI X (.Name x px) iter wi)
    (hb : ∀ C s H ex pn, PTs (compCx X sc cl C N s H ex pn) ifs tc ∧ PE (compCx X sc cl C N s H ex pn) elt te)
    (hs : ∀ v, foldedSetIterable iter X.env v = pure v := by trivial) : PE X (.ListComp elt [⟨.Name x px, iter, ifs, 0⟩] sc pos) (tComp wi fr tc te) := by
  intro pins s σ H Q I h
  unfold tComp at h
  rw [eval_ListComp]
  refine wpAny_comprehension_free (use := none) rfl hs S.clos S.kind S.names ?_
  refine thn (hi pins s σ H _ I h) fun v s1 h1 => thn h1 fun itv s2 h2 => ?_
  obtain ⟨it, fp, tn, J, H2, e, I2, T, st2, f2, W, ⟨m0, w0⟩, turn⟩ := h2
  subst e
  refine comp_block (RR := fun acc C => compPost (model X.prog X.w) X.A X.xe none (EP X pins σ Q) acc C) hc hx S hb I2 T st2 f2 w0 turn ?_
  intro D C s' m' H' hn _ hfin q
  exact ⟨m', hn, fun h' hs' => ⟨.ref D, H', hfin h' hs', rfl, q⟩⟩
end

set_option linter.all false in private theorem CompSc.nofree {X : Cx} {sc : Scope} {x : Str} (kind : sc.kind = .function) (nc : (sc.names.all fun y => y.2 != .cell && y.2 != .free) = true)
    (nm : (sc.names.all fun y => !(y.2 == .local) || sc.names.lookup y.1 == some .local) = true) (tgt : sc.names.lookup x = some .local) : CompSc X sc [] x [] [x] where
  kind := kind
  nocell := fun y hy e => by
    have h := List.all_eq_true.mp nc y hy
    rw [e] at h
    exact absurd h (by decide)
  names := fun y hy e => by
    have h := List.all_eq_true.mp nm y hy
    rw [e] at h
    simpa using h
  clos := closureFor_none fun y hy e => by
    have h := List.all_eq_true.mp nc y hy
    rw [e] at h
    exact absurd h (by decide)
  sub := fun y c h => by cases h
  has := fun y h => by
    exfalso
    have key : ∀ l : List (Str × NameKind), (l.all fun y => y.2 != .cell && y.2 != .free) = true → ∀ k, (l.map fun (n, k) => if (k == NameKind.free && X.env.scope.kind == .function && X.env.kindOf n == some .cell) then (n, NameKind.cell) else (n, k)).lookup y = some k → k ≠ .cell ∧ k ≠ .free := by
      intro l
      induction l with
      | nil => intro _ k e; cases e
      | cons p r ih =>
        obtain ⟨n, kk⟩ := p
        intro ha k e
        rw [List.all_cons, Bool.and_eq_true, Bool.and_eq_true] at ha
        obtain ⟨⟨h1, h2⟩, h3⟩ := ha
        have h2' : (kk == NameKind.free) = false := by simpa using h2
        rw [List.map_cons] at e
        dsimp only at e
        rw [h2', Bool.false_and, Bool.false_and, if_neg Bool.false_ne_true, List.lookup_cons] at e
        cases q : (y == n) with
        | true =>
          rw [q] at e
          have e' : kk = k := Option.some.inj e
          subst e'
          exact ⟨by simpa using h1, by simpa using h2⟩
        | false =>
          rw [q] at e
          exact ih h3 k e
    rcases h with h | h
    · exact (key sc.names nc _ h).1 rfl
    · exact (key sc.names nc _ h).2 rfl
  tgt := tgt
  nd := by simp
  N0 := rfl
  frc := fun j hj => by cases hj
end L2
namespace L2
open PySem PySem.Spec PyProof.Rows
section
variable {X : Cx}
set_option linter.all false in private theorem op_le_str : OpR X (compareOp .LtE) (fun x y H Q => ∃ i j, x = .str i ∧ y = .str j ∧ Q (.bl (!decide (j.cps.toList < i.cps.toList))) H) := by
  intro pins s σ H x y v u Q I rx ry h
  obtain ⟨i, j, rfl, rfl, q⟩ := h
  obtain ⟨t, rfl⟩ := rx
  obtain ⟨t', rfl⟩ := ry
  exact PySem.P.le_str (fin_bl I q rfl)
set_option linter.all false in private theorem sl_str : SlR X (fun x lo hi H Q => ∃ z, x = .str z ∧ z.length ≤ sizeLine ∧ Q (.str (Txt.slice z lo hi)) H) := by
  intro pins s σ H x v vl vu lo hi sl Q I rx hs pl pu h
  obtain ⟨z, rfl, hz, q⟩ := h
  obtain ⟨t, rfl⟩ := rx
  have fin : ∀ t' k, EP X pins σ Q (.str (Txt.slice z lo hi) t') { s with toks := k } := fun t' k => ⟨.str _, H, I.tok _, ⟨_, rfl⟩, q⟩
  refine ⟨"str", _, F.slot_str_getitem.lookup, typeIs_str s z t, ?_⟩
  cases pl with
  | none =>
    cases pu with
    | none => exact wpAny_getItem_str_slice (l := none) (u := none) (st := none) hs rfl (post_val_or_str ⟨Nat.le_trans (Txt.slice_le z _ _) hz, fin⟩)
    | int j uj => exact wpAny_getItem_str_slice (l := none) (u := some (j, uj)) (st := none) hs rfl (post_val_or_str ⟨Nat.le_trans (Txt.slice_le z _ _) hz, fin⟩)
  | int i ui =>
    cases pu with
    | none => exact wpAny_getItem_str_slice (l := some (i, ui)) (u := none) (st := none) hs rfl (post_val_or_str ⟨Nat.le_trans (Txt.slice_le z _ _) hz, fin⟩)
    | int j uj => exact wpAny_getItem_str_slice (l := some (i, ui)) (u := some (j, uj)) (st := none) hs rfl (post_val_or_str ⟨Nat.le_trans (Txt.slice_le z _ _) hz, fin⟩)

/-! ### == of two lists of flat items -/
set_option linter.all false in private theorem call_all (hc : X.calm = true) : CallR X (.builtin "all") (fun xs H Q => ∃ (p : Addr) (bs : List Bool), xs = [.ref p] ∧ SqL X.K H p (bs.map V.bl) ∧ Q (.bl (bs.all id)) H) := by
  intro pins s σ H xs us Q I r h
  obtain ⟨p, bs, rfl, hq, q⟩ := h
  obtain ⟨u, rfl, ru⟩ := vals1 r
  cases ru
  obtain ⟨its, rv, pl, hz⟩ := I.list hq
  have hl := rv.length
  rw [List.length_map] at hl
  have plL := pl.isList
  have hlt : p < s.heap.objs.size := by obtain ⟨_, e, _⟩ := plL; exact Heap.lt_size e
  refine call_all_walk (wpAny_pyIter_list plL ?_)
  refine ⟨s.heap.objs.size, [s.heap.objs.size, p], [s.heap.objs.size], its.toArray.size, _, _, fun i => (bs[i]?).getD true, rfl, Walks.list (A := X.A.in1) (I.ok.hd hc) _ p (Nat.ne_of_lt hlt) its.toArray,
    ⟨⟨_, Heap.get?_push_size _ rfl, rfl, rfl⟩, plL.push _⟩, fun i v s' Q' E' hP hQ => ?_, fun h' tk hk => ?_⟩
  · have hP' : its[i]? = some v := by simpa using hP
    have hi : i < its.length := (List.getElem?_eq_some_iff.mp hP').1
    have e1 : bs[i]? = some bs[i] := List.getElem?_eq_getElem (by omega)
    obtain ⟨u1, g1, s1⟩ := rv.get (i := i) (x := V.bl bs[i]) (by rw [List.getElem?_map, e1] <;> rfl)
    rw [hP'] at g1
    cases g1
    cases s1
    simp only [e1, Option.getD_some] at hQ
    exact wpAny_truthy_bool hQ
  · have e : ((List.range its.toArray.size).all fun i => (bs[i]?).getD true) = bs.all id := by
      rw [List.size_toArray, ← hl]
      rw [Bool.eq_iff_iff, List.all_eq_true, List.all_eq_true]
      constructor
      · intro h x hx
        obtain ⟨i, hi, e⟩ := List.getElem_of_mem hx
        have := h i (List.mem_range.mpr hi)
        rw [List.getElem?_eq_getElem hi, Option.getD_some, e] at this
        exact this
      · intro h i hi
        have hi' := List.mem_range.mp hi
        rw [List.getElem?_eq_getElem hi', Option.getD_some]
        exact h _ (List.getElem_mem hi')
    rw [e]
    exact ⟨.bl (bs.all id), H, I.kept (fun b o eb => hk b o (fun hm => by rw [List.mem_singleton.mp hm] at eb; exact Nat.lt_irrefl _ (Heap.lt_size eb)) (Heap.get?_push_of_some _ eb)), rfl, q⟩
end

/-! ### a text's signs, one by one -/
set_option linter.all false in private noncomputable def Its (x : Str) : It := ⟨fun i _ => i < x.cps.size, fun i H y H' => H' = H ∧ ∃ c, x.cps[i]? = some c ∧ y = .str ⟨#[c]⟩, fun i _ => x.cps.size ≤ i⟩
set_option linter.all false in private theorem turn_str {P : Program} {w : World} {K : PySem.W.Frag} {tg : Expr} {T : String} (hT : T = "str_ascii_iterator" ∨ T = "str_iterator") (x : Str) (t : Tok) (it : Addr) :
    Turn P w K tg (Its x) [it] it (fun i h => i ≤ x.cps.size ∧ h.IsStrIter it T x t i) where
  mem := by simp
  obj := fun i h st b hb => by
    have e : b = it := by simpa using hb
    subst e
    obtain ⟨o, e, c, d⟩ := st.2
    exact ⟨o, e, fun v z => by rw [d] at z; cases z⟩
  keep := fun i h h' st k => ⟨st.1, let ⟨o, e, r⟩ := st.2; ⟨o, k it (by simp) o e, r⟩⟩
  item := by
    intro X hP hw hK hc i pins s σ H E I hf st hg
    subst hP hw hK
    obtain ⟨f0, f1, f2, f3, f4, f5⟩ := hf it (by simp)
    have W : Walks X.prog X.w X.A it [it] [it] x.cps.size (SignAt x) (fun i h => h.IsStrIter it T x t i) := by
      rcases hT with e | e
      · subst e; exact Walks.strAscii (I.ok.hd hc) it x t
      · subst e; exact Walks.strWide (I.ok.hd hc) it x t
    refine W.item i s _ _ hg st.2 fun v h' tk hv st' kk => ?_
    obtain ⟨c, u, hcx, rfl⟩ := hv
    have I1 : Inv X pins σ H { s with heap := h', toks := tk } := I.turned (fun b o hb e => kk b o (by simpa using hb) e) f0 f1 f3 f4 f5
    obtain ⟨o, eo, co, d⟩ := id st'
    have hn : ["enumerate", "zip", "dict_itemiterator", "dict_reverseitemiterator", "odict_iterator", "itertools.zip_longest", "itertools.pairwise"].contains T = false := by
      rcases hT with e | e <;> subst e <;> decide
    exact ⟨_, rfl, go_of (s := { s with heap := h', toks := tk }) (n := T) eo co d hn ⟨.str ⟨#[c]⟩, H, I1, ⟨_, rfl⟩, ⟨rfl, c, hcx, rfl⟩, ⟨hg, st'⟩, fun b hb => (hf b hb).1⟩⟩
  done := by
    intro X hP hw hK hc i pins s σ H E I hf st hg
    subst hP hw hK
    obtain ⟨f0, f1, f2, f3, f4, f5⟩ := hf it (by simp)
    have W : Walks X.prog X.w X.A it [it] [it] x.cps.size (SignAt x) (fun i h => h.IsStrIter it T x t i) := by
      rcases hT with e | e
      · subst e; exact Walks.strAscii (I.ok.hd hc) it x t
      · subst e; exact Walks.strWide (I.ok.hd hc) it x t
    have ei : i = x.cps.size := Nat.le_antisymm st.1 hg
    subst ei
    exact W.done s _ _ st.2 fun h' tk kk => ⟨rfl, I.turned (fun b o hb e => kk b o (by simpa using hb) e) f0 f1 f3 f4 f5⟩
  self := fun A i s Q E st h => by
    rcases hT with e | e
    · subst e; exact wpAny_pyIter_striter_ascii st.2 h
    · subst e; exact wpAny_pyIter_striter_wide st.2 h
section
variable {X : Cx} {tg : Expr}
set_option linter.all false in private noncomputable def iStr (tl : TE) : TI := fun σ H R => tl σ H fun x H1 => ∃ z, x = .str z ∧ R (Its z) H1
set_option linter.all false in private theorem pi_str {l : Expr} {tl : TE} (hl : PE X l tl) : PI X tg l (iStr tl) := by
  intro pins s σ H R I h
  refine thn (hl pins s σ H _ I h) fun v s1 ⟨x, H1, I1, r1, q1⟩ => ?_
  obtain ⟨z, e, q⟩ := q1
  subst e
  obtain ⟨t, rfl⟩ := r1
  cases ha : z.cps.all (· < 128) with
  | true =>
    refine wpAny_pyIter_ascii ha ⟨s1.heap.objs.size, [s1.heap.objs.size], _, _, H1, rfl, I1.kept (t' := s1.toks) fun b o e => Heap.get?_push_of_some _ e, turn_str (.inl rfl) z t _, ⟨Nat.zero_le _, _, Heap.get?_push_size _ rfl, rfl, rfl⟩, fun b hb => ?_, q⟩
    have e : b = s1.heap.objs.size := by simpa using hb
    subst e
    exact I1.fpOk (Nat.le_refl _) (I1.hok.fresh (Nat.le_refl _))
  | false =>
    refine wpAny_pyIter_wide ha ⟨s1.heap.objs.size, [s1.heap.objs.size], _, _, H1, rfl, I1.kept (t' := s1.toks) fun b o e => Heap.get?_push_of_some _ e, turn_str (.inr rfl) z t _, ⟨Nat.zero_le _, _, Heap.get?_push_size _ rfl, rfl, rfl⟩, fun b hb => ?_, q⟩
    have e : b = s1.heap.objs.size := by simpa using hb
    subst e
    exact I1.fpOk (Nat.le_refl _) (I1.hok.fresh (Nat.le_refl _))
end
set_option linter.all false in private noncomputable def cW (n : Nat) (Pv : Nat → List V → Hp → Prop) (i m : Nat) (xs : List V) (H : Hp) : Prop := m = n - i ∧ i ≤ n ∧ Pv i xs H
set_option linter.all false in private theorem cW.next {n : Nat} {Pv : Nat → List V → Hp → Prop} {i : Nat} {xs : List V} {H : Hp} (hi : i < n) (p : Pv (i + 1) xs H) : ∃ m', m' < n - i ∧ cW n Pv (i + 1) m' xs H := ⟨n - (i + 1), by omega, rfl, hi, p⟩
section
variable {fr : List Nat} {tc : TT} {te : TE} {σ : St} {H : Hp} {Q : VK}
set_option linter.all false in private theorem comp_list {K : PySem.W.Frag} {a : Addr} {ys : List V} (Pv : Nat → List V → Hp → Prop) (h0 : Pv 0 [] H) (hz : ∀ i xs H, Pv i xs H → xs.length ≤ 1000000) (hl : ∀ i xs H, Pv i xs H → SqL K H a ys)
    (hs : ∀ i y xs H, i < ys.length → ys[i]? = some y → Pv i xs H → tc (some y :: compSt fr σ) H fun b H2 => if b = true then te (some y :: compSt fr σ) H2 (fun z H3 => ∃ m', m' < ys.length - i ∧ cW ys.length Pv (i + 1) m' (xs ++ [z]) H3) else ∃ m', m' < ys.length - i ∧ cW ys.length Pv (i + 1) m' xs H2)
    (hd : ∀ xs H, Pv ys.length xs H → ∀ p, H p = none → Q (.ref p) (upd H p (.lst xs))) :
    ∃ W : Nat → Nat → List V → Hp → Prop, (∃ m, W 0 m [] H) ∧ ∀ i m xs H, W i m xs H → xs.length ≤ 1000000 ∧
      (((Itl K a).stop i H ∧ ∀ p, H p = none → Q (.ref p) (upd H p (.lst xs))) ∨
       ((Itl K a).go i H ∧ ∀ y H', (Itl K a).yld i H y H' → tc (some y :: compSt fr σ) H' fun b H2 => if b = true then te (some y :: compSt fr σ) H2 (fun z H3 => ∃ m', m' < m ∧ W (i + 1) m' (xs ++ [z]) H3) else ∃ m', m' < m ∧ W (i + 1) m' xs H2)) := by
  refine ⟨cW ys.length Pv, ⟨ys.length, by simp, Nat.zero_le _, h0⟩, ?_⟩
  rintro i m xs H ⟨rfl, hi, p⟩
  refine ⟨hz i xs H p, ?_⟩
  have q := hl i xs H p
  by_cases hlt : i < ys.length
  · refine .inr ⟨⟨ys, ys[i], q, by simp [hlt]⟩, fun y H' yy => ?_⟩
    obtain ⟨e, yy⟩ := yy
    subst e
    exact hs i y xs _ hlt (yy ys q) p
  · have e : i = ys.length := by omega
    subst e
    exact .inl ⟨⟨ys, q, Nat.le_refl _⟩, hd xs H p⟩
set_option linter.all false in private theorem comp_str {x : Str} (Pv : Nat → List V → Hp → Prop) (h0 : Pv 0 [] H) (hz : ∀ i xs H, Pv i xs H → xs.length ≤ 1000000)
    (hs : ∀ i c xs H, i < x.cps.size → x.cps[i]? = some c → Pv i xs H → tc (some (.str ⟨#[c]⟩) :: compSt fr σ) H fun b H2 => if b = true then te (some (.str ⟨#[c]⟩) :: compSt fr σ) H2 (fun z H3 => ∃ m', m' < x.cps.size - i ∧ cW x.cps.size Pv (i + 1) m' (xs ++ [z]) H3) else ∃ m', m' < x.cps.size - i ∧ cW x.cps.size Pv (i + 1) m' xs H2)
    (hd : ∀ xs H, Pv x.cps.size xs H → ∀ p, H p = none → Q (.ref p) (upd H p (.lst xs))) :
    ∃ W : Nat → Nat → List V → Hp → Prop, (∃ m, W 0 m [] H) ∧ ∀ i m xs H, W i m xs H → xs.length ≤ 1000000 ∧
      (((Its x).stop i H ∧ ∀ p, H p = none → Q (.ref p) (upd H p (.lst xs))) ∨
       ((Its x).go i H ∧ ∀ y H', (Its x).yld i H y H' → tc (some y :: compSt fr σ) H' fun b H2 => if b = true then te (some y :: compSt fr σ) H2 (fun z H3 => ∃ m', m' < m ∧ W (i + 1) m' (xs ++ [z]) H3) else ∃ m', m' < m ∧ W (i + 1) m' xs H2)) := by
  refine ⟨cW x.cps.size Pv, ⟨x.cps.size, by simp, Nat.zero_le _, h0⟩, ?_⟩
  rintro i m xs H ⟨rfl, hi, p⟩
  refine ⟨hz i xs H p, ?_⟩
  by_cases hlt : i < x.cps.size
  · refine .inr ⟨hlt, fun y H' yy => ?_⟩
    obtain ⟨e, c, hc, rfl⟩ := yy
    subst e
    exact hs i c xs _ hlt hc p
  · have e : i = x.cps.size := by omega
    subst e
    exact .inl ⟨Nat.le_refl _, hd xs H p⟩
set_option linter.all false in private theorem comp_range {lo : Int} {n : Nat} (Pv : Nat → List V → Hp → Prop) (h0 : Pv 0 [] H) (hz : ∀ i xs H, Pv i xs H → xs.length ≤ 1000000)
    (hs : ∀ i xs H, i < n → Pv i xs H → tc (some (.int (lo + i)) :: compSt fr σ) H fun b H2 => if b = true then te (some (.int (lo + i)) :: compSt fr σ) H2 (fun z H3 => ∃ m', m' < n - i ∧ cW n Pv (i + 1) m' (xs ++ [z]) H3) else ∃ m', m' < n - i ∧ cW n Pv (i + 1) m' xs H2)
    (hd : ∀ xs H, Pv n xs H → ∀ p, H p = none → Q (.ref p) (upd H p (.lst xs))) :
    ∃ W : Nat → Nat → List V → Hp → Prop, (∃ m, W 0 m [] H) ∧ ∀ i m xs H, W i m xs H → xs.length ≤ 1000000 ∧
      (((Itr lo n).stop i H ∧ ∀ p, H p = none → Q (.ref p) (upd H p (.lst xs))) ∨
       ((Itr lo n).go i H ∧ ∀ y H', (Itr lo n).yld i H y H' → tc (some y :: compSt fr σ) H' fun b H2 => if b = true then te (some y :: compSt fr σ) H2 (fun z H3 => ∃ m', m' < m ∧ W (i + 1) m' (xs ++ [z]) H3) else ∃ m', m' < m ∧ W (i + 1) m' xs H2)) := by
  refine ⟨cW n Pv, ⟨n, by simp, Nat.zero_le _, h0⟩, ?_⟩
  rintro i m xs H ⟨rfl, hi, p⟩
  refine ⟨hz i xs H p, ?_⟩
  by_cases hlt : i < n
  · refine .inr ⟨hlt, fun y H' yy => ?_⟩
    obtain ⟨e, rfl⟩ := yy
    subst e
    exact hs i xs _ hlt p
  · have e : i = n := by omega
    subst e
    exact .inl ⟨Nat.le_refl _, hd xs H p⟩
end
section
variable {fr : List Nat} {tc : TT} {te : TE} {σ : St} {H H1 : Hp} {Q : VK}
end
end L2
namespace L2
open PySem PySem.Spec PyProof.Rows

/-! ### a comprehension's block that reads names of the frame -/
set_option linter.all false in private theorem mem_of_lookupS {l : List (Str × NameKind)} {y : Str} {k : NameKind} (h : l.lookup y = some k) : (y, k) ∈ l := PySem.mem_of_lookup h
set_option linter.all false in private theorem CompSc.free {X : Cx} {sc : Scope} {cl : List (Str × Addr)} {x : Str} {fr : List Nat} {N : List Str} (kind : sc.kind = .function) (nc : (sc.names.all fun y => y.2 != .cell) = true)
    (nm : (sc.names.all fun y => !(y.2 == .local) || sc.names.lookup y.1 == some .local) = true) (tgt : sc.names.lookup x = some .local) (clos : closureFor sc X.env = pure cl)
    (sub : ∀ y c, cl.lookup y = some c → X.env.cells.lookup y = some c) (has : ((relabel sc X.env).names.all fun y => (y.2 != .cell && y.2 != .free) || (cl.lookup y.1).isSome) = true)
    (nd : N.Nodup) (N0 : N = x :: fr.map fun j => X.N.getD j x) (frc : ∀ j ∈ fr, ∃ y, X.N[j]? = some y ∧ X.env.kindOf y = some .cell ∧ ((relabel sc X.env).names.lookup y = some .cell ∨ (relabel sc X.env).names.lookup y = some .free)) : CompSc X sc cl x fr N where
  kind := kind
  nocell := fun y hy e => by
    have h := List.all_eq_true.mp nc y hy
    rw [e] at h
    exact absurd h (by decide)
  names := fun y hy e => by
    have h := List.all_eq_true.mp nm y hy
    rw [e] at h
    simpa using h
  clos := clos
  sub := sub
  has := fun y h => by
    have key : ∀ k, (relabel sc X.env).names.lookup y = some k → (k = .cell ∨ k = .free) → ∃ c, cl.lookup y = some c := fun k e hk => by
      have h := List.all_eq_true.mp has (y, k) (mem_of_lookupS e)
      rcases hk with rfl | rfl
      · exact Option.isSome_iff_exists.mp (by simpa using h)
      · exact Option.isSome_iff_exists.mp (by simpa using h)
    rcases h with h | h
    · exact key _ h (.inl rfl)
    · exact key _ h (.inr rfl)
  tgt := tgt
  nd := nd
  N0 := N0
  frc := frc

section
variable {X : Cx} {sc : Scope} {cl : List (Str × Addr)} {x : Str} {fr : List Nat} {N : List Str} {elt iter : Expr} {px pos : Pos} {ifs : List Expr} {wi : TI} {tc : TT} {te : TE}
set_option linter.all false in private theorem ps_setComp {i : Nat} {y : Str} {py spos : Pos} (hc : X.calm = true) (hx : ∀ e s, ¬ X.xe e s) (S : CompSc X sc cl x fr N) (hi : PI X (.Name x px) iter wi)
    (hb : ∀ C s H ex pn, PTs (compCx X sc cl C N s H ex pn) ifs tc ∧ PE (compCx X sc cl C N s H ex pn) elt te)
    (hN : X.N.Nodup) (hy : X.N[i]? = some y) (hl : Loc X.env.scope y) (hsw : swapsWith (.ListComp elt [⟨.Name x px, iter, ifs, 0⟩] sc pos) (some (.Name y py)) spos.line X.env = pure true := by rfl)
    (hs : ∀ v, foldedSetIterable iter X.env v = pure v := by trivial) (hf : X.fn y = true ∨ X.env.scope.names.lookup y = some .local := by trivial) :
    PS X (.Assign [.Name y py] (.ListComp elt [⟨.Name x px, iter, ifs, 0⟩] sc pos) spos) (tAsg (tComp wi fr tc te) (gName i)) := by
  intro pins s σ H D I h
  have h : tComp wi fr tc te σ H (fun x H1 => gName i x σ H1 D.nx) := h
  unfold tComp at h
  rw [exec_Assign_Name_used _ _ _ _ hsw]
  refine wpAny_bind (wpAny_standAt (wpAny_bind ?_))
  show wpAny _ X.A (do let _ ← comprehension (.ListComp elt [⟨.Name x px, iter, ifs, 0⟩] sc pos) sc X.env _ (newList []) false (eval iter X.env) (some (assign (.Name y py) X.env))) _ _ s
  refine wpAny_bind (wpAny_mono (wpAny_comprehension_free (use := some (assign (.Name y py) X.env)) (Q := fun _ s' => SP X pins D .next s') rfl hs S.clos S.kind S.names
    (thn (hi pins s σ H _ I h) fun v s1 h1 => thn h1 fun itv s2 h2 => ?_)) (fun _ s' hq => wpAny_pure (wpAny_pure hq)) fun _ _ e => e)
  obtain ⟨it, fp, tn, J, H2, e, I2, T, st2, f2, W, ⟨m0, w0⟩, turn⟩ := h2
  subst e
  refine comp_block (Q := fun x H1 => gName i x σ H1 D.nx) (RR := fun acc C => compPost (model X.prog X.w) X.A X.xe (some (assign (.Name y py) X.env)) (fun _ s' => SP X pins D .next s') acc C) hc hx S hb I2 T st2 f2 w0 turn ?_
  intro D' C s' m' H' hn fC hfin q
  show wpAny _ X.A (assign (.Name y py) X.env (.ref D')) _ _ _
  have I' : Inv X pins σ H' s' := hfin s'.heap (Heap.SameBut.refl ..)
  refine wpAny_assign_Name (store_ok2 (v := .ref D') I' hN hy hl rfl (fun s'' I'' ⟨a, hsa, ha⟩ => ?_) hf)
  obtain ⟨f0, f1, f2', f3, f4, f5⟩ := fC
  have hCa : C ≠ a := fun z => by
    rcases ha with ha | ha
    · exact f1 (z.trans ha)
    · exact f4 y a ha z.symm
  refine ⟨m', hn.sameBut hsa hCa, fun h' hs' => ?_⟩
  exact ⟨σ.set i (some (.ref D')), H', I''.turned (t' := s''.toks) (fun b o hb' e => (hs'.2 b hb').trans e) f0 f1 f3 f4 f5, q⟩
end

/-! ### d.get(None) of a dict whose keys are ints and texts -/
section
variable {prog : Program} {w : World} {A : Around} {E : Value → Shared → Prop} {s : Shared}
end
end L2
namespace L2
open PySem PySem.Spec PyProof.Rows
/-! ### readings as rewriting rules -/
section
variable {σ : St} {H : Hp} {Q : VK} {i j : Int} {x y : Str} {v : V} {n : Nat} {a : Addr}
set_option linter.all false in private theorem w_v0s : tVar 0 (some v :: σ) H Q = Q v H := by simp [tVar]
set_option linter.all false in private theorem w_vS {o : Option V} : tVar (n + 1) (o :: σ) H Q = tVar n σ H Q := by simp [tVar]
set_option linter.all false in private theorem w_v1 {o0 : Option V} : tVar 1 (o0 :: some v :: σ) H Q = Q v H := (w_vS.trans w_v0s)
set_option linter.all false in private theorem w_v2 {o0 o1 : Option V} : tVar 2 (o0 :: o1 :: some v :: σ) H Q = Q v H := (w_vS.trans w_v1)
set_option linter.all false in private theorem w_v3 {o0 o1 o2 : Option V} : tVar 3 (o0 :: o1 :: o2 :: some v :: σ) H Q = Q v H := (w_vS.trans w_v2)
set_option linter.all false in private theorem w_v4 {o0 o1 o2 o3 : Option V} : tVar 4 (o0 :: o1 :: o2 :: o3 :: some v :: σ) H Q = Q v H := (w_vS.trans w_v3)
set_option linter.all false in private theorem w_v5 {o0 o1 o2 o3 o4 : Option V} : tVar 5 (o0 :: o1 :: o2 :: o3 :: o4 :: some v :: σ) H Q = Q v H := (w_vS.trans w_v4)
set_option linter.all false in private theorem w_v6 {o0 o1 o2 o3 o4 o5 : Option V} : tVar 6 (o0 :: o1 :: o2 :: o3 :: o4 :: o5 :: some v :: σ) H Q = Q v H := (w_vS.trans w_v5)
set_option linter.all false in private theorem w_v7 {o0 o1 o2 o3 o4 o5 o6 : Option V} : tVar 7 (o0 :: o1 :: o2 :: o3 :: o4 :: o5 :: o6 :: some v :: σ) H Q = Q v H := (w_vS.trans w_v6)
set_option linter.all false in private theorem w_v8 {o0 o1 o2 o3 o4 o5 o6 o7 : Option V} : tVar 8 (o0 :: o1 :: o2 :: o3 :: o4 :: o5 :: o6 :: o7 :: some v :: σ) H Q = Q v H := (w_vS.trans w_v7)
set_option linter.all false in private theorem w_v9 {o0 o1 o2 o3 o4 o5 o6 o7 o8 : Option V} : tVar 9 (o0 :: o1 :: o2 :: o3 :: o4 :: o5 :: o6 :: o7 :: o8 :: some v :: σ) H Q = Q v H := (w_vS.trans w_v8)
set_option linter.all false in private theorem m_cons {α β : Type} {f : α → β} {a : α} {l : List α} : List.map f (a :: l) = f a :: List.map f l := rfl
set_option linter.all false in private theorem m_nil {α β : Type} {f : α → β} : List.map f [] = [] := rfl
set_option linter.all false in private theorem w_rI {C : Int → Int → Prop} {g : Int → Int → V} : rI C g (.int i) (.int j) H Q = (C i j ∧ Q (g i j) H) := by simp [rI]
set_option linter.all false in private theorem w_rI0 {g : Int → Int → V} : rI0 g (.int i) (.int j) H Q = Q (g i j) H := by simp [rI0]
set_option linter.all false in private theorem w_rU {g : Int → V} : rU g (.int i) H Q = Q (g i) H := by simp [rU]
set_option linter.all false in private theorem w_lit (h : Nat.ble n 1000 = true) : (n ≤ sizeLine) = True := eq_true (Nat.le_of_lt (small1000 (Nat.le_of_ble_eq_true h)))
set_option linter.all false in private theorem w_eqI : rEq (.int i) (.int j) H Q = Q (.bl (decide (i = j))) H := by simp only [rEq, show scal (.int i) (.int j) = true from rfl, V.int.injEq, true_and]
set_option linter.all false in private theorem w_eqS : rEq (.str x) (.str y) H Q = Q (.bl (decide (x = y))) H := by simp only [rEq, show scal (.str x) (.str y) = true from rfl, V.str.injEq, true_and]
set_option linter.all false in private theorem w_neS : rNe (.str x) (.str y) H Q = Q (.bl (!decide (x = y))) H := by simp only [rNe, show scal (.str x) (.str y) = true from rfl, V.str.injEq, true_and]
end
set_option linter.all false in private theorem w_sinj {a b : String} : (Str.ofString a = Str.ofString b) = (a = b) := by
  refine propext ⟨fun h => ?_, fun h => by rw [h]⟩
  rw [Str.ofString_eq_toList, Str.ofString_eq_toList] at h
  have e : (a.toList.map Char.toNat) = (b.toList.map Char.toNat) := by
    have := congrArg (fun z : Str => z.cps.toList) h
    simpa using this
  have inj : ∀ x y : Char, x.toNat = y.toNat → x = y := fun x y q => Char.ext (UInt32.toNat_inj.mp q)
  have := (List.map_inj_right (f := Char.toNat) (fun x y q => inj x y q)).mp e
  exact String.toList_inj.mp this
set_option linter.all false in private noncomputable def Kp (S : List Addr) (H H' : Hp) : Prop := ∀ b o, H b = some o → b ∉ S → H' b = some o
section
variable {S T : List Addr} {H H1 H2 : Hp} {a p : Addr} {o : HO}
set_option linter.all false in private theorem Kp.refl : Kp S H H := fun _ _ h _ => h
set_option linter.all false in private theorem Kp.trans (x : Kp S H H1) (y : Kp S H1 H2) : Kp S H H2 := fun b o h n => y b o (x b o h n) n
set_option linter.all false in private theorem Kp.mono (x : Kp S H H1) (h : ∀ b ∈ S, b ∈ T) : Kp T H H1 := fun b o e n => x b o e fun z => n (h b z)
set_option linter.all false in private theorem Kp.new (h : H p = none) : Kp S H (upd H p o) := fun b u e _ => by rw [upd_ne (ne_of_none e h)]; exact e
set_option linter.all false in private theorem Kp.set (h : p ∈ S) : Kp S H (upd H p o) := fun b u e n => by rw [upd_ne (show b ≠ p from fun z => n (by rw [z]; exact h))]; exact e
set_option linter.all false in private theorem Kp.at (x : Kp S H H1) (e : H a = some o) (n : a ∉ S := by trivial) : H1 a = some o := x a o e n
set_option linter.all false in private theorem Kp.same (x : Kp [] H H1) : Same H H1 := fun b o e => x b o e (by simp)
set_option linter.all false in private theorem Kp.of (x : Same H H1) : Kp S H H1 := fun b o e _ => x b o e
set_option linter.all false in private theorem Kp.drop (x : Kp (p :: S) H H1) (h : H p = none) : Kp S H H1 := fun b o e n => x b o e (by
  simp only [List.mem_cons, not_or]
  exact ⟨ne_of_none e h, n⟩)
end
end L2
namespace L2
open PySem PySem.Spec PyProof.Rows
/-! ### readings that look the heap up: one for all kinds of values -/
set_option linter.all false in private noncomputable abbrev Tg {α : Type} (_ : α) : Type := Unit
set_option linter.all false in private noncomputable def onO {α : Type} (o : Option α) (k : α → Prop) (_u : Tg k := ()) : Prop := match o with
  | some x => k x
  | none => False
set_option linter.all false in private noncomputable def onB (x : V) (k : Bool → Prop) (_u : Tg k := ()) : Prop := match x with
  | .bl b => k b
  | _ => False
set_option linter.all false in private noncomputable def onLst (o : Option HO) (k : List V → Prop) (_u : Tg k := ()) : Prop := match o with
  | some (.lst xs) => k xs
  | _ => False
set_option linter.all false in private noncomputable def onSeq (o : Option HO) (k : List V → Prop) (_u : Tg k := ()) : Prop := match o with
  | some (.lst xs) => k xs
  | some (.tup xs) => k xs
  | _ => False
set_option linter.all false in private noncomputable def onRef (x : V) (k : Addr → Prop) (_u : Tg k := ()) : Prop := match x with
  | .ref p => k p
  | _ => False
set_option linter.all false in private noncomputable def onInt (x : V) (k : Int → Prop) (_u : Tg k := ()) : Prop := match x with
  | .int i => k i
  | _ => False
set_option linter.all false in private theorem onO_of {α : Type} {o : Option α} {k : α → Prop} (h : onO o k) : ∃ x, o = some x ∧ k x := by
  cases o with
  | none => exact h.elim
  | some x => exact ⟨x, rfl, h⟩
set_option linter.all false in private theorem onB_of {x : V} {k : Bool → Prop} (h : onB x k) : ∃ b, x = .bl b ∧ k b := by
  cases x with
  | bl b => exact ⟨b, rfl, h⟩
  | _ => exact h.elim
set_option linter.all false in private theorem onB_eq {x : V} {k : Bool → Prop} : (∃ b, x = .bl b ∧ k b) = onB x k := by
  refine propext ⟨fun ⟨b, e, h⟩ => by subst e; exact h, onB_of⟩
set_option linter.all false in private theorem onRef_of {x : V} {k : Addr → Prop} (h : onRef x k) : ∃ b, x = .ref b ∧ k b := by
  cases x with
  | ref b => exact ⟨b, rfl, h⟩
  | _ => exact h.elim
set_option linter.all false in private theorem onInt_of {x : V} {k : Int → Prop} (h : onInt x k) : ∃ b, x = .int b ∧ k b := by
  cases x with
  | int b => exact ⟨b, rfl, h⟩
  | _ => exact h.elim
set_option linter.all false in private theorem onLst_of {o : Option HO} {k : List V → Prop} (h : onLst o k) : ∃ xs, o = some (.lst xs) ∧ k xs := by
  unfold onLst at h
  split at h
  · exact ⟨_, rfl, h⟩
  · exact h.elim
set_option linter.all false in private theorem onSeq_of {o : Option HO} {k : List V → Prop} (h : onSeq o k) : ∃ xs, (o = some (.lst xs) ∨ o = some (.tup xs)) ∧ k xs := by
  unfold onSeq at h
  split at h
  · exact ⟨_, .inl rfl, h⟩
  · exact ⟨_, .inr rfl, h⟩
  · exact h.elim
set_option linter.all false in private noncomputable def cIx : R2 := fun x y H Q => match x with
  | .ref p => onSeq (H p) fun xs => onInt y fun i => onO (atI xs i) fun v => Q v H
  | .str z => onInt y fun i => z.length ≤ sizeLine ∧ onO (atI z.cps.toList i) fun c => Q (.str ⟨#[c]⟩) H
  | _ => False
set_option linter.all false in private noncomputable def cCat (H : Hp) (Q : VK) (a : Addr) (oa ob : Option HO) : Prop := match oa, ob with
  | some (.lst xs), some (.lst ys) => xs.length + ys.length ≤ sizeLine ∧ ∀ p, H p = none → Q (.ref p) (upd H p (.lst (xs ++ ys)))
  | some (.tup xs), some (.tup ys) => xs ≠ [] ∧ xs.length + ys.length ≤ sizeLine ∧ (ys ≠ [] → ∀ p, H p = none → Q (.ref p) (upd H p (.tup (xs ++ ys)))) ∧ (ys = [] → Q (.ref a) H)
  | _, _ => False
set_option linter.all false in private noncomputable def cAdd : R2 := fun x y H Q => match x, y with
  | .int i, .int j => Q (.int (i + j)) H
  | .str a, .str b => a.length + b.length ≤ sizeLine ∧ Q (.str (a ++ b)) H
  | .ref a, .ref b => cCat H Q a (H a) (H b)
  | _, _ => False
set_option linter.all false in private noncomputable def cCut (lo hi : Option Int) (H : Hp) (Q : VK) (o : Option HO) : Prop := match o with
  | some (.lst xs) => ∀ p, H p = none → Q (.ref p) (upd H p (.lst (cutV xs lo hi)))
  | some (.tup xs) => ¬ (HT.sIx xs.length 0 lo = 0 ∧ HT.sIx xs.length xs.length hi = xs.length) ∧ ∀ p, H p = none → Q (.ref p) (upd H p (.tup (cutV xs lo hi)))
  | _ => False
set_option linter.all false in private noncomputable def cSl : V → Option Int → Option Int → Hp → VK → Prop := fun x lo hi H Q => match x with
  | .str z => z.length ≤ sizeLine ∧ Q (.str (Txt.slice z lo hi)) H
  | .ref a => cCut lo hi H Q (H a)
  | _ => False
set_option linter.all false in private noncomputable def cLen : List V → Hp → VK → Prop := fun vs H Q => match vs with
  | [.str z] => z.length ≤ sizeLine ∧ Q (.int z.length) H
  | [.ref p] => onSeq (H p) fun xs => Q (.int xs.length) H
  | _ => False
set_option linter.all false in private noncomputable def cSet : V → V → V → Hp → (Hp → Prop) → Prop := fun o i v H Q => onRef o fun p => onInt i fun k => onLst (H p) fun xs => onO (ixN xs.length k) fun j => Q (upd H p (.lst (xs.set j v)))
set_option linter.all false in private noncomputable def cIn (neg : Bool) : R2 := fun x y H Q => onRef y fun p => onSeq (H p) fun xs => flatV x = true ∧ xs.all flatV = true ∧ Q (.bl (if neg = true then !inV x xs else inV x xs)) H
set_option linter.all false in private noncomputable def cInt : List V → Hp → VK → Prop := fun vs H Q => match vs with
  | [.int i] => Q (.int i) H
  | [.bl k] => Q (.int (if k = true then 1 else 0)) H
  | _ => False
set_option linter.all false in private noncomputable def cIsN : R2 := fun x y H Q => match y with
  | .non => Q (.bl (decide (x = .non))) H
  | _ => False
set_option linter.all false in private noncomputable def cNotN : R2 := fun x y H Q => match y with
  | .non => Q (.bl (!decide (x = .non))) H
  | _ => False
set_option linter.all false in private noncomputable def cMax : List V → Hp → VK → Prop := fun vs H Q => match vs with
  | [.int i, .int j] => Q (.int (if j > i then j else i)) H
  | _ => False
set_option linter.all false in private noncomputable def kSc (v : V) (T : String) : Option Bool := match v with
  | .int _ => if T = "int" then some true else if T = "bool" ∨ T = "str" ∨ T = "tuple" then some false else none
  | .bl _ => if T = "int" ∨ T = "bool" then some true else if T = "str" ∨ T = "tuple" then some false else none
  | .str _ => if T = "str" then some true else if T = "int" ∨ T = "bool" ∨ T = "tuple" then some false else none
  | .non => if T = "int" ∨ T = "bool" ∨ T = "str" ∨ T = "tuple" then some false else none
  | _ => none
set_option linter.all false in private noncomputable def kRef (o : Option HO) (T : String) : Option Bool := match o with
  | some (.lst _) => if T = "int" ∨ T = "bool" ∨ T = "str" ∨ T = "tuple" then some false else none
  | some (.tup _) => if T = "tuple" then some true else if T = "int" ∨ T = "bool" ∨ T = "str" then some false else none
  | some (.dK _) => if T = "int" ∨ T = "bool" ∨ T = "str" then some false else none
  | _ => none
set_option linter.all false in private noncomputable def cIsi : List V → Hp → VK → Prop := fun vs H Q => match vs with
  | [.ref p, .ty T] => onO (kRef (H p) T) fun b => Q (.bl b) H
  | [v, .ty T] => onO (kSc v T) fun b => Q (.bl b) H
  | _ => False
set_option linter.all false in private theorem kSc_of {K : PySem.W.Frag} {H : Hp} {v : V} {T : String} {b : Bool} (h : kSc v T = some b) : IsI K H v T b := by
  unfold kSc at h
  split at h
  all_goals (repeat' split at h)
  all_goals first
    | cases h
    | skip
  all_goals first
    | (subst_vars; constructor)
    | (rename_i q; rcases q with rfl | rfl <;> constructor)
    | (rename_i q _; rcases q with rfl | rfl <;> constructor)
    | (rename_i q; rcases q with rfl | rfl | rfl <;> constructor)
    | (rename_i q; rcases q with rfl | rfl | rfl | rfl <;> constructor)
set_option linter.all false in private theorem kRef_of {K : PySem.W.Frag} {H : Hp} {p : Addr} {T : String} {b : Bool} (h : kRef (H p) T = some b) : IsI K H (.ref p) T b := by
  unfold kRef at h
  split at h
  · rename_i xs e
    have q : SqL K H p xs := .inl (.inl e)
    split at h
    · cases h
      rename_i z
      rcases z with rfl | rfl | rfl | rfl
      · exact .li q
      · exact .lb q
      · exact .ls q
      · exact .lt q
    · cases h
  · rename_i xs e
    have q : SqT K H p xs := .inl (.inl e)
    split at h
    · cases h
      subst_vars
      exact .tt q
    · split at h
      · cases h
        rename_i z
        rcases z with rfl | rfl | rfl
        · exact .ti q
        · exact .tb q
        · exact .ts q
      · cases h
  · rename_i kvs e
    split at h
    · cases h
      rename_i z
      rcases z with rfl | rfl | rfl
      · exact .di e
      · exact .db e
      · exact .ds e
    · cases h
  · cases h
set_option linter.all false in private noncomputable def cApp (to te : TE) : TE := fun σ H Q => to σ H fun x H1 => onRef x fun a => onLst (H1 a) fun _ => te σ H1 fun y H2 => onLst (H2 a) fun xs => xs.length < sizeLine ∧ Q .non (upd H2 a (.lst (xs ++ [y])))
section
variable {X : Cx}
set_option linter.all false in private theorem IxR.imp {r r' : R2} (h : IxR X r) (f : ∀ x y H Q, r' x y H Q → r x y H Q) : IxR X r' := fun value slice pins s σ H x y v u Q I rx ry q => h value slice pins s σ H x y v u Q I rx ry (f _ _ _ _ q)
set_option linter.all false in private theorem OpR.imp {f : Value → Value → Sem Value} {r r' : R2} (h : OpR X f r) (g : ∀ x y H Q, r' x y H Q → r x y H Q) : OpR X f r' := fun pins s σ H x y v u Q I rx ry q => h pins s σ H x y v u Q I rx ry (g _ _ _ _ q)
set_option linter.all false in private theorem ix_c : IxR X cIx := ix_seq.imp fun x y H Q h => by
  cases x with
  | ref p =>
    obtain ⟨xs, e, h⟩ := onSeq_of h
    obtain ⟨i, rfl, h⟩ := onInt_of h
    obtain ⟨v, e2, h⟩ := onO_of h
    rcases e with e | e
    · exact .inl ⟨_, _, _, _, rfl, rfl, .inl (.inl e), e2, h⟩
    · exact .inr (.inl ⟨_, _, _, _, rfl, rfl, .inl (.inl e), e2, h⟩)
  | str z =>
    obtain ⟨i, rfl, h1, h⟩ := onInt_of h
    obtain ⟨v, e2, h⟩ := onO_of h
    exact .inr (.inr ⟨_, _, _, rfl, rfl, h1, e2, h⟩)
  | _ => exact h.elim
set_option linter.all false in private theorem op_addC : OpR X (binaryOp .Add) cAdd := (op_add.or (op_add_str.or (op_cat.or op_catT))).imp fun x y H Q h => by
  unfold cAdd cCat at h
  split at h
  · exact .inl ⟨_, _, rfl, rfl, h⟩
  · exact .inr (.inl ⟨_, _, rfl, rfl, h.1, h.2⟩)
  · split at h
    · exact .inr (.inr (.inl ⟨_, _, _, _, rfl, rfl, ‹_›, ‹_›, h.1, h.2⟩))
    · exact .inr (.inr (.inr ⟨_, _, _, _, rfl, rfl, .inl (.inl ‹_›), .inl (.inl ‹_›), h.1, h.2.1, h.2.2.2, h.2.2.1⟩))
    · exact h.elim
  · exact h.elim
set_option linter.all false in private theorem sl_c : SlR X cSl := fun pins s σ H x v vl vu lo hi sl Q I rx hs pl pu h => by
  refine (sl_list.or (sl_tup.or sl_str)) pins s σ H x v vl vu lo hi sl Q I rx hs pl pu ?_
  unfold cSl cCut at h
  split at h
  · exact .inr (.inr ⟨_, rfl, h.1, h.2⟩)
  · split at h
    · exact .inl ⟨_, _, rfl, .inl (.inl ‹_›), h⟩
    · exact .inr (.inl ⟨_, _, rfl, .inl (.inl ‹_›), h.1, h.2⟩)
    · exact h.elim
  · exact h.elim
set_option linter.all false in private theorem call_lenC : CallR X (.builtin "len") cLen := fun pins s σ H xs us Q I r h => by
  unfold cLen at h
  split at h
  · exact call_len pins s σ H _ us Q I r ⟨_, _, rfl, ⟨h.1, rfl⟩, h.2⟩
  · obtain ⟨ys, e, h⟩ := onSeq_of h
    rcases e with e | e
    · exact call_len pins s σ H _ us Q I r ⟨_, _, rfl, .inl ⟨_, .inl (.inl e), rfl⟩, h⟩
    · exact call_len pins s σ H _ us Q I r ⟨_, _, rfl, .inr ⟨_, .inl (.inl e), rfl⟩, h⟩
  · exact h.elim
set_option linter.all false in private theorem set_c : PSet X cSet := fun pins s σ H o i v ov iv u Q I ro ri rv h => by
  obtain ⟨p, rfl, h⟩ := onRef_of h
  obtain ⟨k, rfl, h⟩ := onInt_of h
  obtain ⟨xs, e, h⟩ := onLst_of h
  obtain ⟨j, e2, h⟩ := onO_of h
  exact set_list pins s σ H _ _ v ov iv u Q I ro ri rv ⟨_, _, _, _, rfl, rfl, e, e2, h⟩
set_option linter.all false in private theorem op_inC : OpR X (compareOp .In) (cIn false) := op_in_seq.imp fun x y H Q h => by
  obtain ⟨p, rfl, h⟩ := onRef_of h
  obtain ⟨xs, e, h1, h2, h⟩ := onSeq_of h
  exact ⟨_, _, rfl, e.imp (fun e => .inl (.inl e)) (fun e => .inl (.inl e)), h1, h2, h⟩
set_option linter.all false in private theorem op_notInC : OpR X (compareOp .NotIn) (cIn true) := op_notIn_seq.imp fun x y H Q h => by
  obtain ⟨p, rfl, h⟩ := onRef_of h
  obtain ⟨xs, e, h1, h2, h⟩ := onSeq_of h
  exact ⟨_, _, rfl, e.imp (fun e => .inl (.inl e)) (fun e => .inl (.inl e)), h1, h2, h⟩
set_option linter.all false in private theorem call_intC : CallR X (.type "int") cInt := fun pins s σ H xs us Q I r h => by
  refine call_int1 pins s σ H xs us Q I r ?_
  unfold cInt at h
  split at h
  · exact .inl ⟨_, rfl, h⟩
  · exact .inr ⟨_, rfl, by
      rename_i k
      cases k <;> exact h⟩
  · exact h.elim
set_option linter.all false in private theorem op_isC : OpR X (compareOp .Is) cIsN := op_isN.imp fun x y H Q h => by
  cases y with
  | non => exact ⟨rfl, h⟩
  | _ => exact h.elim
set_option linter.all false in private theorem op_isnotC : OpR X (compareOp .IsNot) cNotN := op_notN.imp fun x y H Q h => by
  cases y with
  | non => exact ⟨rfl, h⟩
  | _ => exact h.elim
set_option linter.all false in private theorem call_maxC (hc : X.calm = true) : CallR X (.builtin "max") cMax := fun pins s σ H xs us Q I r h => by
  refine call_max2 hc pins s σ H xs us Q I r ?_
  unfold cMax at h
  split at h
  · exact ⟨_, _, rfl, h⟩
  · exact h.elim
set_option linter.all false in private theorem call_isiC : CallR X (.builtin "isinstance") cIsi := fun pins s σ H xs us Q I r h => by
  refine call_isi pins s σ H xs us Q I r ?_
  unfold cIsi at h
  split at h
  · obtain ⟨b, e, h⟩ := onO_of h
    exact ⟨_, _, b, rfl, kRef_of e, h⟩
  · obtain ⟨b, e, h⟩ := onO_of h
    exact ⟨_, _, b, rfl, kSc_of e, h⟩
  · exact h.elim
variable {o e : Expr} {to te : TE} {apos cpos : Pos}
set_option linter.all false in private theorem pe_appC (ho : PE X o to) (he : PE X e te) (hbase : attributeBase o "append" X.env (eval o X.env) = eval o X.env := by rfl)
    (hfew : ((backTo cpos (starEach [e] X.env)).all (fun x => !x.1) && (backToKw cpos (keywordEach [] X.env)).all (fun x => x.1.isSome)
      && decide ([e].length + ([] : List Keyword).length + (if ([] : List Keyword).isEmpty then 0 else 1) < 30)) = true := by rfl)
    (hline : (apos.endLine == cpos.line) = true := by rfl) (hs : starEach [e] X.env = (false, eval e X.env) :: starEach [] X.env := by rfl) (hplain : (backTo cpos (starEach [] X.env)).any (·.1) = false := by rfl) :
    PE X (.Call (.Attribute o "append" apos) [e] [] cpos) (cApp to te) := by
  intro pins s σ H Q I h
  refine wpAny_Call_method_late hbase hfew hline rfl (thn (ho pins s σ H _ I h) fun v s1 ⟨x, H1, I1, r1, q1⟩ => ?_)
  obtain ⟨a, rfl, q1⟩ := onRef_of q1
  obtain ⟨xs, e1, q1⟩ := onLst_of q1
  obtain ⟨h1, h2⟩ := tyV_is (T := "list") I1 r1 (.inl ⟨rfl, xs, .inl (.inl e1)⟩)
  refine ⟨"list", "list.append", PySem.F.plainAttrs_list, PySem.F.slot_list_append, PySem.F.type_list_append, h1, h2, ?_⟩
  have q2 : tCons te tNil σ H1 (fun vs H2 => vs.length = 1 ∧ onLst (H2 a) fun xs => xs.length < sizeLine ∧ Q .non (upd H2 a (.lst (xs ++ vs)))) := by
    simpa only [tCons, tNil, List.length_cons, List.length_nil, Nat.zero_add, true_and] using q1
  have hA := pa_cons he pa_nil hs cpos pins s1 σ H1 _ I1 q2
  rw [hs] at hA ⊢
  refine Calls.callWith_builtin (by show (false || (backTo cpos (starEach [] X.env)).any (·.1)) = false; rw [hplain] <;> rfl) (Calls.evalArgs_plain ?_)
  refine thn hA fun us s2 ⟨vs, H2, I2, r2, l2, q3⟩ => ?_
  obtain ⟨xs, e3, q4, q5⟩ := onLst_of q3
  match vs, l2, r2, q5 with
  | [y], _, r2, q5 => exact mt_append pins s2 σ H2 _ _ v us Q I2 r1 r2 ⟨_, _, _, rfl, rfl, e3, q4, q5⟩
end
/-! ### dicts -/
section
variable {X : Cx} {o i e value : Expr} {pos pos' apos cpos : Pos} {td ty tv : TE}
end
/-! ### for x in reversed(a list that the body leaves as it is) -/
end L2
namespace L2
open PySem PySem.Spec PyProof.Rows
/-! ### evaluation: each reading is rewritten where its head is known -/
section
variable {σ : St} {H : Hp} {Q : VK} {D : Ends} {t u : TS} {te ta tb tc to ti : TE} {tl th : TO} {g : TG} {gs : TGs} {tt tt' : TT} {as : TA} {i j : Int} {n : Nat} {x y : Str} {v w : V} {vs : List V} {b : Bool} {p a : Addr} {r r' : R2} {B : Bool → Hp → Prop} {K : PySem.W.Frag}
set_option linter.all false in private theorem e_seq : tSeq t u D σ H = t { D with nx := u D } σ H := rfl
set_option linter.all false in private theorem e_asg : tAsg te g D σ H = te σ H fun x H1 => g x σ H1 D.nx := rfl
set_option linter.all false in private theorem e_name {N : St → Hp → Prop} : gName n v σ H N = N (σ.set n (some v)) H := rfl
set_option linter.all false in private theorem e_ret : tRet te D σ H = te σ H D.rt := rfl
set_option linter.all false in private theorem e_ifS : tIfS tt t u D σ H = tt σ H fun b H1 => if b = true then t D σ H1 else u D σ H1 := rfl
set_option linter.all false in private theorem e_test : tTest te σ H B = te σ H fun x H' => onB x fun k => B k H' := by simp only [tTest, onB_eq]
set_option linter.all false in private theorem e_tB : tB te σ H B = te σ H fun x H' => onB x fun k => B k H' := by simp only [tB, onB_eq]
set_option linter.all false in private theorem e_if : tIf tt ta tb σ H Q = tt σ H fun c H1 => if c = true then ta σ H1 Q else tb σ H1 Q := rfl
set_option linter.all false in private theorem e_op : tOp r ta tb σ H Q = ta σ H fun x H1 => tb σ H1 fun y H2 => r x y H2 Q := rfl
set_option linter.all false in private theorem e_un {q : V → Hp → VK → Prop} : tUn q ta σ H Q = ta σ H fun x H1 => q x H1 Q := rfl
set_option linter.all false in private theorem e_c : tC v σ H Q = Q v H := rfl
set_option linter.all false in private theorem e_cons {A : List V → Hp → Prop} : tCons te as σ H A = te σ H fun x H1 => as σ H1 fun xs H2 => A (x :: xs) H2 := rfl
set_option linter.all false in private theorem e_nil {A : List V → Hp → Prop} : tNil σ H A = A [] H := rfl
set_option linter.all false in private theorem e_call {sp : Sp} {E : XK} : tCall sp [] E as σ H Q = as σ H fun vs H1 => sp vs H1 Q E := by simp only [tCall, List.append_nil]
set_option linter.all false in private theorem e_cb {q : List V → Hp → VK → Prop} : tCB q as σ H Q = as σ H fun vs H1 => q vs H1 Q := rfl
set_option linter.all false in private theorem e_lst : tLst as σ H Q = as σ H fun xs H1 => xs.length ≤ sizeLine ∧ ∀ p, H1 p = none → Q (.ref p) (upd H1 p (.lst xs)) := rfl
set_option linter.all false in private theorem e_tup : tTup as σ H Q = as σ H fun xs H1 => xs.length ≤ sizeLine ∧ ∀ p, H1 p = none → Q (.ref p) (upd H1 p (.tup xs)) := rfl
set_option linter.all false in private theorem e_drop : tDrop te D σ H = te σ H fun _ H1 => D.nx σ H1 := rfl
set_option linter.all false in private theorem e_next : tNext D σ H = D.nx σ H := rfl
set_option linter.all false in private theorem e_andV : tAndV ta tb σ H Q = ta σ H fun x H1 => onB x fun c => if c = true then tb σ H1 Q else Q (.bl false) H1 := by simp only [tAndV, onB_eq]
set_option linter.all false in private theorem e_and : tAnd tt tt' σ H B = tt σ H fun c H1 => if c = true then tt' σ H1 B else B false H1 := rfl
set_option linter.all false in private theorem e_or : tOr tt tt' σ H B = tt σ H fun c H1 => if c = true then B true H1 else tt' σ H1 B := rfl
set_option linter.all false in private theorem e_not : tNot tt σ H B = tt σ H fun c H1 => B (!c) H1 := rfl
set_option linter.all false in private theorem e_chain : tChain r r' ta tb tc σ H Q = ta σ H fun x H1 => tb σ H1 fun y H2 => r x y H2 fun z H3 => onB z fun k => if k = true then tc σ H3 fun w' H4 => r' y w' H4 Q else Q (.bl false) H3 := by simp only [tChain, onB_eq]
set_option linter.all false in private theorem e_sl {q : V → Option Int → Option Int → Hp → VK → Prop} : tSl q te tl th σ H Q = te σ H fun x H1 => tl σ H1 fun l H2 => th σ H2 fun u H3 => q x l u H3 Q := rfl
set_option linter.all false in private theorem onInt_eq {k : Int → Prop} : (∃ i, v = .int i ∧ k i) = onInt v k := propext ⟨fun ⟨i, e, h⟩ => by subst e; exact h, onInt_of⟩
set_option linter.all false in private theorem e_part {O : Option Int → Hp → Prop} : tPart te σ H O = te σ H fun x H1 => onInt x fun i => O (some i) H1 := by simp only [tPart, onInt_eq]
set_option linter.all false in private theorem e_nopart {O : Option Int → Hp → Prop} : tNoPart σ H O = O none H := rfl
set_option linter.all false in private theorem e_gsub {s : TSet} {N : St → Hp → Prop} : gSub to ti s v σ H N = to σ H fun o H1 => ti σ H1 fun i H2 => s o i v H2 fun H3 => N σ H3 := rfl
set_option linter.all false in private theorem e_app : cApp to te σ H Q = to σ H fun x H1 => onRef x fun a => onLst (H1 a) fun _ => te σ H1 fun y H2 => onLst (H2 a) fun xs => xs.length < sizeLine ∧ Q .non (upd H2 a (.lst (xs ++ [y]))) := rfl
set_option linter.all false in private theorem e_onO {α : Type} {z : α} {k : α → Prop} {u : Tg k} : @onO _ (some z) k u = k z := rfl
set_option linter.all false in private theorem e_onB {k : Bool → Prop} {u : Tg k} : @onB (.bl b) k u = k b := rfl
set_option linter.all false in private theorem e_onRef {k : Addr → Prop} {u : Tg k} : @onRef (.ref p) k u = k p := rfl
set_option linter.all false in private theorem e_onInt {k : Int → Prop} {u : Tg k} : @onInt (.int i) k u = k i := rfl
set_option linter.all false in private theorem e_onLst {k : List V → Prop} {u : Tg k} : @onLst (some (.lst vs)) k u = k vs := rfl
set_option linter.all false in private theorem e_onSeqL {k : List V → Prop} {u : Tg k} : @onSeq (some (.lst vs)) k u = k vs := rfl
set_option linter.all false in private theorem e_onSeqT {k : List V → Prop} {u : Tg k} : @onSeq (some (.tup vs)) k u = k vs := rfl
set_option linter.all false in private theorem e_ixR : cIx (.ref p) w H Q = onSeq (H p) fun xs => onInt w fun i => onO (atI xs i) fun v => Q v H := rfl
set_option linter.all false in private theorem e_ixS : cIx (.str x) w H Q = onInt w fun i => x.length ≤ sizeLine ∧ onO (atI x.cps.toList i) fun c => Q (.str ⟨#[c]⟩) H := rfl
set_option linter.all false in private theorem e_addI : cAdd (.int i) (.int j) H Q = Q (.int (i + j)) H := rfl
set_option linter.all false in private theorem e_addS : cAdd (.str x) (.str y) H Q = (x.length + y.length ≤ sizeLine ∧ Q (.str (x ++ y)) H) := rfl
set_option linter.all false in private theorem e_addR : cAdd (.ref a) (.ref p) H Q = cCat H Q a (H a) (H p) := rfl
set_option linter.all false in private theorem e_catL {us : List V} : cCat H Q a (some (.lst vs)) (some (.lst us)) = (vs.length + us.length ≤ sizeLine ∧ ∀ p, H p = none → Q (.ref p) (upd H p (.lst (vs ++ us)))) := rfl
set_option linter.all false in private theorem e_slS {lo hi : Option Int} : cSl (.str x) lo hi H Q = (x.length ≤ sizeLine ∧ Q (.str (Txt.slice x lo hi)) H) := rfl
set_option linter.all false in private theorem e_slR {lo hi : Option Int} : cSl (.ref a) lo hi H Q = cCut lo hi H Q (H a) := rfl
set_option linter.all false in private theorem e_cutL {lo hi : Option Int} : cCut lo hi H Q (some (.lst vs)) = ∀ p, H p = none → Q (.ref p) (upd H p (.lst (cutV vs lo hi))) := rfl
set_option linter.all false in private theorem e_lenS : cLen [.str x] H Q = (x.length ≤ sizeLine ∧ Q (.int x.length) H) := rfl
set_option linter.all false in private theorem e_lenR : cLen [.ref p] H Q = onSeq (H p) fun xs => Q (.int xs.length) H := rfl
set_option linter.all false in private theorem e_set {N : Hp → Prop} : cSet (.ref p) (.int i) v H N = onLst (H p) fun xs => onO (ixN xs.length i) fun j => N (upd H p (.lst (xs.set j v))) := rfl
set_option linter.all false in private theorem e_in {neg : Bool} : cIn neg v (.ref p) H Q = onSeq (H p) fun xs => flatV v = true ∧ xs.all flatV = true ∧ Q (.bl (if neg = true then !inV v xs else inV v xs)) H := rfl
set_option linter.all false in private theorem e_atI {α : Type} {xs : List α} {k : Nat} : atI xs (OfNat.ofNat k) = xs[k]? := by
  show atI xs ((k : Nat) : Int) = xs[k]?
  cases e : xs[k]? with
  | some z => exact atI_nat e
  | none =>
    have := List.getElem?_eq_none_iff.mp e
    unfold atI ixN
    rw [if_pos (by omega), if_neg (by omega)]
    rfl
set_option linter.all false in private theorem e_at0 {α : Type} {xs : List α} : atI xs 0 = xs[0]? := e_atI (k := 0)
set_option linter.all false in private theorem e_at1 {α : Type} {xs : List α} : atI xs 1 = xs[1]? := e_atI (k := 1)
set_option linter.all false in private theorem e_at2 {α : Type} {xs : List α} : atI xs 2 = xs[2]? := e_atI (k := 2)
set_option linter.all false in private theorem e_at3 {α : Type} {xs : List α} : atI xs 3 = xs[3]? := e_atI (k := 3)
set_option linter.all false in private theorem e_cmul1 : CMul 1 j = True := eq_true (.inl ⟨by decide, by decide⟩)
set_option linter.all false in private theorem e_cmul2 : CMul 2 j = True := eq_true (.inl ⟨by decide, by decide⟩)
set_option linter.all false in private theorem e_cpow9 : CPow 10 9 = True := eq_true ⟨by decide, by decide, by decide⟩
set_option linter.all false in private theorem e_cpow18 : CPow 10 18 = True := eq_true ⟨by decide, by decide, by decide⟩
set_option linter.all false in private theorem e_ixN0 {m : Nat} : ixN (m + 1) 0 = some 0 := by simp [ixN] <;> omega
set_option linter.all false in private theorem e_ixN1 {m : Nat} : ixN (m + 2) 1 = some 1 := by simp [ixN] <;> omega
set_option linter.all false in private theorem e_intI : cInt [.int i] H Q = Q (.int i) H := rfl
set_option linter.all false in private theorem e_intB : cInt [.bl b] H Q = Q (.int (if b = true then 1 else 0)) H := rfl
set_option linter.all false in private theorem e_is : cIsN v .non H Q = Q (.bl (decide (v = .non))) H := by cases v <;> rfl
set_option linter.all false in private theorem e_isnot : cNotN v .non H Q = Q (.bl (!decide (v = .non))) H := by cases v <;> rfl
set_option linter.all false in private theorem e_max : cMax [.int i, .int j] H Q = Q (.int (if j > i then j else i)) H := rfl
set_option linter.all false in private theorem e_isi_int_ref : cIsi [.ref p, .ty "int"] H Q = onO (kRef (H p) "int") fun b => Q (.bl b) H := rfl
set_option linter.all false in private theorem e_isi_bool_ref : cIsi [.ref p, .ty "bool"] H Q = onO (kRef (H p) "bool") fun b => Q (.bl b) H := rfl
set_option linter.all false in private theorem e_isi_str_str : cIsi [(.str x), .ty "str"] H Q = Q (.bl true) H := by simp [cIsi, kSc, onO]
set_option linter.all false in private theorem e_isi_str_ref : cIsi [.ref p, .ty "str"] H Q = onO (kRef (H p) "str") fun b => Q (.bl b) H := rfl
set_option linter.all false in private theorem e_isi_tuple_ref : cIsi [.ref p, .ty "tuple"] H Q = onO (kRef (H p) "tuple") fun b => Q (.bl b) H := rfl
set_option linter.all false in private theorem e_chk {c : Prop} [Decidable c] {P R : Prop} : (if (decide c) = true then P else R) = if c then P else R := by
  by_cases h : c <;> simp [h]
set_option linter.all false in private theorem e_chn {c : Prop} [Decidable c] {P R : Prop} : (if (!decide c) = true then P else R) = if c then R else P := by
  by_cases h : c <;> simp [h]
set_option linter.all false in private theorem e_ite1 {P R : Prop} : (if true = true then P else R) = P := by simp
set_option linter.all false in private theorem e_ite0 {P R : Prop} : (if false = true then P else R) = R := by simp
end
set_option linter.all false in private theorem f_or {a b : Prop} [Decidable a] [Decidable b] {P R : Prop} : (if a then P else if b then P else R) = if a ∨ b then P else R := by
  by_cases ha : a <;> by_cases hb : b <;> simp [ha, hb]
set_option linter.all false in private theorem Kp.at1 {r a : Addr} {H H' : Hp} {o : HO} (x : Kp [r] H H') (e : H a = some o) (n : a ≠ r) : H' a = some o := x a o e (by simpa using n)
set_option linter.all false in private theorem r_draw {xs : List V} {i : Int} {k : V → Prop} (h0 : 0 ≤ i) (h1 : i < (xs.length : Int)) (q : ∀ v ∈ xs, k v) : onO (atI xs i) k := by
  have hk : i.toNat < xs.length := by omega
  have ek : i = ((i.toNat : Nat) : Int) := by omega
  have e : atI xs ((i.toNat : Nat) : Int) = some xs[i.toNat] := atI_nat (List.getElem?_eq_getElem hk)
  rw [← ek] at e
  rw [e]
  exact q _ (List.getElem_mem hk)
set_option linter.all false in private theorem r_drawS {x : Str} {i : Int} {k : Nat → Prop} (h0 : 0 ≤ i) (h1 : i < (x.length : Int)) (q : ∀ c ∈ x.cps.toList, k c) : onO (atI x.cps.toList i) k := by
  have hl : x.cps.toList.length = x.length := by simp [Str.length]
  have hk : i.toNat < x.cps.toList.length := by omega
  have ek : i = ((i.toNat : Nat) : Int) := by omega
  have e : atI x.cps.toList ((i.toNat : Nat) : Int) = some x.cps.toList[i.toNat] := atI_nat (List.getElem?_eq_getElem hk)
  rw [← ek] at e
  rw [e]
  exact q _ (List.getElem_mem hk)
end L2
namespace L2
open PySem PySem.Spec PyProof.Rows
/-! ### loops -/
set_option linter.all false in private noncomputable def on1 (vs : List V) (k : V → Prop) (_u : Tg k := ()) : Prop := match vs with
  | [v] => k v
  | _ => False
set_option linter.all false in private noncomputable def lp (J : It) (g : TG) (tb : TS) (D : Ends) (σ : St) (H : Hp) : Prop := ∃ W : Nat → Nat → St → Hp → Prop, (∃ m, W 0 m σ H) ∧ ∀ i m σ H, W i m σ H →
  (J.stop i H ∧ D.nx σ H) ∨ (J.go i H ∧ ∃ N : St → Hp → Prop, (∀ σ' H', N σ' H' → ∃ m', m' < m ∧ W (i + 1) m' σ' H') ∧ ∀ x H', J.yld i H x H' → g x σ H' fun σ2 H2 => tb { D with nx := N, ct := N, bk := D.nx } σ2 H2)
section
variable {σ : St} {H : Hp} {D : Ends} {g : TG} {tb : TS} {as : TA} {te : TE} {K : PySem.W.Frag} {v w : V}
set_option linter.all false in private theorem e_on1 {k : V → Prop} {u : Tg k} : @on1 [v] k u = k v := rfl
set_option linter.all false in private theorem e_forR1 : tFor (iRng1 as) g tb D σ H = as σ H fun vs H1 => on1 vs fun v => onInt v fun j => (-(2 ^ 62) ≤ j ∧ j < 2 ^ 62) ∧ lp (Itr 0 j.toNat) g tb D σ H1 := by
  unfold tFor iRng1
  congr 1
  funext vs H1
  refine propext ⟨fun ⟨j, e, h1, h2, h⟩ => by subst e; exact ⟨⟨h1, h2⟩, h⟩, fun h => ?_⟩
  unfold on1 at h
  split at h
  · obtain ⟨j, rfl, ⟨h1, h2⟩, h⟩ := onInt_of h
    exact ⟨j, rfl, h1, h2, h⟩
  · exact h.elim
set_option linter.all false in private theorem e_forL : tFor (iList K te) g tb D σ H = te σ H fun x H1 => onRef x fun a => (∃ xs, SqL K H1 a xs) ∧ lp (Itl K a) g tb D σ H1 := by
  unfold tFor iList
  congr 1
  funext x H1
  exact propext ⟨fun ⟨a, e, h1, h⟩ => by subst e; exact ⟨h1, h⟩, fun h => by obtain ⟨a, rfl, h1, h⟩ := onRef_of h; exact ⟨a, rfl, h1, h⟩⟩
set_option linter.all false in private theorem e_forT : tFor (iTup K te) g tb D σ H = te σ H fun x H1 => onRef x fun a => (∃ xs, SqT K H1 a xs) ∧ lp (Itt K a) g tb D σ H1 := by
  unfold tFor iTup
  congr 1
  funext x H1
  exact propext ⟨fun ⟨a, e, h1, h⟩ => by subst e; exact ⟨h1, h⟩, fun h => by obtain ⟨a, rfl, h1, h⟩ := onRef_of h; exact ⟨a, rfl, h1, h⟩⟩
end
end L2
namespace L2
open PySem PySem.Spec PyProof.Rows
/-! ### comprehensions -/
set_option linter.all false in private noncomputable def lc (J : It) (fr : List Nat) (tc : TT) (te : TE) (σ : St) (H : Hp) (Q : VK) : Prop := ∃ W : Nat → Nat → List V → Hp → Prop, (∃ m, W 0 m [] H) ∧ ∀ i m xs H, W i m xs H → xs.length ≤ 1000000 ∧
  ((J.stop i H ∧ ∀ p, H p = none → Q (.ref p) (upd H p (.lst xs))) ∨
   (J.go i H ∧ ∀ y H', J.yld i H y H' → tc (some y :: compSt fr σ) H' fun b H2 => if b = true then te (some y :: compSt fr σ) H2 (fun z H3 => ∃ m', m' < m ∧ W (i + 1) m' (xs ++ [z]) H3) else ∃ m', m' < m ∧ W (i + 1) m' xs H2))
section
variable {fr : List Nat} {tc : TT} {te tl : TE} {σ : St} {H H1 : Hp} {Q : VK} {as : TA} {K : PySem.W.Frag}
set_option linter.all false in private theorem e_compR : tComp (iRng1 as) fr tc te σ H Q = as σ H fun vs H1 => on1 vs fun v => onInt v fun j => (-(2 ^ 62) ≤ j ∧ j < 2 ^ 62) ∧ lc (Itr 0 j.toNat) fr tc te σ H1 Q := by
  unfold tComp iRng1
  congr 1
  funext vs H1
  refine propext ⟨fun ⟨j, e, h1, h2, h⟩ => by subst e; exact ⟨⟨h1, h2⟩, h⟩, fun h => ?_⟩
  unfold on1 at h
  split at h
  · obtain ⟨j, rfl, ⟨h1, h2⟩, h⟩ := onInt_of h
    exact ⟨j, rfl, h1, h2, h⟩
  · exact h.elim
set_option linter.all false in private theorem e_compL : tComp (iList K tl) fr tc te σ H Q = tl σ H fun x H1 => onRef x fun a => (∃ xs, SqL K H1 a xs) ∧ lc (Itl K a) fr tc te σ H1 Q := by
  unfold tComp iList
  congr 1
  funext x H1
  exact propext ⟨fun ⟨a, e, h1, h⟩ => by subst e; exact ⟨h1, h⟩, fun h => by obtain ⟨a, rfl, h1, h⟩ := onRef_of h; exact ⟨a, rfl, h1, h⟩⟩
set_option linter.all false in private noncomputable def onStr (x : V) (k : Str → Prop) (_u : Tg k := ()) : Prop := match x with
  | .str p => k p
  | _ => False
set_option linter.all false in private theorem e_onStr {x : Str} {k : Str → Prop} {u : Tg k} : @onStr (.str x) k u = k x := rfl
set_option linter.all false in private theorem e_compS : tComp (iStr tl) fr tc te σ H Q = tl σ H fun x H1 => onStr x fun z => lc (Its z) fr tc te σ H1 Q := by
  unfold tComp iStr
  congr 1
  funext x H1
  refine propext ⟨fun ⟨a, e, h⟩ => by subst e; exact h, fun h => ?_⟩
  cases x with
  | str z => exact ⟨z, rfl, h⟩
  | _ => exact h.elim
set_option linter.all false in private theorem e_true {B : Bool → Hp → Prop} : tTrue σ H B = B true H := rfl
set_option linter.all false in private theorem e_cs0 : compSt [] σ = [] := rfl
set_option linter.all false in private theorem cW_eq {n : Nat} {Pv : Nat → List V → Hp → Prop} {i : Nat} {xs : List V} (hi : i < n) : (∃ m', m' < n - i ∧ cW n Pv (i + 1) m' xs H) = Pv (i + 1) xs H :=
  propext ⟨fun ⟨_, _, _, _, h⟩ => h, fun h => cW.next hi h⟩
set_option linter.all false in private theorem lc_range {lo : Int} {n : Nat} (Pv : Nat → List V → Hp → Prop) (h0 : Pv 0 [] H) (hz : ∀ i xs H, Pv i xs H → xs.length ≤ 1000000)
    (hs : ∀ i xs H, i < n → Pv i xs H → tc (some (.int (lo + i)) :: compSt fr σ) H fun b H2 => if b = true then te (some (.int (lo + i)) :: compSt fr σ) H2 (fun z H3 => Pv (i + 1) (xs ++ [z]) H3) else Pv (i + 1) xs H2)
    (hd : ∀ xs H, Pv n xs H → ∀ p, H p = none → Q (.ref p) (upd H p (.lst xs))) : lc (Itr lo n) fr tc te σ H Q :=
  comp_range Pv h0 hz (fun i xs H hi h => by simp only [cW_eq hi]; exact hs i xs H hi h) hd
set_option linter.all false in private theorem lc_list {a : Addr} {ys : List V} (Pv : Nat → List V → Hp → Prop) (h0 : Pv 0 [] H) (hz : ∀ i xs H, Pv i xs H → xs.length ≤ 1000000) (hl : ∀ i xs H, Pv i xs H → SqL K H a ys)
    (hs : ∀ i y xs H, i < ys.length → ys[i]? = some y → Pv i xs H → tc (some y :: compSt fr σ) H fun b H2 => if b = true then te (some y :: compSt fr σ) H2 (fun z H3 => Pv (i + 1) (xs ++ [z]) H3) else Pv (i + 1) xs H2)
    (hd : ∀ xs H, Pv ys.length xs H → ∀ p, H p = none → Q (.ref p) (upd H p (.lst xs))) : lc (Itl K a) fr tc te σ H Q :=
  comp_list Pv h0 hz hl (fun i y xs H hi e h => by simp only [cW_eq hi]; exact hs i y xs H hi e h) hd
set_option linter.all false in private theorem lc_str {x : Str} (Pv : Nat → List V → Hp → Prop) (h0 : Pv 0 [] H) (hz : ∀ i xs H, Pv i xs H → xs.length ≤ 1000000)
    (hs : ∀ i c xs H, i < x.cps.size → x.cps[i]? = some c → Pv i xs H → tc (some (.str ⟨#[c]⟩) :: compSt fr σ) H fun b H2 => if b = true then te (some (.str ⟨#[c]⟩) :: compSt fr σ) H2 (fun z H3 => Pv (i + 1) (xs ++ [z]) H3) else Pv (i + 1) xs H2)
    (hd : ∀ xs H, Pv x.cps.size xs H → ∀ p, H p = none → Q (.ref p) (upd H p (.lst xs))) : lc (Its x) fr tc te σ H Q :=
  comp_str Pv h0 hz (fun i c xs H hi e h => by simp only [cW_eq hi]; exact hs i c xs H hi e h) hd
end
end L2
namespace L2
open PySem PySem.Spec PyProof.Rows
/-! ### == and != of values that hold others -/
set_option linter.all false in mutual
private inductive EqA (K : PySem.W.Frag) (H : Hp) : Nat → V → V → Bool → Prop
  | flat {n : Nat} {x y : V} : flatV x = true → flatV y = true → EqA K H n x y (eqV x y)
  | same {n : Nat} {a : Addr} : EqA K H n (.ref a) (.ref a) true
  | refs {n : Nat} {a b : Addr} {r : Bool} : a ≠ b → RcA K H n a b r → EqA K H n (.ref a) (.ref b) r
private inductive RcA (K : PySem.W.Frag) (H : Hp) : Nat → Addr → Addr → Bool → Prop
  | list {n : Nat} {a b : Addr} {xs ys : List V} {e : Nat → Bool} : SqL K H a xs → SqL K H b ys → xs.length = ys.length → (∀ j x y, xs[j]? = some x → ys[j]? = some y → EqA K H n x y (e j)) → RcA K H (n + 1) a b ((List.range xs.length).all e)
  | listLen {n : Nat} {a b : Addr} {xs ys : List V} : SqL K H a xs → SqL K H b ys → xs.length ≠ ys.length → RcA K H (n + 1) a b false
  | tup {n : Nat} {a b : Addr} {xs ys : List V} {e : Nat → Bool} : SqT K H a xs → SqT K H b ys → (∀ j x y, xs[j]? = some x → ys[j]? = some y → EqA K H n x y (e j)) → RcA K H (n + 1) a b ((List.range (min xs.length ys.length)).all e && xs.length == ys.length)
end
section
variable {X : Cx} {pins : List (Addr × Obj)} {σ : St} {H : Hp} {s : Shared}
set_option linter.all false in private theorem item_of {xs : List V} {its : List Value} (r : Vals xs its) {j : Nat} (h : j < its.toArray.size) : ∃ x, xs[j]? = some x ∧ RelV x its.toArray[j] := by
  have hj : j < xs.length := by have := r.length; simp only [List.size_toArray] at h; omega
  have e := List.getElem?_eq_getElem hj
  obtain ⟨u, g, ru⟩ := r.get e
  refine ⟨_, e, ?_⟩
  obtain ⟨_, q⟩ := List.getElem?_eq_some_iff.mp g
  have : its.toArray[j] = u := by simpa using q
  rw [this]
  exact ru
set_option linter.all false in private theorem eqrc_at : ∀ (n : Nat), (∀ {a b : Addr} {r : Bool}, RcA X.K H n a b r → ∀ {A : Around}, Inv X pins σ H s → A.units + n < cLine → SeqAt.RcAt A s (.ref a) (.ref b) r) ∧ (∀ {x y : V} {b : Bool}, EqA X.K H n x y b → ∀ {A : Around} {v u : Value}, Inv X pins σ H s → RelV x v → RelV y u → A.units + n < cLine → SeqAt.EqAt A s v u b) := by
  intro n
  have up : ∀ {n : Nat}, (∀ {a b : Addr} {r : Bool}, RcA X.K H n a b r → ∀ {A : Around}, Inv X pins σ H s → A.units + n < cLine → SeqAt.RcAt A s (.ref a) (.ref b) r) → (∀ {x y : V} {b : Bool}, EqA X.K H n x y b → ∀ {A : Around} {v u : Value}, Inv X pins σ H s → RelV x v → RelV y u → A.units + n < cLine → SeqAt.EqAt A s v u b) := by
    intro n rc x y b h A v u I rx ry hu
    cases h with
    | flat fx fy => exact eqAt_V rx ry fx fy
    | same =>
      cases rx
      cases ry
      exact SeqAt.EqAt.same _
    | refs ne h =>
      cases rx
      cases ry
      exact SeqAt.EqAt.of_refs ne (rc h I hu)
  suffices g : ∀ {a b : Addr} {r : Bool}, RcA X.K H n a b r → ∀ {A : Around}, Inv X pins σ H s → A.units + n < cLine → SeqAt.RcAt A s (.ref a) (.ref b) r from ⟨g, up g⟩
  induction n with
  | zero => intro a b r h; cases h
  | succ n ih =>
    intro a b r h A I hu
    have ih := @up n @ih
    cases h with
    | list hx hy hl he =>
      obtain ⟨its, r1, p1, z1⟩ := I.list hx
      obtain ⟨jts, r2, p2, z2⟩ := I.list hy
      have l1 := r1.length
      have l2 := r2.length
      have := SeqAt.RcAt.lists p1.isList p2.isList (by simp only [List.size_toArray]; omega) (by omega) (A := A) (fun j h1 h2 => by
        obtain ⟨x, ex, rx⟩ := item_of r1 h1
        obtain ⟨y, ey, ry⟩ := item_of r2 h2
        exact ih (he j x y ex ey) I rx ry (by show A.units + 1 + _ < _; omega))
      rw [List.size_toArray, ← l1] at this
      exact this
    | listLen hx hy hl =>
      obtain ⟨its, r1, p1, z1⟩ := I.list hx
      obtain ⟨jts, r2, p2, z2⟩ := I.list hy
      have l1 := r1.length
      have l2 := r2.length
      exact SeqAt.RcAt.lists_lengths p1.isList p2.isList (by simp only [List.size_toArray, bne_iff_ne, ne_eq]; omega) (by omega)
    | tup hx hy he =>
      obtain ⟨its, r1, p1, z1⟩ := I.tuple hx
      obtain ⟨jts, r2, p2, z2⟩ := I.tuple hy
      have l1 := r1.length
      have l2 := r2.length
      have := SeqAt.RcAt.tuples (show s.heap.IsTuple _ its.toArray from p1) (show s.heap.IsTuple _ jts.toArray from p2) (by omega) (A := A) (fun j h1 h2 => by
        obtain ⟨x, ex, rx⟩ := item_of r1 h1
        obtain ⟨y, ey, ry⟩ := item_of r2 h2
        exact ih (he j x y ex ey) I rx ry (by show A.units + 1 + _ < _; omega))
      rw [List.size_toArray, List.size_toArray, ← l1, ← l2] at this
      exact this
set_option linter.all false in private theorem eqA_at {n : Nat} {x y : V} {b : Bool} (h : EqA X.K H n x y b) {A : Around} {v u : Value} (I : Inv X pins σ H s) (rx : RelV x v) (ry : RelV y u) (hu : A.units + n < cLine) : SeqAt.EqAt A s v u b := (eqrc_at n).2 h I rx ry hu
end
set_option linter.all false in private noncomputable def cNeE : R2 := fun x y H Q => onRef x fun a => onRef y fun b => onLst (H a) fun xs => onLst (H b) fun ys => ys = [] ∧ Q (.bl (!xs.isEmpty)) H
set_option linter.all false in private theorem op_neE {X : Cx} (hu : X.A.units < cLine) : OpR X (compareOp .NotEq) cNeE := fun pins s σ H x y v u Q I rx ry h => by
  obtain ⟨a, rfl, h1⟩ := onRef_of h
  obtain ⟨b, rfl, h2⟩ := onRef_of h1
  obtain ⟨xs, e1, h3⟩ := onLst_of h2
  obtain ⟨ys, e2, rfl, h⟩ := onLst_of h3
  cases rx
  cases ry
  obtain ⟨its, r1, p1, z1⟩ := I.list (SqL.of e1)
  obtain ⟨jts, r2, p2, z2⟩ := I.list (SqL.of e2)
  have l1 := r1.length
  have l2 := r2.length
  cases xs with
  | nil =>
    have l1' : its.length = 0 := l1.symm
    have l2' : jts.length = 0 := l2.symm
    refine SeqAt.RcNeAt.lists (e := fun _ => true) p1.isList p2.isList (by simp [l1', l2']) hu (fun j h1 _ => absurd h1 (by simp [l1'])) X.prog X.w X.xe _ (fin_bl I h ?_)
    simp [l1']
  | cons x xs =>
    have l1' : its.length = xs.length + 1 := l1.symm
    have l2' : jts.length = 0 := l2.symm
    exact SeqAt.RcNeAt.lists_lengths p1.isList p2.isList (by simp [l1', l2']) hu X.prog X.w X.xe _ (fin_bl I h rfl)
end L2
namespace L2
open PySem PySem.Spec PyProof.Rows
/-! ### xs.index(e) of flat items -/
section
variable {X : Cx}
variable {o e : Expr} {to te : TE} {apos cpos : Pos}
end
section
variable {H : Hp} {Q : VK} {a b p : Addr} {x : V}
set_option linter.all false in private theorem e_slLr {K : PySem.W.Frag} {lo hi : Option Int} : rSlL K (.ref a) lo hi H Q = ∃ xs, SqL K H a xs ∧ ∀ p, H p = none → Q (.ref p) (upd H p (.lst (cutV xs lo hi))) := by simp [rSlL]
set_option linter.all false in private theorem e_c0 : ((0 : Nat) : Int) = 0 := rfl
set_option linter.all false in private theorem e_c1 : ((1 : Nat) : Int) = 1 := rfl
set_option linter.all false in private theorem e_c2 : ((2 : Nat) : Int) = 2 := rfl
set_option linter.all false in private theorem e_neE : cNeE (.ref a) (.ref b) H Q = onLst (H a) fun xs => onLst (H b) fun ys => ys = [] ∧ Q (.bl (!xs.isEmpty)) H := rfl
end
end L2
namespace L2
open PySem PySem.Spec PyProof.Rows
/-! ### tuples: t + u of any, t == () -/
set_option linter.all false in private noncomputable def onTup (o : Option HO) (k : List V → Prop) (_u : Tg k := ()) : Prop := match o with
  | some (.tup xs) => k xs
  | _ => False
set_option linter.all false in private theorem onTup_of {o : Option HO} {k : List V → Prop} (h : onTup o k) : ∃ xs, o = some (.tup xs) ∧ k xs := by
  unfold onTup at h
  split at h
  · exact ⟨_, rfl, h⟩
  · exact h.elim
set_option linter.all false in private noncomputable def cTcat : R2 := fun x y H Q => onRef x fun a => onRef y fun b => onTup (H a) fun xs => onTup (H b) fun ys => xs.length + ys.length ≤ sizeLine ∧ (if xs = [] then Q y H else if ys = [] then Q x H else ∀ p, H p = none → Q (.ref p) (upd H p (.tup (xs ++ ys))))
section
variable {X : Cx}
set_option linter.all false in private theorem op_catT0 : OpR X (binaryOp .Add) (fun x y H Q => ∃ a b ys, x = .ref a ∧ y = .ref b ∧ SqT X.K H a [] ∧ SqT X.K H b ys ∧ Q (.ref b) H) := by
  intro pins s σ H x y v u Q I rx ry h
  obtain ⟨a, b, ys, rfl, rfl, ha, hb, q⟩ := h
  cases rx
  cases ry
  obtain ⟨its, r1, p1, _⟩ := I.tuple ha
  obtain ⟨its2, r2, p2, _⟩ := I.tuple hb
  have l1 : its = [] := r1.nil_iff.mpr rfl
  obtain ⟨⟨c1, d1, t1, o1⟩, ho, rfl, n, rfl⟩ := p1
  obtain ⟨⟨c2, d2, t2, o2⟩, ho2, rfl, n2, rfl⟩ := p2
  exact concat_meets ⟨_, ho, rfl⟩ ⟨_, ho2, rfl⟩ noFill_tuple_add seq_tuple_add PySem.F.slot_tuple_add PySem.F.entry_tuple_add (PySem.F.args_tuple_add_2 _ _) (tuple_addW0 a b its.toArray its2.toArray n n2 d1 d2 o1 o2 (by simp [l1])) ⟨ho, ho2, .ref b, H, I, rfl, q⟩
set_option linter.all false in private theorem op_tcat : OpR X (binaryOp .Add) cTcat := (op_catT0.or op_catT).imp fun x y H Q h => by
  obtain ⟨a, rfl, h1⟩ := onRef_of h
  obtain ⟨b, rfl, h2⟩ := onRef_of h1
  obtain ⟨xs, e1, h3⟩ := onTup_of h2
  obtain ⟨ys, e2, h4, h5⟩ := onTup_of h3
  by_cases c : xs = []
  · rw [if_pos c] at h5
    subst c
    exact .inl ⟨a, b, ys, rfl, rfl, .inl (.inl e1), .inl (.inl e2), h5⟩
  · rw [if_neg c] at h5
    refine .inr ⟨a, b, xs, ys, rfl, rfl, .inl (.inl e1), .inl (.inl e2), c, h4, fun z => ?_, fun z => ?_⟩
    · rw [if_pos z] at h5
      exact h5
    · rw [if_neg z] at h5
      exact h5
end
section
variable {H : Hp} {Q : VK} {a b p : Addr} {vs : List V} {lo hi : Option Int}
set_option linter.all false in private theorem e_onTup {k : List V → Prop} {u : Tg k} : @onTup (some (.tup vs)) k u = k vs := rfl
set_option linter.all false in private theorem e_tcat : cTcat (.ref a) (.ref b) H Q = onTup (H a) fun xs => onTup (H b) fun ys => xs.length + ys.length ≤ sizeLine ∧ (if xs = [] then Q (.ref b) H else if ys = [] then Q (.ref a) H else ∀ p, H p = none → Q (.ref p) (upd H p (.tup (xs ++ ys)))) := rfl
set_option linter.all false in private theorem e_cutT : cCut lo hi H Q (some (.tup vs)) = (¬ (HT.sIx vs.length 0 lo = 0 ∧ HT.sIx vs.length vs.length hi = vs.length) ∧ ∀ p, H p = none → Q (.ref p) (upd H p (.tup (cutV vs lo hi)))) := rfl
end
end L2
namespace L2
open PySem PySem.Spec PyProof.Rows
section
variable {prog : Program} {w : World} {A : Around} {E : Value → Shared → Prop}
end
end L2
namespace L2
open PySem PySem.Spec PyProof.Rows
/-! ### a loop over a dict's keys: the dict is frozen from then on -/
section
variable {fr : List Nat} {tc : TT} {te tl : TE} {σ : St} {H : Hp} {Q : VK}
end
/-! ### reading dicts, frozen or not -/
section
variable {td ty tx : TE} {σ : St} {H : Hp} {Q : VK} {D : Ends} {a : Addr} {v w x : V}
end
end L2
namespace L2
open PySem PySem.Spec PyProof.Rows
/-! ### texts: str(x), sep.join(xs), x.split(sep); tuple(xs) -/
set_option linter.all false in private noncomputable def strsV : List V → Option (List Str)
  | [] => some []
  | .str x :: vs => (strsV vs).map (x :: ·)
  | _ :: _ => none
set_option linter.all false in private theorem strsV_map : ∀ ys : List Str, strsV (ys.map V.str) = some ys
  | [] => rfl
  | y :: ys => by
    show (strsV (ys.map V.str)).map (y :: ·) = _
    rw [strsV_map ys]
    rfl
set_option linter.all false in private theorem strsV_of : ∀ {xs : List V} {ys : List Str}, strsV xs = some ys → xs = ys.map V.str
  | [], ys, h => by cases h; rfl
  | x :: xs, ys, h => by
    cases x with
    | str z =>
      simp only [strsV, Option.map_eq_some_iff] at h
      obtain ⟨zs, e, rfl⟩ := h
      rw [strsV_of e]
      rfl
    | _ => cases h
set_option linter.all false in private theorem strsAre : ∀ {ys : List Str} {its : List Value}, Vals (ys.map V.str) its → StrsAre its ys
  | [], _, .nil => .nil
  | _ :: _, _, .cons ⟨_, h⟩ r => by subst h; exact .cons _ _ (strsAre r)
set_option linter.all false in private theorem vals_from : ∀ (ys : List Str) (k : Nat), Vals (ys.map V.str) (strsFrom k ys)
  | [], _ => .nil
  | _ :: ys, k => .cons ⟨_, rfl⟩ (vals_from ys (k + 1))
set_option linter.all false in private noncomputable def cStr : List V → Hp → VK → Prop := fun vs H Q => match vs with
  | [.int i] => i.natAbs.log2 < 1920 ∧ Q (.str (toString i)) H
  | [.str x] => Q (.str x) H
  | _ => False
set_option linter.all false in private noncomputable def cJoin : V → List V → Hp → VK → Prop := fun x vs H Q => onStr x fun sep => on1 vs fun y => onRef y fun l => onLst (H l) fun xs => onO (strsV xs) fun ys => (ys.map fun z => z.length).sum + ys.length * sep.length ≤ 16777216 ∧ Q (.str (Txt.join sep ys)) H
set_option linter.all false in private noncomputable def cSplit : V → List V → Hp → VK → Prop := fun x vs H Q => onStr x fun z => on1 vs fun y => onStr y fun sep => (sep.length == 0) = false ∧ z.length + 2 ≤ sizeLine ∧ ∀ l, H l = none → Q (.ref l) (upd H l (.lst ((Txt.split z sep).map V.str)))
set_option linter.all false in private noncomputable def cTupOf : List V → Hp → VK → Prop := fun vs H Q => on1 vs fun x => onRef x fun p => onLst (H p) fun ys => ∀ l, H l = none → Q (.ref l) (upd H l (.tup ys))
set_option linter.all false in private theorem onStr_is {x : V} {k : Str → Prop} (h : onStr x k) : ∃ z, x = .str z ∧ k z := by
  unfold onStr at h
  split at h
  · exact ⟨_, rfl, h⟩
  · exact h.elim
set_option linter.all false in private theorem on1_is {vs : List V} {k : V → Prop} (h : on1 vs k) : ∃ v, vs = [v] ∧ k v := by
  unfold on1 at h
  split at h
  · exact ⟨_, rfl, h⟩
  · exact h.elim
section
variable {X : Cx}
set_option linter.all false in private theorem call_strC : CallR X (.type "str") cStr := fun pins s σ H xs us Q I r h => by
  unfold cStr at h
  split at h
  · exact call_str_int pins s σ H _ us Q I r ⟨_, rfl, h.1, h.2⟩
  · obtain ⟨u, rfl, t, rfl⟩ := vals1 r
    exact PySem.P.str_of_str ⟨.str _, H, I, ⟨_, rfl⟩, h⟩
  · exact h.elim
set_option linter.all false in private theorem call_tupC : CallR X (.type "tuple") cTupOf := fun pins s σ H xs us Q I r h => by
  obtain ⟨x, rfl, h⟩ := on1_is h
  obtain ⟨p, rfl, h⟩ := onRef_of h
  obtain ⟨ys, e, h⟩ := onLst_of h
  exact call_tuple_of pins s σ H _ us Q I r ⟨_, _, rfl, .inl ⟨.inl (.inl e), h⟩⟩
set_option linter.all false in private theorem mt_join : MtR X "str.join" cJoin := by
  intro pins s σ H x xs v us Q I rx r h
  obtain ⟨sep, rfl, h⟩ := onStr_is h
  obtain ⟨y, rfl, h⟩ := on1_is h
  obtain ⟨l, rfl, h⟩ := onRef_of h
  obtain ⟨zs, e, h⟩ := onLst_of h
  obtain ⟨ys, ey, hz, q⟩ := onO_of h
  cases strsV_of ey
  obtain ⟨u, rfl, ru⟩ := vals1 r
  cases ru
  obtain ⟨t, rfl⟩ := rx
  obtain ⟨its, r', pl, _⟩ := I.list (.inl (.inl e) : SqL X.K H l _)
  exact join_list pl.isList (by simpa using strsAre r') hz fun t' k => ⟨.str _, H, I.tok _, ⟨_, rfl⟩, q⟩
set_option linter.all false in private theorem mt_split : MtR X "str.split" cSplit := by
  intro pins s σ H x xs v us Q I rx r h
  obtain ⟨z, rfl, h1⟩ := onStr_is h
  obtain ⟨y, rfl, h2⟩ := on1_is h1
  obtain ⟨sep, rfl, h0, hz, q⟩ := onStr_is h2
  obtain ⟨u, rfl, t', rfl⟩ := vals1 r
  obtain ⟨t, rfl⟩ := rx
  have fin : ∀ (l : List Value) (n : Nat) (k : Nat), Vals ((Txt.split z sep).map V.str) l → (Txt.split z sep).length ≤ sizeLine → EP X pins σ Q (.ref s.heap.objs.size) { s with heap := s.heap.push { cls := .type "list", data := .seq l.toArray n }, toks := k } := fun l n k hv hl => by
    refine ⟨.ref _, _, I.laid (t' := k) (fun b o e => Heap.get?_push_of_some _ e) (Nat.le_refl _) (show ObjOk X.prog X.w _ _ _ (.lst ((Txt.split z sep).map V.str)) from ⟨by simpa using hl, l, n, hv, ?_⟩), rfl, q _ (I.hok.fresh (Nat.le_refl _))⟩
    exact Heap.get?_push_size _ rfl
  have hl : (Txt.split z sep).length ≤ sizeLine := by
    have := len_le_of_split (l := (Txt.split z sep).map fun a => (a, (0 : Nat))) (x := z) (y := sep) (by simp [Function.comp_def])
    simp only [List.length_map] at this
    omega
  unfold Txt.split at fin hl
  by_cases c1 : (decide (z.length < sep.length) || decide (Builtin.Str.strKind z < Builtin.Str.strKind sep)) = true
  · rw [if_pos c1] at fin hl
    exact call_meets F.slot_str_split (typeIs_str s z t) F.entry_str_split (F.args_str_split_2 _ _) (meets_str_split_cannot_occur z sep t t' c1) (fin [.str z t] 0 s.toks (.cons ⟨_, rfl⟩ .nil) hl)
  rw [if_neg c1] at fin hl
  by_cases c2 : (Builtin.Str.occurrences z sep 0 z.length (z.length + 1)).isEmpty = true
  · rw [if_pos c2] at fin hl
    exact call_meets F.slot_str_split (typeIs_str s z t) F.entry_str_split (F.args_str_split_2 _ _) (meets_str_split_not_found z sep t t' (by simpa using c1) h0 c2) (fin [.str z t] 0 s.toks (.cons ⟨_, rfl⟩ .nil) hl)
  · rw [if_neg c2] at fin hl
    exact call_meets F.slot_str_split (typeIs_str s z t) F.entry_str_split (F.args_str_split_2 _ _) (meets_str_split_sep z sep t t' (by simpa using c1) h0 (by simpa using c2) (by omega) hl) (fin _ 0 _ (vals_from _ _) hl)
set_option linter.all false in private noncomputable def cNeTE : R2 := fun x y H Q => onRef x fun a => onRef y fun b => onTup (H a) fun xs => onTup (H b) fun ys => ys = [] ∧ Q (.bl (!xs.isEmpty)) H
set_option linter.all false in private theorem op_neTE (hu : X.A.units < cLine) : OpR X (compareOp .NotEq) cNeTE := fun pins s σ H x y v u Q I rx ry h => by
  obtain ⟨a, rfl, h1⟩ := onRef_of h
  obtain ⟨b, rfl, h2⟩ := onRef_of h1
  obtain ⟨xs, e1, h3⟩ := onTup_of h2
  obtain ⟨ys, e2, rfl, q⟩ := onTup_of h3
  cases rx
  cases ry
  obtain ⟨its, r1, p1, _⟩ := I.tuple (SqT.of e1)
  obtain ⟨its2, r2, p2, _⟩ := I.tuple (SqT.of e2)
  have l1 := r1.length
  have l2 : its2.length = 0 := r2.length.symm
  refine SeqAt.RcNeAt.tuples (e := fun _ => true) (show s.heap.IsTuple a its.toArray from p1) (show s.heap.IsTuple b its2.toArray from p2) hu (fun j _ h2 => absurd h2 (by simp [l2])) X.prog X.w X.xe _ (fin_bl I q ?_)
  cases xs with
  | nil =>
    have l1' : its.length = 0 := l1.symm
    simp [l1', l2]
  | cons x xs =>
    have l1' : its.length = xs.length + 1 := l1.symm
    simp [l1', l2]
end
section
variable {K : PySem.W.Frag} {T : String} {r : V → List V → Hp → VK → Prop} {to : TE} {t : TA} {σ : St} {H : Hp} {Q : VK} {x y : Str} {i : Int} {p : Addr} {ys : List Str}
set_option linter.all false in private theorem e_bm : tBM K T r to t σ H Q = to σ H fun x H1 => tyV K T x H1 ∧ t σ H1 fun xs H2 => r x xs H2 Q := rfl
set_option linter.all false in private theorem e_tyS : tyV K "str" (.str x) H = True := eq_true rfl
set_option linter.all false in private theorem e_strI : cStr [.int i] H Q = (i.natAbs.log2 < 1920 ∧ Q (.str (toString i)) H) := rfl
set_option linter.all false in private theorem e_strS : cStr [.str x] H Q = Q (.str x) H := rfl
set_option linter.all false in private theorem e_join : cJoin (.str x) [.ref p] H Q = onLst (H p) fun xs => onO (strsV xs) fun ys => (ys.map fun z => z.length).sum + ys.length * x.length ≤ 16777216 ∧ Q (.str (Txt.join x ys)) H := rfl
set_option linter.all false in private theorem e_strsV : strsV (ys.map V.str) = some ys := strsV_map ys
set_option linter.all false in private theorem e_split : cSplit (.str x) [.str y] H Q = ((y.length == 0) = false ∧ x.length + 2 ≤ sizeLine ∧ ∀ l, H l = none → Q (.ref l) (upd H l (.lst ((Txt.split x y).map V.str)))) := rfl
set_option linter.all false in private theorem e_neTE {q : Addr} : cNeTE (.ref p) (.ref q) H Q = onTup (H p) fun xs => onTup (H q) fun ys => ys = [] ∧ Q (.bl (!xs.isEmpty)) H := rfl
set_option linter.all false in private theorem e_tupOf : cTupOf [.ref p] H Q = onLst (H p) fun ys => ∀ l, H l = none → Q (.ref l) (upd H l (.tup ys)) := rfl
end
end L2
namespace L2
open PySem PySem.Spec PyProof.Rows
/-! ### f-strings; list methods with arguments; truths of lists, tuples, dicts; comprehensions over tuples; a raise that is never come to -/
set_option linter.all false in private noncomputable abbrev TJ := Str → St → Hp → (Str → Hp → Prop) → Prop
set_option linter.all false in private noncomputable def tFmt (te : TE) : TE := fun σ H Q => te σ H fun x H1 => onStr x fun z => z.length ≤ sizeLine ∧ Q (.str z) H1
set_option linter.all false in private noncomputable def tJ0 : TJ := fun acc _ H Q => Q acc H
set_option linter.all false in private noncomputable def tJ1 (te : TE) (tj : TJ) : TJ := fun acc σ H Q => te σ H fun x H1 => onStr x fun z => (acc ++ z).length ≤ sizeLine ∧ tj (acc ++ z) σ H1 Q
set_option linter.all false in private noncomputable def tJoined (tj : TJ) : TE := fun σ H Q => tj Str.empty σ H fun out H1 => out.length ≤ sizeLine ∧ Q (.str out) H1
set_option linter.all false in private noncomputable def PJ (X : Cx) (es : List Expr) (t : TJ) : Prop :=
  ∀ (pins : List (Addr × Obj)) (s : Shared) (σ : St) (H : Hp) (acc : Str) (Q : Str → Hp → Prop), Inv X pins σ H s → t acc σ H Q →
    Joins (model X.prog X.w) X.A X.xe (evalEach es X.env) acc (fun out s' => ∃ H', Inv X pins σ H' s' ∧ Q out H') s
section
variable {X : Cx} {e a b : Expr} {es : List Expr} {te : TE} {tj : TJ} {pos : Pos}
set_option linter.all false in private theorem pe_fmt (h : PE X e te) : PE X (.FormattedValue e (-1) none pos) (tFmt te) := by
  intro pins s σ H Q I q
  refine FormattedValue_plain (thn (h pins s σ H _ I q) fun v s1 ⟨x, H1, I1, r1, q1⟩ => ?_)
  obtain ⟨z, rfl, hz, q2⟩ := onStr_is q1
  obtain ⟨t, rfl⟩ := r1
  exact formatField_str (fun t' tk => ⟨.str z, H1, I1.tok _, ⟨_, rfl⟩, q2⟩) hz
set_option linter.all false in private theorem pj_nil : PJ X [] tJ0 := fun _ _ _ H _ _ I q => Joins_nil ⟨H, I, q⟩
set_option linter.all false in private theorem pj_cons (h : PE X e te) (hj : PJ X es tj) : PJ X (e :: es) (tJ1 te tj) := fun pins s σ H acc Q I q => by
  refine Joins_cons (thn (h pins s σ H _ I q) fun v s1 ⟨x, H1, I1, r1, q1⟩ => ?_)
  obtain ⟨z, rfl, hz, q2⟩ := onStr_is q1
  obtain ⟨t, rfl⟩ := r1
  exact ⟨z, t, rfl, hz, hj pins s1 σ H1 _ Q I1 q2⟩
set_option linter.all false in private theorem Joins_mono {M : Model} {A : Around} {E : Value → Shared → Prop} {Q R : Str → Shared → Prop} (f : ∀ x s, Q x s → R x s) : ∀ {es : List (Sem Value)} {acc : Str} {s : Shared}, Joins M A E es acc Q s → Joins M A E es acc R s
  | [], _, _, h => f _ _ h
  | _ :: _, _, _, h => thn h fun _ _ ⟨y, t, e, l, z⟩ => ⟨y, t, e, l, Joins_mono f z⟩
set_option linter.all false in private theorem pe_joined (hj : PJ X (a :: b :: es) tj) : PE X (.JoinedStr (a :: b :: es) pos) (tJoined tj) := fun pins s σ H Q I q => by
  refine wpAny_JoinedStr (Joins_mono (fun out s1 ⟨H1, I1, l, q1⟩ => ⟨l, .str out, H1, I1.tok _, ⟨_, rfl⟩, q1⟩) (hj pins s σ H _ _ I q))
end
set_option linter.all false in private noncomputable def tLM (r : V → List V → Hp → VK → Prop) (to : TE) (t : TA) : TE := fun σ H Q => to σ H fun x H1 => onRef x fun a => onLst (H1 a) fun _ => t σ H1 fun xs H2 => r (.ref a) xs H2 Q
set_option linter.all false in private noncomputable def cExt : V → List V → Hp → VK → Prop := fun x vs H Q => onRef x fun a => on1 vs fun y => onRef y fun b => onLst (H a) fun xs => onLst (H b) fun zs => xs.length + zs.length ≤ sizeLine ∧ Q .non (upd H a (.lst (xs ++ zs)))
set_option linter.all false in private noncomputable def cPop0 : V → List V → Hp → VK → Prop := fun x vs H Q => onRef x fun a => on1 vs fun y => onInt y fun i => onLst (H a) fun xs => i = 0 ∧ onO xs[0]? fun v => Q v (upd H a (.lst xs.tail))
section
variable {X : Cx} {o e : Expr} {es : List Expr} {to : TE} {t : TA} {name : Str} {apos cpos : Pos} {id : String} {r : V → List V → Hp → VK → Prop}
set_option linter.all false in private theorem pe_lm (slot : Slot "list" name id) (hty : typeOf (.builtin id) = pure (.type "method_descriptor")) (hm : MtM X id r) (ho : PE X o to) (ha : PA X (e :: es) t)
    (hbase : attributeBase o name X.env (eval o X.env) = eval o X.env := by rfl)
    (hfew : ((backTo cpos (starEach (e :: es) X.env)).all (fun x => !x.1) && (backToKw cpos (keywordEach [] X.env)).all (fun x => x.1.isSome)
      && decide ((e :: es).length + ([] : List Keyword).length + (if ([] : List Keyword).isEmpty then 0 else 1) < 30)) = true := by rfl)
    (hline : (apos.endLine == cpos.line) = true := by rfl) (hs : starEach (e :: es) X.env = (false, eval e X.env) :: starEach es X.env := by rfl) (hplain : (backTo cpos (starEach es X.env)).any (·.1) = false := by rfl) :
    PE X (.Call (.Attribute o name apos) (e :: es) [] cpos) (tLM r to t) := by
  intro pins s σ H Q I h
  refine wpAny_Call_method_late hbase hfew hline rfl (thn (ho pins s σ H _ I h) fun v s1 ⟨x, H1, I1, r1, q1⟩ => ?_)
  obtain ⟨a, rfl, q1⟩ := onRef_of q1
  obtain ⟨xs, e1, q1⟩ := onLst_of q1
  obtain ⟨h1, h2⟩ := tyV_is (T := "list") I1 r1 (.inl ⟨rfl, xs, .inl (.inl e1)⟩)
  refine ⟨"list", id, PySem.F.plainAttrs_list, slot, hty, h1, h2, ?_⟩
  have hA := ha cpos pins s1 σ H1 _ I1 q1
  rw [hs] at hA ⊢
  refine Calls.callWith_builtin (by show (false || (backTo cpos (starEach es X.env)).any (·.1)) = false; rw [hplain] <;> rfl) (Calls.evalArgs_plain ?_)
  exact thn hA fun us s2 ⟨vs, H2, I2, r2, q2⟩ => hm pins s2 σ H2 _ vs v us Q I2 r1 r2 q2
set_option linter.all false in private theorem mt_extC : MtM X "list.extend" cExt := fun pins s σ H x vs v us Q I rx rv h => by
  obtain ⟨a, rfl, h1⟩ := onRef_of h
  obtain ⟨y, rfl, h2⟩ := on1_is h1
  obtain ⟨b, rfl, h3⟩ := onRef_of h2
  obtain ⟨xs, e1, h4⟩ := onLst_of h3
  obtain ⟨zs, e2, h5⟩ := onLst_of h4
  exact mt_extend pins s σ H _ _ v us Q I rx rv ⟨_, _, _, _, rfl, rfl, e1, e2, h5⟩
set_option linter.all false in private theorem mt_pop0 : MtM X "list.pop" cPop0 := fun pins s σ H x vs v us Q I rx rv h => by
  obtain ⟨a, rfl, h1⟩ := onRef_of h
  obtain ⟨y, rfl, h2⟩ := on1_is h1
  obtain ⟨i, rfl, h3⟩ := onInt_of h2
  obtain ⟨xs, e1, rfl, h4⟩ := onLst_of h3
  obtain ⟨y, e2, h5⟩ := onO_of h4
  cases xs with
  | nil => cases e2
  | cons z zs => exact mt_popAt pins s σ H _ _ v us Q I rx rv ⟨_, _, _, 0, y, rfl, rfl, e1, by decide, by decide, by simp [seqIndex?], e2, h5⟩
end
set_option linter.all false in private noncomputable def truR : Option HO → Option Bool
  | some (.lst xs) => some (!xs.isEmpty)
  | some (.tup xs) => some (!xs.isEmpty)
  | some (.dK kvs) => some (!kvs.isEmpty)
  | _ => none
set_option linter.all false in private noncomputable def truO (H : Hp) : V → Option Bool
  | .non => some false
  | .bl b => some b
  | .int i => some (i != 0)
  | .ref p => truR (H p)
  | _ => none
set_option linter.all false in private theorem truO_of {K : PySem.W.Frag} {H : Hp} {x : V} {k : Bool} (h : truO H x = some k) : TruV K x H k := by
  cases x with
  | non => cases h; rfl
  | bl b => cases h; rfl
  | int i => cases h; rfl
  | ref p =>
    simp only [truO] at h
    unfold truR at h
    split at h
    · next e => cases h; exact .inl ⟨_, .inl (.inl e), rfl⟩
    · next e => cases h; exact .inr (.inl ⟨_, SqT.of e, rfl⟩)
    · next e => cases h; exact .inr (.inr ⟨_, e, rfl⟩)
    · cases h
  | _ => cases h
set_option linter.all false in private noncomputable def tTruth (ta : TE) : TT := fun σ H Q => ta σ H fun x H' => onO (truO H' x) fun k => Q k H'
set_option linter.all false in private theorem pt_truC {X : Cx} {a : Expr} {ta : TE} (ha : PE X a ta) (he : ∀ whole, isTrue a X.env whole = (do let v ← whole; standAt a.pos; holding [v] (truthy v))) : PT X a (tTruth ta) := by
  intro pins s σ H Q I h
  exact isTrue_plain (thn (ha pins s σ H _ I h) fun v s1 ⟨x, H1, I1, r1, q1⟩ => by
    obtain ⟨k, e, q⟩ := onO_of q1
    exact tru_ok pins s1 σ H1 x v Q I1 r1 ⟨k, truO_of e, q⟩) (he _)
section
variable {te to : TE} {t : TA} {tj : TJ} {σ : St} {H : Hp} {Q : VK} {x acc : Str} {r : V → List V → Hp → VK → Prop} {QS : Str → Hp → Prop} {B : Bool → Hp → Prop} {D : Ends} {p q : Addr} {vs : List V} {kvs : List (Key × V)} {v : V} {b : Bool} {i : Int}
set_option linter.all false in private theorem e_fmt : tFmt te σ H Q = te σ H fun x H1 => onStr x fun z => z.length ≤ sizeLine ∧ Q (.str z) H1 := rfl
set_option linter.all false in private theorem e_j0 : tJ0 acc σ H QS = QS acc H := rfl
set_option linter.all false in private theorem e_j1 : tJ1 te tj acc σ H QS = te σ H fun x H1 => onStr x fun z => (acc ++ z).length ≤ sizeLine ∧ tj (acc ++ z) σ H1 QS := rfl
set_option linter.all false in private theorem e_joined : tJoined tj σ H Q = tj Str.empty σ H fun out H1 => out.length ≤ sizeLine ∧ Q (.str out) H1 := rfl
set_option linter.all false in private theorem e_estr : Str.empty ++ x = x := by
  show (⟨#[] ++ x.cps⟩ : Str) = x
  rw [Array.empty_append]
set_option linter.all false in private theorem e_lm : tLM r to t σ H Q = to σ H fun x H1 => onRef x fun a => onLst (H1 a) fun _ => t σ H1 fun xs H2 => r (.ref a) xs H2 Q := rfl
set_option linter.all false in private theorem e_ext : cExt (.ref p) [.ref q] H Q = onLst (H p) fun xs => onLst (H q) fun zs => xs.length + zs.length ≤ sizeLine ∧ Q .non (upd H p (.lst (xs ++ zs))) := rfl
set_option linter.all false in private theorem e_pop0 : cPop0 (.ref p) [.int 0] H Q = onLst (H p) fun xs => (0 : Int) = 0 ∧ onO xs[0]? fun v => Q v (upd H p (.lst xs.tail)) := rfl
set_option linter.all false in private theorem e_truth : tTruth te σ H B = te σ H fun x H' => onO (truO H' x) fun k => B k H' := rfl
set_option linter.all false in private theorem e_truN : truO H .non = some false := rfl
set_option linter.all false in private theorem e_truB : truO H (.bl b) = some b := rfl
set_option linter.all false in private theorem e_truI : truO H (.int i) = some (i != 0) := rfl
set_option linter.all false in private theorem e_truRef : truO H (.ref p) = truR (H p) := rfl
set_option linter.all false in private theorem e_truL : truR (some (.lst vs)) = some (!vs.isEmpty) := rfl
set_option linter.all false in private theorem e_truT : truR (some (.tup vs)) = some (!vs.isEmpty) := rfl
set_option linter.all false in private theorem e_truD : truR (some (.dK kvs)) = some (!kvs.isEmpty) := rfl
set_option linter.all false in private theorem e_never : tNever D σ H = False := rfl
variable {fr : List Nat} {tc : TT} {tl : TE} {K : PySem.W.Frag}
set_option linter.all false in private theorem e_compT : tComp (iTup K tl) fr tc te σ H Q = tl σ H fun x H1 => onRef x fun a => (∃ xs, SqT K H1 a xs) ∧ lc (Itt K a) fr tc te σ H1 Q := by
  unfold tComp iTup
  congr 1
  funext x H1
  exact propext ⟨fun ⟨a, e, h1, h⟩ => by subst e; exact ⟨h1, h⟩, fun h => by obtain ⟨a, rfl, h1, h⟩ := onRef_of h; exact ⟨a, rfl, h1, h⟩⟩
set_option linter.all false in private theorem lc_tup {a : Addr} {ys : List V} (Pv : Nat → List V → Hp → Prop) (h0 : Pv 0 [] H) (hz : ∀ i xs H, Pv i xs H → xs.length ≤ 1000000) (hl : ∀ i xs H, Pv i xs H → SqT K H a ys)
    (hs : ∀ i y xs H, i < ys.length → ys[i]? = some y → Pv i xs H → tc (some y :: compSt fr σ) H fun b H2 => if b = true then te (some y :: compSt fr σ) H2 (fun z H3 => Pv (i + 1) (xs ++ [z]) H3) else Pv (i + 1) xs H2)
    (hd : ∀ xs H, Pv ys.length xs H → ∀ p, H p = none → Q (.ref p) (upd H p (.lst xs))) : lc (Itt K a) fr tc te σ H Q :=
by
  refine ⟨cW ys.length Pv, ⟨ys.length, by simp, Nat.zero_le _, h0⟩, ?_⟩
  rintro i m xs H ⟨rfl, hi, p⟩
  refine ⟨hz i xs H p, ?_⟩
  have q := hl i xs H p
  by_cases hlt : i < ys.length
  · refine .inr ⟨⟨ys, ys[i], q, by simp [hlt]⟩, fun y H' yy => ?_⟩
    obtain ⟨e, yy⟩ := yy
    subst e
    simp only [cW_eq hlt]
    exact hs i y xs _ hlt (yy ys q) p
  · have e : i = ys.length := by omega
    subst e
    exact .inl ⟨⟨ys, q, Nat.le_refl _⟩, hd xs H p⟩
end
end L2
namespace L2
open PySem PySem.Spec PyProof.Rows
/-! ### == and != of lists and tuples that hold others; xs * n, list(xs), len(script) -/
section
variable {X : Cx} {pins : List (Addr × Obj)} {σ : St} {H : Hp} {s : Shared}
set_option linter.all false in private theorem rcNe_at {n : Nat} {a b : Addr} {r : Bool} {A : Around} (h : RcA X.K H n a b r) (I : Inv X pins σ H s) (hu : A.units + n < cLine) : SeqAt.RcNeAt A s (.ref a) (.ref b) (!r) := by
  cases h with
  | list hx hy hl he =>
    obtain ⟨its, r1, p1, z1⟩ := I.list hx
    obtain ⟨jts, r2, p2, z2⟩ := I.list hy
    have l1 := r1.length
    have l2 := r2.length
    have := SeqAt.RcNeAt.lists p1.isList p2.isList (by simp only [List.size_toArray]; omega) (by omega) (A := A) (fun j h1 h2 => by
      obtain ⟨x, ex, rx⟩ := item_of r1 h1
      obtain ⟨y, ey, ry⟩ := item_of r2 h2
      exact eqA_at (he j x y ex ey) I rx ry (by show A.units + 1 + _ < _; omega))
    rw [List.size_toArray, ← l1] at this
    exact this
  | listLen hx hy hl =>
    obtain ⟨its, r1, p1, z1⟩ := I.list hx
    obtain ⟨jts, r2, p2, z2⟩ := I.list hy
    have l1 := r1.length
    have l2 := r2.length
    exact SeqAt.RcNeAt.lists_lengths p1.isList p2.isList (by simp only [List.size_toArray, bne_iff_ne, ne_eq]; omega) (by omega)
  | tup hx hy he =>
    obtain ⟨its, r1, p1, z1⟩ := I.tuple hx
    obtain ⟨jts, r2, p2, z2⟩ := I.tuple hy
    have l1 := r1.length
    have l2 := r2.length
    have := SeqAt.RcNeAt.tuples (show s.heap.IsTuple _ its.toArray from p1) (show s.heap.IsTuple _ jts.toArray from p2) (by omega) (A := A) (fun j h1 h2 => by
      obtain ⟨x, ex, rx⟩ := item_of r1 h1
      obtain ⟨y, ey, ry⟩ := item_of r2 h2
      exact eqA_at (he j x y ex ey) I rx ry (by show A.units + 1 + _ < _; omega))
    rw [List.size_toArray, List.size_toArray, ← l1, ← l2] at this
    exact this
end
set_option linter.all false in private noncomputable def cNeA (K : PySem.W.Frag) (n : Nat) : R2 := fun x y H Q => onRef x fun a => onRef y fun b => ∃ r, RcA K H n a b r ∧ Q (.bl (!r)) H
set_option linter.all false in private theorem hu_n {A : Around} {k : Nat} (hr : Room k A) {n : Nat} (h : n ≤ 60) : A.units + n < cLine := Nat.lt_of_le_of_lt (Nat.add_le_add_left (by omega : n ≤ 64) _) hr.units
section
variable {X : Cx}
set_option linter.all false in private theorem op_neA (n : Nat) (hu : X.A.units + n < cLine) : OpR X (compareOp .NotEq) (cNeA X.K n) := fun pins s σ H x y v u Q I rx ry h => by
  obtain ⟨a, rfl, h1⟩ := onRef_of h
  obtain ⟨b, rfl, r, e, q⟩ := onRef_of h1
  cases rx
  cases ry
  exact rcNe_at e I hu X.prog X.w X.xe _ (fin_bl I q rfl)
end
section
variable {K : PySem.W.Frag} {H : Hp} {Q : VK} {a b p : Addr} {n : Nat} {i : Int}
set_option linter.all false in private theorem e_neA : cNeA K n (.ref a) (.ref b) H Q = ∃ r, RcA K H n a b r ∧ Q (.bl (!r)) H := rfl
end
end L2
namespace L2
open PySem PySem.Spec PyProof.Rows
/-! ### texts: split and join by one sign, lines, int(text), startswith, endswith, <= of texts, all -/
set_option linter.all false in private noncomputable def Str.cs (x : Str) : List Nat := x.cps.toList
set_option linter.all false in private theorem str_ext {x y : Str} (h : x.cps.toList = y.cps.toList) : x = y := by
  cases x; cases y; simp only [Str.mk.injEq]; exact Array.toList_inj.mp h
set_option linter.all false in private theorem cps_app (a b : Str) : (a ++ b).cps.toList = a.cps.toList ++ b.cps.toList := Array.toList_append
set_option linter.all false in private noncomputable def jn (c : Nat) : List (List Nat) → List Nat
  | [] => []
  | [w] => w
  | w :: v :: r => w ++ c :: jn c (v :: r)
set_option linter.all false in private theorem cut_eq {c : Nat} : ∀ {u w R S : List Nat}, c ∉ u → c ∉ w → u ++ c :: R = w ++ c :: S → u = w ∧ R = S
  | [], [], _, _, _, _, h => by simpa using h
  | [], y :: w, _, _, _, hw, h => by
    simp only [List.nil_append, List.cons_append, List.cons.injEq] at h
    exact absurd (List.mem_cons.mpr (.inl h.1)) hw
  | x :: u, [], _, _, hu, _, h => by
    simp only [List.nil_append, List.cons_append, List.cons.injEq] at h
    exact absurd (List.mem_cons.mpr (.inl h.1.symm)) hu
  | x :: u, y :: w, R, S, hu, hw, h => by
    simp only [List.cons_append, List.cons.injEq] at h
    obtain ⟨e, f⟩ := cut_eq (fun z => hu (List.mem_cons_of_mem _ z)) (fun z => hw (List.mem_cons_of_mem _ z)) h.2
    exact ⟨by rw [h.1, e], f⟩
set_option linter.all false in private theorem jn_inj {c : Nat} : ∀ {us ws : List (List Nat)}, us ≠ [] → ws ≠ [] → (∀ u ∈ us, c ∉ u) → (∀ w ∈ ws, c ∉ w) → jn c us = jn c ws → us = ws
  | [], _, h, _, _, _, _ => absurd rfl h
  | _ :: _, [], _, h, _, _, _ => absurd rfl h
  | [u], [w], _, _, _, _, h => by rw [show u = w from h]
  | [u], w :: v :: r, _, _, hu, _, h => by
    have h : u = w ++ c :: jn c (v :: r) := h
    exact absurd (by rw [h]; simp) (hu u (by simp))
  | u :: v :: r, [w], _, _, _, hw, h => by
    have h : u ++ c :: jn c (v :: r) = w := h
    exact absurd (by rw [← h]; simp) (hw w (by simp))
  | u :: u2 :: us, w :: w2 :: ws, _, _, hu, hw, h => by
    obtain ⟨e, f⟩ := cut_eq (hu u (by simp)) (hw w (by simp)) (show u ++ c :: jn c (u2 :: us) = w ++ c :: jn c (w2 :: ws) from h)
    rw [e, jn_inj (by simp) (by simp) (fun z hz => hu z (List.mem_cons_of_mem _ hz)) (fun z hz => hw z (List.mem_cons_of_mem _ hz)) f]
set_option linter.all false in private theorem fold_jn (c : Nat) : ∀ (l : List Str) (x : List Nat), (List.foldl (fun acc (p : Str) => acc ++ (#[c] : Array Nat) ++ p.cps) x.toArray l).toList = jn c (x :: l.map fun p => p.cps.toList)
  | [], x => by simp [jn]
  | y :: l, x => by
    show (List.foldl _ (x.toArray ++ #[c] ++ y.cps) l).toList = _
    have e : x.toArray ++ #[c] ++ y.cps = (x ++ c :: y.cps.toList).toArray := by apply Array.toList_inj.mp; simp
    rw [e, fold_jn c l (x ++ c :: y.cps.toList)]
    cases l with
    | nil => simp [jn]
    | cons z l => simp [jn]
set_option linter.all false in private theorem join_jn (c : Nat) (ws : List Str) : (Txt.join ⟨#[c]⟩ ws).cps.toList = jn c (ws.map fun p => p.cps.toList) := by
  cases ws with
  | nil => rfl
  | cons w ws =>
    exact fold_jn c ws w.cps.toList
set_option linter.all false in private theorem split_ne (x y : Str) : Txt.split x y ≠ [] := by
  unfold Txt.split
  split
  · simp
  · split
    · simp
    · unfold Builtin.Str.partsBetween
      simp only [ne_eq, List.map_eq_nil_iff]
      intro h
      have := congrArg List.length h
      simp at this
set_option linter.all false in private theorem map_cps {us ws : List Str} (h : (us.map fun p => p.cps.toList) = ws.map fun p => p.cps.toList) : us = ws := by
  induction us generalizing ws with
  | nil => cases ws with
    | nil => rfl
    | cons w ws => simp at h
  | cons u us ih => cases ws with
    | nil => simp at h
    | cons w ws =>
      simp only [List.map_cons, List.cons.injEq] at h
      rw [str_ext h.1, ih h.2]
set_option linter.all false in private theorem split_one {c : Nat} {ws : List Str} (ne : ws ≠ []) (fr : ∀ w ∈ ws, c ∉ w.cps.toList) : Txt.split (Txt.join ⟨#[c]⟩ ws) ⟨#[c]⟩ = ws := by
  apply map_cps
  refine jn_inj (c := c) (by simpa using split_ne _ _) (by simpa using ne) (fun u hu => ?_) (fun u hu => ?_) ?_
  · obtain ⟨p, hp, rfl⟩ := List.mem_map.mp hu
    exact StrLaws.split_free _ _ p hp
  · obtain ⟨p, hp, rfl⟩ := List.mem_map.mp hu
    exact fr p hp
  · rw [← join_jn, ← join_jn]
    show (Builtin.Str.glued _ _).cps.toList = _
    rw [StrLaws.glued_eq_join, StrLaws.join_split]
set_option linter.all false in private theorem fold_flat : ∀ (l : List Str) (x : List Nat), (List.foldl (fun acc (p : Str) => acc ++ ("" : Str).cps ++ p.cps) x.toArray l).toList = x ++ (l.map fun p => p.cps.toList).flatten
  | [], x => by simp
  | y :: l, x => by
    have e0 : ("" : Str).cps = #[] := by decide +kernel
    show (List.foldl _ (x.toArray ++ ("" : Str).cps ++ y.cps) l).toList = _
    have e : x.toArray ++ ("" : Str).cps ++ y.cps = (x ++ y.cps.toList).toArray := by rw [e0]; apply Array.toList_inj.mp; simp
    rw [e, fold_flat l (x ++ y.cps.toList)]
    simp
set_option linter.all false in private theorem join_flat (ws : List Str) : (Txt.join "" ws).cps.toList = (ws.map fun p => p.cps.toList).flatten := by
  cases ws with
  | nil => rfl
  | cons w ws =>
    exact fold_flat ws w.cps.toList
set_option linter.all false in private theorem nl_cps : ("\n" : Str) = ⟨#[10]⟩ ∧ (" " : Str) = ⟨#[32]⟩ ∧ ("-" : Str) = ⟨#[45]⟩ ∧ ("0" : Str) = ⟨#[48]⟩ ∧ ("9" : Str) = ⟨#[57]⟩ := by decide +kernel
set_option linter.all false in private theorem lines_tail (rows : List Str) (tl : Str) : Txt.join "" (rows.map fun r : Str => r ++ "\n") ++ tl = Txt.join "\n" (rows ++ [tl]) := by
  apply str_ext
  rw [cps_app, join_flat, nl_cps.1, join_jn]
  induction rows with
  | nil => simp [jn]
  | cons r rows ih =>
    simp only [List.map_cons, List.flatten_cons, cps_app, List.cons_append, List.append_assoc] at ih ⊢
    rw [ih]
    cases rows with
    | nil => simp [jn]
    | cons z l => simp [jn]
set_option linter.all false in private theorem lines_split {rows : List Str} {tl : Str} (h : ∀ r ∈ rows, 10 ∉ r.cps.toList) (ht : 10 ∉ tl.cps.toList) : Txt.split (Txt.join "" (rows.map fun r : Str => r ++ "\n") ++ tl) "\n" = rows ++ [tl] := by
  rw [lines_tail, nl_cps.1]
  exact split_one (by simp) fun w hw => by
    rcases List.mem_append.mp hw with hw | hw
    · exact h w hw
    · rw [show w = tl by simpa using hw]; exact ht
set_option linter.all false in private theorem lines_split0 {rows : List Str} (h : ∀ r ∈ rows, 10 ∉ r.cps.toList) : Txt.split (Txt.join "" (rows.map fun r : Str => r ++ "\n")) "\n" = rows ++ [("" : Str)] := by
  have := lines_split (tl := "") h (by decide +kernel)
  rwa [show Txt.join "" (rows.map fun r : Str => r ++ "\n") ++ "" = Txt.join "" (rows.map fun r : Str => r ++ "\n") from str_ext (by rw [cps_app]; simp [show ("" : Str).cps.toList = [] by decide +kernel])] at this
set_option linter.all false in private theorem cut_last1 {α : Type} (f : α → V) (xs : List α) (y : α) : cutV ((xs ++ [y]).map f) none (some (-1)) = xs.map f := by
  have hl : ((xs ++ [y]).map f).length = xs.length + 1 := by simp
  unfold cutV
  have h1 : HT.sIx ((xs ++ [y]).map f).length 0 none = 0 := rfl
  have h2 : HT.sIx ((xs ++ [y]).map f).length ((xs ++ [y]).map f).length (some (-1)) = xs.length := by
    rw [hl]
    unfold HT.sIx
    simp
    omega
  rw [h1, h2]
  simp
/-! rules -/
set_option linter.all false in private noncomputable def cIntT : List V → Hp → VK → Prop := fun vs H Q => on1 vs fun x => onStr x fun z => z.length ≤ 640 ∧ onO (intText? z) fun n => Q (.int n) H
set_option linter.all false in private noncomputable def cStarts : V → List V → Hp → VK → Prop := fun x vs H Q => onStr x fun z => on1 vs fun y => onStr y fun p => Q (.bl (Txt.startswith z p)) H
set_option linter.all false in private noncomputable def cEnds : V → List V → Hp → VK → Prop := fun x vs H Q => onStr x fun z => on1 vs fun y => onStr y fun p => Q (.bl (Txt.endswith z p)) H
set_option linter.all false in private noncomputable def cLeS : R2 := fun x y H Q => onStr x fun i => onStr y fun j => Q (.bl (!decide (j.cps.toList < i.cps.toList))) H
set_option linter.all false in private noncomputable def boolsV : List V → Option (List Bool)
  | [] => some []
  | .bl b :: r => (boolsV r).map (b :: ·)
  | _ => none
set_option linter.all false in private theorem boolsV_of : ∀ {xs : List V} {bs : List Bool}, boolsV xs = some bs → xs = bs.map V.bl
  | [], bs, h => by cases h; rfl
  | x :: xs, bs, h => by
    cases x with
    | bl b =>
      simp only [boolsV, Option.map_eq_some_iff] at h
      obtain ⟨cs, e, rfl⟩ := h
      rw [boolsV_of e]
      rfl
    | _ => cases h
set_option linter.all false in private theorem e_boolsV : ∀ {bs : List Bool}, boolsV (bs.map V.bl) = some bs
  | [] => rfl
  | b :: bs => by
    show (boolsV (bs.map V.bl)).map (b :: ·) = _
    rw [e_boolsV]
    rfl
set_option linter.all false in private noncomputable def cAll : List V → Hp → VK → Prop := fun vs H Q => on1 vs fun x => onRef x fun p => onLst (H p) fun xs => onO (boolsV xs) fun bs => Q (.bl (bs.all id)) H
set_option linter.all false in private noncomputable def cInK (K : PySem.W.Frag) (neg : Bool) : R2 := fun x y H Q => onRef y fun p => ∃ xs, SqT K H p xs ∧ flatV x = true ∧ xs.all flatV = true ∧ Q (.bl (if neg = true then !inV x xs else inV x xs)) H
section
variable {X : Cx}
set_option linter.all false in private theorem call_intT : CallR X (.type "int") cIntT := fun pins s σ H xs us Q I r h => by
  obtain ⟨x, rfl, h1⟩ := on1_is h
  obtain ⟨z, rfl, hz, h2⟩ := onStr_is h1
  obtain ⟨n, e, q⟩ := onO_of h2
  obtain ⟨u, rfl, t, rfl⟩ := vals1 r
  exact PySem.W.KIN.call_text e hz ⟨.int n, H, I.tok _, ⟨_, rfl⟩, q⟩
set_option linter.all false in private theorem mt_startswith : MtR X "str.startswith" cStarts := fun pins s σ H x xs v us Q I rx r h => by
  obtain ⟨z, rfl, h1⟩ := onStr_is h
  obtain ⟨y, rfl, h2⟩ := on1_is h1
  obtain ⟨p, rfl, q⟩ := onStr_is h2
  obtain ⟨u, rfl, t', rfl⟩ := vals1 r
  obtain ⟨t, rfl⟩ := rx
  exact PySem.SC.startswith ⟨.bl _, H, I, rfl, q⟩
set_option linter.all false in private theorem mt_endswith : MtR X "str.endswith" cEnds := fun pins s σ H x xs v us Q I rx r h => by
  obtain ⟨z, rfl, h1⟩ := onStr_is h
  obtain ⟨y, rfl, h2⟩ := on1_is h1
  obtain ⟨p, rfl, q⟩ := onStr_is h2
  obtain ⟨u, rfl, t', rfl⟩ := vals1 r
  obtain ⟨t, rfl⟩ := rx
  exact PySem.SC.endswith ⟨.bl _, H, I, rfl, q⟩
set_option linter.all false in private theorem op_leS : OpR X (compareOp .LtE) cLeS := op_le_str.imp fun x y H Q h => by
  obtain ⟨i, rfl, h1⟩ := onStr_is h
  obtain ⟨j, rfl, q⟩ := onStr_is h1
  exact ⟨i, j, rfl, rfl, q⟩
set_option linter.all false in private theorem call_allC (hc : X.calm = true) : CallR X (.builtin "all") cAll := fun pins s σ H xs us Q I r h => by
  obtain ⟨x, rfl, h1⟩ := on1_is h
  obtain ⟨p, rfl, h2⟩ := onRef_of h1
  obtain ⟨ys, e, h3⟩ := onLst_of h2
  obtain ⟨bs, eb, q⟩ := onO_of h3
  cases boolsV_of eb
  exact call_all hc pins s σ H _ us Q I r ⟨p, bs, rfl, SqL.of e, q⟩
set_option linter.all false in private theorem op_notInK : OpR X (compareOp .NotIn) (cInK X.K true) := op_notIn_seq.imp fun x y H Q h => by
  obtain ⟨p, rfl, xs, e, h1, h2, q⟩ := onRef_of h
  exact ⟨_, _, rfl, .inr e, h1, h2, q⟩
end
section
variable {K : PySem.W.Frag} {H : Hp} {Q : VK} {p : Addr} {x y z : Str} {neg : Bool} {v : V}
set_option linter.all false in private theorem e_intT : cIntT [.str z] H Q = (z.length ≤ 640 ∧ onO (intText? z) fun n => Q (.int n) H) := rfl
set_option linter.all false in private theorem e_starts : cStarts (.str z) [.str y] H Q = Q (.bl (Txt.startswith z y)) H := rfl
set_option linter.all false in private theorem e_ends : cEnds (.str z) [.str y] H Q = Q (.bl (Txt.endswith z y)) H := rfl
set_option linter.all false in private theorem e_leS : cLeS (.str x) (.str y) H Q = Q (.bl (!decide (y.cps.toList < x.cps.toList))) H := rfl
set_option linter.all false in private theorem e_all : cAll [.ref p] H Q = onLst (H p) fun xs => onO (boolsV xs) fun bs => Q (.bl (bs.all id)) H := rfl
set_option linter.all false in private theorem e_inK : cInK K neg v (.ref p) H Q = ∃ xs, SqT K H p xs ∧ flatV v = true ∧ xs.all flatV = true ∧ Q (.bl (if neg = true then !inV v xs else inV v xs)) H := rfl
end
/-! ### numbers as they are written -/
set_option linter.all false in private noncomputable def digs (n : Nat) : List Nat := (Nat.toDigits 10 n).map Char.toNat
set_option linter.all false in private theorem digs_all (n : Nat) : ∀ c ∈ digs n, 48 ≤ c ∧ c ≤ 57 := by
  intro c hc
  obtain ⟨d, hd, rfl⟩ := List.mem_map.mp hc
  have := Nat.isDigit_of_mem_toDigits (by decide) (by decide) hd
  simp only [Char.isDigit, Bool.and_eq_true, decide_eq_true_eq] at this
  exact ⟨this.1, this.2⟩
set_option linter.all false in private theorem digs_ne (n : Nat) : digs n ≠ [] := by simpa [digs] using Nat.toDigits_ne_nil
set_option linter.all false in private theorem digs_len {n k : Nat} (hk : 0 < k) : (digs n).length ≤ k ↔ n < 10 ^ k := by
  rw [digs, List.length_map]
  exact Nat.length_toDigits_le_iff (by decide) hk
set_option linter.all false in private theorem digs_val (n : Nat) : NumText.digitsVal (digs n) = n := PySem.W.KIN.val_back n
set_option linter.all false in private theorem val_lt : ∀ (cs : List Nat) (a : Nat), (∀ c ∈ cs, 48 ≤ c ∧ c ≤ 57) → List.foldl (fun acc c => acc * 10 + (c - 48)) a cs < (a + 1) * 10 ^ cs.length
  | [], a, _ => by simp
  | c :: cs, a, h => by
    have h1 := h c (by simp)
    have h2 := val_lt cs (a * 10 + (c - 48)) fun z hz => h z (List.mem_cons_of_mem _ hz)
    rw [List.foldl_cons]
    refine Nat.lt_of_lt_of_le h2 ?_
    rw [List.length_cons, Nat.pow_succ, ← Nat.mul_assoc, Nat.mul_right_comm]
    exact Nat.mul_le_mul_right _ (by omega)
set_option linter.all false in private theorem digs_head {n : Nat} {cs : List Nat} (h : digs n = 48 :: cs) : n = 0 := by
  have hv := digs_val n
  have ha := digs_all n
  rw [h] at hv ha
  cases cs with
  | nil => rw [← hv]; rfl
  | cons c cs =>
    have h2 := val_lt (c :: cs) 0 fun z hz => ha z (List.mem_cons_of_mem _ hz)
    have h3 : NumText.digitsVal (48 :: c :: cs) = NumText.digitsVal (c :: cs) := by simp [NumText.digitsVal]
    rw [h3] at hv
    have h4 : n < 10 ^ (c :: cs).length := by
      rw [← hv]
      simpa [NumText.digitsVal] using h2
    have h5 := (digs_len (n := n) (k := (c :: cs).length) (by simp)).mpr h4
    rw [h] at h5
    simp at h5
    omega
set_option linter.all false in private theorem int_nat (n : Nat) : (Str.ofString (toString (n : Int))).cps.toList = digs n := by
  show (Str.ofString (Nat.repr n)).cps.toList = _
  rw [Nat.repr_eq_ofList_toDigits, PySem.W.Fast.ofString_ofList]
  rfl
set_option linter.all false in private theorem int_neg (n : Nat) : (Str.ofString (toString (Int.negSucc n))).cps.toList = 45 :: digs (n + 1) := by
  show (Str.ofString ("-" ++ Nat.repr (n + 1))).cps.toList = _
  rw [PySem.Str.ofString_eq_toList, String.toList_append, Nat.repr_eq_ofList_toDigits]
  simp [digs]
set_option linter.all false in private theorem int_reads (i : Int) (h : i.natAbs < 10 ^ 100) : intText? (Str.ofString (toString i)) = some i := by
  cases i with
  | ofNat n =>
    have e : (Str.ofString (toString (Int.ofNat n))).cps.toList = digs n := int_nat n
    have l : (digs n).length ≤ 100 := (digs_len (by decide)).mpr h
    rw [intText_digits (by rw [e]; exact digs_all n) (by rw [e]; exact digs_ne n) (by show (Str.ofString (toString (Int.ofNat n))).cps.size ≤ 4300; rw [← Array.length_toList, e]; omega), e, digs_val]
    rfl
  | negSucc n =>
    have e := int_neg n
    have l : (digs (n + 1)).length ≤ 100 := (digs_len (by decide)).mpr (by simpa [Int.natAbs] using h)
    rw [intText_neg e (digs_all _) (digs_ne _) (by show (Str.ofString (toString (Int.negSucc n))).cps.size ≤ 4300; rw [← Array.length_toList, e]; simp; omega), digs_val]
    rfl
set_option linter.all false in private noncomputable def figL : List Nat → List Nat
  | 45 :: r => r
  | l => l
set_option linter.all false in private noncomputable def numW (w : Str) (lo hi : Int) : Bool :=
  let f := figL w.cps.toList
  decide (1 ≤ f.length) && decide (f.length ≤ (Str.ofString (toString (if hi > -lo then hi else -lo))).length) && f.all (fun c => decide (48 ≤ c) && decide (c ≤ 57)) && !(decide (f[0]? = some 48) && !decide (w = "0")) &&
    match intText? w with
    | some v => decide (lo ≤ v) && decide (v ≤ hi)
    | none => false
set_option linter.all false in private theorem starts_minus (w : Str) : Txt.startswith w "-" = decide (w.cps.toList[0]? = some 45) := by
  rw [nl_cps.2.2.1]
  have h := StrLaws.subAt_one w 45 0
  unfold Txt.startswith
  rw [Bool.eq_iff_iff, Bool.and_eq_true, decide_eq_true_eq, decide_eq_true_eq]
  exact h
set_option linter.all false in private theorem slice_one (w : Str) (h : 1 ≤ w.length) : (Txt.slice w (some 1) none).cps.toList = w.cps.toList.drop 1 := by
  have e : Txt.slice w (some 1) none = StrLaws.sliceText w (some 1) none := rfl
  rw [e, StrLaws.sliceText_from (i := 1) ⟨by decide, by simp only [Array.length_toList]; exact Int.ofNat_le.mpr h⟩]
  simp only [Int.toNat_one]
  apply List.take_of_length_le
  simp only [List.length_drop]
  omega
set_option linter.all false in private theorem figL_eq (w : Str) : (if Txt.startswith w "-" = true then Txt.slice w (some 1) none else w).cps.toList = figL w.cps.toList := by
  rw [starts_minus]
  cases h : w.cps.toList with
  | nil =>
    simp only [List.getElem?_nil, reduceCtorEq, decide_false, Bool.false_eq_true, if_false]
    rw [h]
    rfl
  | cons c r =>
    simp only [List.getElem?_cons_zero, Option.some.injEq]
    by_cases hc : c = 45
    · subst hc
      simp only [decide_true, if_true]
      rw [slice_one w (by show 1 ≤ w.cps.size; rw [← Array.length_toList, h]; simp), h]
      rfl
    · simp only [hc, decide_false, Bool.false_eq_true, if_false]
      rw [h]
      unfold figL
      split
      · next e => simp only [List.cons.injEq] at e; exact absurd e.1 hc
      · rfl
end L2
namespace L2
open PySem PySem.Spec PyProof.Rows
/-! ### objects of own classes: fields, methods, making -/
set_option linter.all false in private noncomputable def onIns (C : Addr) (o : Option HO) (k : Addr → List (Str × V) → Prop) (_u : Tg k := ()) : Prop := match o with
  | some (.ins C' dx fs) => C' = C ∧ k dx fs
  | _ => False
set_option linter.all false in private theorem onIns_of {C : Addr} {o : Option HO} {k : Addr → List (Str × V) → Prop} (h : onIns C o k) : ∃ dx fs, o = some (.ins C dx fs) ∧ k dx fs := by
  unfold onIns at h
  split at h
  · obtain ⟨rfl, h⟩ := h
    exact ⟨_, _, rfl, h⟩
  · exact h.elim
set_option linter.all false in private noncomputable def cFld (C : Addr) (f : Str) (ta : TE) : TE := fun σ H Q => ta σ H fun x H1 => onRef x fun a => onIns C (H1 a) fun _ fs => onO (fs.lookup f) fun v => Q v H1
set_option linter.all false in private noncomputable def cSetF (C : Addr) (f : Str) (ta tv : TE) : TS := fun D σ H => tv σ H fun y H1 => ta σ H1 fun x H2 => onRef x fun a => onIns C (H2 a) fun dx fs => fs.length < 1000 ∧ D.nx σ (upd H2 a (.ins C dx (putF f y fs)))
set_option linter.all false in private noncomputable def cAugF (C : Addr) (f : Str) (ta tv : TE) : TS := fun D σ H => ta σ H fun x H1 => onRef x fun a => onIns C (H1 a) fun _ fs => onO (fs.lookup f) fun v => tv σ H1 fun y H2 => onInt v fun i => onInt y fun j => onIns C (H2 a) fun dx fs' => fs'.length < 1000 ∧ D.nx σ (upd H2 a (.ins C dx (putF f (.int (i + j)) fs')))
section
variable {X : Cx} {o e value : Expr} {f : Str} {pos pos' tpos : Pos} {ta tv : TE} {C : Addr}
set_option linter.all false in private theorem pe_fldC (c : Cls X.K C) (n : NoAttr X.K C f) (he : PE X e ta) (hb : attributeBase e f X.env (eval e X.env) = eval e X.env := by rfl) : PE X (.Attribute e f pos) (cFld C f ta) := fun pins s σ H Q I h => by
  refine attr_of hb (thn (he pins s σ H _ I h) fun u s1 ⟨x, H1, I1, rx, q1⟩ => ?_)
  obtain ⟨a, rfl, q2⟩ := onRef_of q1
  obtain ⟨dx, fs, ea, q3⟩ := onIns_of q2
  obtain ⟨v, l, q⟩ := onO_of q3
  obtain rfl : u = Value.ref a := rx
  exact getattr_ok I1 ea c n l fun u' s2 I2 ru => ⟨v, H1, I2, ru, q⟩
set_option linter.all false in private theorem ps_fldC (c : Cls X.K C) (n : NoAttr X.K C f) (ha : PE X o ta) (hv : PE X value tv) (hs : swapsWith value (some (.Attribute o f pos')) pos.line X.env = pure false := by rfl) : PS X (.Assign [.Attribute o f pos'] value pos) (cSetF C f ta tv) := fun pins s σ H D I h => by
  refine plainObj_wpAny_Assign_Attribute (thn (hv pins s σ H _ I h) fun u s1 ⟨y, H1, I1, ry, q⟩ => thn (ha pins s1 σ H1 _ I1 q) fun ov s2 ⟨x, H2, I2, rx, q1⟩ => ?_) hs
  obtain ⟨a, rfl, q2⟩ := onRef_of q1
  obtain ⟨dx, fs, ea, l, q3⟩ := onIns_of q2
  obtain rfl : ov = Value.ref a := rx
  exact setattr_ok I2 ea c n l ry fun s3 I3 => ⟨σ, _, I3, q3⟩
set_option linter.all false in private theorem ps_augF (c : Cls X.K C) (n : NoAttr X.K C f) (ha : PE X o ta) (hv : PE X value tv) : PS X (.AugAssign (.Attribute o f tpos) .Add value pos) (cAugF C f ta tv) := fun pins s σ H D I h => by
  refine wpAny_AugAssign_AttributeAny (thn (ha pins s σ H _ I h) fun ov s1 ⟨x, H1, I1, rx, q1⟩ => ?_)
  obtain ⟨a, rfl, q2⟩ := onRef_of q1
  obtain ⟨dx, fs, ea, q3⟩ := onIns_of q2
  obtain ⟨v, l, q⟩ := onO_of q3
  obtain rfl : ov = Value.ref a := rx
  refine getattr_ok I1 ea c n l fun u s2 I2 ru => thn (hv pins s2 σ H1 _ I2 q) fun w3 s3 ⟨y, H2, I3, ry, q4⟩ => ?_
  obtain ⟨i, rfl, q5⟩ := onInt_of q4
  obtain ⟨j, rfl, q6⟩ := onInt_of q5
  obtain ⟨dx', fs', ea', l', q7⟩ := onIns_of q6
  refine thn (in_add pins s3 σ H2 (.int i) (.int j) u w3 (fun z H3 => z = .int (i + j) ∧ H3 = H2) I3 ru ry ⟨i, j, rfl, rfl, rfl, rfl⟩) fun w4 s4 ⟨z, H3, I4, rz, ez, eH⟩ => ?_
  subst ez eH
  exact setattr_ok I4 ea' c n l' rz fun s5 I5 => ⟨σ, _, I5, q7⟩
end
section
variable {C a dx : Addr} {fs : List (Str × V)} {k : Addr → List (Str × V) → Prop} {m f : Str} {sp : Sp} {E : XK} {ta tv : TE} {t : TA} {σ : St} {H : Hp} {Q : VK} {D : Ends} {v u : V} {r : List (Str × V)}
set_option linter.all false in private theorem e_onIns {k : Addr → List (Str × V) → Prop} {u : Tg k} : @onIns C (some (.ins C dx fs)) k u = k dx fs := by simp [onIns]
set_option linter.all false in private theorem e_fld : cFld C f ta σ H Q = ta σ H fun x H1 => onRef x fun a => onIns C (H1 a) fun _ fs => onO (fs.lookup f) fun v => Q v H1 := rfl
set_option linter.all false in private theorem e_setF : cSetF C f ta tv D σ H = tv σ H fun y H1 => ta σ H1 fun x H2 => onRef x fun a => onIns C (H2 a) fun dx fs => fs.length < 1000 ∧ D.nx σ (upd H2 a (.ins C dx (putF f y fs))) := rfl
set_option linter.all false in private theorem e_augF : cAugF C f ta tv D σ H = ta σ H fun x H1 => onRef x fun a => onIns C (H1 a) fun _ fs => onO (fs.lookup f) fun v => tv σ H1 fun y H2 => onInt v fun i => onInt y fun j => onIns C (H2 a) fun dx fs' => fs'.length < 1000 ∧ D.nx σ (upd H2 a (.ins C dx (putF f (.int (i + j)) fs'))) := rfl
set_option linter.all false in private theorem e_meth : tMeth C m sp [] E ta t σ H Q = ta σ H fun x H1 => onRef x fun a => onIns C (H1 a) fun _ fs => fs.lookup m = none ∧ t σ H1 fun vs H2 => sp (.ref a :: vs) H2 Q E := by
  unfold tMeth
  congr 1
  funext x H1
  refine propext ⟨fun ⟨a, dx, fs, e, e1, l, h⟩ => ?_, fun h => ?_⟩
  · subst e
    show onIns C (H1 a) _
    rw [e1, e_onIns]
    simp only [List.append_nil] at h
    exact ⟨l, h⟩
  · obtain ⟨a, rfl, h⟩ := onRef_of h
    obtain ⟨dx, fs, e1, l, h⟩ := onIns_of h
    exact ⟨a, dx, fs, rfl, e1, l, by simpa only [List.append_nil] using h⟩
set_option linter.all false in private theorem e_make : tMake C sp [] E t σ H Q = t σ H fun vs H1 => ∀ x dx, H1 x = none → H1 dx = none → dx ≠ x → sp (.ref x :: vs) (upd (upd H1 dx (.own x)) x (.ins C dx [])) (fun v H2 => v = .non ∧ Q (.ref x) H2) E := by
  unfold tMake
  simp only [List.append_nil]
set_option linter.all false in private theorem of_inj {x y : String} : (Str.ofString x = Str.ofString y) = (x = y) := w_sinj
set_option linter.all false in private theorem e_lookup {x y : String} : List.lookup (Str.ofString x) ((Str.ofString y, v) :: r) = if x = y then some v else List.lookup (Str.ofString x) r := by
  by_cases h : x = y
  · subst h
    simp [List.lookup]
  · have : (Str.ofString x == Str.ofString y) = false := beq_eq_false_iff_ne.mpr fun z => h (of_inj ▸ z)
    simp only [List.lookup, this, if_neg h]
set_option linter.all false in private theorem e_lookup0 {x : Str} : List.lookup x ([] : List (Str × V)) = none := rfl
set_option linter.all false in private theorem e_putF {x y : String} : putF (Str.ofString x) u ((Str.ofString y, v) :: r) = if y = x then (Str.ofString y, u) :: r else (Str.ofString y, v) :: putF (Str.ofString x) u r := by
  rw [show putF (Str.ofString x) u ((Str.ofString y, v) :: r) = (if Str.ofString y = Str.ofString x then (Str.ofString y, u) :: r else (Str.ofString y, v) :: putF (Str.ofString x) u r) from rfl]
  by_cases h : y = x
  · rw [if_pos h, if_pos (by rw [h])]
  · rw [if_neg h, if_neg fun z => h (of_inj ▸ z)]
set_option linter.all false in private theorem e_putF0 {x : Str} : putF x u [] = [(x, u)] := rfl
end
end L2
namespace L2
open PySem PySem.Spec PyProof.Rows
/-! ### isinstance(x, (T, U)) -/
section
variable {X : Cx}
end
section
variable {H : Hp} {Q : VK} {x : V} {p : Addr} {σ : St} {t : TA} {vs : List V} {i : Int} {z : Str} {b : Bool}
end
/-! ### trees that are equal -/
set_option linter.all false in private theorem EqA.pair {K : PySem.W.Frag} {H : Hp} {n : Nat} {a b : Addr} {xs ys : List V} (e1 : H a = some (.tup xs)) (e2 : H b = some (.tup ys)) (hl : xs.length = ys.length) (he : ∀ (j : Nat) (x y : V), xs[j]? = some x → ys[j]? = some y → EqA K H n x y true) : EqA K H (n + 1) (.ref a) (.ref b) true := by
  by_cases h : a = b
  · subst h
    exact .same
  · have := RcA.tup (K := K) (H := H) (n := n) (e := fun _ => true) (SqT.of e1) (SqT.of e2) he
    rw [show ((List.range (min xs.length ys.length)).all (fun _ => true) && xs.length == ys.length) = true by rw [hl]; simp [List.all_eq_true]] at this
    exact .refs h this
set_option linter.all false in private theorem eqV_str {a b : Str} : eqV (.str a) (.str b) = (a == b) := rfl
set_option linter.all false in private theorem eqV_ns {b : Str} : eqV .non (.str b) = false := rfl
set_option linter.all false in private theorem eqV_int {a b : Int} : eqV (.int a) (.int b) = (a == b) := rfl
set_option linter.all false in private theorem str_self {K : PySem.W.Frag} {H : Hp} {n : Nat} (x : Str) : EqA K H n (.str x) (.str x) true := by
  have := EqA.flat (K := K) (H := H) (n := n) (x := .str x) (y := .str x) rfl rfl
  rwa [show eqV (.str x) (.str x) = true by simp [eqV_str]] at this
set_option linter.all false in private theorem int_self {K : PySem.W.Frag} {H : Hp} {n : Nat} (i : Int) : EqA K H n (.int i) (.int i) true := by
  have := EqA.flat (K := K) (H := H) (n := n) (x := .int i) (y := .int i) rfl rfl
  rwa [show eqV (.int i) (.int i) = true by simp [eqV_int]] at this
end L2
namespace L2
open PySem PySem.Spec PyProof.Rows
/-! ### a dict that was walked through is written again: thawed behind the loop -/
section
variable {X : Cx} {pins : List (Addr × Obj)} {σ : St} {H : Hp} {s : Shared} {a : Addr} {o : Obj} {kvs : List (Key × V)}
end
/-! ### dicts: in, pop, clear, get with a default, setdefault -/
section
variable {X : Cx} {o e f : Expr} {apos cpos : Pos} {td ty tx : TE}
end
section
variable {td ty tx : TE} {σ : St} {H H₀ : Hp} {Q : VK} {t : TS} {D : Ends} {v : V}
end
/-! ### o[i] += e of a list; a dict of the module; the def that lies in it called -/
section
variable {X : Cx}
end
section
variable {tab : List (Str × Sp)} {tk to ti te : TE} {t : TA} {σ : St} {H : Hp} {Q : VK} {D : Ends} {p : Addr} {i j : Int} {tget : V → V → Hp → VK → Prop} {tip : TIp} {tset : TSet}
end
end L2
namespace L2
open PySem PySem.Spec PyProof.Rows
/-! ### sorted(d): a dict of fewer than 64 whole numbers -/
section
variable {H : Hp} {Q : VK} {p : Addr}
end
end L2
namespace L2
open PySem PySem.Spec PyProof.Rows
/-! ### zip and enumerate: iterators that hand out a pair -/
section
variable {X : Cx} {pins : List (Addr × Obj)} {σ : St} {H : Hp} {s : Shared} {h' : Heap}
end

section
variable {prog : Program} {w : World} {A : Around} {E : Value → Shared → Prop} {s : Shared}
end
end L2
namespace L2
open PySem PySem.Spec PyProof.Rows
section
variable {prog : Program} {w : World} {A : Around} {E : Value → Shared → Prop} {s : Shared}
end
section
variable {X : Cx} {pins : List (Addr × Obj)} {σ : St} {H : Hp} {s : Shared} {a : Addr} {xs ys : List V} {t : Bool}
end
section
variable {X : Cx} {elts : List Expr} {k : Nat} {tp : Pos}
end
section
variable {σ : St} {H : Hp} {D : Ends} {g : TG} {tb : TS} {as : TA} {K : PySem.W.Frag}
end
end L2
namespace L2
open PySem PySem.Spec PyProof.Rows
/-! ### comprehensions of two names: [elt for x, y in iter if ..] -/
section
variable {X : Cx} {pins : List (Addr × Obj)} {σ : St} {H : Hp} {s : Shared} {sc : Scope} {cl : List (Str × Addr)} {C : Addr} {x y0 : Str} {fr : List Nat} {N : List Str} {fp : List Addr}
end
set_option linter.all false in @[irreducible] def tComp2 (K : PySem.W.Frag) (wi : TI) (fr : List Nat) (tc : TT) (te : TE) : TE := fun σ H Q => wi σ H fun J H1 => ∃ W : Nat → Nat → List V → Hp → Prop, (∃ m, W 0 m [] H1) ∧ ∀ i m xs H, W i m xs H → xs.length ≤ 1000000 ∧
  ((J.stop i H ∧ ∀ p, H p = none → Q (.ref p) (upd H p (.lst xs))) ∨
   (J.go i H ∧ ∀ v H', J.yld i H v H' → ∃ p y y2, v = .ref p ∧ SqT K H' p [y, y2] ∧ tc (some y :: some y2 :: compSt fr σ) H' fun b H2 => if b = true then te (some y :: some y2 :: compSt fr σ) H2 (fun z H3 => ∃ m', m' < m ∧ W (i + 1) m' (xs ++ [z]) H3) else ∃ m', m' < m ∧ W (i + 1) m' xs H2))
section
variable {X : Cx} {sc : Scope} {cl : List (Str × Addr)} {x y0 : Str} {fr : List Nat} {N : List Str} {elt iter : Expr} {px py tp pos : Pos} {tk : Nat} {ifs : List Expr} {wi : TI} {tc : TT} {te : TE}
end
section
variable {fr : List Nat} {tc : TT} {te : TE} {σ : St} {H : Hp} {Q : VK} {as : TA} {K : PySem.W.Frag}
end
/-! ### dict(d) of a dict of the module -/
end L2
namespace L2
open PySem PySem.Spec PyProof.Rows
/-! ### isinstance(x, list), xs.clear(), != of truths -/
section
variable {X : Cx}
variable {o : Expr} {to : TE} {apos cpos : Pos}
end
section
variable {H : Hp} {Q : VK} {p : Addr} {σ : St} {to : TE} {vs : List V}
end
end L2
namespace L2
open PySem PySem.Spec PyProof.Rows
/-! ### sum(ints), a read list + a list -/
section
variable {X : Cx}
end
section
variable {K : PySem.W.Frag} {H : Hp} {Q : VK} {p a b : Addr}
end
section
variable {X : Cx} {sc : Scope} {cl : List (Str × Addr)} {x y0 : Str} {fr : List Nat} {N : List Str} {elt iter : Expr} {px px0 tp pos : Pos} {tk : Nat} {ifs : List Expr} {wi : TI} {tc : TT} {te : TE}
end
end L2
namespace L2
open PySem PySem.Spec PyProof.Rows
/-! ### what follows a statement, hidden while it is read -/
section
variable {a b : TS} {D : Ends} {σ : St} {H : Hp}
set_option linter.all false in private theorem cut_seq (h : ∀ R : St → Hp → Prop, (∀ σ' H', b D σ' H' → R σ' H') → a { D with nx := R } σ H) : tSeq a b D σ H := h (b D) fun _ _ x => x
set_option linter.all false in private theorem cut_b {wt : TT} {P R : Hp → Prop} (h : ∀ P' : Hp → Prop, (∀ H', P H' → P' H') → wt σ H fun b H' => if b = true then P' H' else R H') : wt σ H fun b H' => if b = true then P H' else R H' := h P fun _ x => x
set_option linter.all false in private theorem cut_g {tb : TS} {i : Nat} {v : V} (h : tb D (σ.set i (some v)) H) : gName i v σ H fun σ2 H2 => tb D σ2 H2 := h
set_option linter.all false in private theorem for_listD {K : PySem.W.Frag} {a : Addr} {xs : List V} {g : TG} {tb : TS} (Pv : Nat → St → Hp → Prop) (h0 : Pv 0 σ H) (hl : ∀ i σ H, i ≤ xs.length → Pv i σ H → SqL K H a xs)
    (hs : ∀ (D' : Ends) i x σ H, D'.nx = Pv (i + 1) → xs[i]? = some x → Pv i σ H → g x σ H fun σ2 H2 => tb D' σ2 H2) (hd : ∀ σ H, Pv xs.length σ H → D.nx σ H) : lp (Itl K a) g tb D σ H :=
  for_list Pv h0 hl (fun i x σ H e p => hs _ i x σ H rfl e p) hd
end
end L2
namespace Own
open PySem L2
seal PE PA PT PW PS PSs PI PG PGs PTs PO
noncomputable def top (i : Nat) : Stmt := PySem.Challenge.pw_outlast_k11_whole_texts_put_together.main.body.getD i (.Pass ⟨0, 0, 0, 0⟩)
set_option linter.all false in private noncomputable abbrev s_isnumberword : Stmt := top 4
set_option linter.all false in private noncomputable abbrev s_isfigure : Stmt := top 5
set_option linter.all false in private noncomputable abbrev s_issmallletter : Stmt := top 10
set_option linter.all false in private noncomputable abbrev s_isname : Stmt := top 11
set_option linter.all false in private noncomputable abbrev s_readprogram : Stmt := top 18
set_option linter.all false in private noncomputable abbrev s_Readerinit : Stmt := inClass (top 19) 0
set_option linter.all false in private noncomputable abbrev s_Readerahead : Stmt := inClass (top 19) 1
set_option linter.all false in private noncomputable abbrev s_Readerblock : Stmt := inClass (top 19) 2
set_option linter.all false in private noncomputable abbrev s_Readerstatement : Stmt := inClass (top 19) 3
set_option linter.all false in private noncomputable abbrev s_Readerwithblocks : Stmt := inClass (top 19) 4
set_option linter.all false in private noncomputable abbrev s_Readersecondblock : Stmt := inClass (top 19) 5
set_option linter.all false in private noncomputable abbrev s_takeplain : Stmt := top 20
set_option linter.all false in private noncomputable abbrev s_takegiven : Stmt := top 21
set_option linter.all false in private noncomputable abbrev s_takewaited : Stmt := top 22
set_option linter.all false in private noncomputable abbrev s_takesaying : Stmt := top 23
set_option linter.all false in private noncomputable abbrev s_takejoined : Stmt := top 24
set_option linter.all false in private noncomputable abbrev s_takename : Stmt := top 25
set_option linter.all false in private noncomputable abbrev s_takeword : Stmt := top 26
set_option linter.all false in private noncomputable abbrev s_refusemore : Stmt := top 27
set_option linter.all false in private noncomputable abbrev s_showprogram : Stmt := top 29
set_option linter.all false in private noncomputable abbrev s_blocklines : Stmt := top 30
set_option linter.all false in private noncomputable abbrev s_statementlines : Stmt := top 31
set_option linter.all false in private noncomputable abbrev s_elselines : Stmt := top 32
set_option linter.all false in private noncomputable abbrev s_showhead : Stmt := top 33
set_option linter.all false in private noncomputable abbrev s_showplain : Stmt := top 34
set_option linter.all false in private noncomputable abbrev s_givenwords : Stmt := top 35
set_option linter.all false in private noncomputable abbrev s_showsaying : Stmt := top 36
set_option linter.all false in private noncomputable abbrev s_lawstream : Stmt := top 38
set_option linter.all false in private noncomputable abbrev s_lawtake : Stmt := top 39
set_option linter.all false in private noncomputable abbrev s_lawworth : Stmt := top 40
set_option linter.all false in private noncomputable abbrev s_lawown : Stmt := top 41
set_option linter.all false in private noncomputable abbrev s_lawname : Stmt := top 42
set_option linter.all false in private noncomputable abbrev s_lawsaying : Stmt := top 43
set_option linter.all false in private noncomputable abbrev s_lawline : Stmt := top 44
set_option linter.all false in private noncomputable abbrev s_lawblock : Stmt := top 45
set_option linter.all false in private noncomputable abbrev s_lawprogram : Stmt := top 46
set_option linter.all false in private noncomputable abbrev s_law : Stmt := top 47
set_option genInjectivity false in
set_option genSizeOf false in
set_option linter.all false in private structure Ad where
  aisnumberword : Addr
  disnumberword : FuncData
  aisfigure : Addr
  disfigure : FuncData
  aissmallletter : Addr
  dissmallletter : FuncData
  aisname : Addr
  disname : FuncData
  areadprogram : Addr
  dreadprogram : FuncData
  aReaderinit : Addr
  dReaderinit : FuncData
  aReaderahead : Addr
  dReaderahead : FuncData
  aReaderblock : Addr
  dReaderblock : FuncData
  aReaderstatement : Addr
  dReaderstatement : FuncData
  aReaderwithblocks : Addr
  dReaderwithblocks : FuncData
  aReadersecondblock : Addr
  dReadersecondblock : FuncData
  atakeplain : Addr
  dtakeplain : FuncData
  atakegiven : Addr
  dtakegiven : FuncData
  atakewaited : Addr
  dtakewaited : FuncData
  atakesaying : Addr
  dtakesaying : FuncData
  atakejoined : Addr
  dtakejoined : FuncData
  atakename : Addr
  dtakename : FuncData
  atakeword : Addr
  dtakeword : FuncData
  arefusemore : Addr
  drefusemore : FuncData
  ashowprogram : Addr
  dshowprogram : FuncData
  ablocklines : Addr
  dblocklines : FuncData
  astatementlines : Addr
  dstatementlines : FuncData
  aelselines : Addr
  delselines : FuncData
  ashowhead : Addr
  dshowhead : FuncData
  ashowplain : Addr
  dshowplain : FuncData
  agivenwords : Addr
  dgivenwords : FuncData
  ashowsaying : Addr
  dshowsaying : FuncData
  alawstream : Addr
  dlawstream : FuncData
  alawtake : Addr
  dlawtake : FuncData
  alawworth : Addr
  dlawworth : FuncData
  alawown : Addr
  dlawown : FuncData
  alawname : Addr
  dlawname : FuncData
  alawsaying : Addr
  dlawsaying : FuncData
  alawline : Addr
  dlawline : FuncData
  alawblock : Addr
  dlawblock : FuncData
  alawprogram : Addr
  dlawprogram : FuncData
  alaw : Addr
  dlaw : FuncData
  kGREATESTWORTH : Tok
  kLONGESTNAME : Tok
  kOWNWORDS : Addr
  kMOSTSTATEMENTS : Tok
  kDEEPESTBLOCK : Tok
  kDEEPESTSAYING : Tok
  kMOSTWAITED : Tok
  kSIGNS : Addr
  CReader : Addr
set_option linter.all false in private structure Tx (K : PySem.W.Frag) (mg : Str → Option Value) (t : Ad) : Prop where
  fisnumberword : Fun K "is_number_word" "is_number_word" s_isnumberword t.aisnumberword t.disnumberword
  bisnumberword : Binds K t.disnumberword ["word", "least", "greatest"] []
  misnumberword : mg "is_number_word" = some (.ref t.aisnumberword)
  fisfigure : Fun K "is_figure" "is_figure" s_isfigure t.aisfigure t.disfigure
  bisfigure : Binds K t.disfigure ["sign"] []
  misfigure : mg "is_figure" = some (.ref t.aisfigure)
  fissmallletter : Fun K "is_small_letter" "is_small_letter" s_issmallletter t.aissmallletter t.dissmallletter
  bissmallletter : Binds K t.dissmallletter ["sign"] []
  missmallletter : mg "is_small_letter" = some (.ref t.aissmallletter)
  fisname : Fun K "is_name" "is_name" s_isname t.aisname t.disname
  bisname : Binds K t.disname ["thing"] []
  misname : mg "is_name" = some (.ref t.aisname)
  freadprogram : Fun K "read_program" "read_program" s_readprogram t.areadprogram t.dreadprogram
  breadprogram : Binds K t.dreadprogram ["text"] []
  mreadprogram : mg "read_program" = some (.ref t.areadprogram)
  fReaderinit : Fun K "__init__" "Reader.__init__" s_Readerinit t.aReaderinit t.dReaderinit
  bReaderinit : Binds K t.dReaderinit ["self", "lines"] []
  meReaderinit : Meth K t.CReader "__init__" t.aReaderinit
  fReaderahead : Fun K "ahead" "Reader.ahead" s_Readerahead t.aReaderahead t.dReaderahead
  bReaderahead : Binds K t.dReaderahead ["self"] []
  meReaderahead : Meth K t.CReader "ahead" t.aReaderahead
  fReaderblock : Fun K "block" "Reader.block" s_Readerblock t.aReaderblock t.dReaderblock
  bReaderblock : Binds K t.dReaderblock ["self", "deep"] []
  meReaderblock : Meth K t.CReader "block" t.aReaderblock
  fReaderstatement : Fun K "statement" "Reader.statement" s_Readerstatement t.aReaderstatement t.dReaderstatement
  bReaderstatement : Binds K t.dReaderstatement ["self", "deep"] []
  meReaderstatement : Meth K t.CReader "statement" t.aReaderstatement
  fReaderwithblocks : Fun K "with_blocks" "Reader.with_blocks" s_Readerwithblocks t.aReaderwithblocks t.dReaderwithblocks
  bReaderwithblocks : Binds K t.dReaderwithblocks ["self", "words", "deep"] []
  meReaderwithblocks : Meth K t.CReader "with_blocks" t.aReaderwithblocks
  fReadersecondblock : Fun K "second_block" "Reader.second_block" s_Readersecondblock t.aReadersecondblock t.dReadersecondblock
  bReadersecondblock : Binds K t.dReadersecondblock ["self", "deep"] []
  meReadersecondblock : Meth K t.CReader "second_block" t.aReadersecondblock
  ftakeplain : Fun K "take_plain" "take_plain" s_takeplain t.atakeplain t.dtakeplain
  btakeplain : Binds K t.dtakeplain ["words"] []
  mtakeplain : mg "take_plain" = some (.ref t.atakeplain)
  ftakegiven : Fun K "take_given" "take_given" s_takegiven t.atakegiven t.dtakegiven
  btakegiven : Binds K t.dtakegiven ["name", "words"] []
  mtakegiven : mg "take_given" = some (.ref t.atakegiven)
  ftakewaited : Fun K "take_waited" "take_waited" s_takewaited t.atakewaited t.dtakewaited
  btakewaited : Binds K t.dtakewaited ["words"] []
  mtakewaited : mg "take_waited" = some (.ref t.atakewaited)
  ftakesaying : Fun K "take_saying" "take_saying" s_takesaying t.atakesaying t.dtakesaying
  btakesaying : Binds K t.dtakesaying ["words", "deep"] []
  mtakesaying : mg "take_saying" = some (.ref t.atakesaying)
  ftakejoined : Fun K "take_joined" "take_joined" s_takejoined t.atakejoined t.dtakejoined
  btakejoined : Binds K t.dtakejoined ["words", "deep"] []
  mtakejoined : mg "take_joined" = some (.ref t.atakejoined)
  ftakename : Fun K "take_name" "take_name" s_takename t.atakename t.dtakename
  btakename : Binds K t.dtakename ["words"] []
  mtakename : mg "take_name" = some (.ref t.atakename)
  ftakeword : Fun K "take_word" "take_word" s_takeword t.atakeword t.dtakeword
  btakeword : Binds K t.dtakeword ["words"] []
  mtakeword : mg "take_word" = some (.ref t.atakeword)
  frefusemore : Fun K "refuse_more" "refuse_more" s_refusemore t.arefusemore t.drefusemore
  brefusemore : Binds K t.drefusemore ["words"] []
  mrefusemore : mg "refuse_more" = some (.ref t.arefusemore)
  fshowprogram : Fun K "show_program" "show_program" s_showprogram t.ashowprogram t.dshowprogram
  bshowprogram : Binds K t.dshowprogram ["program"] []
  mshowprogram : mg "show_program" = some (.ref t.ashowprogram)
  fblocklines : Fun K "block_lines" "block_lines" s_blocklines t.ablocklines t.dblocklines
  bblocklines : Binds K t.dblocklines ["block"] []
  mblocklines : mg "block_lines" = some (.ref t.ablocklines)
  fstatementlines : Fun K "statement_lines" "statement_lines" s_statementlines t.astatementlines t.dstatementlines
  bstatementlines : Binds K t.dstatementlines ["statement"] []
  mstatementlines : mg "statement_lines" = some (.ref t.astatementlines)
  felselines : Fun K "else_lines" "else_lines" s_elselines t.aelselines t.delselines
  belselines : Binds K t.delselines ["block"] []
  melselines : mg "else_lines" = some (.ref t.aelselines)
  fshowhead : Fun K "show_head" "show_head" s_showhead t.ashowhead t.dshowhead
  bshowhead : Binds K t.dshowhead ["statement"] []
  mshowhead : mg "show_head" = some (.ref t.ashowhead)
  fshowplain : Fun K "show_plain" "show_plain" s_showplain t.ashowplain t.dshowplain
  bshowplain : Binds K t.dshowplain ["statement"] []
  mshowplain : mg "show_plain" = some (.ref t.ashowplain)
  fgivenwords : Fun K "given_words" "given_words" s_givenwords t.agivenwords t.dgivenwords
  bgivenwords : Binds K t.dgivenwords ["statement"] []
  mgivenwords : mg "given_words" = some (.ref t.agivenwords)
  fshowsaying : Fun K "show_saying" "show_saying" s_showsaying t.ashowsaying t.dshowsaying
  bshowsaying : Binds K t.dshowsaying ["saying"] []
  mshowsaying : mg "show_saying" = some (.ref t.ashowsaying)
  flawstream : Fun K "_law_stream" "_law_stream" s_lawstream t.alawstream t.dlawstream
  blawstream : Binds K t.dlawstream ["cell"] []
  mlawstream : mg "_law_stream" = some (.ref t.alawstream)
  flawtake : Fun K "_law_take" "_law_take" s_lawtake t.alawtake t.dlawtake
  blawtake : Binds K t.dlawtake ["row", "many"] []
  mlawtake : mg "_law_take" = some (.ref t.alawtake)
  flawworth : Fun K "_law_worth" "_law_worth" s_lawworth t.alawworth t.dlawworth
  blawworth : Binds K t.dlawworth ["row"] []
  mlawworth : mg "_law_worth" = some (.ref t.alawworth)
  flawown : Fun K "_law_own" "_law_own" s_lawown t.alawown t.dlawown
  blawown : Binds K t.dlawown [] []
  mlawown : mg "_law_own" = some (.ref t.alawown)
  flawname : Fun K "_law_name" "_law_name" s_lawname t.alawname t.dlawname
  blawname : Binds K t.dlawname ["row"] []
  mlawname : mg "_law_name" = some (.ref t.alawname)
  flawsaying : Fun K "_law_saying" "_law_saying" s_lawsaying t.alawsaying t.dlawsaying
  blawsaying : Binds K t.dlawsaying ["row", "deep", "names", "left"] []
  mlawsaying : mg "_law_saying" = some (.ref t.alawsaying)
  flawline : Fun K "_law_line" "_law_line" s_lawline t.alawline t.dlawline
  blawline : Binds K t.dlawline ["row", "names", "deep"] []
  mlawline : mg "_law_line" = some (.ref t.alawline)
  flawblock : Fun K "_law_block" "_law_block" s_lawblock t.alawblock t.dlawblock
  blawblock : Binds K t.dlawblock ["row", "names", "deep", "left", "many"] []
  mlawblock : mg "_law_block" = some (.ref t.alawblock)
  flawprogram : Fun K "_law_program" "_law_program" s_lawprogram t.alawprogram t.dlawprogram
  blawprogram : Binds K t.dlawprogram ["row"] []
  mlawprogram : mg "_law_program" = some (.ref t.alawprogram)
  flaw : Fun K "law" "law" s_law t.alaw t.dlaw
  blaw : Binds K t.dlaw ["script"] []
  mlaw : mg "law" = some (.ref t.alaw)
  clReader : Cls K t.CReader
  mReader : mg "Reader" = some (.ref t.CReader)
  mkReader : Mk K t.CReader t.aReaderinit
  nalines : NoAttr K t.CReader "lines"
  nalinesread : NoAttr K t.CReader "lines_read"
  nastatementsread : NoAttr K t.CReader "statements_read"
  cGREATESTWORTH : mg "GREATEST_WORTH" = some (.int 1000000000 t.kGREATESTWORTH)
  cLONGESTNAME : mg "LONGEST_NAME" = some (.int 6 t.kLONGESTNAME)
  cOWNWORDS : mg "OWN_WORDS" = some (.ref t.kOWNWORDS)
  qOWNWORDS : ∀ H : Hp, SqT K H t.kOWNWORDS [.str "order", .str "timer", .str "child", .str "send", .str "drop", .str "wait", .str "hear", .str "if", .str "else", .str "done", .str "while", .str "end", .str "none", .str "arg", .str "now", .str "answer", .str "not"]
  cMOSTSTATEMENTS : mg "MOST_STATEMENTS" = some (.int 60 t.kMOSTSTATEMENTS)
  cDEEPESTBLOCK : mg "DEEPEST_BLOCK" = some (.int 5 t.kDEEPESTBLOCK)
  cDEEPESTSAYING : mg "DEEPEST_SAYING" = some (.int 6 t.kDEEPESTSAYING)
  cMOSTWAITED : mg "MOST_WAITED" = some (.int 4 t.kMOSTWAITED)
  cSIGNS : mg "SIGNS" = some (.ref t.kSIGNS)
  qSIGNS : ∀ H : Hp, SqT K H t.kSIGNS [.str "+", .str "-", .str "*", .str "<", .str "="]
  zall : mg "all" = none
  zint : mg "int" = none
  zisinstance : mg "isinstance" = none
  zlen : mg "len" = none
  zmax : mg "max" = none
  zrange : mg "range" = none
  zstr : mg "str" = none
  ztuple : mg "tuple" = none
set_option linter.all false in private theorem sc_isnumberword : FnScope ["word", "least", "greatest", "figures"] ["word", "least", "greatest"] (defScope s_isnumberword) := ⟨rfl, rfl, rfl, by decide +kernel, rfl, by decide +kernel, by decide +kernel⟩
set_option linter.all false in private theorem sc_isfigure : FnScope ["sign"] ["sign"] (defScope s_isfigure) := ⟨rfl, rfl, rfl, by decide +kernel, rfl, by decide +kernel, by decide +kernel⟩
set_option linter.all false in private theorem sc_issmallletter : FnScope ["sign"] ["sign"] (defScope s_issmallletter) := ⟨rfl, rfl, rfl, by decide +kernel, rfl, by decide +kernel, by decide +kernel⟩
set_option linter.all false in private theorem sc_isname : FnScope ["thing"] ["thing"] (defScope s_isname) := ⟨rfl, rfl, rfl, by decide +kernel, rfl, by decide +kernel, by decide +kernel⟩
set_option linter.all false in private theorem sc_readprogram : FnScope ["text", "reader", "program"] ["text"] (defScope s_readprogram) := ⟨rfl, rfl, rfl, by decide +kernel, rfl, by decide +kernel, by decide +kernel⟩
set_option linter.all false in private theorem sc_Readerinit : FnScope ["self", "lines"] ["self", "lines"] (defScope s_Readerinit) := ⟨rfl, rfl, rfl, by decide +kernel, rfl, by decide +kernel, by decide +kernel⟩
set_option linter.all false in private theorem sc_Readerahead : FnScope ["self"] ["self"] (defScope s_Readerahead) := ⟨rfl, rfl, rfl, by decide +kernel, rfl, by decide +kernel, by decide +kernel⟩
set_option linter.all false in private theorem sc_Readerblock : FnScope ["self", "deep", "statements"] ["self", "deep"] (defScope s_Readerblock) := ⟨rfl, rfl, rfl, by decide +kernel, rfl, by decide +kernel, by decide +kernel⟩
set_option linter.all false in private theorem sc_Readerstatement : FnScope ["self", "deep", "words", "statement"] ["self", "deep"] (defScope s_Readerstatement) := ⟨rfl, rfl, rfl, by decide +kernel, rfl, by decide +kernel, by decide +kernel⟩
set_option linter.all false in private theorem sc_Readerwithblocks : FnScope ["self", "words", "deep", "kind", "saying", "first", "blocks"] ["self", "words", "deep"] (defScope s_Readerwithblocks) := ⟨rfl, rfl, rfl, by decide +kernel, rfl, by decide +kernel, by decide +kernel⟩
set_option linter.all false in private theorem sc_Readersecondblock : FnScope ["self", "deep", "block"] ["self", "deep"] (defScope s_Readersecondblock) := ⟨rfl, rfl, rfl, by decide +kernel, rfl, by decide +kernel, by decide +kernel⟩
set_option linter.all false in private theorem sc_takeplain : FnScope ["words", "first"] ["words"] (defScope s_takeplain) := ⟨rfl, rfl, rfl, by decide +kernel, rfl, by decide +kernel, by decide +kernel⟩
set_option linter.all false in private theorem sc_takegiven : FnScope ["name", "words", "kind"] ["name", "words"] (defScope s_takegiven) := ⟨rfl, rfl, rfl, by decide +kernel, rfl, by decide +kernel, by decide +kernel⟩
set_option linter.all false in private theorem sc_takewaited : FnScope ["words", "sayings"] ["words"] (defScope s_takewaited) := ⟨rfl, rfl, rfl, by decide +kernel, rfl, by decide +kernel, by decide +kernel⟩
set_option linter.all false in private theorem sc_takesaying : FnScope ["words", "deep", "word"] ["words", "deep"] (defScope s_takesaying) := ⟨rfl, rfl, rfl, by decide +kernel, rfl, by decide +kernel, by decide +kernel⟩
set_option linter.all false in private theorem sc_takejoined : FnScope ["words", "deep", "one", "sign", "other"] ["words", "deep"] (defScope s_takejoined) := ⟨rfl, rfl, rfl, by decide +kernel, rfl, by decide +kernel, by decide +kernel⟩
set_option linter.all false in private theorem sc_takename : FnScope ["words", "word"] ["words"] (defScope s_takename) := ⟨rfl, rfl, rfl, by decide +kernel, rfl, by decide +kernel, by decide +kernel⟩
set_option linter.all false in private theorem sc_takeword : FnScope ["words"] ["words"] (defScope s_takeword) := ⟨rfl, rfl, rfl, by decide +kernel, rfl, by decide +kernel, by decide +kernel⟩
set_option linter.all false in private theorem sc_refusemore : FnScope ["words"] ["words"] (defScope s_refusemore) := ⟨rfl, rfl, rfl, by decide +kernel, rfl, by decide +kernel, by decide +kernel⟩
set_option linter.all false in private theorem sc_showprogram : FnScope ["program"] ["program"] (defScope s_showprogram) := ⟨rfl, rfl, rfl, by decide +kernel, rfl, by decide +kernel, by decide +kernel⟩
set_option linter.all false in private theorem sc_blocklines : FnScope ["block", "lines", "statement"] ["block"] (defScope s_blocklines) := ⟨rfl, rfl, rfl, by decide +kernel, rfl, by decide +kernel, by decide +kernel⟩
set_option linter.all false in private theorem sc_statementlines : FnScope ["statement", "kind"] ["statement"] (defScope s_statementlines) := ⟨rfl, rfl, rfl, by decide +kernel, rfl, by decide +kernel, by decide +kernel⟩
set_option linter.all false in private theorem sc_elselines : FnScope ["block"] ["block"] (defScope s_elselines) := ⟨rfl, rfl, rfl, by decide +kernel, rfl, by decide +kernel, by decide +kernel⟩
set_option linter.all false in private theorem sc_showhead : FnScope ["statement", "kind", "saying"] ["statement"] (defScope s_showhead) := ⟨rfl, rfl, rfl, by decide +kernel, rfl, by decide +kernel, by decide +kernel⟩
set_option linter.all false in private theorem sc_showplain : FnScope ["statement", "kind"] ["statement"] (defScope s_showplain) := ⟨rfl, rfl, rfl, by decide +kernel, rfl, by decide +kernel, by decide +kernel⟩
set_option linter.all false in private theorem sc_givenwords : FnScope ["statement", "kind"] ["statement"] (defScope s_givenwords) := ⟨rfl, rfl, rfl, by decide +kernel, rfl, by decide +kernel, by decide +kernel⟩
set_option linter.all false in private theorem sc_showsaying : FnScope ["saying", "kind", "one", "other"] ["saying"] (defScope s_showsaying) := ⟨rfl, rfl, rfl, by decide +kernel, rfl, by decide +kernel, by decide +kernel⟩
set_option linter.all false in private theorem sc_lawstream : FnScope ["cell", "low"] ["cell"] (defScope s_lawstream) := ⟨rfl, rfl, rfl, by decide +kernel, rfl, by decide +kernel, by decide +kernel⟩
set_option linter.all false in private theorem sc_lawtake : FnScope ["row", "many", "got"] ["row", "many"] (defScope s_lawtake) := ⟨rfl, rfl, rfl, by decide +kernel, rfl, by decide +kernel, by decide +kernel⟩
set_option linter.all false in private theorem sc_lawworth : FnScope ["row", "kind"] ["row"] (defScope s_lawworth) := ⟨rfl, rfl, rfl, by decide +kernel, rfl, by decide +kernel, by decide +kernel⟩
set_option linter.all false in private theorem sc_lawown : FnScope ["words"] [] (defScope s_lawown) := ⟨rfl, rfl, rfl, by decide +kernel, rfl, by decide +kernel, by decide +kernel⟩
set_option linter.all false in private theorem sc_lawname : FnScope ["row", "letters", "kind", "word", "name", "k"] ["row"] (defScope s_lawname) := ⟨rfl, rfl, rfl, by decide +kernel, rfl, by decide +kernel, by decide +kernel⟩
set_option linter.all false in private theorem sc_lawsaying : FnScope ["row", "deep", "names", "left", "kind", "leaf", "worth", "one", "sign"] ["row", "deep", "names", "left"] (defScope s_lawsaying) := ⟨rfl, rfl, rfl, by decide +kernel, rfl, by decide +kernel, by decide +kernel⟩
set_option linter.all false in private theorem sc_lawline : FnScope ["row", "names", "deep", "kind", "name", "one"] ["row", "names", "deep"] (defScope s_lawline) := ⟨rfl, rfl, rfl, by decide +kernel, rfl, by decide +kernel, by decide +kernel⟩
set_option linter.all false in private theorem sc_lawblock : FnScope ["row", "names", "deep", "left", "many", "block", "kind", "saying", "body", "other"] ["row", "names", "deep", "left", "many"] (defScope s_lawblock) := ⟨rfl, rfl, rfl, by decide +kernel, rfl, by decide +kernel, by decide +kernel⟩
set_option linter.all false in private theorem sc_lawprogram : FnScope ["row", "names", "most"] ["row"] (defScope s_lawprogram) := ⟨rfl, rfl, rfl, by decide +kernel, rfl, by decide +kernel, by decide +kernel⟩
set_option linter.all false in private theorem sc_law : FnScope ["script", "cell", "row", "one", "other", "texts", "both", "plain", "at", "rest"] ["script"] (defScope s_law) := ⟨rfl, rfl, rfl, by decide +kernel, rfl, by decide +kernel, by decide +kernel⟩

set_option linter.all false in private theorem w_K {CX : CXT} {P : Program} {w : World} {K : PySem.W.Frag} {mg : Str → Option Value} {base : Heap} {N : List Str} {q : Str} {sc : Scope} {f : Addr} {cd : Value} {A : Around} {o : List Env} {s : Shared} {H : Hp} {E : XK} : (cxOf CX P w K mg base N q sc f cd A o s H E).K = K := rfl
set_option linter.all false in private theorem w_Kn {CX : CXT} {P : Program} {w : World} {K : PySem.W.Frag} {mg : Str → Option Value} {base : Heap} {N : List Str} {q : Str} {sc : Scope} {f : Addr} {cd : Value} {A : Around} {o : List Env} {s : Shared} {H : Hp} {E : XK} : (cxOf CX P w K mg base N q sc f cd A o s H E).nox.K = K := rfl
set_option linter.all false in private theorem small {n : Nat} (h : n ≤ 1000) : n ≤ sizeLine := Nat.le_of_lt (small1000 h)
set_option linter.all false in private theorem mulOk {i j : Int} (h0 : -(2 ^ 64) < i) (h1 : i < 2 ^ 64) : CMul i j := .inl ⟨h0, h1⟩
set_option linter.all false in private structure RowAt (H : Hp) (r : Addr) : Prop where
  ex : ∃ c l f : Int, H r = some (.lst [.int c, .int l, .int f]) ∧ 0 ≤ l ∧ l < 536870909
set_option linter.all false in private theorem RowAt.kp {S : List Addr} {H H' : Hp} {r : Addr} (R : RowAt H r) (h : Kp S H H') (n : r ∉ S := by trivial) : RowAt H' r := by
  obtain ⟨c, l, f, e, x⟩ := R
  exact ⟨c, l, f, h _ _ e n, x⟩
set_option linter.all false in private theorem RowAt.new {H : Hp} {r p : Addr} {o : HO} (R : RowAt H r) (h : H p = none) : RowAt (upd H p o) r := R.kp (S := []) (Kp.new h)
set_option linter.all false in private theorem RowAt.none {H : Hp} {r p : Addr} (R : RowAt H r) (h : H p = Option.none) : p ≠ r := by
  obtain ⟨c, l, f, e, _⟩ := R
  exact (ne_of_none e h).symm
set_option linter.all false in theorem _root_.L2.Kp.made {r p : Addr} {H H' : Hp} {o : HO} (x : Kp [r] (upd H p o) H') (R : RowAt H r) (h : H p = none) : H' p = some o := x.at1 upd_same (R.none h)
set_option linter.all false in private noncomputable def spStream : Sp := fun vs H Q _ => ∃ c : Int, vs = [.int c] ∧ ∀ (r : Addr) (H' : Hp), H r = none → Kp [] H H' → RowAt H' r → Q (.ref r) H'
set_option linter.all false in private noncomputable def spTake : Sp := fun vs H Q _ => ∃ (r : Addr) (m : Int), vs = [.ref r, .int m] ∧ 0 < m ∧ m ≤ 10 ^ 45 ∧ RowAt H r ∧
  ∀ (g : Int) (H' : Hp), 0 ≤ g → g < m → RowAt H' r → Kp [r] H H' → Q (.int g) H'
set_option linter.all false in private theorem q_take {r : Addr} {m : Int} {H : Hp} {Q : VK} {E : XK} : spTake [.ref r, .int m] H Q E = (0 < m ∧ m ≤ 10 ^ 45 ∧ RowAt H r ∧ ∀ (g : Int) (H' : Hp), 0 ≤ g → g < m → RowAt H' r → Kp [r] H H' → Q (.int g) H') :=
  propext ⟨fun ⟨_, _, e, h⟩ => by cases e; exact h, fun h => ⟨_, _, rfl, h⟩⟩
set_option linter.all false in private noncomputable def clamp (n : Int) : Int := if (if n < 1000000000 then n else 1000000000) > -1000000000 then (if n < 1000000000 then n else 1000000000) else -1000000000
set_option linter.all false in private noncomputable abbrev Wo := Option Int
set_option linter.all false in private noncomputable def wv : Wo → V
  | none => .non
  | some n => .int n
set_option linter.all false in private noncomputable def num (w : Wo) : Int := w.getD 0
set_option linter.all false in private noncomputable def isWo (w : Wo) : Prop := ∀ n, w = some n → -1000000000 ≤ n ∧ n ≤ 1000000000
set_option linter.all false in private theorem wv_non (w : Wo) : (wv w = .non) = (w = none) := by cases w <;> simp [wv]
set_option linter.all false in private theorem isWo_non : isWo none := fun _ h => nomatch h
set_option linter.all false in private theorem isWo_int {n : Int} (h0 : -1000000000 ≤ n) (h1 : n ≤ 1000000000) : isWo (some n) := fun m h => by cases h; exact ⟨h0, h1⟩
set_option linter.all false in private inductive Sg where
  | add | sub | mul | lt | eq
set_option linter.all false in private noncomputable def Sg.s : Sg → Str
  | .add => "+" | .sub => "-" | .mul => "*" | .lt => "<" | .eq => "="
set_option linter.all false in private noncomputable def Sg.of (g : Sg) (a b : Wo) : Int :=
  match g with
  | .add => clamp (num a + num b) | .sub => clamp (num a - num b) | .mul => clamp (num a * num b) | .lt => if num a < num b then 1 else 0 | .eq => if a = b then 1 else 0
set_option linter.all false in private inductive Say where
  | num (n : Int) | non | name (x : Str) | arg | now | ans (s : Say) | neg (s : Say) | two (g : Sg) (a b : Say)
set_option linter.all false in private inductive SayAt (H : Hp) : V → Say → Prop
  | num {a : Addr} {n : Int} : H a = some (.tup [.str "number", .int n]) → SayAt H (.ref a) (.num n)
  | non {a : Addr} : H a = some (.tup [.str "none"]) → SayAt H (.ref a) .non
  | name {a : Addr} {x : Str} : H a = some (.tup [.str "name", .str x]) → SayAt H (.ref a) (.name x)
  | arg {a : Addr} : H a = some (.tup [.str "arg"]) → SayAt H (.ref a) .arg
  | now {a : Addr} : H a = some (.tup [.str "now"]) → SayAt H (.ref a) .now
  | ans {a : Addr} {v : V} {s : Say} : H a = some (.tup [.str "answer", v]) → SayAt H v s → SayAt H (.ref a) (.ans s)
  | neg {a : Addr} {v : V} {s : Say} : H a = some (.tup [.str "not", v]) → SayAt H v s → SayAt H (.ref a) (.neg s)
  | two {a : Addr} {v u : V} {g : Sg} {s r : Say} : H a = some (.tup [.str g.s, v, u]) → SayAt H v s → SayAt H u r → SayAt H (.ref a) (.two g s r)
set_option linter.all false in private noncomputable def TupKp (H H' : Hp) : Prop := ∀ a xs, H a = some (.tup xs) → H' a = some (.tup xs)
set_option linter.all false in private theorem SayAt.kp {H H' : Hp} {v : V} {s : Say} (h : SayAt H v s) (k : TupKp H H') : SayAt H' v s := by
  induction h with
  | num e => exact .num (k _ _ e)
  | non e => exact .non (k _ _ e)
  | name e => exact .name (k _ _ e)
  | arg e => exact .arg (k _ _ e)
  | now e => exact .now (k _ _ e)
  | ans e _ ih => exact .ans (k _ _ e) ih
  | neg e _ ih => exact .neg (k _ _ e) ih
  | two e _ _ i1 i2 => exact .two (k _ _ e) i1 i2
set_option linter.all false in private theorem TupKp.of {S : List Addr} {H H' : Hp} (k : Kp S H H') (h : ∀ a ∈ S, ∃ o, H a = some o ∧ ∀ xs, o ≠ .tup xs) : TupKp H H' := fun a xs e => k a _ e fun z => by
  obtain ⟨o, e', d⟩ := h a z
  rw [e] at e'
  exact d xs (Option.some.inj e').symm
set_option linter.all false in private theorem TupKp.new {H : Hp} {p : Addr} {o : HO} (h : H p = none) : TupKp H (upd H p o) := fun a xs e => by rw [upd_ne (ne_of_none e h)]; exact e
set_option linter.all false in private theorem TupKp.trans {H H1 H2 : Hp} (a : TupKp H H1) (b : TupKp H1 H2) : TupKp H H2 := fun x xs e => b x xs (a x xs e)
set_option linter.all false in private theorem TupKp.row {r : Addr} {H H' : Hp} (k : Kp [r] H H') (R : RowAt H r) : TupKp H H' := .of k fun a ha => by
  obtain ⟨c, l, f, e, _⟩ := R
  have : a = r := by simpa using ha
  exact ⟨_, this ▸ e, fun _ h => by cases h⟩
set_option linter.all false in private noncomputable def Say.depth : Say → Nat
  | .ans s => s.depth + 1 | .neg s => s.depth + 1 | .two _ a b => max a.depth b.depth + 1 | .num _ => 1 | .non => 1 | .name _ => 1 | .arg => 1 | .now => 1
set_option linter.all false in private noncomputable def Say.ok : Say → Prop
  | .num n => -1000000000 ≤ n ∧ n ≤ 1000000000 | .ans s => s.ok | .neg s => s.ok | .two _ a b => a.ok ∧ b.ok | _ => True
set_option linter.all false in private theorem Say.depth_pos (s : Say) : 1 ≤ s.depth := by cases s <;> simp [Say.depth]
set_option linter.all false in private noncomputable def spWorth : Sp := fun vs H Q _ => ∃ r : Addr, vs = [.ref r] ∧ RowAt H r ∧ ∀ (w : Wo) (H' : Hp), isWo w → RowAt H' r → Kp [r] H H' → Q (wv w) H'
set_option linter.all false in private theorem q_worth {r : Addr} {H : Hp} {Q : VK} {E : XK} : spWorth [.ref r] H Q E = (RowAt H r ∧ ∀ (w : Wo) (H' : Hp), isWo w → RowAt H' r → Kp [r] H H' → Q (wv w) H') :=
  propext ⟨fun ⟨_, e, h⟩ => by cases e; exact h, fun h => ⟨_, rfl, h⟩⟩
set_option linter.all false in private noncomputable def ownW : List V := [.str "order", .str "timer", .str "child", .str "send", .str "drop", .str "wait", .str "hear", .str "if", .str "else", .str "done", .str "while", .str "end", .str "none", .str "arg", .str "now", .str "answer", .str "not"]
set_option linter.all false in private theorem own_flat : ownW.all flatV = true := by decide
set_option linter.all false in private noncomputable def spOwn : Sp := fun vs H Q _ => vs = [] ∧ ∀ (p : Addr) (H' : Hp), H p = none → Kp [] H H' → H' p = some (.lst ownW) → Q (.ref p) H'
set_option linter.all false in private theorem q_own {H : Hp} {Q : VK} {E : XK} : spOwn [] H Q E = ∀ (p : Addr) (H' : Hp), H p = none → Kp [] H H' → H' p = some (.lst ownW) → Q (.ref p) H' := propext ⟨fun h => h.2, fun h => ⟨rfl, h⟩⟩
set_option linter.all false in private noncomputable def nmOk (x : Str) : Prop := (decide (1 ≤ x.length) && (decide (x.length ≤ 6) && (x.cps.toList.all (fun c => decide (97 ≤ c) && decide (c ≤ 122)) && !inV (.str x) ownW))) = true
set_option linter.all false in private theorem nmOk.len {x : Str} (h : nmOk x) : x.length ≤ 20 := by
  unfold nmOk at h
  simp only [Bool.and_eq_true, decide_eq_true_eq] at h
  omega
set_option linter.all false in private noncomputable def spName : Sp := fun vs H Q _ => ∃ r : Addr, vs = [.ref r] ∧ RowAt H r ∧ ∀ (x : Str) (H' : Hp), nmOk x → RowAt H' r → Kp [r] H H' → Q (.str x) H'
set_option linter.all false in private theorem q_name {r : Addr} {H : Hp} {Q : VK} {E : XK} : spName [.ref r] H Q E = (RowAt H r ∧ ∀ (x : Str) (H' : Hp), nmOk x → RowAt H' r → Kp [r] H H' → Q (.str x) H') :=
  propext ⟨fun ⟨_, e, h⟩ => by cases e; exact h, fun h => ⟨_, rfl, h⟩⟩
set_option linter.all false in private theorem str_len (a b : Str) : (a ++ b).length = a.length + b.length := by
  show (a.cps ++ b.cps).size = _
  rw [Array.size_append]
  rfl
set_option linter.all false in private theorem slice_len (x : Str) (a b : Option Int) : (Txt.slice x a b).length ≤ x.length := Txt.slice_le x a b
set_option linter.all false in private theorem one_len (c : Nat) : (⟨#[c]⟩ : Str).length = 1 := rfl
set_option linter.all false in private theorem len_x : ("x" : Str).length = 1 ∧ ("z" : Str).length = 1 ∧ ("s" : Str).length = 1 ∧ ("q" : Str).length = 1 ∧ ("" : Str).length = 0 ∧ ("abcdefghijklmnopqrstuvwxyz" : Str).length = 26 := by decide +kernel

set_option linter.all false in private structure SayIn (H : Hp) (r nl lf : Addr) (dp : Int) (xs : List Str) (k : Int) : Prop where
  row : RowAt H r
  lo : 1 ≤ dp
  hnl : H nl = some (.lst (xs.map V.str))
  l0 : 1 ≤ xs.length
  l1 : xs.length ≤ 1000
  hlf : H lf = some (.lst [.int k])
  n1 : nl ≠ r
  n2 : lf ≠ r
  n3 : nl ≠ lf
set_option linter.all false in private noncomputable def Say.nms : Say → List Str
  | .name x => [x] | .ans s => s.nms | .neg s => s.nms | .two _ a b => a.nms ++ b.nms | .num _ => [] | .non => [] | .arg => [] | .now => []
set_option linter.all false in private structure SayOut (H H' : Hp) (r lf : Addr) (dp : Int) (xs : List Str) (v : V) (s : Say) : Prop where
  say : SayAt H' v s
  hdp : (s.depth : Int) ≤ dp
  ok : s.ok
  row : RowAt H' r
  hlf : ∃ k, H' lf = some (.lst [.int k])
  kp : Kp [r, lf] H H'
  nms : ∀ x ∈ s.nms, x ∈ xs
set_option linter.all false in private theorem TupKp.two {r lf : Addr} {H H' : Hp} {k : Int} (x : Kp [r, lf] H H') (R : RowAt H r) (l : H lf = some (.lst [.int k])) : TupKp H H' := .of x fun a ha => by
  obtain ⟨c, l', f, e, _⟩ := R
  simp only [List.mem_cons, List.not_mem_nil, or_false] at ha
  rcases ha with rfl | rfl
  · exact ⟨_, e, fun _ h => by cases h⟩
  · exact ⟨_, l, fun _ h => by cases h⟩
set_option linter.all false in private theorem SayIn.kp {H H' : Hp} {r nl lf : Addr} {dp : Int} {xs : List Str} {k k' : Int} (I : SayIn H r nl lf dp xs k) (x : Kp [r, lf] H H') (R : RowAt H' r) (l : H' lf = some (.lst [.int k'])) {e : Int} (he : 1 ≤ e) : SayIn H' r nl lf e xs k' :=
  ⟨R, he, x _ _ I.hnl (by simp [I.n1, I.n3]), I.l0, I.l1, l, I.n1, I.n2, I.n3⟩
set_option linter.all false in private noncomputable def spSaying (d : Nat) : Sp := fun vs H Q _ => ∃ (r nl lf : Addr) (dp : Int) (xs : List Str) (k : Int), vs = [.ref r, .int dp, .ref nl, .ref lf] ∧ SayIn H r nl lf dp xs k ∧ dp ≤ d ∧ ∀ (v : V) (s : Say) (H' : Hp), SayOut H H' r lf dp xs v s → Q v H'

set_option linter.all false in private noncomputable def woV : V → Wo
  | .int n => some n
  | _ => none
set_option linter.all false in private noncomputable def look (kvs : List (Key × V)) (k : Key) : Wo := woV ((valV kvs k).getD .non)
set_option linter.all false in theorem _root_.L2.Kp.free {S : List Addr} {H H' : Hp} {a p : Addr} {o : HO} (k : Kp S H H') (e : H a = some o) (n : a ∉ S) (h : H' p = none) : a ≠ p := ne_of_none (k a o e n) h

set_option linter.all false in private theorem cut_ints (ns : List Int) (lo hi : Option Int) : ∃ ms : List Int, cutV (ns.map V.int) lo hi = ms.map V.int ∧ ms.length ≤ ns.length := by
  unfold cutV
  rw [← List.map_drop, ← List.map_take]
  exact ⟨_, rfl, by rw [List.length_take, List.length_drop]; omega⟩
set_option linter.all false in private theorem ints_at {ms : List Int} {i : Nat} {y : V} (h : (ms.map V.int)[i]? = some y) : ∃ z : Int, y = .int z := by
  rw [List.getElem?_map] at h
  cases e : ms[i]? with
  | none => rw [e] at h; cases h
  | some z => rw [e] at h; exact ⟨z, (Option.some.inj h).symm⟩
set_option linter.all false in private theorem s_beq {a b : String} : (Str.ofString a == Str.ofString b) = decide (a = b) := by
  by_cases h : a = b
  · subst h; simp
  · rw [decide_eq_false h]
    exact beq_eq_false_iff_ne.mpr (fun z => h (by rwa [w_sinj] at z))
set_option linter.all false in private theorem TupKp.nil {H H' : Hp} (k : Kp [] H H') : TupKp H H' := fun a xs e => k a _ e (by simp)

set_option linter.all false in private noncomputable def ownS : List Str := ["order", "timer", "child", "send", "drop", "wait", "hear", "if", "else", "done", "while", "end", "none", "arg", "now", "answer", "not"]
set_option linter.all false in private theorem own_all : ∀ x ∈ ownS, x.length ≤ 6 ∧ nmOk (Txt.slice x none (some (-1)) ++ "z") ∧ nmOk (Txt.slice (x ++ "s") (some (-6)) none) ∧ nmOk (Txt.slice x none (some 5) ++ "x") := by
  unfold nmOk
  decide +kernel
set_option linter.all false in private theorem own_allq : ∀ x ∈ ownS, nmOk (Txt.slice x none (some 5) ++ "q") := by
  unfold nmOk
  decide +kernel
set_option linter.all false in private theorem own_nm {v : V} (h : v ∈ ownW) : ∃ x : Str, v = .str x ∧ x.length ≤ 6 ∧ nmOk (Txt.slice x none (some (-1)) ++ "z") ∧ nmOk (Txt.slice (x ++ "s") (some (-6)) none) ∧ nmOk (Txt.slice x none (some 5) ++ "x") := by
  have h : v ∈ ownS.map V.str := h
  obtain ⟨x, hx, rfl⟩ := List.mem_map.mp h
  exact ⟨x, rfl, own_all x hx⟩
set_option linter.all false in private theorem own_q {x : Str} (h : inV (.str x) ownW = true) : nmOk (Txt.slice x none (some 5) ++ "q") := by
  have h : (ownS.map V.str).any (fun y => eqV y (.str x)) = true := h
  obtain ⟨v, hv, e⟩ := List.any_eq_true.mp h
  obtain ⟨y, hy, rfl⟩ := List.mem_map.mp hv
  have e : (y == x) = true := e
  rw [← eq_of_beq e]
  exact own_allq y hy
set_option linter.all false in private theorem six_nm : ∀ v ∈ ([.str "x", .str "y", .str "xx", .str "zz", .str "abcdef", .str "abcdeg"] : List V), ∃ x : Str, v = .str x ∧ nmOk x := by
  intro v h
  simp only [List.mem_cons, List.not_mem_nil, or_false] at h
  rcases h with h | h | h | h | h | h <;> exact ⟨_, h, by unfold nmOk; decide +kernel⟩
set_option linter.all false in private theorem abc_small : ∀ c ∈ ("abcdefghijklmnopqrstuvwxyz" : Str).cps.toList, (decide (97 ≤ c) && decide (c ≤ 122)) = true := by decide +kernel
set_option linter.all false in private theorem nm_of {x : Str} (h1 : 1 ≤ x.length) (h6 : x.length ≤ 6) (hc : x.cps.toList.all (fun c => decide (97 ≤ c) && decide (c ≤ 122)) = true) (hn : ¬ inV (.str x) ownW = true) : nmOk x := by
  unfold nmOk
  simp only [h1, h6, decide_true, hc, Bool.true_and]
  simpa using hn
set_option linter.all false in private theorem all_snoc {x : Str} {c : Nat} {p : Nat → Bool} (h : x.cps.toList.all p = true) (hc : p c = true) : (x ++ (⟨#[c]⟩ : Str)).cps.toList.all p = true := by
  show (x.cps ++ #[c]).toList.all p = true
  rw [Array.toList_append, List.all_append, h, Bool.true_and]
  simpa using hc

set_option linter.all false in private theorem slen (x : String) : (Str.ofString x).length = x.length := PySem.ofString_length x
set_option linter.all false in private theorem ilen {n : Int} (h0 : -1000000000 ≤ n) (h1 : n ≤ 1000000000) : (Str.ofString (toString n)).length ≤ 20 := by
  rw [slen]
  cases n with
  | ofNat m =>
    show (Nat.repr m).length ≤ 20
    have : (Nat.repr m).length ≤ 19 := (Nat.length_repr_le_iff (by decide)).mpr (by have : (Int.ofNat m) = (m : Int) := rfl; omega)
    omega
  | negSucc m =>
    show ("-" ++ Nat.repr (m + 1)).length ≤ 20
    have : (Nat.repr (m + 1)).length ≤ 19 := (Nat.length_repr_le_iff (by decide)).mpr (by
      have : Int.negSucc m = -((m : Int) + 1) := by omega
      omega)
    rw [String.length_append]
    show 1 + _ ≤ 20
    omega
set_option linter.all false in private theorem ilog {n : Int} (h0 : -1000000000 ≤ n) (h1 : n ≤ 1000000000) : n.natAbs.log2 < 1920 := by
  have h : n.natAbs < 2 ^ 1920 := Nat.lt_of_le_of_lt (show n.natAbs ≤ 1000000000 by omega) (Nat.lt_of_lt_of_le (show 1000000000 < 2 ^ 30 by decide) (Nat.pow_le_pow_right (by decide) (by decide)))
  by_cases z : n.natAbs = 0
  · rw [z]
    decide
  · exact (Nat.log2_lt z).mpr h
set_option linter.all false in private noncomputable def wd : Say → Str
  | .num n => Str.ofString (toString n)
  | .non => "none"
  | .name x => x
  | .arg => "arg"
  | .now => "now"
  | .ans s => ("answer" : Str) ++ " " ++ wd s
  | .neg s => ("not" : Str) ++ " " ++ wd s
  | .two g a b => ("( " : Str) ++ wd a ++ " " ++ g.s ++ " " ++ wd b ++ " )"
set_option linter.all false in private noncomputable def Say.sh (s : Say) : Prop := s.ok ∧ ∀ x ∈ s.nms, nmOk x
set_option linter.all false in private theorem lens : ("none" : Str).length = 4 ∧ ("arg" : Str).length = 3 ∧ ("now" : Str).length = 3 ∧ ("answer" : Str).length = 6 ∧ ("not" : Str).length = 3 ∧ ("( " : Str).length = 2 ∧ (" " : Str).length = 1 ∧ (" )" : Str).length = 2 := by decide +kernel
set_option linter.all false in private theorem Sg.len (g : Sg) : g.s.length = 1 := by cases g <;> decide +kernel
set_option linter.all false in private theorem wd_len {s : Say} (h : s.sh) : (wd s).length + 7 ≤ 27 * 2 ^ s.depth := by
  induction s with
  | num n =>
    have := ilen h.1.1 h.1.2
    simp only [wd, Say.depth]
    omega
  | non => simp only [wd, Say.depth, lens.1]; omega
  | name x =>
    have := (h.2 x (by simp [Say.nms])).len
    simp only [wd, Say.depth]
    omega
  | arg => simp only [wd, Say.depth, lens.2.1]; omega
  | now => simp only [wd, Say.depth, lens.2.2.1]; omega
  | ans s ih =>
    have := ih ⟨h.1, h.2⟩
    simp only [wd, Say.depth, str_len, lens.2.2.2.1, lens.2.2.2.2.2.2.1, Nat.pow_succ]
    omega
  | neg s ih =>
    have := ih ⟨h.1, h.2⟩
    simp only [wd, Say.depth, str_len, lens.2.2.2.2.1, lens.2.2.2.2.2.2.1, Nat.pow_succ]
    omega
  | two g a b i1 i2 =>
    have h1 := i1 ⟨h.1.1, fun x hx => h.2 x (List.mem_append_left _ hx)⟩
    have h2 := i2 ⟨h.1.2, fun x hx => h.2 x (List.mem_append_right _ hx)⟩
    have p1 : 2 ^ a.depth ≤ 2 ^ max a.depth b.depth := Nat.pow_le_pow_right (by decide) (Nat.le_max_left _ _)
    have p2 : 2 ^ b.depth ≤ 2 ^ max a.depth b.depth := Nat.pow_le_pow_right (by decide) (Nat.le_max_right _ _)
    simp only [wd, Say.depth, str_len, lens.2.2.2.2.2.1, lens.2.2.2.2.2.2, g.len, Nat.pow_succ]
    omega
set_option linter.all false in private theorem wd_small {s : Say} (h : s.sh) (d : s.depth ≤ 6) : (wd s).length ≤ 1800 := by
  have h1 := wd_len h
  have h2 : 2 ^ s.depth ≤ 2 ^ 6 := Nat.pow_le_pow_right (by decide) d
  omega
set_option linter.all false in private noncomputable def spWords (d : Nat) : Sp := fun vs H Q _ => ∃ (v : V) (s : Say), vs = [v] ∧ SayAt H v s ∧ s.depth ≤ d ∧ s.depth ≤ 6 ∧ s.sh ∧ ∀ H', Kp [] H H' → Q (.str (wd s)) H'
set_option linter.all false in private theorem inS2 {x a b : String} : inV (.str (Str.ofString x)) [.str (Str.ofString a), .str (Str.ofString b)] = (decide (a = x) || decide (b = x)) := by
  simp only [inV, eqV_str, eqV_ns, List.any_cons, List.any_nil, Bool.or_false, s_beq]
set_option linter.all false in private theorem flat2 {a b : Str} : ([.str a, .str b] : List V).all flatV = true := rfl
set_option linter.all false in private inductive Stm where
  | set (x : Str) (s : Say) | order (x y : Str) (s : Say) | timer (x : Str) (s : Say) | child (x y : Str) (s : Say) | send (s : Say) (k : Str) (r : Say) | drop (s : Say)
  | wait (x : Str) (ss : List Say) | hear (x k : Str) | fin (s : Say) | whl (s : Say) (b : List Stm) | iff (s : Say) (b o : List Stm)
set_option linter.all false in private inductive SaysAt (H : Hp) : List V → List Say → Prop
  | nil : SaysAt H [] []
  | cons {v : V} {vs : List V} {s : Say} {ss : List Say} : SayAt H v s → SaysAt H vs ss → SaysAt H (v :: vs) (s :: ss)
set_option linter.all false in private theorem SaysAt.kp {H H' : Hp} {vs : List V} {ss : List Say} (h : SaysAt H vs ss) (k : TupKp H H') : SaysAt H' vs ss := by
  induction h with
  | nil => exact .nil
  | cons a _ ih => exact .cons (a.kp k) ih
set_option linter.all false in mutual
private inductive StmAt (H : Hp) : V → Stm → Prop
  | set {a : Addr} {x : Str} {v : V} {s : Say} : H a = some (.tup [.str "set", .str x, v]) → SayAt H v s → StmAt H (.ref a) (.set x s)
  | order {a : Addr} {x y : Str} {v : V} {s : Say} : H a = some (.tup [.str "order", .str x, .str y, v]) → SayAt H v s → StmAt H (.ref a) (.order x y s)
  | timer {a : Addr} {x : Str} {v : V} {s : Say} : H a = some (.tup [.str "timer", .str x, v]) → SayAt H v s → StmAt H (.ref a) (.timer x s)
  | child {a : Addr} {x y : Str} {v : V} {s : Say} : H a = some (.tup [.str "child", .str x, .str y, v]) → SayAt H v s → StmAt H (.ref a) (.child x y s)
  | send {a : Addr} {k : Str} {v u : V} {s r : Say} : H a = some (.tup [.str "send", v, .str k, u]) → SayAt H v s → SayAt H u r → StmAt H (.ref a) (.send s k r)
  | drop {a : Addr} {v : V} {s : Say} : H a = some (.tup [.str "drop", v]) → SayAt H v s → StmAt H (.ref a) (.drop s)
  | wait {a p : Addr} {x : Str} {vs : List V} {ss : List Say} : H a = some (.tup [.str "wait", .str x, .ref p]) → H p = some (.tup vs) → SaysAt H vs ss → StmAt H (.ref a) (.wait x ss)
  | hear {a : Addr} {x k : Str} : H a = some (.tup [.str "hear", .str x, .str k]) → StmAt H (.ref a) (.hear x k)
  | fin {a : Addr} {v : V} {s : Say} : H a = some (.tup [.str "end", v]) → SayAt H v s → StmAt H (.ref a) (.fin s)
  | whl {a p : Addr} {v : V} {s : Say} {vs : List V} {b : List Stm} : H a = some (.tup [.str "while", v, .ref p]) → SayAt H v s → H p = some (.tup vs) → StmsAt H vs b → StmAt H (.ref a) (.whl s b)
  | iff {a p q : Addr} {v : V} {s : Say} {vs us : List V} {b o : List Stm} : H a = some (.tup [.str "if", v, .ref p, .ref q]) → SayAt H v s → H p = some (.tup vs) → StmsAt H vs b → H q = some (.tup us) → StmsAt H us o → StmAt H (.ref a) (.iff s b o)
private inductive StmsAt (H : Hp) : List V → List Stm → Prop
  | nil : StmsAt H [] []
  | cons {v : V} {vs : List V} {x : Stm} {xs : List Stm} : StmAt H v x → StmsAt H vs xs → StmsAt H (v :: vs) (x :: xs)
end
set_option linter.all false in private theorem StmAt.kp {H H' : Hp} (k : TupKp H H') {v : V} {m : Stm} (h : StmAt H v m) : StmAt H' v m :=
  StmAt.rec (motive_1 := fun v m _ => StmAt H' v m) (motive_2 := fun vs ms _ => StmsAt H' vs ms)
    (fun e s => .set (k _ _ e) (s.kp k)) (fun e s => .order (k _ _ e) (s.kp k)) (fun e s => .timer (k _ _ e) (s.kp k)) (fun e s => .child (k _ _ e) (s.kp k))
    (fun e s r => .send (k _ _ e) (s.kp k) (r.kp k)) (fun e s => .drop (k _ _ e) (s.kp k)) (fun e f s => .wait (k _ _ e) (k _ _ f) (s.kp k)) (fun e => .hear (k _ _ e)) (fun e s => .fin (k _ _ e) (s.kp k))
    (fun e s f _ b => .whl (k _ _ e) (s.kp k) (k _ _ f) b) (fun e s f _ f' _ b b' => .iff (k _ _ e) (s.kp k) (k _ _ f) b (k _ _ f') b') .nil (fun _ _ a b => .cons a b) h
set_option linter.all false in private theorem StmsAt.kp {H H' : Hp} (k : TupKp H H') {vs : List V} {ms : List Stm} (h : StmsAt H vs ms) : StmsAt H' vs ms :=
  StmsAt.rec (motive_1 := fun v m _ => StmAt H' v m) (motive_2 := fun vs ms _ => StmsAt H' vs ms)
    (fun e s => .set (k _ _ e) (s.kp k)) (fun e s => .order (k _ _ e) (s.kp k)) (fun e s => .timer (k _ _ e) (s.kp k)) (fun e s => .child (k _ _ e) (s.kp k))
    (fun e s r => .send (k _ _ e) (s.kp k) (r.kp k)) (fun e s => .drop (k _ _ e) (s.kp k)) (fun e f s => .wait (k _ _ e) (k _ _ f) (s.kp k)) (fun e => .hear (k _ _ e)) (fun e s => .fin (k _ _ e) (s.kp k))
    (fun e s f _ b => .whl (k _ _ e) (s.kp k) (k _ _ f) b) (fun e s f _ f' _ b b' => .iff (k _ _ e) (s.kp k) (k _ _ f) b (k _ _ f') b') .nil (fun _ _ a b => .cons a b) h
set_option linter.all false in private noncomputable def glue (t : Str) (ys : List Str) : Str := ys.foldl (fun t y => t ++ " " ++ y) t
set_option linter.all false in private noncomputable def Say.s6 (s : Say) : Prop := s.sh ∧ s.depth ≤ 6
set_option linter.all false in private noncomputable def Stm.hd : Stm → Str
  | .set x s => x ++ " = " ++ wd s
  | .order x y s => glue (x ++ " = " ++ "order") [y, wd s]
  | .timer x s => glue (x ++ " = " ++ "timer") [wd s]
  | .child x y s => glue (x ++ " = " ++ "child") [y, wd s]
  | .send s k r => ("send " : Str) ++ wd s ++ " " ++ k ++ " " ++ wd r
  | .drop s => ("drop" : Str) ++ " " ++ wd s
  | .wait x ss => glue (x ++ " = " ++ "wait") (ss.map wd)
  | .hear x k => glue (x ++ " = " ++ "hear") [k]
  | .fin s => ("end" : Str) ++ " " ++ wd s
  | .whl s _ => ("while" : Str) ++ " " ++ wd s
  | .iff s _ _ => ("if" : Str) ++ " " ++ wd s
set_option linter.all false in private noncomputable def Stm.hok : Stm → Prop
  | .set x s => nmOk x ∧ s.s6
  | .order x y s => nmOk x ∧ nmOk y ∧ s.s6
  | .timer x s => nmOk x ∧ s.s6
  | .child x y s => nmOk x ∧ nmOk y ∧ s.s6
  | .send s k r => s.s6 ∧ nmOk k ∧ r.s6
  | .drop s => s.s6
  | .wait x ss => nmOk x ∧ (1 ≤ ss.length ∧ ss.length ≤ 4) ∧ ∀ s ∈ ss, s.s6
  | .hear x k => nmOk x ∧ nmOk k
  | .fin s => s.s6
  | .whl s _ => s.s6
  | .iff s _ _ => s.s6
set_option linter.all false in private noncomputable def PartAt (H : Hp) (v : V) (y : Str) : Prop := v = .str y ∧ nmOk y ∨ ∃ s : Say, SayAt H v s ∧ s.s6 ∧ y = wd s
set_option linter.all false in private theorem PartAt.len {H : Hp} {v : V} {y : Str} (h : PartAt H v y) : y.length ≤ 1800 := by
  rcases h with ⟨_, h⟩ | ⟨s, _, h, rfl⟩
  · have := h.len
    omega
  · exact wd_small h.1 h.2
set_option linter.all false in private inductive PartsAt (H : Hp) : List V → List Str → Prop
  | nil : PartsAt H [] []
  | cons {v : V} {vs : List V} {y : Str} {ys : List Str} : PartAt H v y → PartsAt H vs ys → PartsAt H (v :: vs) (y :: ys)
set_option linter.all false in private theorem PartsAt.len {H : Hp} {vs : List V} {ys : List Str} (h : PartsAt H vs ys) : ys.length = vs.length := by
  induction h with
  | nil => rfl
  | cons _ _ ih => simp [ih]
set_option linter.all false in private theorem parts_says {H : Hp} {vs : List V} {ss : List Say} (h : SaysAt H vs ss) (a : ∀ s ∈ ss, s.s6) : PartsAt H vs (ss.map wd) := by
  induction h with
  | nil => exact .nil
  | cons b _ ih => exact .cons (.inr ⟨_, b, a _ (by simp), rfl⟩) (ih fun s hs => a s (List.mem_cons_of_mem _ hs))
set_option linter.all false in private theorem glue_len (t : Str) : ∀ (l : List Str), (∀ y ∈ l, y.length ≤ 1800) → (glue t l).length ≤ t.length + 1801 * l.length := by
  intro l
  induction l generalizing t with
  | nil => intro _; exact Nat.le_refl _
  | cons y l ih =>
    intro h
    have h1 := ih (t ++ " " ++ y) fun z hz => h z (List.mem_cons_of_mem _ hz)
    have h2 := h y (by simp)
    have h3 : (glue t (y :: l)) = glue (t ++ " " ++ y) l := rfl
    rw [h3]
    simp only [str_len, lens.2.2.2.2.2.2.1, List.length_cons] at h1 ⊢
    omega
set_option linter.all false in private theorem take_snoc {l : List Str} {i : Nat} {y : Str} (h : l[i]? = some y) : l.take (i + 1) = l.take i ++ [y] := by rw [List.take_add_one, h]; rfl
set_option linter.all false in private theorem hlens : ("send " : Str).length = 5 ∧ (" = " : Str).length = 3 ∧ ("order" : Str).length = 5 ∧ ("timer" : Str).length = 5 ∧ ("child" : Str).length = 5 ∧ ("wait" : Str).length = 4 ∧ ("hear" : Str).length = 4 ∧ ("drop" : Str).length = 4 ∧ ("end" : Str).length = 3 ∧ ("while" : Str).length = 5 ∧ ("if" : Str).length = 2 := by decide +kernel
set_option linter.all false in mutual
private noncomputable def Stm.rows : Stm → List Str
  | .whl s b => ((("while" : Str) ++ " " ++ wd s) :: rowsL b) ++ [("done" : Str)]
  | .iff s b o => (((("if" : Str) ++ " " ++ wd s) :: rowsL b) ++ (if o.isEmpty = true then [] else ("else" : Str) :: rowsL o)) ++ [("done" : Str)]
  | .set x s => [(Stm.set x s).hd]
  | .order x y s => [(Stm.order x y s).hd]
  | .timer x s => [(Stm.timer x s).hd]
  | .child x y s => [(Stm.child x y s).hd]
  | .send s k r => [(Stm.send s k r).hd]
  | .drop s => [(Stm.drop s).hd]
  | .wait x ss => [(Stm.wait x ss).hd]
  | .hear x k => [(Stm.hear x k).hd]
  | .fin s => [(Stm.fin s).hd]
private noncomputable def rowsL : List Stm → List Str
  | [] => []
  | m :: ms => m.rows ++ rowsL ms
end
set_option linter.all false in mutual
private noncomputable def Stm.dp : Stm → Nat
  | .whl _ b => dpL b + 1
  | .iff _ b o => max (dpL b) (dpL o) + 1
  | .set _ _ => 0
  | .order _ _ _ => 0
  | .timer _ _ => 0
  | .child _ _ _ => 0
  | .send _ _ _ => 0
  | .drop _ => 0
  | .wait _ _ => 0
  | .hear _ _ => 0
  | .fin _ => 0
private noncomputable def dpL : List Stm → Nat
  | [] => 0
  | m :: ms => max m.dp (dpL ms)
end
set_option linter.all false in mutual
private noncomputable def Stm.sz : Stm → Nat
  | .whl _ b => szL b + 1
  | .iff _ b o => szL b + szL o + 1
  | .set _ _ => 1
  | .order _ _ _ => 1
  | .timer _ _ => 1
  | .child _ _ _ => 1
  | .send _ _ _ => 1
  | .drop _ => 1
  | .wait _ _ => 1
  | .hear _ _ => 1
  | .fin _ => 1
private noncomputable def szL : List Stm → Nat
  | [] => 0
  | m :: ms => m.sz + szL ms
end
set_option linter.all false in mutual
private noncomputable def Stm.wf : Stm → Prop
  | .whl s b => s.s6 ∧ wfL b
  | .iff s b o => s.s6 ∧ wfL b ∧ wfL o
  | m => m.hok
private noncomputable def wfL : List Stm → Prop
  | [] => True
  | m :: ms => m.wf ∧ wfL ms
end
set_option linter.all false in private theorem Stm.wf_hok {m : Stm} (h : m.wf) : m.hok := by
  cases m <;> simp only [Stm.wf, Stm.hok] at h ⊢ <;> first | exact h | exact h.1
set_option linter.all false in private theorem rowsL_app : ∀ a b : List Stm, rowsL (a ++ b) = rowsL a ++ rowsL b
  | [], b => by simp [rowsL]
  | x :: a, b => by simp [rowsL, rowsL_app a b]
set_option linter.all false in private theorem szL_app : ∀ a b : List Stm, szL (a ++ b) = szL a + szL b
  | [], b => by simp [szL]
  | x :: a, b => by simp [szL, szL_app a b]; omega
set_option linter.all false in private theorem wfL_app : ∀ {a b : List Stm}, wfL (a ++ b) ↔ wfL a ∧ wfL b
  | [], b => by simp [wfL]
  | x :: a, b => by simp [wfL, wfL_app (a := a), and_assoc]
set_option linter.all false in private theorem dpL_app : ∀ a b : List Stm, dpL (a ++ b) = max (dpL a) (dpL b)
  | [], b => by simp [dpL]
  | x :: a, b => by simp [dpL, dpL_app a b, Nat.max_assoc]
set_option linter.all false in mutual
private theorem Stm.rows_len : ∀ m : Stm, m.rows.length ≤ 3 * m.sz
  | .whl s b => by have := rowsL_len b; simp only [Stm.rows, Stm.sz, List.length_append, List.length_cons, List.length_nil]; omega
  | .iff s b o => by
    have h1 := rowsL_len b
    have h2 := rowsL_len o
    simp only [Stm.rows, Stm.sz, List.length_append, List.length_cons, List.length_nil]
    split
    · simp only [List.length_nil]; omega
    · simp only [List.length_cons]; omega
  | .set _ _ | .order _ _ _ | .timer _ _ | .child _ _ _ | .send _ _ _ | .drop _ | .wait _ _ | .hear _ _ | .fin _ => by simp [Stm.rows, Stm.sz]
private theorem rowsL_len : ∀ b : List Stm, (rowsL b).length ≤ 3 * szL b
  | [] => by simp [rowsL]
  | m :: ms => by
    have h1 := m.rows_len
    have h2 := rowsL_len ms
    simp only [rowsL, szL, List.length_append]
    omega
end
set_option linter.all false in theorem _root_.L2.Kp.wasFree {H H' : Hp} {p : Addr} (k : Kp [] H H') (h : H' p = none) : H p = none := by
  cases e : H p with
  | none => rfl
  | some o => rw [k.at e] at h; cases h
set_option linter.all false in theorem _root_.L2.Kp.redo {H H' : Hp} {p : Addr} {o : HO} (k : Kp [] H H') (h : H p = none) : Kp [] H (upd H' p o) := fun a ob e _ => by
  rw [upd_ne (ne_of_none e h)]
  exact k.at e
set_option linter.all false in private theorem StmsAt.at {H : Hp} {vs : List V} {ms : List Stm} (h : StmsAt H vs ms) : ∀ {i : Nat} {x : V}, vs[i]? = some x → ∃ m, ms[i]? = some m ∧ StmAt H x m := by
  induction ms generalizing vs with
  | nil => cases h; intro i x e; simp at e
  | cons m ms ih =>
    cases h with
    | cons a b =>
      intro i x e
      cases i with
      | zero => simp only [List.getElem?_cons_zero, Option.some.injEq] at e; subst e; exact ⟨_, rfl, a⟩
      | succ i => exact ih b (by simpa using e)
set_option linter.all false in private theorem StmsAt.len {H : Hp} {vs : List V} {ms : List Stm} (h : StmsAt H vs ms) : ms.length = vs.length := by
  induction ms generalizing vs with
  | nil => cases h; rfl
  | cons m ms ih =>
    cases h with
    | cons a b => simp [ih b]
set_option linter.all false in private theorem takeS {l : List Stm} {i : Nat} {y : Stm} (h : l[i]? = some y) : l.take (i + 1) = l.take i ++ [y] := by rw [List.take_add_one, h]; rfl
set_option linter.all false in private theorem memS : ∀ {l : List Stm} {i : Nat} {y : Stm}, l[i]? = some y → (wfL l → y.wf) ∧ y.dp ≤ dpL l ∧ szL (l.take i) + y.sz ≤ szL l
  | m :: ms, 0, y, h => by
    simp only [List.getElem?_cons_zero, Option.some.injEq] at h
    subst h
    refine ⟨fun w => w.1, by simp only [dpL]; omega, by simp only [szL, List.take_zero]; omega⟩
  | m :: ms, i + 1, y, h => by
    obtain ⟨h1, h2, h3⟩ := memS (l := ms) (i := i) (y := y) (by simpa using h)
    refine ⟨fun w => h1 w.2, by simp only [dpL]; omega, by simp only [szL, List.take_succ_cons]; omega⟩
  | [], _, _, h => by simp at h
set_option linter.all false in private noncomputable def spRows (d : Nat) : Sp := fun vs H Q _ => ∃ (p : Addr) (us : List V) (b : List Stm), vs = [.ref p] ∧ H p = some (.tup us) ∧ StmsAt H us b ∧ wfL b ∧ dpL b < d ∧ szL b ≤ 1000 ∧
  ∀ (l : Addr) (H' : Hp), H l = none → Kp [] H H' → H' l = some (.lst ((rowsL b).map V.str)) → Q (.ref l) H'

set_option linter.all false in private theorem Say.s6.len {s : Say} (h : s.s6) : (wd s).length ≤ 1800 := wd_small h.1 h.2
set_option linter.all false in private theorem Stm.hd_len {m : Stm} (h : m.hok) : m.hd.length ≤ 8000 := by
  obtain ⟨_, _, _, _, _, lo, l1, lc⟩ := lens
  obtain ⟨lsend, leq, lord, ltim, lchi, lwait, lhear, ldrop, lend, lwhl, lif⟩ := hlens
  cases m with
  | set x s => have := h.2.len; have := h.1.len; simp only [Stm.hd, str_len]; omega
  | send s k r => have := h.1.len; have := h.2.2.len; have := h.2.1.len; simp only [Stm.hd, str_len]; omega
  | drop s => have := Say.s6.len h; simp only [Stm.hd, str_len]; omega
  | fin s => have := Say.s6.len h; simp only [Stm.hd, str_len]; omega
  | whl s b => have := Say.s6.len h; simp only [Stm.hd, str_len]; omega
  | iff s b o => have := Say.s6.len h; simp only [Stm.hd, str_len]; omega
  | order x y s => have := h.2.2.len; have := h.1.len; have := h.2.1.len; simp only [Stm.hd, glue, List.foldl_cons, List.foldl_nil, str_len]; omega
  | child x y s => have := h.2.2.len; have := h.1.len; have := h.2.1.len; simp only [Stm.hd, glue, List.foldl_cons, List.foldl_nil, str_len]; omega
  | timer x s => have := h.2.len; have := h.1.len; simp only [Stm.hd, glue, List.foldl_cons, List.foldl_nil, str_len]; omega
  | hear x k => have := h.2.len; have := h.1.len; simp only [Stm.hd, glue, List.foldl_cons, List.foldl_nil, str_len]; omega
  | wait x ss =>
    have h1 := glue_len (x ++ " = " ++ "wait") (ss.map wd) fun y hy => by
      obtain ⟨s, hs, rfl⟩ := List.mem_map.mp hy
      exact (h.2.2 s hs).len
    have := h.1.len
    have := h.2.1
    simp only [Stm.hd, str_len, List.length_map] at h1 ⊢
    omega
set_option linter.all false in mutual
private theorem Stm.rows_small : ∀ {m : Stm}, m.wf → ∀ r ∈ m.rows, r.length ≤ 8000
  | .whl s b, h, r, hr => by
    simp only [Stm.rows, List.mem_append, List.mem_cons, List.not_mem_nil, or_false] at hr
    rcases hr with (rfl | hr) | rfl
    · exact Stm.hd_len (m := .whl s b) h.1
    · exact rowsL_small h.2 r hr
    · decide +kernel
  | .iff s b o, h, r, hr => by
    simp only [Stm.rows, List.mem_append, List.mem_cons, List.not_mem_nil, or_false] at hr
    rcases hr with ((rfl | hr) | hr) | rfl
    · exact Stm.hd_len (m := .iff s b o) h.1
    · exact rowsL_small h.2.1 r hr
    · split at hr
      · cases hr
      · rcases List.mem_cons.mp hr with rfl | hr
        · decide +kernel
        · exact rowsL_small h.2.2 r hr
    · decide +kernel
  | .set x s, h, r, hr => by rw [show r = _ by simpa [Stm.rows] using hr]; exact Stm.hd_len (Stm.wf_hok h)
  | .order x y s, h, r, hr => by rw [show r = _ by simpa [Stm.rows] using hr]; exact Stm.hd_len (Stm.wf_hok h)
  | .timer x s, h, r, hr => by rw [show r = _ by simpa [Stm.rows] using hr]; exact Stm.hd_len (Stm.wf_hok h)
  | .child x y s, h, r, hr => by rw [show r = _ by simpa [Stm.rows] using hr]; exact Stm.hd_len (Stm.wf_hok h)
  | .send s k u, h, r, hr => by rw [show r = _ by simpa [Stm.rows] using hr]; exact Stm.hd_len (Stm.wf_hok h)
  | .drop s, h, r, hr => by rw [show r = _ by simpa [Stm.rows] using hr]; exact Stm.hd_len (Stm.wf_hok h)
  | .wait x ss, h, r, hr => by rw [show r = _ by simpa [Stm.rows] using hr]; exact Stm.hd_len (Stm.wf_hok h)
  | .hear x k, h, r, hr => by rw [show r = _ by simpa [Stm.rows] using hr]; exact Stm.hd_len (Stm.wf_hok h)
  | .fin s, h, r, hr => by rw [show r = _ by simpa [Stm.rows] using hr]; exact Stm.hd_len (Stm.wf_hok h)
private theorem rowsL_small : ∀ {b : List Stm}, wfL b → ∀ r ∈ rowsL b, r.length ≤ 8000
  | [], _, r, hr => by simp [rowsL] at hr
  | m :: ms, h, r, hr => by
    simp only [rowsL, List.mem_append] at hr
    rcases hr with hr | hr
    · exact Stm.rows_small h.1 r hr
    · exact rowsL_small h.2 r hr
end
set_option linter.all false in private theorem sum_small {B : Nat} : ∀ {ys : List Str}, (∀ y ∈ ys, y.length ≤ B) → (ys.map fun z => z.length).sum ≤ B * ys.length
  | [], _ => by simp
  | y :: ys, h => by
    have h1 := sum_small (ys := ys) fun z hz => h z (List.mem_cons_of_mem _ hz)
    have h2 := h y (by simp)
    simp only [List.map_cons, List.sum_cons, List.length_cons, Nat.mul_add, Nat.mul_one]
    omega
set_option linter.all false in private noncomputable def textOf (b : List Stm) : Str := Txt.join "" ((rowsL b).map fun r : Str => r ++ "\n")
set_option linter.all false in private noncomputable def spTextP : Sp := fun vs H Q _ => ∃ (p : Addr) (us : List V) (b : List Stm), vs = [.ref p] ∧ H p = some (.tup us) ∧ StmsAt H us b ∧ wfL b ∧ dpL b ≤ 5 ∧ szL b ≤ 100 ∧ ∀ H', Kp [] H H' → Q (.str (textOf b)) H'
set_option linter.all false in private theorem nl_len : ("\n" : Str).length = 1 ∧ ("" : Str).length = 0 := by decide +kernel

set_option linter.all false in private theorem look2 {a b z : Str} {x y c : Addr} (n : (a == b) = false) (h : List.lookup z [(a, x), (b, y)] = some c) : List.lookup z [(b, y), (a, x)] = some c := by
  simp only [List.lookup_cons, List.lookup_nil] at h ⊢
  cases e1 : (z == a) with
  | false => rw [e1] at h; cases e2 : (z == b) <;> rw [e2] at h <;> simp_all
  | true =>
    have : z = a := eq_of_beq e1
    subst this
    rw [n]
    rw [e1] at h
    exact h
set_option linter.all false in private theorem SaysAt.snoc {H : Hp} {vs : List V} {ss : List Say} {v : V} {s : Say} (h : SaysAt H vs ss) (e : SayAt H v s) : SaysAt H (vs ++ [v]) (ss ++ [s]) := by
  induction h with
  | nil => exact .cons e .nil
  | cons a _ ih => exact .cons a ih
set_option linter.all false in private theorem SaysAt.len {H : Hp} {vs : List V} {ss : List Say} (h : SaysAt H vs ss) : vs.length = ss.length := by
  induction h with
  | nil => rfl
  | cons _ _ ih => simp [ih]
set_option linter.all false in private structure LineIn (H : Hp) (r nl : Addr) (xs : List Str) : Prop where
  row : RowAt H r
  hnl : H nl = some (.lst (xs.map V.str))
  l0 : 1 ≤ xs.length
  l1 : xs.length ≤ 1000
  n1 : nl ≠ r
  sh : ∀ x ∈ xs, nmOk x
set_option linter.all false in private theorem LineIn.kp {H H' : Hp} {r nl : Addr} {xs : List Str} (I : LineIn H r nl xs) (k : Kp [r] H H') (R : RowAt H' r) : LineIn H' r nl xs := ⟨R, k.at1 I.hnl I.n1, I.l0, I.l1, I.n1, I.sh⟩
set_option linter.all false in private theorem LineIn.say {H : Hp} {r nl lf : Addr} {xs : List Str} {dp k : Int} (I : LineIn H r nl xs) (h : H lf = none) (hd : 1 ≤ dp) : SayIn (upd H lf (.lst [.int k])) r nl lf dp xs k :=
  ⟨I.row.new h, hd, (Kp.new (S := []) h).at I.hnl, I.l0, I.l1, upd_same, I.n1, I.row.none h, ne_of_none I.hnl h⟩
set_option linter.all false in private theorem SayOut.kp1 {H H' : Hp} {r lf : Addr} {dp k : Int} {xs : List Str} {v : V} {s : Say} (O : SayOut (upd H lf (.lst [.int k])) H' r lf dp xs v s) (h : H lf = none) : Kp [r] H H' := fun a o e n => by
  have n1 : a ≠ r := by simpa using n
  have n2 : a ≠ lf := ne_of_none e h
  exact O.kp a o (by rw [upd_ne n2]; exact e) (by simp [n1, n2])
set_option linter.all false in private theorem SayOut.s6 {H H' : Hp} {r lf : Addr} {dp : Int} {xs : List Str} {v : V} {s : Say} (O : SayOut H H' r lf dp xs v s) (h : dp ≤ 6) (sh : ∀ x ∈ xs, nmOk x) : s.s6 :=
  ⟨⟨O.ok, fun x hx => sh x (O.nms x hx)⟩, by have := O.hdp; omega⟩
set_option linter.all false in private structure LineOut (H H' : Hp) (r : Addr) (v : V) (m : Stm) : Prop where
  stm : StmAt H' v m
  wf : m.wf
  dp : m.dp = 0
  sz : m.sz = 1
  row : RowAt H' r
  kp : Kp [r] H H'
set_option linter.all false in private noncomputable def spLine : Sp := fun vs H Q _ => ∃ (r nl : Addr) (dp : Int) (xs : List Str), vs = [.ref r, .ref nl, .int dp] ∧ LineIn H r nl xs ∧ 1 ≤ dp ∧ dp ≤ 6 ∧ ∀ (v : V) (m : Stm) (H' : Hp), LineOut H H' r v m → Q v H'

set_option linter.all false in private structure BlkOut (H H' : Hp) (r lf p : Addr) (us : List V) (b : List Stm) (dp k k' : Int) : Prop where
  tup : H' p = some (.tup us)
  stms : StmsAt H' us b
  wf : wfL b
  dp : (dpL b : Int) ≤ dp
  sz : (szL b : Int) + k' ≤ k
  k0 : 0 ≤ k'
  row : RowAt H' r
  hlf : H' lf = some (.lst [.int k'])
  kp : Kp [r, lf] H H'
set_option linter.all false in private noncomputable def spBlock (d : Nat) : Sp := fun vs H Q _ => ∃ (r nl lf : Addr) (dp many k : Int) (xs : List Str), vs = [.ref r, .ref nl, .int dp, .ref lf, .int many] ∧ LineIn H r nl xs ∧ 0 ≤ dp ∧ dp < d ∧ H lf = some (.lst [.int k]) ∧ 0 ≤ k ∧ k ≤ 100 ∧ lf ≠ r ∧ lf ≠ nl ∧
  ∀ (p : Addr) (us : List V) (b : List Stm) (k' : Int) (H' : Hp), BlkOut H H' r lf p us b dp k k' → Q (.ref p) H'
set_option linter.all false in private theorem Stm.sz_pos (m : Stm) : 1 ≤ m.sz := by cases m <;> simp [Stm.sz]
set_option linter.all false in theorem _root_.L2.Kp.redoS {S : List Addr} {H H' : Hp} {p : Addr} {o : HO} (k : Kp S H H') (h : H p = none) : Kp S H (upd H' p o) := fun a ob e n => by
  rw [upd_ne (ne_of_none e h)]
  exact k a ob e n
set_option linter.all false in private theorem StmsAt.snoc {H : Hp} {vs : List V} {ms : List Stm} {v : V} {m : Stm} (h : StmsAt H vs ms) (e : StmAt H v m) : StmsAt H (vs ++ [v]) (ms ++ [m]) := by
  induction ms generalizing vs with
  | nil => cases h; exact .cons e .nil
  | cons m ms ih =>
    cases h with
    | cons a b => exact .cons a (ih b)
set_option linter.all false in private theorem TupKp.set {H : Hp} {l : Addr} {xs ys : List V} (e : H l = some (.lst xs)) : TupKp H (upd H l (.lst ys)) := fun a zs h => by
  rw [upd_ne (ne_of h e (by intro z; cases z))]
  exact h

set_option linter.all false in private theorem s_asc2 (a b c : Str) : a ++ b ++ c = a ++ (b ++ c) := by
  show (⟨a.cps ++ b.cps ++ c.cps⟩ : Str) = ⟨a.cps ++ (b.cps ++ c.cps)⟩
  rw [Array.append_assoc]
set_option linter.all false in private noncomputable def jb (ws : List Str) : Str := Txt.join " " ws
set_option linter.all false in private theorem jb_cs (ws : List Str) : (jb ws).cps.toList = jn 32 (ws.map fun p => p.cps.toList) := by
  unfold jb
  rw [nl_cps.2.1]
  exact join_jn 32 ws
set_option linter.all false in private theorem jb_one (w : Str) : jb [w] = w := str_ext (by rw [jb_cs]; rfl)
set_option linter.all false in private theorem jb_cons (w : Str) {ws : List Str} (h : ws ≠ []) : jb (w :: ws) = w ++ " " ++ jb ws := by
  cases ws with
  | nil => exact absurd rfl h
  | cons v r =>
    apply str_ext
    rw [cps_app, cps_app, jb_cs, jb_cs, nl_cps.2.1]
    simp [jn]
set_option linter.all false in private theorem jb_app : ∀ {us ws : List Str}, us ≠ [] → ws ≠ [] → jb (us ++ ws) = jb us ++ " " ++ jb ws
  | [], _, h, _ => absurd rfl h
  | [u], ws, _, h => by rw [List.singleton_append, jb_cons u h, jb_one]
  | u :: v :: r, ws, _, h => by
    rw [List.cons_append, jb_cons u (by simp), jb_app (us := v :: r) (by simp) h, jb_cons u (ws := v :: r) (by simp)]
    simp only [s_asc2]
set_option linter.all false in private noncomputable def sw : Say → List Str
  | .num n => [Str.ofString (toString n)]
  | .non => ["none"]
  | .name x => [x]
  | .arg => ["arg"]
  | .now => ["now"]
  | .ans s => "answer" :: sw s
  | .neg s => "not" :: sw s
  | .two g a b => "(" :: (sw a ++ g.s :: (sw b ++ [(")" : Str)]))
set_option linter.all false in private theorem sw_ne : ∀ s : Say, sw s ≠ []
  | .num _ | .non | .name _ | .arg | .now | .ans _ | .neg _ | .two _ _ _ => by simp [sw]
set_option linter.all false in private theorem par_eq : ("( " : Str) = ("(" : Str) ++ " " ∧ (" )" : Str) = (" " : Str) ++ ")" := by decide +kernel
set_option linter.all false in private theorem wd_jb (s : Say) : wd s = jb (sw s) := by
  induction s with
  | ans s ih => rw [sw, wd, jb_cons _ (sw_ne s), ih]
  | neg s ih => rw [sw, wd, jb_cons _ (sw_ne s), ih]
  | two g a b i1 i2 =>
    rw [sw, wd, jb_cons _ (by simp), jb_app (sw_ne a) (by simp), jb_cons _ (by simp), jb_app (sw_ne b) (by simp), jb_one, i1, i2, par_eq.1, par_eq.2]
    simp only [s_asc2]
  | _ => simp only [sw, wd, jb_one]
set_option linter.all false in private noncomputable def Stm.ws : Stm → List Str
  | .set x s => x :: "=" :: sw s
  | .order x y s => x :: "=" :: "order" :: y :: sw s
  | .timer x s => x :: "=" :: "timer" :: sw s
  | .child x y s => x :: "=" :: "child" :: y :: sw s
  | .send s k r => "send" :: (sw s ++ k :: sw r)
  | .drop s => "drop" :: sw s
  | .wait x ss => x :: "=" :: "wait" :: (ss.map sw).flatten
  | .hear x k => [x, "=", "hear", k]
  | .fin s => "end" :: sw s
  | .whl s _ => "while" :: sw s
  | .iff s _ _ => "if" :: sw s
set_option linter.all false in private theorem eqm : (" " : Str) ++ "=" ++ " " = " = " ∧ ("send" : Str) ++ " " = "send " := by decide +kernel
set_option linter.all false in private theorem eq_mid2 (x : Str) : x ++ " = " = x ++ " " ++ "=" ++ " " := by rw [← eqm.1]; simp only [s_asc2]
set_option linter.all false in private theorem glue_jb (t : Str) : ∀ l : List (List Str), (∀ w ∈ l, w ≠ []) → glue t (l.map jb) = if l.flatten = [] then t else t ++ " " ++ jb l.flatten := by
  intro l
  induction l generalizing t with
  | nil => intro _; simp [glue]
  | cons w l ih =>
    intro h
    have hw := h w (by simp)
    show glue (t ++ " " ++ jb w) (l.map jb) = _
    rw [ih _ fun z hz => h z (List.mem_cons_of_mem _ hz)]
    have h1 : (w :: l).flatten ≠ [] := by simp [hw]
    rw [if_neg h1]
    by_cases h2 : l.flatten = []
    · rw [if_pos h2, List.flatten_cons, h2, List.append_nil]
    · rw [if_neg h2, List.flatten_cons, jb_app hw h2]
      simp only [s_asc2]
set_option linter.all false in private theorem Stm.hd_jb (m : Stm) : m.hd = jb m.ws := by
  cases m with
  | set x s => simp only [Stm.hd, Stm.ws, jb_cons _ (sw_ne s), jb_cons x (ws := "=" :: sw s) (by simp), wd_jb, eq_mid2, s_asc2]
  | order x y s => simp only [Stm.hd, Stm.ws, glue, List.foldl_cons, List.foldl_nil, jb_cons _ (sw_ne s), jb_cons _ (ws := _ :: _) (by simp), wd_jb, eq_mid2, s_asc2]
  | child x y s => simp only [Stm.hd, Stm.ws, glue, List.foldl_cons, List.foldl_nil, jb_cons _ (sw_ne s), jb_cons _ (ws := _ :: _) (by simp), wd_jb, eq_mid2, s_asc2]
  | timer x s => simp only [Stm.hd, Stm.ws, glue, List.foldl_cons, List.foldl_nil, jb_cons _ (sw_ne s), jb_cons _ (ws := _ :: _) (by simp), wd_jb, eq_mid2, s_asc2]
  | send s k r => simp only [Stm.hd, Stm.ws, jb_cons _ (ws := sw s ++ k :: sw r) (by simp), jb_app (sw_ne s) (ws := k :: sw r) (by simp), jb_cons k (sw_ne r), wd_jb, ← eqm.2, s_asc2]
  | drop s => simp only [Stm.hd, Stm.ws, jb_cons _ (sw_ne s), wd_jb]
  | fin s => simp only [Stm.hd, Stm.ws, jb_cons _ (sw_ne s), wd_jb]
  | whl s b => simp only [Stm.hd, Stm.ws, jb_cons _ (sw_ne s), wd_jb]
  | iff s b o => simp only [Stm.hd, Stm.ws, jb_cons _ (sw_ne s), wd_jb]
  | hear x k => simp only [Stm.hd, Stm.ws, glue, List.foldl_cons, List.foldl_nil, jb_cons _ (ws := _ :: _) (by simp), jb_one, eq_mid2, s_asc2]
  | wait x ss =>
    have e : ss.map wd = (ss.map sw).map jb := by rw [List.map_map]; exact List.map_congr_left fun s _ => wd_jb s
    simp only [Stm.hd, Stm.ws]
    rw [e, glue_jb _ _ fun w hw => by obtain ⟨s, _, rfl⟩ := List.mem_map.mp hw; exact sw_ne s]
    split
    · next h => rw [h]; simp only [jb_cons _ (ws := _ :: _) (by simp), jb_one, eq_mid2, s_asc2]
    · next h => simp only [jb_cons _ (ws := _ :: _) (by simp), jb_cons _ h, eq_mid2, s_asc2]
set_option linter.all false in private noncomputable def Fr (w : Str) : Prop := 32 ∉ w.cps.toList ∧ 10 ∉ w.cps.toList
set_option linter.all false in private theorem Fr.nm {x : Str} (h : nmOk x) : Fr x := by
  unfold nmOk at h
  simp only [Bool.and_eq_true] at h
  have := List.all_eq_true.mp h.2.2.1
  refine ⟨fun z => ?_, fun z => ?_⟩ <;> (have := this _ z; simp at this)
set_option linter.all false in private theorem Fr.int (n : Int) : Fr (Str.ofString (toString n)) := ⟨PyProof.Rows.int_text_free' 32 (by decide) n, PyProof.Rows.int_text_free' 10 (by decide) n⟩
set_option linter.all false in private theorem fr_words : Fr "none" ∧ Fr "arg" ∧ Fr "now" ∧ Fr "answer" ∧ Fr "not" ∧ Fr "(" ∧ Fr ")" ∧ Fr "=" ∧ Fr "order" ∧ Fr "timer" ∧ Fr "child" ∧ Fr "send" ∧ Fr "drop" ∧ Fr "wait" ∧ Fr "hear" ∧ Fr "end" ∧ Fr "while" ∧ Fr "if" ∧ Fr "else" ∧ Fr "done" := by
  have f : ∀ {w : Str}, (w.cps.toList.all fun c => c != 32 && c != 10) = true → Fr w := fun h => by
    have := List.all_eq_true.mp h
    exact ⟨fun z => by have := this _ z; simp at this, fun z => by have := this _ z; simp at this⟩
  exact ⟨f (by decide +kernel), f (by decide +kernel), f (by decide +kernel), f (by decide +kernel), f (by decide +kernel), f (by decide +kernel), f (by decide +kernel), f (by decide +kernel), f (by decide +kernel), f (by decide +kernel), f (by decide +kernel), f (by decide +kernel), f (by decide +kernel), f (by decide +kernel), f (by decide +kernel), f (by decide +kernel), f (by decide +kernel), f (by decide +kernel), f (by decide +kernel), f (by decide +kernel)⟩
set_option linter.all false in private theorem fr_sg (g : Sg) : Fr g.s := by
  cases g <;> (unfold Fr; decide +kernel)
set_option linter.all false in private theorem fr_sw {s : Say} (hs : s.sh) : ∀ w ∈ sw s, Fr w := by
  induction s with
  | num n => intro w h; rw [show w = _ by simpa [sw] using h]; exact Fr.int n
  | non => intro w h; rw [show w = _ by simpa [sw] using h]; exact fr_words.1
  | name x => intro w h; rw [show w = x by simpa [sw] using h]; exact Fr.nm (hs.2 x (by simp [Say.nms]))
  | arg => intro w h; rw [show w = _ by simpa [sw] using h]; exact fr_words.2.1
  | now => intro w h; rw [show w = _ by simpa [sw] using h]; exact fr_words.2.2.1
  | ans s ih =>
    intro w h
    rcases List.mem_cons.mp h with rfl | h
    · exact fr_words.2.2.2.1
    · exact ih ⟨hs.1, hs.2⟩ w h
  | neg s ih =>
    intro w h
    rcases List.mem_cons.mp h with rfl | h
    · exact fr_words.2.2.2.2.1
    · exact ih ⟨hs.1, hs.2⟩ w h
  | two g a b i1 i2 =>
    intro w h
    simp only [sw, List.mem_cons, List.mem_append, List.not_mem_nil, or_false] at h
    rcases h with rfl | h | rfl | h | rfl
    · exact fr_words.2.2.2.2.2.1
    · exact i1 ⟨hs.1.1, fun x hx => hs.2 x (List.mem_append_left _ hx)⟩ w h
    · exact fr_sg g
    · exact i2 ⟨hs.1.2, fun x hx => hs.2 x (List.mem_append_right _ hx)⟩ w h
    · exact fr_words.2.2.2.2.2.2.1
set_option linter.all false in private theorem fr_ws {m : Stm} (h : m.hok) : ∀ w ∈ m.ws, Fr w := by
  obtain ⟨_, _, _, _, _, _, _, feq, ford, ftim, fchi, fsend, fdrop, fwait, fhear, fend, fwhl, fif, _, _⟩ := fr_words
  intro w hw
  cases m with
  | set x s =>
    simp only [Stm.ws, List.mem_cons] at hw
    rcases hw with rfl | rfl | hw
    · exact Fr.nm h.1
    · exact feq
    · exact fr_sw h.2.1 w hw
  | order x y s =>
    simp only [Stm.ws, List.mem_cons] at hw
    rcases hw with rfl | rfl | rfl | rfl | hw
    · exact Fr.nm h.1
    · exact feq
    · exact ford
    · exact Fr.nm h.2.1
    · exact fr_sw h.2.2.1 w hw
  | child x y s =>
    simp only [Stm.ws, List.mem_cons] at hw
    rcases hw with rfl | rfl | rfl | rfl | hw
    · exact Fr.nm h.1
    · exact feq
    · exact fchi
    · exact Fr.nm h.2.1
    · exact fr_sw h.2.2.1 w hw
  | timer x s =>
    simp only [Stm.ws, List.mem_cons] at hw
    rcases hw with rfl | rfl | rfl | hw
    · exact Fr.nm h.1
    · exact feq
    · exact ftim
    · exact fr_sw h.2.1 w hw
  | send s k r =>
    simp only [Stm.ws, List.mem_cons, List.mem_append] at hw
    rcases hw with rfl | hw | rfl | hw
    · exact fsend
    · exact fr_sw h.1.1 w hw
    · exact Fr.nm h.2.1
    · exact fr_sw h.2.2.1 w hw
  | drop s =>
    rcases List.mem_cons.mp hw with rfl | hw
    · exact fdrop
    · exact fr_sw h.1 w hw
  | fin s =>
    rcases List.mem_cons.mp hw with rfl | hw
    · exact fend
    · exact fr_sw h.1 w hw
  | whl s b =>
    rcases List.mem_cons.mp hw with rfl | hw
    · exact fwhl
    · exact fr_sw h.1 w hw
  | iff s b o =>
    rcases List.mem_cons.mp hw with rfl | hw
    · exact fif
    · exact fr_sw h.1 w hw
  | hear x k =>
    simp only [Stm.ws, List.mem_cons, List.not_mem_nil, or_false] at hw
    rcases hw with rfl | rfl | rfl | rfl
    · exact Fr.nm h.1
    · exact feq
    · exact fhear
    · exact Fr.nm h.2
  | wait x ss =>
    simp only [Stm.ws, List.mem_cons] at hw
    rcases hw with rfl | rfl | rfl | hw
    · exact Fr.nm h.1
    · exact feq
    · exact fwait
    · obtain ⟨l, hl, hw⟩ := List.mem_flatten.mp hw
      obtain ⟨s, hs, rfl⟩ := List.mem_map.mp hl
      exact fr_sw (h.2.2 s hs).1 w hw
set_option linter.all false in private theorem ws_ne (m : Stm) : ∃ a b r, m.ws = a :: b :: r := by
  have sp : ∀ s : Say, ∃ b r, sw s = b :: r := fun s => by
    cases h : sw s with
    | nil => exact absurd h (sw_ne s)
    | cons b r => exact ⟨b, r, rfl⟩
  cases m with
  | drop s => obtain ⟨b, r, e⟩ := sp s; exact ⟨"drop", b, r, by rw [Stm.ws, e]⟩
  | fin s => obtain ⟨b, r, e⟩ := sp s; exact ⟨"end", b, r, by rw [Stm.ws, e]⟩
  | whl s b => obtain ⟨b, r, e⟩ := sp s; exact ⟨"while", b, r, by rw [Stm.ws, e]⟩
  | iff s b o => obtain ⟨b, r, e⟩ := sp s; exact ⟨"if", b, r, by rw [Stm.ws, e]⟩
  | send s k r => obtain ⟨b, t, e⟩ := sp s; exact ⟨"send", b, t ++ k :: sw r, by rw [Stm.ws, e]; rfl⟩
  | _ => exact ⟨_, _, _, rfl⟩
set_option linter.all false in private theorem hd_split {m : Stm} (h : m.hok) : Txt.split m.hd " " = m.ws := by
  rw [Stm.hd_jb, jb, nl_cps.2.1]
  obtain ⟨a, b, r, e⟩ := ws_ne m
  exact split_one (by rw [e]; simp) fun w hw => (fr_ws h w hw).1
set_option linter.all false in private theorem mem_jn {c k : Nat} : ∀ {l : List (List Nat)}, k ∈ jn c l → k = c ∨ ∃ w ∈ l, k ∈ w
  | [], h => by simp [jn] at h
  | [w], h => .inr ⟨w, by simp, h⟩
  | w :: v :: r, h => by
    rcases List.mem_append.mp (show k ∈ w ++ c :: jn c (v :: r) from h) with h | h
    · exact .inr ⟨w, by simp, h⟩
    · rcases List.mem_cons.mp h with h | h
      · exact .inl h
      · rcases mem_jn h with h | ⟨z, hz, h⟩
        · exact .inl h
        · exact .inr ⟨z, List.mem_cons_of_mem _ hz, h⟩
set_option linter.all false in private theorem hd_nl {m : Stm} (h : m.hok) : 10 ∉ m.hd.cps.toList := by
  rw [Stm.hd_jb, jb_cs]
  intro z
  rcases mem_jn z with z | ⟨w, hw, z⟩
  · cases z
  · obtain ⟨p, hp, rfl⟩ := List.mem_map.mp hw
    exact (fr_ws h p hp).2 z
set_option linter.all false in private theorem hd_blank (m : Stm) : 32 ∈ m.hd.cps.toList := by
  rw [Stm.hd_jb, jb_cs]
  obtain ⟨a, b, r, e⟩ := ws_ne m
  rw [e]
  simp [jn]
set_option linter.all false in private theorem hd_not {m : Stm} {x : String} (h : 32 ∉ (Str.ofString x).cps.toList) : m.hd ≠ Str.ofString x := fun e => h (e ▸ hd_blank m)
set_option linter.all false in private theorem hd_open (m : Stm) : inV (.str m.hd) [.non, .str "else", .str "done"] = false := by
  have h1 := hd_not (m := m) (x := "else") fr_words.2.2.2.2.2.2.2.2.2.2.2.2.2.2.2.2.2.2.1.1
  have h2 := hd_not (m := m) (x := "done") fr_words.2.2.2.2.2.2.2.2.2.2.2.2.2.2.2.2.2.2.2.1
  simp only [inV, List.any_cons, List.any_nil, eqV_str, eqV_ns, Bool.or_false, Bool.false_or]
  rw [Bool.or_eq_false_iff]
  exact ⟨beq_eq_false_iff_ne.mpr h1.symm, beq_eq_false_iff_ne.mpr h2.symm⟩
set_option linter.all false in mutual
private theorem Stm.rows_nl : ∀ {m : Stm}, m.wf → ∀ r ∈ m.rows, 10 ∉ r.cps.toList
  | .whl s b, h, r, hr => by
    simp only [Stm.rows, List.mem_append, List.mem_cons, List.not_mem_nil, or_false] at hr
    rcases hr with (rfl | hr) | rfl
    · exact hd_nl (m := .whl s b) h.1
    · exact rowsL_nl h.2 r hr
    · exact fr_words.2.2.2.2.2.2.2.2.2.2.2.2.2.2.2.2.2.2.2.2
  | .iff s b o, h, r, hr => by
    simp only [Stm.rows, List.mem_append, List.mem_cons, List.not_mem_nil, or_false] at hr
    rcases hr with ((rfl | hr) | hr) | rfl
    · exact hd_nl (m := .iff s b o) h.1
    · exact rowsL_nl h.2.1 r hr
    · split at hr
      · cases hr
      · rcases List.mem_cons.mp hr with rfl | hr
        · exact fr_words.2.2.2.2.2.2.2.2.2.2.2.2.2.2.2.2.2.2.1.2
        · exact rowsL_nl h.2.2 r hr
    · exact fr_words.2.2.2.2.2.2.2.2.2.2.2.2.2.2.2.2.2.2.2.2
  | .set x s, h, r, hr => by rw [show r = _ by simpa [Stm.rows] using hr]; exact hd_nl (Stm.wf_hok h)
  | .order x y s, h, r, hr => by rw [show r = _ by simpa [Stm.rows] using hr]; exact hd_nl (Stm.wf_hok h)
  | .timer x s, h, r, hr => by rw [show r = _ by simpa [Stm.rows] using hr]; exact hd_nl (Stm.wf_hok h)
  | .child x y s, h, r, hr => by rw [show r = _ by simpa [Stm.rows] using hr]; exact hd_nl (Stm.wf_hok h)
  | .send s k u, h, r, hr => by rw [show r = _ by simpa [Stm.rows] using hr]; exact hd_nl (Stm.wf_hok h)
  | .drop s, h, r, hr => by rw [show r = _ by simpa [Stm.rows] using hr]; exact hd_nl (Stm.wf_hok h)
  | .wait x ss, h, r, hr => by rw [show r = _ by simpa [Stm.rows] using hr]; exact hd_nl (Stm.wf_hok h)
  | .hear x k, h, r, hr => by rw [show r = _ by simpa [Stm.rows] using hr]; exact hd_nl (Stm.wf_hok h)
  | .fin s, h, r, hr => by rw [show r = _ by simpa [Stm.rows] using hr]; exact hd_nl (Stm.wf_hok h)
private theorem rowsL_nl : ∀ {b : List Stm}, wfL b → ∀ r ∈ rowsL b, 10 ∉ r.cps.toList
  | [], _, r, hr => by simp [rowsL] at hr
  | m :: ms, h, r, hr => by
    simp only [rowsL, List.mem_append] at hr
    rcases hr with hr | hr
    · exact Stm.rows_nl h.1 r hr
    · exact rowsL_nl h.2 r hr
end
set_option linter.all false in private theorem text_split {b : List Stm} (h : wfL b) : Txt.split (textOf b) "\n" = rowsL b ++ [("" : Str)] := lines_split0 (rowsL_nl h)

set_option linter.all false in private noncomputable def nmB (x : Str) : Bool := decide (1 ≤ x.length) && (decide (x.length ≤ 6) && (x.cps.toList.all (fun c => decide (97 ≤ c) && decide (c ≤ 122)) && !inV (.str x) ownW))
set_option linter.all false in private theorem nmOk_B {x : Str} : nmOk x ↔ nmB x = true := Iff.rfl
set_option linter.all false in private theorem nm_in {x : Str} (h : nmOk x) {l : List V} (hl : ∀ v ∈ l, v ∈ ownW) : inV (.str x) l = false := by
  unfold nmOk at h
  simp only [Bool.and_eq_true, Bool.not_eq_true'] at h
  have h1 := h.2.2.2
  rw [Bool.eq_false_iff] at h1 ⊢
  intro z
  apply h1
  obtain ⟨v, hv, e⟩ := List.any_eq_true.mp z
  exact List.any_eq_true.mpr ⟨v, hl v hv, e⟩
set_option linter.all false in private theorem nm_ne {x : Str} (h : nmOk x) {y : String} (hy : (.str (Str.ofString y) : V) ∈ ownW) : (x = Str.ofString y) = False := by
  have := nm_in h (l := [.str (Str.ofString y)]) (by simpa using hy)
  refine eq_false fun e => ?_
  subst e
  simp [inV, eqV_str, eqV_ns] at this
set_option linter.all false in private theorem nm_ch {x : Str} (h : nmOk x) : x.cps.toList ≠ [] ∧ ∀ c ∈ x.cps.toList, 97 ≤ c ∧ c ≤ 122 := by
  unfold nmOk at h
  simp only [Bool.and_eq_true, decide_eq_true_eq] at h
  refine ⟨fun z => ?_, fun c hc => ?_⟩
  · have : x.length = 0 := by show x.cps.size = 0; rw [← Array.length_toList, z]; rfl
    omega
  · have := List.all_eq_true.mp h.2.2.1 c hc
    simpa using this
set_option linter.all false in private theorem nm_par {x : Str} (h : nmOk x) : (x = "(") = False := eq_false fun e => by
  subst e
  have := (nm_ch h).2 40 (by decide +kernel)
  omega
set_option linter.all false in private theorem nm_num {x : Str} (h : nmOk x) (lo hi : Int) : numW x lo hi = false := by
  obtain ⟨h1, h2⟩ := nm_ch h
  unfold numW
  cases e : x.cps.toList with
  | nil => exact absurd e h1
  | cons c r =>
    have hc := h2 c (by rw [e]; simp)
    have ef : figL (c :: r) = c :: r := by
      unfold figL
      split
      · next z => simp only [List.cons.injEq] at z; omega
      · rfl
    have : ¬ (48 ≤ c ∧ c ≤ 57) := by omega
    have h3 : (decide (48 ≤ c) && decide (c ≤ 57)) = false := by
      rw [Bool.and_eq_false_iff]
      simp only [decide_eq_false_iff_not]
      omega
    simp only [ef, List.all_cons, h3, Bool.false_and, Bool.and_false]
set_option linter.all false in private theorem int_ne {n : Int} {x : String} (k : Nat) (hk : k ∈ (Str.ofString x).cps.toList) (h : k ≠ 45 ∧ (k < 48 ∨ 57 < k)) : (Str.ofString (toString n) = Str.ofString x) = False := eq_false fun e => PyProof.Rows.int_text_free' k h n (by rw [e]; exact hk)
set_option linter.all false in private theorem int_in3 (n : Int) : inV (.str (Str.ofString (toString n))) [.str "none", .str "arg", .str "now"] = false := by
  have h1 := int_ne (n := n) (x := "none") 110 (by decide +kernel) (by decide)
  have h2 := int_ne (n := n) (x := "arg") 97 (by decide +kernel) (by decide)
  have h3 := int_ne (n := n) (x := "now") 110 (by decide +kernel) (by decide)
  simp only [inV, List.any_cons, List.any_nil, eqV_str, eqV_ns, Bool.or_false, Bool.or_eq_false_iff, beq_eq_false_iff_ne]
  exact ⟨fun z => (h1 ▸ z.symm), fun z => (h2 ▸ z.symm), fun z => (h3 ▸ z.symm)⟩
set_option linter.all false in private theorem int_in2 (n : Int) : inV (.str (Str.ofString (toString n))) [.str "answer", .str "not"] = false := by
  have h1 := int_ne (n := n) (x := "answer") 110 (by decide +kernel) (by decide)
  have h2 := int_ne (n := n) (x := "not") 110 (by decide +kernel) (by decide)
  simp only [inV, List.any_cons, List.any_nil, eqV_str, eqV_ns, Bool.or_false, Bool.or_eq_false_iff, beq_eq_false_iff_ne]
  exact ⟨fun z => (h1 ▸ z.symm), fun z => (h2 ▸ z.symm)⟩
set_option linter.all false in private theorem int_par (n : Int) : (toString n = "(") = False := w_sinj (a := toString n) (b := "(") ▸ int_ne (n := n) (x := "(") 40 (by decide +kernel) (by decide)
set_option linter.all false in private theorem int_in5 (n : Int) : inV (.str (Str.ofString (toString n))) [.str "order", .str "child", .str "timer", .str "wait", .str "hear"] = false := by
  have h1 := int_ne (n := n) (x := "order") 114 (by decide +kernel) (by decide)
  have h2 := int_ne (n := n) (x := "child") 99 (by decide +kernel) (by decide)
  have h3 := int_ne (n := n) (x := "timer") 114 (by decide +kernel) (by decide)
  have h4 := int_ne (n := n) (x := "wait") 97 (by decide +kernel) (by decide)
  have h5 := int_ne (n := n) (x := "hear") 97 (by decide +kernel) (by decide)
  simp only [inV, List.any_cons, List.any_nil, eqV_str, eqV_ns, Bool.or_false, Bool.or_eq_false_iff, beq_eq_false_iff_ne]
  exact ⟨fun z => (h1 ▸ z.symm), fun z => (h2 ▸ z.symm), fun z => (h3 ▸ z.symm), fun z => (h4 ▸ z.symm), fun z => (h5 ▸ z.symm)⟩
set_option linter.all false in private theorem int_numW {n : Int} (h0 : -1000000000 ≤ n) (h1 : n ≤ 1000000000) : numW (Str.ofString (toString n)) (-1000000000) 1000000000 = true := by
  have hr := int_reads n (Nat.lt_of_le_of_lt (show n.natAbs ≤ 1000000000 by omega) (by decide))
  have hL : (Str.ofString (toString (if (1000000000 : Int) > - -1000000000 then (1000000000 : Int) else - -1000000000))).length = 10 := by decide +kernel
  have hd : (List.all · fun c => decide (48 ≤ c) && decide (c ≤ 57)) = (List.all · fun c => decide (48 ≤ c) && decide (c ≤ 57)) := rfl
  have all : ∀ m : Nat, (digs m).all (fun c => decide (48 ≤ c) && decide (c ≤ 57)) = true := fun m => List.all_eq_true.mpr fun c hc => by have := digs_all m c hc; simpa using this
  have zero : ("0" : Str).cps.toList = [48] := by decide +kernel
  unfold numW
  rw [hr, hL]
  cases n with
  | ofNat m =>
    have e : (Str.ofString (toString (Int.ofNat m))).cps.toList = digs m := int_nat m
    have hm : m < 10 ^ 10 := by have : (Int.ofNat m) = (m : Int) := rfl; omega
    have l10 : (digs m).length ≤ 10 := (digs_len (by decide)).mpr hm
    have l1 : 1 ≤ (digs m).length := by
      cases hz : digs m with
      | nil => exact absurd hz (digs_ne m)
      | cons _ _ => simp
    have ef : figL (digs m) = digs m := by
      unfold figL
      split
      · next z => have := digs_all m 45 (by rw [z]; simp); omega
      · rfl
    have z0 : (decide ((digs m)[0]? = some 48) && !decide (Str.ofString (toString (Int.ofNat m)) = "0")) = false := by
      rw [Bool.and_eq_false_iff]
      by_cases hz : (digs m)[0]? = some 48
      · right
        have : ∃ cs, digs m = 48 :: cs := by
          cases hq : digs m with
          | nil => rw [hq] at hz; cases hz
          | cons a cs => rw [hq] at hz; simp only [List.getElem?_cons_zero, Option.some.injEq] at hz; exact ⟨cs, by rw [hz]⟩
        obtain ⟨cs, hc⟩ := this
        have m0 := digs_head hc
        subst m0
        decide +kernel
      · left
        simpa using hz
    simp only [e, ef, l1, l10, all, z0, decide_true, Bool.true_and, Bool.not_false, Bool.and_true, Bool.and_eq_true, decide_eq_true_eq]
    exact ⟨h0, h1⟩
  | negSucc m =>
    have e := int_neg m
    have hm : m + 1 < 10 ^ 10 := by have : Int.negSucc m = -((m : Int) + 1) := by omega
                                    omega
    have l10 : (digs (m + 1)).length ≤ 10 := (digs_len (by decide)).mpr hm
    have l1 : 1 ≤ (digs (m + 1)).length := by
      cases hz : digs (m + 1) with
      | nil => exact absurd hz (digs_ne _)
      | cons _ _ => simp
    have ef : figL (45 :: digs (m + 1)) = digs (m + 1) := rfl
    have z0 : (decide ((digs (m + 1))[0]? = some 48) && !decide (Str.ofString (toString (Int.negSucc m)) = "0")) = false := by
      rw [Bool.and_eq_false_iff]
      left
      simp only [decide_eq_false_iff_not]
      intro hz
      have : ∃ cs, digs (m + 1) = 48 :: cs := by
        cases hq : digs (m + 1) with
        | nil => rw [hq] at hz; cases hz
        | cons a cs => rw [hq] at hz; simp only [List.getElem?_cons_zero, Option.some.injEq] at hz; exact ⟨cs, by rw [hz]⟩
      obtain ⟨cs, hc⟩ := this
      have := digs_head hc
      omega
    simp only [e, ef, l1, l10, all, z0, decide_true, Bool.true_and, Bool.not_false, Bool.and_true, Bool.and_eq_true, decide_eq_true_eq]
    exact ⟨h0, h1⟩
set_option linter.all false in private noncomputable def spTW : Sp := fun vs H Q _ => on1 vs fun x => onRef x fun a => onLst (H a) fun xs => onO xs[0]? fun v => Q v (upd H a (.lst xs.tail))
set_option linter.all false in private theorem q_tw {a : Addr} {H : Hp} {Q : VK} {E : XK} : spTW [.ref a] H Q E = onLst (H a) fun xs => onO xs[0]? fun v => Q v (upd H a (.lst xs.tail)) := rfl
set_option linter.all false in private theorem ite_two {α : Type} (z1 z2 : α) {c : Prop} {inst : Decidable c} {A1 A2 B : Prop} {R : α → Prop} (h1 : c → A1 ∧ A2) (h2 : ¬ c → B) (hR : ∀ z, z = (@ite α c inst z1 z2) → R z) : @ite Prop c inst (A1 ∧ A2 ∧ R z1) (B ∧ R z2) := by
  by_cases h : c
  · rw [if_pos h]; exact ⟨(h1 h).1, (h1 h).2, hR z1 (if_pos h).symm⟩
  · rw [if_neg h]; exact ⟨h2 h, hR z2 (if_neg h).symm⟩
set_option linter.all false in private theorem ite_four {α : Type} (z1 z2 : α) {c : Prop} {inst : Decidable c} {A1 A2 A3 A4 : Prop} {R : α → Prop} (h1 : c → A1 ∧ A2 ∧ A3 ∧ A4) (hR : ∀ z, z = (@ite α c inst z1 z2) → R z) : @ite Prop c inst (A1 ∧ A2 ∧ A3 ∧ A4 ∧ R z1) (R z2) := by
  by_cases h : c
  · rw [if_pos h]; exact ⟨(h1 h).1, (h1 h).2.1, (h1 h).2.2.1, (h1 h).2.2.2, hR z1 (if_pos h).symm⟩
  · rw [if_neg h]; exact hR z2 (if_neg h).symm
set_option linter.all false in private noncomputable def spMore : Sp := fun vs H Q _ => ∃ a : Addr, vs = [.ref a] ∧ H a = some (.lst []) ∧ Q .non H
set_option linter.all false in private noncomputable def spLet : Sp := fun vs H Q _ => ∃ c : Nat, vs = [.str ⟨#[c]⟩] ∧ Q (.bl (decide (97 ≤ c) && decide (c ≤ 122))) H
set_option linter.all false in private noncomputable def spFig : Sp := fun vs H Q _ => ∃ c : Nat, vs = [.str ⟨#[c]⟩] ∧ Q (.bl (decide (48 ≤ c) && decide (c ≤ 57))) H
set_option linter.all false in private theorem q_let {c : Nat} {H : Hp} {Q : VK} {E : XK} : spLet [.str ⟨#[c]⟩] H Q E = Q (.bl (decide (97 ≤ c) && decide (c ≤ 122))) H := propext ⟨fun ⟨_, e, h⟩ => by cases e; exact h, fun h => ⟨_, rfl, h⟩⟩
set_option linter.all false in private theorem q_fig {c : Nat} {H : Hp} {Q : VK} {E : XK} : spFig [.str ⟨#[c]⟩] H Q E = Q (.bl (decide (48 ≤ c) && decide (c ≤ 57))) H := propext ⟨fun ⟨_, e, h⟩ => by cases e; exact h, fun h => ⟨_, rfl, h⟩⟩
set_option linter.all false in private noncomputable def spIsName : Sp := fun vs H Q _ => ∃ x : Str, vs = [.str x] ∧ x.length ≤ 1000000 ∧ ∀ H', Kp [] H H' → Q (.bl (nmB x)) H'
set_option linter.all false in private theorem q_isname {x : Str} {H : Hp} {Q : VK} {E : XK} : spIsName [.str x] H Q E = (x.length ≤ 1000000 ∧ ∀ H', Kp [] H H' → Q (.bl (nmB x)) H') := propext ⟨fun ⟨_, e, h⟩ => by cases e; exact h, fun h => ⟨_, rfl, h⟩⟩
set_option linter.all false in private noncomputable def spIsNum : Sp := fun vs H Q _ => ∃ (x : Str) (lo hi : Int), vs = [.str x, .int lo, .int hi] ∧ x.length ≤ 1000000 ∧ (-1000000000 ≤ lo ∧ lo ≤ 0 ∧ 0 ≤ hi ∧ hi ≤ 1000000000000) ∧ ∀ H', Kp [] H H' → Q (.bl (numW x lo hi)) H'
set_option linter.all false in private theorem q_isnum {x : Str} {lo hi : Int} {H : Hp} {Q : VK} {E : XK} : spIsNum [.str x, .int lo, .int hi] H Q E = (x.length ≤ 1000000 ∧ (-1000000000 ≤ lo ∧ lo ≤ 0 ∧ 0 ≤ hi ∧ hi ≤ 1000000000000) ∧ ∀ H', Kp [] H H' → Q (.bl (numW x lo hi)) H') :=
  propext ⟨fun ⟨_, _, _, e, h⟩ => by cases e; exact h, fun h => ⟨_, _, _, rfl, h⟩⟩
set_option linter.all false in private theorem mlog {n : Int} (h0 : 0 ≤ n) (h1 : n ≤ 1000000000000) : n.natAbs.log2 < 1920 := by
  have h : n.natAbs < 2 ^ 1920 := Nat.lt_of_le_of_lt (show n.natAbs ≤ 1000000000000 by omega) (Nat.lt_of_lt_of_le (show 1000000000000 < 2 ^ 40 by decide) (Nat.pow_le_pow_right (by decide) (by decide)))
  by_cases z : n.natAbs = 0
  · rw [z]
    decide
  · exact (Nat.log2_lt z).mpr h
set_option linter.all false in private theorem mlen {n : Int} (h0 : 0 ≤ n) (h1 : n ≤ 1000000000000) : (Str.ofString (toString n)).length ≤ 13 := by
  obtain ⟨m, rfl⟩ : ∃ m : Nat, n = (m : Int) := ⟨n.toNat, by omega⟩
  show (Str.ofString (toString (m : Int))).cps.size ≤ 13
  rw [← Array.length_toList, int_nat]
  exact (digs_len (by decide)).mpr (by omega)
set_option linter.all false in private theorem figL_len (l : List Nat) : l.length ≤ (figL l).length + 1 := by
  unfold figL
  split <;> simp
set_option linter.all false in private theorem num_some {x : Str} (h : ∀ c ∈ figL x.cps.toList, 48 ≤ c ∧ c ≤ 57) (hn : figL x.cps.toList ≠ []) (hl : (figL x.cps.toList).length ≤ 100) : ∃ n, intText? x = some n := by
  have hx : x.length = x.cps.toList.length := by show x.cps.size = _; rw [Array.length_toList]
  have hl2 := figL_len x.cps.toList
  cases e : x.cps.toList with
  | nil => rw [e] at hn; exact absurd rfl hn
  | cons c r =>
    by_cases hc : c = 45
    · subst hc
      rw [e] at h hn
      exact ⟨_, intText_neg e h hn (by omega)⟩
    · have ef : figL (c :: r) = c :: r := by
        unfold figL
        split
        · next z => simp only [List.cons.injEq] at z; exact absurd z.1 hc
        · rfl
      rw [e, ef] at h hn
      exact ⟨_, intText_digits (by rw [e]; exact h) (by rw [e]; exact hn) (by omega)⟩
set_option linter.all false in private theorem lt_one (a b : Nat) : (decide (([a] : List Nat) < [b])) = decide (a < b) := by
  rw [Bool.eq_iff_iff, decide_eq_true_eq, decide_eq_true_eq]
  constructor
  · intro h
    cases h with
    | rel h => exact h
    | cons h => cases h
  · exact fun h => .rel h
set_option linter.all false in private theorem own17 : ownW.all flatV = true := by decide
set_option linter.all false in private theorem inS5 {x a b c d e : String} : inV (.str (Str.ofString x)) [.str (Str.ofString a), .str (Str.ofString b), .str (Str.ofString c), .str (Str.ofString d), .str (Str.ofString e)] = (decide (a = x) || (decide (b = x) || (decide (c = x) || (decide (d = x) || decide (e = x))))) := by
  simp only [inV, eqV_str, eqV_ns, List.any_cons, List.any_nil, Bool.or_false, s_beq]
set_option linter.all false in private theorem Stm.oc (m : Stm) : (∃ (w y z : Str) (s : Say), m.ws = y :: "=" :: w :: z :: sw s ∧ (m.hok → nmOk z ∧ s.sh ∧ s.depth ≤ 6) ∧ (∀ (H : Hp) (a : Addr) (v : V), H a = some (.tup [.str w, .str y, .str z, v]) → SayAt H v s → StmAt H (.ref a) m) ∧ inV (.str w) [.str "order", .str "child", .str "timer", .str "wait", .str "hear"] = true ∧ ((w = ("timer" : Str)) = False) ∧ ((w = ("wait" : Str)) = False) ∧ ((w = ("hear" : Str)) = False)) ∨ (∀ y z s, m ≠ .order y z s ∧ m ≠ .child y z s) := by
  cases m with
  | order y z s => exact .inl ⟨_, y, z, s, rfl, fun h => ⟨h.2.1, h.2.2.1, h.2.2.2⟩, fun _ _ _ e h => .order e h, by rw [inS5]; decide, by simp only [w_sinj, String.reduceEq], by simp only [w_sinj, String.reduceEq], by simp only [w_sinj, String.reduceEq]⟩
  | child y z s => exact .inl ⟨_, y, z, s, rfl, fun h => ⟨h.2.1, h.2.2.1, h.2.2.2⟩, fun _ _ _ e h => .child e h, by rw [inS5]; decide, by simp only [w_sinj, String.reduceEq], by simp only [w_sinj, String.reduceEq], by simp only [w_sinj, String.reduceEq]⟩
  | _ => exact .inr fun _ _ _ => ⟨nofun, nofun⟩
set_option linter.all false in private theorem inS3 {x a b c : String} : inV (.str (Str.ofString x)) [.str (Str.ofString a), .str (Str.ofString b), .str (Str.ofString c)] = (decide (a = x) || (decide (b = x) || decide (c = x))) := by
  simp only [inV, eqV_str, eqV_ns, List.any_cons, List.any_nil, Bool.or_false, s_beq]
set_option linter.all false in private theorem flat3 {a b c : Str} : ([.str a, .str b, .str c] : List V).all flatV = true := rfl
set_option linter.all false in private theorem flat5 {a b c d e : Str} : ([.str a, .str b, .str c, .str d, .str e] : List V).all flatV = true := rfl
set_option linter.all false in private theorem TupKp.w {wl : Addr} {H H' : Hp} {xs : List V} (k : Kp [wl] H H') (e : H wl = some (.lst xs)) : TupKp H H' := fun a ys h => k a _ h (by
  simp only [List.mem_cons, List.not_mem_nil, or_false]
  exact ne_of h e (by intro z; cases z))
set_option linter.all false in private noncomputable def spTS (d : Nat) : Sp := fun vs H Q _ => ∃ (wl : Addr) (dp : Int) (s : Say) (rest : List V), vs = [.ref wl, .int dp] ∧ H wl = some (.lst ((sw s).map V.str ++ rest)) ∧ s.sh ∧ dp + s.depth ≤ 7 ∧ s.depth ≤ d ∧
  ∀ (v : V) (H' : Hp), SayAt H' v s → H' wl = some (.lst rest) → Kp [wl] H H' → Q v H'
set_option linter.all false in private noncomputable def spTJ (d : Nat) : Sp := fun vs H Q _ => ∃ (wl : Addr) (dp : Int) (g : Sg) (a b : Say) (rest : List V), vs = [.ref wl, .int dp] ∧ H wl = some (.lst ((sw a).map V.str ++ .str g.s :: ((sw b).map V.str ++ .str ")" :: rest))) ∧ a.sh ∧ b.sh ∧ dp + a.depth ≤ 7 ∧ dp + b.depth ≤ 7 ∧ a.depth ≤ d ∧ b.depth ≤ d ∧
  ∀ (v : V) (H' : Hp), SayAt H' v (.two g a b) → H' wl = some (.lst rest) → Kp [wl] H H' → Q v H'
set_option linter.all false in private noncomputable def spTN : Sp := fun vs H Q _ => ∃ (wl : Addr) (x : Str) (rest : List V), vs = [.ref wl] ∧ H wl = some (.lst (.str x :: rest)) ∧ nmOk x ∧ ∀ H', H' wl = some (.lst rest) → Kp [wl] H H' → Q (.str x) H'
set_option linter.all false in private theorem nm_len {x : Str} (h : nmOk x) : x.length ≤ 1000000 := by have := h.len; omega
set_option linter.all false in private theorem Say.v3 (s : Say) : (∃ w : Str, sw s = [w] ∧ (∀ (H : Hp) (a : Addr), H a = some (.tup [.str w]) → SayAt H (.ref a) s) ∧ inV (.str w) [.str "none", .str "arg", .str "now"] = true) ∨ (s ≠ .non ∧ s ≠ .arg ∧ s ≠ .now) := by
  cases s with
  | non => exact .inl ⟨_, rfl, fun _ _ e => .non e, by rw [inS3]; decide⟩
  | arg => exact .inl ⟨_, rfl, fun _ _ e => .arg e, by rw [inS3]; decide⟩
  | now => exact .inl ⟨_, rfl, fun _ _ e => .now e, by rw [inS3]; decide⟩
  | _ => exact .inr ⟨nofun, nofun, nofun⟩
set_option linter.all false in private theorem Say.v2 (s : Say) : (∃ (w : Str) (s1 : Say), sw s = w :: sw s1 ∧ s.depth = s1.depth + 1 ∧ (s.sh → s1.sh) ∧ (∀ (H : Hp) (a : Addr) (v : V), H a = some (.tup [.str w, v]) → SayAt H v s1 → SayAt H (.ref a) s) ∧ inV (.str w) [.str "none", .str "arg", .str "now"] = false ∧ inV (.str w) [.str "answer", .str "not"] = true) ∨ (∀ s1, s ≠ .ans s1 ∧ s ≠ .neg s1) := by
  cases s with
  | ans s1 => exact .inl ⟨_, s1, rfl, rfl, fun h => ⟨h.1, h.2⟩, fun _ _ _ e h => .ans e h, by rw [inS3]; decide, by rw [inS2]; decide⟩
  | neg s1 => exact .inl ⟨_, s1, rfl, rfl, fun h => ⟨h.1, h.2⟩, fun _ _ _ e h => .neg e h, by rw [inS3]; decide, by rw [inS2]; decide⟩
  | _ => exact .inr fun _ => ⟨nofun, nofun⟩
set_option linter.all false in private theorem sg_in (g : Sg) : inV (.str g.s) [.str "+", .str "-", .str "*", .str "<", .str "="] = true := by cases g <;> decide +kernel
set_option linter.all false in theorem _root_.L2.Kp.set1 {a : Addr} {H : Hp} {o : HO} : Kp [a] H (upd H a o) := Kp.set (by simp)

set_option linter.all false in private noncomputable def Stm.isN : Stm → Bool
  | .set _ _ => true | .order _ _ _ => true | .timer _ _ => true | .child _ _ _ => true | .wait _ _ => true | .hear _ _ => true
  | .send _ _ _ => false | .drop _ => false | .fin _ => false | .whl _ _ => false | .iff _ _ _ => false
set_option linter.all false in private noncomputable def Stm.blk : Stm → Bool
  | .whl _ _ => true | .iff _ _ _ => true
  | .set _ _ => false | .order _ _ _ => false | .timer _ _ => false | .child _ _ _ => false | .wait _ _ => false | .hear _ _ => false | .send _ _ _ => false | .drop _ => false | .fin _ => false
set_option linter.all false in private noncomputable abbrev l5 : List V := [.str "order", .str "child", .str "timer", .str "wait", .str "hear"]
set_option linter.all false in private theorem sw_head5 {s : Say} (h : s.sh) : ∃ w r, sw s = w :: r ∧ inV (.str w) l5 = false := by
  cases s with
  | num n => exact ⟨_, _, rfl, int_in5 n⟩
  | name x => exact ⟨_, _, rfl, nm_in (h.2 x (by simp [Say.nms])) (by decide)⟩
  | _ => exact ⟨_, _, rfl, by decide +kernel⟩
set_option linter.all false in private noncomputable def spTWt : Sp := fun vs H Q _ => ∃ (wl : Addr) (ss : List Say), vs = [.ref wl] ∧ H wl = some (.lst ((ss.map sw).flatten.map V.str)) ∧ (1 ≤ ss.length ∧ ss.length ≤ 4) ∧ (∀ s ∈ ss, s.s6) ∧
  ∀ (p : Addr) (us : List V) (H' : Hp), H' p = some (.tup us) → SaysAt H' us ss → H' wl = some (.lst []) → Kp [wl] H H' → Q (.ref p) H'
set_option linter.all false in private noncomputable def spTG : Sp := fun vs H Q _ => ∃ (wl : Addr) (x : Str) (m : Stm) (ws : List Str), vs = [.str x, .ref wl] ∧ m.ws = x :: "=" :: ws ∧ m.isN = true ∧ m.hok ∧ H wl = some (.lst (ws.map V.str)) ∧
  ∀ (v : V) (H' : Hp), StmAt H' v m → H' wl = some (.lst []) → Kp [wl] H H' → Q v H'
set_option linter.all false in private noncomputable def spTP : Sp := fun vs H Q _ => ∃ (wl : Addr) (m : Stm), vs = [.ref wl] ∧ m.blk = false ∧ m.hok ∧ H wl = some (.lst (m.ws.map V.str)) ∧
  ∀ (v : V) (H' : Hp), StmAt H' v m → H' wl = some (.lst []) → Kp [wl] H H' → Q v H'
set_option linter.all false in private theorem SaysAt.snoc2 {H : Hp} {vs : List V} {ss : List Say} {v : V} {s : Say} (h : SaysAt H vs ss) (a : SayAt H v s) : SaysAt H (vs ++ [v]) (ss ++ [s]) := by
  induction h with
  | nil => exact .cons a .nil
  | cons b _ ih => exact .cons b ih
set_option linter.all false in private theorem SaysAt.ln {H : Hp} {vs : List V} {ss : List Say} (h : SaysAt H vs ss) : vs.length = ss.length := by
  induction h with
  | nil => rfl
  | cons _ _ ih => simp [ih]
set_option linter.all false in private theorem take_snocT {α : Type} {l : List α} {i : Nat} {y : α} (h : l[i]? = some y) : l.take (i + 1) = l.take i ++ [y] := by rw [List.take_add_one, h]; rfl

set_option linter.all false in private structure RdAt (C : Addr) (H : Hp) (rd dx ll : Addr) (rows : List Str) (i k : Nat) : Prop where
  ins : H rd = some (.ins C dx [("lines", .ref ll), ("lines_read", .int i), ("statements_read", .int k)])
  lin : H ll = some (.lst (rows.map V.str))
set_option linter.all false in private theorem RdAt.ne {C : Addr} {H : Hp} {rd dx ll : Addr} {rows : List Str} {i k : Nat} (R : RdAt C H rd dx ll rows i k) : ll ≠ rd := ne_of R.lin R.ins (by intro z; cases z)
set_option linter.all false in private theorem RdAt.kp {C : Addr} {H H' : Hp} {rd dx ll : Addr} {rows : List Str} {i k : Nat} (R : RdAt C H rd dx ll rows i k) (h : Kp [] H H') : RdAt C H' rd dx ll rows i k := ⟨h.at R.ins, h.at R.lin⟩
set_option linter.all false in private theorem RdAt.set {C : Addr} {H : Hp} {rd dx ll : Addr} {rows : List Str} {i k i' k' : Nat} (R : RdAt C H rd dx ll rows i k) : RdAt C (upd H rd (.ins C dx [("lines", .ref ll), ("lines_read", .int i'), ("statements_read", .int k')])) rd dx ll rows i' k' := ⟨upd_same, by rw [upd_ne R.ne]; exact R.lin⟩
set_option linter.all false in private theorem RdAt.w {C : Addr} {H H' : Hp} {rd dx ll wl : Addr} {rows : List Str} {i k : Nat} (R : RdAt C H rd dx ll rows i k) (h : Kp [wl] H H') (n1 : rd ≠ wl) (n2 : ll ≠ wl) : RdAt C H' rd dx ll rows i k := ⟨h.at1 R.ins n1, h.at1 R.lin n2⟩
set_option linter.all false in private theorem TupKp.rd {C : Addr} {H H' : Hp} {rd dx ll : Addr} {rows : List Str} {i k : Nat} (R : RdAt C H rd dx ll rows i k) (h : Kp [rd] H H') : TupKp H H' := fun a ys e => h a _ e (by
  simp only [List.mem_cons, List.not_mem_nil, or_false]
  exact ne_of e R.ins (by intro z; cases z))
set_option linter.all false in private noncomputable def ah (rows : List Str) (i : Nat) : V := match rows[i]? with
  | some r => .str r
  | none => .non
set_option linter.all false in private theorem ah_some {rows : List Str} {i : Nat} {r : Str} {l : List Str} (h : rows.drop i = r :: l) : ah rows i = .str r := by
  unfold ah
  have : rows[i]? = some r := by
    have e := congrArg (fun l => l[0]?) h
    simpa using e
  rw [this]
set_option linter.all false in private theorem ah_none {rows : List Str} {i : Nat} (h : rows.drop i = []) : ah rows i = .non := by
  unfold ah
  rw [List.getElem?_eq_none (by simpa using h)]
set_option linter.all false in private noncomputable def spAhead (C : Addr) : Sp := fun vs H Q _ => ∃ (rd dx ll : Addr) (rows : List Str) (i k : Nat), vs = [.ref rd] ∧ RdAt C H rd dx ll rows i k ∧ Q (ah rows i) H
set_option linter.all false in private noncomputable def spRdInit (C : Addr) : Sp := fun vs H Q _ => ∃ x dx ll : Addr, vs = [.ref x, .ref ll] ∧ H x = some (.ins C dx []) ∧ ∀ H', H' x = some (.ins C dx [("lines", .ref ll), ("lines_read", .int 0), ("statements_read", .int 0)]) → Kp [x] H H' → Q .non H'
set_option linter.all false in private noncomputable def stopR : List Str → Prop
  | [] => True
  | r :: _ => r = "else" ∨ r = "done"
set_option linter.all false in private noncomputable def spBk (C : Addr) (d : Nat) : Sp := fun vs H Q _ => ∃ (rd dx ll : Addr) (rows : List Str) (i k : Nat) (dp : Int) (b : List Stm) (rest : List Str), vs = [.ref rd, .int dp] ∧ RdAt C H rd dx ll rows i k ∧ rows.drop i = rowsL b ++ rest ∧ stopR rest ∧
  dp + dpL b ≤ 5 ∧ k + szL b ≤ 60 ∧ wfL b ∧ dpL b < d ∧ rows.length ≤ 100000 ∧ (∀ r ∈ rows, r.length ≤ 10000) ∧
  ∀ (p : Addr) (us : List V) (H' : Hp), H' p = some (.tup us) → StmsAt H' us b → RdAt C H' rd dx ll rows (i + (rowsL b).length) (k + szL b) → Kp [rd] H H' → Q (.ref p) H'
set_option linter.all false in private noncomputable def spStt (C : Addr) (d : Nat) : Sp := fun vs H Q _ => ∃ (rd dx ll : Addr) (rows : List Str) (i k : Nat) (dp : Int) (m : Stm) (rest : List Str), vs = [.ref rd, .int dp] ∧ RdAt C H rd dx ll rows i k ∧ rows.drop i = m.rows ++ rest ∧
  dp + m.dp ≤ 5 ∧ k + m.sz ≤ 60 ∧ m.wf ∧ m.dp < d ∧ rows.length ≤ 100000 ∧ (∀ r ∈ rows, r.length ≤ 10000) ∧
  ∀ (v : V) (H' : Hp), StmAt H' v m → RdAt C H' rd dx ll rows (i + m.rows.length) (k + m.sz) → Kp [rd] H H' → Q v H'
set_option linter.all false in private noncomputable def elsR (o : List Stm) : List Str := if o.isEmpty = true then [] else ("else" : Str) :: rowsL o
set_option linter.all false in private noncomputable def spSnd (C : Addr) (d : Nat) : Sp := fun vs H Q _ => ∃ (rd dx ll : Addr) (rows : List Str) (i k : Nat) (dp : Int) (o : List Stm) (rest : List Str), vs = [.ref rd, .int dp] ∧ RdAt C H rd dx ll rows i k ∧ rows.drop i = elsR o ++ ("done" : Str) :: rest ∧
  dp + dpL o ≤ 5 ∧ k + szL o ≤ 60 ∧ wfL o ∧ dpL o < d ∧ rows.length ≤ 100000 ∧ (∀ r ∈ rows, r.length ≤ 10000) ∧
  ∀ (p : Addr) (us : List V) (H' : Hp), H' p = some (.tup us) → StmsAt H' us o → RdAt C H' rd dx ll rows (i + (elsR o).length) (k + szL o) → Kp [rd] H H' → Q (.ref p) H'
set_option linter.all false in private noncomputable def spWB (C : Addr) (d : Nat) : Sp := fun vs H Q _ => ∃ (rd dx ll wl : Addr) (rows : List Str) (i k : Nat) (dp : Int) (m : Stm) (rest : List Str), vs = [.ref rd, .ref wl, .int dp] ∧ RdAt C H rd dx ll rows i k ∧ m.blk = true ∧ H wl = some (.lst (m.ws.map V.str)) ∧ wl ≠ ll ∧
  rows.drop i = m.rows.tail ++ rest ∧ dp + m.dp ≤ 5 ∧ k + m.sz ≤ 61 ∧ m.wf ∧ m.dp < d + 1 ∧ rows.length ≤ 100000 ∧ (∀ r ∈ rows, r.length ≤ 10000) ∧
  ∀ (v : V) (H' : Hp), StmAt H' v m → RdAt C H' rd dx ll rows (i + (m.rows.length - 1)) (k + (m.sz - 1)) → Kp [rd, wl] H H' → Q v H'
set_option linter.all false in private theorem drop_more {rows a r : List Str} {i : Nat} (h : rows.drop i = a ++ r) : rows.drop (i + a.length) = r := by
  rw [← List.drop_drop, h, List.drop_left]
set_option linter.all false in private theorem drop_one {rows r : List Str} {i : Nat} {x : Str} (h : rows.drop i = x :: r) : rows.drop (i + 1) = r := by
  rw [← List.drop_drop, h]
  rfl
set_option linter.all false in private theorem in_open {r : Str} (h : r = "else" ∨ r = "done") : inV (.str r) [.non, .str "else", .str "done"] = true := by rcases h with rfl | rfl <;> decide +kernel
set_option linter.all false in private theorem in_open0 : inV .non [.non, .str "else", .str "done"] = true := by decide
set_option linter.all false in private theorem flatO {a b : Str} : ([.non, .str a, .str b] : List V).all flatV = true := rfl
set_option linter.all false in private theorem ah_flat (rows : List Str) (i : Nat) : flatV (ah rows i) = true := by unfold ah; split <;> rfl
set_option linter.all false in private noncomputable def spRead : Sp := fun vs H Q _ => ∃ b : List Stm, vs = [.str (textOf b)] ∧ wfL b ∧ dpL b ≤ 5 ∧ szL b ≤ 60 ∧ ∀ (p : Addr) (us : List V) (H' : Hp), H' p = some (.tup us) → StmsAt H' us b → Kp [] H H' → Q (.ref p) H'
set_option linter.all false in private theorem join_len (g : Str) : ∀ ys : List Str, (Txt.join g ys).length ≤ (ys.map fun z => z.length).sum + ys.length * g.length := by
  have f : ∀ (l : List Str) (a : Array Nat), (List.foldl (fun acc (p : Str) => acc ++ g.cps ++ p.cps) a l).size = a.size + (l.map fun z => z.length).sum + l.length * g.length := by
    intro l
    induction l with
    | nil => intro a; simp
    | cons y l ih =>
      intro a
      rw [List.foldl_cons, ih]
      simp only [Array.size_append, List.map_cons, List.sum_cons, List.length_cons, Nat.succ_mul]
      have h1 : g.length = g.cps.size := rfl
      have h2 : y.length = y.cps.size := rfl
      omega
  intro ys
  cases ys with
  | nil => exact Nat.zero_le _
  | cons y l =>
    have h := f l y.cps
    show (List.foldl (fun acc (p : Str) => acc ++ g.cps ++ p.cps) y.cps l).size ≤ _
    rw [h]
    have h2 : y.length = y.cps.size := rfl
    simp only [List.map_cons, List.sum_cons, List.length_cons, Nat.succ_mul]
    omega
set_option linter.all false in private theorem text_len {b : List Stm} (h : wfL b) (hz : szL b ≤ 100) : (textOf b).length ≤ 3000000 := by
  have h1 := join_len "" ((rowsL b).map fun r : Str => r ++ "\n")
  have h2 := sum_small (B := 8001) (ys := (rowsL b).map fun r : Str => r ++ "\n") fun y hy => by
    obtain ⟨r, hr, rfl⟩ := List.mem_map.mp hy
    have := rowsL_small h r hr
    simp only [str_len, nl_len.1]
    omega
  have h3 := rowsL_len b
  rw [nl_len.2, Nat.mul_zero, Nat.add_zero] at h1
  rw [List.length_map] at h2
  unfold textOf
  omega
set_option linter.all false in private theorem text_end (b : List Stm) (h : ¬ textOf b = "") : Txt.endswith (textOf b) "\n" = true := by
  unfold textOf at h ⊢
  have hne : rowsL b ≠ [] := fun z => h (by rw [z]; rfl)
  obtain ⟨rs, r, hr⟩ : ∃ rs r, rowsL b = rs ++ [r] := ⟨(rowsL b).dropLast, (rowsL b).getLast hne, (List.dropLast_concat_getLast hne).symm⟩
  rw [hr]
  have e : (Txt.join "" ((rs ++ [r]).map fun r : Str => r ++ "\n")).cps.toList = ((rs.map fun r : Str => r ++ "\n").map fun p : Str => p.cps.toList).flatten ++ r.cps.toList ++ [10] := by
    rw [join_flat]
    simp only [List.map_append, List.map_cons, List.map_nil, List.flatten_append, List.flatten_cons, List.flatten_nil, List.append_nil, cps_app]
    rw [show ("\n" : Str).cps.toList = [10] by decide +kernel]
    simp
  generalize Txt.join "" ((rs ++ [r]).map fun r : Str => r ++ "\n") = x at *
  have hl : x.length = (((rs.map fun r : Str => r ++ "\n").map fun p : Str => p.cps.toList).flatten ++ r.cps.toList).length + 1 := by
    show x.cps.size = _
    rw [← Array.length_toList, e, List.length_append]
    rfl
  have h1 := (StrLaws.subAt_one x 10 (x.length - 1)).mpr (by
    rw [e, hl]
    simp)
  unfold Txt.endswith
  rw [nl_cps.1]
  have l1 : (⟨#[10]⟩ : Str).length = 1 := rfl
  rw [l1] at h1 ⊢
  rw [h1.2, Bool.and_true, decide_eq_true_eq]
  omega
set_option linter.all false in private theorem lenL : ∀ b : List Stm, b.length ≤ szL b
  | [] => by simp
  | m :: ms => by
    have h1 := m.sz_pos
    have h2 := lenL ms
    simp only [szL, List.length_cons]
    omega
set_option linter.all false in private theorem rows_cons (m : Stm) : ∃ r, m.rows = m.hd :: r := by cases m <;> exact ⟨_, rfl⟩

set_option linter.all false in private noncomputable def Uq (K : PySem.W.Frag) (H : Hp) (n : Nat) (P : V → Prop) : Prop := ∀ v u, P v → P u → EqA K H n v u true
set_option linter.all false in private inductive Ea : List V → List (V → Prop) → Prop
  | nil : Ea [] []
  | cons {v : V} {vs : List V} {P : V → Prop} {Ps : List (V → Prop)} : P v → Ea vs Ps → Ea (v :: vs) (P :: Ps)
set_option linter.all false in private theorem Ea.len {vs : List V} {Ps : List (V → Prop)} (h : Ea vs Ps) : vs.length = Ps.length := by
  induction h with
  | nil => rfl
  | cons _ _ ih => simp [ih]
set_option linter.all false in private noncomputable def TupOf (H : Hp) (Ps : List (V → Prop)) (v : V) : Prop := ∃ a vs, v = .ref a ∧ H a = some (.tup vs) ∧ Ea vs Ps
set_option linter.all false in private theorem Ea.eq {K : PySem.W.Frag} {H : Hp} {n : Nat} {vs : List V} {Ps : List (V → Prop)} (h : Ea vs Ps) : ∀ {us : List V}, Ea us Ps → (∀ P ∈ Ps, Uq K H n P) → ∀ (j : Nat) (x y : V), vs[j]? = some x → us[j]? = some y → EqA K H n x y true := by
  induction h with
  | nil => intro us _ _ j x y e; simp at e
  | cons p _ ih =>
    intro us g d j x y e1 e2
    cases g with
    | cons q r =>
      cases j with
      | zero => cases e1; cases e2; exact d _ (by simp) _ _ p q
      | succ j => exact ih r (fun P hP => d P (List.mem_cons_of_mem _ hP)) j x y (by simpa using e1) (by simpa using e2)
set_option linter.all false in private theorem uq_tup {K : PySem.W.Frag} {H : Hp} {n : Nat} {Ps : List (V → Prop)} (h : ∀ P ∈ Ps, Uq K H n P) : Uq K H (n + 1) (TupOf H Ps) := by
  rintro _ _ ⟨a, vs, rfl, ha, x⟩ ⟨b, us, rfl, hb, y⟩
  exact .pair ha hb (by rw [x.len, y.len]) (x.eq y h)
set_option linter.all false in private theorem uq_str {K : PySem.W.Frag} {H : Hp} {n : Nat} {x : Str} : Uq K H n (fun v => v = .str x) := by rintro _ _ rfl rfl; exact str_self _
set_option linter.all false in private theorem uq_int {K : PySem.W.Frag} {H : Hp} {n : Nat} {x : Int} : Uq K H n (fun v => v = .int x) := by rintro _ _ rfl rfl; exact int_self _
set_option linter.all false in private theorem fc {K : PySem.W.Frag} {H : Hp} {n : Nat} {P : V → Prop} {Ps : List (V → Prop)} (a : Uq K H n P) (b : ∀ Q ∈ Ps, Uq K H n Q) : ∀ Q ∈ P :: Ps, Uq K H n Q := List.forall_mem_cons.mpr ⟨a, b⟩
set_option linter.all false in private theorem fn {K : PySem.W.Frag} {H : Hp} {n : Nat} : ∀ Q ∈ ([] : List (V → Prop)), Uq K H n Q := fun _ h => nomatch h
set_option linter.all false in private noncomputable def Say.parts (H : Hp) : Say → List (V → Prop)
  | .num i => [fun v => v = .str "number", fun v => v = .int i]
  | .non => [fun v => v = .str "none"]
  | .name x => [fun v => v = .str "name", fun v => v = .str x]
  | .arg => [fun v => v = .str "arg"]
  | .now => [fun v => v = .str "now"]
  | .ans s => [fun v => v = .str "answer", fun v => SayAt H v s]
  | .neg s => [fun v => v = .str "not", fun v => SayAt H v s]
  | .two g s r => [fun v => v = .str g.s, fun v => SayAt H v s, fun v => SayAt H v r]
set_option linter.all false in private theorem SayAt.un {H : Hp} {v : V} {s : Say} (h : SayAt H v s) : TupOf H (s.parts H) v := by
  cases h with
  | num e => exact ⟨_, _, rfl, e, .cons rfl (.cons rfl .nil)⟩
  | non e => exact ⟨_, _, rfl, e, .cons rfl .nil⟩
  | name e => exact ⟨_, _, rfl, e, .cons rfl (.cons rfl .nil)⟩
  | arg e => exact ⟨_, _, rfl, e, .cons rfl .nil⟩
  | now e => exact ⟨_, _, rfl, e, .cons rfl .nil⟩
  | ans e s => exact ⟨_, _, rfl, e, .cons rfl (.cons s .nil)⟩
  | neg e s => exact ⟨_, _, rfl, e, .cons rfl (.cons s .nil)⟩
  | two e s r => exact ⟨_, _, rfl, e, .cons rfl (.cons s (.cons r .nil))⟩
set_option linter.all false in private theorem SayAt.uq {K : PySem.W.Frag} {H : Hp} (s : Say) : ∀ n, s.depth ≤ n → Uq K H n (fun v => SayAt H v s) := by
  induction s with
  | ans s ih =>
    intro n hn
    simp only [Say.depth] at hn
    obtain ⟨n, rfl⟩ : ∃ m, n = m + 1 := ⟨n - 1, by omega⟩
    exact fun v u h g => uq_tup (fc uq_str (fc (ih n (by omega)) fn)) v u h.un g.un
  | neg s ih =>
    intro n hn
    simp only [Say.depth] at hn
    obtain ⟨n, rfl⟩ : ∃ m, n = m + 1 := ⟨n - 1, by omega⟩
    exact fun v u h g => uq_tup (fc uq_str (fc (ih n (by omega)) fn)) v u h.un g.un
  | two g s r i1 i2 =>
    intro n hn
    simp only [Say.depth] at hn
    obtain ⟨n, rfl⟩ : ∃ m, n = m + 1 := ⟨n - 1, by omega⟩
    exact fun v u h g => uq_tup (fc uq_str (fc (i1 n (by omega)) (fc (i2 n (by omega)) fn))) v u h.un g.un
  | num i =>
    intro n hn
    simp only [Say.depth] at hn
    obtain ⟨n, rfl⟩ : ∃ m, n = m + 1 := ⟨n - 1, by omega⟩
    exact fun v u h g => uq_tup (fc uq_str (fc uq_int fn)) v u h.un g.un
  | name x =>
    intro n hn
    simp only [Say.depth] at hn
    obtain ⟨n, rfl⟩ : ∃ m, n = m + 1 := ⟨n - 1, by omega⟩
    exact fun v u h g => uq_tup (fc uq_str (fc uq_str fn)) v u h.un g.un
  | _ =>
    intro n hn
    simp only [Say.depth] at hn
    obtain ⟨n, rfl⟩ : ∃ m, n = m + 1 := ⟨n - 1, by omega⟩
    exact fun v u h g => uq_tup (fc uq_str fn) v u h.un g.un
set_option linter.all false in private theorem SaysAt.ea {H : Hp} {vs : List V} {ss : List Say} (h : SaysAt H vs ss) : Ea vs (ss.map fun s v => SayAt H v s) := by
  induction h with
  | nil => exact .nil
  | cons a _ ih => exact .cons a ih
set_option linter.all false in private theorem StmsAt.ea {H : Hp} : ∀ {vs : List V} {b : List Stm}, StmsAt H vs b → Ea vs (b.map fun m v => StmAt H v m)
  | _, [], h => by cases h; exact .nil
  | _, m :: ms, h => by
    cases h with
    | cons a r => exact .cons a (StmsAt.ea r)
set_option linter.all false in private noncomputable def Stm.parts (H : Hp) : Stm → List (V → Prop)
  | .set x s => [fun v => v = .str "set", fun v => v = .str x, fun v => SayAt H v s]
  | .order x y s => [fun v => v = .str "order", fun v => v = .str x, fun v => v = .str y, fun v => SayAt H v s]
  | .timer x s => [fun v => v = .str "timer", fun v => v = .str x, fun v => SayAt H v s]
  | .child x y s => [fun v => v = .str "child", fun v => v = .str x, fun v => v = .str y, fun v => SayAt H v s]
  | .send s k r => [fun v => v = .str "send", fun v => SayAt H v s, fun v => v = .str k, fun v => SayAt H v r]
  | .drop s => [fun v => v = .str "drop", fun v => SayAt H v s]
  | .wait x ss => [fun v => v = .str "wait", fun v => v = .str x, TupOf H (ss.map fun s v => SayAt H v s)]
  | .hear x k => [fun v => v = .str "hear", fun v => v = .str x, fun v => v = .str k]
  | .fin s => [fun v => v = .str "end", fun v => SayAt H v s]
  | .whl s b => [fun v => v = .str "while", fun v => SayAt H v s, TupOf H (b.map fun m v => StmAt H v m)]
  | .iff s b o => [fun v => v = .str "if", fun v => SayAt H v s, TupOf H (b.map fun m v => StmAt H v m), TupOf H (o.map fun m v => StmAt H v m)]
set_option linter.all false in private theorem StmAt.un {H : Hp} {v : V} {m : Stm} (h : StmAt H v m) : TupOf H (m.parts H) v := by
  cases h with
  | set e s => exact ⟨_, _, rfl, e, .cons rfl (.cons rfl (.cons s .nil))⟩
  | order e s => exact ⟨_, _, rfl, e, .cons rfl (.cons rfl (.cons rfl (.cons s .nil)))⟩
  | timer e s => exact ⟨_, _, rfl, e, .cons rfl (.cons rfl (.cons s .nil))⟩
  | child e s => exact ⟨_, _, rfl, e, .cons rfl (.cons rfl (.cons rfl (.cons s .nil)))⟩
  | send e s r => exact ⟨_, _, rfl, e, .cons rfl (.cons s (.cons rfl (.cons r .nil)))⟩
  | drop e s => exact ⟨_, _, rfl, e, .cons rfl (.cons s .nil)⟩
  | wait e f s => exact ⟨_, _, rfl, e, .cons rfl (.cons rfl (.cons ⟨_, _, rfl, f, s.ea⟩ .nil))⟩
  | hear e => exact ⟨_, _, rfl, e, .cons rfl (.cons rfl (.cons rfl .nil))⟩
  | fin e s => exact ⟨_, _, rfl, e, .cons rfl (.cons s .nil)⟩
  | whl e s f b => exact ⟨_, _, rfl, e, .cons rfl (.cons s (.cons ⟨_, _, rfl, f, b.ea⟩ .nil))⟩
  | iff e s f b f2 b2 => exact ⟨_, _, rfl, e, .cons rfl (.cons s (.cons ⟨_, _, rfl, f, b.ea⟩ (.cons ⟨_, _, rfl, f2, b2.ea⟩ .nil)))⟩
set_option linter.all false in private theorem wfL_mem : ∀ {b : List Stm} {m : Stm}, wfL b → m ∈ b → m.wf
  | x :: b, m, h, hm => by
    rcases List.mem_cons.mp hm with rfl | hm
    · exact h.1
    · exact wfL_mem h.2 hm
set_option linter.all false in private theorem dpL_mem : ∀ {b : List Stm} {m : Stm}, m ∈ b → m.dp ≤ dpL b
  | x :: b, m, hm => by
    simp only [dpL]
    rcases List.mem_cons.mp hm with rfl | hm
    · omega
    · have := dpL_mem hm
      omega
set_option linter.all false in private theorem uq_stm {K : PySem.W.Frag} {H : Hp} : ∀ (n : Nat) (m : Stm), m.wf → 8 + 2 * m.dp ≤ n → Uq K H n (fun v => StmAt H v m) := by
  intro n
  induction n using Nat.strongRecOn with
  | ind n ih =>
    intro m w hn v u h g
    have h := h.un
    have g := g.un
    obtain ⟨k, rfl⟩ : ∃ k, n = k + 2 := ⟨n - 2, by omega⟩
    have bl : ∀ b : List Stm, wfL b → 8 + 2 * dpL b ≤ k → Uq K H (k + 1) (TupOf H (b.map fun m v => StmAt H v m)) := fun b wb hb => uq_tup (by
      intro P hP
      obtain ⟨m, hm, rfl⟩ := List.mem_map.mp hP
      exact ih k (by omega) m (wfL_mem wb hm) (by have := dpL_mem hm; omega))
    have sy : ∀ s : Say, s.s6 → Uq K H (k + 1) (fun v => SayAt H v s) := fun s hs => SayAt.uq s (k + 1) (by have := hs.2; omega)
    cases m with
    | set x s => exact uq_tup (fc uq_str (fc uq_str (fc (sy s w.2) fn))) v u h g
    | order x y s => exact uq_tup (fc uq_str (fc uq_str (fc uq_str (fc (sy s w.2.2) fn)))) v u h g
    | timer x s => exact uq_tup (fc uq_str (fc uq_str (fc (sy s w.2) fn))) v u h g
    | child x y s => exact uq_tup (fc uq_str (fc uq_str (fc uq_str (fc (sy s w.2.2) fn)))) v u h g
    | send s y r => exact uq_tup (fc uq_str (fc (sy s w.1) (fc uq_str (fc (sy r w.2.2) fn)))) v u h g
    | drop s => exact uq_tup (fc uq_str (fc (sy s w) fn)) v u h g
    | wait x ss =>
      refine uq_tup (fc uq_str (fc uq_str (fc (uq_tup ?_) fn))) v u h g
      intro P hP
      obtain ⟨s, hs, rfl⟩ := List.mem_map.mp hP
      exact SayAt.uq s k (by have := (w.2.2 s hs).2; omega)
    | hear x y => exact uq_tup (fc uq_str (fc uq_str (fc uq_str fn))) v u h g
    | fin s => exact uq_tup (fc uq_str (fc (sy s w) fn)) v u h g
    | whl s b =>
      simp only [Stm.dp] at hn
      exact uq_tup (fc uq_str (fc (sy s w.1) (fc (bl b w.2 (by omega)) fn))) v u h g
    | iff s b o =>
      simp only [Stm.dp] at hn
      exact uq_tup (fc uq_str (fc (sy s w.1) (fc (bl b w.2.1 (by omega)) (fc (bl o w.2.2 (by omega)) fn)))) v u h g
set_option linter.all false in private theorem progs_eq {K : PySem.W.Frag} {H : Hp} {p q : Addr} {us ws : List V} {b : List Stm} (e1 : H p = some (.tup us)) (e2 : H q = some (.tup ws)) (h1 : StmsAt H us b) (h2 : StmsAt H ws b) (w : wfL b) (d : dpL b ≤ 5) : RcA K H 20 p q true := by
  have l : us.length = ws.length := by rw [← h1.len, ← h2.len]
  have := RcA.tup (K := K) (H := H) (n := 19) (e := fun _ => true) (SqT.of e1) (SqT.of e2) (h1.ea.eq h2.ea fun P hP => by obtain ⟨m, hm, rfl⟩ := List.mem_map.mp hP; exact uq_stm 19 m (wfL_mem w hm) (by have := dpL_mem hm; omega))
  rwa [show ((List.range (min us.length ws.length)).all (fun _ => true) && us.length == ws.length) = true by rw [l]; simp [List.all_eq_true]] at this

set_option linter.all false in private theorem s_asc (a b c : Str) : a ++ b ++ c = a ++ (b ++ c) := by
  show (⟨a.cps ++ b.cps ++ c.cps⟩ : Str) = ⟨a.cps ++ (b.cps ++ c.cps)⟩
  rw [Array.append_assoc]
set_option linter.all false in private theorem blank_eq : (" " : Str) ++ "=" ++ " " = " = " := by decide +kernel
set_option linter.all false in private theorem send_eq : ("send" : Str) ++ " " = "send " := by decide +kernel
set_option linter.all false in private theorem eq_mid (x : Str) : x ++ " = " = x ++ " " ++ "=" ++ " " := by rw [← blank_eq]; simp only [s_asc]
set_option linter.all false in private theorem fold_cps (g : Str) : ∀ (l : List Str) (x : Str), List.foldl (fun acc (p : Str) => acc ++ g.cps ++ p.cps) x.cps l = (List.foldl (fun t y => t ++ g ++ y) x l).cps
  | [], x => rfl
  | y :: l, x => fold_cps g l (x ++ g ++ y)
set_option linter.all false in private theorem join_glue (x : Str) (l : List Str) : Txt.join " " (x :: l) = glue x l := by
  show (⟨List.foldl (fun acc (p : Str) => acc ++ (" " : Str).cps ++ p.cps) x.cps l⟩ : Str) = _
  rw [fold_cps]
  rfl
set_option linter.all false in private noncomputable def Stm.gv : Stm → List Str
  | .set _ s => [wd s]
  | .order _ y s => ["order", y, wd s]
  | .timer _ s => ["timer", wd s]
  | .child _ y s => ["child", y, wd s]
  | .wait _ ss => "wait" :: ss.map wd
  | .hear _ k => ["hear", k]
  | _ => []
set_option linter.all false in private noncomputable def Stm.isG : Stm → Bool
  | .set _ _ | .order _ _ _ | .timer _ _ | .child _ _ _ | .wait _ _ | .hear _ _ => true
  | _ => false
set_option linter.all false in private noncomputable def Stm.isB : Stm → Bool
  | .whl _ _ | .iff _ _ _ => true
  | _ => false
set_option linter.all false in private noncomputable def Stm.nm : Stm → Str
  | .set x _ | .order x _ _ | .timer x _ | .child x _ _ | .wait x _ | .hear x _ => x
  | _ => ""
set_option linter.all false in private theorem Stm.hd_gv {m : Stm} (h : m.isG = true) : m.hd = glue m.nm ("=" :: m.gv) := by
  cases m <;> simp only [Stm.isG, Bool.false_eq_true] at h <;> simp only [Stm.hd, Stm.gv, Stm.nm, glue, List.foldl_cons, List.foldl_nil, eq_mid]
set_option linter.all false in private theorem gv_len {m : Stm} (h : m.hok) : m.gv.length ≤ 5 ∧ ∀ y ∈ m.gv, y.length ≤ 1800 := by
  obtain ⟨lsend, leq, lord, ltim, lchi, lwait, lhear, ldrop, lend, lwhl, lif⟩ := hlens
  have dec : ∀ {n : Nat}, n ≤ 6 → n ≤ 1800 := fun h => by omega
  cases m with
  | set x s => exact ⟨by simp [Stm.gv], fun y hy => by rw [show y = _ by simpa [Stm.gv] using hy]; exact h.2.len⟩
  | order x z s =>
    refine ⟨by simp [Stm.gv], fun y hy => ?_⟩
    have := h.2.2.len
    have := h.2.1.len
    rcases (show y = "order" ∨ y = z ∨ y = wd s by simpa [Stm.gv] using hy) with rfl | rfl | rfl <;> omega
  | child x z s =>
    refine ⟨by simp [Stm.gv], fun y hy => ?_⟩
    have := h.2.2.len
    have := h.2.1.len
    rcases (show y = "child" ∨ y = z ∨ y = wd s by simpa [Stm.gv] using hy) with rfl | rfl | rfl <;> omega
  | timer x s =>
    refine ⟨by simp [Stm.gv], fun y hy => ?_⟩
    have := h.2.len
    rcases (show y = "timer" ∨ y = wd s by simpa [Stm.gv] using hy) with rfl | rfl <;> omega
  | hear x k =>
    refine ⟨by simp [Stm.gv], fun y hy => ?_⟩
    have := h.2.len
    rcases (show y = "hear" ∨ y = k by simpa [Stm.gv] using hy) with rfl | rfl <;> omega
  | wait x ss =>
    refine ⟨by have := h.2.1; simp [Stm.gv]; omega, fun y hy => ?_⟩
    rcases List.mem_cons.mp hy with rfl | hy
    · omega
    · obtain ⟨s, hs, rfl⟩ := List.mem_map.mp hy
      exact (h.2.2 s hs).len
  | _ => exact ⟨by simp [Stm.gv], fun y hy => by simp [Stm.gv] at hy⟩
set_option linter.all false in private noncomputable def spSHead : Sp := fun vs H Q _ => ∃ (v : V) (m : Stm), vs = [v] ∧ StmAt H v m ∧ m.hok ∧ m.isB = true ∧ ∀ H', Kp [] H H' → Q (.str m.hd) H'
set_option linter.all false in private noncomputable def spSPlain : Sp := fun vs H Q _ => ∃ (v : V) (m : Stm), vs = [v] ∧ StmAt H v m ∧ m.hok ∧ m.isB = false ∧ ∀ H', Kp [] H H' → Q (.str m.hd) H'
set_option linter.all false in private noncomputable def spGiven : Sp := fun vs H Q _ => ∃ (v : V) (m : Stm), vs = [v] ∧ StmAt H v m ∧ m.hok ∧ m.isG = true ∧ ∀ (l : Addr) (H' : Hp), H l = none → Kp [] H H' → H' l = some (.lst (m.gv.map V.str)) → Q (.ref l) H'
set_option linter.all false in private noncomputable def elsL (b : List Stm) : List Str := if b.isEmpty = true then [] else ("else" : Str) :: rowsL b
set_option linter.all false in private noncomputable def spEls (d : Nat) : Sp := fun vs H Q _ => ∃ (p : Addr) (us : List V) (b : List Stm), vs = [.ref p] ∧ H p = some (.tup us) ∧ StmsAt H us b ∧ wfL b ∧ dpL b < d ∧ szL b ≤ 1000 ∧
  ∀ (l : Addr) (H' : Hp), H l = none → Kp [] H H' → H' l = some (.lst ((elsL b).map V.str)) → Q (.ref l) H'
set_option linter.all false in private noncomputable def spStl (d : Nat) : Sp := fun vs H Q _ => ∃ (v : V) (m : Stm), vs = [v] ∧ StmAt H v m ∧ m.wf ∧ m.dp < d ∧ m.sz ≤ 1000 ∧
  ∀ (l : Addr) (H' : Hp), H l = none → Kp [] H H' → H' l = some (.lst (m.rows.map V.str)) → Q (.ref l) H'
set_option linter.all false in private theorem SaysAt.at {H : Hp} {vs : List V} {ss : List Say} (h : SaysAt H vs ss) : ∀ {i : Nat} {x : V}, vs[i]? = some x → ∃ y, ss[i]? = some y ∧ SayAt H x y := by
  induction h with
  | nil => intro i x e; simp at e
  | cons a _ ih =>
    intro i x e
    cases i with
    | zero => simp only [List.getElem?_cons_zero, Option.some.injEq] at e; subst e; exact ⟨_, rfl, a⟩
    | succ i => exact ih (by simpa using e)
set_option linter.all false in private theorem Sg.nn (g : Sg) : (g.s = ("number" : Str)) = False := by cases g <;> simp only [Sg.s, w_sinj, String.reduceEq]
set_option linter.all false in private theorem Sg.nm (g : Sg) : (g.s = ("name" : Str)) = False := by cases g <;> simp only [Sg.s, w_sinj, String.reduceEq]
set_option linter.all false in private theorem Sg.n3 (g : Sg) : inV (.str g.s) [.str "none", .str "arg", .str "now"] = false := by cases g <;> (simp only [Sg.s, inS3]; decide)
set_option linter.all false in private theorem Sg.n2 (g : Sg) : inV (.str g.s) [.str "answer", .str "not"] = false := by cases g <;> (simp only [Sg.s, inS2]; decide)
set_option linter.all false in private noncomputable def Say.is3 : Say → Bool
  | .non => true | .arg => true | .now => true | _ => false
set_option linter.all false in private noncomputable def Say.is2 : Say → Bool
  | .ans _ => true | .neg _ => true | _ => false
set_option linter.all false in private theorem SayAt.leaf3 {H : Hp} {v : V} {s : Say} (h : SayAt H v s) : s.is3 = false ∨ ∃ (a : Addr) (w : Str), v = .ref a ∧ H a = some (.tup [.str w]) ∧ ((w = ("number" : Str)) = False) ∧ ((w = ("name" : Str)) = False) ∧ inV (.str w) [.str "none", .str "arg", .str "now"] = true ∧ wd s = w := by
  cases h with
  | non e => exact .inr ⟨_, _, rfl, e, by simp only [w_sinj, String.reduceEq], by simp only [w_sinj, String.reduceEq], by rw [inS3]; decide, rfl⟩
  | arg e => exact .inr ⟨_, _, rfl, e, by simp only [w_sinj, String.reduceEq], by simp only [w_sinj, String.reduceEq], by rw [inS3]; decide, rfl⟩
  | now e => exact .inr ⟨_, _, rfl, e, by simp only [w_sinj, String.reduceEq], by simp only [w_sinj, String.reduceEq], by rw [inS3]; decide, rfl⟩
  | _ => exact .inl rfl
set_option linter.all false in private theorem SayAt.un2 {H : Hp} {v : V} {s : Say} (h : SayAt H v s) : s.is2 = false ∨ ∃ (a : Addr) (w : Str) (u : V) (s1 : Say), v = .ref a ∧ H a = some (.tup [.str w, u]) ∧ SayAt H u s1 ∧ ((w = ("number" : Str)) = False) ∧ ((w = ("name" : Str)) = False) ∧ inV (.str w) [.str "none", .str "arg", .str "now"] = false ∧ inV (.str w) [.str "answer", .str "not"] = true ∧ w.length ≤ 6 ∧ s.depth = s1.depth + 1 ∧ (s.sh → s1.sh) ∧ wd s = w ++ " " ++ wd s1 := by
  have l := lens
  cases h with
  | ans e h1 => exact .inr ⟨_, _, _, _, rfl, e, h1, by simp only [w_sinj, String.reduceEq], by simp only [w_sinj, String.reduceEq], by rw [inS3]; decide, by rw [inS2]; decide, by omega, rfl, fun h => ⟨h.1, h.2⟩, rfl⟩
  | neg e h1 => exact .inr ⟨_, _, _, _, rfl, e, h1, by simp only [w_sinj, String.reduceEq], by simp only [w_sinj, String.reduceEq], by rw [inS3]; decide, by rw [inS2]; decide, by omega, rfl, fun h => ⟨h.1, h.2⟩, rfl⟩
  | _ => exact .inl rfl
set_option linter.all false in private theorem e_st2 {a b : Str} : strsV [.str a, .str b] = some [a, b] := rfl
set_option linter.all false in private theorem e_st4 {a b c d : Str} : strsV [.str a, .str b, .str c, .str d] = some [a, b, c, d] := rfl
set_option linter.all false in private theorem sF {a b : String} (h : decide (a = b) = false) : (Str.ofString a = Str.ofString b) = False := by
  rw [w_sinj]
  exact eq_false (of_decide_eq_false h)
set_option linter.all false in private theorem StmAt.hdw {H : Hp} {v : V} {m : Stm} (h : StmAt H v m) : ∃ (a : Addr) (w : Str) (r : List V), v = .ref a ∧ H a = some (.tup (.str w :: r)) ∧ (m.isB = false → ((w = ("while" : Str)) = False) ∧ ((w = ("if" : Str)) = False) ∧ m.rows = [m.hd]) ∧
    (m.isG = true → ((w = ("send" : Str)) = False) ∧ ((w = ("drop" : Str)) = False) ∧ ((w = ("end" : Str)) = False) ∧ (∃ r', r = .str m.nm :: r') ∧ (m.hok → m.nm.length ≤ 20)) := by
  cases h with
  | whl => exact ⟨_, _, _, rfl, by assumption, nofun, nofun⟩
  | iff => exact ⟨_, _, _, rfl, by assumption, nofun, nofun⟩
  | send => exact ⟨_, _, _, rfl, by assumption, fun _ => ⟨sF rfl, sF rfl, rfl⟩, nofun⟩
  | drop => exact ⟨_, _, _, rfl, by assumption, fun _ => ⟨sF rfl, sF rfl, rfl⟩, nofun⟩
  | fin => exact ⟨_, _, _, rfl, by assumption, fun _ => ⟨sF rfl, sF rfl, rfl⟩, nofun⟩
  | _ => exact ⟨_, _, _, rfl, by assumption, fun _ => ⟨sF rfl, sF rfl, rfl⟩, fun _ => ⟨sF rfl, sF rfl, sF rfl, ⟨_, rfl⟩, fun h => h.1.len⟩⟩

set_option linter.all false in private theorem textOf_app (a b : List Stm) : textOf (a ++ b) = textOf a ++ textOf b := by
  unfold textOf
  rw [rowsL_app]
  apply str_ext
  rw [cps_app, join_flat, join_flat, join_flat]
  simp
set_option linter.all false in private theorem text_cons (r : Str) (rs : List Str) : Txt.join "" ((r :: rs).map fun r : Str => r ++ "\n") = r ++ "\n" ++ Txt.join "" (rs.map fun r : Str => r ++ "\n") := by
  apply str_ext
  rw [cps_app, join_flat, join_flat, List.map_cons, List.map_cons, List.flatten_cons]
set_option linter.all false in private theorem text_app (rs ss : List Str) : Txt.join "" ((rs ++ ss).map fun r : Str => r ++ "\n") = Txt.join "" (rs.map fun r : Str => r ++ "\n") ++ Txt.join "" (ss.map fun r : Str => r ++ "\n") := by
  apply str_ext
  rw [cps_app, join_flat, join_flat, join_flat]
  simp
set_option linter.all false in private theorem text_one (r : Str) : Txt.join "" ([r].map fun r : Str => r ++ "\n") = r ++ "\n" := by
  apply str_ext
  rw [join_flat]
  simp
set_option linter.all false in private theorem lits : ("while" : Str) ++ " " ++ "now" ++ "\n" = "while now\n" ∧ ("done" : Str) ++ "\n" = "done\n" ∧ ("if" : Str) ++ " " ++ "arg" ++ "\n" = "if arg\n" ∧ ("else" : Str) ++ "\n" = "else\n" := by decide +kernel
set_option linter.all false in private theorem text_whl (a b : List Stm) : textOf (.whl .now a :: b) = "while now\n" ++ textOf a ++ "done\n" ++ textOf b := by
  show Txt.join "" ((((("while" : Str) ++ " " ++ wd .now) :: rowsL a ++ [("done" : Str)]) ++ rowsL b).map fun r : Str => r ++ "\n") = _
  rw [text_app, text_app, text_cons, text_one, ← lits.1, ← lits.2.1]
  rfl
set_option linter.all false in private theorem text_if0 (a : List Stm) : textOf [.iff .arg a []] = "if arg\n" ++ textOf a ++ "done\n" := by
  show Txt.join "" (((((("if" : Str) ++ " " ++ wd .arg) :: rowsL a) ++ []) ++ [("done" : Str)] ++ []).map fun r : Str => r ++ "\n") = _
  rw [List.append_nil, List.append_nil, text_app, text_cons, text_one, ← lits.2.2.1, ← lits.2.1]
  rfl
set_option linter.all false in private theorem text_if1 (a : List Stm) (m : Stm) (b : List Stm) : textOf [.iff .arg a (m :: b)] = "if arg\n" ++ textOf a ++ "else\n" ++ textOf (m :: b) ++ "done\n" := by
  show Txt.join "" (((((("if" : Str) ++ " " ++ wd .arg) :: rowsL a) ++ (("else" : Str) :: rowsL (m :: b))) ++ [("done" : Str)] ++ []).map fun r : Str => r ++ "\n") = _
  rw [List.append_nil, text_app, text_app, text_cons, text_cons, text_one, ← lits.2.2.1, ← lits.2.2.2, ← lits.2.1]
  simp only [s_asc2]
  rfl
set_option linter.all false in private theorem wfL_take {b : List Stm} (h : wfL b) (n : Nat) : wfL (b.take n) ∧ wfL (b.drop n) := wfL_app.mp (by rw [List.take_append_drop]; exact h)
set_option linter.all false in private theorem sz_take (b : List Stm) (n : Nat) : szL (b.take n) + szL (b.drop n) = szL b := by rw [← szL_app, List.take_append_drop]
set_option linter.all false in private theorem dp_take (b : List Stm) (n : Nat) : dpL (b.take n) ≤ dpL b ∧ dpL (b.drop n) ≤ dpL b := by
  have := dpL_app (b.take n) (b.drop n)
  rw [List.take_append_drop] at this
  omega
set_option linter.all false in private theorem StmsAt.app {H : Hp} {vs us : List V} {a b : List Stm} (h : StmsAt H vs a) (y : StmsAt H us b) : StmsAt H (vs ++ us) (a ++ b) := by
  induction a generalizing vs with
  | nil => cases h; exact y
  | cons m ms ih =>
    cases h with
    | cons h r => exact .cons h (ih r)
set_option linter.all false in private theorem StmsAt.take {H : Hp} {vs : List V} {a : List Stm} (n : Nat) (h : StmsAt H vs a) : StmsAt H (vs.take n) (a.take n) := by
  induction n generalizing vs a with
  | zero => exact .nil
  | succ n ih =>
    cases h with
    | nil => exact .nil
    | cons h r => exact .cons h (ih r)
set_option linter.all false in private theorem StmsAt.drop {H : Hp} {vs : List V} {a : List Stm} (n : Nat) (h : StmsAt H vs a) : StmsAt H (vs.drop n) (a.drop n) := by
  induction n generalizing vs a with
  | zero => exact h
  | succ n ih =>
    cases h with
    | nil => exact .nil
    | cons h r => exact ih r
set_option linter.all false in private theorem tcat_is {H : Hp} {Q : VK} {a b : Addr} {xs ys : List V} (h1 : H a = some (.tup xs)) (h2 : H b = some (.tup ys)) (l : xs.length + ys.length ≤ 16777216) (q : ∀ p H', H' p = some (.tup (xs ++ ys)) → Kp [] H H' → Q (.ref p) H') : cTcat (.ref a) (.ref b) H Q := by
  rw [e_tcat, h1, e_onTup, h2, e_onTup]
  refine ⟨l, ?_⟩
  split
  · next e => subst e; exact q b H (by rw [h2]; rfl) Kp.refl
  · split
    · next e => subst e; exact q a H (by rw [h1]; simp) Kp.refl
    · exact fun p hp => q p _ upd_same (Kp.new hp)
set_option linter.all false in private theorem klens : ("while now\n" : Str).length = 10 ∧ ("done\n" : Str).length = 5 ∧ ("if arg\n" : Str).length = 7 ∧ ("else\n" : Str).length = 5 := by decide +kernel
set_option linter.all false in private noncomputable def Stm.kd : Stm → Str
  | .set _ _ => "set" | .order _ _ _ => "order" | .timer _ _ => "timer" | .child _ _ _ => "child" | .send _ _ _ => "send" | .drop _ => "drop" | .wait _ _ => "wait" | .hear _ _ => "hear" | .fin _ => "end" | .whl _ _ => "while" | .iff _ _ _ => "if"
set_option linter.all false in private theorem StmAt.kd {H : Hp} {v : V} {m : Stm} (h : StmAt H v m) : ∃ a xs, v = .ref a ∧ H a = some (.tup (.str m.kd :: xs)) := by cases h <;> exact ⟨_, _, rfl, by assumption⟩
set_option linter.all false in private theorem kd_blk (m : Stm) : inV (.str m.kd) [.str "if", .str "while"] = m.blk := by
  cases m
  case set => exact (show inV (.str ("set" : Str)) [.str "if", .str "while"] = false by decide +kernel)
  case order => exact (show inV (.str ("order" : Str)) [.str "if", .str "while"] = false by decide +kernel)
  case timer => exact (show inV (.str ("timer" : Str)) [.str "if", .str "while"] = false by decide +kernel)
  case child => exact (show inV (.str ("child" : Str)) [.str "if", .str "while"] = false by decide +kernel)
  case send => exact (show inV (.str ("send" : Str)) [.str "if", .str "while"] = false by decide +kernel)
  case drop => exact (show inV (.str ("drop" : Str)) [.str "if", .str "while"] = false by decide +kernel)
  case wait => exact (show inV (.str ("wait" : Str)) [.str "if", .str "while"] = false by decide +kernel)
  case hear => exact (show inV (.str ("hear" : Str)) [.str "if", .str "while"] = false by decide +kernel)
  case fin => exact (show inV (.str ("end" : Str)) [.str "if", .str "while"] = false by decide +kernel)
  case whl => exact (show inV (.str ("while" : Str)) [.str "if", .str "while"] = true by decide +kernel)
  case iff => exact (show inV (.str ("if" : Str)) [.str "if", .str "while"] = true by decide +kernel)
set_option linter.all false in private theorem cut_to {xs : List V} {k : Nat} (h : k < xs.length) : cutV xs none (some (k : Int)) = xs.take k ∧ ¬ (HT.sIx xs.length 0 none = 0 ∧ HT.sIx xs.length xs.length (some (k : Int)) = xs.length) := by
  have h1 := HT.sIx_nat xs.length xs.length k
  refine ⟨?_, fun z => ?_⟩
  · unfold cutV
    rw [h1, HT.sIx_none]
    simp only [Nat.sub_zero, List.drop_zero]
    rw [Nat.min_eq_left (by omega)]
  · rw [h1] at z
    omega
set_option linter.all false in private theorem cut_from {xs : List V} {k : Nat} (h : k < xs.length) : cutV xs (some ((k : Int) + 1)) none = xs.drop (k + 1) ∧ ¬ (HT.sIx xs.length 0 (some ((k : Int) + 1)) = 0 ∧ HT.sIx xs.length xs.length none = xs.length) := by
  have h1 := HT.sIx_nat xs.length 0 (k + 1)
  rw [show ((k + 1 : Nat) : Int) = (k : Int) + 1 by omega] at h1
  refine ⟨?_, fun z => ?_⟩
  · unfold cutV
    rw [h1, HT.sIx_none, Nat.min_eq_left (by omega)]
    apply List.take_of_length_le
    rw [List.length_drop]
    omega
  · rw [h1] at z
    omega
set_option linter.all false in private noncomputable def spProg11 : Sp := fun vs H Q _ => ∃ r : Addr, vs = [.ref r] ∧ RowAt H r ∧ ∀ (p : Addr) (us : List V) (b : List Stm) (H' : Hp), H' p = some (.tup us) → StmsAt H' us b → wfL b → dpL b ≤ 4 → szL b ≤ 16 → RowAt H' r → Kp [r] H H' → Q (.ref p) H'
local macro_rules | `(tactic| wp_walk) => `(tactic| wp_walk using true_and)
local macro_rules | `(tactic| wp_walk using $ts,*) => do
  let us ← ts.getElems.mapM fun t => `(Lean.Parser.Tactic.simpLemma| $t:term)
  let vs ← ("↓q_take ↓q_worth ↓q_own ↓q_name ↓q_tw ↓q_isname ↓q_isnum ↓q_let ↓q_fig ↓e_seq ↓e_asg ↓e_name ↓e_ret ↓e_ifS ↓e_test ↓e_tB ↓e_if ↓e_op ↓e_un ↓e_c ↓e_cons ↓e_nil ↓e_call ↓e_cb ↓e_lst ↓e_tup ↓e_drop ↓e_next ↓e_andV ↓e_and ↓e_or ↓e_not ↓e_chain ↓e_sl ↓e_part ↓e_nopart ↓e_gsub ↓e_app ↓e_onO ↓e_onB ↓e_onRef ↓e_onInt ↓e_onLst ↓e_onSeqL ↓e_onSeqT ↓e_ixR ↓e_ixS ↓e_addI ↓e_addS ↓e_addR ↓e_catL ↓e_slS ↓e_slR ↓e_cutL ↓e_lenS ↓e_lenR ↓e_set ↓e_in ↓e_at0 ↓e_at1 ↓e_at2 ↓e_at3 ↓e_cmul1 ↓e_cmul2 ↓e_cpow9 ↓e_cpow18 ↓e_ixN0 ↓e_ixN1 ↓e_intI ↓e_intB ↓e_is ↓e_isnot ↓e_max ↓e_isi_int_ref ↓e_isi_bool_ref ↓e_isi_str_str ↓e_isi_str_ref ↓e_isi_tuple_ref ↓e_chk ↓e_chn ↓e_ite1 ↓e_ite0 ↓e_on1 ↓e_forR1 ↓e_forL ↓e_forT ↓e_compR ↓e_compL ↓e_onStr ↓e_compS ↓e_true ↓e_cs0 ↓e_slLr ↓e_c0 ↓e_c1 ↓e_c2 ↓e_neE ↓e_onTup ↓e_cutT ↓e_bm ↓e_tyS ↓e_strI ↓e_strS ↓e_join ↓e_strsV ↓e_split ↓e_neTE ↓e_tupOf ↓e_fmt ↓e_j0 ↓e_j1 ↓e_joined ↓e_estr ↓e_lm ↓e_ext ↓e_pop0 ↓e_truth ↓e_truN ↓e_truB ↓e_truI ↓e_truRef ↓e_truL ↓e_truT ↓e_truD ↓e_never ↓e_compT ↓e_neA ↓e_boolsV ↓e_intT ↓e_starts ↓e_ends ↓e_leS ↓e_all ↓e_inK ↓e_onIns ↓e_fld ↓e_setF ↓e_augF ↓e_meth ↓e_make ↓e_lookup ↓e_lookup0 ↓e_putF ↓e_putF0 ↓w_v1 ↓w_v2 ↓w_v3 ↓w_v4 ↓w_v5 ↓w_v6 ↓w_v7 ↓w_v8 ↓w_v9 ↓w_v0s ↓w_rI0 ↓w_rU ↓w_eqI ↓w_eqS ↓w_neS ↓w_rI ↓upd_same ↓List.set_cons_zero ↓List.set_cons_succ ↓List.getElem?_cons_zero ↓List.getElem?_cons_succ L2.start m_cons m_nil List.cons_append List.nil_append List.append_nil List.replicate_succ List.replicate_zero List.length_cons List.length_nil Nat.reduceAdd Nat.reduceSub Nat.zero_add Nat.add_zero Nat.reduceLeDiff Nat.reducePow Nat.reduceLT true_and and_true false_and and_false forall_const ↓reduceIte w_sinj String.reduceEq Int.reduceToNat Int.reducePow Int.reduceNeg Int.reduceSub Int.reduceAdd Int.reduceMul Int.reduceLT Int.reduceLE Int.reduceEq sizeLine w_K w_Kn decide_true decide_false Bool.not_true Bool.not_false Bool.false_eq_true".splitOn " ").toArray.mapM fun (n : String) => do
    let p := n.splitOn "↓"
    let x := Lean.mkIdent (p.getLastD "").toName
    if p.length = 1 then `(Lean.Parser.Tactic.simpLemma| $x:term) else `(Lean.Parser.Tactic.simpLemma| ↓ $x:term)
  let ws := us ++ vs
  `(tactic| try simp (config := { dsimp := false }) only [$ws,*])

set_option linter.all false in private noncomputable def spLaw (K : PySem.W.Frag) : Sp := fun vs H Q _ => ∃ (a : Addr) (ns : List Int), vs = [.ref a] ∧ SqL K H a (ns.map V.int) ∧ ns.length ≤ 63 ∧ ∀ H', Q (.bl true) H'
section
variable {P : Program} {w : World} {K : PySem.W.Frag} {mg : Str → Option Value} {base : Heap}
set_option linter.all false in private theorem ok_isfigure {t : Ad} (T : Tx K mg t) : FnOk P w K mg base CX0 1 t.aisfigure t.disfigure ["sign"] spFig := by
  refine T.fisfigure.ok sc_isfigure (fun vs H Q E h => ?_) (fun cdv A outer s H vs Q E hr h => ?_)
  · obtain ⟨c, rfl, _⟩ := h
    rfl
  · obtain ⟨c, rfl, q⟩ := h
    refine ⟨_, (pss_one (ps_ret (pe_chain op_leS op_leS pe_str (pv 0) pe_str))), ?_⟩
    try dsimp only [L2.start, m_cons, m_nil, List.cons_append, List.nil_append, List.replicate_succ, List.replicate_zero, List.length_cons, List.length_nil, Nat.reduceAdd, Nat.reduceSub, Nat.zero_add]
    wp_walk
    have e1 : (([c] : List Nat) < ("0" : Str).cps.toList) = (c < 48) := by
      show (([c] : List Nat) < [48]) = _
      have := lt_one c 48
      rw [Bool.eq_iff_iff, decide_eq_true_eq, decide_eq_true_eq] at this
      exact propext this
    have e2 : (!decide (("9" : Str).cps.toList < ([c] : List Nat))) = decide (c ≤ 57) := by
      show (!decide (([57] : List Nat) < [c])) = _
      rw [lt_one, Bool.eq_iff_iff]
      simp
    rw [e2]
    simp only [e1]
    split
    · next h =>
      rw [show decide (48 ≤ c) = false by simp; omega, Bool.false_and] at q
      exact q
    · next h =>
      rw [show decide (48 ≤ c) = true by simp; omega, Bool.true_and] at q
      exact q
set_option linter.all false in private theorem ok_isnumberword {t : Ad} (T : Tx K mg t) : FnOk P w K mg base CX0 2 t.aisnumberword t.disnumberword ["word", "least", "greatest"] spIsNum := by
  refine T.fisnumberword.ok sc_isnumberword (fun vs H Q E h => ?_) (fun cdv A outer s H vs Q E hr h => ?_)
  · obtain ⟨x, lo, hi, rfl, _⟩ := h
    rfl
  · obtain ⟨x, lo, hi, rfl, hx, hb, q⟩ := h
    refine ⟨_, (pss_cons (ps_set (i := 3) sc_isnumberword.nd rfl (Or.inl rfl) (pe_ifExp (pt_val (pe_bm PySem.F.plainAttrs_str PySem.F.slot_str_startswith PySem.F.type_str_startswith mt_startswith (pv 0) (pa_n pe_str pa_nil))) (pe_slice sl_c (pv 0) (po_some pe_int) po_none) (pv 0)))
      (pss_cons (ps_if (pt_not (pt_chain op_le op_le pe_int (pe_callB call_lenC rfl T.zlen bt_len (pa_n (pv 3) pa_nil)) (pe_callB call_lenC rfl T.zlen bt_len (pa_n (pe_callTy call_strC rfl T.zstr bt_str (pa_n (pe_callB (call_maxC rfl) rfl T.zmax bt_max (pa_n (pe_un un_neg (pv 1)) (pa_n (pv 2) pa_nil))) pa_nil)) pa_nil)))) (pss_one (ps_ret pe_bl)) pss_nil)
      (pss_cons (ps_if (PW.pt (pw_or (pt_not (pt_val (pe_callB (call_allC rfl) rfl T.zall bt_all (pa_n (pe_comp (cl := []) (fr := []) (N := ["sign"]) rfl (fun _ _ h => h) (CompSc.nofree rfl rfl rfl rfl) (pi_str (pv 3)) (fun C s H ex pn => ⟨pts_nil, (pe_call (ok_isfigure T) (hr.mono (by omega)) rfl T.misfigure T.fisfigure.kp T.bisfigure .nil pass0 (pa_n (pv 0) pa_nil))⟩)) pa_nil)))) (pw_or1 (PW.pt (pw_and (pt_cmpR op_eq (pe_ix ix_c (pv 3) pe_int (fun _ _ => rfl)) pe_str (nomark _)) (pw_and1 (pt_cmpR op_ne (pv 0) pe_str (nomark _)))))))) (pss_one (ps_ret pe_bl)) pss_nil)
      (pss_one (ps_ret (pe_chain op_le op_le (pv 1) (pe_callTy call_intT rfl T.zint bt_int (pa_n (pv 0) pa_nil)) (pv 2))))))), ?_⟩
    try dsimp only [L2.start, m_cons, m_nil, List.cons_append, List.nil_append, List.replicate_succ, List.replicate_zero, List.length_cons, List.length_nil, Nat.reduceAdd, Nat.reduceSub, Nat.zero_add]
    wp_walk
    have fin : ∀ (b : Bool) (G : Hp), Kp [] H G → b = numW x lo hi → Q (.bl b) G := fun b G k e => by rw [e]; exact q G k
    have hW : numW x lo hi = (decide (1 ≤ (figL x.cps.toList).length) && decide ((figL x.cps.toList).length ≤ (Str.ofString (toString (if hi > -lo then hi else -lo))).length) && (figL x.cps.toList).all (fun c => decide (48 ≤ c) && decide (c ≤ 57)) && !(decide ((figL x.cps.toList)[0]? = some 48) && !decide (x = Str.ofString "0")) && (match intText? x with | some v => decide (lo ≤ v) && decide (v ≤ hi) | none => false)) := rfl
    have M0 : 0 ≤ (if hi > -lo then hi else -lo) ∧ (if hi > -lo then hi else -lo) ≤ 1000000000000 := by split <;> omega
    have Mlog : (if hi > -lo then hi else -lo).natAbs.log2 < 1920 := mlog M0.1 M0.2
    have Mlen : (Str.ofString (toString (if hi > -lo then hi else -lo))).length ≤ 13 := mlen M0.1 M0.2
    have ef0 := figL_eq x
    have ns := num_some (x := x)
    have fl := figL_len x.cps.toList
    generalize (if hi > -lo then hi else -lo) = M at *
    generalize (Str.ofString (toString M)).length = L at *
    generalize figL x.cps.toList = F at *
    have lS := slice_len x (some 1) none
    generalize Txt.slice x (some 1) none = z1 at *
    apply ite_two z1 x
    · exact fun _ => ⟨by omega, by omega⟩
    · exact fun _ => by omega
    intro z hz
    have lz : z.length ≤ x.length := by rw [hz]; split <;> omega
    have ef : z.cps.toList = F := by rw [hz, ← ef0]; first | done | (split <;> rfl)
    have lf : (z).length = F.length := by rw [← ef, Array.length_toList]; rfl
    by_cases c1 : (1 : Int) ≤ ((z).length : Int)
    case neg =>
      rw [if_neg c1]
      exact fin false H Kp.refl (by rw [hW, decide_eq_false (show ¬ 1 ≤ F.length by omega)]; rfl)
    rw [if_pos c1]
    refine ⟨Mlog, by omega, ?_⟩
    by_cases c2 : ((z).length : Int) ≤ (L : Int)
    case neg =>
      rw [if_neg c2]
      exact fin false H Kp.refl (by rw [hW, decide_eq_true (show 1 ≤ F.length by omega), decide_eq_false (show ¬ F.length ≤ L by omega)]; rfl)
    rw [if_pos c2]
    rw [decide_eq_true (show 1 ≤ F.length by omega), decide_eq_true (show F.length ≤ L by omega), Bool.true_and, Bool.true_and] at hW
    refine lc_str (fun i xs G => xs = (((z).cps.toList.take i).map fun c => decide (48 ≤ c) && decide (c ≤ 57)).map V.bl ∧ Kp [] H G) ⟨rfl, Kp.refl⟩ ?_ ?_ ?_
    · rintro i xs G ⟨rfl, _⟩
      simp only [List.length_map, List.length_take, Array.length_toList]
      have : (z).cps.size = (z).length := rfl
      omega
    · rintro i c xs G hi hc ⟨rfl, k⟩
      wp_walk using compSt
      refine ⟨?_, k⟩
      have e : (z).cps.toList[i]? = some c := by simpa using hc
      rw [List.take_add_one, e]
      simp
    · rintro xs G ⟨rfl, k⟩ l hl
      rw [show (z).cps.toList.take (z).cps.size = F by rw [← Array.length_toList, List.take_length, ef]]
      have KN := k.trans (Kp.new (S := []) (o := .lst ((F.map fun c => decide (48 ≤ c) && decide (c ≤ 57)).map V.bl)) hl)
      have el : upd G l (.lst ((F.map fun c => decide (48 ≤ c) && decide (c ≤ 57)).map V.bl)) l = some (.lst ((F.map fun c => decide (48 ≤ c) && decide (c ≤ 57)).map V.bl)) := upd_same
      generalize upd G l (.lst ((F.map fun c => decide (48 ≤ c) && decide (c ≤ 57)).map V.bl)) = G2 at *
      wp_walk using el
      rw [List.all_map, show ((id ∘ fun c => decide (48 ≤ c) && decide (c ≤ 57)) : Nat → Bool) = fun c => decide (48 ≤ c) && decide (c ≤ 57) from rfl]
      by_cases c3 : F.all (fun c => decide (48 ≤ c) && decide (c ≤ 57)) = true
      case neg =>
        rw [Bool.not_eq_true] at c3
        rw [c3]
        wp_walk
        exact fin false _ KN (by rw [hW, c3]; rfl)
      rw [c3]
      rw [c3, Bool.true_and] at hW
      wp_walk
      refine ⟨by omega, ?_⟩
      have ad : ∀ c ∈ F, 48 ≤ c ∧ c ≤ 57 := fun c hc => by have := List.all_eq_true.mp c3 c hc; simpa using this
      have lxx : x.length = x.cps.toList.length := by rw [Array.length_toList]; rfl
      have lx : x.length ≤ 640 := by omega
      cases F with
      | nil => simp at lf; omega
      | cons c0 r0 =>
        obtain ⟨nv, hnv⟩ := ns ad (by simp) (by omega)
        rw [ef]
        wp_walk using hnv
        have hz : ((⟨#[c0]⟩ : Str) = Str.ofString "0") = (c0 = 48) := propext ⟨fun z => by have := congrArg (fun y : Str => y.cps.toList) z; rw [nl_cps.2.2.2.1] at this; simpa using this, fun z => by rw [z, nl_cps.2.2.2.1]⟩
        rw [hnv] at hW
        simp only [List.getElem?_cons_zero, Option.some.injEq] at hW
        have last : (!(decide (c0 = 48) && !decide (x = Str.ofString "0"))) = true → (if lo ≤ nv then Q (.bl (decide (nv ≤ hi))) G2 else Q (.bl false) G2) := fun ht => by
          rw [ht, Bool.true_and] at hW
          split
          · next hlo => exact fin _ _ KN (by rw [hW, decide_eq_true hlo, Bool.true_and])
          · next hlo => exact fin _ _ KN (by rw [hW, decide_eq_false hlo, Bool.false_and])
        simp only [hz]
        split
        · next h0 =>
          split
          · next hx0 => exact ⟨lx, last (by simp [hx0])⟩
          · next hx0 => exact fin false _ KN (by rw [hW]; simp [h0, hx0])
        · next h0 => exact ⟨lx, last (by simp [h0])⟩
set_option linter.all false in private theorem ok_issmallletter {t : Ad} (T : Tx K mg t) : FnOk P w K mg base CX0 1 t.aissmallletter t.dissmallletter ["sign"] spLet := by
  refine T.fissmallletter.ok sc_issmallletter (fun vs H Q E h => ?_) (fun cdv A outer s H vs Q E hr h => ?_)
  · obtain ⟨c, rfl, _⟩ := h
    rfl
  · obtain ⟨c, rfl, q⟩ := h
    refine ⟨_, (pss_one (ps_ret (pe_chain op_leS op_leS pe_str (pv 0) pe_str))), ?_⟩
    try dsimp only [L2.start, m_cons, m_nil, List.cons_append, List.nil_append, List.replicate_succ, List.replicate_zero, List.length_cons, List.length_nil, Nat.reduceAdd, Nat.reduceSub, Nat.zero_add]
    wp_walk
    have e1 : (([c] : List Nat) < ("a" : Str).cps.toList) = (c < 97) := by
      show (([c] : List Nat) < [97]) = _
      have := lt_one c 97
      rw [Bool.eq_iff_iff, decide_eq_true_eq, decide_eq_true_eq] at this
      exact propext this
    have e2 : (!decide (("z" : Str).cps.toList < ([c] : List Nat))) = decide (c ≤ 122) := by
      show (!decide (([122] : List Nat) < [c])) = _
      rw [lt_one, Bool.eq_iff_iff]
      simp
    rw [e2]
    simp only [e1]
    split
    · next h =>
      rw [show decide (97 ≤ c) = false by simp; omega, Bool.false_and] at q
      exact q
    · next h =>
      rw [show decide (97 ≤ c) = true by simp; omega, Bool.true_and] at q
      exact q
set_option linter.all false in private theorem ok_isname {t : Ad} (T : Tx K mg t) : FnOk P w K mg base CX0 2 t.aisname t.disname ["thing"] spIsName := by
  refine T.fisname.ok sc_isname (fun vs H Q E h => ?_) (fun cdv A outer s H vs Q E hr h => ?_)
  · obtain ⟨x, rfl, _⟩ := h
    rfl
  · obtain ⟨x, rfl, hx, q⟩ := h
    refine ⟨_, (pss_cons (ps_if (PW.pt (pw_or (pt_not (pt_val (pe_callB call_isiC rfl T.zisinstance bt_isinstance (pa_n (pv 0) (pa_n (pe_bltn (v := .ty "str") rfl T.zstr bt_str rfl) pa_nil))))) (pw_or1 (pt_not (pt_chain op_le op_le pe_int (pe_callB call_lenC rfl T.zlen bt_len (pa_n (pv 0) pa_nil)) (pe_glob (v := .int 6) rfl T.cLONGESTNAME ⟨_, rfl⟩)))))) (pss_one (ps_ret pe_bl)) pss_nil)
      (pss_one (ps_ret (pe_and (pe_cmpR op_notInK (pv 0) (pe_glob (v := .ref t.kOWNWORDS) rfl T.cOWNWORDS rfl) (by with_unfolding_all rfl)) (pe_one (pe_callB (call_allC rfl) rfl T.zall bt_all (pa_n (pe_comp (cl := []) (fr := []) (N := ["sign"]) rfl (fun _ _ h => h) (CompSc.nofree rfl rfl rfl rfl) (pi_str (pv 0)) (fun C s H ex pn => ⟨pts_nil, (pe_call (ok_issmallletter T) (hr.mono (by omega)) rfl T.missmallletter T.fissmallletter.kp T.bissmallletter .nil pass0 (pa_n (pv 0) pa_nil))⟩)) pa_nil))))))), ?_⟩
    try dsimp only [L2.start, m_cons, m_nil, List.cons_append, List.nil_append, List.replicate_succ, List.replicate_zero, List.length_cons, List.length_nil, Nat.reduceAdd, Nat.reduceSub, Nat.zero_add]
    have hB : nmB x = (decide (1 ≤ x.length) && (decide (x.length ≤ 6) && (x.cps.toList.all (fun c => decide (97 ≤ c) && decide (c ≤ 122)) && !inV (.str x) ownW))) := rfl
    wp_walk
    refine ⟨by omega, ?_⟩
    by_cases c1 : (1 : Int) ≤ (x.length : Int)
    case neg =>
      rw [if_neg c1]
      wp_walk
      rw [hB, show decide (1 ≤ x.length) = false by simp; omega, Bool.false_and] at q
      exact q _ Kp.refl
    rw [if_pos c1]
    wp_walk
    by_cases c2 : (x.length : Int) ≤ 6
    case neg =>
      rw [if_neg c2]
      rw [hB, show decide (x.length ≤ 6) = false by simp; omega, Bool.false_and, Bool.and_false] at q
      exact q _ Kp.refl
    rw [if_pos c2]
    rw [show decide (1 ≤ x.length) = true by simp; omega, show decide (x.length ≤ 6) = true by simp; omega, Bool.true_and, Bool.true_and] at hB
    refine ⟨ownW, T.qOWNWORDS H, rfl, own17, ?_⟩
    by_cases c3 : inV (.str x) ownW = true
    · rw [c3]
      wp_walk
      rw [hB, c3, Bool.not_true, Bool.and_false] at q
      exact q _ Kp.refl
    · rw [show inV (.str x) ownW = false from by simpa using c3]
      wp_walk
      refine lc_str (fun i xs G => xs = ((x.cps.toList.take i).map fun c => decide (97 ≤ c) && decide (c ≤ 122)).map V.bl ∧ Kp [] H G) ⟨rfl, Kp.refl⟩ ?_ ?_ ?_
      · rintro i xs G ⟨rfl, _⟩
        simp only [List.length_map, List.length_take, Array.length_toList]
        have : x.cps.size = x.length := rfl
        omega
      · rintro i c xs G hi hc ⟨rfl, k⟩
        wp_walk using compSt
        refine ⟨?_, k⟩
        have e : x.cps.toList[i]? = some c := by simpa using hc
        rw [List.take_add_one, e]
        simp
      · rintro xs G ⟨rfl, k⟩ l hl
        wp_walk
        rw [show x.cps.toList.take x.cps.size = x.cps.toList by rw [← Array.length_toList, List.take_length]]
        rw [hB, show inV (.str x) ownW = false from by simpa using c3, Bool.not_false, Bool.and_true] at q
        have := q _ (k.trans (Kp.new (o := .lst ((x.cps.toList.map fun c => decide (97 ≤ c) && decide (c ≤ 122)).map V.bl)) hl))
        rw [List.all_map]
        exact this
set_option linter.all false in private theorem ok_Readerinit {t : Ad} (T : Tx K mg t) : FnOk P w K mg base CX0 1 t.aReaderinit t.dReaderinit ["self", "lines"] (spRdInit t.CReader) := by
  refine T.fReaderinit.ok sc_Readerinit (fun vs H Q E h => ?_) (fun cdv A outer s H vs Q E hr h => ?_)
  · obtain ⟨x, dx, ll, rfl, _⟩ := h
    rfl
  · obtain ⟨x, dx, ll, rfl, e, q⟩ := h
    refine ⟨_, (pss_cons (ps_fldC T.clReader T.nalines (pv 0) (pv 1))
      (pss_cons (ps_fldC T.clReader T.nalinesread (pv 0) pe_int)
      (pss_one (ps_fldC T.clReader T.nastatementsread (pv 0) pe_int)))), ?_⟩
    try dsimp only [L2.start, m_cons, m_nil, List.cons_append, List.nil_append, List.replicate_succ, List.replicate_zero, List.length_cons, List.length_nil, Nat.reduceAdd, Nat.reduceSub, Nat.zero_add]
    wp_walk using e
    exact q _ upd_same (by intro b o e n; simp only [List.mem_cons, List.not_mem_nil, or_false] at n; rw [upd_ne n, upd_ne n, upd_ne n]; exact e)
set_option linter.all false in private theorem ok_Readerahead {t : Ad} (T : Tx K mg t) : FnOk P w K mg base CX0 1 t.aReaderahead t.dReaderahead ["self"] (spAhead t.CReader) := by
  refine T.fReaderahead.ok sc_Readerahead (fun vs H Q E h => ?_) (fun cdv A outer s H vs Q E hr h => ?_)
  · obtain ⟨rd, dx, ll, rows, i, k, rfl, _⟩ := h
    rfl
  · obtain ⟨rd, dx, ll, rows, i, k, rfl, R, q⟩ := h
    refine ⟨_, (pss_one (ps_ret (pe_ifExp (pt_cmpR op_lt (pe_fldC T.clReader T.nalinesread (pv 0)) (pe_callB call_lenC rfl T.zlen bt_len (pa_n (pe_fldC T.clReader T.nalines (pv 0)) pa_nil)) (nomark _)) (pe_ix ix_c (pe_fldC T.clReader T.nalines (pv 0)) (pe_fldC T.clReader T.nalinesread (pv 0)) (fun _ _ => rfl)) pe_non))), ?_⟩
    try dsimp only [L2.start, m_cons, m_nil, List.cons_append, List.nil_append, List.replicate_succ, List.replicate_zero, List.length_cons, List.length_nil, Nat.reduceAdd, Nat.reduceSub, Nat.zero_add]
    wp_walk using R.ins, R.lin, List.length_map
    unfold ah at q
    by_cases h : i < rows.length
    · rw [List.getElem?_eq_getElem h] at q
      rw [if_pos (by omega)]
      rw [atI_nat (v := .str rows[i]) (by rw [List.getElem?_map, List.getElem?_eq_getElem h]; rfl)]
      exact q
    · rw [List.getElem?_eq_none (by omega)] at q
      rw [if_neg (by omega)]
      exact q
set_option linter.all false in private theorem ok_takeword {t : Ad} (T : Tx K mg t) : FnOk P w K mg base CX0 1 t.atakeword t.dtakeword ["words"] spTW := by
  refine T.ftakeword.ok sc_takeword (fun vs H Q E h => ?_) (fun cdv A outer s H vs Q E hr h => ?_)
  · obtain ⟨x, rfl, h1⟩ := on1_is h
    rfl
  · obtain ⟨x, rfl, h1⟩ := on1_is h
    obtain ⟨a, rfl, h2⟩ := onRef_of h1
    obtain ⟨xs, e, h3⟩ := onLst_of h2
    obtain ⟨v, e2, q⟩ := onO_of h3
    refine ⟨_, (pss_cons (ps_if (pt_not (pt_truC (pv 0) (fun _ => rfl))) (pss_one ps_never) pss_nil)
      (pss_one (ps_ret (pe_lm PySem.F.slot_list_pop PySem.F.type_list_pop mt_pop0 (pv 0) (pa_n pe_int pa_nil))))), ?_⟩
    try dsimp only [L2.start, m_cons, m_nil, List.cons_append, List.nil_append, List.replicate_succ, List.replicate_zero, List.length_cons, List.length_nil, Nat.reduceAdd, Nat.reduceSub, Nat.zero_add]
    cases xs with
    | nil => cases e2
    | cons y ys =>
      cases e2
      wp_walk using e, List.isEmpty_cons, List.tail_cons
      exact q
set_option linter.all false in private theorem ok_takename {t : Ad} (T : Tx K mg t) : FnOk P w K mg base CX0 3 t.atakename t.dtakename ["words"] spTN := by
  refine T.ftakename.ok sc_takename (fun vs H Q E h => ?_) (fun cdv A outer s H vs Q E hr h => ?_)
  · obtain ⟨wl, x, rest, rfl, _⟩ := h
    rfl
  · obtain ⟨wl, x, rest, rfl, e, hx, q⟩ := h
    refine ⟨_, (pss_cons (ps_set (i := 1) sc_takename.nd rfl (Or.inl rfl) (pe_call (ok_takeword T) (hr.mono (by omega)) rfl T.mtakeword T.ftakeword.kp T.btakeword .nil pass0 (pa_n (pv 0) pa_nil)))
      (pss_cons (ps_if (pt_not (pt_val (pe_call (ok_isname T) (hr.mono (by omega)) rfl T.misname T.fisname.kp T.bisname .nil pass0 (pa_n (pv 1) pa_nil)))) (pss_one ps_never) pss_nil)
      (pss_one (ps_ret (pv 1))))), ?_⟩
    try dsimp only [L2.start, m_cons, m_nil, List.cons_append, List.nil_append, List.replicate_succ, List.replicate_zero, List.length_cons, List.length_nil, Nat.reduceAdd, Nat.reduceSub, Nat.zero_add]
    wp_walk using e, List.tail_cons
    refine ⟨nm_len hx, fun H' K' => ?_⟩
    wp_walk using nmOk_B.mp hx
    exact q _ (K'.at upd_same) (Kp.set1.trans (Kp.of K'.same))
set_option linter.all false in private theorem st_takejoined {t : Ad} (T : Tx K mg t) {n d : Nat} (hn : 6 ≤ n) (IH : FnOk P w K mg base CX0 n t.atakesaying t.dtakesaying ["words", "deep"] (spTS d)) : FnOk P w K mg base CX0 (n + 1) t.atakejoined t.dtakejoined ["words", "deep"] (spTJ d) := by
  refine T.ftakejoined.ok sc_takejoined (fun vs H Q E h => ?_) (fun cdv A outer s H vs Q E hr h => ?_)
  · obtain ⟨wl, dp, g, a, b, rest, rfl, _⟩ := h
    rfl
  · obtain ⟨wl, dp, g, a, b, rest, rfl, e, ha, hb, da, db, dda, ddb, q⟩ := h
    refine ⟨_, (pss_cons (ps_set (i := 2) sc_takejoined.nd rfl (Or.inl rfl) (pe_call IH (hr.mono (by omega)) rfl T.mtakesaying T.ftakesaying.kp T.btakesaying .nil pass0 (pa_n (pv 0) (pa_n (pv 1) pa_nil))))
      (pss_cons (ps_set (i := 3) sc_takejoined.nd rfl (Or.inl rfl) (pe_call (ok_takeword T) (hr.mono (by omega)) rfl T.mtakeword T.ftakeword.kp T.btakeword .nil pass0 (pa_n (pv 0) pa_nil)))
      (pss_cons (ps_set (i := 4) sc_takejoined.nd rfl (Or.inl rfl) (pe_call IH (hr.mono (by omega)) rfl T.mtakesaying T.ftakesaying.kp T.btakesaying .nil pass0 (pa_n (pv 0) (pa_n (pv 1) pa_nil))))
      (pss_cons (ps_if (PW.pt (pw_or (pt_cmpR op_notInK (pv 3) (pe_glob (v := .ref t.kSIGNS) rfl T.cSIGNS rfl) (by with_unfolding_all rfl)) (pw_or1 (pt_cmpR op_ne (pe_call (ok_takeword T) (hr.mono (by omega)) rfl T.mtakeword T.ftakeword.kp T.btakeword .nil pass0 (pa_n (pv 0) pa_nil)) pe_str (nomark _))))) (pss_one ps_never) pss_nil)
      (pss_one (ps_ret (pe_tup (pa_n (pv 3) (pa_n (pv 2) (pa_n (pv 4) pa_nil)))))))))), ?_⟩
    try dsimp only [L2.start, m_cons, m_nil, List.cons_append, List.nil_append, List.replicate_succ, List.replicate_zero, List.length_cons, List.length_nil, Nat.reduceAdd, Nat.reduceSub, Nat.zero_add]
    wp_walk
    refine ⟨wl, dp, a, _, rfl, e, ha, da, dda, fun v1 H1 hv1 e1 K1 => ?_⟩
    wp_walk using e1, List.tail_cons
    have K2 := K1.trans (Kp.set1 (a := wl) (H := H1) (o := .lst ((sw b).map V.str ++ .str ")" :: rest)))
    have w2 : upd H1 wl (.lst ((sw b).map V.str ++ .str ")" :: rest)) wl = some (.lst ((sw b).map V.str ++ .str ")" :: rest)) := upd_same
    have s2 := hv1.kp (TupKp.set (ys := (sw b).map V.str ++ .str ")" :: rest) e1)
    generalize upd H1 wl (.lst ((sw b).map V.str ++ .str ")" :: rest)) = G2 at *
    refine ⟨wl, dp, b, _, rfl, w2, hb, db, ddb, fun v3 H3 hv3 e3 K3 => ?_⟩
    have s3 := s2.kp (TupKp.w K3 w2)
    wp_walk
    refine ⟨_, T.qSIGNS H3, rfl, flat5, ?_⟩
    rw [sg_in g]
    wp_walk using e3, List.tail_cons
    refine fun p4 hp4 => ?_
    have T4 := TupKp.set (ys := rest) e3
    exact q _ _ (.two upd_same ((s3.kp T4).kp (TupKp.new hp4)) ((hv3.kp T4).kp (TupKp.new hp4))) ((Kp.new (S := []) hp4).at upd_same) (((K2.trans K3).trans Kp.set1).trans (Kp.new hp4))
set_option linter.all false in private theorem st_takesaying {t : Ad} (T : Tx K mg t) {n d : Nat} (hn : 6 ≤ n) (IH : FnOk P w K mg base CX0 n t.atakesaying t.dtakesaying ["words", "deep"] (spTS d)) : FnOk P w K mg base CX0 (n + 2) t.atakesaying t.dtakesaying ["words", "deep"] (spTS (d + 1)) := by
  refine T.ftakesaying.ok sc_takesaying (fun vs H Q E h => ?_) (fun cdv A outer s H vs Q E hr h => ?_)
  · obtain ⟨wl, dp, s, rest, rfl, _⟩ := h
    rfl
  · obtain ⟨wl, dp, s, rest, rfl, e0, hs, hd, hdd, q⟩ := h
    refine ⟨_, (pss_cons (ps_if (pt_cmpR op_gt (pv 1) (pe_glob (v := .int 6) rfl T.cDEEPESTSAYING ⟨_, rfl⟩) (nomark _)) (pss_one ps_never) pss_nil)
      (pss_cons (ps_set (i := 2) sc_takesaying.nd rfl (Or.inl rfl) (pe_call (ok_takeword T) (hr.mono (by omega)) rfl T.mtakeword T.ftakeword.kp T.btakeword .nil pass0 (pa_n (pv 0) pa_nil)))
      (pss_cons (ps_if (pt_cmpR op_inC (pv 2) (pe_tup (pa_n pe_str (pa_n pe_str (pa_n pe_str pa_nil)))) (by with_unfolding_all rfl)) (pss_one (ps_ret (pe_tup (pa_n (pv 2) pa_nil)))) pss_nil)
      (pss_cons (ps_if (pt_cmpR op_inC (pv 2) (pe_tup (pa_n pe_str (pa_n pe_str pa_nil))) (by with_unfolding_all rfl)) (pss_one (ps_ret (pe_tup (pa_n (pv 2) (pa_n (pe_call IH (hr.mono (by omega)) rfl T.mtakesaying T.ftakesaying.kp T.btakesaying .nil pass0 (pa_n (pv 0) (pa_n (pe_op op_addC (pv 1) pe_int) pa_nil))) pa_nil))))) pss_nil)
      (pss_cons (ps_if (pt_cmpR op_eq (pv 2) pe_str (nomark _)) (pss_one (ps_ret (pe_call (st_takejoined T hn IH) (hr.mono (by omega)) rfl T.mtakejoined T.ftakejoined.kp T.btakejoined .nil pass0 (pa_n (pv 0) (pa_n (pe_op op_addC (pv 1) pe_int) pa_nil))))) pss_nil)
      (pss_cons (ps_if (pt_val (pe_call (ok_isnumberword T) (hr.mono (by omega)) rfl T.misnumberword T.fisnumberword.kp T.bisnumberword .nil pass0 (pa_n (pv 2) (pa_n (pe_un un_neg (pe_glob (v := .int 1000000000) rfl T.cGREATESTWORTH ⟨_, rfl⟩)) (pa_n (pe_glob (v := .int 1000000000) rfl T.cGREATESTWORTH ⟨_, rfl⟩) pa_nil))))) (pss_one (ps_ret (pe_tup (pa_n pe_str (pa_n (pe_callTy call_intT rfl T.zint bt_int (pa_n (pv 2) pa_nil)) pa_nil))))) pss_nil)
      (pss_cons (ps_if (pt_val (pe_call (ok_isname T) (hr.mono (by omega)) rfl T.misname T.fisname.kp T.bisname .nil pass0 (pa_n (pv 2) pa_nil))) (pss_one (ps_ret (pe_tup (pa_n pe_str (pa_n (pv 2) pa_nil))))) pss_nil)
      (pss_one ps_never)))))))), ?_⟩
    try dsimp only [L2.start, m_cons, m_nil, List.cons_append, List.nil_append, List.replicate_succ, List.replicate_zero, List.length_cons, List.length_nil, Nat.reduceAdd, Nat.reduceSub, Nat.zero_add]
    have dpos := s.depth_pos
    rcases s.v3 with ⟨wo, hsw, mk, f3⟩ | n3
    · have e0 : H wl = some (.lst (.str wo :: rest)) := by rw [e0, hsw]; rfl
      have e : H wl = some (.lst (.str wo :: rest)) := e0
      wp_walk using e, List.map_nil, List.nil_append, List.tail_cons, List.cons_append
      rw [if_neg (by omega)]
      refine fun p hp => ⟨rfl, flat3, ?_⟩
      have npw : p ≠ wl := fun z => by rw [z, upd_same] at hp; cases hp

      have K1 := (Kp.set1 (a := wl) (H := H) (o := .lst rest)).trans (Kp.new (S := [wl]) (o := .tup [.str "none", .str "arg", .str "now"]) hp)
      have w1 := (Kp.new (S := []) (o := .tup [.str "none", .str "arg", .str "now"]) hp).at (upd_same (H := H) (a := wl) (o := .lst rest))
      generalize upd (upd H wl (.lst rest)) p (.tup [.str "none", .str "arg", .str "now"]) = G at *
      wp_walk using f3
      exact fun p2 hp2 => q _ _ (mk _ _ upd_same) ((Kp.new (S := []) hp2).at w1) (K1.trans (Kp.new hp2))
    rcases s.v2 with ⟨wo, s1, hsw, fd, fs, mk, f3, f2⟩ | n2
    · have hs1 := fs hs
      have e0 : H wl = some (.lst (.str wo :: ((sw s1).map V.str ++ rest))) := by rw [e0, hsw]; rfl
      have e : H wl = some (.lst (.str wo :: ((sw s1).map V.str ++ rest))) := e0
      wp_walk using e, List.map_nil, List.nil_append, List.tail_cons, List.cons_append
      rw [if_neg (by omega)]
      refine fun p hp => ⟨rfl, flat3, ?_⟩
      have npw : p ≠ wl := fun z => by rw [z, upd_same] at hp; cases hp

      have K1 := (Kp.set1 (a := wl) (H := H) (o := .lst ((sw s1).map V.str ++ rest))).trans (Kp.new (S := [wl]) (o := .tup [.str "none", .str "arg", .str "now"]) hp)
      have w1 := (Kp.new (S := []) (o := .tup [.str "none", .str "arg", .str "now"]) hp).at (upd_same (H := H) (a := wl) (o := .lst ((sw s1).map V.str ++ rest)))
      generalize upd (upd H wl (.lst ((sw s1).map V.str ++ rest))) p (.tup [.str "none", .str "arg", .str "now"]) = G at *
      wp_walk using f3
      refine fun p2 hp2 => ⟨rfl, flat2, ?_⟩
      have K2 := K1.trans (Kp.new (S := [wl]) (o := .tup [.str "answer", .str "not"]) hp2)
      have w2 := (Kp.new (S := []) (o := .tup [.str "answer", .str "not"]) hp2).at w1
      generalize upd G p2 (.tup [.str "answer", .str "not"]) = G2 at *
      wp_walk using f2
      refine ⟨wl, dp + 1, s1, rest, rfl, w2, hs1, by omega, by omega, fun v H3 hv e3 K3 => ?_⟩
      wp_walk
      exact fun p4 hp4 => q _ _ (mk _ _ _ upd_same (hv.kp (TupKp.new hp4))) ((Kp.new (S := []) hp4).at e3) ((K2.trans K3).trans (Kp.new hp4))
    cases s with
    | non => exact absurd rfl n3.1
    | arg => exact absurd rfl n3.2.1
    | now => exact absurd rfl n3.2.2
    | ans s1 => exact absurd rfl (n2 s1).1
    | neg s1 => exact absurd rfl (n2 s1).2
    | num n =>
      have e : H wl = some (.lst (.str (Str.ofString (toString n)) :: rest)) := e0
      wp_walk using e, List.map_nil, List.nil_append, List.tail_cons, List.cons_append
      rw [if_neg (by omega)]
      refine fun p hp => ⟨rfl, flat3, ?_⟩
      have npw : p ≠ wl := fun z => by rw [z, upd_same] at hp; cases hp

      have K1 := (Kp.set1 (a := wl) (H := H) (o := .lst rest)).trans (Kp.new (S := [wl]) (o := .tup [.str "none", .str "arg", .str "now"]) hp)
      have w1 := (Kp.new (S := []) (o := .tup [.str "none", .str "arg", .str "now"]) hp).at (upd_same (H := H) (a := wl) (o := .lst rest))
      generalize upd (upd H wl (.lst rest)) p (.tup [.str "none", .str "arg", .str "now"]) = G at *
      wp_walk using int_in3 n
      refine fun p2 hp2 => ⟨rfl, flat2, ?_⟩
      have K2 := K1.trans (Kp.new (S := [wl]) (o := .tup [.str "answer", .str "not"]) hp2)
      have w2 := (Kp.new (S := []) (o := .tup [.str "answer", .str "not"]) hp2).at w1
      have ln := ilen hs.1.1 hs.1.2
      generalize upd G p2 (.tup [.str "answer", .str "not"]) = G2 at *
      wp_walk using int_in2 n, int_par n
      refine ⟨by omega, fun H3 K3 => ?_⟩
      wp_walk using int_numW hs.1.1 hs.1.2, int_reads n (Nat.lt_of_le_of_lt (show n.natAbs ≤ 1000000000 by have := hs.1.1; have := hs.1.2; omega) (by decide))
      refine ⟨by omega, fun p4 hp4 => ?_⟩
      exact q _ _ (.num upd_same) ((Kp.new (S := []) hp4).at (K3.at w2)) ((K2.trans (Kp.of K3.same)).trans (Kp.new hp4))
    | name x =>
      have hx := hs.2 x (by simp [Say.nms])
      have e : H wl = some (.lst (.str x :: rest)) := e0
      wp_walk using e, List.map_nil, List.nil_append, List.tail_cons, List.cons_append
      rw [if_neg (by omega)]
      refine fun p hp => ⟨rfl, flat3, ?_⟩
      have npw : p ≠ wl := fun z => by rw [z, upd_same] at hp; cases hp

      have K1 := (Kp.set1 (a := wl) (H := H) (o := .lst rest)).trans (Kp.new (S := [wl]) (o := .tup [.str "none", .str "arg", .str "now"]) hp)
      have w1 := (Kp.new (S := []) (o := .tup [.str "none", .str "arg", .str "now"]) hp).at (upd_same (H := H) (a := wl) (o := .lst rest))
      generalize upd (upd H wl (.lst rest)) p (.tup [.str "none", .str "arg", .str "now"]) = G at *
      wp_walk using nm_in hx (l := [.str "none", .str "arg", .str "now"]) (by decide)
      refine fun p2 hp2 => ⟨rfl, flat2, ?_⟩
      have K2 := K1.trans (Kp.new (S := [wl]) (o := .tup [.str "answer", .str "not"]) hp2)
      have w2 := (Kp.new (S := []) (o := .tup [.str "answer", .str "not"]) hp2).at w1
      generalize upd G p2 (.tup [.str "answer", .str "not"]) = G2 at *
      wp_walk using nm_in hx (l := [.str "answer", .str "not"]) (by decide), nm_par hx
      refine ⟨nm_len hx, fun H3 K3 => ?_⟩
      wp_walk using nm_num hx
      refine ⟨nm_len hx, fun H4 K4 => ?_⟩
      wp_walk using nmOk_B.mp hx
      refine fun p4 hp4 => ?_
      exact q _ _ (.name upd_same) ((Kp.new (S := []) hp4).at (K4.at (K3.at w2))) (((K2.trans (Kp.of K3.same)).trans (Kp.of K4.same)).trans (Kp.new hp4))
    | two g a b =>
      simp only [Say.depth] at hd hdd
      have e00 : H wl = some (.lst (.str "(" :: ((sw a).map V.str ++ .str g.s :: ((sw b).map V.str ++ .str ")" :: rest)))) := by rw [e0]; simp [sw]
      clear e0
      have e0 := e00
      have e : H wl = some (.lst (.str "(" :: ((sw a).map V.str ++ .str g.s :: ((sw b).map V.str ++ .str ")" :: rest)))) := e0
      wp_walk using e, List.map_nil, List.nil_append, List.tail_cons, List.cons_append
      rw [if_neg (by omega)]
      refine fun p hp => ⟨rfl, flat3, ?_⟩
      have npw : p ≠ wl := fun z => by rw [z, upd_same] at hp; cases hp

      have K1 := (Kp.set1 (a := wl) (H := H) (o := .lst ((sw a).map V.str ++ .str g.s :: ((sw b).map V.str ++ .str ")" :: rest)))).trans (Kp.new (S := [wl]) (o := .tup [.str "none", .str "arg", .str "now"]) hp)
      have w1 := (Kp.new (S := []) (o := .tup [.str "none", .str "arg", .str "now"]) hp).at (upd_same (H := H) (a := wl) (o := .lst ((sw a).map V.str ++ .str g.s :: ((sw b).map V.str ++ .str ")" :: rest))))
      generalize upd (upd H wl (.lst ((sw a).map V.str ++ .str g.s :: ((sw b).map V.str ++ .str ")" :: rest)))) p (.tup [.str "none", .str "arg", .str "now"]) = G at *
      wp_walk using inS2, String.reduceEq, decide_true, decide_false, Bool.or_false, Bool.true_or, Bool.or_true, Bool.false_or, inS3
      refine fun p2 hp2 => ⟨rfl, flat2, ?_⟩
      have K2 := K1.trans (Kp.new (S := [wl]) (o := .tup [.str "answer", .str "not"]) hp2)
      have w2 := (Kp.new (S := []) (o := .tup [.str "answer", .str "not"]) hp2).at w1
      generalize upd G p2 (.tup [.str "answer", .str "not"]) = G2 at *
      wp_walk using inS2, String.reduceEq, decide_true, decide_false, Bool.or_false, Bool.true_or, Bool.or_true, Bool.false_or
      refine ⟨wl, dp + 1, g, a, b, rest, rfl, w2, ⟨hs.1.1, fun x hx => hs.2 x (List.mem_append_left _ hx)⟩, ⟨hs.1.2, fun x hx => hs.2 x (List.mem_append_right _ hx)⟩, by omega, by omega, by omega, by omega, fun v H3 hv e3 K3 => ?_⟩
      exact q _ _ hv e3 (K2.trans K3)

set_option linter.all false in private theorem ok_takesaying {t : Ad} (T : Tx K mg t) : ∀ d, FnOk P w K mg base CX0 (2 * d + 6) t.atakesaying t.dtakesaying ["words", "deep"] (spTS d) := by
  intro d
  induction d with
  | zero => exact ⟨fun _ _ _ _ x => by (obtain ⟨_, _, s, _, _, _, _, _, h, _⟩ := x; exact absurd h (by have := s.depth_pos; omega)), fun _ _ _ _ _ _ _ _ _ _ _ _ _ x => by (obtain ⟨_, _, s, _, _, _, _, _, h, _⟩ := x; exact absurd h (by have := s.depth_pos; omega))⟩
  | succ d ih => exact st_takesaying T (by omega) ih

set_option linter.all false in private theorem ok_takewaited {t : Ad} (T : Tx K mg t) : FnOk P w K mg base CX0 20 t.atakewaited t.dtakewaited ["words"] spTWt := by
  refine T.ftakewaited.ok sc_takewaited (fun vs H Q E h => ?_) (fun cdv A outer s H vs Q E hr h => ?_)
  · obtain ⟨wl, ss, rfl, _⟩ := h
    rfl
  · obtain ⟨wl, ss, rfl, e, hl, h6, q⟩ := h
    refine ⟨_, (pss_cons (ps_set (i := 1) sc_takewaited.nd rfl (Or.inl rfl) (pe_lst (pa_n (pe_call (ok_takesaying T 6) (hr.mono (by omega)) rfl T.mtakesaying T.ftakesaying.kp T.btakesaying .nil pass0 (pa_n (pv 0) (pa_n pe_int pa_nil))) pa_nil)))
      (pss_cons (ps_while PassesOwn.never (PW.pt (pw_and (pt_truC (pv 0) (fun _ => rfl)) (pw_and1 (pt_cmpR op_lt (pe_callB call_lenC rfl T.zlen bt_len (pa_n (pv 1) pa_nil)) (pe_glob (v := .int 4) rfl T.cMOSTWAITED ⟨_, rfl⟩) (nomark _))))) (pss_one (ps_expr (pe_appC (pv 1) (pe_call (ok_takesaying T 6) (hr.mono (by omega)) rfl T.mtakesaying T.ftakesaying.kp T.btakesaying .nil pass0 (pa_n (pv 0) (pa_n pe_int pa_nil)))))))
      (pss_one (ps_ret (pe_callTy call_tupC rfl T.ztuple bt_tuple (pa_n (pv 1) pa_nil)))))), ?_⟩
    try dsimp only [L2.start, m_cons, m_nil, List.cons_append, List.nil_append, List.replicate_succ, List.replicate_zero, List.length_cons, List.length_nil, Nat.reduceAdd, Nat.reduceSub, Nat.zero_add]
    obtain ⟨s0, sr, rfl⟩ : ∃ s0 sr, ss = s0 :: sr := by
      cases ss with
      | nil => simp at hl
      | cons a b => exact ⟨a, b, rfl⟩
    wp_walk
    have s06 := h6 s0 (by simp)
    refine ⟨wl, 1, s0, (sr.map sw).flatten.map V.str, rfl, by rw [e]; simp, s06.1, by have := s06.2; omega, s06.2, fun v1 H1 hv1 e1 K1 => ?_⟩
    wp_walk
    refine fun sl hsl => ?_
    have KN := Kp.new (S := []) (o := .lst [v1]) hsl
    have nsw : wl ≠ sl := ne_of_none e1 hsl
    have hnone : H sl = none := by
      cases hz : H sl with
      | none => rfl
      | some o => rw [K1.at1 hz nsw.symm] at hsl; cases hsl
    obtain ⟨W, hW⟩ : ∃ W : Nat → St → Hp → Prop, ∀ m σ G, W m σ G = ∃ (us : List V) (j : Nat), σ = [some (.ref wl), some (.ref sl)] ∧ G sl = some (.lst us) ∧ SaysAt G us ((s0 :: sr).take j) ∧ (1 ≤ j ∧ j ≤ sr.length + 1) ∧ G wl = some (.lst ((((s0 :: sr).drop j).map sw).flatten.map V.str)) ∧ m = sr.length + 1 - j ∧ Kp [wl] H G := ⟨_, fun _ _ _ => rfl⟩
    refine ⟨W, ⟨sr.length, ?_⟩, ?_⟩
    · rw [hW]
      exact ⟨[v1], 1, rfl, upd_same, .cons (hv1.kp (TupKp.new hsl)) .nil, ⟨Nat.le_refl _, by omega⟩, KN.at e1, by omega, K1.trans (Kp.new hsl)⟩
    intro m σ G hG
    rw [hW] at hG
    obtain ⟨us, j, rfl, eS, hU, ⟨j1, j2⟩, eW, rfl, KG⟩ := hG
    have ln := hU.ln
    rw [List.length_take, List.length_cons] at ln
    simp only [List.length_cons] at hl
    have back : ∀ (us2 : List V) (G2 : Hp), G2 sl = some (.lst us2) → SaysAt G2 us2 ((s0 :: sr).take (j + 1)) → j + 1 ≤ sr.length + 1 → G2 wl = some (.lst ((((s0 :: sr).drop (j + 1)).map sw).flatten.map V.str)) → Kp [wl] H G2 → ∃ m', m' < sr.length + 1 - j ∧ W m' [some (.ref wl), some (.ref sl)] G2 := fun us2 G2 a b c d e => by
      refine ⟨sr.length + 1 - (j + 1), by omega, ?_⟩
      rw [hW]
      exact ⟨us2, j + 1, rfl, a, b, ⟨by omega, c⟩, d, rfl, e⟩
    clear hW
    by_cases hj : j = sr.length + 1
    · have e0 : (s0 :: sr).drop j = [] := List.drop_eq_nil_of_le (by simp; omega)
      have e9 : (s0 :: sr).take j = s0 :: sr := List.take_of_length_le (by simp; omega)
      rw [e0] at eW
      rw [e9] at hU
      simp only [List.map_nil, List.flatten_nil] at eW
      wp_walk using eW, eS, List.isEmpty_nil
      exact fun p hp => q p us _ upd_same (hU.kp (TupKp.new hp)) ((Kp.new (S := []) hp).at eW) (KG.trans (Kp.new hp))
    · have hjl : j < (s0 :: sr).length := by simp; omega
      obtain ⟨sj, hsj⟩ : ∃ sj, (s0 :: sr)[j]? = some sj := ⟨_, List.getElem?_eq_getElem hjl⟩
      have e9 := take_snocT hsj
      have e8 : (s0 :: sr).drop j = sj :: (s0 :: sr).drop (j + 1) := by
        rw [List.drop_eq_getElem_cons hjl]
        rw [List.getElem?_eq_getElem hjl] at hsj
        rw [Option.some.inj hsj]
      have sj6 := h6 sj (List.mem_of_getElem? hsj)
      have eW2 : G wl = some (.lst ((sw sj).map V.str ++ (((s0 :: sr).drop (j + 1)).map sw).flatten.map V.str)) := by rw [eW, e8]; simp
      obtain ⟨w0, r0, hw0⟩ : ∃ w0 r0, sw sj = w0 :: r0 := by
        cases h : sw sj with
        | nil => exact absurd h (sw_ne sj)
        | cons a b => exact ⟨a, b, rfl⟩
      have eW3 : G wl = some (.lst (.str w0 :: (r0.map V.str ++ (((s0 :: sr).drop (j + 1)).map sw).flatten.map V.str))) := by rw [eW2, hw0]; rfl
      wp_walk using eW3, eS, List.isEmpty_cons
      rw [if_pos (by omega)]
      refine ⟨fun σ' H' => ∃ m', m' < sr.length + 1 - j ∧ W m' σ' H', fun _ _ h => h, ?_⟩
      wp_walk using eS
      refine ⟨wl, 1, sj, _, rfl, eW2, sj6.1, by have := sj6.2; omega, sj6.2, fun v2 H2 hv2 e2 K2 => ?_⟩
      have eS2 := K2.at1 eS nsw.symm
      wp_walk using eS2
      have T2 := TupKp.w K2 eW2
      have T3 := TupKp.set (ys := us ++ [v2]) eS2
      refine ⟨by omega, back _ _ upd_same ?_ (by omega) (by rw [upd_ne nsw]; exact e2) ?_⟩
      · rw [e9]
        exact (((hU.kp T2).kp T3).snoc2 (hv2.kp T3))
      · exact fun b o eb nb => by
          have := (KG.trans K2) b o eb nb
          rw [upd_ne (fun z => ?_)]
          · exact this
          · subst z
            exact absurd eb (by rw [hnone]; intro z; cases z)
set_option linter.all false in private theorem ok_takegiven {t : Ad} (T : Tx K mg t) : FnOk P w K mg base CX0 24 t.atakegiven t.dtakegiven ["name", "words"] spTG := by
  refine T.ftakegiven.ok sc_takegiven (fun vs H Q E h => ?_) (fun cdv A outer s H vs Q E hr h => ?_)
  · obtain ⟨wl, x, m, ws, rfl, _⟩ := h
    rfl
  · obtain ⟨wl, x, m, ws, rfl, hws, hN, hm, e0, q⟩ := h
    refine ⟨_, (pss_cons (ps_set (i := 2) sc_takegiven.nd rfl (Or.inl rfl) (pe_ifExp (pt_truC (pv 1) (fun _ => rfl)) (pe_ix ix_c (pv 1) pe_int (fun _ _ => rfl)) pe_str))
      (pss_cons (ps_if (pt_cmpR op_notInC (pv 2) (pe_tup (pa_n pe_str (pa_n pe_str (pa_n pe_str (pa_n pe_str (pa_n pe_str pa_nil)))))) (by with_unfolding_all rfl)) (pss_one (ps_ret (pe_tup (pa_n pe_str (pa_n (pv 0) (pa_n (pe_call (ok_takesaying T 6) (hr.mono (by omega)) rfl T.mtakesaying T.ftakesaying.kp T.btakesaying .nil pass0 (pa_n (pv 1) (pa_n pe_int pa_nil))) pa_nil)))))) pss_nil)
      (pss_cons (ps_expr (pe_call (ok_takeword T) (hr.mono (by omega)) rfl T.mtakeword T.ftakeword.kp T.btakeword .nil pass0 (pa_n (pv 1) pa_nil)))
      (pss_cons (ps_if (pt_cmpR op_eq (pv 2) pe_str (nomark _)) (pss_one (ps_ret (pe_tup (pa_n (pv 2) (pa_n (pv 0) (pa_n (pe_call (ok_takesaying T 6) (hr.mono (by omega)) rfl T.mtakesaying T.ftakesaying.kp T.btakesaying .nil pass0 (pa_n (pv 1) (pa_n pe_int pa_nil))) pa_nil)))))) pss_nil)
      (pss_cons (ps_if (pt_cmpR op_eq (pv 2) pe_str (nomark _)) (pss_one (ps_ret (pe_tup (pa_n (pv 2) (pa_n (pv 0) (pa_n (pe_call (ok_takewaited T) (hr.mono (by omega)) rfl T.mtakewaited T.ftakewaited.kp T.btakewaited .nil pass0 (pa_n (pv 1) pa_nil)) pa_nil)))))) pss_nil)
      (pss_cons (ps_if (pt_cmpR op_eq (pv 2) pe_str (nomark _)) (pss_one (ps_ret (pe_tup (pa_n (pv 2) (pa_n (pv 0) (pa_n (pe_call (ok_takename T) (hr.mono (by omega)) rfl T.mtakename T.ftakename.kp T.btakename .nil pass0 (pa_n (pv 1) pa_nil)) pa_nil)))))) pss_nil)
      (pss_one (ps_ret (pe_tup (pa_n (pv 2) (pa_n (pv 0) (pa_n (pe_call (ok_takename T) (hr.mono (by omega)) rfl T.mtakename T.ftakename.kp T.btakename .nil pass0 (pa_n (pv 1) pa_nil)) (pa_n (pe_call (ok_takesaying T 6) (hr.mono (by omega)) rfl T.mtakesaying T.ftakesaying.kp T.btakesaying .nil pass0 (pa_n (pv 1) (pa_n pe_int pa_nil))) pa_nil))))))))))))), ?_⟩
    try dsimp only [L2.start, m_cons, m_nil, List.cons_append, List.nil_append, List.replicate_succ, List.replicate_zero, List.length_cons, List.length_nil, Nat.reduceAdd, Nat.reduceSub, Nat.zero_add]
    rcases m.oc with ⟨wo, y, z, s, hw, hk, mk, f5, ft, fw, fh⟩ | no
    · rw [hw] at hws
      simp only [List.cons.injEq, true_and] at hws
      obtain ⟨rfl, rfl⟩ := hws
      obtain ⟨nz, hs1, hs2⟩ := hk hm
      have e : H wl = some (.lst (.str wo :: .str z :: (sw s).map V.str)) := by rw [e0]; simp
      refine cut_seq fun R_1 hR1 => ?_
      wp_walk using e, List.isEmpty_cons
      refine hR1 _ _ ?_
      clear hR1
      refine cut_seq fun R_2 hR2 => ?_
      wp_walk
      refine fun p hp => ⟨rfl, flat5, ?_⟩
      have npw : wl ≠ p := ne_of_none e hp
      have KN := Kp.new (S := []) (o := .tup [.str "order", .str "child", .str "timer", .str "wait", .str "hear"]) hp
      have e1 := KN.at e
      have K1 : Kp [wl] H _ := KN.mono (by simp)
      generalize upd H p (.tup [.str "order", .str "child", .str "timer", .str "wait", .str "hear"]) = G at *
      wp_walk using f5
      refine hR2 _ _ ?_
      clear hR2
      refine cut_seq fun R_3 hR3 => ?_
      wp_walk using e1, List.tail_cons
      have K2 := K1.trans (Kp.set1 (a := wl) (H := G) (o := .lst (.str z :: (sw s).map V.str)))
      have e2 : upd G wl (.lst (.str z :: (sw s).map V.str)) wl = some (.lst (.str z :: (sw s).map V.str)) := upd_same
      generalize upd G wl (.lst (.str z :: (sw s).map V.str)) = G2 at *
      refine hR3 _ _ ?_
      clear hR3
      refine cut_seq fun R_4 hR4 => ?_
      wp_walk using ft
      refine hR4 _ _ ?_
      clear hR4
      refine cut_seq fun R_5 hR5 => ?_
      wp_walk using fw
      refine hR5 _ _ ?_
      clear hR5
      refine cut_seq fun R_6 hR6 => ?_
      wp_walk using fh
      refine hR6 _ _ ?_
      clear hR6
      wp_walk
      refine ⟨wl, z, _, rfl, e2, nz, fun H3 e3 K3 => ?_⟩
      wp_walk
      refine ⟨wl, 1, s, [], rfl, by rw [e3]; simp, hs1, by omega, hs2, fun v H4 hv e4 K4 => ?_⟩
      wp_walk
      exact fun p4 hp4 => q _ _ (mk _ _ _ upd_same (hv.kp (TupKp.new hp4))) ((Kp.new (S := []) hp4).at e4) (((K2.trans K3).trans K4).trans (Kp.new hp4))
    cases m <;> simp only [Stm.isN, Bool.false_eq_true] at hN
    case set y s =>
      simp only [Stm.ws, List.cons.injEq, true_and] at hws
      obtain ⟨rfl, rfl⟩ := hws
      obtain ⟨w0, r0, hw0, hin⟩ := sw_head5 hm.2.1
      have e : H wl = some (.lst (.str w0 :: r0.map V.str)) := by rw [e0, hw0]; rfl
      have e00 : H wl = some (.lst ((sw s).map V.str ++ [])) := by rw [e0]; simp
      wp_walk using e, List.isEmpty_cons
      refine fun p hp => ⟨rfl, flat5, ?_⟩
      have KN := Kp.new (S := []) (o := .tup [.str "order", .str "child", .str "timer", .str "wait", .str "hear"]) hp
      have e1 := KN.at e00
      have K1 : Kp [wl] H _ := KN.mono (by simp)
      generalize upd H p (.tup [.str "order", .str "child", .str "timer", .str "wait", .str "hear"]) = G at *
      wp_walk using hin
      refine ⟨wl, 1, s, [], rfl, e1, hm.2.1, by have := hm.2.2; omega, hm.2.2, fun v H2 hv e2 K2 => ?_⟩
      wp_walk
      exact fun p4 hp4 => q _ _ (.set upd_same (hv.kp (TupKp.new hp4))) ((Kp.new (S := []) hp4).at e2) ((K1.trans K2).trans (Kp.new hp4))

    case timer y s =>
      simp only [Stm.ws, List.cons.injEq, true_and] at hws
      obtain ⟨rfl, rfl⟩ := hws
      have e : H wl = some (.lst (.str "timer" :: (sw s).map V.str)) := by rw [e0]; simp
      wp_walk using e, List.isEmpty_cons
      refine fun p hp => ⟨rfl, flat5, ?_⟩
      have npw : wl ≠ p := ne_of_none e hp
      have KN := Kp.new (S := []) (o := .tup [.str "order", .str "child", .str "timer", .str "wait", .str "hear"]) hp
      have e1 := KN.at e
      have K1 : Kp [wl] H _ := KN.mono (by simp)
      generalize upd H p (.tup [.str "order", .str "child", .str "timer", .str "wait", .str "hear"]) = G at *
      wp_walk using e1, List.tail_cons, inS5, inS2, String.reduceEq, decide_true, decide_false, Bool.or_false, Bool.true_or, Bool.or_true, Bool.false_or
      have K2 := K1.trans (Kp.set1 (a := wl) (H := G) (o := .lst ((sw s).map V.str)))
      have e2 : upd G wl (.lst ((sw s).map V.str)) wl = some (.lst ((sw s).map V.str)) := upd_same
      generalize upd G wl (.lst ((sw s).map V.str)) = G2 at *
      wp_walk
      refine ⟨wl, 1, s, [], rfl, by rw [e2]; simp, hm.2.1, by have := hm.2.2; omega, hm.2.2, fun v H3 hv e3 K3 => ?_⟩
      wp_walk
      exact fun p4 hp4 => q _ _ (.timer upd_same (hv.kp (TupKp.new hp4))) ((Kp.new (S := []) hp4).at e3) ((K2.trans K3).trans (Kp.new hp4))

    case wait y ss =>
      simp only [Stm.ws, List.cons.injEq, true_and] at hws
      obtain ⟨rfl, rfl⟩ := hws
      have e : H wl = some (.lst (.str "wait" :: (ss.map sw).flatten.map V.str)) := by rw [e0]; simp
      wp_walk using e, List.isEmpty_cons
      refine fun p hp => ⟨rfl, flat5, ?_⟩
      have npw : wl ≠ p := ne_of_none e hp
      have KN := Kp.new (S := []) (o := .tup [.str "order", .str "child", .str "timer", .str "wait", .str "hear"]) hp
      have e1 := KN.at e
      have K1 : Kp [wl] H _ := KN.mono (by simp)
      generalize upd H p (.tup [.str "order", .str "child", .str "timer", .str "wait", .str "hear"]) = G at *
      wp_walk using e1, List.tail_cons, inS5, inS2, String.reduceEq, decide_true, decide_false, Bool.or_false, Bool.true_or, Bool.or_true, Bool.false_or
      have K2 := K1.trans (Kp.set1 (a := wl) (H := G) (o := .lst ((ss.map sw).flatten.map V.str)))
      have e2 : upd G wl (.lst ((ss.map sw).flatten.map V.str)) wl = some (.lst ((ss.map sw).flatten.map V.str)) := upd_same
      generalize upd G wl (.lst ((ss.map sw).flatten.map V.str)) = G2 at *
      wp_walk
      refine ⟨wl, ss, rfl, e2, hm.2.1, hm.2.2, fun p3 us H3 h3 hU e3 K3 => ?_⟩
      wp_walk
      exact fun p4 hp4 => q _ _ (.wait upd_same ((Kp.new (S := []) hp4).at h3) (hU.kp (TupKp.new hp4))) ((Kp.new (S := []) hp4).at e3) ((K2.trans K3).trans (Kp.new hp4))

    case hear y k =>
      simp only [Stm.ws, List.cons.injEq, true_and] at hws
      obtain ⟨rfl, rfl⟩ := hws
      have e : H wl = some (.lst ([.str "hear", .str k])) := by rw [e0]; simp
      wp_walk using e, List.isEmpty_cons
      refine fun p hp => ⟨rfl, flat5, ?_⟩
      have npw : wl ≠ p := ne_of_none e hp
      have KN := Kp.new (S := []) (o := .tup [.str "order", .str "child", .str "timer", .str "wait", .str "hear"]) hp
      have e1 := KN.at e
      have K1 : Kp [wl] H _ := KN.mono (by simp)
      generalize upd H p (.tup [.str "order", .str "child", .str "timer", .str "wait", .str "hear"]) = G at *
      wp_walk using e1, List.tail_cons, inS5, inS2, String.reduceEq, decide_true, decide_false, Bool.or_false, Bool.true_or, Bool.or_true, Bool.false_or
      have K2 := K1.trans (Kp.set1 (a := wl) (H := G) (o := .lst ([.str k])))
      have e2 : upd G wl (.lst ([.str k])) wl = some (.lst ([.str k])) := upd_same
      generalize upd G wl (.lst ([.str k])) = G2 at *
      wp_walk
      refine ⟨wl, k, [], rfl, e2, hm.2, fun H3 e3 K3 => ?_⟩
      wp_walk
      exact fun p4 hp4 => q _ _ (.hear upd_same) ((Kp.new (S := []) hp4).at e3) ((K2.trans K3).trans (Kp.new hp4))
    case order y z s => exact absurd rfl (no y z s).1
    case child y z s => exact absurd rfl (no y z s).2
set_option linter.all false in private theorem ok_takeplain {t : Ad} (T : Tx K mg t) : FnOk P w K mg base CX0 26 t.atakeplain t.dtakeplain ["words"] spTP := by
  refine T.ftakeplain.ok sc_takeplain (fun vs H Q E h => ?_) (fun cdv A outer s H vs Q E hr h => ?_)
  · obtain ⟨wl, m, rfl, _⟩ := h
    rfl
  · obtain ⟨wl, m, rfl, hb, hm, e0, q⟩ := h
    refine ⟨_, (pss_cons (ps_set (i := 1) sc_takeplain.nd rfl (Or.inl rfl) (pe_call (ok_takeword T) (hr.mono (by omega)) rfl T.mtakeword T.ftakeword.kp T.btakeword .nil pass0 (pa_n (pv 0) pa_nil)))
      (pss_cons (ps_if (pt_cmpR op_eq (pv 1) pe_str (nomark _)) (pss_one (ps_ret (pe_tup (pa_n (pv 1) (pa_n (pe_call (ok_takesaying T 6) (hr.mono (by omega)) rfl T.mtakesaying T.ftakesaying.kp T.btakesaying .nil pass0 (pa_n (pv 0) (pa_n pe_int pa_nil))) (pa_n (pe_call (ok_takename T) (hr.mono (by omega)) rfl T.mtakename T.ftakename.kp T.btakename .nil pass0 (pa_n (pv 0) pa_nil)) (pa_n (pe_call (ok_takesaying T 6) (hr.mono (by omega)) rfl T.mtakesaying T.ftakesaying.kp T.btakesaying .nil pass0 (pa_n (pv 0) (pa_n pe_int pa_nil))) pa_nil))))))) pss_nil)
      (pss_cons (ps_if (PW.pt (pw_or (pt_cmpR op_eq (pv 1) pe_str (nomark _)) (pw_or1 (pt_cmpR op_eq (pv 1) pe_str (nomark _))))) (pss_one (ps_ret (pe_tup (pa_n (pv 1) (pa_n (pe_call (ok_takesaying T 6) (hr.mono (by omega)) rfl T.mtakesaying T.ftakesaying.kp T.btakesaying .nil pass0 (pa_n (pv 0) (pa_n pe_int pa_nil))) pa_nil))))) pss_nil)
      (pss_cons (ps_if (PW.pt (pw_or (pt_not (pt_val (pe_call (ok_isname T) (hr.mono (by omega)) rfl T.misname T.fisname.kp T.bisname .nil pass0 (pa_n (pv 1) pa_nil)))) (pw_or1 (pt_cmpR op_ne (pe_call (ok_takeword T) (hr.mono (by omega)) rfl T.mtakeword T.ftakeword.kp T.btakeword .nil pass0 (pa_n (pv 0) pa_nil)) pe_str (nomark _))))) (pss_one ps_never) pss_nil)
      (pss_one (ps_ret (pe_call (ok_takegiven T) (hr.mono (by omega)) rfl T.mtakegiven T.ftakegiven.kp T.btakegiven .nil pass0 (pa_n (pv 1) (pa_n (pv 0) pa_nil))))))))), ?_⟩
    try dsimp only [L2.start, m_cons, m_nil, List.cons_append, List.nil_append, List.replicate_succ, List.replicate_zero, List.length_cons, List.length_nil, Nat.reduceAdd, Nat.reduceSub, Nat.zero_add]
    cases m <;> simp only [Stm.blk, Bool.true_eq_false] at hb
    case send s k r =>
      have e : H wl = some (.lst (.str "send" :: ((sw s).map V.str ++ .str k :: ((sw r).map V.str ++ [])))) := by rw [e0]; simp [Stm.ws]
      wp_walk using e, List.tail_cons
      refine ⟨wl, 1, s, _, rfl, upd_same, hm.1.1, by have := hm.1.2; omega, hm.1.2, fun v2 H2 hv2 e2 K2 => ?_⟩
      wp_walk
      refine ⟨wl, k, _, rfl, e2, hm.2.1, fun H3 e3 K3 => ?_⟩
      wp_walk
      refine ⟨wl, 1, r, [], rfl, by rw [e3]; simp, hm.2.2.1, by have := hm.2.2.2; omega, hm.2.2.2, fun v4 H4 hv4 e4 K4 => ?_⟩
      wp_walk
      exact fun p5 hp5 => q _ _ (.send upd_same (((hv2.kp (TupKp.w K3 e2)).kp (TupKp.w K4 e3)).kp (TupKp.new hp5)) (hv4.kp (TupKp.new hp5))) ((Kp.new (S := []) hp5).at e4) ((((Kp.set1.trans K2).trans K3).trans K4).trans (Kp.new hp5))

    case drop s =>
      have e : H wl = some (.lst (.str "drop" :: ((sw s).map V.str ++ []))) := by rw [e0]; simp [Stm.ws]
      wp_walk using e, List.tail_cons
      refine ⟨wl, 1, s, [], rfl, by rw [upd_same]; simp, hm.1, by have := hm.2; omega, hm.2, fun v2 H2 hv2 e2 K2 => ?_⟩
      wp_walk
      exact fun p5 hp5 => q _ _ (.drop upd_same (hv2.kp (TupKp.new hp5))) ((Kp.new (S := []) hp5).at e2) ((Kp.set1.trans K2).trans (Kp.new hp5))

    case fin s =>
      have e : H wl = some (.lst (.str "end" :: ((sw s).map V.str ++ []))) := by rw [e0]; simp [Stm.ws]
      wp_walk using e, List.tail_cons
      refine ⟨wl, 1, s, [], rfl, by rw [upd_same]; simp, hm.1, by have := hm.2; omega, hm.2, fun v2 H2 hv2 e2 K2 => ?_⟩
      wp_walk
      exact fun p5 hp5 => q _ _ (.fin upd_same (hv2.kp (TupKp.new hp5))) ((Kp.new (S := []) hp5).at e2) ((Kp.set1.trans K2).trans (Kp.new hp5))

    case set x s =>
      have hx := hm.1
      obtain ⟨ws, hws⟩ : ∃ ws, Stm.ws (.set x s) = x :: "=" :: ws := ⟨_, rfl⟩
      have e : H wl = some (.lst (.str x :: .str "=" :: ws.map V.str)) := by rw [e0, hws]; rfl
      wp_walk using e, List.tail_cons, nm_ne hx (y := "send") (by decide), nm_ne hx (y := "drop") (by decide), nm_ne hx (y := "end") (by decide)
      refine ⟨nm_len hx, fun H2 K2 => ?_⟩
      have e2 := K2.at (upd_same (H := H) (a := wl) (o := .lst (.str "=" :: ws.map V.str)))
      wp_walk using nmOk_B.mp hx, e2, List.tail_cons
      exact ⟨wl, x, _, ws, rfl, hws, rfl, hm, upd_same, fun v H4 hv e4 K4 => q v H4 hv e4 (((Kp.set1.trans (Kp.of K2.same)).trans Kp.set1).trans K4)⟩

    case order x y s =>
      have hx := hm.1
      obtain ⟨ws, hws⟩ : ∃ ws, Stm.ws (.order x y s) = x :: "=" :: ws := ⟨_, rfl⟩
      have e : H wl = some (.lst (.str x :: .str "=" :: ws.map V.str)) := by rw [e0, hws]; rfl
      wp_walk using e, List.tail_cons, nm_ne hx (y := "send") (by decide), nm_ne hx (y := "drop") (by decide), nm_ne hx (y := "end") (by decide)
      refine ⟨nm_len hx, fun H2 K2 => ?_⟩
      have e2 := K2.at (upd_same (H := H) (a := wl) (o := .lst (.str "=" :: ws.map V.str)))
      wp_walk using nmOk_B.mp hx, e2, List.tail_cons
      exact ⟨wl, x, _, ws, rfl, hws, rfl, hm, upd_same, fun v H4 hv e4 K4 => q v H4 hv e4 (((Kp.set1.trans (Kp.of K2.same)).trans Kp.set1).trans K4)⟩

    case timer x s =>
      have hx := hm.1
      obtain ⟨ws, hws⟩ : ∃ ws, Stm.ws (.timer x s) = x :: "=" :: ws := ⟨_, rfl⟩
      have e : H wl = some (.lst (.str x :: .str "=" :: ws.map V.str)) := by rw [e0, hws]; rfl
      wp_walk using e, List.tail_cons, nm_ne hx (y := "send") (by decide), nm_ne hx (y := "drop") (by decide), nm_ne hx (y := "end") (by decide)
      refine ⟨nm_len hx, fun H2 K2 => ?_⟩
      have e2 := K2.at (upd_same (H := H) (a := wl) (o := .lst (.str "=" :: ws.map V.str)))
      wp_walk using nmOk_B.mp hx, e2, List.tail_cons
      exact ⟨wl, x, _, ws, rfl, hws, rfl, hm, upd_same, fun v H4 hv e4 K4 => q v H4 hv e4 (((Kp.set1.trans (Kp.of K2.same)).trans Kp.set1).trans K4)⟩

    case child x y s =>
      have hx := hm.1
      obtain ⟨ws, hws⟩ : ∃ ws, Stm.ws (.child x y s) = x :: "=" :: ws := ⟨_, rfl⟩
      have e : H wl = some (.lst (.str x :: .str "=" :: ws.map V.str)) := by rw [e0, hws]; rfl
      wp_walk using e, List.tail_cons, nm_ne hx (y := "send") (by decide), nm_ne hx (y := "drop") (by decide), nm_ne hx (y := "end") (by decide)
      refine ⟨nm_len hx, fun H2 K2 => ?_⟩
      have e2 := K2.at (upd_same (H := H) (a := wl) (o := .lst (.str "=" :: ws.map V.str)))
      wp_walk using nmOk_B.mp hx, e2, List.tail_cons
      exact ⟨wl, x, _, ws, rfl, hws, rfl, hm, upd_same, fun v H4 hv e4 K4 => q v H4 hv e4 (((Kp.set1.trans (Kp.of K2.same)).trans Kp.set1).trans K4)⟩

    case wait x ss =>
      have hx := hm.1
      obtain ⟨ws, hws⟩ : ∃ ws, Stm.ws (.wait x ss) = x :: "=" :: ws := ⟨_, rfl⟩
      have e : H wl = some (.lst (.str x :: .str "=" :: ws.map V.str)) := by rw [e0, hws]; rfl
      wp_walk using e, List.tail_cons, nm_ne hx (y := "send") (by decide), nm_ne hx (y := "drop") (by decide), nm_ne hx (y := "end") (by decide)
      refine ⟨nm_len hx, fun H2 K2 => ?_⟩
      have e2 := K2.at (upd_same (H := H) (a := wl) (o := .lst (.str "=" :: ws.map V.str)))
      wp_walk using nmOk_B.mp hx, e2, List.tail_cons
      exact ⟨wl, x, _, ws, rfl, hws, rfl, hm, upd_same, fun v H4 hv e4 K4 => q v H4 hv e4 (((Kp.set1.trans (Kp.of K2.same)).trans Kp.set1).trans K4)⟩

    case hear x k =>
      have hx := hm.1
      obtain ⟨ws, hws⟩ : ∃ ws, Stm.ws (.hear x k) = x :: "=" :: ws := ⟨_, rfl⟩
      have e : H wl = some (.lst (.str x :: .str "=" :: ws.map V.str)) := by rw [e0, hws]; rfl
      wp_walk using e, List.tail_cons, nm_ne hx (y := "send") (by decide), nm_ne hx (y := "drop") (by decide), nm_ne hx (y := "end") (by decide)
      refine ⟨nm_len hx, fun H2 K2 => ?_⟩
      have e2 := K2.at (upd_same (H := H) (a := wl) (o := .lst (.str "=" :: ws.map V.str)))
      wp_walk using nmOk_B.mp hx, e2, List.tail_cons
      exact ⟨wl, x, _, ws, rfl, hws, rfl, hm, upd_same, fun v H4 hv e4 K4 => q v H4 hv e4 (((Kp.set1.trans (Kp.of K2.same)).trans Kp.set1).trans K4)⟩
set_option linter.all false in private theorem ok_refusemore {t : Ad} (T : Tx K mg t) : FnOk P w K mg base CX0 1 t.arefusemore t.drefusemore ["words"] spMore := by
  refine T.frefusemore.ok sc_refusemore (fun vs H Q E h => ?_) (fun cdv A outer s H vs Q E hr h => ?_)
  · obtain ⟨a, rfl, _⟩ := h
    rfl
  · obtain ⟨a, rfl, e, q⟩ := h
    refine ⟨_, (pss_one (ps_if (pt_truC (pv 0) (fun _ => rfl)) (pss_one ps_never) pss_nil)), ?_⟩
    try dsimp only [L2.start, m_cons, m_nil, List.cons_append, List.nil_append, List.replicate_succ, List.replicate_zero, List.length_cons, List.length_nil, Nat.reduceAdd, Nat.reduceSub, Nat.zero_add]
    wp_walk using e, List.isEmpty_nil
    exact q
set_option linter.all false in private theorem st_second {t : Ad} (T : Tx K mg t) {n d : Nat} (hn : 30 ≤ n) (IH : FnOk P w K mg base CX0 n t.aReaderblock t.dReaderblock ["self", "deep"] (spBk t.CReader d)) : FnOk P w K mg base CX0 (n + 1) t.aReadersecondblock t.dReadersecondblock ["self", "deep"] (spSnd t.CReader d) := by
  refine T.fReadersecondblock.ok sc_Readersecondblock (fun vs H Q E h => ?_) (fun cdv A outer s H vs Q E hr h => ?_)
  · obtain ⟨rd, dx, ll, rows, i, k, dp, o, rest, rfl, _⟩ := h
    rfl
  · obtain ⟨rd, dx, ll, rows, i, k, dp, o, rest, rfl, R, hr0, h5, h60, hw, hdd, hrl, hrs, q⟩ := h
    refine ⟨_, (pss_cons (ps_if (pt_cmpR op_ne (pe_meth0 (pv 0) T.clReader T.meReaderahead (ok_Readerahead T) (hr.mono (by omega)) T.bReaderahead .nil pass0) pe_str (nomark _)) (pss_one (ps_ret (pe_tup pa_nil))) pss_nil)
      (pss_cons (ps_augF T.clReader T.nalinesread (pv 0) pe_int)
      (pss_cons (ps_set (i := 2) sc_Readersecondblock.nd rfl (Or.inl rfl) (pe_meth (pv 0) T.clReader T.meReaderblock IH (hr.mono (by omega)) T.bReaderblock .nil pass0 (pa_n (pv 1) pa_nil)))
      (pss_cons (ps_if (pt_not (pt_truC (pv 2) (fun _ => rfl))) (pss_one ps_never) pss_nil)
      (pss_one (ps_ret (pv 2))))))), ?_⟩
    try dsimp only [L2.start, m_cons, m_nil, List.cons_append, List.nil_append, List.replicate_succ, List.replicate_zero, List.length_cons, List.length_nil, Nat.reduceAdd, Nat.reduceSub, Nat.zero_add]
    have ins := R.ins
    cases o with
    | nil =>
      have hd0 : rows.drop i = ("done" : Str) :: rest := hr0
      wp_walk using ins
      refine ⟨rd, dx, ll, rows, i, k, rfl, R, ?_⟩
      rw [ah_some hd0]
      wp_walk
      exact fun p hp => q p [] _ upd_same .nil (R.kp (Kp.new hp)) (Kp.new hp)
    | cons m ms =>
      have hd0 : rows.drop i = ("else" : Str) :: (rowsL (m :: ms) ++ ("done" : Str) :: rest) := hr0
      wp_walk using ins
      refine ⟨rd, dx, ll, rows, i, k, rfl, R, ?_⟩
      rw [ah_some hd0]
      wp_walk using ins
      have R1 := R.set (i' := i + 1) (k' := k)
      rw [show ((i + 1 : Nat) : Int) = (i : Int) + 1 by omega] at R1
      have K1 := Kp.set1 (a := rd) (H := H) (o := .ins t.CReader dx [("lines", .ref ll), ("lines_read", .int ((i : Int) + 1)), ("statements_read", .int k)])
      have ins1 := R1.ins
      generalize upd H rd (.ins t.CReader dx [("lines", .ref ll), ("lines_read", .int ((i : Int) + 1)), ("statements_read", .int k)]) = G at *
      wp_walk using ins1
      refine ⟨rd, dx, ll, rows, i + 1, k, dp, m :: ms, "done" :: rest, rfl, by exact ⟨by rw [ins1], R1.lin⟩, drop_one hd0, .inr rfl, h5, h60, hw, hdd, hrl, hrs, fun p us H2 h2 hU R2 K2 => ?_⟩
      have hne : us.isEmpty = false := by
        have := hU.len
        cases us with
        | nil => simp at this
        | cons _ _ => rfl
      wp_walk using h2, hne
      refine q p us H2 h2 hU ?_ (K1.trans K2)
      have : i + (elsR (m :: ms)).length = i + 1 + (rowsL (m :: ms)).length := by show i + (("else" : Str) :: rowsL (m :: ms)).length = _; simp only [List.length_cons]; omega
      rw [this]
      exact R2
set_option linter.all false in private theorem st_with {t : Ad} (T : Tx K mg t) {n d : Nat} (hn : 30 ≤ n) (IH : FnOk P w K mg base CX0 n t.aReaderblock t.dReaderblock ["self", "deep"] (spBk t.CReader d)) : FnOk P w K mg base CX0 (n + 2) t.aReaderwithblocks t.dReaderwithblocks ["self", "words", "deep"] (spWB t.CReader d) := by
  refine T.fReaderwithblocks.ok sc_Readerwithblocks (fun vs H Q E h => ?_) (fun cdv A outer s H vs Q E hr h => ?_)
  · obtain ⟨rd, dx, ll, wl, rows, i, k, dp, m, rest, rfl, _⟩ := h
    rfl
  · obtain ⟨rd, dx, ll, wl, rows, i, k, dp, m, rest, rfl, R, hb, e0, nwl, hr0, h5, h60, hw, hdd, hrl, hrs, q⟩ := h
    refine ⟨_, (pss_cons (ps_set (i := 3) sc_Readerwithblocks.nd rfl (Or.inl rfl) (pe_call (ok_takeword T) (hr.mono (by omega)) rfl T.mtakeword T.ftakeword.kp T.btakeword .nil pass0 (pa_n (pv 1) pa_nil)))
      (pss_cons (ps_set (i := 4) sc_Readerwithblocks.nd rfl (Or.inl rfl) (pe_call (ok_takesaying T 6) (hr.mono (by omega)) rfl T.mtakesaying T.ftakesaying.kp T.btakesaying .nil pass0 (pa_n (pv 1) (pa_n pe_int pa_nil))))
      (pss_cons (ps_expr (pe_call (ok_refusemore T) (hr.mono (by omega)) rfl T.mrefusemore T.frefusemore.kp T.brefusemore .nil pass0 (pa_n (pv 1) pa_nil)))
      (pss_cons (ps_set (i := 5) sc_Readerwithblocks.nd rfl (Or.inl rfl) (pe_meth (pv 0) T.clReader T.meReaderblock IH (hr.mono (by omega)) T.bReaderblock .nil pass0 (pa_n (pe_op op_addC (pv 2) pe_int) pa_nil)))
      (pss_cons (ps_set (i := 6) sc_Readerwithblocks.nd rfl (Or.inl rfl) (pe_ifExp (pt_cmpR op_eq (pv 3) pe_str (nomark _)) (pe_tup (pa_n (pv 5) pa_nil)) (pe_tup (pa_n (pv 5) (pa_n (pe_meth (pv 0) T.clReader T.meReadersecondblock (st_second T hn IH) (hr.mono (by omega)) T.bReadersecondblock .nil pass0 (pa_n (pe_op op_addC (pv 2) pe_int) pa_nil)) pa_nil)))))
      (pss_cons (ps_if (pt_cmpR op_ne (pe_meth0 (pv 0) T.clReader T.meReaderahead (ok_Readerahead T) (hr.mono (by omega)) T.bReaderahead .nil pass0) pe_str (nomark _)) (pss_one ps_never) pss_nil)
      (pss_cons (ps_augF T.clReader T.nalinesread (pv 0) pe_int)
      (pss_one (ps_ret (pe_op op_tcat (pe_tup (pa_n (pv 3) (pa_n (pv 4) pa_nil))) (pv 6))))))))))), ?_⟩
    try dsimp only [L2.start, m_cons, m_nil, List.cons_append, List.nil_append, List.replicate_succ, List.replicate_zero, List.length_cons, List.length_nil, Nat.reduceAdd, Nat.reduceSub, Nat.zero_add]
    have nrw : rd ≠ wl := ne_of R.ins e0 (by intro z; cases z)
    cases m <;> simp only [Stm.blk, Bool.false_eq_true] at hb
    case whl s b =>
      have e : H wl = some (.lst (.str "while" :: ((sw s).map V.str ++ []))) := by rw [e0]; simp [Stm.ws]
      simp only [Stm.dp] at h5 hdd
      simp only [Stm.sz] at h60
      have hr1 : rows.drop i = rowsL b ++ (("done" : Str) :: rest) := by rw [hr0]; simp [Stm.rows]
      refine cut_seq fun R_1 hR1 => ?_
      wp_walk using e, List.tail_cons
      have K1 := Kp.set1 (a := wl) (H := H) (o := .lst ((sw s).map V.str))
      have R1 := R.w K1 nrw nwl.symm
      have e1 : upd H wl (.lst ((sw s).map V.str)) wl = some (.lst ((sw s).map V.str ++ [])) := by rw [upd_same]; simp
      generalize upd H wl (.lst ((sw s).map V.str)) = G1 at *
      refine hR1 _ _ ?_
      clear hR1
      refine cut_seq fun R_2 hR2 => ?_
      wp_walk
      refine ⟨wl, 1, s, [], rfl, e1, hw.1.1, by have := hw.1.2; omega, hw.1.2, fun v2 H2 hv2 e2 K2 => ?_⟩
      have R2 := R1.w K2 nrw nwl.symm
      refine hR2 _ _ ?_
      clear hR2
      refine cut_seq fun R_3 hR3 => ?_
      wp_walk
      refine ⟨wl, rfl, e2, ?_⟩
      wp_walk
      refine hR3 _ _ ?_
      clear hR3
      refine cut_seq fun R_4 hR4 => ?_
      wp_walk using R2.ins
      refine ⟨rd, dx, ll, rows, i, k, dp + 1, b, _, rfl, R2, hr1, .inr rfl, by omega, by omega, hw.2, by omega, hrl, hrs, fun p3 us H3 h3 hU R3 K3 => ?_⟩
      have hr3 := drop_more hr1
      have s3 := hv2.kp (TupKp.rd R2 K3)
      refine hR4 _ _ ?_
      clear hR4
      refine cut_seq fun R_5 hR5 => ?_
      wp_walk
      refine fun p4 hp4 => ?_
      have N4 := Kp.new (S := []) (o := .tup [.ref p3]) hp4
      have R4 := R3.kp N4
      have e4 : upd H3 p4 (.tup [.ref p3]) p4 = some (.tup [.ref p3]) := upd_same
      have s4 := s3.kp (TupKp.nil N4)
      have U4 := hU.kp (TupKp.nil N4)
      have h4 := N4.at h3
      have K4 := K3.trans (N4.mono (by simp) : Kp [rd] H3 _)
      generalize upd H3 p4 (.tup [.ref p3]) = G4 at *
      refine hR5 _ _ ?_
      clear hR5
      refine cut_seq fun R_6 hR6 => ?_
      wp_walk using R4.ins
      refine ⟨rd, dx, ll, rows, _, _, rfl, R4, ?_⟩
      rw [ah_some hr3]
      wp_walk
      refine hR6 _ _ ?_
      clear hR6
      refine cut_seq fun R_7 hR7 => ?_
      wp_walk using R4.ins
      have R5 := R4.set (i' := i + (rowsL b).length + 1) (k' := k + szL b)
      rw [show ((i + (rowsL b).length + 1 : Nat) : Int) = ((i + (rowsL b).length : Nat) : Int) + 1 by omega] at R5
      have T5 : TupKp G4 _ := TupKp.rd R4 (Kp.set1 (a := rd) (H := G4) (o := .ins t.CReader dx [("lines", .ref ll), ("lines_read", .int (((i + (rowsL b).length : Nat) : Int) + 1)), ("statements_read", .int ((k + szL b : Nat) : Int))]))
      have K5 := K4.trans (Kp.set1 (a := rd) (H := G4) (o := .ins t.CReader dx [("lines", .ref ll), ("lines_read", .int (((i + (rowsL b).length : Nat) : Int) + 1)), ("statements_read", .int ((k + szL b : Nat) : Int))]))
      generalize upd G4 rd (.ins t.CReader dx [("lines", .ref ll), ("lines_read", .int (((i + (rowsL b).length : Nat) : Int) + 1)), ("statements_read", .int ((k + szL b : Nat) : Int))]) = G5 at *
      refine hR7 _ _ ?_
      clear hR7
      wp_walk
      refine fun p6 hp6 => ?_
      have N6 := Kp.new (S := []) (o := .tup [.str "while", v2]) hp6
      have e46 := N6.at (T5 _ _ e4)
      wp_walk using e46, reduceCtorEq, e_tcat
      refine fun p7 hp7 => ?_
      have N7 := N6.trans (Kp.new (S := []) (o := .tup [.str "while", v2, .ref p3]) hp7)
      refine q _ _ (.whl upd_same ((s4.kp T5).kp (TupKp.nil N7)) (N7.at (T5 _ _ h4)) ((U4.kp T5).kp (TupKp.nil N7))) ?_ ?_
      · have e1' : i + ((Stm.whl s b).rows.length - 1) = i + (rowsL b).length + 1 := by simp [Stm.rows]; omega
        have e2' : k + ((Stm.whl s b).sz - 1) = k + szL b := by simp [Stm.sz]
        rw [e1', e2']
        exact (⟨by rw [R5.ins], R5.lin⟩ : RdAt t.CReader G5 rd dx ll rows (i + (rowsL b).length + 1) (k + szL b)).kp N7
      · exact (((K1.mono (by simp)).trans (K2.mono (by simp))).trans (K5.mono (by simp))).trans (N7.mono (by simp))
    case iff s b o =>
      have e : H wl = some (.lst (.str "if" :: ((sw s).map V.str ++ []))) := by rw [e0]; simp [Stm.ws]
      simp only [Stm.dp] at h5 hdd
      simp only [Stm.sz] at h60
      have hr1 : rows.drop i = rowsL b ++ (elsR o ++ (("done" : Str) :: rest)) := by rw [hr0]; simp [Stm.rows, elsR]
      have hst : stopR (elsR o ++ (("done" : Str) :: rest)) := by
        cases o with
        | nil => exact .inr rfl
        | cons a c => exact .inl rfl
      refine cut_seq fun R_1 hR1 => ?_
      wp_walk using e, List.tail_cons
      have K1 := Kp.set1 (a := wl) (H := H) (o := .lst ((sw s).map V.str))
      have R1 := R.w K1 nrw nwl.symm
      have e1 : upd H wl (.lst ((sw s).map V.str)) wl = some (.lst ((sw s).map V.str ++ [])) := by rw [upd_same]; simp
      generalize upd H wl (.lst ((sw s).map V.str)) = G1 at *
      refine hR1 _ _ ?_
      clear hR1
      refine cut_seq fun R_2 hR2 => ?_
      wp_walk
      refine ⟨wl, 1, s, [], rfl, e1, hw.1.1, by have := hw.1.2; omega, hw.1.2, fun v2 H2 hv2 e2 K2 => ?_⟩
      have R2 := R1.w K2 nrw nwl.symm
      refine hR2 _ _ ?_
      clear hR2
      refine cut_seq fun R_3 hR3 => ?_
      wp_walk
      refine ⟨wl, rfl, e2, ?_⟩
      wp_walk
      refine hR3 _ _ ?_
      clear hR3
      refine cut_seq fun R_4 hR4 => ?_
      wp_walk using R2.ins
      refine ⟨rd, dx, ll, rows, i, k, dp + 1, b, _, rfl, R2, hr1, hst, by omega, by omega, hw.2.1, by omega, hrl, hrs, fun p3 us H3 h3 hU R3 K3 => ?_⟩
      have hr3 := drop_more hr1
      have s3 := hv2.kp (TupKp.rd R2 K3)
      refine hR4 _ _ ?_
      clear hR4
      refine cut_seq fun R_5 hR5 => ?_
      wp_walk using R3.ins
      refine ⟨rd, dx, ll, rows, _, _, dp + 1, o, rest, rfl, R3, hr3, by omega, by omega, hw.2.2, by omega, hrl, hrs, fun q3 us3 H33 h33 hU3 R33 K33 => ?_⟩
      have T33 := TupKp.rd R3 K33
      wp_walk
      refine fun p4 hp4 => ?_
      have N4 := Kp.new (S := []) (o := .tup [.ref p3, .ref q3]) hp4
      have R4 := R33.kp N4
      have e4 : upd H33 p4 (.tup [.ref p3, .ref q3]) p4 = some (.tup [.ref p3, .ref q3]) := upd_same
      have s4 := (s3.kp T33).kp (TupKp.nil N4)
      have U4 := (hU.kp T33).kp (TupKp.nil N4)
      have V4 := hU3.kp (TupKp.nil N4)
      have h4 := N4.at (T33 _ _ h3)
      have g4 := N4.at h33
      have K4 := (K3.trans K33).trans (N4.mono (by simp) : Kp [rd] H33 _)
      have hr4 := drop_more hr3
      generalize upd H33 p4 (.tup [.ref p3, .ref q3]) = G4 at *
      refine hR5 _ _ ?_
      clear hR5
      refine cut_seq fun R_6 hR6 => ?_
      wp_walk using R4.ins
      refine ⟨rd, dx, ll, rows, _, _, rfl, R4, ?_⟩
      rw [ah_some hr4]
      wp_walk
      refine hR6 _ _ ?_
      clear hR6
      refine cut_seq fun R_7 hR7 => ?_
      wp_walk using R4.ins
      have R5 := R4.set (i' := i + (rowsL b).length + (elsR o).length + 1) (k' := k + szL b + szL o)
      rw [show ((i + (rowsL b).length + (elsR o).length + 1 : Nat) : Int) = ((i + (rowsL b).length + (elsR o).length : Nat) : Int) + 1 by omega] at R5
      have T5 : TupKp G4 _ := TupKp.rd R4 (Kp.set1 (a := rd) (H := G4) (o := .ins t.CReader dx [("lines", .ref ll), ("lines_read", .int (((i + (rowsL b).length + (elsR o).length : Nat) : Int) + 1)), ("statements_read", .int ((k + szL b + szL o : Nat) : Int))]))
      have K5 := K4.trans (Kp.set1 (a := rd) (H := G4) (o := .ins t.CReader dx [("lines", .ref ll), ("lines_read", .int (((i + (rowsL b).length + (elsR o).length : Nat) : Int) + 1)), ("statements_read", .int ((k + szL b + szL o : Nat) : Int))]))
      generalize upd G4 rd (.ins t.CReader dx [("lines", .ref ll), ("lines_read", .int (((i + (rowsL b).length + (elsR o).length : Nat) : Int) + 1)), ("statements_read", .int ((k + szL b + szL o : Nat) : Int))]) = G5 at *
      refine hR7 _ _ ?_
      clear hR7
      wp_walk
      refine fun p6 hp6 => ?_
      have N6 := Kp.new (S := []) (o := .tup [.str "if", v2]) hp6
      have e46 := N6.at (T5 _ _ e4)
      wp_walk using e46, reduceCtorEq, e_tcat
      refine fun p7 hp7 => ?_
      have N7 := N6.trans (Kp.new (S := []) (o := .tup [.str "if", v2, .ref p3, .ref q3]) hp7)
      refine q _ _ (.iff upd_same ((s4.kp T5).kp (TupKp.nil N7)) (N7.at (T5 _ _ h4)) ((U4.kp T5).kp (TupKp.nil N7)) (N7.at (T5 _ _ g4)) ((V4.kp T5).kp (TupKp.nil N7))) ?_ ?_
      · have e1' : i + ((Stm.iff s b o).rows.length - 1) = i + (rowsL b).length + (elsR o).length + 1 := by simp [Stm.rows, elsR]; omega
        have e2' : k + ((Stm.iff s b o).sz - 1) = k + szL b + szL o := by simp [Stm.sz]; omega
        rw [e1', e2']
        exact (⟨by rw [R5.ins], R5.lin⟩ : RdAt t.CReader G5 rd dx ll rows (i + (rowsL b).length + (elsR o).length + 1) (k + szL b + szL o)).kp N7
      · exact (((K1.mono (by simp)).trans (K2.mono (by simp))).trans (K5.mono (by simp))).trans (N7.mono (by simp))
set_option linter.all false in private theorem st_statement {t : Ad} (T : Tx K mg t) {n d : Nat} (hn : 30 ≤ n) (IH : FnOk P w K mg base CX0 n t.aReaderblock t.dReaderblock ["self", "deep"] (spBk t.CReader d)) : FnOk P w K mg base CX0 (n + 3) t.aReaderstatement t.dReaderstatement ["self", "deep"] (spStt t.CReader (d + 1)) := by
  refine T.fReaderstatement.ok sc_Readerstatement (fun vs H Q E h => ?_) (fun cdv A outer s H vs Q E hr h => ?_)
  · obtain ⟨rd, dx, ll, rows, i, k, dp, m, rest, rfl, _⟩ := h
    rfl
  · obtain ⟨rd, dx, ll, rows, i, k, dp, m, rest, rfl, R, hr0, h5, h60, hw, hdd, hrl, hrs, q⟩ := h
    refine ⟨_, (pss_cons (ps_set (i := 2) sc_Readerstatement.nd rfl (Or.inl rfl) (pe_bm PySem.F.plainAttrs_str PySem.F.slot_str_split PySem.F.type_str_split mt_split (pe_meth0 (pv 0) T.clReader T.meReaderahead (ok_Readerahead T) (hr.mono (by omega)) T.bReaderahead .nil pass0) (pa_n pe_str pa_nil)))
      (pss_cons (ps_augF T.clReader T.nalinesread (pv 0) pe_int)
      (pss_cons (ps_augF T.clReader T.nastatementsread (pv 0) pe_int)
      (pss_cons (ps_if (pt_cmpR op_gt (pe_fldC T.clReader T.nastatementsread (pv 0)) (pe_glob (v := .int 60) rfl T.cMOSTSTATEMENTS ⟨_, rfl⟩) (nomark _)) (pss_one ps_never) pss_nil)
      (pss_cons (ps_if (pt_cmpR op_inC (pe_ix ix_c (pv 2) pe_int (fun _ _ => rfl)) (pe_tup (pa_n pe_str (pa_n pe_str pa_nil))) (by with_unfolding_all rfl)) (pss_one (ps_ret (pe_meth (pv 0) T.clReader T.meReaderwithblocks (st_with T hn IH) (hr.mono (by omega)) T.bReaderwithblocks .nil pass0 (pa_n (pv 2) (pa_n (pv 1) pa_nil))))) pss_nil)
      (pss_cons (ps_set (i := 3) sc_Readerstatement.nd rfl (Or.inl rfl) (pe_call (ok_takeplain T) (hr.mono (by omega)) rfl T.mtakeplain T.ftakeplain.kp T.btakeplain .nil pass0 (pa_n (pv 2) pa_nil)))
      (pss_cons (ps_expr (pe_call (ok_refusemore T) (hr.mono (by omega)) rfl T.mrefusemore T.frefusemore.kp T.brefusemore .nil pass0 (pa_n (pv 2) pa_nil)))
      (pss_one (ps_ret (pv 3)))))))))), ?_⟩
    try dsimp only [L2.start, m_cons, m_nil, List.cons_append, List.nil_append, List.replicate_succ, List.replicate_zero, List.length_cons, List.length_nil, Nat.reduceAdd, Nat.reduceSub, Nat.zero_add]
    obtain ⟨mr, hmr⟩ := rows_cons m
    have hok := Stm.wf_hok hw
    have hr1 : rows.drop i = m.hd :: (mr ++ rest) := by rw [hr0, hmr]; rfl
    have lh := Stm.hd_len hok
    have ins0 := R.ins
    have szp := m.sz_pos
    refine cut_seq fun R_1 hR1 => ?_
    wp_walk using ins0
    refine ⟨rd, dx, ll, rows, i, k, rfl, R, ?_⟩
    rw [ah_some hr1]
    wp_walk
    refine ⟨by decide +kernel, by omega, fun wl hwl => ?_⟩
    rw [hd_split hok]
    have N1 := Kp.new (S := []) (o := .lst (m.ws.map V.str)) hwl
    have R1 := R.kp N1
    have e1 : upd H wl (.lst (m.ws.map V.str)) wl = some (.lst (m.ws.map V.str)) := upd_same
    have nwl : wl ≠ ll := (ne_of_none R.lin hwl).symm
    have nwr : wl ≠ rd := (ne_of_none R.ins hwl).symm
    have ins1 := R1.ins
    generalize upd H wl (.lst (m.ws.map V.str)) = G1 at *
    refine hR1 _ _ ?_
    clear hR1
    refine cut_seq fun R_2 hR2 => ?_
    wp_walk using ins1
    refine hR2 _ _ ?_
    clear hR2
    refine cut_seq fun R_3 hR3 => ?_
    wp_walk
    have R2 := (R1.set (i' := i + 1) (k' := k)).set (i' := i + 1) (k' := k + 1)
    rw [show ((i + 1 : Nat) : Int) = (i : Int) + 1 by omega, show ((k + 1 : Nat) : Int) = (k : Int) + 1 by omega] at R2
    have K2 : Kp [rd] G1 (upd (upd G1 rd (.ins t.CReader dx [("lines", .ref ll), ("lines_read", .int ((i : Int) + 1)), ("statements_read", .int k)])) rd (.ins t.CReader dx [("lines", .ref ll), ("lines_read", .int ((i : Int) + 1)), ("statements_read", .int ((k : Int) + 1))])) := Kp.set1.trans Kp.set1
    have e2 := K2.at1 e1 nwr
    have ins2 := R2.ins
    generalize upd (upd G1 rd (.ins t.CReader dx [("lines", .ref ll), ("lines_read", .int ((i : Int) + 1)), ("statements_read", .int k)])) rd (.ins t.CReader dx [("lines", .ref ll), ("lines_read", .int ((i : Int) + 1)), ("statements_read", .int ((k : Int) + 1))]) = G2 at *
    refine hR3 _ _ ?_
    clear hR3
    refine cut_seq fun R_4 hR4 => ?_
    wp_walk using ins2
    rw [if_neg (by omega)]
    wp_walk
    refine hR4 _ _ ?_
    clear hR4
    refine cut_seq fun R_5 hR5 => ?_
    have R2' : RdAt t.CReader G2 rd dx ll rows (i + 1) (k + 1) := ⟨by rw [ins2], R2.lin⟩
    obtain ⟨w0, w1, wr, hws⟩ := ws_ne m
    have e2' : G2 wl = some (.lst (.str w0 :: .str w1 :: wr.map V.str)) := by rw [e2, hws]; rfl
    wp_walk using e2'
    refine fun p3 hp3 => ⟨rfl, flat2, ?_⟩
    have N3 := Kp.new (S := []) (o := .tup [.str "if", .str "while"]) hp3
    have R3 := R2'.kp N3
    have e3 := N3.at e2
    have K3 : Kp [rd] G1 _ := K2.trans (N3.mono (by simp))
    generalize upd G2 p3 (.tup [.str "if", .str "while"]) = G3 at *
    have K13 : ∀ {H5 : Hp}, Kp [rd, wl] G3 H5 → Kp [rd] H H5 := fun K5 b o eb nb => by
      have nb2 : b ≠ wl := ne_of_none eb hwl
      exact K5 b o (K3 b o (N1.at eb) nb) (by simp [nb2]; simpa using nb)
    cases hblk : m.blk with
    | true =>
      have hin : inV (.str w0) [.str "if", .str "while"] = true := by
        cases m <;> simp only [Stm.blk, Bool.false_eq_true] at hblk
        · simp only [Stm.ws, List.cons.injEq] at hws
          rw [← hws.1]
          decide +kernel
        · simp only [Stm.ws, List.cons.injEq] at hws
          rw [← hws.1]
          decide +kernel
      wp_walk using hin, R3.ins
      have hmt : m.rows.tail = mr := by rw [hmr]; rfl
      refine ⟨rd, dx, ll, wl, rows, i + 1, k + 1, dp, m, rest, rfl, R3, hblk, e3, nwl, by rw [hmt]; exact drop_one hr1, h5, by omega, hw, hdd, hrl, hrs, fun v H4 hv R4 K4 => ?_⟩
      have lm : m.rows.length = mr.length + 1 := by rw [hmr]; rfl
      have e1' : i + 1 + (m.rows.length - 1) = i + m.rows.length := by omega
      have e2' : k + 1 + (m.sz - 1) = k + m.sz := by omega
      rw [e1', e2'] at R4
      exact q v H4 hv R4 (K13 K4)
    | false =>
      have hin : inV (.str w0) [.str "if", .str "while"] = false := by
        cases m <;> simp only [Stm.blk, Bool.true_eq_false] at hblk
        case send => simp only [Stm.ws, List.cons.injEq] at hws; rw [← hws.1]; decide +kernel
        case drop => simp only [Stm.ws, List.cons.injEq] at hws; rw [← hws.1]; decide +kernel
        case fin => simp only [Stm.ws, List.cons.injEq] at hws; rw [← hws.1]; decide +kernel
        all_goals
          simp only [Stm.ws, List.cons.injEq] at hws
          rw [← hws.1]
          exact nm_in hok.1 (by decide)
      wp_walk using hin
      refine hR5 _ _ ?_
      clear hR5
      refine cut_seq fun R_6 hR6 => ?_
      wp_walk
      refine ⟨wl, m, rfl, hblk, hok, e3, fun v H4 hv e4 K4 => ?_⟩
      refine hR6 _ _ ?_
      clear hR6
      refine cut_seq fun R_7 hR7 => ?_
      wp_walk
      refine ⟨wl, rfl, e4, ?_⟩
      wp_walk
      refine hR7 _ _ ?_
      clear hR7
      have R4 := R3.w K4 nwr.symm nwl.symm
      have sz1 : m.sz = 1 ∧ m.rows.length = 1 := by cases m <;> simp only [Stm.blk, Bool.true_eq_false] at hblk <;> exact ⟨rfl, rfl⟩
      rw [sz1.1, sz1.2] at q
      wp_walk
      exact q v H4 hv R4 (K13 (K4.mono (by simp)))
set_option linter.all false in private theorem st_block {t : Ad} (T : Tx K mg t) {n d : Nat} (hn : 30 ≤ n) (IH : FnOk P w K mg base CX0 n t.aReaderblock t.dReaderblock ["self", "deep"] (spBk t.CReader d)) : FnOk P w K mg base CX0 (n + 4) t.aReaderblock t.dReaderblock ["self", "deep"] (spBk t.CReader (d + 1)) := by
  refine T.fReaderblock.ok sc_Readerblock (fun vs H Q E h => ?_) (fun cdv A outer s H vs Q E hr h => ?_)
  · obtain ⟨rd, dx, ll, rows, i, k, dp, b, rest, rfl, _⟩ := h
    rfl
  · obtain ⟨rd, dx, ll, rows, i, k, dp, b, rest, rfl, R, hr0, hst, h5, h60, hw, hdd, hrl, hrs, q⟩ := h
    refine ⟨_, (pss_cons (ps_if (pt_cmpR op_gt (pv 1) (pe_glob (v := .int 5) rfl T.cDEEPESTBLOCK ⟨_, rfl⟩) (nomark _)) (pss_one ps_never) pss_nil)
      (pss_cons (ps_set (i := 2) sc_Readerblock.nd rfl (Or.inl rfl) (pe_lst pa_nil))
      (pss_cons (ps_while PassesOwn.never (pt_cmpR op_notInC (pe_meth0 (pv 0) T.clReader T.meReaderahead (ok_Readerahead T) (hr.mono (by omega)) T.bReaderahead .nil pass0) (pe_tup (pa_n pe_non (pa_n pe_str (pa_n pe_str pa_nil)))) (by with_unfolding_all rfl)) (pss_one (ps_expr (pe_appC (pv 2) (pe_meth (pv 0) T.clReader T.meReaderstatement (st_statement T hn IH) (hr.mono (by omega)) T.bReaderstatement .nil pass0 (pa_n (pv 1) pa_nil))))))
      (pss_one (ps_ret (pe_callTy call_tupC rfl T.ztuple bt_tuple (pa_n (pv 2) pa_nil))))))), ?_⟩
    try dsimp only [L2.start, m_cons, m_nil, List.cons_append, List.nil_append, List.replicate_succ, List.replicate_zero, List.length_cons, List.length_nil, Nat.reduceAdd, Nat.reduceSub, Nat.zero_add]
    wp_walk
    rw [if_neg (by omega)]
    refine fun sl hsl => ?_
    have nsr : rd ≠ sl := ne_of_none R.ins hsl
    have nsl : ll ≠ sl := ne_of_none R.lin hsl
    obtain ⟨W, hW⟩ : ∃ W : Nat → St → Hp → Prop, ∀ m σ G, W m σ G = ∃ (us : List V) (j : Nat), σ = [some (.ref rd), some (.int dp), some (.ref sl)] ∧ G sl = some (.lst us) ∧ StmsAt G us (b.take j) ∧ j ≤ b.length ∧ RdAt t.CReader G rd dx ll rows (i + (rowsL (b.take j)).length) (k + szL (b.take j)) ∧ m = b.length - j ∧ Kp [rd] H G := ⟨_, fun _ _ _ => rfl⟩
    refine ⟨W, ⟨b.length, ?_⟩, ?_⟩
    · rw [hW]
      exact ⟨[], 0, rfl, upd_same, .nil, Nat.zero_le _, R.kp (Kp.new hsl), by omega, Kp.new hsl⟩
    intro m σ G hG
    rw [hW] at hG
    obtain ⟨us, j, rfl, eS, hU, hj, RG, rfl, KG⟩ := hG
    have ln := hU.len
    rw [List.length_take] at ln
    have back : ∀ (us2 : List V) (G2 : Hp), G2 sl = some (.lst us2) → StmsAt G2 us2 (b.take (j + 1)) → j + 1 ≤ b.length → RdAt t.CReader G2 rd dx ll rows (i + (rowsL (b.take (j + 1))).length) (k + szL (b.take (j + 1))) → Kp [rd] H G2 → ∃ m', m' < b.length - j ∧ W m' [some (.ref rd), some (.int dp), some (.ref sl)] G2 := fun us2 G2 h1 h2 h3 h4 h6 => by
      refine ⟨b.length - (j + 1), by omega, ?_⟩
      rw [hW]
      exact ⟨us2, j + 1, rfl, h1, h2, h3, h4, rfl, h6⟩
    clear hW
    have hsplit : rowsL b = rowsL (b.take j) ++ rowsL (b.drop j) := by rw [← rowsL_app, List.take_append_drop]
    have hrj : rows.drop (i + (rowsL (b.take j)).length) = rowsL (b.drop j) ++ rest := drop_more (by rw [hr0, hsplit, List.append_assoc])
    have lb : b.length ≤ szL b := lenL b
    wp_walk using RG.ins
    refine ⟨rd, dx, ll, rows, _, _, rfl, RG, ?_⟩
    wp_walk
    refine fun p3 hp3 => ⟨ah_flat _ _, flatO, ?_⟩
    have N3 := Kp.new (S := []) (o := .tup [.non, .str "else", .str "done"]) hp3
    have R3 := RG.kp N3
    have eS3 := N3.at eS
    have U3 := hU.kp (TupKp.nil N3)
    have K3 := KG.trans (N3.mono (by simp) : Kp [rd] G _)
    generalize upd G p3 (.tup [.non, .str "else", .str "done"]) = G3 at *
    by_cases hjl : j = b.length
    · have e0 : b.drop j = [] := List.drop_eq_nil_of_le (by omega)
      have e9 : b.take j = b := List.take_of_length_le (by omega)
      rw [e0] at hrj
      rw [e9] at U3 R3 hrj
      have hrr : rows.drop (i + (rowsL b).length) = rest := hrj
      have hin : inV (ah rows (i + (rowsL b).length)) [.non, .str "else", .str "done"] = true := by
        cases rest with
        | nil => rw [ah_none hrr]; exact in_open0
        | cons r rr => rw [ah_some hrr]; exact in_open hst
      rw [e9]
      wp_walk using hin, eS3
      exact fun p hp => q p us _ upd_same (U3.kp (TupKp.new hp)) (R3.kp (Kp.new hp)) (K3.trans (Kp.new hp))
    · obtain ⟨mj, hmj⟩ : ∃ mj, b[j]? = some mj := ⟨_, List.getElem?_eq_getElem (by omega)⟩
      have e9 := takeS hmj
      have e8 : b.drop j = mj :: b.drop (j + 1) := by
        rw [List.drop_eq_getElem_cons (by omega)]
        rw [List.getElem?_eq_getElem (by omega)] at hmj
        rw [Option.some.inj hmj]
      obtain ⟨m1, m2, m3⟩ := memS hmj
      obtain ⟨mr, hmr⟩ := rows_cons mj
      have hrj2 : rows.drop (i + (rowsL (b.take j)).length) = mj.rows ++ (rowsL (b.drop (j + 1)) ++ rest) := by rw [hrj, e8]; simp [rowsL]
      have hin : inV (ah rows (i + (rowsL (b.take j)).length)) [.non, .str "else", .str "done"] = false := by
        rw [ah_some (r := mj.hd) (l := mr ++ (rowsL (b.drop (j + 1)) ++ rest)) (by rw [hrj2, hmr]; rfl)]
        exact hd_open mj
      wp_walk using hin
      refine ⟨fun σ' H' => ∃ m', m' < b.length - j ∧ W m' σ' H', fun _ _ h => h, ?_⟩
      wp_walk using eS3, R3.ins
      refine ⟨rd, dx, ll, rows, _, _, dp, mj, _, rfl, R3, hrj2, by omega, by omega, m1 hw, by omega, hrl, hrs, fun v H4 hv R4 K4 => ?_⟩
      have eS4 := K4.at1 eS3 nsr.symm
      have T4 := TupKp.rd R3 K4
      wp_walk using eS4
      have T5 := TupKp.set (ys := us ++ [v]) eS4
      have K5 : Kp [sl] H4 (upd H4 sl (.lst (us ++ [v]))) := Kp.set1
      refine ⟨by omega, back _ _ upd_same ?_ (by omega) ?_ ?_⟩
      · rw [e9]
        exact (((U3.kp T4).kp T5).snoc (hv.kp T5))
      · rw [e9, rowsL_app, szL_app]
        simp only [rowsL, szL, List.append_nil, List.length_append, Nat.add_zero]
        have := R4.w K5 nsr nsl
        rw [← Nat.add_assoc, ← Nat.add_assoc]
        exact this
      · exact fun c o ec nc => by
          have := (K3.trans K4) c o ec nc
          rw [upd_ne (ne_of_none ec hsl)]
          exact this

set_option linter.all false in private theorem ok_Readerblock {t : Ad} (T : Tx K mg t) : ∀ d, FnOk P w K mg base CX0 (4 * d + 30) t.aReaderblock t.dReaderblock ["self", "deep"] (spBk t.CReader d) := by
  intro d
  induction d with
  | zero => exact ⟨fun _ _ _ _ x => by (obtain ⟨_, _, _, _, _, _, _, _, _, _, _, _, _, _, _, _, h, _⟩ := x; exact absurd h (by omega)), fun _ _ _ _ _ _ _ _ _ _ _ _ _ x => by (obtain ⟨_, _, _, _, _, _, _, _, _, _, _, _, _, _, _, _, h, _⟩ := x; exact absurd h (by omega))⟩
  | succ d ih => exact st_block T (by omega) ih

set_option linter.all false in private theorem ok_readprogram {t : Ad} (T : Tx K mg t) : FnOk P w K mg base CX0 60 t.areadprogram t.dreadprogram ["text"] spRead := by
  refine T.freadprogram.ok sc_readprogram (fun vs H Q E h => ?_) (fun cdv A outer s H vs Q E hr h => ?_)
  · obtain ⟨b, rfl, _⟩ := h
    rfl
  · obtain ⟨b, rfl, hw, hd, hz, q⟩ := h
    refine ⟨_, (pss_cons (ps_if (PW.pt (pw_and (pt_cmpR op_ne (pv 0) pe_str (nomark _)) (pw_and1 (pt_not (pt_val (pe_bm PySem.F.plainAttrs_str PySem.F.slot_str_endswith PySem.F.type_str_endswith mt_endswith (pv 0) (pa_n pe_str pa_nil))))))) (pss_one ps_never) pss_nil)
      (pss_cons (ps_set (i := 1) sc_readprogram.nd rfl (Or.inl rfl) (pe_make T.mkReader (ok_Readerinit T) (hr.mono (by omega)) rfl T.mReader T.bReaderinit .nil pass0 (pa_n (pe_slice sl_c (pe_bm PySem.F.plainAttrs_str PySem.F.slot_str_split PySem.F.type_str_split mt_split (pv 0) (pa_n pe_str pa_nil)) po_none (po_some (pe_un un_neg pe_int))) pa_nil)))
      (pss_cons (ps_set (i := 2) sc_readprogram.nd rfl (Or.inl rfl) (pe_meth (pv 1) T.clReader T.meReaderblock (ok_Readerblock T 6) (hr.mono (by omega)) T.bReaderblock .nil pass0 (pa_n pe_int pa_nil)))
      (pss_cons (ps_if (pt_cmpR op_isnotC (pe_meth0 (pv 1) T.clReader T.meReaderahead (ok_Readerahead T) (hr.mono (by omega)) T.bReaderahead .nil pass0) pe_non (nomark _)) (pss_one ps_never) pss_nil)
      (pss_one (ps_ret (pv 2))))))), ?_⟩
    try dsimp only [L2.start, m_cons, m_nil, List.cons_append, List.nil_append, List.replicate_succ, List.replicate_zero, List.length_cons, List.length_nil, Nat.reduceAdd, Nat.reduceSub, Nat.zero_add]
    have lt := text_len hw (by omega : szL b ≤ 100)
    have ll := rowsL_len b
    wp_walk
    by_cases h0 : textOf b = ""
    · rw [if_pos h0]
      refine ⟨by decide +kernel, by omega, fun l1 h1 => ?_⟩
      rw [text_split hw]
      have N1 := Kp.new (S := []) (o := .lst ((rowsL b ++ [("" : Str)]).map V.str)) h1
      have e1 : upd H l1 (.lst ((rowsL b ++ [("" : Str)]).map V.str)) l1 = some (.lst ((rowsL b ++ [("" : Str)]).map V.str)) := upd_same
      generalize upd H l1 (.lst ((rowsL b ++ [("" : Str)]).map V.str)) = G1 at *
      wp_walk using e1
      refine fun l2 h2 => ?_
      rw [cut_last1 V.str (rowsL b) ("" : Str)]
      have N2 := N1.trans (Kp.new (S := []) (o := .lst ((rowsL b).map V.str)) h2)
      have e2 : upd G1 l2 (.lst ((rowsL b).map V.str)) l2 = some (.lst ((rowsL b).map V.str)) := upd_same
      generalize upd G1 l2 (.lst ((rowsL b).map V.str)) = G2 at *
      refine fun rd dx fr fd nd => ⟨rd, dx, l2, rfl, upd_same, fun H3 e3 K3 => ⟨rfl, ?_⟩⟩
      have nlr : l2 ≠ rd := ne_of_none e2 fr
      have nld : l2 ≠ dx := ne_of_none e2 fd
      have e23 : H3 l2 = some (.lst ((rowsL b).map V.str)) := K3.at1 (by rw [upd_ne nlr, upd_ne nld]; exact e2) nlr
      have R3 : RdAt t.CReader H3 rd dx l2 (rowsL b) 0 0 := ⟨by rw [e3]; rfl, e23⟩
      have N3 : Kp [] H H3 := fun c o ec nc => by
        have e2c := N2.at ec
        have n1 := ne_of_none e2c fr
        exact K3.at1 (by rw [upd_ne n1, upd_ne (ne_of_none e2c fd)]; exact e2c) n1
      wp_walk using R3.ins
      refine ⟨rd, dx, l2, rowsL b, 0, 0, 0, b, [], rfl, R3, by simp, trivial, by omega, by omega, hw, by omega, by omega, fun r hr => Nat.le_trans (rowsL_small hw r hr) (by decide), fun p us H4 h4 hU R4 K4 => ?_⟩
      wp_walk using R4.ins
      refine ⟨rd, dx, l2, rowsL b, _, _, rfl, R4, ?_⟩
      rw [ah_none (by simp)]
      wp_walk
      exact q p us H4 h4 hU fun c o ec nc => K4.at1 (N3.at ec) (fun z => by subst z; exact absurd (N2.at ec) (by rw [fr]; intro z; cases z))
    · rw [if_neg h0, text_end b h0]
      wp_walk
      refine ⟨by decide +kernel, by omega, fun l1 h1 => ?_⟩
      rw [text_split hw]
      have N1 := Kp.new (S := []) (o := .lst ((rowsL b ++ [("" : Str)]).map V.str)) h1
      have e1 : upd H l1 (.lst ((rowsL b ++ [("" : Str)]).map V.str)) l1 = some (.lst ((rowsL b ++ [("" : Str)]).map V.str)) := upd_same
      generalize upd H l1 (.lst ((rowsL b ++ [("" : Str)]).map V.str)) = G1 at *
      wp_walk using e1
      refine fun l2 h2 => ?_
      rw [cut_last1 V.str (rowsL b) ("" : Str)]
      have N2 := N1.trans (Kp.new (S := []) (o := .lst ((rowsL b).map V.str)) h2)
      have e2 : upd G1 l2 (.lst ((rowsL b).map V.str)) l2 = some (.lst ((rowsL b).map V.str)) := upd_same
      generalize upd G1 l2 (.lst ((rowsL b).map V.str)) = G2 at *
      refine fun rd dx fr fd nd => ⟨rd, dx, l2, rfl, upd_same, fun H3 e3 K3 => ⟨rfl, ?_⟩⟩
      have nlr : l2 ≠ rd := ne_of_none e2 fr
      have nld : l2 ≠ dx := ne_of_none e2 fd
      have e23 : H3 l2 = some (.lst ((rowsL b).map V.str)) := K3.at1 (by rw [upd_ne nlr, upd_ne nld]; exact e2) nlr
      have R3 : RdAt t.CReader H3 rd dx l2 (rowsL b) 0 0 := ⟨by rw [e3]; rfl, e23⟩
      have N3 : Kp [] H H3 := fun c o ec nc => by
        have e2c := N2.at ec
        have n1 := ne_of_none e2c fr
        exact K3.at1 (by rw [upd_ne n1, upd_ne (ne_of_none e2c fd)]; exact e2c) n1
      wp_walk using R3.ins
      refine ⟨rd, dx, l2, rowsL b, 0, 0, 0, b, [], rfl, R3, by simp, trivial, by omega, by omega, hw, by omega, by omega, fun r hr => Nat.le_trans (rowsL_small hw r hr) (by decide), fun p us H4 h4 hU R4 K4 => ?_⟩
      wp_walk using R4.ins
      refine ⟨rd, dx, l2, rowsL b, _, _, rfl, R4, ?_⟩
      rw [ah_none (by simp)]
      wp_walk
      exact q p us H4 h4 hU fun c o ec nc => K4.at1 (N3.at ec) (fun z => by subst z; exact absurd (N2.at ec) (by rw [fr]; intro z; cases z))
set_option linter.all false in private theorem st_showsaying {t : Ad} (T : Tx K mg t) {n d : Nat} (hn : 3 ≤ n) (IH : FnOk P w K mg base CX0 n t.ashowsaying t.dshowsaying ["saying"] (spWords d)) : FnOk P w K mg base CX0 (n + 1) t.ashowsaying t.dshowsaying ["saying"] (spWords (d + 1)) := by
  refine T.fshowsaying.ok sc_showsaying (fun vs H Q E h => ?_) (fun cdv A outer s H vs Q E hr h => ?_)
  · obtain ⟨v, s, rfl, _⟩ := h
    rfl
  · obtain ⟨v, s, rfl, hS, hd, h6, hs, q⟩ := h
    refine ⟨_, (pss_cons (ps_set (i := 1) sc_showsaying.nd rfl (Or.inl rfl) (pe_ix ix_c (pv 0) pe_int (fun _ _ => rfl)))
      (pss_cons (ps_if (pt_cmpR op_eq (pv 1) pe_str (nomark _)) (pss_one (ps_ret (pe_callTy call_strC rfl T.zstr bt_str (pa_n (pe_ix ix_c (pv 0) pe_int (fun _ _ => rfl)) pa_nil)))) pss_nil)
      (pss_cons (ps_if (pt_cmpR op_eq (pv 1) pe_str (nomark _)) (pss_one (ps_ret (pe_ix ix_c (pv 0) pe_int (fun _ _ => rfl)))) pss_nil)
      (pss_cons (ps_if (pt_cmpR op_inC (pv 1) (pe_tup (pa_n pe_str (pa_n pe_str (pa_n pe_str pa_nil)))) (by with_unfolding_all rfl)) (pss_one (ps_ret (pv 1))) pss_nil)
      (pss_cons (ps_set (i := 2) sc_showsaying.nd rfl (Or.inl rfl) (pe_call IH (hr.mono (by omega)) rfl T.mshowsaying T.fshowsaying.kp T.bshowsaying .nil pass0 (pa_n (pe_ix ix_c (pv 0) pe_int (fun _ _ => rfl)) pa_nil)))
      (pss_cons (ps_if (pt_cmpR op_inC (pv 1) (pe_tup (pa_n pe_str (pa_n pe_str pa_nil))) (by with_unfolding_all rfl)) (pss_one (ps_ret (pe_joined (pj_cons (pe_fmt (pv 1)) (pj_cons pe_str (pj_cons (pe_fmt (pv 2)) pj_nil)))))) pss_nil)
      (pss_cons (ps_set (i := 3) sc_showsaying.nd rfl (Or.inl rfl) (pe_call IH (hr.mono (by omega)) rfl T.mshowsaying T.fshowsaying.kp T.bshowsaying .nil pass0 (pa_n (pe_ix ix_c (pv 0) pe_int (fun _ _ => rfl)) pa_nil)))
      (pss_one (ps_ret (pe_joined (pj_cons pe_str (pj_cons (pe_fmt (pv 2)) (pj_cons pe_str (pj_cons (pe_fmt (pv 1)) (pj_cons pe_str (pj_cons (pe_fmt (pv 3)) (pj_cons pe_str pj_nil))))))))))))))))), ?_⟩
    try dsimp only [L2.start, m_cons, m_nil, List.cons_append, List.nil_append, List.replicate_succ, List.replicate_zero, List.length_cons, List.length_nil, Nat.reduceAdd, Nat.reduceSub, Nat.zero_add]
    obtain ⟨_, _, _, la, ln, lo, l1, lc⟩ := lens
    rcases hS.leaf3 with n3 | ⟨a, wo, rfl, e, f1, f2, f3, fw⟩
    rotate_left
    · rw [fw] at q
      wp_walk using e, f1, f2
      refine fun p hp => ⟨rfl, flat3, ?_⟩
      have KG := Kp.new (S := []) (o := .tup [.str "none", .str "arg", .str "now"]) hp
      have e1 := KG.at e
      generalize upd H p (.tup [.str "none", .str "arg", .str "now"]) = G at *
      wp_walk using e1, f3
      exact q _ KG
    rcases hS.un2 with n2 | ⟨a, wo, v, s1, rfl, e, h1, f1, f2, f3, f4, fl, fd, fs, fw⟩
    rotate_left
    · rw [fw] at q
      have hs1 := fs hs
      clear fs hs hS
      refine cut_seq fun R_1 hR1 => ?_
      wp_walk using e
      refine hR1 _ _ ?_
      clear hR1
      refine cut_seq fun R_2 hR2 => ?_
      wp_walk using f1
      refine hR2 _ _ ?_
      clear hR2
      refine cut_seq fun R_3 hR3 => ?_
      wp_walk using f2
      refine hR3 _ _ ?_
      clear hR3
      refine cut_seq fun R_4 hR4 => ?_
      wp_walk
      refine fun p hp => ⟨rfl, flat3, ?_⟩
      have KG := Kp.new (S := []) (o := .tup [.str "none", .str "arg", .str "now"]) hp
      have e1 := KG.at e
      generalize upd H p (.tup [.str "none", .str "arg", .str "now"]) = G at *
      wp_walk using f3
      refine hR4 _ _ ?_
      clear hR4
      refine cut_seq fun R_5 hR5 => ?_
      wp_walk using e1
      have l2 := wd_small hs1 (by omega)
      refine ⟨v, s1, rfl, h1.kp (TupKp.nil KG), by omega, by omega, hs1, fun H2 K2 => ?_⟩
      refine hR5 _ _ ?_
      clear hR5
      refine cut_seq fun R_6 hR6 => ?_
      wp_walk
      refine fun p2 hp2 => ⟨rfl, flat2, ?_⟩
      wp_walk using str_len, f4
      exact ⟨by omega, by omega, by omega, by omega, by omega, by omega, q _ ((KG.trans K2).trans (Kp.new hp2))⟩
    cases hS with
    | num e =>
      wp_walk using e
      exact ⟨ilog hs.1.1 hs.1.2, q _ Kp.refl⟩
    | name e =>
      wp_walk using e
      exact q _ Kp.refl
    | non => exact nomatch (show true = false from n3)
    | arg => exact nomatch (show true = false from n3)
    | now => exact nomatch (show true = false from n3)
    | ans => exact nomatch (show true = false from n2)
    | neg => exact nomatch (show true = false from n2)
    | @two a v u g s1 s2 e h1 h2 =>
      simp only [Say.depth] at hd h6
      have hs1 : s1.sh := ⟨hs.1.1, fun x hx => hs.2 x (List.mem_append_left _ hx)⟩
      have hs2 : s2.sh := ⟨hs.1.2, fun x hx => hs.2 x (List.mem_append_right _ hx)⟩
      have l2 := wd_small hs1 (by omega)
      have l3 := wd_small hs2 (by omega)
      have lg := g.len
      refine cut_seq fun R_1 hR1 => ?_
      wp_walk using e
      refine hR1 _ _ ?_
      clear hR1
      refine cut_seq fun R_2 hR2 => ?_
      wp_walk using g.nn
      refine hR2 _ _ ?_
      clear hR2
      refine cut_seq fun R_3 hR3 => ?_
      wp_walk using g.nm
      refine hR3 _ _ ?_
      clear hR3
      refine cut_seq fun R_4 hR4 => ?_
      wp_walk
      refine fun p hp => ⟨rfl, flat3, ?_⟩
      have KG := Kp.new (S := []) (o := .tup [.str "none", .str "arg", .str "now"]) hp
      have e1 := KG.at e
      generalize upd H p (.tup [.str "none", .str "arg", .str "now"]) = G at *
      wp_walk using g.n3
      refine hR4 _ _ ?_
      clear hR4
      refine cut_seq fun R_5 hR5 => ?_
      wp_walk using e1
      refine ⟨v, s1, rfl, h1.kp (TupKp.nil KG), by omega, by omega, hs1, fun H2 K2 => ?_⟩
      have e2 := K2.at e1
      refine hR5 _ _ ?_
      clear hR5
      refine cut_seq fun R_6 hR6 => ?_
      wp_walk
      refine fun p2 hp2 => ⟨rfl, flat2, ?_⟩
      have KN := Kp.new (S := []) (o := .tup [.str "answer", .str "not"]) hp2
      have KG2 := (KG.trans K2).trans KN
      have e3 := KN.at e2
      generalize upd H2 p2 (.tup [.str "answer", .str "not"]) = G2 at *
      wp_walk using g.n2
      refine hR6 _ _ ?_
      clear hR6
      refine cut_seq fun R_7 hR7 => ?_
      wp_walk using e3
      refine ⟨u, s2, rfl, h2.kp (TupKp.nil KG2), by omega, by omega, hs2, fun H3 K3 => ?_⟩
      refine hR7 _ _ ?_
      clear hR7
      wp_walk using str_len
      refine ⟨by omega, by omega, by omega, by omega, by omega, by omega, by omega, by omega, by omega, by omega, by omega, q _ (KG2.trans K3)⟩

set_option linter.all false in private theorem ok_showsaying {t : Ad} (T : Tx K mg t) : ∀ d, FnOk P w K mg base CX0 (d + 3) t.ashowsaying t.dshowsaying ["saying"] (spWords d) := by
  intro d
  induction d with
  | zero => exact ⟨fun _ _ _ _ x => by (obtain ⟨_, s, _, _, h, _⟩ := x; exact absurd h (by have := s.depth_pos; omega)), fun _ _ _ _ _ _ _ _ _ _ _ _ _ x => by (obtain ⟨_, s, _, _, h, _⟩ := x; exact absurd h (by have := s.depth_pos; omega))⟩
  | succ d ih => exact st_showsaying T (by omega) ih

set_option linter.all false in private theorem ok_givenwords {t : Ad} (T : Tx K mg t) : FnOk P w K mg base CX0 10 t.agivenwords t.dgivenwords ["statement"] spGiven := by
  refine T.fgivenwords.ok sc_givenwords (fun vs H Q E h => ?_) (fun cdv A outer s H vs Q E hr h => ?_)
  · obtain ⟨v, m, rfl, _⟩ := h
    rfl
  · obtain ⟨v, m, rfl, hM, hm, hg, q⟩ := h
    refine ⟨_, (pss_cons (ps_set (i := 1) sc_givenwords.nd rfl (Or.inl rfl) (pe_ix ix_c (pv 0) pe_int (fun _ _ => rfl)))
      (pss_cons (ps_if (pt_cmpR op_eq (pv 1) pe_str (nomark _)) (pss_one (ps_ret (pe_lst (pa_n (pe_call (ok_showsaying T 6) (hr.mono (by omega)) rfl T.mshowsaying T.fshowsaying.kp T.bshowsaying .nil pass0 (pa_n (pe_ix ix_c (pv 0) pe_int (fun _ _ => rfl)) pa_nil)) pa_nil)))) pss_nil)
      (pss_cons (ps_if (pt_cmpR op_eq (pv 1) pe_str (nomark _)) (pss_one (ps_ret (pe_lst (pa_n (pv 1) (pa_n (pe_call (ok_showsaying T 6) (hr.mono (by omega)) rfl T.mshowsaying T.fshowsaying.kp T.bshowsaying .nil pass0 (pa_n (pe_ix ix_c (pv 0) pe_int (fun _ _ => rfl)) pa_nil)) pa_nil))))) pss_nil)
      (pss_cons (ps_if (pt_cmpR op_eq (pv 1) pe_str (nomark _)) (pss_one (ps_ret (pe_op op_addC (pe_lst (pa_n (pv 1) pa_nil)) (pe_comp (cl := []) (fr := []) (N := ["saying"]) rfl (fun _ _ h => h) (CompSc.nofree rfl rfl rfl rfl) (pi_tup (pe_ix ix_c (pv 0) pe_int (fun _ _ => rfl))) (fun C s H ex pn => ⟨pts_nil, (pe_call (ok_showsaying T 6) (hr.mono (by omega)) rfl T.mshowsaying T.fshowsaying.kp T.bshowsaying .nil pass0 (pa_n (pv 0) pa_nil))⟩))))) pss_nil)
      (pss_cons (ps_if (pt_cmpR op_eq (pv 1) pe_str (nomark _)) (pss_one (ps_ret (pe_lst (pa_n (pv 1) (pa_n (pe_ix ix_c (pv 0) pe_int (fun _ _ => rfl)) pa_nil))))) pss_nil)
      (pss_one (ps_ret (pe_lst (pa_n (pv 1) (pa_n (pe_ix ix_c (pv 0) pe_int (fun _ _ => rfl)) (pa_n (pe_call (ok_showsaying T 6) (hr.mono (by omega)) rfl T.mshowsaying T.fshowsaying.kp T.bshowsaying .nil pass0 (pa_n (pe_ix ix_c (pv 0) pe_int (fun _ _ => rfl)) pa_nil)) pa_nil))))))))))), ?_⟩
    try dsimp only [L2.start, m_cons, m_nil, List.cons_append, List.nil_append, List.replicate_succ, List.replicate_zero, List.length_cons, List.length_nil, Nat.reduceAdd, Nat.reduceSub, Nat.zero_add]
    cases hM <;> simp only [Stm.isG, Bool.false_eq_true] at hg
    case set a x v s1 e h1 =>
      wp_walk using e
      refine ⟨v, s1, rfl, h1, hm.2.2, hm.2.2, hm.2.1, fun H2 K2 => ?_⟩
      wp_walk
      exact fun p hp => q p _ (K2.wasFree hp) (K2.trans (Kp.new hp)) upd_same
    case timer a x v s1 e h1 =>
      wp_walk using e
      refine ⟨v, s1, rfl, h1, hm.2.2, hm.2.2, hm.2.1, fun H2 K2 => ?_⟩
      wp_walk
      exact fun p hp => q p _ (K2.wasFree hp) (K2.trans (Kp.new hp)) upd_same
    case order a x y v s1 e h1 =>
      wp_walk using e
      refine ⟨v, s1, rfl, h1, hm.2.2.2, hm.2.2.2, hm.2.2.1, fun H2 K2 => ?_⟩
      wp_walk
      exact fun p hp => q p _ (K2.wasFree hp) (K2.trans (Kp.new hp)) upd_same
    case child a x y v s1 e h1 =>
      wp_walk using e
      refine ⟨v, s1, rfl, h1, hm.2.2.2, hm.2.2.2, hm.2.2.1, fun H2 K2 => ?_⟩
      wp_walk
      exact fun p hp => q p _ (K2.wasFree hp) (K2.trans (Kp.new hp)) upd_same
    case hear a x k e =>
      wp_walk using e
      exact fun p hp => q p _ hp (Kp.new hp) upd_same
    case wait a p1 x vs ss e f h1 =>
      wp_walk using e
      refine fun c hc => ?_
      have KN := Kp.new (S := []) (o := .lst [.str "wait"]) hc
      have e1 := KN.at e
      have f1 := KN.at f
      have ec : upd H c (.lst [.str "wait"]) c = some (.lst [.str "wait"]) := upd_same
      have h2 := h1.kp (TupKp.nil KN)
      generalize upd H c (.lst [.str "wait"]) = G at *
      wp_walk using e1
      refine ⟨⟨_, SqT.of f1⟩, ?_⟩
      have hP := parts_says h2 hm.2.2
      have hl := hP.len
      have h4 : (ss.map wd).length ≤ 4 := by simpa using hm.2.1.2
      refine lc_tup (ys := vs) (fun j xs G' => xs = ((ss.map wd).take j).map V.str ∧ Kp [] G G') ⟨rfl, Kp.refl⟩ ?_ ?_ ?_ ?_
      · rintro j xs G' ⟨rfl, _⟩
        simp only [List.length_map, List.length_take] at h4 ⊢
        omega
      · rintro j xs G' ⟨_, k⟩
        exact SqT.of (k.at f1)
      · rintro j y xs G' _ hj ⟨rfl, k⟩
        obtain ⟨y', hy', hat⟩ := h2.at hj
        have e5 := take_snoc (show (ss.map wd)[j]? = some (wd y') by rw [List.getElem?_map, hy']; rfl)
        have h6' := hm.2.2 y' (List.mem_of_getElem? hy')
        wp_walk using compSt, Option.join_some
        refine ⟨y, y', rfl, hat.kp (TupKp.nil k), h6'.2, h6'.2, h6'.1, fun H2 K2 => ⟨?_, k.trans K2⟩⟩
        rw [e5]
        simp
      · rintro xs G' ⟨rfl, k⟩ l2 hl2
        rw [show vs.length = (ss.map wd).length from hl.symm, List.take_length]
        have KN2 := Kp.new (S := []) (o := .lst ((ss.map wd).map V.str)) hl2
        have ec2 := KN2.at (k.at ec)
        wp_walk using ec2, List.length_map
        simp only [List.length_map] at h4
        exact ⟨by omega, fun p hp => q p _ ((KN.trans (k.trans KN2)).wasFree hp) ((KN.trans (k.trans KN2)).trans (Kp.new hp)) (by rw [upd_same]; rfl)⟩
set_option linter.all false in private theorem ok_showplain {t : Ad} (T : Tx K mg t) : FnOk P w K mg base CX0 12 t.ashowplain t.dshowplain ["statement"] spSPlain := by
  refine T.fshowplain.ok sc_showplain (fun vs H Q E h => ?_) (fun cdv A outer s H vs Q E hr h => ?_)
  · obtain ⟨v, m, rfl, _⟩ := h
    rfl
  · obtain ⟨v, m, rfl, hM, hm, hb, q⟩ := h
    refine ⟨_, (pss_cons (ps_set (i := 1) sc_showplain.nd rfl (Or.inl rfl) (pe_ix ix_c (pv 0) pe_int (fun _ _ => rfl)))
      (pss_cons (ps_if (pt_cmpR op_eq (pv 1) pe_str (nomark _)) (pss_one (ps_ret (pe_bm PySem.F.plainAttrs_str PySem.F.slot_str_join PySem.F.type_str_join mt_join pe_str (pa_n (pe_lst (pa_n (pv 1) (pa_n (pe_call (ok_showsaying T 6) (hr.mono (by omega)) rfl T.mshowsaying T.fshowsaying.kp T.bshowsaying .nil pass0 (pa_n (pe_ix ix_c (pv 0) pe_int (fun _ _ => rfl)) pa_nil)) (pa_n (pe_ix ix_c (pv 0) pe_int (fun _ _ => rfl)) (pa_n (pe_call (ok_showsaying T 6) (hr.mono (by omega)) rfl T.mshowsaying T.fshowsaying.kp T.bshowsaying .nil pass0 (pa_n (pe_ix ix_c (pv 0) pe_int (fun _ _ => rfl)) pa_nil)) pa_nil))))) pa_nil)))) pss_nil)
      (pss_cons (ps_if (PW.pt (pw_or (pt_cmpR op_eq (pv 1) pe_str (nomark _)) (pw_or1 (pt_cmpR op_eq (pv 1) pe_str (nomark _))))) (pss_one (ps_ret (pe_bm PySem.F.plainAttrs_str PySem.F.slot_str_join PySem.F.type_str_join mt_join pe_str (pa_n (pe_lst (pa_n (pv 1) (pa_n (pe_call (ok_showsaying T 6) (hr.mono (by omega)) rfl T.mshowsaying T.fshowsaying.kp T.bshowsaying .nil pass0 (pa_n (pe_ix ix_c (pv 0) pe_int (fun _ _ => rfl)) pa_nil)) pa_nil))) pa_nil)))) pss_nil)
      (pss_one (ps_ret (pe_bm PySem.F.plainAttrs_str PySem.F.slot_str_join PySem.F.type_str_join mt_join pe_str (pa_n (pe_op op_addC (pe_lst (pa_n (pe_ix ix_c (pv 0) pe_int (fun _ _ => rfl)) (pa_n pe_str pa_nil))) (pe_call (ok_givenwords T) (hr.mono (by omega)) rfl T.mgivenwords T.fgivenwords.kp T.bgivenwords .nil pass0 (pa_n (pv 0) pa_nil))) pa_nil))))))), ?_⟩
    try dsimp only [L2.start, m_cons, m_nil, List.cons_append, List.nil_append, List.replicate_succ, List.replicate_zero, List.length_cons, List.length_nil, Nat.reduceAdd, Nat.reduceSub, Nat.zero_add]
    obtain ⟨_, _, _, _, _, lo, l1, lc⟩ := lens
    obtain ⟨lsend, leq, lord, ltim, lchi, lwait, lhear, ldrop, lend, lwhl, lif⟩ := hlens
    have lsend' : ("send" : Str).length = 4 := by decide +kernel
    have leq' : ("=" : Str).length = 1 := by decide +kernel
    have giv : ∀ (mm : Stm), mm.hok → mm.isG = true → mm = m → ∀ G, StmAt G v mm → Kp [] H G → ∀ c, H c = none → G c = some (.lst [.str mm.nm, .str "="]) → mm.nm.length ≤ 20 →
        spGiven [v] G (fun y H2 => cAdd (.ref c) y H2 fun z H3 => cJoin (.str " ") [z] H3 Q) E := fun mm hm' hg em G hM' KG c fc ec ln => by
      subst em
      refine ⟨v, mm, rfl, hM', hm', hg, fun l H2 fl K2 el => ?_⟩
      have ec2 := K2.at ec
      have hl := gv_len hm'
      wp_walk using ec2, el, List.length_map
      refine ⟨by omega, fun c3 hc3 => ?_⟩
      wp_walk using upd_same
      have e6 : (.str mm.nm :: .str "=" :: mm.gv.map V.str : List V) = (mm.nm :: "=" :: mm.gv).map V.str := rfl
      have sb := sum_small hl.2
      rw [e6, strsV_map, e_onO]
      simp only [List.map_cons, List.sum_cons, List.length_cons, leq', l1]
      refine ⟨by omega, ?_⟩
      rw [join_glue, ← Stm.hd_gv hg]
      exact q _ ((KG.trans K2).trans (Kp.new hc3))
    by_cases hgv : m.isG = true
    · obtain ⟨a, w0, r0, rfl, e, _, fG⟩ := hM.hdw
      obtain ⟨f1, f2, f3, ⟨r1, rfl⟩, nl⟩ := fG hgv
      wp_walk using e, f1, f2, f3
      refine fun c hc => ?_
      have KN := Kp.new (S := []) (o := .lst [.str m.nm, .str "="]) hc
      exact giv _ hm hgv rfl _ (hM.kp (TupKp.nil KN)) KN c hc upd_same (nl hm)
    cases hM <;> simp only [Stm.isB, Bool.true_eq_false] at hb
    case send a k v u s1 s2 e h1 h2 =>
      clear giv
      have l2 := wd_small hm.1.1 hm.1.2
      have l3 := wd_small hm.2.2.1 hm.2.2.2
      have n1 : k.length ≤ 20 := hm.2.1.len
      wp_walk using e
      refine ⟨v, s1, rfl, h1, hm.1.2, hm.1.2, hm.1.1, fun H2 K2 => ?_⟩
      have e2 := K2.at e
      wp_walk using e2
      refine ⟨u, s2, rfl, h2.kp (TupKp.nil K2), hm.2.2.2, hm.2.2.2, hm.2.2.1, fun H3 K3 => ?_⟩
      wp_walk
      refine fun p hp => ?_
      wp_walk using e_st4, List.sum_cons, List.sum_nil
      refine ⟨by omega, ?_⟩
      rw [join_glue]
      simp only [glue, List.foldl_cons, List.foldl_nil, send_eq]
      exact q _ ((K2.trans K3).trans (Kp.new hp))

    case drop a v s1 e h1 =>
      clear giv
      have l2 := wd_small (show s1.sh from hm.1) hm.2
      wp_walk using e
      refine ⟨v, s1, rfl, h1, hm.2, hm.2, hm.1, fun H2 K2 => ?_⟩
      wp_walk
      refine fun p hp => ?_
      wp_walk using e_st2, List.sum_cons, List.sum_nil
      refine ⟨by omega, ?_⟩
      rw [join_glue]
      exact q _ (K2.trans (Kp.new hp))

    case fin a v s1 e h1 =>
      clear giv
      have l2 := wd_small (show s1.sh from hm.1) hm.2
      wp_walk using e
      refine ⟨v, s1, rfl, h1, hm.2, hm.2, hm.1, fun H2 K2 => ?_⟩
      wp_walk
      refine fun p hp => ?_
      wp_walk using e_st2, List.sum_cons, List.sum_nil
      refine ⟨by omega, ?_⟩
      rw [join_glue]
      exact q _ (K2.trans (Kp.new hp))

    all_goals exact absurd rfl hgv
set_option linter.all false in private theorem st_elselines {t : Ad} (T : Tx K mg t) {n d : Nat} (hn : 12 ≤ n) (IH : FnOk P w K mg base CX0 n t.ablocklines t.dblocklines ["block"] (spRows d)) : FnOk P w K mg base CX0 (n + 1) t.aelselines t.delselines ["block"] (spEls d) := by
  refine T.felselines.ok sc_elselines (fun vs H Q E h => ?_) (fun cdv A outer s H vs Q E hr h => ?_)
  · obtain ⟨p, us, b, rfl, _⟩ := h
    rfl
  · obtain ⟨p, us, b, rfl, hp, hB, hw, hd, hz, q⟩ := h
    refine ⟨_, (pss_one (ps_ret (pe_ifExp (pt_truC (pv 0) (fun _ => rfl)) (pe_op op_addC (pe_lst (pa_n pe_str pa_nil)) (pe_call IH (hr.mono (by omega)) rfl T.mblocklines T.fblocklines.kp T.bblocklines .nil pass0 (pa_n (pv 0) pa_nil))) (pe_lst pa_nil)))), ?_⟩
    try dsimp only [L2.start, m_cons, m_nil, List.cons_append, List.nil_append, List.replicate_succ, List.replicate_zero, List.length_cons, List.length_nil, Nat.reduceAdd, Nat.reduceSub, Nat.zero_add]
    wp_walk using hp
    cases hB with
    | nil =>
      wp_walk using List.isEmpty_nil
      exact fun p' hp' => q p' _ hp' (Kp.new hp') (by rw [upd_same]; rfl)
    | @cons v vs x xs ha hbs =>
      wp_walk using List.isEmpty_cons
      refine fun c hc => ?_
      have KN := Kp.new (S := []) (o := .lst [.str "else"]) hc
      have ll := rowsL_len (x :: xs)
      refine ⟨p, _, _, rfl, KN.at hp, (StmsAt.cons ha hbs).kp (TupKp.nil KN), hw, hd, hz, fun l H2 fl K2 el => ?_⟩
      have ec := K2.at (upd_same (H := H) (a := c) (o := .lst [.str "else"]))
      wp_walk using ec, el, List.length_map
      exact ⟨by omega, fun p' hp' => q p' _ ((KN.trans K2).wasFree hp') ((KN.trans K2).trans (Kp.new hp')) (by rw [upd_same]; rfl)⟩
set_option linter.all false in private theorem ok_showhead {t : Ad} (T : Tx K mg t) : FnOk P w K mg base CX0 10 t.ashowhead t.dshowhead ["statement"] spSHead := by
  refine T.fshowhead.ok sc_showhead (fun vs H Q E h => ?_) (fun cdv A outer s H vs Q E hr h => ?_)
  · obtain ⟨v, m, rfl, _⟩ := h
    rfl
  · obtain ⟨v, m, rfl, hM, hm, hb, q⟩ := h
    refine ⟨_, (pss_cons (ps_set (i := 1) sc_showhead.nd rfl (Or.inl rfl) (pe_ix ix_c (pv 0) pe_int (fun _ _ => rfl)))
      (pss_cons (ps_set (i := 2) sc_showhead.nd rfl (Or.inl rfl) (pe_call (ok_showsaying T 6) (hr.mono (by omega)) rfl T.mshowsaying T.fshowsaying.kp T.bshowsaying .nil pass0 (pa_n (pe_ix ix_c (pv 0) pe_int (fun _ _ => rfl)) pa_nil)))
      (pss_one (ps_ret (pe_joined (pj_cons (pe_fmt (pv 1)) (pj_cons pe_str (pj_cons (pe_fmt (pv 2)) pj_nil)))))))), ?_⟩
    try dsimp only [L2.start, m_cons, m_nil, List.cons_append, List.nil_append, List.replicate_succ, List.replicate_zero, List.length_cons, List.length_nil, Nat.reduceAdd, Nat.reduceSub, Nat.zero_add]
    obtain ⟨_, _, _, _, _, lo, l1, lc⟩ := lens
    obtain ⟨lsend, leq, lord, ltim, lchi, lwait, lhear, ldrop, lend, lwhl, lif⟩ := hlens
    cases hM <;> simp only [Stm.isB, Bool.false_eq_true] at hb

    case whl a p0 v s1 vs b e h1 f hb2 =>
      wp_walk using e
      have l2 := wd_small (show s1.sh from hm.1) hm.2
      refine ⟨v, s1, rfl, h1, hm.2, hm.2, hm.1, fun H2 K2 => ?_⟩
      wp_walk using str_len
      exact ⟨by omega, by omega, by omega, by omega, by omega, by omega, q _ K2⟩

    case iff a p0 q0 v s1 vs us b o e h1 f hb2 f2 hb3 =>
      wp_walk using e
      have l2 := wd_small (show s1.sh from hm.1) hm.2
      refine ⟨v, s1, rfl, h1, hm.2, hm.2, hm.1, fun H2 K2 => ?_⟩
      wp_walk using str_len
      exact ⟨by omega, by omega, by omega, by omega, by omega, by omega, q _ K2⟩
set_option linter.all false in private theorem st_statementlines {t : Ad} (T : Tx K mg t) {n d : Nat} (hn : 12 ≤ n) (IH : FnOk P w K mg base CX0 n t.ablocklines t.dblocklines ["block"] (spRows d)) : FnOk P w K mg base CX0 (n + 2) t.astatementlines t.dstatementlines ["statement"] (spStl (d + 1)) := by
  refine T.fstatementlines.ok sc_statementlines (fun vs H Q E h => ?_) (fun cdv A outer s H vs Q E hr h => ?_)
  · obtain ⟨v, m, rfl, _⟩ := h
    rfl
  · obtain ⟨v, m, rfl, hM, hw, hd, hz, q⟩ := h
    refine ⟨_, (pss_cons (ps_set (i := 1) sc_statementlines.nd rfl (Or.inl rfl) (pe_ix ix_c (pv 0) pe_int (fun _ _ => rfl)))
      (pss_cons (ps_if (pt_cmpR op_eq (pv 1) pe_str (nomark _)) (pss_one (ps_ret (pe_op op_addC (pe_op op_addC (pe_lst (pa_n (pe_call (ok_showhead T) (hr.mono (by omega)) rfl T.mshowhead T.fshowhead.kp T.bshowhead .nil pass0 (pa_n (pv 0) pa_nil)) pa_nil)) (pe_call IH (hr.mono (by omega)) rfl T.mblocklines T.fblocklines.kp T.bblocklines .nil pass0 (pa_n (pe_ix ix_c (pv 0) pe_int (fun _ _ => rfl)) pa_nil))) (pe_lst (pa_n pe_str pa_nil))))) pss_nil)
      (pss_cons (ps_if (pt_cmpR op_eq (pv 1) pe_str (nomark _)) (pss_one (ps_ret (pe_op op_addC (pe_op op_addC (pe_op op_addC (pe_lst (pa_n (pe_call (ok_showhead T) (hr.mono (by omega)) rfl T.mshowhead T.fshowhead.kp T.bshowhead .nil pass0 (pa_n (pv 0) pa_nil)) pa_nil)) (pe_call IH (hr.mono (by omega)) rfl T.mblocklines T.fblocklines.kp T.bblocklines .nil pass0 (pa_n (pe_ix ix_c (pv 0) pe_int (fun _ _ => rfl)) pa_nil))) (pe_call (st_elselines T hn IH) (hr.mono (by omega)) rfl T.melselines T.felselines.kp T.belselines .nil pass0 (pa_n (pe_ix ix_c (pv 0) pe_int (fun _ _ => rfl)) pa_nil))) (pe_lst (pa_n pe_str pa_nil))))) pss_nil)
      (pss_one (ps_ret (pe_lst (pa_n (pe_call (ok_showplain T) (hr.mono (by omega)) rfl T.mshowplain T.fshowplain.kp T.bshowplain .nil pass0 (pa_n (pv 0) pa_nil)) pa_nil))))))), ?_⟩
    try dsimp only [L2.start, m_cons, m_nil, List.cons_append, List.nil_append, List.replicate_succ, List.replicate_zero, List.length_cons, List.length_nil, Nat.reduceAdd, Nat.reduceSub, Nat.zero_add]
    have plain : m.isB = false → m.rows = [m.hd] → spSPlain [v] H (fun y H1 => ∀ p, H1 p = none → Q (.ref p) (upd H1 p (.lst [y]))) E := fun hb hr => by
      exact ⟨v, m, rfl, hM, Stm.wf_hok hw, hb, fun H' K' p hp => q p _ (K'.wasFree hp) (K'.trans (Kp.new hp)) (by rw [upd_same, hr]; rfl)⟩
    have hM0 := hM
    have hok := Stm.wf_hok hw
    have ll := m.rows_len
    by_cases hnb : m.isB = false
    · obtain ⟨a, w0, r0, rfl, e, fB, _⟩ := hM.hdw
      obtain ⟨f1, f2, hr⟩ := fB hnb
      wp_walk using e, f1, f2
      exact plain hnb hr
    cases hM
    case whl a p1 v1 s1 vs bb e h1 f hb =>
      clear plain
      wp_walk using e
      refine ⟨_, _, rfl, hM0, hok, rfl, fun H1 K1 => ?_⟩
      wp_walk
      refine fun c hc => ?_
      simp only [Stm.dp] at hd
      simp only [Stm.sz] at hz ll
      have z1 := rowsL_len bb
      have KN := Kp.new (S := []) (o := .lst [.str (Stm.whl s1 bb).hd]) hc
      have KG := K1.trans KN
      have e1 := KG.at e
      have ec : upd H1 c (.lst [.str (Stm.whl s1 bb).hd]) c = some (.lst [.str (Stm.whl s1 bb).hd]) := upd_same
      generalize upd H1 c (.lst [.str (Stm.whl s1 bb).hd]) = G at *
      wp_walk using e1
      refine ⟨p1, vs, bb, rfl, KG.at f, hb.kp (TupKp.nil KG), hw.2, by omega, by omega, fun l2 H3 f3 K3 e3 => ?_⟩
      have ec3 := K3.at ec
      wp_walk using ec3, e3, List.length_map
      refine ⟨by omega, fun c4 hc4 => ?_⟩
      have KN4 := Kp.new (S := []) (o := .lst (.str (Stm.whl s1 bb).hd :: (rowsL bb).map V.str)) hc4
      have KG4 := (KG.trans K3).trans KN4
      have e4 : upd H3 c4 (.lst (.str (Stm.whl s1 bb).hd :: (rowsL bb).map V.str)) c4 = some (.lst (.str (Stm.whl s1 bb).hd :: (rowsL bb).map V.str)) := upd_same
      generalize upd H3 c4 (.lst (.str (Stm.whl s1 bb).hd :: (rowsL bb).map V.str)) = G4 at *
      refine fun c5 hc5 => ?_
      have KN5 := Kp.new (S := []) (o := .lst [.str "done"]) hc5
      have e5 := KN5.at e4
      wp_walk using e5, List.length_map
      exact ⟨by omega, fun p' hp' => q p' _ ((KG4.trans KN5).wasFree hp') ((KG4.trans KN5).trans (Kp.new hp')) (by rw [upd_same]; simp [Stm.rows, Stm.hd])⟩
    case iff a p1 q1 v1 s1 vs ws bb oo e h1 f hb f2 hb2 =>
      clear plain
      wp_walk using e
      refine ⟨_, _, rfl, hM0, hok, rfl, fun H1 K1 => ?_⟩
      wp_walk
      refine fun c hc => ?_
      simp only [Stm.dp] at hd
      simp only [Stm.sz] at hz ll
      have z1 := rowsL_len bb
      have z2 := rowsL_len oo
      have z3 : (elsL oo).length ≤ (rowsL oo).length + 1 := by unfold elsL; split <;> simp
      have KN := Kp.new (S := []) (o := .lst [.str (Stm.iff s1 bb oo).hd]) hc
      have KG := K1.trans KN
      have e1 := KG.at e
      have ec : upd H1 c (.lst [.str (Stm.iff s1 bb oo).hd]) c = some (.lst [.str (Stm.iff s1 bb oo).hd]) := upd_same
      generalize upd H1 c (.lst [.str (Stm.iff s1 bb oo).hd]) = G at *
      wp_walk using e1
      refine ⟨p1, vs, bb, rfl, KG.at f, hb.kp (TupKp.nil KG), hw.2.1, by omega, by omega, fun l2 H3 f3 K3 e3 => ?_⟩
      have ec3 := K3.at ec
      wp_walk using ec3, e3, List.length_map
      refine ⟨by omega, fun c4 hc4 => ?_⟩
      wp_walk
      simp only [List.cons_append, List.nil_append]
      have KN4 := Kp.new (S := []) (o := .lst (.str (Stm.iff s1 bb oo).hd :: (rowsL bb).map V.str)) hc4
      have KG4 := (KG.trans K3).trans KN4
      have e4 : upd H3 c4 (.lst (.str (Stm.iff s1 bb oo).hd :: (rowsL bb).map V.str)) c4 = some (.lst (.str (Stm.iff s1 bb oo).hd :: (rowsL bb).map V.str)) := upd_same
      generalize upd H3 c4 (.lst (.str (Stm.iff s1 bb oo).hd :: (rowsL bb).map V.str)) = G4 at *
      have eA := KG4.at e
      wp_walk using eA
      refine ⟨q1, ws, oo, rfl, KG4.at f2, hb2.kp (TupKp.nil KG4), hw.2.2, by omega, by omega, fun l6 H6 f6 K6 e6 => ?_⟩
      have e46 := K6.at e4
      wp_walk using e46, e6, List.length_map
      refine ⟨by omega, fun c7 hc7 => ?_⟩
      have KN7 := Kp.new (S := []) (o := .lst (.str (Stm.iff s1 bb oo).hd :: ((rowsL bb).map V.str ++ (elsL oo).map V.str))) hc7
      have KG7 := (KG4.trans K6).trans KN7
      have e7 : upd H6 c7 (.lst (.str (Stm.iff s1 bb oo).hd :: ((rowsL bb).map V.str ++ (elsL oo).map V.str))) c7 = some (.lst (.str (Stm.iff s1 bb oo).hd :: ((rowsL bb).map V.str ++ (elsL oo).map V.str))) := upd_same
      generalize upd H6 c7 (.lst (.str (Stm.iff s1 bb oo).hd :: ((rowsL bb).map V.str ++ (elsL oo).map V.str))) = G7 at *
      refine fun c8 hc8 => ?_
      have KN8 := Kp.new (S := []) (o := .lst [.str "done"]) hc8
      have e8 := KN8.at e7
      wp_walk using e8, List.length_map, List.length_append
      exact ⟨by omega, fun p' hp' => q p' _ ((KG7.trans KN8).wasFree hp') ((KG7.trans KN8).trans (Kp.new hp')) (by rw [upd_same]; simp [Stm.rows, Stm.hd, elsL])⟩
    all_goals exact absurd rfl hnb
set_option linter.all false in private theorem st_blocklines {t : Ad} (T : Tx K mg t) {n d : Nat} (hn : 12 ≤ n) (IH : FnOk P w K mg base CX0 n t.ablocklines t.dblocklines ["block"] (spRows d)) : FnOk P w K mg base CX0 (n + 3) t.ablocklines t.dblocklines ["block"] (spRows (d + 1)) := by
  refine T.fblocklines.ok sc_blocklines (fun vs H Q E h => ?_) (fun cdv A outer s H vs Q E hr h => ?_)
  · obtain ⟨p, us, b, rfl, _⟩ := h
    rfl
  · obtain ⟨p, us, b, rfl, hp, hB, hw, hd, hz, q⟩ := h
    refine ⟨_, (pss_cons (ps_set (i := 1) sc_blocklines.nd rfl (Or.inl rfl) (pe_lst pa_nil))
      (pss_cons (ps_for PassesOwn.never rfl (pi_tup (pv 0)) (pg_name (i := 2) sc_blocklines.nd rfl (Or.inl rfl)) (pss_one (ps_expr (pe_lm PySem.F.slot_list_extend PySem.F.type_list_extend mt_extC (pv 1) (pa_n (pe_call (st_statementlines T hn IH) (hr.mono (by omega)) rfl T.mstatementlines T.fstatementlines.kp T.bstatementlines .nil pass0 (pa_n (pv 2) pa_nil)) pa_nil)))))
      (pss_one (ps_ret (pv 1))))), ?_⟩
    try dsimp only [L2.start, m_cons, m_nil, List.cons_append, List.nil_append, List.replicate_succ, List.replicate_zero, List.length_cons, List.length_nil, Nat.reduceAdd, Nat.reduceSub, Nat.zero_add]
    wp_walk
    refine fun l0 hl0 => ⟨⟨_, SqT.of ((Kp.new (S := []) hl0).at hp)⟩, ?_⟩
    have hl := hB.len
    obtain ⟨Pv, hPv⟩ : ∃ Pv : Nat → St → Hp → Prop, ∀ i σ G, Pv i σ G = ∃ v : Option V, σ = [some (.ref p), some (.ref l0), v] ∧ Kp [] H G ∧ G l0 = some (.lst ((rowsL (b.take i)).map V.str)) := ⟨_, fun _ _ _ => rfl⟩
    refine for_tup (xs := us) Pv ?_ ?_ ?_ ?_
    · rw [hPv]
      exact ⟨none, rfl, Kp.new hl0, upd_same⟩
    · intro i σ G _ hG
      rw [hPv] at hG
      obtain ⟨_, _, k, _⟩ := hG
      exact SqT.of (k.at hp)
    · intro i y σ G hi hG
      rw [hPv] at hG
      obtain ⟨v, rfl, KG, el⟩ := hG
      obtain ⟨m, hm, hM⟩ := hB.at hi
      obtain ⟨m1, m2, m3⟩ := memS hm
      have e5 := takeS hm
      have back : ∀ (w : Option V) (G' : Hp), Kp [] H G' → G' l0 = some (.lst ((rowsL (b.take i) ++ m.rows).map V.str)) → Pv (i + 1) [some (.ref p), some (.ref l0), w] G' := fun w G' h2 h3 => by
        rw [hPv]
        refine ⟨_, rfl, h2, ?_⟩
        rw [e5, rowsL_app, h3]
        simp [rowsL]
      clear hPv
      have ll := rowsL_len (b.take i)
      have lm := m.rows_len
      wp_walk using el
      refine ⟨y, m, rfl, hM.kp (TupKp.nil KG), m1 hw, by omega, by omega, fun l H1 fl K1 e1 => ?_⟩
      have el1 := K1.at el
      wp_walk using el1, e1, List.length_map
      exact ⟨by omega, back _ _ ((KG.trans K1).redo hl0) (by rw [upd_same]; simp)⟩
    · intro σ G hG
      rw [hPv] at hG
      obtain ⟨v, rfl, KG, el⟩ := hG
      rw [← hl, List.take_length] at el
      wp_walk
      exact q l0 G hl0 KG el

set_option linter.all false in private theorem ok_blocklines {t : Ad} (T : Tx K mg t) : ∀ d, FnOk P w K mg base CX0 (3 * d + 12) t.ablocklines t.dblocklines ["block"] (spRows d) := by
  intro d
  induction d with
  | zero => exact ⟨fun _ _ _ _ x => by (obtain ⟨_, _, _, _, _, _, _, h, _⟩ := x; exact absurd h (by omega)), fun _ _ _ _ _ _ _ _ _ _ _ _ _ x => by (obtain ⟨_, _, _, _, _, _, _, h, _⟩ := x; exact absurd h (by omega))⟩
  | succ d ih => exact st_blocklines T (by omega) ih

set_option linter.all false in private theorem ok_showprogram {t : Ad} (T : Tx K mg t) : FnOk P w K mg base CX0 32 t.ashowprogram t.dshowprogram ["program"] spTextP := by
  refine T.fshowprogram.ok sc_showprogram (fun vs H Q E h => ?_) (fun cdv A outer s H vs Q E hr h => ?_)
  · obtain ⟨p, us, b, rfl, _⟩ := h
    rfl
  · obtain ⟨p, us, b, rfl, hp, hB, hw, hd, hz, q⟩ := h
    refine ⟨_, (pss_one (ps_ret (pe_bm PySem.F.plainAttrs_str PySem.F.slot_str_join PySem.F.type_str_join mt_join pe_str (pa_n (pe_comp (cl := []) (fr := []) (N := ["line"]) rfl (fun _ _ h => h) (CompSc.nofree rfl rfl rfl rfl) (pi_list (pe_call (ok_blocklines T 6) (hr.mono (by omega)) rfl T.mblocklines T.fblocklines.kp T.bblocklines .nil pass0 (pa_n (pv 0) pa_nil))) (fun C s H ex pn => ⟨pts_nil, (pe_op op_addC (pv 0) pe_str)⟩)) pa_nil)))), ?_⟩
    try dsimp only [L2.start, m_cons, m_nil, List.cons_append, List.nil_append, List.replicate_succ, List.replicate_zero, List.length_cons, List.length_nil, Nat.reduceAdd, Nat.reduceSub, Nat.zero_add]
    wp_walk
    refine ⟨p, us, b, rfl, hp, hB, hw, by omega, by omega, fun l G fl KG el => ?_⟩
    have ll := rowsL_len b
    have sm := rowsL_small hw
    wp_walk
    refine ⟨⟨_, SqL.of el⟩, ?_⟩
    refine lc_list (ys := (rowsL b).map V.str) (fun j xs G' => xs = (((rowsL b).take j).map fun r : Str => r ++ "\n").map V.str ∧ Kp [] G G') ⟨rfl, Kp.refl⟩ ?_ ?_ ?_ ?_
    · rintro j xs G' ⟨rfl, _⟩
      simp only [List.length_map, List.length_take]
      omega
    · rintro j xs G' ⟨_, k⟩
      exact SqL.of (k.at el)
    · rintro j y xs G' _ hj ⟨rfl, k⟩
      obtain ⟨r, hr, rfl⟩ : ∃ r, (rowsL b)[j]? = some r ∧ V.str r = y := by
        rw [List.getElem?_map] at hj
        exact Option.map_eq_some_iff.mp hj
      have e5 := take_snoc hr
      have lr := sm r (List.mem_of_getElem? hr)
      have ln := nl_len.1
      wp_walk using compSt, Option.join_some
      refine ⟨by omega, ?_, k⟩
      rw [e5]
      simp
    · rintro xs G' ⟨rfl, k⟩ l2 hl2
      simp only [List.length_map, List.take_length]
      wp_walk
      have sb : ((((rowsL b).map fun r : Str => r ++ "\n")).map fun z => z.length).sum ≤ 8001 * ((rowsL b).map fun r : Str => r ++ "\n").length := sum_small fun y hy => by
        obtain ⟨r, hr, rfl⟩ := List.mem_map.mp hy
        have := sm r hr
        simp only [str_len, nl_len.1]
        omega
      simp only [List.length_map] at sb
      simp only [nl_len.2, List.length_map, Nat.mul_zero, Nat.add_zero]
      exact ⟨by omega, q _ ((KG.trans k).trans (Kp.new hl2))⟩
set_option linter.all false in private theorem ok_lawstream {t : Ad} (T : Tx K mg t) : FnOk P w K mg base CX0 1 t.alawstream t.dlawstream ["cell"] spStream := by
  refine T.flawstream.ok sc_lawstream (fun vs H Q E h => ?_) (fun cdv A outer s H vs Q E hr h => ?_)
  · obtain ⟨c, rfl, _⟩ := h
    rfl
  · obtain ⟨c, rfl, q⟩ := h
    refine ⟨_, (pss_cons (ps_set (i := 1) sc_lawstream.nd rfl (Or.inl rfl) (pe_op op_mod (pv 0) pe_int))
      (pss_cons (ps_set (i := 1) sc_lawstream.nd rfl (Or.inl rfl) (pe_op op_mod (pe_op op_addC (pe_op op_mul (pe_op op_mod (pe_op op_mul (pv 1) (pv 1)) pe_int) (pe_op op_addC (pv 1) pe_int)) pe_int) pe_int))
      (pss_one (ps_ret (pe_lst (pa_n (pv 0) (pa_n (pv 1) (pa_n (pe_callTy call_intC rfl T.zint bt_int (pa_n (pe_cmpR op_ge (pv 0) (pe_op op_pow pe_int pe_int) (nomark _)) pa_nil)) pa_nil)))))))), ?_⟩
    try dsimp only [L2.start, m_cons, m_nil, List.cons_append, List.nil_append, List.replicate_succ, List.replicate_zero, List.length_cons, List.length_nil, Nat.reduceAdd, Nat.reduceSub, Nat.zero_add]
    wp_walk
    have m0 := Int.emod_nonneg c (show (536870909 : Int) ≠ 0 by decide)
    have m1 := Int.emod_lt_of_pos c (show (0 : Int) < 536870909 by decide)
    have n0 := Int.emod_nonneg (c % 536870909 * (c % 536870909)) (show (536870909 : Int) ≠ 0 by decide)
    have n1 := Int.emod_lt_of_pos (c % 536870909 * (c % 536870909)) (show (0 : Int) < 536870909 by decide)
    refine ⟨mulOk (by omega) (by omega), mulOk (by omega) (by omega), fun r hr' => ?_⟩
    refine q r _ hr' (Kp.new hr') ⟨_, _, _, upd_same, ?_, ?_⟩
    · exact Int.emod_nonneg _ (by decide)
    · exact Int.emod_lt_of_pos _ (by decide)
set_option linter.all false in private theorem ok_lawtake {t : Ad} (T : Tx K mg t) : FnOk P w K mg base CX0 1 t.alawtake t.dlawtake ["row", "many"] spTake := by
  refine T.flawtake.ok sc_lawtake (fun vs H Q E h => ?_) (fun cdv A outer s H vs Q E hr h => ?_)
  · obtain ⟨r, m, rfl, _⟩ := h
    rfl
  · obtain ⟨r, m, rfl, m0, m1, ⟨c, l, f, hr0, l0, l1⟩, q⟩ := h
    refine ⟨_, (pss_cons (ps_if (pt_cmpR op_eq (pe_ix ix_c (pv 0) pe_int (fun _ _ => rfl)) pe_int (nomark _)) (pss_cons (ps_set (i := 2) sc_lawtake.nd rfl (Or.inl rfl) (pe_op op_mod (pe_ix ix_c (pv 0) pe_int (fun _ _ => rfl)) (pv 1)))
      (pss_cons (ps_asg (pe_op op_fdivB (pe_ix ix_c (pv 0) pe_int (fun _ _ => rfl)) (pv 1)) (pg_sub (pv 0) pe_int set_c))
      (pss_one (ps_ret (pv 2))))) pss_nil)
      (pss_cons (ps_asg (pe_op op_mod (pe_op op_mul (pe_op op_addC (pe_ix ix_c (pv 0) pe_int (fun _ _ => rfl)) pe_int) (pe_op op_addC (pe_ix ix_c (pv 0) pe_int (fun _ _ => rfl)) pe_int)) pe_int) (pg_sub (pv 0) pe_int set_c))
      (pss_one (ps_ret (pe_op op_mod (pe_op op_addC (pe_op op_mul (pe_ix ix_c (pv 0) pe_int (fun _ _ => rfl)) pe_int) pe_int) (pv 1)))))), ?_⟩
    try dsimp only [L2.start, m_cons, m_nil, List.cons_append, List.nil_append, List.replicate_succ, List.replicate_zero, List.length_cons, List.length_nil, Nat.reduceAdd, Nat.reduceSub, Nat.zero_add]
    wp_walk using hr0
    have n0 := Int.emod_nonneg ((l + 7919) * (l + 104729)) (show (536870909 : Int) ≠ 0 by decide)
    have n1 := Int.emod_lt_of_pos ((l + 7919) * (l + 104729)) (show (0 : Int) < 536870909 by decide)
    split
    · exact ⟨m0, ⟨m0, log2_lt m0 m1⟩, q _ _ (Int.emod_nonneg _ (by omega)) (Int.emod_lt_of_pos _ m0) ⟨_, _, _, upd_same, l0, l1⟩ (Kp.set (by simp))⟩
    · exact ⟨mulOk (by omega) (by omega), mulOk (by omega) (by omega), m0, q _ _ (Int.emod_nonneg _ (by omega)) (Int.emod_lt_of_pos _ m0) ⟨_, _, _, upd_same, n0, n1⟩ (Kp.set (by simp))⟩
set_option linter.all false in private theorem ok_lawworth {t : Ad} (T : Tx K mg t) : FnOk P w K mg base CX0 2 t.alawworth t.dlawworth ["row"] spWorth := by
  refine T.flawworth.ok sc_lawworth (fun vs H Q E h => ?_) (fun cdv A outer s H vs Q E hr h => ?_)
  · obtain ⟨r, rfl, _⟩ := h
    rfl
  · obtain ⟨r, rfl, hR, q⟩ := h
    refine ⟨_, (pss_cons (ps_set (i := 1) sc_lawworth.nd rfl (Or.inl rfl) (pe_call (ok_lawtake T) (hr.mono (by omega)) rfl T.mlawtake T.flawtake.kp T.blawtake .nil pass0 (pa_n (pv 0) (pa_n pe_int pa_nil))))
      (pss_cons (ps_if (pt_cmpR op_eq (pv 1) pe_int (nomark _)) (pss_one (ps_ret pe_non)) pss_nil)
      (pss_cons (ps_if (pt_cmpR op_eq (pv 1) pe_int (nomark _)) (pss_one (ps_ret (pe_ix ix_c (pe_lst (pa_n (pe_op op_pow pe_int pe_int) (pa_n (pe_un un_neg (pe_op op_pow pe_int pe_int)) (pa_n (pe_op op_sub (pe_op op_pow pe_int pe_int) pe_int) (pa_n (pe_op op_sub pe_int (pe_op op_pow pe_int pe_int)) pa_nil))))) (pe_call (ok_lawtake T) (hr.mono (by omega)) rfl T.mlawtake T.flawtake.kp T.blawtake .nil pass0 (pa_n (pv 0) (pa_n pe_int pa_nil))) (fun _ _ => rfl)))) pss_nil)
      (pss_cons (ps_if (pt_cmpR op_eq (pv 1) pe_int (nomark _)) (pss_one (ps_ret (pe_op op_sub (pe_call (ok_lawtake T) (hr.mono (by omega)) rfl T.mlawtake T.flawtake.kp T.blawtake .nil pass0 (pa_n (pv 0) (pa_n (pe_op op_addC (pe_op op_mul pe_int (pe_op op_pow pe_int pe_int)) pe_int) pa_nil))) (pe_op op_pow pe_int pe_int)))) pss_nil)
      (pss_cons (ps_if (pt_cmpR op_eq (pv 1) pe_int (nomark _)) (pss_one (ps_ret (pe_op op_mul (pe_ix ix_c (pe_lst (pa_n pe_int (pa_n (pe_un un_neg pe_int) pa_nil))) (pe_call (ok_lawtake T) (hr.mono (by omega)) rfl T.mlawtake T.flawtake.kp T.blawtake .nil pass0 (pa_n (pv 0) (pa_n pe_int pa_nil))) (fun _ _ => rfl)) (pe_call (ok_lawtake T) (hr.mono (by omega)) rfl T.mlawtake T.flawtake.kp T.blawtake .nil pass0 (pa_n (pv 0) (pa_n pe_int pa_nil)))))) pss_nil)
      (pss_one (ps_ret (pe_op op_sub (pe_call (ok_lawtake T) (hr.mono (by omega)) rfl T.mlawtake T.flawtake.kp T.blawtake .nil pass0 (pa_n (pv 0) (pa_n pe_int pa_nil))) pe_int)))))))), ?_⟩
    try dsimp only [L2.start, m_cons, m_nil, List.cons_append, List.nil_append, List.replicate_succ, List.replicate_zero, List.length_cons, List.length_nil, Nat.reduceAdd, Nat.reduceSub, Nat.zero_add]
    wp_walk
    refine ⟨hR, fun g H1 a1 b1 R1 K1 => ?_⟩
    split
    · exact q none H1 isWo_non R1 K1
    split
    · refine fun p hp => ⟨R1.new hp, fun g2 H2 a2 b2 R2 K2 => ?_⟩
      wp_walk using K2.made R1 hp
      refine r_draw a2 b2 fun v hv => ?_
      wp_walk
      have K := K1.trans ((Kp.new hp).trans K2)
      simp only [List.mem_cons, List.not_mem_nil, or_false] at hv
      rcases hv with rfl | rfl | rfl | rfl <;> exact q (some _) _ (isWo_int (by decide) (by decide)) R2 K
    split
    · refine ⟨R1, fun g2 H2 a2 b2 R2 K2 => ?_⟩
      exact q (some _) _ (isWo_int (by omega) (by omega)) R2 (K1.trans K2)
    split
    · refine fun p hp => ⟨R1.new hp, fun g2 H2 a2 b2 R2 K2 => ?_⟩
      wp_walk using K2.made R1 hp
      refine r_draw a2 b2 fun v hv => ?_
      wp_walk
      refine ⟨R2, fun g3 H3 a3 b3 R3 K3 => ?_⟩
      have K := (K1.trans ((Kp.new hp).trans K2)).trans K3
      simp only [List.mem_cons, List.not_mem_nil, or_false] at hv
      rcases hv with rfl | rfl
      · wp_walk
        exact q (some _) _ (isWo_int (by omega) (by omega)) R3 K
      · wp_walk
        exact ⟨mulOk (by decide) (by decide), q (some _) _ (isWo_int (by omega) (by omega)) R3 K⟩
    · refine ⟨R1, fun g2 H2 a2 b2 R2 K2 => ?_⟩
      exact q (some _) _ (isWo_int (by omega) (by omega)) R2 (K1.trans K2)
set_option linter.all false in private theorem ok_lawown {t : Ad} (T : Tx K mg t) : FnOk P w K mg base CX0 1 t.alawown t.dlawown [] spOwn := by
  refine T.flawown.ok sc_lawown (fun vs H Q E h => ?_) (fun cdv A outer s H vs Q E hr h => ?_)
  · obtain ⟨rfl, _⟩ := h
    rfl
  · obtain ⟨rfl, q⟩ := h
    refine ⟨_, (pss_cons (ps_set (i := 0) sc_lawown.nd rfl (Or.inl rfl) (pe_lst (pa_n pe_str (pa_n pe_str (pa_n pe_str (pa_n pe_str (pa_n pe_str (pa_n pe_str (pa_n pe_str (pa_n pe_str (pa_n pe_str (pa_n pe_str (pa_n pe_str (pa_n pe_str pa_nil))))))))))))))
      (pss_one (ps_ret (pe_op op_addC (pv 0) (pe_lst (pa_n pe_str (pa_n pe_str (pa_n pe_str (pa_n pe_str (pa_n pe_str pa_nil)))))))))), ?_⟩
    try dsimp only [L2.start, m_cons, m_nil, List.cons_append, List.nil_append, List.replicate_succ, List.replicate_zero, List.length_cons, List.length_nil, Nat.reduceAdd, Nat.reduceSub, Nat.zero_add]
    wp_walk
    refine fun p1 h1 p2 h2 => ?_
    have n : p1 ≠ p2 := ne_of_none upd_same h2
    wp_walk using upd_ne n
    refine fun p3 h3 => ?_
    have n3 : p3 ≠ p2 := (ne_of_none upd_same h3).symm
    have n4 : p3 ≠ p1 := fun z => by rw [z, upd_ne n, upd_same] at h3; cases h3
    have h4 := h3
    rw [upd_ne n3, upd_ne n4] at h4
    exact q p3 _ h4 (((Kp.new h1).trans (Kp.new h2)).trans (Kp.new h3)) upd_same
set_option linter.all false in private theorem ok_lawname {t : Ad} (T : Tx K mg t) : FnOk P w K mg base CX0 2 t.alawname t.dlawname ["row"] spName := by
  refine T.flawname.ok sc_lawname (fun vs H Q E h => ?_) (fun cdv A outer s H vs Q E hr h => ?_)
  · obtain ⟨r, rfl, _⟩ := h
    rfl
  · obtain ⟨r, rfl, hR, q⟩ := h
    refine ⟨_, (pss_cons (ps_set (i := 1) sc_lawname.nd rfl (Or.inl rfl) pe_str)
      (pss_cons (ps_set (i := 2) sc_lawname.nd rfl (Or.inl rfl) (pe_call (ok_lawtake T) (hr.mono (by omega)) rfl T.mlawtake T.flawtake.kp T.blawtake .nil pass0 (pa_n (pv 0) (pa_n pe_int pa_nil))))
      (pss_cons (ps_if (pt_cmpR op_eq (pv 2) pe_int (nomark _)) (pss_cons (ps_set (i := 3) sc_lawname.nd rfl (Or.inl rfl) (pe_ix ix_c (pe_call0 (ok_lawown T) (hr.mono (by omega)) rfl T.mlawown T.flawown.kp T.blawown .nil pass0) (pe_call (ok_lawtake T) (hr.mono (by omega)) rfl T.mlawtake T.flawtake.kp T.blawtake .nil pass0 (pa_n (pv 0) (pa_n pe_int pa_nil))) (fun _ _ => rfl)))
      (pss_one (ps_ret (pe_ix ix_c (pe_lst (pa_n (pe_op op_addC (pe_slice sl_c (pv 3) po_none (po_some (pe_un un_neg pe_int))) pe_str) (pa_n (pe_slice sl_c (pe_op op_addC (pv 3) pe_str) (po_some (pe_un un_neg pe_int)) po_none) (pa_n (pe_op op_addC (pe_slice sl_c (pv 3) po_none (po_some pe_int)) pe_str) pa_nil)))) (pe_call (ok_lawtake T) (hr.mono (by omega)) rfl T.mlawtake T.flawtake.kp T.blawtake .nil pass0 (pa_n (pv 0) (pa_n pe_int pa_nil))) (fun _ _ => rfl))))) pss_nil)
      (pss_cons (ps_if (pt_cmpR op_eq (pv 2) pe_int (nomark _)) (pss_one (ps_ret (pe_ix ix_c (pe_lst (pa_n pe_str (pa_n pe_str (pa_n pe_str (pa_n pe_str (pa_n pe_str (pa_n pe_str pa_nil))))))) (pe_call (ok_lawtake T) (hr.mono (by omega)) rfl T.mlawtake T.flawtake.kp T.blawtake .nil pass0 (pa_n (pv 0) (pa_n pe_int pa_nil))) (fun _ _ => rfl)))) pss_nil)
      (pss_cons (ps_set (i := 4) sc_lawname.nd rfl (Or.inl rfl) pe_str)
      (pss_cons (ps_for PassesOwn.never rfl (pi_range1 rfl T.zrange (pa_n (pe_op op_addC pe_int (pe_call (ok_lawtake T) (hr.mono (by omega)) rfl T.mlawtake T.flawtake.kp T.blawtake .nil pass0 (pa_n (pv 0) (pa_n pe_int pa_nil)))) pa_nil)) (pg_name (i := 5) sc_lawname.nd rfl (Or.inl rfl)) (pss_one (ps_set (i := 4) sc_lawname.nd rfl (Or.inl rfl) (pe_op op_addC (pv 4) (pe_ix ix_c (pv 1) (pe_call (ok_lawtake T) (hr.mono (by omega)) rfl T.mlawtake T.flawtake.kp T.blawtake .nil pass0 (pa_n (pv 0) (pa_n pe_int pa_nil))) (fun _ _ => rfl))))))
      (pss_cons (ps_if (pt_cmpR op_inC (pv 4) (pe_call0 (ok_lawown T) (hr.mono (by omega)) rfl T.mlawown T.flawown.kp T.blawown .nil pass0) (by with_unfolding_all rfl)) (pss_one (ps_set (i := 4) sc_lawname.nd rfl (Or.inl rfl) (pe_op op_addC (pe_slice sl_c (pv 4) po_none (po_some pe_int)) pe_str))) pss_nil)
      (pss_one (ps_ret (pv 4)))))))))), ?_⟩
    try dsimp only [L2.start, m_cons, m_nil, List.cons_append, List.nil_append, List.replicate_succ, List.replicate_zero, List.length_cons, List.length_nil, Nat.reduceAdd, Nat.reduceSub, Nat.zero_add]
    wp_walk
    obtain ⟨lx, lz, ls, lq, l0, l26⟩ := len_x
    refine ⟨hR, fun g H1 a1 b1 R1 K1 => ?_⟩
    split
    · refine fun p H2 hp K2 e2 => ⟨R1.kp K2, fun g2 H3 a3 b3 R3 K3 => ?_⟩
      have e3 := K3.at1 e2 (R1.none hp)
      wp_walk using e3
      refine r_draw a3 b3 fun v hv => ?_
      wp_walk
      obtain ⟨x, rfl, hx, nm1, nm2, nm3⟩ := own_nm hv
      have l1 := slice_len x none (some (-1))
      have l2 := slice_len (x ++ "s") (some (-6)) none
      have l3 := slice_len x none (some 5)
      have l4 := str_len x "s"
      have l5 := str_len (Txt.slice x none (some (-1))) "z"
      have l6 := str_len (Txt.slice x none (some 5)) "x"
      wp_walk
      refine ⟨by omega, by omega, by omega, by omega, by omega, by omega, fun p4 h4 => ⟨R3.new h4, fun g5 H5 a5 b5 R5 K5 => ?_⟩⟩
      wp_walk using K5.made R3 h4
      refine r_draw a5 b5 fun v hv => ?_
      wp_walk
      have K := K1.trans ((Kp.of K2.same).trans (K3.trans ((Kp.new h4).trans K5)))
      simp only [List.mem_cons, List.not_mem_nil, or_false] at hv
      rcases hv with rfl | rfl | rfl
      · exact q _ _ nm1 R5 K
      · exact q _ _ nm2 R5 K
      · exact q _ _ nm3 R5 K
    split
    · refine fun p4 h4 => ⟨R1.new h4, fun g5 H5 a5 b5 R5 K5 => ?_⟩
      wp_walk using K5.made R1 h4
      refine r_draw a5 b5 fun v hv => ?_
      wp_walk
      have K := K1.trans ((Kp.new h4).trans K5)
      obtain ⟨x6, rfl, n6⟩ := six_nm _ hv
      exact q _ _ n6 R5 K
    · refine ⟨R1, fun g5 H5 a5 b5 R5 K5 => ⟨⟨by omega, by omega⟩, ?_⟩⟩
      refine for_range (lo := 0) (fun i σ H' => ∃ (x : Str) (v : Option V), σ = [some (.ref r), some (.str "abcdefghijklmnopqrstuvwxyz"), some (.int g), none, some (.str x), v] ∧ (x.length = i ∧ x.length ≤ 6 ∧ x.cps.toList.all (fun c => decide (97 ≤ c) && decide (c ≤ 122)) = true) ∧ RowAt H' r ∧ Kp [r] H H')
        ⟨"", none, rfl, ⟨l0, by omega, by decide +kernel⟩, R5, K1.trans K5⟩ ?_ ?_
      · rintro i σ H' hi ⟨x, v, rfl, hx, R', K'⟩
        wp_walk
        refine ⟨R', fun g6 H6 a6 b6 R6 K6 => ⟨by omega, ?_⟩⟩
        refine r_drawS a6 (by omega) fun c hcm => ?_
        have l1 := str_len x ⟨#[c]⟩
        have l2 := one_len c
        wp_walk
        exact ⟨by omega, _, _, rfl, ⟨by omega, by omega, all_snoc hx.2.2 (abc_small c hcm)⟩, R6, K'.trans K6⟩
      · rintro σ H' ⟨x, v, rfl, hx, R', K'⟩
        have lx : x.length ≤ 100 := by omega
        wp_walk
        refine fun p H2 hp K2 e2 => ?_
        wp_walk using e2, own_flat, flatV
        have K := K'.trans (Kp.of K2.same)
        split
        · have l3 := slice_len x none (some 5)
          have l4 := str_len (Txt.slice x none (some 5)) "q"
          exact ⟨by omega, by omega, q _ _ (own_q ‹_›) (R'.kp K2) K⟩
        · exact q _ _ (nm_of (by omega) hx.2.1 hx.2.2 ‹_›) (R'.kp K2) K
set_option linter.all false in private theorem st_lawsaying {t : Ad} (T : Tx K mg t) {n d : Nat} (hn : 3 ≤ n) (IH : FnOk P w K mg base CX0 n t.alawsaying t.dlawsaying ["row", "deep", "names", "left"] (spSaying d)) : FnOk P w K mg base CX0 (n + 1) t.alawsaying t.dlawsaying ["row", "deep", "names", "left"] (spSaying (d + 1)) := by
  refine T.flawsaying.ok sc_lawsaying (fun vs H Q E h => ?_) (fun cdv A outer s H vs Q E hr h => ?_)
  · obtain ⟨r, nl, lf, dp, xs, k, rfl, _⟩ := h
    rfl
  · obtain ⟨r, nl, lf, dp, xs, k, rfl, I, hd, q⟩ := h
    refine ⟨_, (pss_cons (ps_set (i := 4) sc_lawsaying.nd rfl (Or.inl rfl) (pe_call (ok_lawtake T) (hr.mono (by omega)) rfl T.mlawtake T.flawtake.kp T.blawtake .nil pass0 (pa_n (pv 0) (pa_n pe_int pa_nil))))
      (pss_cons (ps_asg (pe_op op_sub (pe_ix ix_c (pv 3) pe_int (fun _ _ => rfl)) pe_int) (pg_sub (pv 3) pe_int set_c))
      (pss_cons (ps_if (PW.pt (pw_or (pt_cmpR op_eq (pv 1) pe_int (nomark _)) (pw_or (pt_cmpR op_lt (pe_ix ix_c (pv 3) pe_int (fun _ _ => rfl)) pe_int (nomark _)) (pw_or1 (pt_cmpR op_lt (pv 4) pe_int (nomark _)))))) (pss_cons (ps_set (i := 5) sc_lawsaying.nd rfl (Or.inl rfl) (pe_call (ok_lawtake T) (hr.mono (by omega)) rfl T.mlawtake T.flawtake.kp T.blawtake .nil pass0 (pa_n (pv 0) (pa_n pe_int pa_nil))))
      (pss_cons (ps_if (pt_cmpR op_lt (pv 5) pe_int (nomark _)) (pss_one (ps_ret (pe_tup (pa_n pe_str (pa_n (pe_ix ix_c (pv 2) (pe_call (ok_lawtake T) (hr.mono (by omega)) rfl T.mlawtake T.flawtake.kp T.blawtake .nil pass0 (pa_n (pv 0) (pa_n (pe_callB call_lenC rfl T.zlen bt_len (pa_n (pv 2) pa_nil)) pa_nil))) (fun _ _ => rfl)) pa_nil))))) pss_nil)
      (pss_cons (ps_if (pt_cmpR op_lt (pv 5) pe_int (nomark _)) (pss_cons (ps_set (i := 6) sc_lawsaying.nd rfl (Or.inl rfl) (pe_call (ok_lawworth T) (hr.mono (by omega)) rfl T.mlawworth T.flawworth.kp T.blawworth .nil pass0 (pa_n (pv 0) pa_nil)))
      (pss_one (ps_ret (pe_ix ix_c (pe_lst (pa_n (pe_tup (pa_n pe_str (pa_n (pv 6) pa_nil))) (pa_n (pe_tup (pa_n pe_str pa_nil)) pa_nil))) (pe_callTy call_intC rfl T.zint bt_int (pa_n (pe_cmpR op_isC (pv 6) pe_non (nomark _)) pa_nil)) (fun _ _ => rfl))))) pss_nil)
      (pss_one (ps_ret (pe_ix ix_c (pe_lst (pa_n (pe_tup (pa_n pe_str pa_nil)) (pa_n (pe_tup (pa_n pe_str pa_nil)) pa_nil))) (pe_op op_sub (pv 5) pe_int) (fun _ _ => rfl))))))) pss_nil)
      (pss_cons (ps_if (pt_cmpR op_lt (pv 4) pe_int (nomark _)) (pss_one (ps_ret (pe_tup (pa_n (pe_ix ix_c (pe_lst (pa_n pe_str (pa_n pe_str pa_nil))) (pe_op op_sub (pv 4) pe_int) (fun _ _ => rfl)) (pa_n (pe_call IH (hr.mono (by omega)) rfl T.mlawsaying T.flawsaying.kp T.blawsaying .nil pass0 (pa_n (pv 0) (pa_n (pe_op op_sub (pv 1) pe_int) (pa_n (pv 2) (pa_n (pv 3) pa_nil))))) pa_nil))))) pss_nil)
      (pss_cons (ps_set (i := 7) sc_lawsaying.nd rfl (Or.inl rfl) (pe_call IH (hr.mono (by omega)) rfl T.mlawsaying T.flawsaying.kp T.blawsaying .nil pass0 (pa_n (pv 0) (pa_n (pe_op op_sub (pv 1) pe_int) (pa_n (pv 2) (pa_n (pv 3) pa_nil))))))
      (pss_cons (ps_set (i := 8) sc_lawsaying.nd rfl (Or.inl rfl) (pe_ix ix_c (pe_lst (pa_n pe_str (pa_n pe_str (pa_n pe_str (pa_n pe_str (pa_n pe_str pa_nil)))))) (pe_call (ok_lawtake T) (hr.mono (by omega)) rfl T.mlawtake T.flawtake.kp T.blawtake .nil pass0 (pa_n (pv 0) (pa_n pe_int pa_nil))) (fun _ _ => rfl)))
      (pss_one (ps_ret (pe_tup (pa_n (pv 8) (pa_n (pv 7) (pa_n (pe_call IH (hr.mono (by omega)) rfl T.mlawsaying T.flawsaying.kp T.blawsaying .nil pass0 (pa_n (pv 0) (pa_n (pe_op op_sub (pv 1) pe_int) (pa_n (pv 2) (pa_n (pv 3) pa_nil))))) pa_nil)))))))))))), ?_⟩
    try dsimp only [L2.start, m_cons, m_nil, List.cons_append, List.nil_append, List.replicate_succ, List.replicate_zero, List.length_cons, List.length_nil, Nat.reduceAdd, Nat.reduceSub, Nat.zero_add]
    refine cut_seq fun R_1 hR1 => ?_
    wp_walk
    refine ⟨I.row, fun g H1 a1 b1 R1 K1 => ?_⟩
    have l1 := K1.at1 I.hlf I.n2
    have n1 := K1.at1 I.hnl I.n1
    refine hR1 _ _ ?_
    clear hR1
    refine cut_seq fun R_2 hR2 => ?_
    wp_walk using l1
    have B : Kp [r, lf] H (upd H1 lf (.lst [.int (k - 1)])) := (K1.mono (by simp)).trans (Kp.set (by simp))
    have R1' : RowAt (upd H1 lf (.lst [.int (k - 1)])) r := R1.kp (S := [lf]) (Kp.set (by simp)) (by simp [I.n2.symm])
    have l1' : upd H1 lf (.lst [.int (k - 1)]) lf = some (.lst [.int (k - 1)]) := upd_same
    generalize upd H1 lf (.lst [.int (k - 1)]) = G at *
    refine hR2 _ _ ?_
    clear hR2
    refine cut_seq fun R_3 hR3 => ?_
    wp_walk using l1'
    simp only [f_or]
    have n1' := B _ _ I.hnl (by simp [I.n1, I.n3])
    have lo := I.lo
    split
    · refine ⟨R1', fun g2 H2 a2 b2 R2 K2 => ?_⟩
      have n2 := K2.at1 n1' I.n1
      have l2 := K2.at1 l1' I.n2
      have B2 := B.trans (K2.mono (T := [r, lf]) (by simp))
      split
      · wp_walk using n2
        have h0 := I.l0
        have h1 := I.l1
        refine ⟨by simp; omega, by simp; omega, R2, fun g3 H3 a3 b3 R3 K3 => ?_⟩
        wp_walk using K3.at1 n2 I.n1
        refine r_draw a3 b3 fun v hv => ?_
        wp_walk
        obtain ⟨x, hxm, rfl⟩ := List.mem_map.mp hv
        exact fun p hp => q _ (.name x) _ ⟨.name upd_same, by simpa [Say.depth] using lo, trivial, R3.new hp, ⟨_, (Kp.new (S := []) hp).at (K3.at1 l2 I.n2)⟩, (B2.trans (K3.mono (by simp))).trans (Kp.new hp), fun y hy => by rw [show y = x by simpa [Say.nms] using hy]; exact hxm⟩
      split
      · refine ⟨R2, fun w H3 hw R3 K3 p1 h1 p2 h2 p3 h3 => ?_⟩
        have B3 := (((B2.trans (K3.mono (T := [r, lf]) (by simp))).trans (Kp.new h1)).trans (Kp.new h2)).trans (Kp.new (o := .lst [.ref p1, .ref p2]) h3)
        have l3 := (Kp.new (S := []) (o := .lst [.ref p1, .ref p2]) h3).at ((Kp.new (S := []) h2).at ((Kp.new (S := []) h1).at (K3.at1 l2 I.n2)))
        have t1 := (Kp.new (S := []) (o := .lst [.ref p1, .ref p2]) h3).at ((Kp.new (S := []) (o := .tup [.str "none"]) h2).at (upd_same (H := H3) (a := p1) (o := .tup [.str "number", wv w])))
        have t2 := (Kp.new (S := []) (o := .lst [.ref p1, .ref p2]) h3).at (upd_same (H := upd H3 p1 (.tup [.str "number", wv w])) (a := p2) (o := .tup [.str "none"]))
        cases w with
        | none =>
          wp_walk using wv_non
          exact q _ .non _ ⟨.non t2, by simpa [Say.depth] using lo, trivial, ((R3.new h1).new h2).new h3, ⟨_, l3⟩, B3, (by simp [Say.nms])⟩
        | some m =>
          wp_walk using wv_non, reduceCtorEq
          exact q _ (.num m) _ ⟨.num t1, by simpa [Say.depth] using lo, hw m rfl, ((R3.new h1).new h2).new h3, ⟨_, l3⟩, B3, (by simp [Say.nms])⟩
      · refine fun p1 h1 p2 h2 p3 h3 => ?_
        have B3 := ((B2.trans (Kp.new h1)).trans (Kp.new h2)).trans (Kp.new (o := .lst [.ref p1, .ref p2]) h3)
        have l3 := (Kp.new (S := []) (o := .lst [.ref p1, .ref p2]) h3).at ((Kp.new (S := []) h2).at ((Kp.new (S := []) h1).at l2))
        have t1 := (Kp.new (S := []) (o := .lst [.ref p1, .ref p2]) h3).at ((Kp.new (S := []) (o := .tup [.str "now"]) h2).at (upd_same (H := H2) (a := p1) (o := .tup [.str "arg"])))
        have t2 := (Kp.new (S := []) (o := .lst [.ref p1, .ref p2]) h3).at (upd_same (H := upd H2 p1 (.tup [.str "arg"])) (a := p2) (o := .tup [.str "now"]))
        refine r_draw (by omega) (by simp; omega) fun v hv => ?_
        wp_walk
        simp only [List.mem_cons, List.not_mem_nil, or_false] at hv
        rcases hv with rfl | rfl
        · exact q _ .arg _ ⟨.arg t1, by simpa [Say.depth] using lo, trivial, ((R2.new h1).new h2).new h3, ⟨_, l3⟩, B3, (by simp [Say.nms])⟩
        · exact q _ .now _ ⟨.now t2, by simpa [Say.depth] using lo, trivial, ((R2.new h1).new h2).new h3, ⟨_, l3⟩, B3, (by simp [Say.nms])⟩
    rename_i hc
    refine hR3 _ _ ?_
    clear hR3
    refine cut_seq fun R_4 hR4 => ?_
    wp_walk
    split
    · refine fun p hp => ?_
      refine r_draw (by omega) (by simp; omega) fun v hv => ?_
      wp_walk
      have K2 : Kp [r, lf] G (upd G p (.lst [.str "answer", .str "not"])) := Kp.new hp
      refine ⟨r, nl, lf, dp - 1, xs, k - 1, rfl, I.kp (B.trans K2) (R1'.new hp) ((Kp.new (S := []) hp).at l1') (by omega), by omega, fun u s H2 O p2 h2 => ?_⟩
      obtain ⟨k2, l2⟩ := O.hlf
      have l3 := (Kp.new (S := []) (o := .tup [v, u]) h2).at l2
      have B3 := ((B.trans K2).trans O.kp).trans (Kp.new (o := .tup [v, u]) h2)
      have od := O.hdp
      simp only [List.mem_cons, List.not_mem_nil, or_false] at hv
      rcases hv with rfl | rfl
      · exact q _ (.ans s) _ ⟨.ans upd_same (O.say.kp (TupKp.new h2)), by simp only [Say.depth]; omega, O.ok, O.row.new h2, ⟨_, l3⟩, B3, O.nms⟩
      · exact q _ (.neg s) _ ⟨.neg upd_same (O.say.kp (TupKp.new h2)), by simp only [Say.depth]; omega, O.ok, O.row.new h2, ⟨_, l3⟩, B3, O.nms⟩
    · refine hR4 _ _ ?_
      clear hR4
      refine cut_seq fun R_5 hR5 => ?_
      wp_walk
      refine ⟨r, nl, lf, dp - 1, xs, k - 1, rfl, I.kp B R1' l1' (by omega), by omega, fun u s H2 O => ?_⟩
      refine hR5 _ _ ?_
      clear hR5
      refine cut_seq fun R_6 hR6 => ?_
      wp_walk
      obtain ⟨k2, l2⟩ := O.hlf
      refine fun p hp => ⟨O.row.new hp, fun g3 H3 a3 b3 R3 K3 => ?_⟩
      wp_walk using K3.made O.row hp
      refine r_draw a3 b3 fun v hv => ?_
      wp_walk
      have l3 := K3.at1 ((Kp.new (S := []) hp).at l2) I.n2
      have B3 := ((B.trans O.kp).trans (Kp.new hp)).trans (K3.mono (T := [r, lf]) (by simp))
      refine hR6 _ _ ?_
      clear hR6
      wp_walk
      refine ⟨r, nl, lf, dp - 1, xs, k2, rfl, I.kp B3 R3 l3 (by omega), by omega, fun u2 s2 H4 O2 p2 h2 => ?_⟩
      obtain ⟨k4, l4⟩ := O2.hlf
      have l5 := (Kp.new (S := []) (o := .tup [v, u, u2]) h2).at l4
      have B5 := (B3.trans O2.kp).trans (Kp.new (o := .tup [v, u, u2]) h2)
      have o1 := O.hdp
      have o2 := O2.hdp
      have T1 : TupKp H2 (upd H4 p2 (.tup [v, u, u2])) := (((TupKp.new hp).trans (TupKp.row K3 (O.row.new hp))).trans (TupKp.two O2.kp R3 l3)).trans (TupKp.new h2)
      have fin : ∀ gg : Sg, v = .str gg.s → Q (.ref p2) (upd H4 p2 (.tup [v, u, u2])) := fun gg e => by
        subst e
        exact q _ (.two gg s s2) _ ⟨.two upd_same (O.say.kp T1) (O2.say.kp (TupKp.new h2)), by simp only [Say.depth]; omega, ⟨O.ok, O2.ok⟩, O2.row.new h2, ⟨_, l5⟩, B5, fun y hy => (List.mem_append.mp hy).elim (O.nms y) (O2.nms y)⟩
      simp only [List.mem_cons, List.not_mem_nil, or_false] at hv
      rcases hv with e | e | e | e | e
      · exact fin .add e
      · exact fin .sub e
      · exact fin .mul e
      · exact fin .lt e
      · exact fin .eq e

set_option linter.all false in private theorem ok_lawsaying {t : Ad} (T : Tx K mg t) : ∀ d, FnOk P w K mg base CX0 (d + 3) t.alawsaying t.dlawsaying ["row", "deep", "names", "left"] (spSaying d) := by
  intro d
  induction d with
  | zero => exact ⟨fun _ _ _ _ x => by (obtain ⟨_, _, _, _, _, _, _, I, h, _⟩ := x; exact absurd h (by have := I.lo; omega)), fun _ _ _ _ _ _ _ _ _ _ _ _ _ x => by (obtain ⟨_, _, _, _, _, _, _, I, h, _⟩ := x; exact absurd h (by have := I.lo; omega))⟩
  | succ d ih => exact st_lawsaying T (by omega) ih

set_option linter.all false in private theorem ok_lawline {t : Ad} (T : Tx K mg t) : FnOk P w K mg base CX0 10 t.alawline t.dlawline ["row", "names", "deep"] spLine := by
  refine T.flawline.ok sc_lawline (fun vs H Q E h => ?_) (fun cdv A outer s H vs Q E hr h => ?_)
  · obtain ⟨r, nl, dp, xs, rfl, _⟩ := h
    rfl
  · obtain ⟨r, nl, dp, xs, rfl, I, d0, d6, q⟩ := h
    refine ⟨_, (pss_cons (ps_set (i := 3) sc_lawline.nd rfl (Or.inl rfl) (pe_call (ok_lawtake T) (hr.mono (by omega)) rfl T.mlawtake T.flawtake.kp T.blawtake .nil pass0 (pa_n (pv 0) (pa_n pe_int pa_nil))))
      (pss_cons (ps_set (i := 4) sc_lawline.nd rfl (Or.inl rfl) (pe_ix ix_c (pv 1) (pe_call (ok_lawtake T) (hr.mono (by omega)) rfl T.mlawtake T.flawtake.kp T.blawtake .nil pass0 (pa_n (pv 0) (pa_n (pe_callB call_lenC rfl T.zlen bt_len (pa_n (pv 1) pa_nil)) pa_nil))) (fun _ _ => rfl)))
      (pss_cons (ps_set (i := 5) sc_lawline.nd rfl (Or.inl rfl) (pe_call (ok_lawsaying T 6) (hr.mono (by omega)) rfl T.mlawsaying T.flawsaying.kp T.blawsaying .nil pass0 (pa_n (pv 0) (pa_n (pv 2) (pa_n (pv 1) (pa_n (pe_lst (pa_n pe_int pa_nil)) pa_nil))))))
      (pss_cons (ps_if (pt_cmpR op_eq (pv 3) pe_int (nomark _)) (pss_one (ps_ret (pe_tup (pa_n pe_str (pa_n (pv 4) (pa_n (pe_call (ok_lawname T) (hr.mono (by omega)) rfl T.mlawname T.flawname.kp T.blawname .nil pass0 (pa_n (pv 0) pa_nil)) (pa_n (pv 5) pa_nil))))))) pss_nil)
      (pss_cons (ps_if (pt_cmpR op_eq (pv 3) pe_int (nomark _)) (pss_one (ps_ret (pe_tup (pa_n pe_str (pa_n (pv 4) (pa_n (pv 5) pa_nil)))))) pss_nil)
      (pss_cons (ps_if (pt_cmpR op_eq (pv 3) pe_int (nomark _)) (pss_one (ps_ret (pe_tup (pa_n pe_str (pa_n (pv 4) (pa_n (pe_call (ok_lawname T) (hr.mono (by omega)) rfl T.mlawname T.flawname.kp T.blawname .nil pass0 (pa_n (pv 0) pa_nil)) (pa_n (pv 5) pa_nil))))))) pss_nil)
      (pss_cons (ps_if (pt_cmpR op_eq (pv 3) pe_int (nomark _)) (pss_one (ps_ret (pe_tup (pa_n pe_str (pa_n (pv 5) (pa_n (pe_ix ix_c (pv 1) (pe_call (ok_lawtake T) (hr.mono (by omega)) rfl T.mlawtake T.flawtake.kp T.blawtake .nil pass0 (pa_n (pv 0) (pa_n (pe_callB call_lenC rfl T.zlen bt_len (pa_n (pv 1) pa_nil)) pa_nil))) (fun _ _ => rfl)) (pa_n (pe_call (ok_lawsaying T 6) (hr.mono (by omega)) rfl T.mlawsaying T.flawsaying.kp T.blawsaying .nil pass0 (pa_n (pv 0) (pa_n (pv 2) (pa_n (pv 1) (pa_n (pe_lst (pa_n pe_int pa_nil)) pa_nil))))) pa_nil))))))) pss_nil)
      (pss_cons (ps_if (pt_cmpR op_eq (pv 3) pe_int (nomark _)) (pss_one (ps_ret (pe_tup (pa_n pe_str (pa_n (pv 5) pa_nil))))) pss_nil)
      (pss_cons (ps_if (pt_cmpR op_eq (pv 3) pe_int (nomark _)) (pss_one (ps_ret (pe_tup (pa_n pe_str (pa_n (pv 4) (pa_n (pe_op op_tcat (pe_tup (pa_n (pv 5) pa_nil)) (pe_callTy call_tupC rfl T.ztuple bt_tuple (pa_n (pe_comp (fr := [0, 1]) (N := ["k", "row", "names"]) rfl (fun _ _ h => h) (CompSc.free rfl rfl rfl rfl rfl (fun _ _ h => look2 (by decide) h) rfl (by decide) rfl (fun j hj => by rcases (show j = 0 ∨ j = 1 by simpa using hj) with rfl | rfl <;> exact ⟨_, rfl, rfl, .inl rfl⟩)) (pi_range1 rfl T.zrange (pa_n (pe_call (ok_lawtake T) (hr.mono (by omega)) rfl T.mlawtake T.flawtake.kp T.blawtake .nil pass0 (pa_n (pv 0) (pa_n pe_int pa_nil))) pa_nil)) (fun C s H ex pn => ⟨pts_nil, pe_call (ok_lawsaying T 6) (hr.mono (by omega)) rfl T.mlawsaying T.flawsaying.kp T.blawsaying .nil pass0 (pa_n (pv 1) (pa_n pe_int (pa_n (pv 2) (pa_n (pe_lst (pa_n pe_int pa_nil)) pa_nil))))⟩)) pa_nil))) pa_nil)))))) pss_nil)
      (pss_cons (ps_if (pt_cmpR op_eq (pv 3) pe_int (nomark _)) (pss_one (ps_ret (pe_tup (pa_n pe_str (pa_n (pv 4) (pa_n (pe_ix ix_c (pv 1) (pe_call (ok_lawtake T) (hr.mono (by omega)) rfl T.mlawtake T.flawtake.kp T.blawtake .nil pass0 (pa_n (pv 0) (pa_n (pe_callB call_lenC rfl T.zlen bt_len (pa_n (pv 1) pa_nil)) pa_nil))) (fun _ _ => rfl)) pa_nil)))))) pss_nil)
      (pss_cons (ps_if (pt_cmpR op_eq (pv 3) pe_int (nomark _)) (pss_one (ps_ret (pe_tup (pa_n pe_str (pa_n (pv 5) pa_nil))))) pss_nil)
      (pss_one (ps_ret (pe_tup (pa_n pe_str (pa_n (pv 4) (pa_n (pv 5) pa_nil))))))))))))))))), ?_⟩
    try dsimp only [L2.start, m_cons, m_nil, List.cons_append, List.nil_append, List.replicate_succ, List.replicate_zero, List.length_cons, List.length_nil, Nat.reduceAdd, Nat.reduceSub, Nat.zero_add]
    refine cut_seq fun R_1 hR1 => ?_
    wp_walk
    refine ⟨I.row, fun g H1 a1 b1 R1 K1 => ?_⟩
    have I1 := I.kp K1 R1
    refine hR1 _ _ ?_
    clear hR1
    refine cut_seq fun R_2 hR2 => ?_
    wp_walk using I1.hnl, List.length_map
    have x0 := I.l0
    have x1 := I.l1
    refine ⟨by omega, by omega, R1, fun g2 H2 a2 b2 R2 K2 => ?_⟩
    have I2 := I1.kp K2 R2
    wp_walk using I2.hnl
    refine r_draw a2 (by simpa using b2) fun v hv => ?_
    wp_walk
    obtain ⟨x, hxm, rfl⟩ := List.mem_map.mp hv
    have xsh := I.sh x hxm
    refine hR2 _ _ ?_
    clear hR2
    refine cut_seq fun R_3 hR3 => ?_
    wp_walk
    refine fun lf hlf => ⟨r, nl, lf, dp, xs, 6, rfl, I2.say hlf d0, by omega, fun u s H3 O => ?_⟩
    have K3 := (K1.trans K2).trans (O.kp1 hlf)
    have s6 := O.s6 d6 I.sh
    have I3 := I.kp K3 O.row
    have fin : ∀ (v : V) (m : Stm) (H' : Hp), StmAt H' v m → m.wf → m.dp = 0 → m.sz = 1 → RowAt H' r → Kp [r] H3 H' → Q v H' := fun v m H' h1 h2 h3 h4 h5 h6 => q v m H' ⟨h1, h2, h3, h4, h5, K3.trans h6⟩
    refine hR3 _ _ ?_
    clear hR3
    refine cut_seq fun R_4 hR4 => ?_
    wp_walk using I3.hnl, List.length_map
    split
    · refine ⟨O.row, fun y H4 hy R4 K4 p hp => ?_⟩
      exact fin _ (.order x y s) _ (.order upd_same ((O.say.kp (TupKp.row K4 O.row)).kp (TupKp.new hp))) ⟨xsh, hy, s6⟩ rfl rfl (R4.new hp) (K4.trans (Kp.new hp))
    refine hR4 _ _ ?_
    clear hR4
    refine cut_seq fun R_5 hR5 => ?_
    wp_walk using I3.hnl, List.length_map
    split
    · exact fun p hp => fin _ (.timer x s) _ (.timer upd_same (O.say.kp (TupKp.new hp))) ⟨xsh, s6⟩ rfl rfl (O.row.new hp) (Kp.new hp)
    refine hR5 _ _ ?_
    clear hR5
    refine cut_seq fun R_6 hR6 => ?_
    wp_walk using I3.hnl, List.length_map
    split
    · refine ⟨O.row, fun y H4 hy R4 K4 p hp => ?_⟩
      exact fin _ (.child x y s) _ (.child upd_same ((O.say.kp (TupKp.row K4 O.row)).kp (TupKp.new hp))) ⟨xsh, hy, s6⟩ rfl rfl (R4.new hp) (K4.trans (Kp.new hp))
    refine hR6 _ _ ?_
    clear hR6
    refine cut_seq fun R_7 hR7 => ?_
    wp_walk using I3.hnl, List.length_map
    split
    · refine ⟨by omega, by omega, O.row, fun g4 H4 a4 b4 R4 K4 => ?_⟩
      have I4 := I3.kp K4 R4
      wp_walk using I4.hnl
      refine r_draw a4 (by simpa using b4) fun v4 hv4 => ?_
      wp_walk
      obtain ⟨k, hkm, rfl⟩ := List.mem_map.mp hv4
      refine fun lf4 hlf4 => ⟨r, nl, lf4, dp, xs, 6, rfl, I4.say hlf4 d0, by omega, fun u5 s5 H5 O5 p hp => ?_⟩
      have K5 := O5.kp1 hlf4
      exact fin _ (.send s k s5) _ (.send upd_same (((O.say.kp (TupKp.row K4 O.row)).kp (TupKp.row K5 R4)).kp (TupKp.new hp)) (O5.say.kp (TupKp.new hp))) ⟨s6, I.sh k hkm, O5.s6 d6 I.sh⟩ rfl rfl (O5.row.new hp) ((K4.trans K5).trans (Kp.new hp))
    refine hR7 _ _ ?_
    clear hR7
    refine cut_seq fun R_8 hR8 => ?_
    wp_walk using I3.hnl, List.length_map
    split
    · exact fun p hp => fin _ (.drop s) _ (.drop upd_same (O.say.kp (TupKp.new hp))) s6 rfl rfl (O.row.new hp) (Kp.new hp)
    refine hR8 _ _ ?_
    clear hR8
    refine cut_seq fun R_9 hR9 => ?_
    wp_walk using I3.hnl, List.length_map
    split
    · refine fun p hp => ⟨O.row.new hp, fun g4 H4 a4 b4 R4 K4 => ⟨⟨by omega, by omega⟩, ?_⟩⟩
      have I4 := (I3.kp (Kp.new hp) (O.row.new hp)).kp K4 R4
      have e4 : H4 p = some (.tup [u]) := K4.made O.row hp
      have s4 := (O.say.kp (TupKp.new (o := .tup [u]) hp)).kp (TupKp.row K4 (O.row.new hp))
      have npr := O.row.none hp
      have K34 : Kp [r] H3 H4 := (Kp.new hp).trans K4
      refine lc_range (lo := 0) (fun j vs G => ∃ ss : List Say, SaysAt G vs ss ∧ (ss.length = j ∧ j ≤ 3) ∧ (∀ s ∈ ss, s.s6) ∧ RowAt G r ∧ Kp [r] H4 G) ⟨[], .nil, ⟨rfl, by decide⟩, by simp, R4, Kp.refl⟩ ?_ ?_ ?_
      · rintro j vs G ⟨ss, h, hl, _, _, _⟩
        have := h.len
        omega
      · rintro j vs G hj ⟨ss, h, hl, h6, R, K⟩
        have IG := I4.kp K R
        wp_walk using compSt, Option.join_some
        refine fun lf2 hlf2 => ⟨r, nl, lf2, 2, xs, 3, rfl, IG.say hlf2 (by decide), by decide, fun u5 s5 H5 O5 => ?_⟩
        have K5 := O5.kp1 hlf2
        exact ⟨ss ++ [s5], (h.kp (TupKp.row K5 R)).snoc O5.say, ⟨by simp [hl.1], by omega⟩, fun z hz => (List.mem_append.mp hz).elim (h6 z) fun hz => by rw [show z = s5 by simpa using hz]; exact O5.s6 (by decide) I.sh, O5.row, K.trans K5⟩
      · rintro vs G ⟨ss, h, hl, h6, R, K⟩ l hl2
        have eG := K.at1 e4 npr
        have sG := s4.kp (TupKp.row K R4)
        have hlen := h.len
        wp_walk
        refine fun c hc => ?_
        have KN := (Kp.new (S := []) (o := .lst vs) hl2).trans (Kp.new (o := .tup vs) hc)
        have ep := KN.at eG
        have ec : upd (upd G l (.lst vs)) c (.tup vs) c = some (.tup vs) := upd_same
        have sN := sG.kp (TupKp.nil KN)
        have hN := h.kp (TupKp.nil KN)
        have RN := (R.new (o := .lst vs) hl2).new (o := .tup vs) hc
        generalize upd (upd G l (.lst vs)) c (.tup vs) = G2 at *
        have KF : Kp [r] H3 G2 := (K34.trans K).trans (Kp.of KN.same)
        wp_walk using ep, ec, reduceCtorEq, e_tcat
        refine ⟨by omega, ?_⟩
        split
        · rename_i c0
          subst c0
          refine fun c7 hc7 => fin _ (.wait x [s]) _ (.wait upd_same ((Kp.new (S := []) hc7).at ep) (.cons (sN.kp (TupKp.new hc7)) .nil)) ⟨xsh, by simp, fun z hz => by rw [show z = s by simpa using hz]; exact s6⟩ rfl rfl (RN.new hc7) (KF.trans (Kp.new hc7))
        · refine fun c6 hc6 c7 hc7 => ?_
          have T7 : TupKp G2 (upd (upd G2 c6 (.tup (u :: vs))) c7 (.tup [.str "wait", .str x, .ref c6])) := (TupKp.new hc6).trans (TupKp.new hc7)
          refine fin _ (.wait x (s :: ss)) _ (.wait upd_same ((Kp.new (S := []) hc7).at upd_same) (.cons (sN.kp T7) (hN.kp T7))) ⟨xsh, by simp; omega, fun z hz => ?_⟩ rfl rfl ((RN.new hc6).new hc7) ((KF.trans (Kp.new hc6)).trans (Kp.new hc7))
          rcases List.mem_cons.mp hz with rfl | hz
          · exact s6
          · exact h6 z hz
    refine hR9 _ _ ?_
    clear hR9
    refine cut_seq fun R_10 hR10 => ?_
    wp_walk using I3.hnl, List.length_map
    split
    · refine ⟨by omega, by omega, O.row, fun g4 H4 a4 b4 R4 K4 => ?_⟩
      have I4 := I3.kp K4 R4
      wp_walk using I4.hnl
      refine r_draw a4 (by simpa using b4) fun v4 hv4 => ?_
      wp_walk
      obtain ⟨k, hkm, rfl⟩ := List.mem_map.mp hv4
      exact fun p hp => fin _ (.hear x k) _ (.hear upd_same) ⟨xsh, I.sh k hkm⟩ rfl rfl (R4.new hp) (K4.trans (Kp.new hp))
    refine hR10 _ _ ?_
    clear hR10
    refine cut_seq fun R_11 hR11 => ?_
    wp_walk using I3.hnl, List.length_map
    split
    · exact fun p hp => fin _ (.fin s) _ (.fin upd_same (O.say.kp (TupKp.new hp))) s6 rfl rfl (O.row.new hp) (Kp.new hp)
    refine hR11 _ _ ?_
    clear hR11
    wp_walk using I3.hnl, List.length_map
    exact fun p hp => fin _ (.set x s) _ (.set upd_same (O.say.kp (TupKp.new hp))) ⟨xsh, s6⟩ rfl rfl (O.row.new hp) (Kp.new hp)
set_option linter.all false in private theorem st_lawblock {t : Ad} (T : Tx K mg t) {n d : Nat} (hn : 12 ≤ n) (IH : FnOk P w K mg base CX0 n t.alawblock t.dlawblock ["row", "names", "deep", "left", "many"] (spBlock d)) : FnOk P w K mg base CX0 (n + 1) t.alawblock t.dlawblock ["row", "names", "deep", "left", "many"] (spBlock (d + 1)) := by
  refine T.flawblock.ok sc_lawblock (fun vs H Q E h => ?_) (fun cdv A outer s H vs Q E hr h => ?_)
  · obtain ⟨r, nl, lf, dp, many, k, xs, rfl, _⟩ := h
    rfl
  · obtain ⟨r, nl, lf, dp, many, k, xs, rfl, I, d0, d1, hlf, k0, k1, n1, n2, q⟩ := h
    refine ⟨_, (pss_cons (ps_set (i := 5) sc_lawblock.nd rfl (Or.inl rfl) (pe_lst pa_nil))
      (pss_cons (ps_while PassesOwn.never (PW.pt (pw_and (pt_cmpR op_gt (pe_ix ix_c (pv 3) pe_int (fun _ _ => rfl)) pe_int (nomark _)) (pw_and1 (pt_cmpR op_lt (pe_callB call_lenC rfl T.zlen bt_len (pa_n (pv 5) pa_nil)) (pv 4) (nomark _))))) (pss_cons (ps_asg (pe_op op_sub (pe_ix ix_c (pv 3) pe_int (fun _ _ => rfl)) pe_int) (pg_sub (pv 3) pe_int set_c))
      (pss_cons (ps_set (i := 6) sc_lawblock.nd rfl (Or.inl rfl) (pe_call (ok_lawtake T) (hr.mono (by omega)) rfl T.mlawtake T.flawtake.kp T.blawtake .nil pass0 (pa_n (pv 0) (pa_n pe_int pa_nil))))
      (pss_one (ps_if (PW.pt (pw_or (pt_cmpR op_lt (pv 6) pe_int (nomark _)) (pw_or1 (pt_cmpR op_eq (pv 2) pe_int (nomark _))))) (pss_one (ps_expr (pe_appC (pv 5) (pe_call (ok_lawline T) (hr.mono (by omega)) rfl T.mlawline T.flawline.kp T.blawline .nil pass0 (pa_n (pv 0) (pa_n (pv 1) (pa_n pe_int pa_nil))))))) (pss_cons (ps_set (i := 7) sc_lawblock.nd rfl (Or.inl rfl) (pe_call (ok_lawsaying T 6) (hr.mono (by omega)) rfl T.mlawsaying T.flawsaying.kp T.blawsaying .nil pass0 (pa_n (pv 0) (pa_n pe_int (pa_n (pv 1) (pa_n (pe_lst (pa_n pe_int pa_nil)) pa_nil))))))
      (pss_cons (ps_set (i := 8) sc_lawblock.nd rfl (Or.inl rfl) (pe_call IH (hr.mono (by omega)) rfl T.mlawblock T.flawblock.kp T.blawblock .nil pass0 (pa_n (pv 0) (pa_n (pv 1) (pa_n (pe_op op_sub (pv 2) pe_int) (pa_n (pv 3) (pa_n (pe_call (ok_lawtake T) (hr.mono (by omega)) rfl T.mlawtake T.flawtake.kp T.blawtake .nil pass0 (pa_n (pv 0) (pa_n pe_int pa_nil))) pa_nil)))))))
      (pss_one (ps_if (pt_cmpR op_eq (pv 6) pe_int (nomark _)) (pss_one (ps_expr (pe_appC (pv 5) (pe_tup (pa_n pe_str (pa_n (pv 7) (pa_n (pv 8) pa_nil))))))) (pss_cons (ps_set (i := 9) sc_lawblock.nd rfl (Or.inl rfl) (pe_call IH (hr.mono (by omega)) rfl T.mlawblock T.flawblock.kp T.blawblock .nil pass0 (pa_n (pv 0) (pa_n (pv 1) (pa_n (pe_op op_sub (pv 2) pe_int) (pa_n (pv 3) (pa_n (pe_call (ok_lawtake T) (hr.mono (by omega)) rfl T.mlawtake T.flawtake.kp T.blawtake .nil pass0 (pa_n (pv 0) (pa_n pe_int pa_nil))) pa_nil)))))))
      (pss_one (ps_expr (pe_appC (pv 5) (pe_tup (pa_n pe_str (pa_n (pv 7) (pa_n (pv 8) (pa_n (pv 9) pa_nil))))))))))))))))))
      (pss_one (ps_ret (pe_callTy call_tupC rfl T.ztuple bt_tuple (pa_n (pv 5) pa_nil)))))), ?_⟩
    try dsimp only [L2.start, m_cons, m_nil, List.cons_append, List.nil_append, List.replicate_succ, List.replicate_zero, List.length_cons, List.length_nil, Nat.reduceAdd, Nat.reduceSub, Nat.zero_add]
    wp_walk
    refine fun bl hbl => ?_
    have nbr := I.row.none hbl
    have nbn := ne_of_none I.hnl hbl
    have nbl := ne_of_none hlf hbl
    obtain ⟨W, hW⟩ : ∃ W : Nat → St → Hp → Prop, ∀ m σ G, W m σ G = ∃ (v6 v7 v8 v9 : Option V) (us : List V) (b : List Stm) (k' : Int), σ = [some (.ref r), some (.ref nl), some (.int dp), some (.ref lf), some (.int many), some (.ref bl), v6, v7, v8, v9] ∧ m = k'.toNat ∧ 0 ≤ k' ∧ G lf = some (.lst [.int k']) ∧ G bl = some (.lst us) ∧ StmsAt G us b ∧ wfL b ∧ (dpL b : Int) ≤ dp ∧ (szL b : Int) + k' ≤ k ∧ us.length ≤ szL b ∧ RowAt G r ∧ Kp [r, lf] H G := ⟨_, fun _ _ _ => rfl⟩
    refine ⟨W, ⟨k.toNat, ?_⟩, ?_⟩
    · rw [hW]
      exact ⟨none, none, none, none, [], [], k, rfl, rfl, k0, (Kp.new (S := []) hbl).at hlf, upd_same, .nil, trivial, d0, by simp [szL], by simp, I.row.new hbl, Kp.new hbl⟩
    intro m σ G hG
    rw [hW] at hG
    obtain ⟨v6, v7, v8, v9, us, b, k', rfl, rfl, kp0, elf, ebl, hB, hw, hd, hz, hl, R, KG⟩ := hG
    have fin : ∀ l, G l = none → Q (.ref l) (upd G l (.tup us)) := fun l hl => q l us b k' _ ⟨upd_same, hB.kp (TupKp.new hl), hw, hd, hz, kp0, R.new hl, (Kp.new (S := []) hl).at elf, KG.trans (Kp.new hl)⟩
    have next : ∀ (G2 : Hp) (v : V) (ms : Stm) (k2 : Int) (w6 w7 w8 w9 : Option V), G2 bl = some (.lst us) → G2 lf = some (.lst [.int k2]) → 0 ≤ k2 → (ms.sz : Int) + k2 ≤ k' → StmAt G2 v ms → ms.wf → (ms.dp : Int) ≤ dp → StmsAt G2 us b → RowAt G2 r → Kp [r, lf] H G2 →
        ∃ m', m' < k'.toNat ∧ W m' [some (.ref r), some (.ref nl), some (.int dp), some (.ref lf), some (.int many), some (.ref bl), w6, w7, w8, w9] (upd G2 bl (.lst (us ++ [v]))) := fun G2 v ms k2 w6 w7 w8 w9 e1 e2 h0 hs st hwf hdp hB2 R2 K2 => by
      have sp := ms.sz_pos
      refine ⟨k2.toNat, by omega, ?_⟩
      rw [hW]
      refine ⟨w6, w7, w8, w9, us ++ [v], b ++ [ms], k2, rfl, rfl, h0, by rw [upd_ne nbl]; exact e2, upd_same, (hB2.snoc st).kp (TupKp.set e1), wfL_app.mpr ⟨hw, hwf, trivial⟩, ?_, ?_, ?_, R2.kp (S := [bl]) (Kp.set (by simp)) (by simp [nbr.symm]), K2.redoS hbl⟩
      · rw [dpL_app]
        simp only [dpL]
        omega
      · rw [szL_app]
        simp only [szL]
        omega
      · rw [szL_app]
        simp only [szL, List.length_append, List.length_cons, List.length_nil]
        omega
    clear hW
    have blen : us.length < 16777216 := by omega
    refine cut_b fun P' hP' => ?_
    wp_walk using elf, ebl
    split
    case isFalse => exact fin
    split
    case isFalse => exact fin
    refine hP' _ ⟨fun σ' H' => ∃ m', m' < k'.toNat ∧ W m' σ' H', fun _ _ h => h, ?_⟩
    clear hP'
    refine cut_seq fun R_1 hR1 => ?_
    wp_walk using elf
    have K1 : Kp [r, lf] H (upd G lf (.lst [.int (k' - 1)])) := KG.trans (Kp.set (by simp))
    have R1 : RowAt (upd G lf (.lst [.int (k' - 1)])) r := R.kp (S := [lf]) (Kp.set (by simp)) (by simp [n1.symm])
    have l1 : upd G lf (.lst [.int (k' - 1)]) lf = some (.lst [.int (k' - 1)]) := upd_same
    have b1 : upd G lf (.lst [.int (k' - 1)]) bl = some (.lst us) := by rw [upd_ne nbl.symm]; exact ebl
    have B1 := hB.kp (TupKp.set (ys := [.int (k' - 1)]) elf)
    generalize upd G lf (.lst [.int (k' - 1)]) = G1 at *
    refine hR1 _ _ ?_
    clear hR1
    refine cut_seq fun R_2 hR2 => ?_
    wp_walk
    refine ⟨R1, fun g G2 a2 b2 R2 K2 => ?_⟩
    refine hR2 _ _ ?_
    clear hR2
    wp_walk
    have K12 : Kp [r, lf] H G2 := K1.trans (K2.mono (by simp))
    have l2 := K2.at1 l1 n1
    have bb2 := K2.at1 b1 nbr
    have B2 := B1.kp (TupKp.row K2 R1)
    have I2 : LineIn G2 r nl xs := ⟨R2, K12 _ _ I.hnl (by simp [I.n1, n2.symm]), I.l0, I.l1, I.n1, I.sh⟩
    have line : spLine [.ref r, .ref nl, .int 6] G2 (fun y H2 => onLst (H2 bl) fun ys => ys.length < 16777216 ∧ ∃ m', m' < k'.toNat ∧ W m' [some (.ref r), some (.ref nl), some (.int dp), some (.ref lf), some (.int many), some (.ref bl), some (.int g), v7, v8, v9] (upd H2 bl (.lst (ys ++ [y])))) E0 := by
      wp_walk using bb2
      refine ⟨r, nl, 6, xs, rfl, I2, by decide, by decide, fun v ms H3 O => ?_⟩
      have b3 := O.kp.at1 bb2 nbr
      wp_walk using b3
      exact ⟨blen, next H3 v ms (k' - 1) _ _ _ _ b3 (O.kp.at1 l2 n1) (by omega) (by rw [O.sz]; omega) O.stm O.wf (by rw [O.dp]; omega) (B2.kp (TupKp.row O.kp R2)) O.row (K12.trans (O.kp.mono (by simp)))⟩
    split
    · wp_walk using bb2
      exact line
    split
    · wp_walk using bb2
      exact line
    rename_i c1 c2 c3 c4
    refine fun c hc => ⟨r, nl, c, 6, xs, 6, rfl, I2.say hc (by decide), by decide, fun u s G3 O => ?_⟩
    have K3 := O.kp1 hc
    have s6 := O.s6 (by decide) I.sh
    wp_walk
    refine ⟨O.row, fun g4 G4 a4 b4 R4 K4 => ?_⟩
    have K34 := K3.trans K4
    have K14 : Kp [r, lf] H G4 := K12.trans (K34.mono (by simp))
    have l4 := K34.at1 l2 n1
    have bb4 := K34.at1 bb2 nbr
    have T34 : TupKp G2 G4 := TupKp.row K34 R2
    have I4 : LineIn G4 r nl xs := I2.kp K34 R4
    refine ⟨r, nl, lf, dp - 1, g4, k' - 1, xs, rfl, I4, by omega, by omega, l4, by omega, by omega, n1, n2, fun p5 us5 b5 k5 G5 O5 => ?_⟩
    have bb5 := O5.kp _ _ bb4 (by simp [nbr, nbl.symm])
    have T45 : TupKp G4 G5 := TupKp.two O5.kp R4 l4
    have s5 := ((O.say.kp (TupKp.row K4 O.row)).kp T45)
    have B5 := ((B2.kp T34).kp T45)
    have z5 := O5.sz
    have p5d := O5.dp
    have k50 := O5.k0
    wp_walk using bb5
    split
    · refine fun p6 h6 => ?_
      have KN := Kp.new (S := []) (o := .tup [.str "while", u, .ref p5]) h6
      have b6 := KN.at bb5
      wp_walk using b6
      exact ⟨blen, next _ (.ref p6) (.whl s b5) k5 _ _ _ _ b6 (KN.at O5.hlf) O5.k0 (by simp only [Stm.sz]; omega) (.whl upd_same (s5.kp (TupKp.new h6)) (KN.at O5.tup) (O5.stms.kp (TupKp.new h6))) ⟨s6, O5.wf⟩ (by simp only [Stm.dp]; omega) (B5.kp (TupKp.new h6)) (O5.row.new h6) ((K14.trans O5.kp).trans (Kp.new h6))⟩
    · refine ⟨O5.row, fun g6 G6 a6 b6 R6 K6 => ?_⟩
      have I5 : LineIn G5 r nl xs := ⟨O5.row, O5.kp _ _ I4.hnl (by simp [I.n1, n2.symm]), I.l0, I.l1, I.n1, I.sh⟩
      have I6 := I5.kp K6 R6
      have l6 := K6.at1 O5.hlf n1
      refine ⟨r, nl, lf, dp - 1, g6, k5, xs, rfl, I6, by omega, by omega, l6, O5.k0, by omega, n1, n2, fun p7 us7 b7 k7 G7 O7 => ?_⟩
      have bb7 := O7.kp _ _ (K6.at1 bb5 nbr) (by simp [nbr, nbl.symm])
      have T57 : TupKp G5 G7 := (TupKp.row K6 O5.row).trans (TupKp.two O7.kp R6 l6)
      have z7 := O7.sz
      have p7d := O7.dp
      have k70 := O7.k0
      wp_walk using bb7
      refine fun p8 h8 => ?_
      have KN := Kp.new (S := []) (o := .tup [.str "if", u, .ref p5, .ref p7]) h8
      have b8 := KN.at bb7
      wp_walk using b8
      exact ⟨blen, next _ (.ref p8) (.iff s b5 b7) k7 _ _ _ _ b8 (KN.at O7.hlf) O7.k0 (by simp only [Stm.sz]; omega) (.iff upd_same ((s5.kp T57).kp (TupKp.new h8)) ((T57.trans (TupKp.new h8)) _ _ O5.tup) ((O5.stms.kp T57).kp (TupKp.new h8)) (KN.at O7.tup) (O7.stms.kp (TupKp.new h8))) ⟨s6, O5.wf, O7.wf⟩ (by simp only [Stm.dp]; omega) ((B5.kp T57).kp (TupKp.new h8)) (O7.row.new h8) ((((K14.trans O5.kp).trans (K6.mono (by simp))).trans O7.kp).trans (Kp.new h8))⟩

set_option linter.all false in private theorem ok_lawblock {t : Ad} (T : Tx K mg t) : ∀ d, FnOk P w K mg base CX0 (d + 12) t.alawblock t.dlawblock ["row", "names", "deep", "left", "many"] (spBlock d) := by
  intro d
  induction d with
  | zero => exact ⟨fun _ _ _ _ x => by (obtain ⟨_, _, _, _, _, _, _, _, _, h, h2, _⟩ := x; exact absurd h (by omega)), fun _ _ _ _ _ _ _ _ _ _ _ _ _ x => by (obtain ⟨_, _, _, _, _, _, _, _, _, h, h2, _⟩ := x; exact absurd h (by omega))⟩
  | succ d ih => exact st_lawblock T (by omega) ih

set_option linter.all false in private theorem ok_lawprogram {t : Ad} (T : Tx K mg t) : FnOk P w K mg base CX0 20 t.alawprogram t.dlawprogram ["row"] spProg11 := by
  refine T.flawprogram.ok sc_lawprogram (fun vs H Q E h => ?_) (fun cdv A outer s H vs Q E hr h => ?_)
  · obtain ⟨r, rfl, _⟩ := h
    rfl
  · obtain ⟨r, rfl, hR, q⟩ := h
    refine ⟨_, (pss_cons (ps_setComp (i := 1) (fr := [0]) (N := ["k", "row"]) rfl (fun _ _ h => h) (CompSc.free rfl rfl rfl rfl rfl (fun _ _ h => h) rfl (by decide) rfl (fun j hj => by rw [show j = 0 by simpa using hj]; exact ⟨_, rfl, rfl, .inl rfl⟩)) (pi_range1 rfl T.zrange (pa_n pe_int pa_nil)) (fun C s H ex pn => ⟨pts_nil, pe_call (ok_lawname T) (hr.mono (by omega)) rfl T.mlawname T.flawname.kp T.blawname .nil pass0 (pa_n (pv 1) pa_nil)⟩) sc_lawprogram.nd rfl (Or.inl rfl))
      (pss_cons (ps_set (i := 2) sc_lawprogram.nd rfl (Or.inl rfl) (pe_ix ix_c (pe_lst (pa_n pe_int (pa_n pe_int (pa_n pe_int pa_nil)))) (pe_call (ok_lawtake T) (hr.mono (by omega)) rfl T.mlawtake T.flawtake.kp T.blawtake .nil pass0 (pa_n (pv 0) (pa_n pe_int pa_nil))) (fun _ _ => rfl)))
      (pss_one (ps_ret (pe_call (ok_lawblock T 6) (hr.mono (by omega)) rfl T.mlawblock T.flawblock.kp T.blawblock .nil pass0 (pa_n (pv 0) (pa_n (pv 1) (pa_n pe_int (pa_n (pe_lst (pa_n (pv 2) pa_nil)) (pa_n (pe_ix ix_c (pe_lst (pa_n (pv 2) (pa_n (pe_call (ok_lawtake T) (hr.mono (by omega)) rfl T.mlawtake T.flawtake.kp T.blawtake .nil pass0 (pa_n (pv 0) (pa_n (pe_op op_addC (pv 2) pe_int) pa_nil))) pa_nil))) (pe_call (ok_lawtake T) (hr.mono (by omega)) rfl T.mlawtake T.flawtake.kp T.blawtake .nil pass0 (pa_n (pv 0) (pa_n pe_int pa_nil))) (fun _ _ => rfl)) pa_nil)))))))))), ?_⟩
    try dsimp only [L2.start, m_cons, m_nil, List.cons_append, List.nil_append, List.replicate_succ, List.replicate_zero, List.length_cons, List.length_nil, Nat.reduceAdd, Nat.reduceSub, Nat.zero_add]
    wp_walk
    refine lc_range (lo := 0) (fun j xs G => ∃ l : List Str, xs = l.map V.str ∧ (l.length = j ∧ j ≤ 4) ∧ (∀ x ∈ l, nmOk x) ∧ RowAt G r ∧ Kp [r] H G) ⟨[], rfl, ⟨rfl, by decide⟩, by simp, hR, Kp.refl⟩ ?_ ?_ ?_
    · rintro j xs G ⟨l, rfl, ⟨hl, h4⟩, _, _, _⟩
      rw [List.length_map]
      omega
    · rintro j xs G hj ⟨l, rfl, hl, sh, R, K⟩
      wp_walk using compSt, Option.join_some
      refine ⟨R, fun x G' hx R' K' => ⟨l ++ [x], by simp, ⟨by simp [hl.1], by omega⟩, fun z hz => ?_, R', K.trans K'⟩⟩
      rcases List.mem_append.mp hz with hz | hz
      · exact sh z hz
      · rw [show z = x by simpa using hz]
        exact hx
    rintro xs G ⟨l, rfl, ⟨hl, _⟩, sh, R, K⟩ nl hnl
    wp_walk
    refine fun c hc => ?_
    have KN := (Kp.new (S := []) (o := .lst (l.map V.str)) hnl).trans (Kp.new (o := .lst [.int 3, .int 8, .int 16]) hc)
    have nnr := R.none hnl
    have ncr := (R.new (o := .lst (l.map V.str)) hnl).none hc
    have RN := (R.new (o := .lst (l.map V.str)) hnl).new (o := .lst [.int 3, .int 8, .int 16]) hc
    have en := (Kp.new (S := []) (o := .lst [.int 3, .int 8, .int 16]) hc).at (upd_same (H := G) (a := nl) (o := .lst (l.map V.str)))
    have ec : upd (upd G nl (.lst (l.map V.str))) c (.lst [.int 3, .int 8, .int 16]) c = some (.lst [.int 3, .int 8, .int 16]) := upd_same
    generalize upd (upd G nl (.lst (l.map V.str))) c (.lst [.int 3, .int 8, .int 16]) = G1 at *
    refine ⟨RN, fun g H2 a2 b2 R2 K2 => ?_⟩
    have en2 := K2.at1 en nnr
    have K02 : Kp [r] H H2 := (K.trans (KN.mono (by simp))).trans K2
    wp_walk using K2.at1 ec ncr
    refine r_draw a2 b2 fun v hv => ?_
    wp_walk
    obtain ⟨mo, rfl, m0, m1⟩ : ∃ mo : Int, v = .int mo ∧ 0 ≤ mo ∧ mo ≤ 16 := by
      simp only [List.mem_cons, List.not_mem_nil, or_false] at hv
      rcases hv with rfl | rfl | rfl <;> exact ⟨_, rfl, by decide, by decide⟩
    refine fun lf hlf => ?_
    have nlr := R2.none hlf
    have nln : lf ≠ nl := (ne_of_none en2 hlf).symm
    wp_walk
    refine ⟨by omega, by omega, R2.new hlf, fun g3 H3 a3 b3 R3 K3 c4 h4 => ⟨R3.new h4, fun g5 H5 a5 b5 R5 K5 => ?_⟩⟩
    have e5 := K5.made R3 h4
    have K25 : Kp [r] (upd H2 lf (.lst [.int mo])) H5 := (K3.trans (Kp.new h4)).trans K5
    have elf := K25.at1 (upd_same (H := H2) (a := lf) (o := .lst [.int mo])) nlr
    have en5 := K25.at1 ((Kp.new (S := []) (o := .lst [.int mo]) hlf).at en2) nnr
    wp_walk using e5
    refine r_draw a5 b5 fun v5 hv5 => ?_
    wp_walk
    obtain ⟨many, rfl⟩ : ∃ many : Int, v5 = .int many := by
      simp only [List.mem_cons, List.not_mem_nil, or_false] at hv5
      rcases hv5 with rfl | rfl <;> exact ⟨_, rfl⟩
    refine ⟨r, nl, lf, 4, many, mo, l, rfl, ⟨R5, en5, by omega, by omega, nnr, sh⟩, by decide, by decide, elf, m0, by omega, nlr, nln, fun p us b k' H6 O => ?_⟩
    have z := O.sz
    have d := O.dp
    have k0 := O.k0
    refine q p us b H6 O.tup O.stms O.wf (by omega) (by omega) O.row fun a o e n => ?_
    have e2 := K02 a o e n
    have n2 : a ≠ lf := ne_of_none e2 hlf
    exact O.kp a o (K25 a o ((Kp.new (S := []) hlf).at e2) n) (by simp [n2]; simpa using n)
set_option linter.all false in private theorem ok_law {t : Ad} (T : Tx K mg t) : FnOk P w K mg base CX0 70 t.alaw t.dlaw ["script"] (spLaw K) := by
  refine T.flaw.ok sc_law (fun vs H Q E h => ?_) (fun cdv A outer s H vs Q E hr h => ?_)
  · obtain ⟨a, ns, rfl, _⟩ := h
    rfl
  · obtain ⟨a, ns, rfl, hS, h63, q⟩ := h
    refine ⟨_, (pss_cons (ps_for PassesOwn.never rfl (pi_list (pe_op op_addC (pe_lst (pa_n pe_int pa_nil)) (pe_slice sl_list (pv 0) po_none (po_some pe_int)))) (pg_name (i := 1) sc_law.nd rfl (Or.inl rfl)) (pss_cons (ps_set (i := 2) sc_law.nd rfl (Or.inl rfl) (pe_call (ok_lawstream T) (hr.mono (by omega)) rfl T.mlawstream T.flawstream.kp T.blawstream .nil pass0 (pa_n (pv 1) pa_nil)))
      (pss_cons (ps_set (i := 3) sc_law.nd rfl (Or.inr rfl) (pe_call (ok_lawprogram T) (hr.mono (by omega)) rfl T.mlawprogram T.flawprogram.kp T.blawprogram .nil pass0 (pa_n (pv 2) pa_nil)))
      (pss_cons (ps_set (i := 4) sc_law.nd rfl (Or.inl rfl) (pe_call (ok_lawprogram T) (hr.mono (by omega)) rfl T.mlawprogram T.flawprogram.kp T.blawprogram .nil pass0 (pa_n (pv 2) pa_nil)))
      (pss_cons (ps_set (i := 5) sc_law.nd rfl (Or.inl rfl) (pe_lst (pa_n (pe_call (ok_showprogram T) (hr.mono (by omega)) rfl T.mshowprogram T.fshowprogram.kp T.bshowprogram .nil pass0 (pa_n (pv 3) pa_nil)) (pa_n (pe_call (ok_showprogram T) (hr.mono (by omega)) rfl T.mshowprogram T.fshowprogram.kp T.bshowprogram .nil pass0 (pa_n (pv 4) pa_nil)) pa_nil))))
      (pss_cons (ps_if (PW.pt (pw_or (pt_cmpR (op_neA 20 (hu_n hr (by decide))) (pe_call (ok_readprogram T) (hr.mono (by omega)) rfl T.mreadprogram T.freadprogram.kp T.breadprogram .nil pass0 (pa_n (pe_op op_addC (pe_ix ix_c (pv 5) pe_int (fun _ _ => rfl)) (pe_ix ix_c (pv 5) pe_int (fun _ _ => rfl))) pa_nil)) (pe_op op_tcat (pv 3) (pv 4)) (nomark _)) (pw_or1 (pt_cmpR op_ne (pe_call (ok_showprogram T) (hr.mono (by omega)) rfl T.mshowprogram T.fshowprogram.kp T.bshowprogram .nil pass0 (pa_n (pe_op op_tcat (pv 3) (pv 4)) pa_nil)) (pe_op op_addC (pe_ix ix_c (pv 5) pe_int (fun _ _ => rfl)) (pe_ix ix_c (pv 5) pe_int (fun _ _ => rfl))) (nomark _))))) (pss_one (ps_ret pe_bl)) pss_nil)
      (pss_cons (ps_if (pt_cmpR (op_neA 20 (hu_n hr (by decide))) (pe_call (ok_readprogram T) (hr.mono (by omega)) rfl T.mreadprogram T.freadprogram.kp T.breadprogram .nil pass0 (pa_n (pe_op op_addC (pe_op op_addC (pe_op op_addC pe_str (pe_ix ix_c (pv 5) pe_int (fun _ _ => rfl))) pe_str) (pe_ix ix_c (pv 5) pe_int (fun _ _ => rfl))) pa_nil)) (pe_op op_tcat (pe_tup (pa_n (pe_tup (pa_n pe_str (pa_n (pe_tup (pa_n pe_str pa_nil)) (pa_n (pv 3) pa_nil)))) pa_nil)) (pv 4)) (nomark _)) (pss_one (ps_ret pe_bl)) pss_nil)
      (pss_cons (ps_set (i := 6) sc_law.nd rfl (Or.inl rfl) (pe_op op_addC (pe_op op_addC pe_str (pe_ix ix_c (pv 5) pe_int (fun _ _ => rfl))) pe_str))
      (pss_cons (ps_if (pt_cmpR (op_neTE (Nat.lt_of_succ_lt (hu_of hr))) (pv 4) (pe_tup pa_nil) (nomark _)) (pss_one (ps_set (i := 6) sc_law.nd rfl (Or.inl rfl) (pe_op op_addC (pe_op op_addC (pe_op op_addC (pe_op op_addC pe_str (pe_ix ix_c (pv 5) pe_int (fun _ _ => rfl))) pe_str) (pe_ix ix_c (pv 5) pe_int (fun _ _ => rfl))) pe_str))) pss_nil)
      (pss_cons (ps_if (pt_cmpR (op_neA 20 (hu_n hr (by decide))) (pe_call (ok_readprogram T) (hr.mono (by omega)) rfl T.mreadprogram T.freadprogram.kp T.breadprogram .nil pass0 (pa_n (pv 6) pa_nil)) (pe_tup (pa_n (pe_tup (pa_n pe_str (pa_n (pe_tup (pa_n pe_str pa_nil)) (pa_n (pv 3) (pa_n (pv 4) pa_nil))))) pa_nil)) (nomark _)) (pss_one (ps_ret pe_bl)) pss_nil)
      (pss_cons (ps_setComp (i := 7) (fr := [3]) (N := ["k", "one"]) rfl (fun _ _ h => h) (CompSc.free rfl rfl rfl rfl rfl (fun _ _ h => h) rfl (by decide) rfl (fun j hj => by rw [show j = 3 by simpa using hj]; exact ⟨_, rfl, rfl, .inl rfl⟩)) (pi_range1 rfl T.zrange (pa_n (pe_callB call_lenC rfl T.zlen bt_len (pa_n (pv 3) pa_nil)) pa_nil)) (fun C s H ex pn => ⟨pts_one (pt_cmpR op_notInC (pe_ix ix_c (pe_ix ix_c (pv 1) (pv 0) (fun _ _ => rfl)) pe_int (fun _ _ => rfl)) (pe_tup (pa_n pe_str (pa_n pe_str pa_nil))) (by with_unfolding_all rfl)), (pv 0)⟩) sc_law.nd rfl (Or.inl rfl))
      (pss_one (ps_if (pt_cmpR (op_neE (Nat.lt_of_succ_lt (hu_of hr))) (pv 7) (pe_lst pa_nil) (nomark _)) (pss_cons (ps_set (i := 8) sc_law.nd rfl (Or.inl rfl) (pe_ix ix_c (pv 7) (pe_call (ok_lawtake T) (hr.mono (by omega)) rfl T.mlawtake T.flawtake.kp T.blawtake .nil pass0 (pa_n (pv 2) (pa_n (pe_callB call_lenC rfl T.zlen bt_len (pa_n (pv 7) pa_nil)) pa_nil))) (fun _ _ => rfl)))
      (pss_cons (ps_set (i := 9) sc_law.nd rfl (Or.inl rfl) (pe_op op_addC (pe_call (ok_showprogram T) (hr.mono (by omega)) rfl T.mshowprogram T.fshowprogram.kp T.bshowprogram .nil pass0 (pa_n (pe_slice sl_c (pv 3) po_none (po_some (pv 8))) pa_nil)) (pe_call (ok_showprogram T) (hr.mono (by omega)) rfl T.mshowprogram T.fshowprogram.kp T.bshowprogram .nil pass0 (pa_n (pe_slice sl_c (pv 3) (po_some (pe_op op_addC (pv 8) pe_int)) po_none) pa_nil))))
      (pss_one (ps_if (pt_cmpR (op_neA 20 (hu_n hr (by decide))) (pe_call (ok_readprogram T) (hr.mono (by omega)) rfl T.mreadprogram T.freadprogram.kp T.breadprogram .nil pass0 (pa_n (pv 9) pa_nil)) (pe_op op_tcat (pe_slice sl_c (pv 3) po_none (po_some (pv 8))) (pe_slice sl_c (pv 3) (po_some (pe_op op_addC (pv 8) pe_int)) po_none)) (nomark _)) (pss_one (ps_ret pe_bl)) pss_nil)))) pss_nil)))))))))))))
      (pss_one (ps_ret pe_bl))), ?_⟩
    try dsimp only [L2.start, m_cons, m_nil, List.cons_append, List.nil_append, List.replicate_succ, List.replicate_zero, List.length_cons, List.length_nil, Nat.reduceAdd, Nat.reduceSub, Nat.zero_add]
    wp_walk
    refine fun p1 h1 => ⟨_, (Kp.new h1).same.seq hS, fun p2 h2 => ?_⟩
    obtain ⟨ms, em, lm⟩ := cut_ints ns none (some 16)
    rw [em] at *
    have n12 := ne_of_none upd_same h2
    wp_walk using upd_ne n12, List.length_map
    refine ⟨by omega, fun p3 h3 => ⟨⟨_, SqL.of upd_same⟩, ?_⟩⟩
    obtain ⟨Pv, hPv⟩ : ∃ Pv : Nat → St → Hp → Prop, ∀ i σ G, Pv i σ G = ∃ (v1 v2 v3 v4 v5 v6 v7 v8 v9 : Option V), σ = [some (.ref a), v1, v2, v3, v4, v5, v6, v7, v8, v9] ∧ G p3 = some (.lst ((0 :: ms).map V.int)) := ⟨_, fun _ _ _ => rfl⟩
    refine for_listD (xs := (0 :: ms).map V.int) Pv ?_ ?_ ?_ ?_
    · rw [hPv]
      exact ⟨none, none, none, none, none, none, none, none, none, rfl, upd_same⟩
    · intro i σ G _ hG
      rw [hPv] at hG
      obtain ⟨_, _, _, _, _, _, _, _, _, _, e⟩ := hG
      exact SqL.of e
    · intro D' i y σ G hn hi hG
      rw [hPv] at hG
      obtain ⟨v1, v2, v3, v4, v5, v6, v7, v8, v9, rfl, eG⟩ := hG
      obtain ⟨z, rfl⟩ := ints_at hi
      have back : ∀ (w1 w2 w3 w4 w5 w6 w7 w8 w9 : Option V) (G' : Hp), G' p3 = some (.lst ((0 :: ms).map V.int)) → D'.nx [some (.ref a), w1, w2, w3, w4, w5, w6, w7, w8, w9] G' := fun w1 w2 w3 w4 w5 w6 w7 w8 w9 G' e => by
        rw [hn, hPv]
        exact ⟨_, _, _, _, _, _, _, _, _, rfl, e⟩
      clear hPv
      obtain ⟨kl1, kl2, kl3, kl4⟩ := klens
      refine cut_g (cut_seq fun R_1 hR1 => ?_)
      wp_walk
      refine ⟨z, rfl, fun r H1 nr K1 R1 => ?_⟩
      have n3r : p3 ≠ r := ne_of_none eG nr
      refine hR1 _ _ ?_
      clear hR1
      refine cut_seq fun R_2 hR2 => ?_
      wp_walk
      refine ⟨r, rfl, R1, fun po uo bo H2 ho Uo wo do_ zo R2 K2 => ?_⟩
      refine hR2 _ _ ?_
      clear hR2
      refine cut_seq fun R_3 hR3 => ?_
      wp_walk
      refine ⟨r, rfl, R2, fun pt ut bt H3 ht Ut wt dt zt R3 K3 => ?_⟩
      have T3 : TupKp H2 H3 := TupKp.row K3 R2
      have ho3 := T3 _ _ ho
      have Uo3 := Uo.kp T3
      have e3 := K3.at1 (K2.at1 (K1.at eG) n3r) n3r
      have lo := text_len wo (by omega : szL bo ≤ 100)
      have lt := text_len wt (by omega : szL bt ≤ 100)
      have lu : uo.length ≤ 16 := by have := lenL bo; have := Uo.len; omega
      have lv : ut.length ≤ 16 := by have := lenL bt; have := Ut.len; omega
      have tA := textOf_app bo bt
      have wA : wfL (bo ++ bt) := wfL_app.mpr ⟨wo, wt⟩
      have dA : dpL (bo ++ bt) ≤ 5 := by rw [dpL_app]; omega
      have zA : szL (bo ++ bt) ≤ 60 := by rw [szL_app]; omega
      refine hR3 _ _ ?_
      clear hR3
      refine cut_seq fun R_4 hR4 => ?_
      wp_walk
      refine ⟨po, uo, bo, rfl, ho3, Uo3, wo, by omega, by omega, fun H4 K4 => ?_⟩
      wp_walk
      refine ⟨pt, ut, bt, rfl, K4.at ht, Ut.kp (TupKp.nil K4), wt, by omega, by omega, fun H5 K5 => ?_⟩
      wp_walk
      refine fun tx htx => ?_
      have N6 := (K4.trans K5).trans (Kp.new (S := []) (o := .lst [.str (textOf bo), .str (textOf bt)]) htx)
      have ex : upd H5 tx (.lst [.str (textOf bo), .str (textOf bt)]) tx = some (.lst [.str (textOf bo), .str (textOf bt)]) := upd_same
      have ho6 := N6.at ho3
      have Uo6 := Uo3.kp (TupKp.nil N6)
      have ht6 := N6.at ht
      have Ut6 := Ut.kp (TupKp.nil N6)
      have R6 := R3.kp N6
      have e6 := N6.at e3
      generalize upd H5 tx (.lst [.str (textOf bo), .str (textOf bt)]) = G6 at *
      clear ho Uo ho3 Uo3 ht Ut R3 e3 N6 K4 K5 T3
      refine hR4 _ _ ?_
      clear hR4
      refine cut_seq fun R_5 hR5 => ?_
      wp_walk using ex
      refine ⟨by omega, bo ++ bt, by rw [tA], wA, dA, zA, fun p7 u7 G7 h7 U7 K7 => ?_⟩
      wp_walk
      refine tcat_is (K7.at ho6) (K7.at ht6) (by omega) fun p8 G8 h8 K8 => ?_
      have N8 := K7.trans K8
      wp_walk
      refine ⟨true, progs_eq (K8.at h7) h8 (U7.kp (TupKp.nil K8)) ((Uo6.kp (TupKp.nil N8)).app (Ut6.kp (TupKp.nil N8))) wA dA, ?_⟩
      wp_walk
      refine tcat_is (N8.at ho6) (N8.at ht6) (by omega) fun p9 G9 h9 K9 => ?_
      have N9 := N8.trans K9
      wp_walk
      refine ⟨p9, _, bo ++ bt, rfl, h9, (Uo6.kp (TupKp.nil N9)).app (Ut6.kp (TupKp.nil N9)), wA, dA, by omega, fun GA KA => ?_⟩
      have NA := N9.trans KA
      have exA := NA.at ex
      wp_walk using exA, tA
      refine ⟨by omega, ?_⟩
      refine hR5 _ _ ?_
      clear hR5
      refine cut_seq fun R_6 hR6 => ?_
      clear h7 U7 K7 h8 K8 N8 h9 K9 N9 KA
      wp_walk using exA, str_len, kl1, kl2
      refine ⟨by omega, by omega, by omega, .whl .now bo :: bt, by rw [text_whl], ⟨⟨⟨⟨trivial, by simp [Say.nms]⟩, by decide⟩, wo⟩, wt⟩, by simp only [dpL, Stm.dp]; omega, by simp only [szL, Stm.sz]; omega, fun p7 u7 G7 h7 U7 K7 => ?_⟩
      have N7 := NA.trans K7
      wp_walk
      refine fun b1 f1 b2 f2 b3 f3 => ?_
      have M3 := Kp.new (S := []) (o := .tup [.ref b2]) f3
      have M2 := (Kp.new (S := []) (o := .tup [.str "while", .ref b1, .ref po]) f2).trans M3
      have M1 := (Kp.new (S := []) (o := .tup [.str "now"]) f1).trans M2
      have N8 := N7.trans M1
      refine tcat_is upd_same (N8.at ht6) (by simp; omega) fun p8 G8 h8 K8 => ?_
      have N9 := N8.trans K8
      wp_walk
      refine ⟨true, progs_eq ((M1.trans K8).at h7) h8 (U7.kp (TupKp.nil (M1.trans K8))) ((StmsAt.cons (.whl ((M3.trans K8).at upd_same) (.now ((M2.trans K8).at upd_same)) (N9.at ho6) (Uo6.kp (TupKp.nil N9))) .nil).app (Ut6.kp (TupKp.nil N9))) ⟨⟨⟨⟨trivial, by simp [Say.nms]⟩, by decide⟩, wo⟩, wt⟩ (by simp only [List.cons_append, List.nil_append, dpL, Stm.dp]; omega), ?_⟩
      have exB := N9.at ex
      wp_walk
      refine hR6 _ _ ?_
      clear hR6
      refine cut_seq fun R_7 hR7 => ?_
      wp_walk using exB, str_len, kl2, kl3
      refine ⟨by omega, by omega, ?_⟩
      refine hR7 _ _ ?_
      clear hR7
      refine cut_seq fun R_8 hR8 => ?_
      wp_walk
      refine fun b4 f4 => ?_
      have NA := N9.trans (Kp.new (S := []) (o := .tup []) f4)
      have htA := NA.at ht6
      have e4 : upd G8 b4 (.tup []) b4 = some (.tup []) := upd_same
      have exC := NA.at ex
      clear h7 U7 K7 h8 K8 N7 M1 M2 M3 N8 exA exB N9 tA wA dA zA
      generalize upd G8 b4 (.tup []) = GA8 at *
      wp_walk using htA, e4
      wp_walk using exC, str_len, kl2, kl3, kl4
      generalize e1 : (Str.ofString "if arg\n" ++ textOf bo ++ Str.ofString "done\n") = y1
      generalize e2 : (Str.ofString "if arg\n" ++ textOf bo ++ Str.ofString "else\n" ++ textOf bt ++ Str.ofString "done\n") = y2
      apply ite_four y2 y1
      · exact fun _ => ⟨by omega, by omega, by omega, by omega⟩
      intro z hz
      have hz : z = textOf [.iff .arg bo bt] := by
        rw [hz, ← e1, ← e2]
        clear hz e1 e2 lt
        cases Ut6 with
        | nil => rw [text_if0]; rfl
        | cons a b => rw [text_if1]; rfl
      clear e1 e2
      refine hR8 _ _ ?_
      clear hR8
      refine cut_seq fun R_9 hR9 => ?_
      wp_walk
      refine ⟨[.iff .arg bo bt], by rw [hz], ⟨⟨⟨⟨trivial, by simp [Say.nms]⟩, by decide⟩, wo, wt⟩, trivial⟩, by simp only [dpL, Stm.dp]; omega, by simp only [szL, Stm.sz]; omega, fun pB uB GB hB UB KB => ?_⟩
      have NB := NA.trans KB
      wp_walk
      refine fun b1 f1 b2 f2 b3 f3 => ?_
      have M3 := Kp.new (S := []) (o := .tup [.ref b2]) f3
      have M2 := (Kp.new (S := []) (o := .tup [.str "if", .ref b1, .ref po, .ref pt]) f2).trans M3
      have M1 := (Kp.new (S := []) (o := .tup [.str "arg"]) f1).trans M2
      have NC := NB.trans M1
      have ebs : ∀ {X : Hp}, Kp [] G6 X → X po = some (.tup uo) ∧ StmsAt X uo bo := fun k => ⟨k.at ho6, Uo6.kp (TupKp.nil k)⟩
      refine ⟨true, progs_eq (M1.at hB) upd_same (UB.kp (TupKp.nil M1)) (.cons (.iff (M3.at upd_same) (.arg (M2.at upd_same)) (NC.at ho6) (Uo6.kp (TupKp.nil NC)) (NC.at ht6) (Ut6.kp (TupKp.nil NC))) .nil) ⟨⟨⟨⟨trivial, by simp [Say.nms]⟩, by decide⟩, wo, wt⟩, trivial⟩ (by simp only [dpL, Stm.dp]; omega), ?_⟩
      have hoC := NC.at ho6
      have UoC := Uo6.kp (TupKp.nil NC)
      have RC := R6.kp NC
      have eC := NC.at e6
      wp_walk
      generalize upd (upd (upd GB b1 (.tup [.str "arg"])) b2 (.tup [.str "if", .ref b1, .ref po, .ref pt])) b3 (.tup [.ref b2]) = GC at *
      refine hR9 _ _ ?_
      clear hR9
      refine cut_seq fun R_10 hR10 => ?_
      wp_walk using hoC
      refine ⟨⟨by omega, by omega⟩, ?_⟩
      refine lc_range (lo := 0) (fun j xs X => ∃ ks : List Nat, xs = ks.map (fun k : Nat => V.int (k : Int)) ∧ (∀ k ∈ ks, ∃ m, bo[k]? = some m ∧ m.blk = false) ∧ ks.length ≤ j ∧ j ≤ uo.length ∧ Kp [] GC X) ⟨[], rfl, by simp, by simp, by omega, Kp.refl⟩ ?_ ?_ ?_
      · rintro j xs X ⟨ks, rfl, _, hk, hk2, _⟩
        rw [List.length_map]
        omega
      · rintro j xs X hj ⟨ks, rfl, hks, hk, hk2, k⟩
        rw [show (0 : Int) + (j : Int) = (j : Int) by omega]
        have hju : j < uo.length := by omega
        obtain ⟨m, hm, hM⟩ := UoC.at (List.getElem?_eq_getElem hju)
        obtain ⟨am, xm, ev, em'⟩ := (hM.kp (TupKp.nil k)).kd
        wp_walk using compSt, Option.join_some, k.at hoC
        rw [atI_nat (List.getElem?_eq_getElem hju), ev]
        wp_walk using em'
        refine fun pk hpk => ⟨rfl, flat2, ?_⟩
        rw [kd_blk]
        cases hb : m.blk with
        | false =>
          wp_walk
          refine ⟨ks ++ [j], by simp, fun z hz => ?_, by simp; omega, by omega, k.trans (Kp.new hpk)⟩
          rcases List.mem_append.mp hz with hz | hz
          · exact hks z hz
          · rw [show z = j by simpa using hz]
            exact ⟨m, hm, hb⟩
        | true =>
          wp_walk
          exact ⟨ks, rfl, hks, by omega, by omega, k.trans (Kp.new hpk)⟩
      · rintro xs X ⟨ks, rfl, hks, hk, hk2, k⟩ lp hlp
        have KX := k.trans (Kp.new (S := []) (o := .lst (ks.map fun k : Nat => V.int (k : Int))) hlp)
        have el : upd X lp (.lst (ks.map fun k : Nat => V.int (k : Int))) lp = some (.lst (ks.map fun k : Nat => V.int (k : Int))) := upd_same
        generalize upd X lp (.lst (ks.map fun k : Nat => V.int (k : Int))) = X1 at *
        refine hR10 _ _ ?_
        clear hR10
        wp_walk using el
        refine fun l0 hl0 => ?_
        have N0 := Kp.new (S := []) (o := .lst []) hl0
        have el0 := N0.at el
        have KX0 := KX.trans N0
        have e00 : upd X1 l0 (.lst []) l0 = some (.lst []) := upd_same
        have RX := RC.kp KX0
        generalize upd X1 l0 (.lst []) = X2 at *
        wp_walk using el0, e00, List.isEmpty_map
        cases hkz : ks with
        | nil =>
          wp_walk using List.isEmpty_nil
          exact back _ _ _ _ _ _ _ _ _ _ (KX0.at eC)
        | cons k0 kr =>
          rw [hkz] at el0
          have lk : (k0 :: kr).length = ks.length := by rw [hkz]
          wp_walk using List.isEmpty_cons, el0, List.length_map, List.length_cons
          simp only [List.length_cons] at lk
          refine ⟨by omega, by omega, RX, fun g X3 g0 g1 R3' K3' => ?_⟩
          have npl : lp ≠ r := (RC.kp k).none hlp
          have el3 := K3'.at1 el0 npl
          have TX := TupKp.row K3' RX
          have hoX := TX _ _ (KX0.at hoC)
          have UoX := (UoC.kp (TupKp.nil KX0)).kp TX
          have eX := K3'.at1 (KX0.at eC) n3r
          wp_walk using el3
          refine r_draw g0 (by simp only [List.length_cons, List.length_map]; omega) fun v hv => ?_
          wp_walk
          obtain ⟨kk, hkk, rfl⟩ : ∃ kk : Nat, kk ∈ k0 :: kr ∧ (V.int (kk : Int)) = v := by
            have : v ∈ (k0 :: kr).map fun k : Nat => V.int (k : Int) := hv
            obtain ⟨kk, h1, h2⟩ := List.mem_map.mp this
            exact ⟨kk, h1, h2⟩
          obtain ⟨mk, hmk, _⟩ := hks kk (by rw [hkz]; exact hkk)
          have hkl : kk < uo.length := by
            have := (List.getElem?_eq_some_iff.mp hmk).1
            have := Uo6.len
            omega
          obtain ⟨ct1, ct2⟩ := cut_to hkl
          obtain ⟨cf1, cf2⟩ := cut_from hkl
          have wt1 := (wfL_take wo kk).1
          have wd1 := (wfL_take wo (kk + 1)).2
          have sz1 := sz_take bo kk
          have sz2 := sz_take bo (kk + 1)
          have dp1 := (dp_take bo kk).1
          have dp2 := (dp_take bo (kk + 1)).2
          have lt1 := text_len wt1 (by omega)
          have lt2 := text_len wd1 (by omega)
          have wR : wfL (bo.take kk ++ bo.drop (kk + 1)) := wfL_app.mpr ⟨wt1, wd1⟩
          have dR : dpL (bo.take kk ++ bo.drop (kk + 1)) ≤ 5 := by rw [dpL_app]; omega
          have zR : szL (bo.take kk ++ bo.drop (kk + 1)) ≤ 60 := by rw [szL_app]; omega
          wp_walk using hoX
          refine ⟨ct2, fun s1 f1 => ?_⟩
          rw [ct1]
          have S1 := Kp.new (S := []) (o := .tup (uo.take kk)) f1
          refine ⟨s1, _, bo.take kk, rfl, upd_same, (UoX.kp (TupKp.nil S1)).take kk, wt1, by omega, by omega, fun X4 K4 => ?_⟩
          have N4 := S1.trans K4
          wp_walk using N4.at hoX
          refine ⟨cf2, fun s2 f2 => ?_⟩
          rw [cf1]
          have S2 := N4.trans (Kp.new (S := []) (o := .tup (uo.drop (kk + 1))) f2)
          refine ⟨s2, _, bo.drop (kk + 1), rfl, upd_same, (UoX.kp (TupKp.nil S2)).drop (kk + 1), wd1, by omega, by omega, fun X5 K5 => ?_⟩
          have N5 := S2.trans K5
          wp_walk
          refine ⟨by omega, bo.take kk ++ bo.drop (kk + 1), by rw [textOf_app], wR, dR, zR, fun p6 u6 X6 h6 U6 K6 => ?_⟩
          have N6 := N5.trans K6
          wp_walk using N6.at hoX
          refine ⟨ct2, fun s3 f3 => ?_⟩
          rw [ct1]
          have S3 := N6.trans (Kp.new (S := []) (o := .tup (uo.take kk)) f3)
          wp_walk using S3.at hoX
          refine ⟨cf2, fun s4 f4 => ?_⟩
          rw [cf1]
          have F4 := Kp.new (S := []) (o := .tup (uo.drop (kk + 1))) f4
          have S4 := S3.trans F4
          refine tcat_is (F4.at upd_same) upd_same (by rw [List.length_take, List.length_drop]; omega) fun p7 X7 h7 K7 => ?_
          have N7 := S4.trans K7
          have L7 := ((Kp.new (S := []) (o := .tup (uo.take kk)) f3).trans F4).trans K7
          wp_walk
          refine ⟨true, progs_eq (L7.at h6) h7 (U6.kp (TupKp.nil L7)) (((UoX.kp (TupKp.nil N7)).take kk).app ((UoX.kp (TupKp.nil N7)).drop (kk + 1))) wR dR, ?_⟩
          wp_walk
          exact back _ _ _ _ _ _ _ _ _ _ (N7.at eX)
    · intro σ G hG
      rw [hPv] at hG
      obtain ⟨v1, v2, v3, v4, v5, v6, v7, v8, v9, rfl, eG⟩ := hG
      wp_walk
      exact q _
end
set_option linter.all false in private theorem ln0 {us : List Value} (h : us.length = ([] : List Str).length) : us = [] := List.length_eq_zero_iff.mp h
set_option linter.all false in private theorem ln1 {us : List Value} {x0 : Str} (h : us.length = [x0].length) : ∃ a0, us = [a0] := by
  obtain ⟨a0, rfl⟩ := List.length_eq_one_iff.mp h; exact ⟨a0, rfl⟩
set_option linter.all false in private theorem ln2 {us : List Value} {x0 x1 : Str} (h : us.length = [x0, x1].length) : ∃ a0 a1, us = [a0, a1] := by
  cases us with
  | nil => cases h
  | cons a0 us => obtain ⟨b0, rfl⟩ := ln1 (x0 := x0) (us := us) (Nat.succ.inj h); exact ⟨a0, b0, rfl⟩
set_option linter.all false in private theorem ln3 {us : List Value} {x0 x1 x2 : Str} (h : us.length = [x0, x1, x2].length) : ∃ a0 a1 a2, us = [a0, a1, a2] := by
  cases us with
  | nil => cases h
  | cons a0 us => obtain ⟨b0, b1, rfl⟩ := ln2 (x0 := x0) (x1 := x0) (us := us) (Nat.succ.inj h); exact ⟨a0, b0, b1, rfl⟩
set_option linter.all false in private theorem ln4 {us : List Value} {x0 x1 x2 x3 : Str} (h : us.length = [x0, x1, x2, x3].length) : ∃ a0 a1 a2 a3, us = [a0, a1, a2, a3] := by
  cases us with
  | nil => cases h
  | cons a0 us => obtain ⟨b0, b1, b2, rfl⟩ := ln3 (x0 := x0) (x1 := x0) (x2 := x0) (us := us) (Nat.succ.inj h); exact ⟨a0, b0, b1, b2, rfl⟩
set_option linter.all false in private theorem ln5 {us : List Value} {x0 x1 x2 x3 x4 : Str} (h : us.length = [x0, x1, x2, x3, x4].length) : ∃ a0 a1 a2 a3 a4, us = [a0, a1, a2, a3, a4] := by
  cases us with
  | nil => cases h
  | cons a0 us => obtain ⟨b0, b1, b2, b3, rfl⟩ := ln4 (x0 := x0) (x1 := x0) (x2 := x0) (x3 := x0) (us := us) (Nat.succ.inj h); exact ⟨a0, b0, b1, b2, b3, rfl⟩
set_option linter.all false in private theorem walkX_of {q : Program} {loose : List Str} {XP : (Str → Option Value) → Heap → Prop} {K : Params → PySem.W.Frag} {as : List Addr} {n t : Nat} {r : PySem.W.RowW} {d : DefRec} {kwd : List (Str × Expr)} {run : Value → List Value → Sem Value} (e : ∀ P : Params, as = List.map (fun x => x.fst) (K P)) (H : PySem.W.WalkO q loose XP (PySem.W.kHook K as e).says r d kwd run) : PySem.W.WalkX q loose XP (PySem.W.X.obsZ as) (PySem.W.X.valZ K n t) r d kwd run := fun w s₀ s₁ mg mb G y a o pm cd doc dV kV h1 h2 h3 h4 h5 h6 args vals bs L => by
  obtain ⟨_, f, _, _⟩ := PySem.W.X.z_facts e y
  exact H w s₀ s₁ mg mb G (show PySem.W.InK K w s₁.heap from fun p ob hp => L.keeps _ _ (f p ob hp)) a o pm cd doc dV kV h1 h2 h3 h4 h5 h6 args vals bs
set_option linter.all false in private theorem all_mk {l : PySem.W.OpenLaw} {w : World} {K : PySem.W.Frag} {h : Heap} {mg : Str → Option Value} {fa : Addr} (X : K.In h) (G : h.Ns mainGlobals mg) (hfa : mg "law" = some (.ref fa))
    {f0 : Addr} {od0 an0 : Option Addr} {sl0 : Array (Option Value)} {oc0 kV0 dc0 pm0 cd0 ct0 : Value}
    {f1 : Addr} {od1 an1 : Option Addr} {sl1 : Array (Option Value)} {oc1 kV1 dc1 pm1 cd1 ct1 : Value}
    {f2 : Addr} {od2 an2 : Option Addr} {sl2 : Array (Option Value)} {oc2 kV2 dc2 pm2 cd2 ct2 : Value}
    {f3 : Addr} {od3 an3 : Option Addr} {sl3 : Array (Option Value)} {oc3 kV3 dc3 pm3 cd3 ct3 : Value}
    {f4 : Addr} {od4 an4 : Option Addr} {sl4 : Array (Option Value)} {oc4 kV4 dc4 pm4 cd4 ct4 : Value}
    {f5 : Addr} {od5 an5 : Option Addr} {sl5 : Array (Option Value)} {oc5 kV5 dc5 pm5 cd5 ct5 : Value}
    {f6 : Addr} {od6 an6 : Option Addr} {sl6 : Array (Option Value)} {oc6 kV6 dc6 pm6 cd6 ct6 : Value}
    {f7 : Addr} {od7 an7 : Option Addr} {sl7 : Array (Option Value)} {oc7 kV7 dc7 pm7 cd7 ct7 : Value}
    {f8 : Addr} {od8 an8 : Option Addr} {sl8 : Array (Option Value)} {oc8 kV8 dc8 pm8 cd8 ct8 : Value}
    {f9 : Addr} {od9 an9 : Option Addr} {sl9 : Array (Option Value)} {oc9 kV9 dc9 pm9 cd9 ct9 : Value}
    {f10 : Addr} {od10 an10 : Option Addr} {sl10 : Array (Option Value)} {oc10 kV10 dc10 pm10 cd10 ct10 : Value}
    {f11 : Addr} {od11 an11 : Option Addr} {sl11 : Array (Option Value)} {oc11 kV11 dc11 pm11 cd11 ct11 : Value}
    {f12 : Addr} {od12 an12 : Option Addr} {sl12 : Array (Option Value)} {oc12 kV12 dc12 pm12 cd12 ct12 : Value}
    {f13 : Addr} {od13 an13 : Option Addr} {sl13 : Array (Option Value)} {oc13 kV13 dc13 pm13 cd13 ct13 : Value}
    {f14 : Addr} {od14 an14 : Option Addr} {sl14 : Array (Option Value)} {oc14 kV14 dc14 pm14 cd14 ct14 : Value}
    {f15 : Addr} {od15 an15 : Option Addr} {sl15 : Array (Option Value)} {oc15 kV15 dc15 pm15 cd15 ct15 : Value}
    {f16 : Addr} {od16 an16 : Option Addr} {sl16 : Array (Option Value)} {oc16 kV16 dc16 pm16 cd16 ct16 : Value}
    {f17 : Addr} {od17 an17 : Option Addr} {sl17 : Array (Option Value)} {oc17 kV17 dc17 pm17 cd17 ct17 : Value}
    {f18 : Addr} {od18 an18 : Option Addr} {sl18 : Array (Option Value)} {oc18 kV18 dc18 pm18 cd18 ct18 : Value}
    {f19 : Addr} {od19 an19 : Option Addr} {sl19 : Array (Option Value)} {oc19 kV19 dc19 pm19 cd19 ct19 : Value}
    {f20 : Addr} {od20 an20 : Option Addr} {sl20 : Array (Option Value)} {oc20 kV20 dc20 pm20 cd20 ct20 : Value}
    {f21 : Addr} {od21 an21 : Option Addr} {sl21 : Array (Option Value)} {oc21 kV21 dc21 pm21 cd21 ct21 : Value}
    {f22 : Addr} {od22 an22 : Option Addr} {sl22 : Array (Option Value)} {oc22 kV22 dc22 pm22 cd22 ct22 : Value}
    {f23 : Addr} {od23 an23 : Option Addr} {sl23 : Array (Option Value)} {oc23 kV23 dc23 pm23 cd23 ct23 : Value}
    {f24 : Addr} {od24 an24 : Option Addr} {sl24 : Array (Option Value)} {oc24 kV24 dc24 pm24 cd24 ct24 : Value}
    {f25 : Addr} {od25 an25 : Option Addr} {sl25 : Array (Option Value)} {oc25 kV25 dc25 pm25 cd25 ct25 : Value}
    {f26 : Addr} {od26 an26 : Option Addr} {sl26 : Array (Option Value)} {oc26 kV26 dc26 pm26 cd26 ct26 : Value}
    {f27 : Addr} {od27 an27 : Option Addr} {sl27 : Array (Option Value)} {oc27 kV27 dc27 pm27 cd27 ct27 : Value}
    {f28 : Addr} {od28 an28 : Option Addr} {sl28 : Array (Option Value)} {oc28 kV28 dc28 pm28 cd28 ct28 : Value}
    {f29 : Addr} {od29 an29 : Option Addr} {sl29 : Array (Option Value)} {oc29 kV29 dc29 pm29 cd29 ct29 : Value}
    {f30 : Addr} {od30 an30 : Option Addr} {sl30 : Array (Option Value)} {oc30 kV30 dc30 pm30 cd30 ct30 : Value}
    {f31 : Addr} {od31 an31 : Option Addr} {sl31 : Array (Option Value)} {oc31 kV31 dc31 pm31 cd31 ct31 : Value}
    {f32 : Addr} {od32 an32 : Option Addr} {sl32 : Array (Option Value)} {oc32 kV32 dc32 pm32 cd32 ct32 : Value}
    {f33 : Addr} {od33 an33 : Option Addr} {sl33 : Array (Option Value)} {oc33 kV33 dc33 pm33 cd33 ct33 : Value}
    {f34 : Addr} {od34 an34 : Option Addr} {sl34 : Array (Option Value)} {oc34 kV34 dc34 pm34 cd34 ct34 : Value}
    {f35 : Addr} {od35 an35 : Option Addr} {sl35 : Array (Option Value)} {oc35 kV35 dc35 pm35 cd35 ct35 : Value}
    {f36 : Addr} {od36 an36 : Option Addr} {sl36 : Array (Option Value)} {oc36 kV36 dc36 pm36 cd36 ct36 : Value}
    {CReader : Addr}
    {tk0 : Tok}
    {tk1 : Tok}
    {tp2 : Addr} {td2 : Option Addr} {tn2 : Nat} {ts2 : Array (Option Value)} {tw2_0 tw2_1 tw2_2 tw2_3 tw2_4 tw2_5 tw2_6 tw2_7 tw2_8 tw2_9 tw2_10 tw2_11 tw2_12 tw2_13 tw2_14 tw2_15 tw2_16 : Tok}
    {tk3 : Tok}
    {tk4 : Tok}
    {tk5 : Tok}
    {tk6 : Tok}
    {tp7 : Addr} {td7 : Option Addr} {tn7 : Nat} {ts7 : Array (Option Value)} {tw7_0 tw7_1 tw7_2 tw7_3 tw7_4 : Tok}
    (a0 : PySem.W.nsIn K mainGlobals "is_number_word" = some (some (.ref f0)))
    (l0 : K.lookup f0 = some ⟨oc0, od0, .func (PySem.W.fnOf "is_number_word" "is_number_word" (defArgs s_isnumberword) (defBody s_isnumberword) (defScope s_isnumberword) .none kV0 dc0 pm0 an0 cd0 ct0), sl0⟩) (c0 : PySem.W.codeIn K cd0 "is_number_word" = true) (k0 : PySem.W.keepIn K (.ref f0) = true)
    (a1 : PySem.W.nsIn K mainGlobals "is_figure" = some (some (.ref f1)))
    (l1 : K.lookup f1 = some ⟨oc1, od1, .func (PySem.W.fnOf "is_figure" "is_figure" (defArgs s_isfigure) (defBody s_isfigure) (defScope s_isfigure) .none kV1 dc1 pm1 an1 cd1 ct1), sl1⟩) (c1 : PySem.W.codeIn K cd1 "is_figure" = true) (k1 : PySem.W.keepIn K (.ref f1) = true)
    (a2 : PySem.W.nsIn K mainGlobals "is_small_letter" = some (some (.ref f2)))
    (l2 : K.lookup f2 = some ⟨oc2, od2, .func (PySem.W.fnOf "is_small_letter" "is_small_letter" (defArgs s_issmallletter) (defBody s_issmallletter) (defScope s_issmallletter) .none kV2 dc2 pm2 an2 cd2 ct2), sl2⟩) (c2 : PySem.W.codeIn K cd2 "is_small_letter" = true) (k2 : PySem.W.keepIn K (.ref f2) = true)
    (a3 : PySem.W.nsIn K mainGlobals "is_name" = some (some (.ref f3)))
    (l3 : K.lookup f3 = some ⟨oc3, od3, .func (PySem.W.fnOf "is_name" "is_name" (defArgs s_isname) (defBody s_isname) (defScope s_isname) .none kV3 dc3 pm3 an3 cd3 ct3), sl3⟩) (c3 : PySem.W.codeIn K cd3 "is_name" = true) (k3 : PySem.W.keepIn K (.ref f3) = true)
    (a4 : PySem.W.nsIn K mainGlobals "read_program" = some (some (.ref f4)))
    (l4 : K.lookup f4 = some ⟨oc4, od4, .func (PySem.W.fnOf "read_program" "read_program" (defArgs s_readprogram) (defBody s_readprogram) (defScope s_readprogram) .none kV4 dc4 pm4 an4 cd4 ct4), sl4⟩) (c4 : PySem.W.codeIn K cd4 "read_program" = true) (k4 : PySem.W.keepIn K (.ref f4) = true)
    (a5 : PySem.W.findIn K (.ref CReader) "__init__" = some (some (.ref f5))) (i5 : PySem.W.isFn K (.ref f5) = true)
    (l5 : K.lookup f5 = some ⟨oc5, od5, .func (PySem.W.fnOf "__init__" "Reader.__init__" (defArgs s_Readerinit) (defBody s_Readerinit) (defScope s_Readerinit) .none kV5 dc5 pm5 an5 cd5 ct5), sl5⟩) (c5 : PySem.W.codeIn K cd5 "Reader.__init__" = true) (k5 : PySem.W.keepIn K (.ref f5) = true)
    (a6 : PySem.W.findIn K (.ref CReader) "ahead" = some (some (.ref f6))) (i6 : PySem.W.isFn K (.ref f6) = true)
    (l6 : K.lookup f6 = some ⟨oc6, od6, .func (PySem.W.fnOf "ahead" "Reader.ahead" (defArgs s_Readerahead) (defBody s_Readerahead) (defScope s_Readerahead) .none kV6 dc6 pm6 an6 cd6 ct6), sl6⟩) (c6 : PySem.W.codeIn K cd6 "Reader.ahead" = true) (k6 : PySem.W.keepIn K (.ref f6) = true)
    (a7 : PySem.W.findIn K (.ref CReader) "block" = some (some (.ref f7))) (i7 : PySem.W.isFn K (.ref f7) = true)
    (l7 : K.lookup f7 = some ⟨oc7, od7, .func (PySem.W.fnOf "block" "Reader.block" (defArgs s_Readerblock) (defBody s_Readerblock) (defScope s_Readerblock) .none kV7 dc7 pm7 an7 cd7 ct7), sl7⟩) (c7 : PySem.W.codeIn K cd7 "Reader.block" = true) (k7 : PySem.W.keepIn K (.ref f7) = true)
    (a8 : PySem.W.findIn K (.ref CReader) "statement" = some (some (.ref f8))) (i8 : PySem.W.isFn K (.ref f8) = true)
    (l8 : K.lookup f8 = some ⟨oc8, od8, .func (PySem.W.fnOf "statement" "Reader.statement" (defArgs s_Readerstatement) (defBody s_Readerstatement) (defScope s_Readerstatement) .none kV8 dc8 pm8 an8 cd8 ct8), sl8⟩) (c8 : PySem.W.codeIn K cd8 "Reader.statement" = true) (k8 : PySem.W.keepIn K (.ref f8) = true)
    (a9 : PySem.W.findIn K (.ref CReader) "with_blocks" = some (some (.ref f9))) (i9 : PySem.W.isFn K (.ref f9) = true)
    (l9 : K.lookup f9 = some ⟨oc9, od9, .func (PySem.W.fnOf "with_blocks" "Reader.with_blocks" (defArgs s_Readerwithblocks) (defBody s_Readerwithblocks) (defScope s_Readerwithblocks) .none kV9 dc9 pm9 an9 cd9 ct9), sl9⟩) (c9 : PySem.W.codeIn K cd9 "Reader.with_blocks" = true) (k9 : PySem.W.keepIn K (.ref f9) = true)
    (a10 : PySem.W.findIn K (.ref CReader) "second_block" = some (some (.ref f10))) (i10 : PySem.W.isFn K (.ref f10) = true)
    (l10 : K.lookup f10 = some ⟨oc10, od10, .func (PySem.W.fnOf "second_block" "Reader.second_block" (defArgs s_Readersecondblock) (defBody s_Readersecondblock) (defScope s_Readersecondblock) .none kV10 dc10 pm10 an10 cd10 ct10), sl10⟩) (c10 : PySem.W.codeIn K cd10 "Reader.second_block" = true) (k10 : PySem.W.keepIn K (.ref f10) = true)
    (a11 : PySem.W.nsIn K mainGlobals "take_plain" = some (some (.ref f11)))
    (l11 : K.lookup f11 = some ⟨oc11, od11, .func (PySem.W.fnOf "take_plain" "take_plain" (defArgs s_takeplain) (defBody s_takeplain) (defScope s_takeplain) .none kV11 dc11 pm11 an11 cd11 ct11), sl11⟩) (c11 : PySem.W.codeIn K cd11 "take_plain" = true) (k11 : PySem.W.keepIn K (.ref f11) = true)
    (a12 : PySem.W.nsIn K mainGlobals "take_given" = some (some (.ref f12)))
    (l12 : K.lookup f12 = some ⟨oc12, od12, .func (PySem.W.fnOf "take_given" "take_given" (defArgs s_takegiven) (defBody s_takegiven) (defScope s_takegiven) .none kV12 dc12 pm12 an12 cd12 ct12), sl12⟩) (c12 : PySem.W.codeIn K cd12 "take_given" = true) (k12 : PySem.W.keepIn K (.ref f12) = true)
    (a13 : PySem.W.nsIn K mainGlobals "take_waited" = some (some (.ref f13)))
    (l13 : K.lookup f13 = some ⟨oc13, od13, .func (PySem.W.fnOf "take_waited" "take_waited" (defArgs s_takewaited) (defBody s_takewaited) (defScope s_takewaited) .none kV13 dc13 pm13 an13 cd13 ct13), sl13⟩) (c13 : PySem.W.codeIn K cd13 "take_waited" = true) (k13 : PySem.W.keepIn K (.ref f13) = true)
    (a14 : PySem.W.nsIn K mainGlobals "take_saying" = some (some (.ref f14)))
    (l14 : K.lookup f14 = some ⟨oc14, od14, .func (PySem.W.fnOf "take_saying" "take_saying" (defArgs s_takesaying) (defBody s_takesaying) (defScope s_takesaying) .none kV14 dc14 pm14 an14 cd14 ct14), sl14⟩) (c14 : PySem.W.codeIn K cd14 "take_saying" = true) (k14 : PySem.W.keepIn K (.ref f14) = true)
    (a15 : PySem.W.nsIn K mainGlobals "take_joined" = some (some (.ref f15)))
    (l15 : K.lookup f15 = some ⟨oc15, od15, .func (PySem.W.fnOf "take_joined" "take_joined" (defArgs s_takejoined) (defBody s_takejoined) (defScope s_takejoined) .none kV15 dc15 pm15 an15 cd15 ct15), sl15⟩) (c15 : PySem.W.codeIn K cd15 "take_joined" = true) (k15 : PySem.W.keepIn K (.ref f15) = true)
    (a16 : PySem.W.nsIn K mainGlobals "take_name" = some (some (.ref f16)))
    (l16 : K.lookup f16 = some ⟨oc16, od16, .func (PySem.W.fnOf "take_name" "take_name" (defArgs s_takename) (defBody s_takename) (defScope s_takename) .none kV16 dc16 pm16 an16 cd16 ct16), sl16⟩) (c16 : PySem.W.codeIn K cd16 "take_name" = true) (k16 : PySem.W.keepIn K (.ref f16) = true)
    (a17 : PySem.W.nsIn K mainGlobals "take_word" = some (some (.ref f17)))
    (l17 : K.lookup f17 = some ⟨oc17, od17, .func (PySem.W.fnOf "take_word" "take_word" (defArgs s_takeword) (defBody s_takeword) (defScope s_takeword) .none kV17 dc17 pm17 an17 cd17 ct17), sl17⟩) (c17 : PySem.W.codeIn K cd17 "take_word" = true) (k17 : PySem.W.keepIn K (.ref f17) = true)
    (a18 : PySem.W.nsIn K mainGlobals "refuse_more" = some (some (.ref f18)))
    (l18 : K.lookup f18 = some ⟨oc18, od18, .func (PySem.W.fnOf "refuse_more" "refuse_more" (defArgs s_refusemore) (defBody s_refusemore) (defScope s_refusemore) .none kV18 dc18 pm18 an18 cd18 ct18), sl18⟩) (c18 : PySem.W.codeIn K cd18 "refuse_more" = true) (k18 : PySem.W.keepIn K (.ref f18) = true)
    (a19 : PySem.W.nsIn K mainGlobals "show_program" = some (some (.ref f19)))
    (l19 : K.lookup f19 = some ⟨oc19, od19, .func (PySem.W.fnOf "show_program" "show_program" (defArgs s_showprogram) (defBody s_showprogram) (defScope s_showprogram) .none kV19 dc19 pm19 an19 cd19 ct19), sl19⟩) (c19 : PySem.W.codeIn K cd19 "show_program" = true) (k19 : PySem.W.keepIn K (.ref f19) = true)
    (a20 : PySem.W.nsIn K mainGlobals "block_lines" = some (some (.ref f20)))
    (l20 : K.lookup f20 = some ⟨oc20, od20, .func (PySem.W.fnOf "block_lines" "block_lines" (defArgs s_blocklines) (defBody s_blocklines) (defScope s_blocklines) .none kV20 dc20 pm20 an20 cd20 ct20), sl20⟩) (c20 : PySem.W.codeIn K cd20 "block_lines" = true) (k20 : PySem.W.keepIn K (.ref f20) = true)
    (a21 : PySem.W.nsIn K mainGlobals "statement_lines" = some (some (.ref f21)))
    (l21 : K.lookup f21 = some ⟨oc21, od21, .func (PySem.W.fnOf "statement_lines" "statement_lines" (defArgs s_statementlines) (defBody s_statementlines) (defScope s_statementlines) .none kV21 dc21 pm21 an21 cd21 ct21), sl21⟩) (c21 : PySem.W.codeIn K cd21 "statement_lines" = true) (k21 : PySem.W.keepIn K (.ref f21) = true)
    (a22 : PySem.W.nsIn K mainGlobals "else_lines" = some (some (.ref f22)))
    (l22 : K.lookup f22 = some ⟨oc22, od22, .func (PySem.W.fnOf "else_lines" "else_lines" (defArgs s_elselines) (defBody s_elselines) (defScope s_elselines) .none kV22 dc22 pm22 an22 cd22 ct22), sl22⟩) (c22 : PySem.W.codeIn K cd22 "else_lines" = true) (k22 : PySem.W.keepIn K (.ref f22) = true)
    (a23 : PySem.W.nsIn K mainGlobals "show_head" = some (some (.ref f23)))
    (l23 : K.lookup f23 = some ⟨oc23, od23, .func (PySem.W.fnOf "show_head" "show_head" (defArgs s_showhead) (defBody s_showhead) (defScope s_showhead) .none kV23 dc23 pm23 an23 cd23 ct23), sl23⟩) (c23 : PySem.W.codeIn K cd23 "show_head" = true) (k23 : PySem.W.keepIn K (.ref f23) = true)
    (a24 : PySem.W.nsIn K mainGlobals "show_plain" = some (some (.ref f24)))
    (l24 : K.lookup f24 = some ⟨oc24, od24, .func (PySem.W.fnOf "show_plain" "show_plain" (defArgs s_showplain) (defBody s_showplain) (defScope s_showplain) .none kV24 dc24 pm24 an24 cd24 ct24), sl24⟩) (c24 : PySem.W.codeIn K cd24 "show_plain" = true) (k24 : PySem.W.keepIn K (.ref f24) = true)
    (a25 : PySem.W.nsIn K mainGlobals "given_words" = some (some (.ref f25)))
    (l25 : K.lookup f25 = some ⟨oc25, od25, .func (PySem.W.fnOf "given_words" "given_words" (defArgs s_givenwords) (defBody s_givenwords) (defScope s_givenwords) .none kV25 dc25 pm25 an25 cd25 ct25), sl25⟩) (c25 : PySem.W.codeIn K cd25 "given_words" = true) (k25 : PySem.W.keepIn K (.ref f25) = true)
    (a26 : PySem.W.nsIn K mainGlobals "show_saying" = some (some (.ref f26)))
    (l26 : K.lookup f26 = some ⟨oc26, od26, .func (PySem.W.fnOf "show_saying" "show_saying" (defArgs s_showsaying) (defBody s_showsaying) (defScope s_showsaying) .none kV26 dc26 pm26 an26 cd26 ct26), sl26⟩) (c26 : PySem.W.codeIn K cd26 "show_saying" = true) (k26 : PySem.W.keepIn K (.ref f26) = true)
    (a27 : PySem.W.nsIn K mainGlobals "_law_stream" = some (some (.ref f27)))
    (l27 : K.lookup f27 = some ⟨oc27, od27, .func (PySem.W.fnOf "_law_stream" "_law_stream" (defArgs s_lawstream) (defBody s_lawstream) (defScope s_lawstream) .none kV27 dc27 pm27 an27 cd27 ct27), sl27⟩) (c27 : PySem.W.codeIn K cd27 "_law_stream" = true) (k27 : PySem.W.keepIn K (.ref f27) = true)
    (a28 : PySem.W.nsIn K mainGlobals "_law_take" = some (some (.ref f28)))
    (l28 : K.lookup f28 = some ⟨oc28, od28, .func (PySem.W.fnOf "_law_take" "_law_take" (defArgs s_lawtake) (defBody s_lawtake) (defScope s_lawtake) .none kV28 dc28 pm28 an28 cd28 ct28), sl28⟩) (c28 : PySem.W.codeIn K cd28 "_law_take" = true) (k28 : PySem.W.keepIn K (.ref f28) = true)
    (a29 : PySem.W.nsIn K mainGlobals "_law_worth" = some (some (.ref f29)))
    (l29 : K.lookup f29 = some ⟨oc29, od29, .func (PySem.W.fnOf "_law_worth" "_law_worth" (defArgs s_lawworth) (defBody s_lawworth) (defScope s_lawworth) .none kV29 dc29 pm29 an29 cd29 ct29), sl29⟩) (c29 : PySem.W.codeIn K cd29 "_law_worth" = true) (k29 : PySem.W.keepIn K (.ref f29) = true)
    (a30 : PySem.W.nsIn K mainGlobals "_law_own" = some (some (.ref f30)))
    (l30 : K.lookup f30 = some ⟨oc30, od30, .func (PySem.W.fnOf "_law_own" "_law_own" (defArgs s_lawown) (defBody s_lawown) (defScope s_lawown) .none kV30 dc30 pm30 an30 cd30 ct30), sl30⟩) (c30 : PySem.W.codeIn K cd30 "_law_own" = true) (k30 : PySem.W.keepIn K (.ref f30) = true)
    (a31 : PySem.W.nsIn K mainGlobals "_law_name" = some (some (.ref f31)))
    (l31 : K.lookup f31 = some ⟨oc31, od31, .func (PySem.W.fnOf "_law_name" "_law_name" (defArgs s_lawname) (defBody s_lawname) (defScope s_lawname) .none kV31 dc31 pm31 an31 cd31 ct31), sl31⟩) (c31 : PySem.W.codeIn K cd31 "_law_name" = true) (k31 : PySem.W.keepIn K (.ref f31) = true)
    (a32 : PySem.W.nsIn K mainGlobals "_law_saying" = some (some (.ref f32)))
    (l32 : K.lookup f32 = some ⟨oc32, od32, .func (PySem.W.fnOf "_law_saying" "_law_saying" (defArgs s_lawsaying) (defBody s_lawsaying) (defScope s_lawsaying) .none kV32 dc32 pm32 an32 cd32 ct32), sl32⟩) (c32 : PySem.W.codeIn K cd32 "_law_saying" = true) (k32 : PySem.W.keepIn K (.ref f32) = true)
    (a33 : PySem.W.nsIn K mainGlobals "_law_line" = some (some (.ref f33)))
    (l33 : K.lookup f33 = some ⟨oc33, od33, .func (PySem.W.fnOf "_law_line" "_law_line" (defArgs s_lawline) (defBody s_lawline) (defScope s_lawline) .none kV33 dc33 pm33 an33 cd33 ct33), sl33⟩) (c33 : PySem.W.codeIn K cd33 "_law_line" = true) (k33 : PySem.W.keepIn K (.ref f33) = true)
    (a34 : PySem.W.nsIn K mainGlobals "_law_block" = some (some (.ref f34)))
    (l34 : K.lookup f34 = some ⟨oc34, od34, .func (PySem.W.fnOf "_law_block" "_law_block" (defArgs s_lawblock) (defBody s_lawblock) (defScope s_lawblock) .none kV34 dc34 pm34 an34 cd34 ct34), sl34⟩) (c34 : PySem.W.codeIn K cd34 "_law_block" = true) (k34 : PySem.W.keepIn K (.ref f34) = true)
    (a35 : PySem.W.nsIn K mainGlobals "_law_program" = some (some (.ref f35)))
    (l35 : K.lookup f35 = some ⟨oc35, od35, .func (PySem.W.fnOf "_law_program" "_law_program" (defArgs s_lawprogram) (defBody s_lawprogram) (defScope s_lawprogram) .none kV35 dc35 pm35 an35 cd35 ct35), sl35⟩) (c35 : PySem.W.codeIn K cd35 "_law_program" = true) (k35 : PySem.W.keepIn K (.ref f35) = true)
    (a36 : PySem.W.nsIn K mainGlobals "law" = some (some (.ref f36)))
    (l36 : K.lookup f36 = some ⟨oc36, od36, .func (PySem.W.fnOf "law" "law" (defArgs s_law) (defBody s_law) (defScope s_law) .none kV36 dc36 pm36 an36 cd36 ct36), sl36⟩) (c36 : PySem.W.codeIn K cd36 "law" = true) (k36 : PySem.W.keepIn K (.ref f36) = true)
    (aCReader : PySem.W.nsIn K mainGlobals "Reader" = some (some (.ref CReader))) (pgReader : PySem.W.plainGet K CReader Str.empty = true) (hdReader : PySem.W.hasDictIn K CReader = true) (poReader : PySem.W.plainOver K CReader = true) (saReader : PySem.W.findIn K (.ref CReader) "__setattr__" = some (some (.builtin "object.__setattr__"))) (mkReader : PySem.W.makesIn K CReader = true) (kcReader : PySem.W.keepIn K (.ref CReader) = true)
    (nalines : PySem.W.findIn K (.ref CReader) "lines" = some none)
    (nalinesread : PySem.W.findIn K (.ref CReader) "lines_read" = some none)
    (nastatementsread : PySem.W.findIn K (.ref CReader) "statements_read" = some none)
    (v0 : PySem.W.nsIn K mainGlobals "GREATEST_WORTH" = some (some (.int 1000000000 tk0)))
    (v1 : PySem.W.nsIn K mainGlobals "LONGEST_NAME" = some (some (.int 6 tk1)))
    (v2 : PySem.W.nsIn K mainGlobals "OWN_WORDS" = some (some (.ref tp2))) (u2 : K.lookup tp2 = some ⟨.type "tuple", td2, .seq #[.str "order" tw2_0, .str "timer" tw2_1, .str "child" tw2_2, .str "send" tw2_3, .str "drop" tw2_4, .str "wait" tw2_5, .str "hear" tw2_6, .str "if" tw2_7, .str "else" tw2_8, .str "done" tw2_9, .str "while" tw2_10, .str "end" tw2_11, .str "none" tw2_12, .str "arg" tw2_13, .str "now" tw2_14, .str "answer" tw2_15, .str "not" tw2_16] tn2, ts2⟩)
    (v3 : PySem.W.nsIn K mainGlobals "MOST_STATEMENTS" = some (some (.int 60 tk3)))
    (v4 : PySem.W.nsIn K mainGlobals "DEEPEST_BLOCK" = some (some (.int 5 tk4)))
    (v5 : PySem.W.nsIn K mainGlobals "DEEPEST_SAYING" = some (some (.int 6 tk5)))
    (v6 : PySem.W.nsIn K mainGlobals "MOST_WAITED" = some (some (.int 4 tk6)))
    (v7 : PySem.W.nsIn K mainGlobals "SIGNS" = some (some (.ref tp7))) (u7 : K.lookup tp7 = some ⟨.type "tuple", td7, .seq #[.str "+" tw7_0, .str "-" tw7_1, .str "*" tw7_2, .str "<" tw7_3, .str "=" tw7_4] tn7, ts7⟩)
    (zall : PySem.W.nsIn K mainGlobals "all" = some none)
    (zint : PySem.W.nsIn K mainGlobals "int" = some none)
    (zisinstance : PySem.W.nsIn K mainGlobals "isinstance" = some none)
    (zlen : PySem.W.nsIn K mainGlobals "len" = some none)
    (zmax : PySem.W.nsIn K mainGlobals "max" = some none)
    (zrange : PySem.W.nsIn K mainGlobals "range" = some none)
    (zstr : PySem.W.nsIn K mainGlobals "str" = some none)
    (ztuple : PySem.W.nsIn K mainGlobals "tuple" = some none)
    : ∃ fd : FuncData, (∀ (s : Shared) (v : Value), BindsTo s fd ⟨[v], []⟩ [("script", v)]) ∧ ∀ base : Heap, K.In base → base.Ns mainGlobals mg → FnOk l.prog w K mg base CX0 70 fa fd ["script"] (spLaw K) := by
  have e := hfa.symm.trans (PySem.W.mg_of X G a36)
  cases e
  have F0 := fun_mk (st := s_isnumberword) l0 c0 k0
  have B0 := F0.binds (ps := ["word", "least", "greatest"]) fun _ _ _ _ _ _ us hl => by obtain ⟨_, _, _, rfl⟩ := ln3 hl; rfl
  have F1 := fun_mk (st := s_isfigure) l1 c1 k1
  have B1 := F1.binds (ps := ["sign"]) fun _ _ _ _ _ _ us hl => by obtain ⟨_, rfl⟩ := ln1 hl; rfl
  have F2 := fun_mk (st := s_issmallletter) l2 c2 k2
  have B2 := F2.binds (ps := ["sign"]) fun _ _ _ _ _ _ us hl => by obtain ⟨_, rfl⟩ := ln1 hl; rfl
  have F3 := fun_mk (st := s_isname) l3 c3 k3
  have B3 := F3.binds (ps := ["thing"]) fun _ _ _ _ _ _ us hl => by obtain ⟨_, rfl⟩ := ln1 hl; rfl
  have F4 := fun_mk (st := s_readprogram) l4 c4 k4
  have B4 := F4.binds (ps := ["text"]) fun _ _ _ _ _ _ us hl => by obtain ⟨_, rfl⟩ := ln1 hl; rfl
  have F5 := fun_mk (st := s_Readerinit) l5 c5 k5
  have B5 := F5.binds (ps := ["self", "lines"]) fun _ _ _ _ _ _ us hl => by obtain ⟨_, _, rfl⟩ := ln2 hl; rfl
  have F6 := fun_mk (st := s_Readerahead) l6 c6 k6
  have B6 := F6.binds (ps := ["self"]) fun _ _ _ _ _ _ us hl => by obtain ⟨_, rfl⟩ := ln1 hl; rfl
  have F7 := fun_mk (st := s_Readerblock) l7 c7 k7
  have B7 := F7.binds (ps := ["self", "deep"]) fun _ _ _ _ _ _ us hl => by obtain ⟨_, _, rfl⟩ := ln2 hl; rfl
  have F8 := fun_mk (st := s_Readerstatement) l8 c8 k8
  have B8 := F8.binds (ps := ["self", "deep"]) fun _ _ _ _ _ _ us hl => by obtain ⟨_, _, rfl⟩ := ln2 hl; rfl
  have F9 := fun_mk (st := s_Readerwithblocks) l9 c9 k9
  have B9 := F9.binds (ps := ["self", "words", "deep"]) fun _ _ _ _ _ _ us hl => by obtain ⟨_, _, _, rfl⟩ := ln3 hl; rfl
  have F10 := fun_mk (st := s_Readersecondblock) l10 c10 k10
  have B10 := F10.binds (ps := ["self", "deep"]) fun _ _ _ _ _ _ us hl => by obtain ⟨_, _, rfl⟩ := ln2 hl; rfl
  have F11 := fun_mk (st := s_takeplain) l11 c11 k11
  have B11 := F11.binds (ps := ["words"]) fun _ _ _ _ _ _ us hl => by obtain ⟨_, rfl⟩ := ln1 hl; rfl
  have F12 := fun_mk (st := s_takegiven) l12 c12 k12
  have B12 := F12.binds (ps := ["name", "words"]) fun _ _ _ _ _ _ us hl => by obtain ⟨_, _, rfl⟩ := ln2 hl; rfl
  have F13 := fun_mk (st := s_takewaited) l13 c13 k13
  have B13 := F13.binds (ps := ["words"]) fun _ _ _ _ _ _ us hl => by obtain ⟨_, rfl⟩ := ln1 hl; rfl
  have F14 := fun_mk (st := s_takesaying) l14 c14 k14
  have B14 := F14.binds (ps := ["words", "deep"]) fun _ _ _ _ _ _ us hl => by obtain ⟨_, _, rfl⟩ := ln2 hl; rfl
  have F15 := fun_mk (st := s_takejoined) l15 c15 k15
  have B15 := F15.binds (ps := ["words", "deep"]) fun _ _ _ _ _ _ us hl => by obtain ⟨_, _, rfl⟩ := ln2 hl; rfl
  have F16 := fun_mk (st := s_takename) l16 c16 k16
  have B16 := F16.binds (ps := ["words"]) fun _ _ _ _ _ _ us hl => by obtain ⟨_, rfl⟩ := ln1 hl; rfl
  have F17 := fun_mk (st := s_takeword) l17 c17 k17
  have B17 := F17.binds (ps := ["words"]) fun _ _ _ _ _ _ us hl => by obtain ⟨_, rfl⟩ := ln1 hl; rfl
  have F18 := fun_mk (st := s_refusemore) l18 c18 k18
  have B18 := F18.binds (ps := ["words"]) fun _ _ _ _ _ _ us hl => by obtain ⟨_, rfl⟩ := ln1 hl; rfl
  have F19 := fun_mk (st := s_showprogram) l19 c19 k19
  have B19 := F19.binds (ps := ["program"]) fun _ _ _ _ _ _ us hl => by obtain ⟨_, rfl⟩ := ln1 hl; rfl
  have F20 := fun_mk (st := s_blocklines) l20 c20 k20
  have B20 := F20.binds (ps := ["block"]) fun _ _ _ _ _ _ us hl => by obtain ⟨_, rfl⟩ := ln1 hl; rfl
  have F21 := fun_mk (st := s_statementlines) l21 c21 k21
  have B21 := F21.binds (ps := ["statement"]) fun _ _ _ _ _ _ us hl => by obtain ⟨_, rfl⟩ := ln1 hl; rfl
  have F22 := fun_mk (st := s_elselines) l22 c22 k22
  have B22 := F22.binds (ps := ["block"]) fun _ _ _ _ _ _ us hl => by obtain ⟨_, rfl⟩ := ln1 hl; rfl
  have F23 := fun_mk (st := s_showhead) l23 c23 k23
  have B23 := F23.binds (ps := ["statement"]) fun _ _ _ _ _ _ us hl => by obtain ⟨_, rfl⟩ := ln1 hl; rfl
  have F24 := fun_mk (st := s_showplain) l24 c24 k24
  have B24 := F24.binds (ps := ["statement"]) fun _ _ _ _ _ _ us hl => by obtain ⟨_, rfl⟩ := ln1 hl; rfl
  have F25 := fun_mk (st := s_givenwords) l25 c25 k25
  have B25 := F25.binds (ps := ["statement"]) fun _ _ _ _ _ _ us hl => by obtain ⟨_, rfl⟩ := ln1 hl; rfl
  have F26 := fun_mk (st := s_showsaying) l26 c26 k26
  have B26 := F26.binds (ps := ["saying"]) fun _ _ _ _ _ _ us hl => by obtain ⟨_, rfl⟩ := ln1 hl; rfl
  have F27 := fun_mk (st := s_lawstream) l27 c27 k27
  have B27 := F27.binds (ps := ["cell"]) fun _ _ _ _ _ _ us hl => by obtain ⟨_, rfl⟩ := ln1 hl; rfl
  have F28 := fun_mk (st := s_lawtake) l28 c28 k28
  have B28 := F28.binds (ps := ["row", "many"]) fun _ _ _ _ _ _ us hl => by obtain ⟨_, _, rfl⟩ := ln2 hl; rfl
  have F29 := fun_mk (st := s_lawworth) l29 c29 k29
  have B29 := F29.binds (ps := ["row"]) fun _ _ _ _ _ _ us hl => by obtain ⟨_, rfl⟩ := ln1 hl; rfl
  have F30 := fun_mk (st := s_lawown) l30 c30 k30
  have B30 := F30.binds (ps := []) fun _ _ _ _ _ _ us hl => by obtain rfl := ln0 hl; rfl
  have F31 := fun_mk (st := s_lawname) l31 c31 k31
  have B31 := F31.binds (ps := ["row"]) fun _ _ _ _ _ _ us hl => by obtain ⟨_, rfl⟩ := ln1 hl; rfl
  have F32 := fun_mk (st := s_lawsaying) l32 c32 k32
  have B32 := F32.binds (ps := ["row", "deep", "names", "left"]) fun _ _ _ _ _ _ us hl => by obtain ⟨_, _, _, _, rfl⟩ := ln4 hl; rfl
  have F33 := fun_mk (st := s_lawline) l33 c33 k33
  have B33 := F33.binds (ps := ["row", "names", "deep"]) fun _ _ _ _ _ _ us hl => by obtain ⟨_, _, _, rfl⟩ := ln3 hl; rfl
  have F34 := fun_mk (st := s_lawblock) l34 c34 k34
  have B34 := F34.binds (ps := ["row", "names", "deep", "left", "many"]) fun _ _ _ _ _ _ us hl => by obtain ⟨_, _, _, _, _, rfl⟩ := ln5 hl; rfl
  have F35 := fun_mk (st := s_lawprogram) l35 c35 k35
  have B35 := F35.binds (ps := ["row"]) fun _ _ _ _ _ _ us hl => by obtain ⟨_, rfl⟩ := ln1 hl; rfl
  have F36 := fun_mk (st := s_law) l36 c36 k36
  have B36 := F36.binds (ps := ["script"]) fun _ _ _ _ _ _ us hl => by obtain ⟨_, rfl⟩ := ln1 hl; rfl
  have T : Tx K mg ⟨f0, _, f1, _, f2, _, f3, _, f4, _, f5, _, f6, _, f7, _, f8, _, f9, _, f10, _, f11, _, f12, _, f13, _, f14, _, f15, _, f16, _, f17, _, f18, _, f19, _, f20, _, f21, _, f22, _, f23, _, f24, _, f25, _, f26, _, f27, _, f28, _, f29, _, f30, _, f31, _, f32, _, f33, _, f34, _, f35, _, fa, _, tk0, tk1, tp2, tk3, tk4, tk5, tk6, tp7, CReader⟩ := ⟨F0, B0, (PySem.W.mg_of X G a0), F1, B1, (PySem.W.mg_of X G a1), F2, B2, (PySem.W.mg_of X G a2), F3, B3, (PySem.W.mg_of X G a3), F4, B4, (PySem.W.mg_of X G a4), F5, B5, ⟨a5, i5, k5⟩, F6, B6, ⟨a6, i6, k6⟩, F7, B7, ⟨a7, i7, k7⟩, F8, B8, ⟨a8, i8, k8⟩, F9, B9, ⟨a9, i9, k9⟩, F10, B10, ⟨a10, i10, k10⟩, F11, B11, (PySem.W.mg_of X G a11), F12, B12, (PySem.W.mg_of X G a12), F13, B13, (PySem.W.mg_of X G a13), F14, B14, (PySem.W.mg_of X G a14), F15, B15, (PySem.W.mg_of X G a15), F16, B16, (PySem.W.mg_of X G a16), F17, B17, (PySem.W.mg_of X G a17), F18, B18, (PySem.W.mg_of X G a18), F19, B19, (PySem.W.mg_of X G a19), F20, B20, (PySem.W.mg_of X G a20), F21, B21, (PySem.W.mg_of X G a21), F22, B22, (PySem.W.mg_of X G a22), F23, B23, (PySem.W.mg_of X G a23), F24, B24, (PySem.W.mg_of X G a24), F25, B25, (PySem.W.mg_of X G a25), F26, B26, (PySem.W.mg_of X G a26), F27, B27, (PySem.W.mg_of X G a27), F28, B28, (PySem.W.mg_of X G a28), F29, B29, (PySem.W.mg_of X G a29), F30, B30, (PySem.W.mg_of X G a30), F31, B31, (PySem.W.mg_of X G a31), F32, B32, (PySem.W.mg_of X G a32), F33, B33, (PySem.W.mg_of X G a33), F34, B34, (PySem.W.mg_of X G a34), F35, B35, (PySem.W.mg_of X G a35), F36, B36, (PySem.W.mg_of X G a36), ⟨pgReader, hdReader, poReader, saReader⟩, (PySem.W.mg_of X G aCReader), ⟨mkReader, a5, i5, kcReader⟩, nalines, nalinesread, nastatementsread, (PySem.W.mg_of X G v0), (PySem.W.mg_of X G v1), (PySem.W.mg_of X G v2), (fun H => .inr ⟨_, _, _, u2, rfl, rfl, (by show 17 ≤ sizeLine; decide), (.cons ⟨_, rfl⟩ (.cons ⟨_, rfl⟩ (.cons ⟨_, rfl⟩ (.cons ⟨_, rfl⟩ (.cons ⟨_, rfl⟩ (.cons ⟨_, rfl⟩ (.cons ⟨_, rfl⟩ (.cons ⟨_, rfl⟩ (.cons ⟨_, rfl⟩ (.cons ⟨_, rfl⟩ (.cons ⟨_, rfl⟩ (.cons ⟨_, rfl⟩ (.cons ⟨_, rfl⟩ (.cons ⟨_, rfl⟩ (.cons ⟨_, rfl⟩ (.cons ⟨_, rfl⟩ (.cons ⟨_, rfl⟩ .nil)))))))))))))))))⟩), (PySem.W.mg_of X G v3), (PySem.W.mg_of X G v4), (PySem.W.mg_of X G v5), (PySem.W.mg_of X G v6), (PySem.W.mg_of X G v7), (fun H => .inr ⟨_, _, _, u7, rfl, rfl, (by show 5 ≤ sizeLine; decide), (.cons ⟨_, rfl⟩ (.cons ⟨_, rfl⟩ (.cons ⟨_, rfl⟩ (.cons ⟨_, rfl⟩ (.cons ⟨_, rfl⟩ .nil)))))⟩), (PySem.W.mg_none_of X G zall), (PySem.W.mg_none_of X G zint), (PySem.W.mg_none_of X G zisinstance), (PySem.W.mg_none_of X G zlen), (PySem.W.mg_none_of X G zmax), (PySem.W.mg_none_of X G zrange), (PySem.W.mg_none_of X G zstr), (PySem.W.mg_none_of X G ztuple)⟩
  exact ⟨PySem.W.fnOf "law" "law" (defArgs s_law) (defBody s_law) (defScope s_law) .none kV36 dc36 pm36 an36 cd36 ct36, fun s v => .of_eq rfl, fun base _ _ => ok_law T⟩
set_option linter.all false in private theorem walk {l : PySem.W.OpenLaw} {q : Program} {loose : List Str} {XP : (Str → Option Value) → Heap → Prop} {YP : World → Heap → Prop} {d : DefRec} {K : Params → PySem.W.Frag} (hn : l.most = some 63) (hdf : d.params.defaults = [])
    (hY : ∀ (w : World) (h : Heap), YP w h → (K w.params).In h)
    (F : ∀ (w : World) (mg : Str → Option Value) (fa : Addr) (h : Heap), (K w.params).In h → h.Ns mainGlobals mg → mg d.name = some (.ref fa) →
      ∃ fd : FuncData, (∀ (s : Shared) (u : Value), BindsTo s fd ⟨[u], []⟩ [("script", u)]) ∧ ∀ base : Heap, (K w.params).In base → base.Ns mainGlobals mg → FnOk l.prog w (K w.params) mg base CX0 70 fa fd ["script"] (spLaw (K w.params))) :
    PySem.W.WalkO q loose XP YP l.row.toRowW d [] (fun f vs => PySem.call f vs) :=
  L2.walk_of (n := 63) (k := 70) (x := "script") (CX := fun _ => CX0) (sp := fun w => spLaw (K w.params)) hn (by decide) hdf ⟨rfl, by decide, by decide⟩ hY F (fun _ _ a ns hl _ hS => ⟨a, ns, rfl, hS, hl, fun _ => rfl⟩) fun _ _ _ _ _ z => z
end Own
open PySem PySem.W PyProof.Rows
set_option maxRecDepth 100000 in
set_option maxHeartbeats 0 in
theorem PySem.Challenge.cw_outlast_k11_whole_texts_put_together_holds : PySem.Challenge.rw_outlast_k11_whole_texts_put_together.Holds := by
  w_on; o_law; z_head; (case hw => w_witness2)
  k_fill
  refine Own.walkX_of (fun _ => rfl) ?_
  refine Own.walk (l := PySem.Challenge.rw_outlast_k11_whole_texts_put_together) rfl rfl (fun w h Y => PySem.W.kIn_of Y) ?F
  case F =>
    intro w mg fa h KX G hmg
    refine' Own.all_mk KX G hmg ?a0 ?l0 ?c0 ?k0 ?a1 ?l1 ?c1 ?k1 ?a2 ?l2 ?c2 ?k2 ?a3 ?l3 ?c3 ?k3 ?a4 ?l4 ?c4 ?k4 ?a5 ?i5 ?l5 ?c5 ?k5 ?a6 ?i6 ?l6 ?c6 ?k6 ?a7 ?i7 ?l7 ?c7 ?k7 ?a8 ?i8 ?l8 ?c8 ?k8 ?a9 ?i9 ?l9 ?c9 ?k9 ?a10 ?i10 ?l10 ?c10 ?k10 ?a11 ?l11 ?c11 ?k11 ?a12 ?l12 ?c12 ?k12 ?a13 ?l13 ?c13 ?k13 ?a14 ?l14 ?c14 ?k14 ?a15 ?l15 ?c15 ?k15 ?a16 ?l16 ?c16 ?k16 ?a17 ?l17 ?c17 ?k17 ?a18 ?l18 ?c18 ?k18 ?a19 ?l19 ?c19 ?k19 ?a20 ?l20 ?c20 ?k20 ?a21 ?l21 ?c21 ?k21 ?a22 ?l22 ?c22 ?k22 ?a23 ?l23 ?c23 ?k23 ?a24 ?l24 ?c24 ?k24 ?a25 ?l25 ?c25 ?k25 ?a26 ?l26 ?c26 ?k26 ?a27 ?l27 ?c27 ?k27 ?a28 ?l28 ?c28 ?k28 ?a29 ?l29 ?c29 ?k29 ?a30 ?l30 ?c30 ?k30 ?a31 ?l31 ?c31 ?k31 ?a32 ?l32 ?c32 ?k32 ?a33 ?l33 ?c33 ?k33 ?a34 ?l34 ?c34 ?k34 ?a35 ?l35 ?c35 ?k35 ?a36 ?l36 ?c36 ?k36 ?aCReader ?pgReader ?hdReader ?poReader ?saReader ?mkReader ?kcReader ?nalines ?nalinesread ?nastatementsread ?v0 ?v1 ?v2 ?u2 ?v3 ?v4 ?v5 ?v6 ?v7 ?u7 ?zall ?zint ?zisinstance ?zlen ?zmax ?zrange ?zstr ?ztuple
    (case aCReader => k_is)
    (case a0 => k_is)
    (case l0 => k_is)
    (case c0 => k_is)
    (case k0 => k_is)
    (case a1 => k_is)
    (case l1 => k_is)
    (case c1 => k_is)
    (case k1 => k_is)
    (case a2 => k_is)
    (case l2 => k_is)
    (case c2 => k_is)
    (case k2 => k_is)
    (case a3 => k_is)
    (case l3 => k_is)
    (case c3 => k_is)
    (case k3 => k_is)
    (case a4 => k_is)
    (case l4 => k_is)
    (case c4 => k_is)
    (case k4 => k_is)
    (case a5 => k_is)
    (case i5 => k_is)
    (case l5 => k_is)
    (case c5 => k_is)
    (case k5 => k_is)
    (case a6 => k_is)
    (case i6 => k_is)
    (case l6 => k_is)
    (case c6 => k_is)
    (case k6 => k_is)
    (case a7 => k_is)
    (case i7 => k_is)
    (case l7 => k_is)
    (case c7 => k_is)
    (case k7 => k_is)
    (case a8 => k_is)
    (case i8 => k_is)
    (case l8 => k_is)
    (case c8 => k_is)
    (case k8 => k_is)
    (case a9 => k_is)
    (case i9 => k_is)
    (case l9 => k_is)
    (case c9 => k_is)
    (case k9 => k_is)
    (case a10 => k_is)
    (case i10 => k_is)
    (case l10 => k_is)
    (case c10 => k_is)
    (case k10 => k_is)
    (case a11 => k_is)
    (case l11 => k_is)
    (case c11 => k_is)
    (case k11 => k_is)
    (case a12 => k_is)
    (case l12 => k_is)
    (case c12 => k_is)
    (case k12 => k_is)
    (case a13 => k_is)
    (case l13 => k_is)
    (case c13 => k_is)
    (case k13 => k_is)
    (case a14 => k_is)
    (case l14 => k_is)
    (case c14 => k_is)
    (case k14 => k_is)
    (case a15 => k_is)
    (case l15 => k_is)
    (case c15 => k_is)
    (case k15 => k_is)
    (case a16 => k_is)
    (case l16 => k_is)
    (case c16 => k_is)
    (case k16 => k_is)
    (case a17 => k_is)
    (case l17 => k_is)
    (case c17 => k_is)
    (case k17 => k_is)
    (case a18 => k_is)
    (case l18 => k_is)
    (case c18 => k_is)
    (case k18 => k_is)
    (case a19 => k_is)
    (case l19 => k_is)
    (case c19 => k_is)
    (case k19 => k_is)
    (case a20 => k_is)
    (case l20 => k_is)
    (case c20 => k_is)
    (case k20 => k_is)
    (case a21 => k_is)
    (case l21 => k_is)
    (case c21 => k_is)
    (case k21 => k_is)
    (case a22 => k_is)
    (case l22 => k_is)
    (case c22 => k_is)
    (case k22 => k_is)
    (case a23 => k_is)
    (case l23 => k_is)
    (case c23 => k_is)
    (case k23 => k_is)
    (case a24 => k_is)
    (case l24 => k_is)
    (case c24 => k_is)
    (case k24 => k_is)
    (case a25 => k_is)
    (case l25 => k_is)
    (case c25 => k_is)
    (case k25 => k_is)
    (case a26 => k_is)
    (case l26 => k_is)
    (case c26 => k_is)
    (case k26 => k_is)
    (case a27 => k_is)
    (case l27 => k_is)
    (case c27 => k_is)
    (case k27 => k_is)
    (case a28 => k_is)
    (case l28 => k_is)
    (case c28 => k_is)
    (case k28 => k_is)
    (case a29 => k_is)
    (case l29 => k_is)
    (case c29 => k_is)
    (case k29 => k_is)
    (case a30 => k_is)
    (case l30 => k_is)
    (case c30 => k_is)
    (case k30 => k_is)
    (case a31 => k_is)
    (case l31 => k_is)
    (case c31 => k_is)
    (case k31 => k_is)
    (case a32 => k_is)
    (case l32 => k_is)
    (case c32 => k_is)
    (case k32 => k_is)
    (case a33 => k_is)
    (case l33 => k_is)
    (case c33 => k_is)
    (case k33 => k_is)
    (case a34 => k_is)
    (case l34 => k_is)
    (case c34 => k_is)
    (case k34 => k_is)
    (case a35 => k_is)
    (case l35 => k_is)
    (case c35 => k_is)
    (case k35 => k_is)
    (case a36 => k_is)
    (case l36 => k_is)
    (case c36 => k_is)
    (case k36 => k_is)
    (case pgReader => k_is)
    (case hdReader => k_is)
    (case poReader => k_is)
    (case saReader => k_is)
    (case mkReader => k_is)
    (case kcReader => k_is)
    (case nalines => k_is)
    (case nalinesread => k_is)
    (case nastatementsread => k_is)
    (case v0 => k_is)
    (case v1 => k_is)
    (case v2 => k_is)
    (case u2 => k_is)
    (case v3 => k_is)
    (case v4 => k_is)
    (case v5 => k_is)
    (case v6 => k_is)
    (case v7 => k_is)
    (case u7 => k_is)
    (case zall => k_is)
    (case zint => k_is)
    (case zisinstance => k_is)
    (case zlen => k_is)
    (case zmax => k_is)
    (case zrange => k_is)
    (case zstr => k_is)
    (case ztuple => k_is)
